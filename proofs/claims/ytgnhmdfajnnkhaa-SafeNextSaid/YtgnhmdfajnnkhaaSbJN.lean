/- Joined texts: The landed package stage's Run. -/
import Derived.Test.YtgnhmdfajnnkhaaSbJM
/- The landed package stage's Run. -/
namespace Go.Proofs.Ytgnhmdfajnnkhaa
set_option maxRecDepth 100000
set_option linter.unusedVariables false
set_option linter.unusedSimpArgs false
open Go.RowKit

theorem info_rows0 : (Try.prog.info? 40).map (fun i => (i.zero, i.size, i.bytes)) = some (some (.slice none 0 0), 1, 24) := by kernel_rfl
set_option maxHeartbeats 8000000 in
theorem trun_no (A : Option Addr) (n c : Nat) (l : List Pl) (s : Sg) (x : Int) (w : World) (hl : Pls w A n c l) (hs : SmG s) (hno : runOk l s x = false) : Calls Try.prog 24 #[.slice A n c, sgV s, .int .i64 x] w (GivesGL (runG l s x) (runL l s x) w) := by
  obtain ⟨W0, hW0⟩ : ∃ W0, (w.alloc (.cells #[.int .i64 s.pl, .int .i64 s.st, .int .i64 s.nx, .int .i64 s.ph, .int .i64 s.t, .int .i64 s.hd, .int .i64 s.hl, .int .i64 s.ak, .int .i64 s.wt, .bool s.sp] 24)).alloc (.cells #[.int .i64 0, .int .i64 0, .int .i64 0, .int .i64 0, .int .i64 0, .int .i64 0, .int .i64 0, .int .i64 0, .int .i64 0, .bool false] 24) = W0 := ⟨_, rfl⟩
  have HBW := Lib.hid (show Below w.heap.size w W0 by rw [← hW0]; exact below_alloc2 w _ _)
  have HSB := Lib.hid (show W0.heap[w.heap.size]? = some (.cells #[.int .i64 s.pl, .int .i64 s.st, .int .i64 s.nx, .int .i64 s.ph, .int .i64 s.t, .int .i64 s.hd, .int .i64 s.hl, .int .i64 s.ak, .int .i64 s.wt, .bool s.sp] 24 (0, 0)) by rw [← hW0]; exact alloc2_old w _ _)
  have HRB := Lib.hid (show W0.heap[w.heap.size + 1]? = some (.cells #[.int .i64 0, .int .i64 0, .int .i64 0, .int .i64 0, .int .i64 0, .int .i64 0, .int .i64 0, .int .i64 0, .int .i64 0, .bool false] 24 (0, 0)) by rw [← hW0]; exact alloc2_new w _ _)
  have HLT := Lib.hid (show w.heap.size < W0.heap.size ∧ w.heap.size + 1 < W0.heap.size from ⟨(Array.getElem?_eq_some_iff.1 HSB.out).1, (Array.getElem?_eq_some_iff.1 HRB.out).1⟩)
  have HW := Lib.hid hW0
  have HPL := Lib.hid (show ∀ X, Below w.heap.size w X → Pls X A n c l from fun X hX => hl.below hX)
  have HMY := Lib.hid (fun X (hX : Below w.heap.size w X) => tmay_any A n c l s X (hl.below hX) hs)
  have hg : runG l s x = s := if_neg (by rw [hno]; simp)
  have hL : runL l s x = [] := if_neg (by rw [hno]; simp)
  rw [hg, hL]
  cases hm : mayS l s
  · rw [hm] at HMY
    unfold GivesGL sgV at *
    clear hl hm hW0 HPL hs hg hL hno
    go_enter Try.func24, Try.ntmps24
    go_wp2_with (first
      | (go_at_call 22
         try rw [HW.out]
         (with_reducible refine (HMY.out _ HBW.out).mono ?_)
         rintro e w1 ⟨rfl, hb1⟩
         have hS1 : Below w.heap.size w w1 := HBW.out.trans (hb1.mono HBW.out.size)
         have hs1 := (hb1.block w.heap.size HLT.out.1).trans HSB.out
         have hr1 := (hb1.block (w.heap.size + 1) HLT.out.2).trans HRB.out
         have HB1 := Lib.hid hS1
         obtain ⟨c0, c1, c2, c3, c4, c5, c6, c7, c8, c9⟩ := (show BoxG w1 w.heap.size s from hs1).cells
         clear hb1)
      | ((with_reducible refine wpList_store_part rfl 24 _ _ rfl (w.heap.size + 1) 0 (.agg #[.int .i64 s.pl, .int .i64 s.st, .int .i64 s.nx, .int .i64 s.ph, .int .i64 s.t, .int .i64 s.hd, .int .i64 s.hl, .int .i64 s.ak, .int .i64 s.wt, .bool s.sp]) #[.int .i64 s.pl, .int .i64 s.st, .int .i64 s.nx, .int .i64 s.ph, .int .i64 s.t, .int .i64 s.hd, .int .i64 s.hl, .int .i64 s.ak, .int .i64 s.wt, .bool s.sp] ?hxra ?hyra ?hvra 24 #[.int .i64 0, .int .i64 0, .int .i64 0, .int .i64 0, .int .i64 0, .int .i64 0, .int .i64 0, .int .i64 0, .int .i64 0, .bool false] #[.int .i64 s.pl, .int .i64 s.st, .int .i64 s.nx, .int .i64 s.ph, .int .i64 s.t, .int .i64 s.hd, .int .i64 s.hl, .int .i64 s.ak, .int .i64 s.wt, .bool s.sp] hr1 ?hira ?hlra ?hora ?hnra ?_); (case hxra => rfl); (case hyra => rfl); (case hvra => rfl); (case hira => exact info_sig); (case hlra => simp); (case hora => exact one_sig _ _ _ _ _ _ _ _ _ _); (case hnra => rfl)
         intro w9 hg9 hr9 hz9
         have HB9 := Lib.hid (show Below w.heap.size w w9 from Below.grows HB1.out hg9 HB1.out.size (by omega))
         clear hg9 hz9))
    refine bodyPost_ret (v := .tuple #[.agg #[.int .i64 s.pl, .int .i64 s.st, .int .i64 s.nx, .int .i64 s.ph, .int .i64 s.t, .int .i64 s.hd, .int .i64 s.hl, .int .i64 s.ak, .int .i64 s.wt, .bool s.sp], .slice none 0 0]) ?_ rfl ⟨none, 0, 0, [], rfl, ⟨Rws.nil 1 _, fun r hr => by cases hr⟩, rfl, HB9.out⟩
    exact results_blk_val Try.results24 _ _ _ (w.heap.size + 1) 24 #[.int .i64 s.pl, .int .i64 s.st, .int .i64 s.nx, .int .i64 s.ph, .int .i64 s.t, .int .i64 s.hd, .int .i64 s.hl, .int .i64 s.ak, .int .i64 s.wt, .bool s.sp] (0, 0) _ rfl hr9 Try.underlying24 rfl info_sig _ rfl
  · rw [hm] at HMY
    have hx : x < 0 ∨ ¬ x < 0 ∧ 2000 < x := by
      rw [runOk, hm, Bool.true_and] at hno
      have := of_decide_eq_false hno
      omega
    unfold GivesGL sgV at *
    clear hl hm hW0 HPL hs hg hL hno
    rcases hx with hx | ⟨hx, hx2⟩
    · go_enter Try.func24, Try.ntmps24
      go_wp2_with (first
        | (go_at_call 22
           try rw [HW.out]
           (with_reducible refine (HMY.out _ HBW.out).mono ?_)
           rintro e w1 ⟨rfl, hb1⟩
           have hS1 : Below w.heap.size w w1 := HBW.out.trans (hb1.mono HBW.out.size)
           have hs1 := (hb1.block w.heap.size HLT.out.1).trans HSB.out
           have hr1 := (hb1.block (w.heap.size + 1) HLT.out.2).trans HRB.out
           have HB1 := Lib.hid hS1
           obtain ⟨c0, c1, c2, c3, c4, c5, c6, c7, c8, c9⟩ := (show BoxG w1 w.heap.size s from hs1).cells
           clear hb1)
        | ((with_reducible refine wpList_store_part rfl 24 _ _ rfl (w.heap.size + 1) 0 (.agg #[.int .i64 s.pl, .int .i64 s.st, .int .i64 s.nx, .int .i64 s.ph, .int .i64 s.t, .int .i64 s.hd, .int .i64 s.hl, .int .i64 s.ak, .int .i64 s.wt, .bool s.sp]) #[.int .i64 s.pl, .int .i64 s.st, .int .i64 s.nx, .int .i64 s.ph, .int .i64 s.t, .int .i64 s.hd, .int .i64 s.hl, .int .i64 s.ak, .int .i64 s.wt, .bool s.sp] ?hxrb ?hyrb ?hvrb 24 #[.int .i64 0, .int .i64 0, .int .i64 0, .int .i64 0, .int .i64 0, .int .i64 0, .int .i64 0, .int .i64 0, .int .i64 0, .bool false] #[.int .i64 s.pl, .int .i64 s.st, .int .i64 s.nx, .int .i64 s.ph, .int .i64 s.t, .int .i64 s.hd, .int .i64 s.hl, .int .i64 s.ak, .int .i64 s.wt, .bool s.sp] hr1 ?hirb ?hlrb ?horb ?hnrb ?_); (case hxrb => rfl); (case hyrb => rfl); (case hvrb => rfl); (case hirb => exact info_sig); (case hlrb => simp); (case horb => exact one_sig _ _ _ _ _ _ _ _ _ _); (case hnrb => rfl)
           intro w9 hg9 hr9 hz9
           have HB9 := Lib.hid (show Below w.heap.size w w9 from Below.grows HB1.out hg9 HB1.out.size (by omega))
           clear hg9 hz9))
      refine bodyPost_ret (v := .tuple #[.agg #[.int .i64 s.pl, .int .i64 s.st, .int .i64 s.nx, .int .i64 s.ph, .int .i64 s.t, .int .i64 s.hd, .int .i64 s.hl, .int .i64 s.ak, .int .i64 s.wt, .bool s.sp], .slice none 0 0]) ?_ rfl ⟨none, 0, 0, [], rfl, ⟨Rws.nil 1 _, fun r hr => by cases hr⟩, rfl, HB9.out⟩
      exact results_blk_val Try.results24 _ _ _ (w.heap.size + 1) 24 #[.int .i64 s.pl, .int .i64 s.st, .int .i64 s.nx, .int .i64 s.ph, .int .i64 s.t, .int .i64 s.hd, .int .i64 s.hl, .int .i64 s.ak, .int .i64 s.wt, .bool s.sp] (0, 0) _ rfl hr9 Try.underlying24 rfl info_sig _ rfl
    · go_enter Try.func24, Try.ntmps24
      go_wp2_with (first
        | (go_at_call 22
           try rw [HW.out]
           (with_reducible refine (HMY.out _ HBW.out).mono ?_)
           rintro e w1 ⟨rfl, hb1⟩
           have hS1 : Below w.heap.size w w1 := HBW.out.trans (hb1.mono HBW.out.size)
           have hs1 := (hb1.block w.heap.size HLT.out.1).trans HSB.out
           have hr1 := (hb1.block (w.heap.size + 1) HLT.out.2).trans HRB.out
           have HB1 := Lib.hid hS1
           obtain ⟨c0, c1, c2, c3, c4, c5, c6, c7, c8, c9⟩ := (show BoxG w1 w.heap.size s from hs1).cells
           clear hb1)
        | ((with_reducible refine wpList_store_part rfl 24 _ _ rfl (w.heap.size + 1) 0 (.agg #[.int .i64 s.pl, .int .i64 s.st, .int .i64 s.nx, .int .i64 s.ph, .int .i64 s.t, .int .i64 s.hd, .int .i64 s.hl, .int .i64 s.ak, .int .i64 s.wt, .bool s.sp]) #[.int .i64 s.pl, .int .i64 s.st, .int .i64 s.nx, .int .i64 s.ph, .int .i64 s.t, .int .i64 s.hd, .int .i64 s.hl, .int .i64 s.ak, .int .i64 s.wt, .bool s.sp] ?hxrc ?hyrc ?hvrc 24 #[.int .i64 0, .int .i64 0, .int .i64 0, .int .i64 0, .int .i64 0, .int .i64 0, .int .i64 0, .int .i64 0, .int .i64 0, .bool false] #[.int .i64 s.pl, .int .i64 s.st, .int .i64 s.nx, .int .i64 s.ph, .int .i64 s.t, .int .i64 s.hd, .int .i64 s.hl, .int .i64 s.ak, .int .i64 s.wt, .bool s.sp] hr1 ?hirc ?hlrc ?horc ?hnrc ?_); (case hxrc => rfl); (case hyrc => rfl); (case hvrc => rfl); (case hirc => exact info_sig); (case hlrc => simp); (case horc => exact one_sig _ _ _ _ _ _ _ _ _ _); (case hnrc => rfl)
           intro w9 hg9 hr9 hz9
           have HB9 := Lib.hid (show Below w.heap.size w w9 from Below.grows HB1.out hg9 HB1.out.size (by omega))
           clear hg9 hz9))
      refine bodyPost_ret (v := .tuple #[.agg #[.int .i64 s.pl, .int .i64 s.st, .int .i64 s.nx, .int .i64 s.ph, .int .i64 s.t, .int .i64 s.hd, .int .i64 s.hl, .int .i64 s.ak, .int .i64 s.wt, .bool s.sp], .slice none 0 0]) ?_ rfl ⟨none, 0, 0, [], rfl, ⟨Rws.nil 1 _, fun r hr => by cases hr⟩, rfl, HB9.out⟩
      exact results_blk_val Try.results24 _ _ _ (w.heap.size + 1) 24 #[.int .i64 s.pl, .int .i64 s.st, .int .i64 s.nx, .int .i64 s.ph, .int .i64 s.t, .int .i64 s.hd, .int .i64 s.hl, .int .i64 s.ak, .int .i64 s.wt, .bool s.sp] (0, 0) _ rfl hr9 Try.underlying24 rfl info_sig _ rfl
set_option maxHeartbeats 16000000 in
theorem trun_yes (A : Option Addr) (n c : Nat) (l : List Pl) (s : Sg) (N : Nat) (w : World) (hl : Pls w A n c l) (hm : MayS l s) (hN : N ≤ 2000) : Calls Try.prog 24 #[.slice A n c, sgV s, .int .i64 (N : Int)] w (GivesGL (ticksS l s N) (rowsS l s N) w) := by
  have hs : SmG s := small_may hm
  obtain ⟨W0, hW0⟩ : ∃ W0, (w.alloc (.cells #[.int .i64 s.pl, .int .i64 s.st, .int .i64 s.nx, .int .i64 s.ph, .int .i64 s.t, .int .i64 s.hd, .int .i64 s.hl, .int .i64 s.ak, .int .i64 s.wt, .bool s.sp] 24)).alloc (.cells #[.int .i64 0, .int .i64 0, .int .i64 0, .int .i64 0, .int .i64 0, .int .i64 0, .int .i64 0, .int .i64 0, .int .i64 0, .bool false] 24) = W0 := ⟨_, rfl⟩
  have HBW := Lib.hid (show Below w.heap.size w W0 by rw [← hW0]; exact below_alloc2 w _ _)
  have HSB := Lib.hid (show W0.heap[w.heap.size]? = some (.cells #[.int .i64 s.pl, .int .i64 s.st, .int .i64 s.nx, .int .i64 s.ph, .int .i64 s.t, .int .i64 s.hd, .int .i64 s.hl, .int .i64 s.ak, .int .i64 s.wt, .bool s.sp] 24 (0, 0)) by rw [← hW0]; exact alloc2_old w _ _)
  have HRB := Lib.hid (show W0.heap[w.heap.size + 1]? = some (.cells #[.int .i64 0, .int .i64 0, .int .i64 0, .int .i64 0, .int .i64 0, .int .i64 0, .int .i64 0, .int .i64 0, .int .i64 0, .bool false] 24 (0, 0)) by rw [← hW0]; exact alloc2_new w _ _)
  have HLT := Lib.hid (show w.heap.size < W0.heap.size ∧ w.heap.size + 1 < W0.heap.size from ⟨(Array.getElem?_eq_some_iff.1 HSB.out).1, (Array.getElem?_eq_some_iff.1 HRB.out).1⟩)
  have HW := Lib.hid hW0
  have HPL := Lib.hid (show ∀ X, Below w.heap.size w X → Pls X A n c l from fun X hX => hl.below hX)
  have HMY := Lib.hid (fun X (hX : Below w.heap.size w X) => tmay_any A n c l s X (hl.below hX) hs)
  rw [mayS_iff.2 hm] at HMY
  have HTK := Lib.hid (fun (k : Nat) X (hX : Below w.heap.size w X) => ticked_any A n c l (ticksS l s k) X (hl.below hX) (may_ticks hm k))
  have HLP := Lib.hid (show ∀ (k : Nat) X, Below w.heap.size w X → Calls Try.prog 41 #[mcV A n c (ticksS l s k)] X (GivesO (lampsS l (ticksS l s k)) X) from fun k X hX => by
    have h := may_ticks hm k
    rw [lampsS, if_pos (mayS_iff.2 h)]
    exact shown_own A n c l (ticksS l s k) X (hl.below hX) h.p0 (by have := h.p1; rw [hl.len] at this; exact this))
  have HTK2 := Lib.hid (show ∀ (k : Nat) X, Below w.heap.size w X → Calls Try.prog 45 #[mcV A n c (ticksS l s k)] X (GivesM A n c (ticksS l s (k + 1)) X) from fun k X hX => HTK.out k X hX)
  clear HTK
  have HTK := HTK2
  clear HTK2
  have HT0 := Lib.hid (show ticksS l s 0 = s from rfl)
  have HRS := Lib.hid (fun k => (show rowsS l s (k + 1) = rowsS l s k ++ [lampsS l (ticksS l s (k + 1))] from rfl))
  have HRL := Lib.hid (rows_len l s)
  have hN0 : ¬ ((N : Int) < 0) := by omega
  have hN2 : ¬ (2000 < (N : Int)) := by omega
  obtain ⟨T, hT⟩ : ∃ T, ticksS l s = T := ⟨_, rfl⟩
  obtain ⟨R, hR⟩ : ∃ R, rowsS l s = R := ⟨_, rfl⟩
  have HR0 := Lib.hid (show R 0 = [] by rw [← hR]; rfl)
  rw [hT] at HTK HLP HT0 HRS ⊢
  rw [hR] at HRS HRL ⊢
  unfold sgV at *
  clear hT hR hm hl HPL hs hW0
  obtain ⟨pl, st, nx, ph, t, hd, hh, ak, wt, sp⟩ := s
  simp only at *
  go_enter Try.func24, Try.ntmps24
  go_wp2_with (go_at_call 22
               try rw [HW.out]
               (with_reducible refine (HMY.out _ HBW.out).mono ?_)
               rintro e w1 ⟨rfl, hb1⟩
               have hS1 : Below w.heap.size w w1 := HBW.out.trans (hb1.mono HBW.out.size)
               have hs1 := (hb1.block w.heap.size HLT.out.1).trans HSB.out
               have hr1 := (hb1.block (w.heap.size + 1) HLT.out.2).trans HRB.out
               have HB1 := Lib.hid hS1
               obtain ⟨c0, c1, c2, c3, c4, c5, c6, c7, c8, c9⟩ := (show BoxG w1 w.heap.size ⟨pl, st, nx, ph, t, hd, hh, ak, wt, sp⟩ from hs1).cells
               clear hb1)
  have HLR1 := Lib.hid (show w.heap.size + 2 ≤ w1.heap.size from (Array.getElem?_eq_some_iff.1 hr1).1)
  have HCC := Lib.hid (show ∀ X, Below w1.heap.size w1 X → CellsG X w.heap.size ⟨pl, st, nx, ph, t, hd, hh, ak, wt, sp⟩ from fun X hX => BoxG.cells (show BoxG X w.heap.size ⟨pl, st, nx, ph, t, hd, hh, ak, wt, sp⟩ from (hX.block w.heap.size (Array.getElem?_eq_some_iff.1 hs1).1).trans hs1))
  clear c0 c1 c2 c3 c4 c5 c6 c7 c8 c9
  have hSd : Below w1.heap.size w1 w1.drew := (Below.refl _ w1).drew
  refine wp_region_held_drew (S := fun X => Below w1.heap.size w1 X) (by kernel_rfl) hSd (fun hHeld => ?_)
  obtain ⟨y0, hY0⟩ : ∃ Y, w1.drew = Y := ⟨_, rfl⟩
  rw [hY0] at hSd hHeld ⊢
  clear hY0
  refine tk 0 (.slice A n c) hHeld (fun w => ?_) ?_
  · go_simp
  simp only [PT]
  refine tkS 1 (.agg #[.int .i64 pl, .int .i64 st, .int .i64 nx, .int .i64 ph, .int .i64 t, .int .i64 hd, .int .i64 hh, .int .i64 ak, .int .i64 wt, .bool sp]) hHeld (fun w hq => ?_) ?_
  · obtain ⟨e0, e1, e2, e3, e4, e5, e6, e7, e8, e9⟩ := HCC.out w hq
    go_simp
  simp only [PT]
  refine tk 2 (.agg #[.slice A n c, .int .i64 pl, .int .i64 st, .int .i64 nx, .int .i64 ph, .int .i64 t, .int .i64 hd, .int .i64 hh, .int .i64 ak, .int .i64 wt, .bool sp]) hHeld (fun w => ?_) ?_
  · go_simp
  simp only [PT]
  refine tk 3 (.int .i64 (N : Int)) hHeld (fun w => ?_) ?_
  · go_simp
  simp only [PT]
  refine two_steps 4 5 (by kernel_rfl) rfl rfl (fun Kq hKq => ?_) (fun Kq hKq => ?_)
  · refine step_make_r 34 40 (.slice none 0 0) 1 24 _ _ rfl Try.underlying34 info_rows0 (w.heap.size + 2) (N : Int) N rfl rfl rfl (by omega) (by unfold maxLen; omega) (by have := HLR1.out; have := hSd.size; omega) rfl ?_
    intro ob hV
    have hltA0 := (hV.size y0.heap.size rfl).2
    obtain ⟨y1, hYn⟩ : ∃ Y, y0.alloc ob = Y := ⟨_, rfl⟩
    rw [hYn] at hV hltA0 ⊢
    have hltA := hltA0
    clear hltA0
    have hbx : Below y0.heap.size y0 y1 := by rw [← hYn]; exact one_alloc _ _
    clear hYn
    have hS1 : Below w1.heap.size w1 y1 := hSd.trans (hbx.mono hSd.size)
    clear hbx
    refine hKq.out _ _ hS1 (fun hHeld0 => ?_)
    clear hKq Kq hHeld
    have hHeld := hHeld0
    clear hHeld0
    try simp only [PT]
    refine one_step 5 (by kernel_rfl) rfl (fun Kq hKq => ?_)
    go_simp
    obtain ⟨y2, hYn⟩ : ∃ Y, y1.alloc (.cells #[.slice none 0 0, .int .i64 0, .int .i64 0, .int .i64 0, .int .i64 0, .int .i64 0, .int .i64 0, .int .i64 0, .int .i64 0, .int .i64 0, .bool false] 66) = Y := ⟨_, rfl⟩
    have hX : y2.heap[y1.heap.size]? = some (.cells #[.slice none 0 0, .int .i64 0, .int .i64 0, .int .i64 0, .int .i64 0, .int .i64 0, .int .i64 0, .int .i64 0, .int .i64 0, .int .i64 0, .bool false] 66 (0, 0)) := by rw [← hYn]; exact heap_alloc_new y1 _
    have hbx : Below y1.heap.size y1 y2 := by rw [← hYn]; exact one_alloc _ _
    rw [hYn]
    clear hYn
    have hS2 : Below w1.heap.size w1 y2 := hS1.trans (hbx.mono hS1.size)
    have hV2 := hV.below hbx
    clear hV
    have hV := hV2
    clear hV2
    have hne : (Value.slice (some ⟨y0.heap.size, 0, none⟩) 0 N).ownBlock ≠ some y1.heap.size := fun e => by
      have e2 : some y0.heap.size = some y1.heap.size := e
      injection e2 with e2
      omega
    clear hbx
    refine hKq.out _ _ hS2 (fun hHeld0 => ?_)
    clear hKq Kq hHeld
    have hHeld := hHeld0
    clear hHeld0
    try simp only [PT]
    refine one_step 6 (by kernel_rfl) rfl (fun Kq hKq => ?_)
    refine step_store_part 66 _ _ rfl y1.heap.size 0 (.agg #[.slice A n c, .int .i64 pl, .int .i64 st, .int .i64 nx, .int .i64 ph, .int .i64 t, .int .i64 hd, .int .i64 hh, .int .i64 ak, .int .i64 wt, .bool sp]) #[.slice A n c, .int .i64 pl, .int .i64 st, .int .i64 nx, .int .i64 ph, .int .i64 t, .int .i64 hd, .int .i64 hh, .int .i64 ak, .int .i64 wt, .bool sp] rfl rfl rfl 66 #[.slice none 0 0, .int .i64 0, .int .i64 0, .int .i64 0, .int .i64 0, .int .i64 0, .int .i64 0, .int .i64 0, .int .i64 0, .int .i64 0, .bool false] #[.slice A n c, .int .i64 pl, .int .i64 st, .int .i64 nx, .int .i64 ph, .int .i64 t, .int .i64 hd, .int .i64 hh, .int .i64 ak, .int .i64 wt, .bool sp] hX info_mac (by simp) (one_mac _ _ _ _ _ _ _ _ _ _ _ _ _) rfl rfl ?_
    intro y3 hgk hX9 hzk
    have hS3 : Below w1.heap.size w1 y3 := Below.grows hS2 hgk hS2.size (by first | exact hSd.size | exact hS1.size)
    have hV9 := hV.far hgk (.inr hne)
    clear hgk hzk
    refine hKq.out _ _ hS3 (fun hHeld0 => ?_)
    clear hKq Kq hHeld
    have hHeld := hHeld0
    clear hHeld0
    try simp only [PT]
    refine tk 7 (.slice (some ⟨y0.heap.size, 0, none⟩) 0 N) hHeld (fun w => ?_) ?_
    · go_simp
    simp only [PT]
    refine wpAnyH_done (by kernel_rfl) ?_ _
    clear hHeld
    have HS0 := Lib.hid (show Below w.heap.size w y3 from HB1.out.trans (hS3.mono HB1.out.size))
    have HZ0 := Lib.hid ((hS3.block (w.heap.size + 1) (Array.getElem?_eq_some_iff.1 hr1).1).trans hr1)
    have HV0 := Lib.hid hV9
    have HN0 := Lib.hid hne
    have hbmlt : y1.heap.size < y3.heap.size := (Array.getElem?_eq_some_iff.1 hX9).1
    have hbmge : w.heap.size + 2 ≤ y1.heap.size := by have := HLR1.out; have := hSd.size; try have := hS1.size; omega
    have HX0 := Lib.hid (show BoxM y3 y1.heap.size A n c ⟨pl, st, nx, ph, t, hd, hh, ak, wt, sp⟩ from hX9)
    obtain ⟨bm, hbm⟩ : ∃ b : Nat, y1.heap.size = b := ⟨_, rfl⟩
    obtain ⟨B0, hB0⟩ : ∃ b : Nat, y3.heap.size = b := ⟨_, rfl⟩
    have HG0 := Lib.hid (show B0 ≤ y3.heap.size by omega)
    rw [hbm] at hbmlt hbmge HX0 HN0 ⊢
    rw [hB0] at hbmlt
    have HLB := Lib.hid hbmlt
    have HLR := Lib.hid (show w.heap.size + 1 < B0 by omega)
    have HBW2 := Lib.hid (show w.heap.size ≤ bm by omega)
    have HBG2 := Lib.hid hbmge
    clear hltA hX hV hV9 hX9 hne hbm hB0 hS3 hSd hbmlt hs1 hr1
    go_wp2
    go_loopw [9, 29] (fun v i wr => ∃ (j : Nat) (rows : List Rw), j ≤ N ∧ i = .int .i64 j ∧ OwnR 40 1 wr (w.heap.size + 2) v (rows.map Rw.row) ∧ v.ownBlock ≠ some bm ∧ RowsAt wr B0 v rows ∧ rows.map Rw.l = R j ∧ BoxM wr bm A n c (T j) ∧ wr.heap[w.heap.size + 1]? = some (.cells #[.int .i64 0, .int .i64 0, .int .i64 0, .int .i64 0, .int .i64 0, .int .i64 0, .int .i64 0, .int .i64 0, .int .i64 0, .bool false] 24 (0, 0)) ∧ Below w.heap.size w wr ∧ B0 ≤ wr.heap.size) (fun _ i _ => N - (intOf i).toNat)
    case atStart => exact ⟨0, [], by omega, rfl, HV0.out, HN0.out, RowsAt.nil _ _ _, by rw [HR0.out]; rfl, by rw [HT0.out]; exact HX0.out, HZ0.out, HS0.out, HG0.out⟩
    case round =>
      obtain ⟨j, rows, hj, rfl, hown, hne, hat, hrw, hbx, hr0, hbw, hgb⟩ := hrel
      have HBW := Lib.hid hbw
      have HAT := Lib.hid hat
      have HRW := Lib.hid hrw
      have HO := Lib.hid hown
      have HNE := Lib.hid hne
      have HGB := Lib.hid hgb
      have hlen : rows.length = j := by have := congrArg List.length hrw; rw [List.length_map, HRL.out] at this; exact this
      obtain ⟨cm, c0, c1, c2, c3, c4, c5, c6, c7, c8, c9⟩ := hbx.cells
      by_cases hlt : j < N
      · have hlt2 : (j : Int) < N := by omega
        have HTJ := Lib.hid (HTK.out j)
        have HLJ := Lib.hid (HLP.out (j + 1))
        have HRJ := Lib.hid (HRS.out j)
        obtain ⟨u, hu⟩ : ∃ u, T j = u := ⟨_, rfl⟩
        obtain ⟨g, hg⟩ : ∃ g, T (j + 1) = g := ⟨_, rfl⟩
        rw [hu] at c0 c1 c2 c3 c4 c5 c6 c7 c8 c9 hbx HTJ
        rw [hg] at HTJ HLJ
        have HG := Lib.hid hg
        have hbu := hbx
        unfold BoxM at hbu
        unfold mcV at HTJ HLJ
        unfold GivesM mcV at HTJ
        clear hown hat hrw hbw hu hg hne hgb
        go_wp2_with (first
          | (go_at_call 45
             (with_reducible refine (HTJ.out _ HBW.out).mono ?_)
             rintro e w3 ⟨rfl, hb3⟩
             have hs3 := (hb3.block bm (Array.getElem?_eq_some_iff.1 hbu).1).trans hbu
             have hr3 := (hb3.block (w.heap.size + 1) (Array.getElem?_eq_some_iff.1 hr0).1).trans hr0
             have HO3 := Lib.hid (HO.out.below hb3)
             have HA3 := Lib.hid (HAT.out.below hb3)
             have HB3L := Lib.hid (Nat.le_trans HGB.out hb3.size)
             have HB3 := Lib.hid (show Below w.heap.size w w3 from HBW.out.trans (hb3.mono HBW.out.size))
             clear hb3)
          | ((with_reducible refine wpList_store_part rfl 66 _ _ rfl bm 0 (.agg #[.slice A n c, .int .i64 g.pl, .int .i64 g.st, .int .i64 g.nx, .int .i64 g.ph, .int .i64 g.t, .int .i64 g.hd, .int .i64 g.hl, .int .i64 g.ak, .int .i64 g.wt, .bool g.sp]) #[.slice A n c, .int .i64 g.pl, .int .i64 g.st, .int .i64 g.nx, .int .i64 g.ph, .int .i64 g.t, .int .i64 g.hd, .int .i64 g.hl, .int .i64 g.ak, .int .i64 g.wt, .bool g.sp] ?hxa ?hya ?hva 66 #[.slice A n c, .int .i64 u.pl, .int .i64 u.st, .int .i64 u.nx, .int .i64 u.ph, .int .i64 u.t, .int .i64 u.hd, .int .i64 u.hl, .int .i64 u.ak, .int .i64 u.wt, .bool u.sp] #[.slice A n c, .int .i64 g.pl, .int .i64 g.st, .int .i64 g.nx, .int .i64 g.ph, .int .i64 g.t, .int .i64 g.hd, .int .i64 g.hl, .int .i64 g.ak, .int .i64 g.wt, .bool g.sp] hs3 ?hia ?hla ?hoa ?hna ?_); (case hxa => rfl); (case hya => rfl); (case hva => rfl); (case hia => exact info_mac); (case hla => simp); (case hoa => exact one_mac _ _ _ _ _ _ _ _ _ _ _ _ _); (case hna => rfl)
             intro w4 hg4 hs4 hz4
             have hr4 := (other_block hg4 (show w.heap.size + 1 ≠ bm by have := HBG2.out; omega) (Array.getElem?_eq_some_iff.1 hr3).1).trans hr3
             have HO4 := Lib.hid (HO3.out.far hg4 (.inr HNE.out))
             have HA4 := Lib.hid (HA3.out.low hg4 HLB.out hz4)
             have hlb4 : B0 ≤ w4.heap.size := by rw [hz4]; exact HB3L.out
             have HB4L := Lib.hid hlb4
             have HB4 := Lib.hid (show Below w.heap.size w w4 from Below.grows HB3.out hg4 HB3.out.size HBW2.out)
             obtain ⟨dm, d0, d1, d2, d3, d4, d5, d6, d7, d8, d9⟩ := (show BoxM w4 bm A n c g from hs4).cells
             clear hg4 hz4 hlb4)
          | (go_at_call 41
             (with_reducible refine (HLJ.out _ HB4.out).mono ?_)
             rintro e w5 ⟨A1, n1, e1, rfl, ho5, hb5⟩
             have hs5 := (hb5.block bm (Array.getElem?_eq_some_iff.1 hs4).1).trans hs4
             have hr5 := (hb5.block (w.heap.size + 1) (Array.getElem?_eq_some_iff.1 hr4).1).trans hr4
             obtain ⟨hi5, hat5⟩ := own_at ho5
             have HI5 := Lib.hid hi5
             have HT5 := Lib.hid (show ∀ b o, A1 = some ⟨b, o, none⟩ → B0 ≤ b ∧ b < w5.heap.size ∧ Value.ownBlock _ ≠ some b from fun b o e => ⟨Nat.le_trans HB4L.out (hat5 b o e).1, (hat5 b o e).2, fun e2 => by have := (HO4.out.size b e2).2; have := (hat5 b o e).1; omega⟩)
             have HO5 := Lib.hid (HO4.out.below hb5)
             have HA5 := Lib.hid (HA4.out.below hb5)
             have HB5L := Lib.hid (Nat.le_trans HB4L.out hb5.size)
             have HB5 := Lib.hid (show Below w.heap.size w w5 from HB4.out.trans (hb5.mono HB4.out.size))
             have hlt5 := (Array.getElem?_eq_some_iff.1 hs5).1
             have hlr5 := (Array.getElem?_eq_some_iff.1 hr5).1
             have HLT5 := Lib.hid hlt5
             have HLR5 := Lib.hid hlr5
             clear hb5 hi5 hat5 ho5 hlt5 hlr5)
          | (at_builtin
             have hbb := one_alloc w5 (.cells #[.slice A1 n1 e1] 40)
             refine wpList_append_r_at rfl 34 40 1 24 _ _ rfl Try.underlying34 info_rows (by omega) (w.heap.size + 2) _ _ rfl (HO5.out.below hbb) (some ⟨w5.heap.size, 0, none⟩) 1 1 [[.slice A1 n1 e1]] rfl (one_rws 1 40 w5 [.slice A1 n1 e1] rfl (fun v hv => by rw [List.mem_singleton.1 hv]; rfl)) (by rw [List.length_map]; omega) (by rw [List.length_map]; omega) (by have := HLR5.out; simp; omega) ?_
             intro v6 w6 hown6 hg6 hv6
             have HA6 := Lib.hid ((((HA5.out.below hbb).snoc (r := ⟨A1, n1, e1, _⟩) (HI5.out.below hbb) (fun b o e => ⟨(HT5.out b o e).1, Nat.lt_of_lt_of_le (HT5.out b o e).2.1 hbb.size, (HT5.out b o e).2.2⟩))).turn hg6 hv6 hg6.size)
             have hs6 := (hg6.block bm (Nat.lt_of_lt_of_le HLT5.out hbb.size) HNE.out.symm).trans ((hbb.block bm HLT5.out).trans hs5)
             have hr6 := (other_blocks hg6 (HO5.out.below hbb) (show w.heap.size + 1 < w.heap.size + 2 by omega) (Nat.lt_of_lt_of_le HLR5.out hbb.size)).trans ((hbb.block (w.heap.size + 1) HLR5.out).trans hr5)
             have HN6 := Lib.hid (show v6.ownBlock ≠ some bm from fun e => by
               rcases hv6 with hv | hv
               · exact HNE.out (hv.symm.trans e)
               · rw [hv] at e
                 injection e with e
                 have := HLT5.out
                 have := hbb.size
                 omega)
             have HB6L := Lib.hid (Nat.le_trans HB5L.out (Nat.le_trans hbb.size hg6.size))
             have HB6 := Lib.hid ((HB5.out.trans (hbb.mono HB5.out.size)).grown hg6 (Nat.le_trans HB5.out.size hbb.size) (fun k hk => by have := ((HO5.out.below hbb).size k hk).1; omega))
             clear hbb hg6 hv6))
        go_roundw
        case rel => exact ⟨j + 1, rows ++ [⟨A1, n1, e1, _⟩], by omega, by go_num, by rw [List.map_append]; exact hown6, HN6.out, HA6.out, by rw [List.map_append, HRW.out, HRJ.out, HG.out]; rfl, by rw [HG.out]; exact hs6, hr6, HB6.out, HB6L.out⟩
        case measure => simp [intOf]; omega
      · obtain rfl : j = N := by omega
        have hge : ¬ ((j : Int) < j) := by omega
        obtain ⟨u, hu⟩ : ∃ u, T j = u := ⟨_, rfl⟩
        rw [hu] at c0 c1 c2 c3 c4 c5 c6 c7 c8 c9 hbx
        have HU := Lib.hid hu
        obtain ⟨A2, n2, d2, rfl, hrs⟩ := hown.rws
        clear hown hat hrw hu hne hgb
        have hr1 := hr0
        have HB1 := Lib.hid hbw
        clear hbw hbx
        go_wp2_with (first
          | ((with_reducible refine wpList_store_part rfl 24 _ _ rfl (w.heap.size + 1) 0 (.agg #[.int .i64 u.pl, .int .i64 u.st, .int .i64 u.nx, .int .i64 u.ph, .int .i64 u.t, .int .i64 u.hd, .int .i64 u.hl, .int .i64 u.ak, .int .i64 u.wt, .bool u.sp]) #[.int .i64 u.pl, .int .i64 u.st, .int .i64 u.nx, .int .i64 u.ph, .int .i64 u.t, .int .i64 u.hd, .int .i64 u.hl, .int .i64 u.ak, .int .i64 u.wt, .bool u.sp] ?hx9a ?hy9a ?hv9a 24 #[.int .i64 0, .int .i64 0, .int .i64 0, .int .i64 0, .int .i64 0, .int .i64 0, .int .i64 0, .int .i64 0, .int .i64 0, .bool false] #[.int .i64 u.pl, .int .i64 u.st, .int .i64 u.nx, .int .i64 u.ph, .int .i64 u.t, .int .i64 u.hd, .int .i64 u.hl, .int .i64 u.ak, .int .i64 u.wt, .bool u.sp] hr1 ?hi9a ?hl9a ?ho9a ?hn9a ?_); (case hx9a => rfl); (case hy9a => rfl); (case hv9a => rfl); (case hi9a => exact info_sig); (case hl9a => simp); (case ho9a => exact one_sig _ _ _ _ _ _ _ _ _ _); (case hn9a => rfl)
             intro w9 hg9 hr9 hz9
             have HB9 := Lib.hid (show Below w.heap.size w w9 from Below.grows HB1.out hg9 HB1.out.size (by omega))
             have HR9 := Lib.hid (hrs.grown hg9 (fun b o e => ne_some (by have := (HO.out.size b (by rw [e]; rfl)).1; omega)))
             have HA9 := Lib.hid (HAT.out.low hg9 HLR.out hz9)
             clear hg9))
        refine bodyPost_ret (v := .tuple #[.agg #[.int .i64 u.pl, .int .i64 u.st, .int .i64 u.nx, .int .i64 u.ph, .int .i64 u.t, .int .i64 u.hd, .int .i64 u.hl, .int .i64 u.ak, .int .i64 u.wt, .bool u.sp], .slice A2 n2 d2]) ?_ rfl ⟨A2, n2, d2, rows, by rw [HU.out]; rfl, ⟨HR9.out, HA9.out.its⟩, HRW.out, HB9.out⟩
        exact results_blk_val Try.results24 _ _ _ (w.heap.size + 1) 24 #[.int .i64 u.pl, .int .i64 u.st, .int .i64 u.nx, .int .i64 u.ph, .int .i64 u.t, .int .i64 u.hd, .int .i64 u.hl, .int .i64 u.ak, .int .i64 u.wt, .bool u.sp] (0, 0) _ rfl hr9 Try.underlying24 rfl info_sig _ rfl
  · go_simp
    obtain ⟨y1, hYn⟩ : ∃ Y, y0.alloc (.cells #[.slice none 0 0, .int .i64 0, .int .i64 0, .int .i64 0, .int .i64 0, .int .i64 0, .int .i64 0, .int .i64 0, .int .i64 0, .int .i64 0, .bool false] 66) = Y := ⟨_, rfl⟩
    have hX : y1.heap[y0.heap.size]? = some (.cells #[.slice none 0 0, .int .i64 0, .int .i64 0, .int .i64 0, .int .i64 0, .int .i64 0, .int .i64 0, .int .i64 0, .int .i64 0, .int .i64 0, .bool false] 66 (0, 0)) := by rw [← hYn]; exact heap_alloc_new y0 _
    have hbx : Below y0.heap.size y0 y1 := by rw [← hYn]; exact one_alloc _ _
    rw [hYn]
    clear hYn
    have hS1 : Below w1.heap.size w1 y1 := hSd.trans (hbx.mono hSd.size)
    clear hbx
    refine hKq.out _ _ hS1 (fun hHeld0 => ?_)
    clear hKq Kq hHeld
    have hHeld := hHeld0
    clear hHeld0
    try simp only [PT]
    refine two_steps 4 6 (by kernel_rfl) rfl rfl (fun Kq hKq => ?_) (fun Kq hKq => ?_)
    · refine step_make_r 34 40 (.slice none 0 0) 1 24 _ _ rfl Try.underlying34 info_rows0 (w.heap.size + 2) (N : Int) N rfl rfl rfl (by omega) (by unfold maxLen; omega) (by have := HLR1.out; have := hS1.size; omega) rfl ?_
      intro ob hV
      obtain ⟨y2, hYn⟩ : ∃ Y, y1.alloc ob = Y := ⟨_, rfl⟩
      rw [hYn] at hV ⊢
      have hbx : Below y1.heap.size y1 y2 := by rw [← hYn]; exact one_alloc _ _
      clear hYn
      have hS2 : Below w1.heap.size w1 y2 := hS1.trans (hbx.mono hS1.size)
      have hX2 := (hbx.block y0.heap.size (Array.getElem?_eq_some_iff.1 hX).1).trans hX
      have hne : (Value.slice (some ⟨y1.heap.size, 0, none⟩) 0 N).ownBlock ≠ some y0.heap.size := fun e => by
        have e2 : some y1.heap.size = some y0.heap.size := e
        injection e2 with e2
        have := (Array.getElem?_eq_some_iff.1 hX).1
        omega
      clear hX hbx
      have hX := hX2
      clear hX2
      refine hKq.out _ _ hS2 (fun hHeld0 => ?_)
      clear hKq Kq hHeld
      have hHeld := hHeld0
      clear hHeld0
      try simp only [PT]
      refine one_step 6 (by kernel_rfl) rfl (fun Kq hKq => ?_)
      refine step_store_part 66 _ _ rfl y0.heap.size 0 (.agg #[.slice A n c, .int .i64 pl, .int .i64 st, .int .i64 nx, .int .i64 ph, .int .i64 t, .int .i64 hd, .int .i64 hh, .int .i64 ak, .int .i64 wt, .bool sp]) #[.slice A n c, .int .i64 pl, .int .i64 st, .int .i64 nx, .int .i64 ph, .int .i64 t, .int .i64 hd, .int .i64 hh, .int .i64 ak, .int .i64 wt, .bool sp] rfl rfl rfl 66 #[.slice none 0 0, .int .i64 0, .int .i64 0, .int .i64 0, .int .i64 0, .int .i64 0, .int .i64 0, .int .i64 0, .int .i64 0, .int .i64 0, .bool false] #[.slice A n c, .int .i64 pl, .int .i64 st, .int .i64 nx, .int .i64 ph, .int .i64 t, .int .i64 hd, .int .i64 hh, .int .i64 ak, .int .i64 wt, .bool sp] hX info_mac (by simp) (one_mac _ _ _ _ _ _ _ _ _ _ _ _ _) rfl rfl ?_
      intro y3 hgk hX9 hzk
      have hS3 : Below w1.heap.size w1 y3 := Below.grows hS2 hgk hS2.size (by first | exact hSd.size | exact hS1.size)
      have hV9 := hV.far hgk (.inr hne)
      clear hgk hzk
      refine hKq.out _ _ hS3 (fun hHeld0 => ?_)
      clear hKq Kq hHeld
      have hHeld := hHeld0
      clear hHeld0
      try simp only [PT]
      refine tk 7 (.slice (some ⟨y1.heap.size, 0, none⟩) 0 N) hHeld (fun w => ?_) ?_
      · go_simp
      simp only [PT]
      refine wpAnyH_done (by kernel_rfl) ?_ _
      clear hHeld
      have HS0 := Lib.hid (show Below w.heap.size w y3 from HB1.out.trans (hS3.mono HB1.out.size))
      have HZ0 := Lib.hid ((hS3.block (w.heap.size + 1) (Array.getElem?_eq_some_iff.1 hr1).1).trans hr1)
      have HV0 := Lib.hid hV9
      have HN0 := Lib.hid hne
      have hbmlt : y0.heap.size < y3.heap.size := (Array.getElem?_eq_some_iff.1 hX9).1
      have hbmge : w.heap.size + 2 ≤ y0.heap.size := by have := HLR1.out; have := hSd.size; try have := hS1.size; omega
      have HX0 := Lib.hid (show BoxM y3 y0.heap.size A n c ⟨pl, st, nx, ph, t, hd, hh, ak, wt, sp⟩ from hX9)
      obtain ⟨bm, hbm⟩ : ∃ b : Nat, y0.heap.size = b := ⟨_, rfl⟩
      obtain ⟨B0, hB0⟩ : ∃ b : Nat, y3.heap.size = b := ⟨_, rfl⟩
      have HG0 := Lib.hid (show B0 ≤ y3.heap.size by omega)
      rw [hbm] at hbmlt hbmge HX0 HN0 ⊢
      rw [hB0] at hbmlt
      have HLB := Lib.hid hbmlt
      have HLR := Lib.hid (show w.heap.size + 1 < B0 by omega)
      have HBW2 := Lib.hid (show w.heap.size ≤ bm by omega)
      have HBG2 := Lib.hid hbmge
      clear hX hV hV9 hX9 hne hbm hB0 hS3 hSd hbmlt hs1 hr1
      go_wp2
      go_loopw [9, 29] (fun v i wr => ∃ (j : Nat) (rows : List Rw), j ≤ N ∧ i = .int .i64 j ∧ OwnR 40 1 wr (w.heap.size + 2) v (rows.map Rw.row) ∧ v.ownBlock ≠ some bm ∧ RowsAt wr B0 v rows ∧ rows.map Rw.l = R j ∧ BoxM wr bm A n c (T j) ∧ wr.heap[w.heap.size + 1]? = some (.cells #[.int .i64 0, .int .i64 0, .int .i64 0, .int .i64 0, .int .i64 0, .int .i64 0, .int .i64 0, .int .i64 0, .int .i64 0, .bool false] 24 (0, 0)) ∧ Below w.heap.size w wr ∧ B0 ≤ wr.heap.size) (fun _ i _ => N - (intOf i).toNat)
      case atStart => exact ⟨0, [], by omega, rfl, HV0.out, HN0.out, RowsAt.nil _ _ _, by rw [HR0.out]; rfl, by rw [HT0.out]; exact HX0.out, HZ0.out, HS0.out, HG0.out⟩
      case round =>
        obtain ⟨j, rows, hj, rfl, hown, hne, hat, hrw, hbx, hr0, hbw, hgb⟩ := hrel
        have HBW := Lib.hid hbw
        have HAT := Lib.hid hat
        have HRW := Lib.hid hrw
        have HO := Lib.hid hown
        have HNE := Lib.hid hne
        have HGB := Lib.hid hgb
        have hlen : rows.length = j := by have := congrArg List.length hrw; rw [List.length_map, HRL.out] at this; exact this
        obtain ⟨cm, c0, c1, c2, c3, c4, c5, c6, c7, c8, c9⟩ := hbx.cells
        by_cases hlt : j < N
        · have hlt2 : (j : Int) < N := by omega
          have HTJ := Lib.hid (HTK.out j)
          have HLJ := Lib.hid (HLP.out (j + 1))
          have HRJ := Lib.hid (HRS.out j)
          obtain ⟨u, hu⟩ : ∃ u, T j = u := ⟨_, rfl⟩
          obtain ⟨g, hg⟩ : ∃ g, T (j + 1) = g := ⟨_, rfl⟩
          rw [hu] at c0 c1 c2 c3 c4 c5 c6 c7 c8 c9 hbx HTJ
          rw [hg] at HTJ HLJ
          have HG := Lib.hid hg
          have hbu := hbx
          unfold BoxM at hbu
          unfold mcV at HTJ HLJ
          unfold GivesM mcV at HTJ
          clear hown hat hrw hbw hu hg hne hgb
          go_wp2_with (first
            | (go_at_call 45
               (with_reducible refine (HTJ.out _ HBW.out).mono ?_)
               rintro e w3 ⟨rfl, hb3⟩
               have hs3 := (hb3.block bm (Array.getElem?_eq_some_iff.1 hbu).1).trans hbu
               have hr3 := (hb3.block (w.heap.size + 1) (Array.getElem?_eq_some_iff.1 hr0).1).trans hr0
               have HO3 := Lib.hid (HO.out.below hb3)
               have HA3 := Lib.hid (HAT.out.below hb3)
               have HB3L := Lib.hid (Nat.le_trans HGB.out hb3.size)
               have HB3 := Lib.hid (show Below w.heap.size w w3 from HBW.out.trans (hb3.mono HBW.out.size))
               clear hb3)
            | ((with_reducible refine wpList_store_part rfl 66 _ _ rfl bm 0 (.agg #[.slice A n c, .int .i64 g.pl, .int .i64 g.st, .int .i64 g.nx, .int .i64 g.ph, .int .i64 g.t, .int .i64 g.hd, .int .i64 g.hl, .int .i64 g.ak, .int .i64 g.wt, .bool g.sp]) #[.slice A n c, .int .i64 g.pl, .int .i64 g.st, .int .i64 g.nx, .int .i64 g.ph, .int .i64 g.t, .int .i64 g.hd, .int .i64 g.hl, .int .i64 g.ak, .int .i64 g.wt, .bool g.sp] ?hxb ?hyb ?hvb 66 #[.slice A n c, .int .i64 u.pl, .int .i64 u.st, .int .i64 u.nx, .int .i64 u.ph, .int .i64 u.t, .int .i64 u.hd, .int .i64 u.hl, .int .i64 u.ak, .int .i64 u.wt, .bool u.sp] #[.slice A n c, .int .i64 g.pl, .int .i64 g.st, .int .i64 g.nx, .int .i64 g.ph, .int .i64 g.t, .int .i64 g.hd, .int .i64 g.hl, .int .i64 g.ak, .int .i64 g.wt, .bool g.sp] hs3 ?hib ?hlb ?hob ?hnb ?_); (case hxb => rfl); (case hyb => rfl); (case hvb => rfl); (case hib => exact info_mac); (case hlb => simp); (case hob => exact one_mac _ _ _ _ _ _ _ _ _ _ _ _ _); (case hnb => rfl)
               intro w4 hg4 hs4 hz4
               have hr4 := (other_block hg4 (show w.heap.size + 1 ≠ bm by have := HBG2.out; omega) (Array.getElem?_eq_some_iff.1 hr3).1).trans hr3
               have HO4 := Lib.hid (HO3.out.far hg4 (.inr HNE.out))
               have HA4 := Lib.hid (HA3.out.low hg4 HLB.out hz4)
               have hlb4 : B0 ≤ w4.heap.size := by rw [hz4]; exact HB3L.out
               have HB4L := Lib.hid hlb4
               have HB4 := Lib.hid (show Below w.heap.size w w4 from Below.grows HB3.out hg4 HB3.out.size HBW2.out)
               obtain ⟨dm, d0, d1, d2, d3, d4, d5, d6, d7, d8, d9⟩ := (show BoxM w4 bm A n c g from hs4).cells
               clear hg4 hz4 hlb4)
            | (go_at_call 41
               (with_reducible refine (HLJ.out _ HB4.out).mono ?_)
               rintro e w5 ⟨A1, n1, e1, rfl, ho5, hb5⟩
               have hs5 := (hb5.block bm (Array.getElem?_eq_some_iff.1 hs4).1).trans hs4
               have hr5 := (hb5.block (w.heap.size + 1) (Array.getElem?_eq_some_iff.1 hr4).1).trans hr4
               obtain ⟨hi5, hat5⟩ := own_at ho5
               have HI5 := Lib.hid hi5
               have HT5 := Lib.hid (show ∀ b o, A1 = some ⟨b, o, none⟩ → B0 ≤ b ∧ b < w5.heap.size ∧ Value.ownBlock _ ≠ some b from fun b o e => ⟨Nat.le_trans HB4L.out (hat5 b o e).1, (hat5 b o e).2, fun e2 => by have := (HO4.out.size b e2).2; have := (hat5 b o e).1; omega⟩)
               have HO5 := Lib.hid (HO4.out.below hb5)
               have HA5 := Lib.hid (HA4.out.below hb5)
               have HB5L := Lib.hid (Nat.le_trans HB4L.out hb5.size)
               have HB5 := Lib.hid (show Below w.heap.size w w5 from HB4.out.trans (hb5.mono HB4.out.size))
               have hlt5 := (Array.getElem?_eq_some_iff.1 hs5).1
               have hlr5 := (Array.getElem?_eq_some_iff.1 hr5).1
               have HLT5 := Lib.hid hlt5
               have HLR5 := Lib.hid hlr5
               clear hb5 hi5 hat5 ho5 hlt5 hlr5)
            | (at_builtin
               have hbb := one_alloc w5 (.cells #[.slice A1 n1 e1] 40)
               refine wpList_append_r_at rfl 34 40 1 24 _ _ rfl Try.underlying34 info_rows (by omega) (w.heap.size + 2) _ _ rfl (HO5.out.below hbb) (some ⟨w5.heap.size, 0, none⟩) 1 1 [[.slice A1 n1 e1]] rfl (one_rws 1 40 w5 [.slice A1 n1 e1] rfl (fun v hv => by rw [List.mem_singleton.1 hv]; rfl)) (by rw [List.length_map]; omega) (by rw [List.length_map]; omega) (by have := HLR5.out; simp; omega) ?_
               intro v6 w6 hown6 hg6 hv6
               have HA6 := Lib.hid ((((HA5.out.below hbb).snoc (r := ⟨A1, n1, e1, _⟩) (HI5.out.below hbb) (fun b o e => ⟨(HT5.out b o e).1, Nat.lt_of_lt_of_le (HT5.out b o e).2.1 hbb.size, (HT5.out b o e).2.2⟩))).turn hg6 hv6 hg6.size)
               have hs6 := (hg6.block bm (Nat.lt_of_lt_of_le HLT5.out hbb.size) HNE.out.symm).trans ((hbb.block bm HLT5.out).trans hs5)
               have hr6 := (other_blocks hg6 (HO5.out.below hbb) (show w.heap.size + 1 < w.heap.size + 2 by omega) (Nat.lt_of_lt_of_le HLR5.out hbb.size)).trans ((hbb.block (w.heap.size + 1) HLR5.out).trans hr5)
               have HN6 := Lib.hid (show v6.ownBlock ≠ some bm from fun e => by
                 rcases hv6 with hv | hv
                 · exact HNE.out (hv.symm.trans e)
                 · rw [hv] at e
                   injection e with e
                   have := HLT5.out
                   have := hbb.size
                   omega)
               have HB6L := Lib.hid (Nat.le_trans HB5L.out (Nat.le_trans hbb.size hg6.size))
               have HB6 := Lib.hid ((HB5.out.trans (hbb.mono HB5.out.size)).grown hg6 (Nat.le_trans HB5.out.size hbb.size) (fun k hk => by have := ((HO5.out.below hbb).size k hk).1; omega))
               clear hbb hg6 hv6))
          go_roundw
          case rel => exact ⟨j + 1, rows ++ [⟨A1, n1, e1, _⟩], by omega, by go_num, by rw [List.map_append]; exact hown6, HN6.out, HA6.out, by rw [List.map_append, HRW.out, HRJ.out, HG.out]; rfl, by rw [HG.out]; exact hs6, hr6, HB6.out, HB6L.out⟩
          case measure => simp [intOf]; omega
        · obtain rfl : j = N := by omega
          have hge : ¬ ((j : Int) < j) := by omega
          obtain ⟨u, hu⟩ : ∃ u, T j = u := ⟨_, rfl⟩
          rw [hu] at c0 c1 c2 c3 c4 c5 c6 c7 c8 c9 hbx
          have HU := Lib.hid hu
          obtain ⟨A2, n2, d2, rfl, hrs⟩ := hown.rws
          clear hown hat hrw hu hne hgb
          have hr1 := hr0
          have HB1 := Lib.hid hbw
          clear hbw hbx
          go_wp2_with (first
            | ((with_reducible refine wpList_store_part rfl 24 _ _ rfl (w.heap.size + 1) 0 (.agg #[.int .i64 u.pl, .int .i64 u.st, .int .i64 u.nx, .int .i64 u.ph, .int .i64 u.t, .int .i64 u.hd, .int .i64 u.hl, .int .i64 u.ak, .int .i64 u.wt, .bool u.sp]) #[.int .i64 u.pl, .int .i64 u.st, .int .i64 u.nx, .int .i64 u.ph, .int .i64 u.t, .int .i64 u.hd, .int .i64 u.hl, .int .i64 u.ak, .int .i64 u.wt, .bool u.sp] ?hx9b ?hy9b ?hv9b 24 #[.int .i64 0, .int .i64 0, .int .i64 0, .int .i64 0, .int .i64 0, .int .i64 0, .int .i64 0, .int .i64 0, .int .i64 0, .bool false] #[.int .i64 u.pl, .int .i64 u.st, .int .i64 u.nx, .int .i64 u.ph, .int .i64 u.t, .int .i64 u.hd, .int .i64 u.hl, .int .i64 u.ak, .int .i64 u.wt, .bool u.sp] hr1 ?hi9b ?hl9b ?ho9b ?hn9b ?_); (case hx9b => rfl); (case hy9b => rfl); (case hv9b => rfl); (case hi9b => exact info_sig); (case hl9b => simp); (case ho9b => exact one_sig _ _ _ _ _ _ _ _ _ _); (case hn9b => rfl)
               intro w9 hg9 hr9 hz9
               have HB9 := Lib.hid (show Below w.heap.size w w9 from Below.grows HB1.out hg9 HB1.out.size (by omega))
               have HR9 := Lib.hid (hrs.grown hg9 (fun b o e => ne_some (by have := (HO.out.size b (by rw [e]; rfl)).1; omega)))
               have HA9 := Lib.hid (HAT.out.low hg9 HLR.out hz9)
               clear hg9))
          refine bodyPost_ret (v := .tuple #[.agg #[.int .i64 u.pl, .int .i64 u.st, .int .i64 u.nx, .int .i64 u.ph, .int .i64 u.t, .int .i64 u.hd, .int .i64 u.hl, .int .i64 u.ak, .int .i64 u.wt, .bool u.sp], .slice A2 n2 d2]) ?_ rfl ⟨A2, n2, d2, rows, by rw [HU.out]; rfl, ⟨HR9.out, HA9.out.its⟩, HRW.out, HB9.out⟩
          exact results_blk_val Try.results24 _ _ _ (w.heap.size + 1) 24 #[.int .i64 u.pl, .int .i64 u.st, .int .i64 u.nx, .int .i64 u.ph, .int .i64 u.t, .int .i64 u.hd, .int .i64 u.hl, .int .i64 u.ak, .int .i64 u.wt, .bool u.sp] (0, 0) _ rfl hr9 Try.underlying24 rfl info_sig _ rfl
    · refine step_store_part 66 _ _ rfl y0.heap.size 0 (.agg #[.slice A n c, .int .i64 pl, .int .i64 st, .int .i64 nx, .int .i64 ph, .int .i64 t, .int .i64 hd, .int .i64 hh, .int .i64 ak, .int .i64 wt, .bool sp]) #[.slice A n c, .int .i64 pl, .int .i64 st, .int .i64 nx, .int .i64 ph, .int .i64 t, .int .i64 hd, .int .i64 hh, .int .i64 ak, .int .i64 wt, .bool sp] rfl rfl rfl 66 #[.slice none 0 0, .int .i64 0, .int .i64 0, .int .i64 0, .int .i64 0, .int .i64 0, .int .i64 0, .int .i64 0, .int .i64 0, .int .i64 0, .bool false] #[.slice A n c, .int .i64 pl, .int .i64 st, .int .i64 nx, .int .i64 ph, .int .i64 t, .int .i64 hd, .int .i64 hh, .int .i64 ak, .int .i64 wt, .bool sp] hX info_mac (by simp) (one_mac _ _ _ _ _ _ _ _ _ _ _ _ _) rfl rfl ?_
      intro y2 hgk hX9 hzk
      have hS2 : Below w1.heap.size w1 y2 := Below.grows hS1 hgk hS1.size (by first | exact hSd.size | exact hS1.size)
      clear hX
      clear hgk hzk
      refine hKq.out _ _ hS2 (fun hHeld0 => ?_)
      clear hKq Kq hHeld
      have hHeld := hHeld0
      clear hHeld0
      try simp only [PT]
      refine one_step 4 (by kernel_rfl) rfl (fun Kq hKq => ?_)
      refine step_make_r 34 40 (.slice none 0 0) 1 24 _ _ rfl Try.underlying34 info_rows0 (w.heap.size + 2) (N : Int) N rfl rfl rfl (by omega) (by unfold maxLen; omega) (by have := HLR1.out; have := hS2.size; omega) rfl ?_
      intro ob hV
      obtain ⟨y3, hYn⟩ : ∃ Y, y2.alloc ob = Y := ⟨_, rfl⟩
      rw [hYn] at hV ⊢
      have hbx : Below y2.heap.size y2 y3 := by rw [← hYn]; exact one_alloc _ _
      clear hYn
      have hS3 : Below w1.heap.size w1 y3 := hS2.trans (hbx.mono hS2.size)
      have hX2 := (hbx.block y0.heap.size (Array.getElem?_eq_some_iff.1 hX9).1).trans hX9
      have hne : (Value.slice (some ⟨y2.heap.size, 0, none⟩) 0 N).ownBlock ≠ some y0.heap.size := fun e => by
        have e2 : some y2.heap.size = some y0.heap.size := e
        injection e2 with e2
        have := (Array.getElem?_eq_some_iff.1 hX9).1
        omega
      clear hX9 hbx
      have hX9 := hX2
      have hV9 := hV
      have hX := 0
      clear hX2
      refine hKq.out _ _ hS3 (fun hHeld0 => ?_)
      clear hKq Kq hHeld
      have hHeld := hHeld0
      clear hHeld0
      try simp only [PT]
      refine tk 7 (.slice (some ⟨y2.heap.size, 0, none⟩) 0 N) hHeld (fun w => ?_) ?_
      · go_simp
      simp only [PT]
      refine wpAnyH_done (by kernel_rfl) ?_ _
      clear hHeld
      have HS0 := Lib.hid (show Below w.heap.size w y3 from HB1.out.trans (hS3.mono HB1.out.size))
      have HZ0 := Lib.hid ((hS3.block (w.heap.size + 1) (Array.getElem?_eq_some_iff.1 hr1).1).trans hr1)
      have HV0 := Lib.hid hV9
      have HN0 := Lib.hid hne
      have hbmlt : y0.heap.size < y3.heap.size := (Array.getElem?_eq_some_iff.1 hX9).1
      have hbmge : w.heap.size + 2 ≤ y0.heap.size := by have := HLR1.out; have := hSd.size; try have := hS1.size; omega
      have HX0 := Lib.hid (show BoxM y3 y0.heap.size A n c ⟨pl, st, nx, ph, t, hd, hh, ak, wt, sp⟩ from hX9)
      obtain ⟨bm, hbm⟩ : ∃ b : Nat, y0.heap.size = b := ⟨_, rfl⟩
      obtain ⟨B0, hB0⟩ : ∃ b : Nat, y3.heap.size = b := ⟨_, rfl⟩
      have HG0 := Lib.hid (show B0 ≤ y3.heap.size by omega)
      rw [hbm] at hbmlt hbmge HX0 HN0 ⊢
      rw [hB0] at hbmlt
      have HLB := Lib.hid hbmlt
      have HLR := Lib.hid (show w.heap.size + 1 < B0 by omega)
      have HBW2 := Lib.hid (show w.heap.size ≤ bm by omega)
      have HBG2 := Lib.hid hbmge
      clear hX hV hV9 hX9 hne hbm hB0 hS3 hSd hbmlt hs1 hr1
      go_wp2
      go_loopw [9, 29] (fun v i wr => ∃ (j : Nat) (rows : List Rw), j ≤ N ∧ i = .int .i64 j ∧ OwnR 40 1 wr (w.heap.size + 2) v (rows.map Rw.row) ∧ v.ownBlock ≠ some bm ∧ RowsAt wr B0 v rows ∧ rows.map Rw.l = R j ∧ BoxM wr bm A n c (T j) ∧ wr.heap[w.heap.size + 1]? = some (.cells #[.int .i64 0, .int .i64 0, .int .i64 0, .int .i64 0, .int .i64 0, .int .i64 0, .int .i64 0, .int .i64 0, .int .i64 0, .bool false] 24 (0, 0)) ∧ Below w.heap.size w wr ∧ B0 ≤ wr.heap.size) (fun _ i _ => N - (intOf i).toNat)
      case atStart => exact ⟨0, [], by omega, rfl, HV0.out, HN0.out, RowsAt.nil _ _ _, by rw [HR0.out]; rfl, by rw [HT0.out]; exact HX0.out, HZ0.out, HS0.out, HG0.out⟩
      case round =>
        obtain ⟨j, rows, hj, rfl, hown, hne, hat, hrw, hbx, hr0, hbw, hgb⟩ := hrel
        have HBW := Lib.hid hbw
        have HAT := Lib.hid hat
        have HRW := Lib.hid hrw
        have HO := Lib.hid hown
        have HNE := Lib.hid hne
        have HGB := Lib.hid hgb
        have hlen : rows.length = j := by have := congrArg List.length hrw; rw [List.length_map, HRL.out] at this; exact this
        obtain ⟨cm, c0, c1, c2, c3, c4, c5, c6, c7, c8, c9⟩ := hbx.cells
        by_cases hlt : j < N
        · have hlt2 : (j : Int) < N := by omega
          have HTJ := Lib.hid (HTK.out j)
          have HLJ := Lib.hid (HLP.out (j + 1))
          have HRJ := Lib.hid (HRS.out j)
          obtain ⟨u, hu⟩ : ∃ u, T j = u := ⟨_, rfl⟩
          obtain ⟨g, hg⟩ : ∃ g, T (j + 1) = g := ⟨_, rfl⟩
          rw [hu] at c0 c1 c2 c3 c4 c5 c6 c7 c8 c9 hbx HTJ
          rw [hg] at HTJ HLJ
          have HG := Lib.hid hg
          have hbu := hbx
          unfold BoxM at hbu
          unfold mcV at HTJ HLJ
          unfold GivesM mcV at HTJ
          clear hown hat hrw hbw hu hg hne hgb
          go_wp2_with (first
            | (go_at_call 45
               (with_reducible refine (HTJ.out _ HBW.out).mono ?_)
               rintro e w3 ⟨rfl, hb3⟩
               have hs3 := (hb3.block bm (Array.getElem?_eq_some_iff.1 hbu).1).trans hbu
               have hr3 := (hb3.block (w.heap.size + 1) (Array.getElem?_eq_some_iff.1 hr0).1).trans hr0
               have HO3 := Lib.hid (HO.out.below hb3)
               have HA3 := Lib.hid (HAT.out.below hb3)
               have HB3L := Lib.hid (Nat.le_trans HGB.out hb3.size)
               have HB3 := Lib.hid (show Below w.heap.size w w3 from HBW.out.trans (hb3.mono HBW.out.size))
               clear hb3)
            | ((with_reducible refine wpList_store_part rfl 66 _ _ rfl bm 0 (.agg #[.slice A n c, .int .i64 g.pl, .int .i64 g.st, .int .i64 g.nx, .int .i64 g.ph, .int .i64 g.t, .int .i64 g.hd, .int .i64 g.hl, .int .i64 g.ak, .int .i64 g.wt, .bool g.sp]) #[.slice A n c, .int .i64 g.pl, .int .i64 g.st, .int .i64 g.nx, .int .i64 g.ph, .int .i64 g.t, .int .i64 g.hd, .int .i64 g.hl, .int .i64 g.ak, .int .i64 g.wt, .bool g.sp] ?hxc ?hyc ?hvc 66 #[.slice A n c, .int .i64 u.pl, .int .i64 u.st, .int .i64 u.nx, .int .i64 u.ph, .int .i64 u.t, .int .i64 u.hd, .int .i64 u.hl, .int .i64 u.ak, .int .i64 u.wt, .bool u.sp] #[.slice A n c, .int .i64 g.pl, .int .i64 g.st, .int .i64 g.nx, .int .i64 g.ph, .int .i64 g.t, .int .i64 g.hd, .int .i64 g.hl, .int .i64 g.ak, .int .i64 g.wt, .bool g.sp] hs3 ?hic ?hlc ?hoc ?hnc ?_); (case hxc => rfl); (case hyc => rfl); (case hvc => rfl); (case hic => exact info_mac); (case hlc => simp); (case hoc => exact one_mac _ _ _ _ _ _ _ _ _ _ _ _ _); (case hnc => rfl)
               intro w4 hg4 hs4 hz4
               have hr4 := (other_block hg4 (show w.heap.size + 1 ≠ bm by have := HBG2.out; omega) (Array.getElem?_eq_some_iff.1 hr3).1).trans hr3
               have HO4 := Lib.hid (HO3.out.far hg4 (.inr HNE.out))
               have HA4 := Lib.hid (HA3.out.low hg4 HLB.out hz4)
               have hlb4 : B0 ≤ w4.heap.size := by rw [hz4]; exact HB3L.out
               have HB4L := Lib.hid hlb4
               have HB4 := Lib.hid (show Below w.heap.size w w4 from Below.grows HB3.out hg4 HB3.out.size HBW2.out)
               obtain ⟨dm, d0, d1, d2, d3, d4, d5, d6, d7, d8, d9⟩ := (show BoxM w4 bm A n c g from hs4).cells
               clear hg4 hz4 hlb4)
            | (go_at_call 41
               (with_reducible refine (HLJ.out _ HB4.out).mono ?_)
               rintro e w5 ⟨A1, n1, e1, rfl, ho5, hb5⟩
               have hs5 := (hb5.block bm (Array.getElem?_eq_some_iff.1 hs4).1).trans hs4
               have hr5 := (hb5.block (w.heap.size + 1) (Array.getElem?_eq_some_iff.1 hr4).1).trans hr4
               obtain ⟨hi5, hat5⟩ := own_at ho5
               have HI5 := Lib.hid hi5
               have HT5 := Lib.hid (show ∀ b o, A1 = some ⟨b, o, none⟩ → B0 ≤ b ∧ b < w5.heap.size ∧ Value.ownBlock _ ≠ some b from fun b o e => ⟨Nat.le_trans HB4L.out (hat5 b o e).1, (hat5 b o e).2, fun e2 => by have := (HO4.out.size b e2).2; have := (hat5 b o e).1; omega⟩)
               have HO5 := Lib.hid (HO4.out.below hb5)
               have HA5 := Lib.hid (HA4.out.below hb5)
               have HB5L := Lib.hid (Nat.le_trans HB4L.out hb5.size)
               have HB5 := Lib.hid (show Below w.heap.size w w5 from HB4.out.trans (hb5.mono HB4.out.size))
               have hlt5 := (Array.getElem?_eq_some_iff.1 hs5).1
               have hlr5 := (Array.getElem?_eq_some_iff.1 hr5).1
               have HLT5 := Lib.hid hlt5
               have HLR5 := Lib.hid hlr5
               clear hb5 hi5 hat5 ho5 hlt5 hlr5)
            | (at_builtin
               have hbb := one_alloc w5 (.cells #[.slice A1 n1 e1] 40)
               refine wpList_append_r_at rfl 34 40 1 24 _ _ rfl Try.underlying34 info_rows (by omega) (w.heap.size + 2) _ _ rfl (HO5.out.below hbb) (some ⟨w5.heap.size, 0, none⟩) 1 1 [[.slice A1 n1 e1]] rfl (one_rws 1 40 w5 [.slice A1 n1 e1] rfl (fun v hv => by rw [List.mem_singleton.1 hv]; rfl)) (by rw [List.length_map]; omega) (by rw [List.length_map]; omega) (by have := HLR5.out; simp; omega) ?_
               intro v6 w6 hown6 hg6 hv6
               have HA6 := Lib.hid ((((HA5.out.below hbb).snoc (r := ⟨A1, n1, e1, _⟩) (HI5.out.below hbb) (fun b o e => ⟨(HT5.out b o e).1, Nat.lt_of_lt_of_le (HT5.out b o e).2.1 hbb.size, (HT5.out b o e).2.2⟩))).turn hg6 hv6 hg6.size)
               have hs6 := (hg6.block bm (Nat.lt_of_lt_of_le HLT5.out hbb.size) HNE.out.symm).trans ((hbb.block bm HLT5.out).trans hs5)
               have hr6 := (other_blocks hg6 (HO5.out.below hbb) (show w.heap.size + 1 < w.heap.size + 2 by omega) (Nat.lt_of_lt_of_le HLR5.out hbb.size)).trans ((hbb.block (w.heap.size + 1) HLR5.out).trans hr5)
               have HN6 := Lib.hid (show v6.ownBlock ≠ some bm from fun e => by
                 rcases hv6 with hv | hv
                 · exact HNE.out (hv.symm.trans e)
                 · rw [hv] at e
                   injection e with e
                   have := HLT5.out
                   have := hbb.size
                   omega)
               have HB6L := Lib.hid (Nat.le_trans HB5L.out (Nat.le_trans hbb.size hg6.size))
               have HB6 := Lib.hid ((HB5.out.trans (hbb.mono HB5.out.size)).grown hg6 (Nat.le_trans HB5.out.size hbb.size) (fun k hk => by have := ((HO5.out.below hbb).size k hk).1; omega))
               clear hbb hg6 hv6))
          go_roundw
          case rel => exact ⟨j + 1, rows ++ [⟨A1, n1, e1, _⟩], by omega, by go_num, by rw [List.map_append]; exact hown6, HN6.out, HA6.out, by rw [List.map_append, HRW.out, HRJ.out, HG.out]; rfl, by rw [HG.out]; exact hs6, hr6, HB6.out, HB6L.out⟩
          case measure => simp [intOf]; omega
        · obtain rfl : j = N := by omega
          have hge : ¬ ((j : Int) < j) := by omega
          obtain ⟨u, hu⟩ : ∃ u, T j = u := ⟨_, rfl⟩
          rw [hu] at c0 c1 c2 c3 c4 c5 c6 c7 c8 c9 hbx
          have HU := Lib.hid hu
          obtain ⟨A2, n2, d2, rfl, hrs⟩ := hown.rws
          clear hown hat hrw hu hne hgb
          have hr1 := hr0
          have HB1 := Lib.hid hbw
          clear hbw hbx
          go_wp2_with (first
            | ((with_reducible refine wpList_store_part rfl 24 _ _ rfl (w.heap.size + 1) 0 (.agg #[.int .i64 u.pl, .int .i64 u.st, .int .i64 u.nx, .int .i64 u.ph, .int .i64 u.t, .int .i64 u.hd, .int .i64 u.hl, .int .i64 u.ak, .int .i64 u.wt, .bool u.sp]) #[.int .i64 u.pl, .int .i64 u.st, .int .i64 u.nx, .int .i64 u.ph, .int .i64 u.t, .int .i64 u.hd, .int .i64 u.hl, .int .i64 u.ak, .int .i64 u.wt, .bool u.sp] ?hx9c ?hy9c ?hv9c 24 #[.int .i64 0, .int .i64 0, .int .i64 0, .int .i64 0, .int .i64 0, .int .i64 0, .int .i64 0, .int .i64 0, .int .i64 0, .bool false] #[.int .i64 u.pl, .int .i64 u.st, .int .i64 u.nx, .int .i64 u.ph, .int .i64 u.t, .int .i64 u.hd, .int .i64 u.hl, .int .i64 u.ak, .int .i64 u.wt, .bool u.sp] hr1 ?hi9c ?hl9c ?ho9c ?hn9c ?_); (case hx9c => rfl); (case hy9c => rfl); (case hv9c => rfl); (case hi9c => exact info_sig); (case hl9c => simp); (case ho9c => exact one_sig _ _ _ _ _ _ _ _ _ _); (case hn9c => rfl)
               intro w9 hg9 hr9 hz9
               have HB9 := Lib.hid (show Below w.heap.size w w9 from Below.grows HB1.out hg9 HB1.out.size (by omega))
               have HR9 := Lib.hid (hrs.grown hg9 (fun b o e => ne_some (by have := (HO.out.size b (by rw [e]; rfl)).1; omega)))
               have HA9 := Lib.hid (HAT.out.low hg9 HLR.out hz9)
               clear hg9))
          refine bodyPost_ret (v := .tuple #[.agg #[.int .i64 u.pl, .int .i64 u.st, .int .i64 u.nx, .int .i64 u.ph, .int .i64 u.t, .int .i64 u.hd, .int .i64 u.hl, .int .i64 u.ak, .int .i64 u.wt, .bool u.sp], .slice A2 n2 d2]) ?_ rfl ⟨A2, n2, d2, rows, by rw [HU.out]; rfl, ⟨HR9.out, HA9.out.its⟩, HRW.out, HB9.out⟩
          exact results_blk_val Try.results24 _ _ _ (w.heap.size + 1) 24 #[.int .i64 u.pl, .int .i64 u.st, .int .i64 u.nx, .int .i64 u.ph, .int .i64 u.t, .int .i64 u.hd, .int .i64 u.hl, .int .i64 u.ak, .int .i64 u.wt, .bool u.sp] (0, 0) _ rfl hr9 Try.underlying24 rfl info_sig _ rfl
theorem trun_any (A : Option Addr) (n c : Nat) (l : List Pl) (s : Sg) (x : Int) (w : World) (hl : Pls w A n c l) (hs : SmG s) : Calls Try.prog 24 #[.slice A n c, sgV s, .int .i64 x] w (GivesGL (runG l s x) (runL l s x) w) := by
  cases hr : runOk l s x
  · exact trun_no A n c l s x w hl hs hr
  · have h := hr
    rw [runOk, Bool.and_eq_true, decide_eq_true_eq] at h
    obtain ⟨hm, h0, h2⟩ := h
    obtain ⟨N, rfl⟩ := Int.eq_ofNat_of_zero_le h0
    rw [runG, runL, if_pos hr, if_pos hr, Int.toNat_natCast]
    exact trun_yes A n c l s N w hl (mayS_iff.1 hm) (by omega)
/-- what package stage does: all that the laws take -/
theorem stgOk : StgOk where
  new := tnew_any
  may := fun A n c l s X h hs _ _ => tmay_any A n c l s X h hs
  tick := fun A n c l s X h hs _ _ => ttick_any A n c l s X h hs
  lamps := fun A n c l s X h hs _ _ => (tlamps_any A n c l s X h hs).mono fun _ _ g => g.gives
  run := fun A n c l s x X h hs _ _ => trun_any A n c l s x X h hs
end Go.Proofs.Ytgnhmdfajnnkhaa

