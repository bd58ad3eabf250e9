/- Joined texts: What the laws of stage take of lamp and plan, from the landed code. The landed package stage's New, May, Tick, Lamps, Run: all that the laws take of it. What recovers a wish that is not done; Do of the landed package safe. Do of the landed package safe, of a command that turns. A store of one number, or one bool, into a slice of rows of the call's own. make([]T, 0, n) in a region that draws its order, T of k cells. -/
import Derived.Test.YtgnhmdfajnnkhaaSbJB
import Derived.Test.YtgnhmdfajnnkhaaSbJF
import Derived.Test.YtgnhmdfajnnkhaaSbJE
import Derived.Test.YtgnhmdfajnnkhaaSbJK
import Derived.Test.YtgnhmdfajnnkhaaSbJL
import Derived.Test.YtgnhmdfajnnkhaaSbJG
import Derived.Test.YtgnhmdfajnnkhaaSbJC
import Derived.Defers
import Derived.Recover
import Derived.Test.YtgnhmdfajnnkhaaSbJA
/- What the laws of stage take of lamp and plan, from the landed code. -/
namespace Go.Proofs.Ytgnhmdfajnnkhaa
set_option maxRecDepth 100000
set_option linter.unusedVariables false
set_option linter.unusedSimpArgs false
open Go.RowKit

theorem lmpText : LmpText where
  text := fun A n c l X h _ => ltext_any A n c l X h
end Go.Proofs.Ytgnhmdfajnnkhaa


/- The landed package stage's New, May, Tick, Lamps, Run: all that the laws take of it. -/
namespace Go.Proofs.Ytgnhmdfajnnkhaa
set_option maxRecDepth 100000
set_option linter.unusedVariables false
set_option linter.unusedSimpArgs false
open Go.RowKit

theorem tnew_any (X : World) : Calls Try.prog 26 #[] X (GivesG newG X) := by
  unfold GivesG sgV newG
  go_enter Try.func26, Try.ntmps26
  go_wp2
  refine bodyPost_ret (v := .agg #[.int .i64 0, .int .i64 0, .int .i64 0, .int .i64 2, .int .i64 0, .int .i64 0, .int .i64 0, .int .i64 (-1), .int .i64 (-1), .bool false]) ?_ rfl ⟨rfl, one_alloc _ _⟩
  exact results_cell_row Try.results26 _ _ X.heap.size 24 #[.int .i64 0, .int .i64 0, .int .i64 0, .int .i64 2, .int .i64 0, .int .i64 0, .int .i64 0, .int .i64 (-1), .int .i64 (-1), .bool false] (0, 0) _ rfl (heap_alloc_new _ _) Try.underlying24 rfl info_sig
set_option maxHeartbeats 4000000 in
theorem tmay_any (A : Option Addr) (n c : Nat) (l : List Pl) (s : Sg) (w : World) (hl : Pls w A n c l) (hs : SmG s) : Calls Try.prog 22 #[.slice A n c, sgV s] w fun e w' => e = .returned (.bool (mayS l s)) ∧ Below w.heap.size w w' := by
  have hlen := hl.len
  have hsm := hl.small
  obtain ⟨W1, hW1⟩ : ∃ W1, w.alloc (.cells #[.int .i64 s.pl, .int .i64 s.st, .int .i64 s.nx, .int .i64 s.ph, .int .i64 s.t, .int .i64 s.hd, .int .i64 s.hl, .int .i64 s.ak, .int .i64 s.wt, .bool s.sp] 24) = W1 := ⟨_, rfl⟩
  have hB1 : Below w.heap.size w W1 := by rw [← hW1]; exact one_alloc w _
  have hbg : BoxG W1 w.heap.size s := by rw [← hW1]; exact BoxG.new w s
  have HW := Lib.hid hW1
  have HB1 := Lib.hid hB1
  have HBG := Lib.hid (show ∀ X, Below W1.heap.size W1 X → CellsG X w.heap.size s from fun X hX => (hbg.below hX).cells)
  have HAL := Lib.hid (pall_own A n c l W1 (hl.below hB1))
  have HPC := Lib.hid (fun X => place_any s.pl n X)
  have HFI0 := Lib.hid (fun (ha : allP l = true) (h0 : 0 ≤ s.pl) (h1 : s.pl < n) X (hX : Below W1.heap.size W1 X) => mfits_any A n c l s X ((hl.below hB1).below hX) ha h0 h1 hs)
  have hM : mayS l s = (allP l && (placeB s.pl n && mayS l s)) := by
    cases hm : mayS l s
    · simp
    · have h := mayS_iff.1 hm
      rw [h.all, place_iff.2 ⟨h.p0, by have := h.p1; rw [hlen] at this; exact this⟩]
      rfl
  have HM := Lib.hid hM
  unfold mcV at HFI0
  unfold sgV
  clear hl hbg hB1 hW1 hM hlen hs
  obtain ⟨Pb, hP⟩ : ∃ b, placeB s.pl n = b := ⟨_, rfl⟩
  rw [hP] at HPC HM
  obtain ⟨R, hR⟩ : ∃ R, mayS l s = R := ⟨_, rfl⟩
  rw [hR] at HFI0 HM ⊢
  clear hR
  cases ha : allP l
  · rw [ha] at HAL HM
    clear ha HFI0 hP
    obtain ⟨pl, st, nx, ph, t, hd, hh, ak, wt, sp⟩ := s
    simp only at *
    go_enter Try.func22, Try.ntmps22
    go_wp2_with (first
      | (go_at_call 42; rw [HW.out]; (with_reducible refine (HAL.out).mono ?_); rintro e w1 ⟨rfl, hb1⟩; have HS := Lib.hid hb1; obtain ⟨c0, c1, c2, c3, c4, c5, c6, c7, c8, c9⟩ := HBG.out w1 hb1; clear hb1)
      | (go_at_call 43; (with_reducible refine (HPC.out _).mono ?_); rintro e wq ⟨rfl, rfl⟩))
    go_ret
    exact ⟨by rw [HM.out]; rfl, HB1.out.trans (HS.out.mono HB1.out.size)⟩
  · rw [ha] at HAL HM
    cases Pb
    · clear ha HFI0 hP
      obtain ⟨pl, st, nx, ph, t, hd, hh, ak, wt, sp⟩ := s
      simp only at *
      go_enter Try.func22, Try.ntmps22
      go_wp2_with (first
        | (go_at_call 42; rw [HW.out]; (with_reducible refine (HAL.out).mono ?_); rintro e w1 ⟨rfl, hb1⟩; have HS := Lib.hid hb1; obtain ⟨c0, c1, c2, c3, c4, c5, c6, c7, c8, c9⟩ := HBG.out w1 hb1; clear hb1)
        | (go_at_call 43; (with_reducible refine (HPC.out _).mono ?_); rintro e wq ⟨rfl, rfl⟩))
      go_ret
      exact ⟨by rw [HM.out]; rfl, HB1.out.trans (HS.out.mono HB1.out.size)⟩
    · have hpi := place_iff.1 hP
      have HFI := Lib.hid (HFI0.out ha hpi.1 hpi.2)
      clear ha HFI0 hP hpi
      obtain ⟨pl, st, nx, ph, t, hd, hh, ak, wt, sp⟩ := s
      simp only at *
      go_enter Try.func22, Try.ntmps22
      go_wp2_with (first
        | (go_at_call 42; rw [HW.out]; (with_reducible refine (HAL.out).mono ?_); rintro e w1 ⟨rfl, hb1⟩; have HS := Lib.hid hb1; obtain ⟨c0, c1, c2, c3, c4, c5, c6, c7, c8, c9⟩ := HBG.out w1 hb1; clear hb1)
        | (go_at_call 43; (with_reducible refine (HPC.out _).mono ?_); rintro e wq ⟨rfl, rfl⟩)
        | (go_at_call 44; (with_reducible refine (HFI.out _ HS.out).mono ?_); rintro e w2 ⟨rfl, hb2⟩; have HS2 := Lib.hid (HS.out.trans (hb2.mono HS.out.size)); clear hb2))
      go_ret
      exact ⟨rfl, HB1.out.trans (HS2.out.mono HB1.out.size)⟩
set_option maxHeartbeats 4000000 in
theorem ttick_any (A : Option Addr) (n c : Nat) (l : List Pl) (s : Sg) (w : World) (hl : Pls w A n c l) (hs : SmG s) : Calls Try.prog 23 #[.slice A n c, sgV s] w (GivesG (tickS l s) w) := by
  obtain ⟨W0, hW0⟩ : ∃ W0, (w.alloc (.cells #[.int .i64 s.pl, .int .i64 s.st, .int .i64 s.nx, .int .i64 s.ph, .int .i64 s.t, .int .i64 s.hd, .int .i64 s.hl, .int .i64 s.ak, .int .i64 s.wt, .bool s.sp] 24)).alloc (.cells #[.int .i64 0, .int .i64 0, .int .i64 0, .int .i64 0, .int .i64 0, .int .i64 0, .int .i64 0, .int .i64 0, .int .i64 0, .bool false] 24) = W0 := ⟨_, rfl⟩
  have HBW := Lib.hid (show Below w.heap.size w W0 by rw [← hW0]; exact below_alloc2 w _ _)
  have HSB := Lib.hid (show W0.heap[w.heap.size]? = some (.cells #[.int .i64 s.pl, .int .i64 s.st, .int .i64 s.nx, .int .i64 s.ph, .int .i64 s.t, .int .i64 s.hd, .int .i64 s.hl, .int .i64 s.ak, .int .i64 s.wt, .bool s.sp] 24 (0, 0)) by rw [← hW0]; exact alloc2_old w _ _)
  have HRB := Lib.hid (show W0.heap[w.heap.size + 1]? = some (.cells #[.int .i64 0, .int .i64 0, .int .i64 0, .int .i64 0, .int .i64 0, .int .i64 0, .int .i64 0, .int .i64 0, .int .i64 0, .bool false] 24 (0, 0)) by rw [← hW0]; exact alloc2_new w _ _)
  have HLT := Lib.hid (show w.heap.size < W0.heap.size ∧ w.heap.size + 1 < W0.heap.size from ⟨(Array.getElem?_eq_some_iff.1 HSB.out).1, (Array.getElem?_eq_some_iff.1 HRB.out).1⟩)
  have HW := Lib.hid hW0
  have HPL := Lib.hid (show ∀ X, Below w.heap.size w X → Pls X A n c l from fun X hX => hl.below hX)
  have HMY := Lib.hid (fun X (hX : Below w.heap.size w X) => tmay_any A n c l s X (hl.below hX) hs)
  cases hm : mayS l s
  · rw [tickS, if_neg (by rw [hm]; simp)]
    rw [hm] at HMY
    unfold GivesG sgV at *
    clear hl hm hW0 HPL hs
    go_enter Try.func23, Try.ntmps23
    go_wp2_with (first
      | (go_at_call 22
         try rw [HW.out]
         (with_reducible refine (HMY.out _ HBW.out).mono ?_)
         rintro e w1 ⟨rfl, hb1⟩
         have hS1 : Below w.heap.size w w1 := HBW.out.trans (hb1.mono HBW.out.size)
         have hs1 := (hb1.block w.heap.size HLT.out.1).trans HSB.out
         have hr1 := (hb1.block (w.heap.size + 1) HLT.out.2).trans HRB.out
         have HB1 := Lib.hid hS1
         obtain ⟨c0, c1, c2, c3, c4, c5, c6, c7, c8, c9⟩ := (show BoxG w1 w.heap.size s from hs1).cells
         clear hb1)
      | ((with_reducible refine wpList_store_part rfl 24 _ _ rfl (w.heap.size + 1) 0 (.agg #[.int .i64 s.pl, .int .i64 s.st, .int .i64 s.nx, .int .i64 s.ph, .int .i64 s.t, .int .i64 s.hd, .int .i64 s.hl, .int .i64 s.ak, .int .i64 s.wt, .bool s.sp]) #[.int .i64 s.pl, .int .i64 s.st, .int .i64 s.nx, .int .i64 s.ph, .int .i64 s.t, .int .i64 s.hd, .int .i64 s.hl, .int .i64 s.ak, .int .i64 s.wt, .bool s.sp] ?hxn ?hyn ?hvn 24 #[.int .i64 0, .int .i64 0, .int .i64 0, .int .i64 0, .int .i64 0, .int .i64 0, .int .i64 0, .int .i64 0, .int .i64 0, .bool false] #[.int .i64 s.pl, .int .i64 s.st, .int .i64 s.nx, .int .i64 s.ph, .int .i64 s.t, .int .i64 s.hd, .int .i64 s.hl, .int .i64 s.ak, .int .i64 s.wt, .bool s.sp] hr1 ?hin ?hln ?hon ?hnn ?_); (case hxn => rfl); (case hyn => rfl); (case hvn => rfl); (case hin => exact info_sig); (case hln => simp); (case hon => exact one_sig _ _ _ _ _ _ _ _ _ _); (case hnn => rfl)
         intro w9 hg9 hr9 hz9
         have HB9 := Lib.hid (show Below w.heap.size w w9 from Below.grows HB1.out hg9 HB1.out.size (by omega))
         clear hg9 hz9))
    refine bodyPost_ret (v := .agg #[.int .i64 s.pl, .int .i64 s.st, .int .i64 s.nx, .int .i64 s.ph, .int .i64 s.t, .int .i64 s.hd, .int .i64 s.hl, .int .i64 s.ak, .int .i64 s.wt, .bool s.sp]) ?_ rfl ⟨rfl, HB9.out⟩
    exact results_cell_row Try.results23 _ _ (w.heap.size + 1) 24 #[.int .i64 s.pl, .int .i64 s.st, .int .i64 s.nx, .int .i64 s.ph, .int .i64 s.t, .int .i64 s.hd, .int .i64 s.hl, .int .i64 s.ak, .int .i64 s.wt, .bool s.sp] (0, 0) _ rfl hr9 Try.underlying24 rfl info_sig
  · have HTK := Lib.hid (fun X (hX : Below w.heap.size w X) => ticked_any A n c l s X (hl.below hX) (mayS_iff.1 hm))
    rw [hm] at HMY
    unfold GivesM mcV at HTK
    unfold GivesG sgV at *
    obtain ⟨g, hg⟩ : ∃ g, tickS l s = g := ⟨_, rfl⟩
    rw [hg] at HTK ⊢
    clear hl hm hW0 HPL hs hg
    have hfd : ∀ w, Sem.run Try.prog (Instr.field 66 (.agg #[.slice A n c, .int .i64 g.pl, .int .i64 g.st, .int .i64 g.nx, .int .i64 g.ph, .int .i64 g.t, .int .i64 g.hd, .int .i64 g.hl, .int .i64 g.ak, .int .i64 g.wt, .bool g.sp]) 1) w = Result.ok (.agg #[.int .i64 g.pl, .int .i64 g.st, .int .i64 g.nx, .int .i64 g.ph, .int .i64 g.t, .int .i64 g.hd, .int .i64 g.hl, .int .i64 g.ak, .int .i64 g.wt, .bool g.sp]) w := fun _ => rfl
    go_enter Try.func23, Try.ntmps23
    go_wp2_with (first
      | (go_at_call 22
         try rw [HW.out]
         (with_reducible refine (HMY.out _ HBW.out).mono ?_)
         rintro e w1 ⟨rfl, hb1⟩
         have hS1 : Below w.heap.size w w1 := HBW.out.trans (hb1.mono HBW.out.size)
         have hs1 := (hb1.block w.heap.size HLT.out.1).trans HSB.out
         have hr1 := (hb1.block (w.heap.size + 1) HLT.out.2).trans HRB.out
         have HB1 := Lib.hid hS1
         obtain ⟨c0, c1, c2, c3, c4, c5, c6, c7, c8, c9⟩ := (show BoxG w1 w.heap.size s from hs1).cells
         clear hb1)
      | (go_at_call 45
         (with_reducible refine (HTK.out _ HB1.out).mono ?_)
         rintro e w2 ⟨rfl, hb2⟩
         have hr2 := (hb2.block (w.heap.size + 1) (Array.getElem?_eq_some_iff.1 hr1).1).trans hr1
         have HB2 := Lib.hid (show Below w.heap.size w w2 from HB1.out.trans (hb2.mono HB1.out.size))
         clear hb2)
      | ((with_reducible refine wpList_store_part rfl 24 _ _ rfl (w.heap.size + 1) 0 (.agg #[.int .i64 g.pl, .int .i64 g.st, .int .i64 g.nx, .int .i64 g.ph, .int .i64 g.t, .int .i64 g.hd, .int .i64 g.hl, .int .i64 g.ak, .int .i64 g.wt, .bool g.sp]) #[.int .i64 g.pl, .int .i64 g.st, .int .i64 g.nx, .int .i64 g.ph, .int .i64 g.t, .int .i64 g.hd, .int .i64 g.hl, .int .i64 g.ak, .int .i64 g.wt, .bool g.sp] ?hxm ?hym ?hvm 24 #[.int .i64 0, .int .i64 0, .int .i64 0, .int .i64 0, .int .i64 0, .int .i64 0, .int .i64 0, .int .i64 0, .int .i64 0, .bool false] #[.int .i64 g.pl, .int .i64 g.st, .int .i64 g.nx, .int .i64 g.ph, .int .i64 g.t, .int .i64 g.hd, .int .i64 g.hl, .int .i64 g.ak, .int .i64 g.wt, .bool g.sp] hr2 ?him ?hlm ?hom ?hnm ?_); (case hxm => rfl); (case hym => rfl); (case hvm => rfl); (case him => exact info_sig); (case hlm => simp); (case hom => exact one_sig _ _ _ _ _ _ _ _ _ _); (case hnm => rfl)
         intro w9 hg9 hr9 hz9
         have HB9 := Lib.hid (show Below w.heap.size w w9 from Below.grows HB2.out hg9 HB2.out.size (by omega))
         clear hg9 hz9))
    refine bodyPost_ret (v := .agg #[.int .i64 g.pl, .int .i64 g.st, .int .i64 g.nx, .int .i64 g.ph, .int .i64 g.t, .int .i64 g.hd, .int .i64 g.hl, .int .i64 g.ak, .int .i64 g.wt, .bool g.sp]) ?_ rfl ⟨rfl, HB9.out⟩
    exact results_cell_row Try.results23 _ _ (w.heap.size + 1) 24 #[.int .i64 g.pl, .int .i64 g.st, .int .i64 g.nx, .int .i64 g.ph, .int .i64 g.t, .int .i64 g.hd, .int .i64 g.hl, .int .i64 g.ak, .int .i64 g.wt, .bool g.sp] (0, 0) _ rfl hr9 Try.underlying24 rfl info_sig
set_option maxHeartbeats 4000000 in
theorem tlamps_any (A : Option Addr) (n c : Nat) (l : List Pl) (s : Sg) (w : World) (hl : Pls w A n c l) (hs : SmG s) : Calls Try.prog 20 #[.slice A n c, sgV s] w (GivesO (lampsS l s) w) := by
  obtain ⟨W1, hW1⟩ : ∃ W1, w.alloc (.cells #[.int .i64 s.pl, .int .i64 s.st, .int .i64 s.nx, .int .i64 s.ph, .int .i64 s.t, .int .i64 s.hd, .int .i64 s.hl, .int .i64 s.ak, .int .i64 s.wt, .bool s.sp] 24) = W1 := ⟨_, rfl⟩
  have hB1 : Below w.heap.size w W1 := by rw [← hW1]; exact one_alloc w _
  have hbg : BoxG W1 w.heap.size s := by rw [← hW1]; exact BoxG.new w s
  have HW := Lib.hid hW1
  have HB1 := Lib.hid hB1
  have HBG := Lib.hid (show ∀ X, Below W1.heap.size W1 X → CellsG X w.heap.size s from fun X hX => (hbg.below hX).cells)
  have HMY := Lib.hid (fun X (hX : Below w.heap.size w X) => tmay_any A n c l s X (hl.below hX) hs)
  obtain ⟨d0, d1, d2, d3, d4, d5, d6, d7, d8, d9⟩ := HBG.out W1 (Below.refl _ _)
  cases hm : mayS l s
  · rw [lampsS, if_neg (by rw [hm]; simp)]
    rw [hm] at HMY
    unfold sgV at *
    clear hl hm hW1 hs hbg hB1
    go_enter Try.func20, Try.ntmps20
    go_wp2_with (go_at_call 22
                 try rw [HW.out]
                 (with_reducible refine (HMY.out _ HB1.out).mono ?_)
                 rintro e w1 ⟨rfl, hb1⟩
                 have HS := Lib.hid (show Below w.heap.size w w1 from HB1.out.trans (hb1.mono HB1.out.size))
                 obtain ⟨c0, c1, c2, c3, c4, c5, c6, c7, c8, c9⟩ := HBG.out w1 hb1
                 clear hb1)
    go_ret
    exact ⟨none, 0, 0, rfl, OwnI.nil _ _ _ _, HS.out⟩
  · have h := mayS_iff.1 hm
    have HSH := Lib.hid (fun X (hX : Below w.heap.size w X) => shown_own A n c l s X (hl.below hX) h.p0 (by have := h.p1; rw [hl.len] at this; exact this))
    rw [lampsS, if_pos hm]
    obtain ⟨R, hR⟩ : ∃ R, showR (planAt l s.pl) s.st s.ph = R := ⟨_, rfl⟩
    rw [hR] at HSH ⊢
    rw [hm] at HMY
    unfold mcV at HSH
    unfold sgV at *
    clear hl hm hW1 hs hbg hB1 h hR
    go_enter Try.func20, Try.ntmps20
    go_wp2_with (first
      | (go_at_call 22
         try rw [HW.out]
         (with_reducible refine (HMY.out _ HB1.out).mono ?_)
         rintro e w1 ⟨rfl, hb1⟩
         have HS := Lib.hid (show Below w.heap.size w w1 from HB1.out.trans (hb1.mono HB1.out.size))
         obtain ⟨c0, c1, c2, c3, c4, c5, c6, c7, c8, c9⟩ := HBG.out w1 hb1
         clear hb1)
      | (go_at_call 41
         (with_reducible refine (HSH.out _ HS.out).mono ?_)
         rintro e w2 ⟨A1, n1, e1, rfl, ho, hb2⟩
         have HB2 := Lib.hid (show Below w.heap.size w w2 from HS.out.trans (hb2.mono HS.out.size))
         have HO := Lib.hid (own_base ho HS.out.size)
         clear hb2 ho))
    go_ret
    exact ⟨A1, n1, e1, rfl, HO.out, HB2.out⟩
end Go.Proofs.Ytgnhmdfajnnkhaa


/- What recovers a wish that is not done; Do of the landed package safe. -/
namespace Go.Proofs.Ytgnhmdfajnnkhaa
set_option maxRecDepth 100000
set_option linter.unusedVariables false
set_option linter.unusedSimpArgs false
open Go.RowKit

/-- two results, each in a block: a machine, and the number of an error -/
theorem results_two_blk {fn : Func} {p q : Tmp} {ty ty' : TypeId} (h : fn.results = #[.cell p ty, .cell q ty']) (tmps : Array Value) (P : Program) (w : World) (g g' : Nat) (t : TypeId) (cs : Array Value) (fr : Nat × Nat) (d : TypeDesc)
    (hp : tmps.getD p undef = .pointer (some ⟨g, 0, none⟩)) (hg : w.heap[g]? = some (.cells cs t fr))
    (hu : P.underlying ty = some d) (hd : d.isRow = true) (hi : (P.info? ty).map (·.size) = some cs.size)
    (hq : tmps.getD q undef = .pointer (some ⟨g', 0, none⟩)) (v : Value) (hl : (loadVar ty' ⟨g', 0, none⟩).run P w = .ok v w) :
    (results fn tmps).run P w = .ok (.tuple #[.agg cs, v]) w := by
  have hp' : tmps[p]?.getD undef = .pointer (some ⟨g, 0, none⟩) := by simpa using hp
  have hq' : tmps[q]?.getD undef = .pointer (some ⟨g', 0, none⟩) := by simpa using hq
  simp [results, h, hp', hq', asAddr, hl, run_loadVar_row w g t ty cs fr d hg hu (by cases d <;> simp_all) hi]
theorem info_errno : (Try.prog.info? 28).map (·.size) = some 1 := by kernel_rfl
theorem load_errno {w : World} {g : Nat} {k : Int} {t : TypeId} (hg : w.heap[g]? = some (.cells #[.int .i64 k] t (0, 0))) : (loadVar 28 ⟨g, 0, none⟩).run Try.prog w = .ok (.int .i64 k) w := by
  have hc : w.cell? ⟨g, 0, none⟩ = some (.int .i64 k) := (cell_of_row _ _ _ _ _ _ hg).trans rfl
  go_simp
set_option maxHeartbeats 4000000 in
theorem catch_why (b0 b1 b2 : Nat) (s : Sg) (k : Int) (w : World) (hs : BoxG w b0 s) (hz : w.heap[b1]? = some (.cells #[.int .i64 0, .int .i64 0, .int .i64 0, .int .i64 0, .int .i64 0, .int .i64 0, .int .i64 0, .int .i64 0, .int .i64 0, .bool false] 24 (0, 0))) (he : w.heap[b2]? = some (.cells #[.int .i64 0] 28 (0, 0))) (h12 : b1 ≠ b2) :
    CallsD Try.prog 29 #[.pointer (some ⟨b0, 0, none⟩), .pointer (some ⟨b1, 0, none⟩), .pointer (some ⟨b2, 0, none⟩)] (.panicking [whyV k]) w fun e u' w' => e = .returned (.tuple #[]) ∧ u' = .panicking [{ v := .iface 59 (.int .i64 k), recovered := true }] ∧
      w'.heap[b1]? = some (.cells #[.int .i64 s.pl, .int .i64 s.st, .int .i64 s.nx, .int .i64 s.ph, .int .i64 s.t, .int .i64 s.hd, .int .i64 s.hl, .int .i64 s.ak, .int .i64 s.wt, .bool s.sp] 24 (0, 0)) ∧ w'.heap[b2]? = some (.cells #[.int .i64 k] 28 (0, 0)) ∧ ∀ B, B ≤ b1 → B ≤ b2 → B ≤ w.heap.size → Below B w w' := by
  obtain ⟨c0, c1, c2, c3, c4, c5, c6, c7, c8, c9⟩ := hs.cells
  refine callsD_of_wpS Try.func29 rfl fun c₀ cs hu => ?_
  unfold whyV at hu
  apply wpS_seq
  apply wpS_region
  have hta : ∀ w : World, Sem.run Try.prog (Instr.typeAssert (.iface 59 (.int .i64 k)) 20 59 true) w = .ok (.tuple #[.int .i64 k, .bool true]) w := fun _ => rfl
  simp [wpOpsS, go_sem, recoverD, hu, Try.ntmps29, Exit.thenS, hta]
  apply wpS_seq
  apply wpS_region
  simp [wpOpsS, go_sem, Exit.thenS]
  refine wpS_cond (t := true) (by simp [Act.eval, Array.replicate]) ?_
  simp only [if_true]
  refine wpS_of_wp ?_
  refine Code.wp_mono (Q := fun e a' w' => e = .normal ∧ a'.defers = [] ∧ w'.heap[b1]? = some (.cells #[.int .i64 s.pl, .int .i64 s.st, .int .i64 s.nx, .int .i64 s.ph, .int .i64 s.t, .int .i64 s.hd, .int .i64 s.hl, .int .i64 s.ak, .int .i64 s.wt, .bool s.sp] 24 (0, 0)) ∧ w'.heap[b2]? = some (.cells #[.int .i64 k] 28 (0, 0)) ∧ ∀ B, B ≤ b1 → B ≤ b2 → B ≤ w.heap.size → Below B w w') (fun e a' w' h => ?_) ?_
  · obtain ⟨rfl, hd, g1, g2, g3⟩ := h
    exact ⟨hd, _, rfl, _, results_none Try.results29 _ _ _, rfl, rfl, g1, g2, g3⟩
  · simp only [show Array.replicate 10 undef = #[undef, undef, undef, undef, undef, undef, undef, undef, undef, undef] from rfl, List.setIfInBounds_toArray, List.set_cons_zero, List.set_cons_succ, List.append_toArray, List.cons_append, List.nil_append]
    clear hta hu
    go_wp2_with (first
      | ((with_reducible refine wpList_store_part rfl 24 _ _ rfl (b1) 0 (.agg #[.int .i64 s.pl, .int .i64 s.st, .int .i64 s.nx, .int .i64 s.ph, .int .i64 s.t, .int .i64 s.hd, .int .i64 s.hl, .int .i64 s.ak, .int .i64 s.wt, .bool s.sp]) #[.int .i64 s.pl, .int .i64 s.st, .int .i64 s.nx, .int .i64 s.ph, .int .i64 s.t, .int .i64 s.hd, .int .i64 s.hl, .int .i64 s.ak, .int .i64 s.wt, .bool s.sp] ?hxq1 ?hyq1 ?hvq1 24 #[.int .i64 0, .int .i64 0, .int .i64 0, .int .i64 0, .int .i64 0, .int .i64 0, .int .i64 0, .int .i64 0, .int .i64 0, .bool false] #[.int .i64 s.pl, .int .i64 s.st, .int .i64 s.nx, .int .i64 s.ph, .int .i64 s.t, .int .i64 s.hd, .int .i64 s.hl, .int .i64 s.ak, .int .i64 s.wt, .bool s.sp] hz ?hiq1 ?hlq1 ?hoq1 ?hnq1 ?_); (case hxq1 => rfl); (case hyq1 => first | rfl | assumption | go_num); (case hvq1 => rfl); (case hiq1 => exact info_sig); (case hlq1 => simp); (case hoq1 => exact one_sig _ _ _ _ _ _ _ _ _ _); (case hnq1 => rfl)
         intro v1 hg1 hs1 hz1
         have he1 := (other_block hg1 (Ne.symm h12) (Array.getElem?_eq_some_iff.1 he).1).trans he)
      | ((with_reducible refine wpList_store_part rfl 28 _ _ rfl (b2) 0 (.int .i64 k) #[.int .i64 k] ?hxq2 ?hyq2 ?hvq2 28 #[.int .i64 0] #[.int .i64 k] he1 ?hiq2 ?hlq2 ?hoq2 ?hnq2 ?_); (case hxq2 => rfl); (case hyq2 => first | rfl | assumption | go_num); (case hvq2 => rfl); (case hiq2 => exact info_errno); (case hlq2 => simp); (case hoq2 => exact one_int _); (case hnq2 => rfl)
         intro v2 hg2 hs2 hz2
         have hs1' := (other_block hg2 h12 (Array.getElem?_eq_some_iff.1 hs1).1).trans hs1))
    intro B h1 h2 h3
    exact Below.grows (Below.grows (Below.refl B w) hg1 h3 h1) hg2 (by rw [hz1]; exact h3) h2
theorem catch_idle (b0 b1 b2 : Nat) (w : World) : CallsD Try.prog 29 #[.pointer (some ⟨b0, 0, none⟩), .pointer (some ⟨b1, 0, none⟩), .pointer (some ⟨b2, 0, none⟩)] .returning w fun e u' w' => e = .returned (.tuple #[]) ∧ u' = .returning ∧ w' = w := by
  refine callsD_of_wpS Try.func29 rfl fun c₀ cs hu => ?_
  apply wpS_seq
  apply wpS_region
  have hta : ∀ w : World, Sem.run Try.prog (Instr.typeAssert .nilIface 20 59 true) w = .ok (.tuple #[.int .i64 0, .bool false]) w := fun _ => rfl
  simp [wpOpsS, go_sem, recoverD, hu, Try.ntmps29, Exit.thenS, hta]
  apply wpS_seq
  apply wpS_region
  simp [wpOpsS, go_sem, Exit.thenS]
  refine wpS_cond (t := false) (by simp [Act.eval, Array.replicate]) ?_
  simp only [Bool.false_eq_true, if_false]
  refine wpS_of_wp (wp_skip ?_)
  cases c₀
  simp_all [bodyPostS, results, Try.results29]
set_option maxHeartbeats 8000000 in
theorem do_no (A : Option Addr) (n c : Nat) (l : List Pl) (s : Sg) (k a : Int) (w : World) (hl : Pls w A n c l) (hs : SmG s) (hno : ¬ (mayS l s = true ∧ turnsB k = true)) : Calls Try.prog 12 #[.slice A n c, sgV s, .int .i64 k, .int .i64 a] w (GivesGE (s, 1) w) := by
  obtain ⟨W1, hW1⟩ : ∃ W1, w.alloc (.cells #[.int .i64 s.pl, .int .i64 s.st, .int .i64 s.nx, .int .i64 s.ph, .int .i64 s.t, .int .i64 s.hd, .int .i64 s.hl, .int .i64 s.ak, .int .i64 s.wt, .bool s.sp] 24) = W1 := ⟨_, rfl⟩
  obtain ⟨W2, hW2⟩ : ∃ W2, W1.alloc (.cells #[.int .i64 0, .int .i64 0, .int .i64 0, .int .i64 0, .int .i64 0, .int .i64 0, .int .i64 0, .int .i64 0, .int .i64 0, .bool false] 24) = W2 := ⟨_, rfl⟩
  obtain ⟨W0, hW0⟩ : ∃ W0, W2.alloc (.cells #[.int .i64 0] 28) = W0 := ⟨_, rfl⟩
  have z1 : W1.heap.size = w.heap.size + 1 := by rw [← hW1]; simp
  have z2 : W2.heap.size = w.heap.size + 2 := by rw [← hW2]; simp [z1]
  have z0 : W0.heap.size = w.heap.size + 3 := by rw [← hW0]; simp [z2]
  have b1 : Below w.heap.size w W1 := by rw [← hW1]; exact one_alloc w _
  have b2 : Below W1.heap.size W1 W2 := by rw [← hW2]; exact one_alloc W1 _
  have b0 : Below W2.heap.size W2 W0 := by rw [← hW0]; exact one_alloc W2 _
  have HSB := Lib.hid (show W0.heap[w.heap.size]? = some (.cells #[.int .i64 s.pl, .int .i64 s.st, .int .i64 s.nx, .int .i64 s.ph, .int .i64 s.t, .int .i64 s.hd, .int .i64 s.hl, .int .i64 s.ak, .int .i64 s.wt, .bool s.sp] 24 (0, 0)) from (b0.block w.heap.size (by omega)).trans ((b2.block w.heap.size (by omega)).trans (by rw [← hW1]; exact heap_alloc_new w _)))
  have HZB := Lib.hid (show W0.heap[w.heap.size + 1]? = some (.cells #[.int .i64 0, .int .i64 0, .int .i64 0, .int .i64 0, .int .i64 0, .int .i64 0, .int .i64 0, .int .i64 0, .int .i64 0, .bool false] 24 (0, 0)) from (b0.block (w.heap.size + 1) (by omega)).trans (by rw [← hW2, ← z1]; exact heap_alloc_new W1 _))
  have HEB := Lib.hid (show W0.heap[w.heap.size + 2]? = some (.cells #[.int .i64 0] 28 (0, 0)) by rw [← hW0, ← z2]; exact heap_alloc_new W2 _)
  have HB0 := Lib.hid (show Below w.heap.size w W0 from b1.trans ((b2.trans (b0.mono b2.size)).mono b1.size))
  have HZ0 := Lib.hid z0
  have HW := Lib.hid (show ((w.alloc (.cells #[.int .i64 s.pl, .int .i64 s.st, .int .i64 s.nx, .int .i64 s.ph, .int .i64 s.t, .int .i64 s.hd, .int .i64 s.hl, .int .i64 s.ak, .int .i64 s.wt, .bool s.sp] 24)).alloc (.cells #[.int .i64 0, .int .i64 0, .int .i64 0, .int .i64 0, .int .i64 0, .int .i64 0, .int .i64 0, .int .i64 0, .int .i64 0, .bool false] 24)).alloc (.cells #[.int .i64 0] 28) = W0 by rw [hW1, hW2, hW0])
  clear hW0 hW1 hW2 z1 z2 z0 b1 b2 b0
  have HMY := Lib.hid (fun X (hX : Below w.heap.size w X) => tmay_any A n c l s X (hl.below hX) hs)
  have HTU := Lib.hid (fun X => turns_any k X)
  unfold GivesGE sgV at *
  cases hm : mayS l s
  · rw [hm] at HMY
    clear hl hs hno hm
    go_enter_defers Try.func12, Try.ntmps12
    go_wp2_with (first
      | (go_at_call 22
         rw [HW.out]
         (with_reducible refine (HMY.out _ HB0.out).mono ?_)
         rintro e w1 ⟨rfl, hb1⟩
         have hz1' := HZ0.out
         have hs1 := (hb1.block w.heap.size (by omega)).trans HSB.out
         have hz1 := (hb1.block (w.heap.size + 1) (by omega)).trans HZB.out
         have he1 := (hb1.block (w.heap.size + 2) (by omega)).trans HEB.out
         have HB1 := Lib.hid (HB0.out.trans (hb1.mono HB0.out.size))
         obtain ⟨c0, c1, c2, c3, c4, c5, c6, c7, c8, c9⟩ := (show BoxG w1 w.heap.size s from hs1).cells
         clear hb1 hz1')
      | (go_at_call 21
         (with_reducible refine (HTU.out _).mono ?_)
         rintro e wq ⟨rfl, hwq⟩
         have hwq' := hwq.symm
         subst hwq')
      | ((with_reducible refine wpList_store_part rfl 24 _ _ rfl (w.heap.size + 1) 0 (.agg #[.int .i64 s.pl, .int .i64 s.st, .int .i64 s.nx, .int .i64 s.ph, .int .i64 s.t, .int .i64 s.hd, .int .i64 s.hl, .int .i64 s.ak, .int .i64 s.wt, .bool s.sp]) #[.int .i64 s.pl, .int .i64 s.st, .int .i64 s.nx, .int .i64 s.ph, .int .i64 s.t, .int .i64 s.hd, .int .i64 s.hl, .int .i64 s.ak, .int .i64 s.wt, .bool s.sp] ?hxq3 ?hyq3 ?hvq3 24 #[.int .i64 0, .int .i64 0, .int .i64 0, .int .i64 0, .int .i64 0, .int .i64 0, .int .i64 0, .int .i64 0, .int .i64 0, .bool false] #[.int .i64 s.pl, .int .i64 s.st, .int .i64 s.nx, .int .i64 s.ph, .int .i64 s.t, .int .i64 s.hd, .int .i64 s.hl, .int .i64 s.ak, .int .i64 s.wt, .bool s.sp] hz1 ?hiq3 ?hlq3 ?hoq3 ?hnq3 ?_); (case hxq3 => rfl); (case hyq3 => first | rfl | assumption | go_num); (case hvq3 => rfl); (case hiq3 => exact info_sig); (case hlq3 => simp); (case hoq3 => exact one_sig _ _ _ _ _ _ _ _ _ _); (case hnq3 => rfl)
         intro v2 hg2 hs2 hz2
         have he2 := (other_block hg2 (show w.heap.size + 2 ≠ w.heap.size + 1 by omega) (Array.getElem?_eq_some_iff.1 he1).1).trans he1
         have HB2 := Lib.hid (show Below w.heap.size w v2 from Below.grows HB1.out hg2 HB1.out.size (by omega)))
      | ((with_reducible refine wpList_store_part rfl 28 _ _ rfl (w.heap.size + 2) 0 (.int .i64 1) #[.int .i64 1] ?hxq4 ?hyq4 ?hvq4 28 #[.int .i64 0] #[.int .i64 1] he2 ?hiq4 ?hlq4 ?hoq4 ?hnq4 ?_); (case hxq4 => rfl); (case hyq4 => first | rfl | assumption | go_num); (case hvq4 => rfl); (case hiq4 => exact info_errno); (case hlq4 => simp); (case hoq4 => exact one_int _); (case hnq4 => rfl)
         intro v3 hg3 hs3 hz3
         have hs3' := (other_block hg3 (show w.heap.size + 1 ≠ w.heap.size + 2 by omega) (Array.getElem?_eq_some_iff.1 hs2).1).trans hs2
         have HB3 := Lib.hid (show Below w.heap.size w v3 from Below.grows HB2.out hg3 HB2.out.size (by omega))))
    exact ⟨_, results_two_blk Try.results12 _ _ _ (w.heap.size + 1) (w.heap.size + 2) 24 #[.int .i64 s.pl, .int .i64 s.st, .int .i64 s.nx, .int .i64 s.ph, .int .i64 s.t, .int .i64 s.hd, .int .i64 s.hl, .int .i64 s.ak, .int .i64 s.wt, .bool s.sp] (0, 0) _ rfl hs3' Try.underlying24 rfl info_sig rfl _ (load_errno hs3), rfl, HB3.out⟩
  · have ht : turnsB k = false := by
      cases h : turnsB k
      · rfl
      · exact absurd ⟨hm, h⟩ hno
    rw [hm] at HMY
    rw [ht] at HTU
    clear hl hs hno hm ht
    go_enter_defers Try.func12, Try.ntmps12
    go_wp2_with (first
      | (go_at_call 22
         rw [HW.out]
         (with_reducible refine (HMY.out _ HB0.out).mono ?_)
         rintro e w1 ⟨rfl, hb1⟩
         have hz1' := HZ0.out
         have hs1 := (hb1.block w.heap.size (by omega)).trans HSB.out
         have hz1 := (hb1.block (w.heap.size + 1) (by omega)).trans HZB.out
         have he1 := (hb1.block (w.heap.size + 2) (by omega)).trans HEB.out
         have HB1 := Lib.hid (HB0.out.trans (hb1.mono HB0.out.size))
         obtain ⟨c0, c1, c2, c3, c4, c5, c6, c7, c8, c9⟩ := (show BoxG w1 w.heap.size s from hs1).cells
         clear hb1 hz1')
      | (go_at_call 21
         (with_reducible refine (HTU.out _).mono ?_)
         rintro e wq ⟨rfl, hwq⟩
         have hwq' := hwq.symm
         subst hwq')
      | ((with_reducible refine wpList_store_part rfl 24 _ _ rfl (w.heap.size + 1) 0 (.agg #[.int .i64 s.pl, .int .i64 s.st, .int .i64 s.nx, .int .i64 s.ph, .int .i64 s.t, .int .i64 s.hd, .int .i64 s.hl, .int .i64 s.ak, .int .i64 s.wt, .bool s.sp]) #[.int .i64 s.pl, .int .i64 s.st, .int .i64 s.nx, .int .i64 s.ph, .int .i64 s.t, .int .i64 s.hd, .int .i64 s.hl, .int .i64 s.ak, .int .i64 s.wt, .bool s.sp] ?hxq3 ?hyq3 ?hvq3 24 #[.int .i64 0, .int .i64 0, .int .i64 0, .int .i64 0, .int .i64 0, .int .i64 0, .int .i64 0, .int .i64 0, .int .i64 0, .bool false] #[.int .i64 s.pl, .int .i64 s.st, .int .i64 s.nx, .int .i64 s.ph, .int .i64 s.t, .int .i64 s.hd, .int .i64 s.hl, .int .i64 s.ak, .int .i64 s.wt, .bool s.sp] hz1 ?hiq3 ?hlq3 ?hoq3 ?hnq3 ?_); (case hxq3 => rfl); (case hyq3 => first | rfl | assumption | go_num); (case hvq3 => rfl); (case hiq3 => exact info_sig); (case hlq3 => simp); (case hoq3 => exact one_sig _ _ _ _ _ _ _ _ _ _); (case hnq3 => rfl)
         intro v2 hg2 hs2 hz2
         have he2 := (other_block hg2 (show w.heap.size + 2 ≠ w.heap.size + 1 by omega) (Array.getElem?_eq_some_iff.1 he1).1).trans he1
         have HB2 := Lib.hid (show Below w.heap.size w v2 from Below.grows HB1.out hg2 HB1.out.size (by omega)))
      | ((with_reducible refine wpList_store_part rfl 28 _ _ rfl (w.heap.size + 2) 0 (.int .i64 1) #[.int .i64 1] ?hxq4 ?hyq4 ?hvq4 28 #[.int .i64 0] #[.int .i64 1] he2 ?hiq4 ?hlq4 ?hoq4 ?hnq4 ?_); (case hxq4 => rfl); (case hyq4 => first | rfl | assumption | go_num); (case hvq4 => rfl); (case hiq4 => exact info_errno); (case hlq4 => simp); (case hoq4 => exact one_int _); (case hnq4 => rfl)
         intro v3 hg3 hs3 hz3
         have hs3' := (other_block hg3 (show w.heap.size + 1 ≠ w.heap.size + 2 by omega) (Array.getElem?_eq_some_iff.1 hs2).1).trans hs2
         have HB3 := Lib.hid (show Below w.heap.size w v3 from Below.grows HB2.out hg3 HB2.out.size (by omega))))
    exact ⟨_, results_two_blk Try.results12 _ _ _ (w.heap.size + 1) (w.heap.size + 2) 24 #[.int .i64 s.pl, .int .i64 s.st, .int .i64 s.nx, .int .i64 s.ph, .int .i64 s.t, .int .i64 s.hd, .int .i64 s.hl, .int .i64 s.ak, .int .i64 s.wt, .bool s.sp] (0, 0) _ rfl hs3' Try.underlying24 rfl info_sig rfl _ (load_errno hs3), rfl, HB3.out⟩
end Go.Proofs.Ytgnhmdfajnnkhaa


/- Do of the landed package safe, of a command that turns. -/
namespace Go.Proofs.Ytgnhmdfajnnkhaa
set_option maxRecDepth 100000
set_option linter.unusedVariables false
set_option linter.unusedSimpArgs false
open Go.RowKit

theorem ask_err (l : List Pl) (s : Sg) (k a : Int) (h : (askS l s k a).2 ≠ 0) : (askS l s k a).1 = s := by
  revert h
  unfold askS bareS
  repeat' split
  all_goals simp
set_option maxHeartbeats 32000000 in
theorem do_ok (A : Option Addr) (n c : Nat) (l : List Pl) (s : Sg) (k a : Int) (fi : Nat) (hk : (k = 1 ∧ fi = 30) ∨ (k = 2 ∧ fi = 31) ∨ (k = 3 ∧ fi = 32) ∨ (k = 4 ∧ fi = 33) ∨ (k = 5 ∧ fi = 34) ∨ (k = 6 ∧ fi = 35)) (w : World) (g : Sg) (hl : Pls w A n c l) (hm : MayS l s) (HCX : ∀ X, Below w.heap.size w X → Calls Try.prog fi #[wsV A n c s a] X (fun e w' => e = .returned (sgV g) ∧ Below X.heap.size X w')) : Calls Try.prog 12 #[.slice A n c, sgV s, .int .i64 k, .int .i64 a] w (GivesGE (g, 0) w) := by
  have hs : SmG s := small_may hm
  obtain ⟨W1, hW1⟩ : ∃ W1, w.alloc (.cells #[.int .i64 s.pl, .int .i64 s.st, .int .i64 s.nx, .int .i64 s.ph, .int .i64 s.t, .int .i64 s.hd, .int .i64 s.hl, .int .i64 s.ak, .int .i64 s.wt, .bool s.sp] 24) = W1 := ⟨_, rfl⟩
  obtain ⟨W2, hW2⟩ : ∃ W2, W1.alloc (.cells #[.int .i64 0, .int .i64 0, .int .i64 0, .int .i64 0, .int .i64 0, .int .i64 0, .int .i64 0, .int .i64 0, .int .i64 0, .bool false] 24) = W2 := ⟨_, rfl⟩
  obtain ⟨W0, hW0⟩ : ∃ W0, W2.alloc (.cells #[.int .i64 0] 28) = W0 := ⟨_, rfl⟩
  have z1 : W1.heap.size = w.heap.size + 1 := by rw [← hW1]; simp
  have z2 : W2.heap.size = w.heap.size + 2 := by rw [← hW2]; simp [z1]
  have z0 : W0.heap.size = w.heap.size + 3 := by rw [← hW0]; simp [z2]
  have b1 : Below w.heap.size w W1 := by rw [← hW1]; exact one_alloc w _
  have b2 : Below W1.heap.size W1 W2 := by rw [← hW2]; exact one_alloc W1 _
  have b0 : Below W2.heap.size W2 W0 := by rw [← hW0]; exact one_alloc W2 _
  have HSB := Lib.hid (show W0.heap[w.heap.size]? = some (.cells #[.int .i64 s.pl, .int .i64 s.st, .int .i64 s.nx, .int .i64 s.ph, .int .i64 s.t, .int .i64 s.hd, .int .i64 s.hl, .int .i64 s.ak, .int .i64 s.wt, .bool s.sp] 24 (0, 0)) from (b0.block w.heap.size (by omega)).trans ((b2.block w.heap.size (by omega)).trans (by rw [← hW1]; exact heap_alloc_new w _)))
  have HZB := Lib.hid (show W0.heap[w.heap.size + 1]? = some (.cells #[.int .i64 0, .int .i64 0, .int .i64 0, .int .i64 0, .int .i64 0, .int .i64 0, .int .i64 0, .int .i64 0, .int .i64 0, .bool false] 24 (0, 0)) from (b0.block (w.heap.size + 1) (by omega)).trans (by rw [← hW2, ← z1]; exact heap_alloc_new W1 _))
  have HEB := Lib.hid (show W0.heap[w.heap.size + 2]? = some (.cells #[.int .i64 0] 28 (0, 0)) by rw [← hW0, ← z2]; exact heap_alloc_new W2 _)
  have HB0 := Lib.hid (show Below w.heap.size w W0 from b1.trans ((b2.trans (b0.mono b2.size)).mono b1.size))
  have HZ0 := Lib.hid z0
  have HW := Lib.hid (show ((w.alloc (.cells #[.int .i64 s.pl, .int .i64 s.st, .int .i64 s.nx, .int .i64 s.ph, .int .i64 s.t, .int .i64 s.hd, .int .i64 s.hl, .int .i64 s.ak, .int .i64 s.wt, .bool s.sp] 24)).alloc (.cells #[.int .i64 0, .int .i64 0, .int .i64 0, .int .i64 0, .int .i64 0, .int .i64 0, .int .i64 0, .int .i64 0, .int .i64 0, .bool false] 24)).alloc (.cells #[.int .i64 0] 28) = W0 by rw [hW1, hW2, hW0])
  clear hW0 hW1 hW2 z1 z2 z0 b1 b2 b0
  have HMY := Lib.hid (fun X (hX : Below w.heap.size w X) => tmay_any A n c l s X (hl.below hX) hs)
  have HTU := Lib.hid (fun X => turns_any k X)
  have HC := Lib.hid HCX
  rw [mayS_iff.2 hm] at HMY
  have hmf : ∀ (fn : Fn) (first cap : Array Value) (w : World), (Instr.makeFunc fn first cap).run Try.prog w = .ok (.func fn first cap) w := fun _ _ _ _ => rfl
  rw [show turnsB k = true by rcases hk with ⟨rfl, -⟩ | ⟨rfl, -⟩ | ⟨rfl, -⟩ | ⟨rfl, -⟩ | ⟨rfl, -⟩ | ⟨rfl, -⟩ <;> rfl] at HTU
  unfold GivesGE
  unfold sgV wsV at *
  clear hl hm hs HCX
  rcases hk with ⟨rfl, rfl⟩ | ⟨rfl, rfl⟩ | ⟨rfl, rfl⟩ | ⟨rfl, rfl⟩ | ⟨rfl, rfl⟩ | ⟨rfl, rfl⟩
  all_goals
    go_enter_defers Try.func12, Try.ntmps12
    go_wp2_with (first
      | (go_at_call 22
         rw [HW.out]
         (with_reducible refine (HMY.out _ HB0.out).mono ?_)
         rintro e w1 ⟨rfl, hb1⟩
         have hz1' := HZ0.out
         have hs1 := (hb1.block w.heap.size (by omega)).trans HSB.out
         have hz1 := (hb1.block (w.heap.size + 1) (by omega)).trans HZB.out
         have he1 := (hb1.block (w.heap.size + 2) (by omega)).trans HEB.out
         have HB1 := Lib.hid (HB0.out.trans (hb1.mono HB0.out.size))
         obtain ⟨c0, c1, c2, c3, c4, c5, c6, c7, c8, c9⟩ := (show BoxG w1 w.heap.size s from hs1).cells
         clear hb1 hz1')
      | (go_at_call 21
         (with_reducible refine (HTU.out _).mono ?_)
         rintro e wq ⟨rfl, hwq⟩
         have hwq' := hwq.symm
         subst hwq')
      | ((first | go_at_call 30 | go_at_call 31 | go_at_call 32 | go_at_call 33 | go_at_call 34 | go_at_call 35)
         (with_reducible refine (HC.out _ (HB1.out.trans ((below_alloc2 w1 _ _).mono HB1.out.size))).mono ?_)
         rintro e w3 ⟨rfl, hbx⟩
         have hbw : Below w1.heap.size w1 w3 := (below_alloc2 w1 _ _).trans (hbx.mono (below_alloc2 w1 _ _).size)
         have hl1 : w.heap.size + 2 < w1.heap.size := (Array.getElem?_eq_some_iff.1 he1).1
         have hs3 := (hbw.block w.heap.size (by omega)).trans hs1
         have hz3 := (hbw.block (w.heap.size + 1) (by omega)).trans hz1
         have he3 := (hbw.block (w.heap.size + 2) (by omega)).trans he1
         have HB3 := Lib.hid (HB1.out.trans (hbw.mono HB1.out.size))
         clear hbx hbw hl1)
      | ((with_reducible refine wpList_store_part rfl 24 _ _ rfl (w.heap.size + 1) 0 (.agg #[.int .i64 g.pl, .int .i64 g.st, .int .i64 g.nx, .int .i64 g.ph, .int .i64 g.t, .int .i64 g.hd, .int .i64 g.hl, .int .i64 g.ak, .int .i64 g.wt, .bool g.sp]) #[.int .i64 g.pl, .int .i64 g.st, .int .i64 g.nx, .int .i64 g.ph, .int .i64 g.t, .int .i64 g.hd, .int .i64 g.hl, .int .i64 g.ak, .int .i64 g.wt, .bool g.sp] ?hxq5 ?hyq5 ?hvq5 24 #[.int .i64 0, .int .i64 0, .int .i64 0, .int .i64 0, .int .i64 0, .int .i64 0, .int .i64 0, .int .i64 0, .int .i64 0, .bool false] #[.int .i64 g.pl, .int .i64 g.st, .int .i64 g.nx, .int .i64 g.ph, .int .i64 g.t, .int .i64 g.hd, .int .i64 g.hl, .int .i64 g.ak, .int .i64 g.wt, .bool g.sp] hz3 ?hiq5 ?hlq5 ?hoq5 ?hnq5 ?_); (case hxq5 => rfl); (case hyq5 => first | rfl | assumption | go_num); (case hvq5 => rfl); (case hiq5 => exact info_sig); (case hlq5 => simp); (case hoq5 => exact one_sig _ _ _ _ _ _ _ _ _ _); (case hnq5 => rfl)
         intro v4 hg4 hs4 hz4
         have he4 := (other_block hg4 (show w.heap.size + 2 ≠ w.heap.size + 1 by omega) (Array.getElem?_eq_some_iff.1 he3).1).trans he3
         have HB4 := Lib.hid (show Below w.heap.size w v4 from Below.grows HB3.out hg4 HB3.out.size (by omega)))
      | ((with_reducible refine wpList_store_part rfl 28 _ _ rfl (w.heap.size + 2) 0 (.int .i64 0) #[.int .i64 0] ?hxq6 ?hyq6 ?hvq6 28 #[.int .i64 0] #[.int .i64 0] he4 ?hiq6 ?hlq6 ?hoq6 ?hnq6 ?_); (case hxq6 => rfl); (case hyq6 => first | rfl | assumption | go_num); (case hvq6 => rfl); (case hiq6 => exact info_errno); (case hlq6 => simp); (case hoq6 => exact one_int _); (case hnq6 => rfl)
         intro v5 hg5 hs5 hz5
         have hs5' := (other_block hg5 (show w.heap.size + 1 ≠ w.heap.size + 2 by omega) (Array.getElem?_eq_some_iff.1 hs4).1).trans hs4
         have HB5 := Lib.hid (show Below w.heap.size w v5 from Below.grows HB4.out hg5 HB4.out.size (by omega))))
    refine leaves_cons (f := 29) (args := #[.pointer (some ⟨w.heap.size, 0, none⟩), .pointer (some ⟨w.heap.size + 1, 0, none⟩), .pointer (some ⟨w.heap.size + 2, 0, none⟩)]) (by simp) (by simp [go_sem]) ?_
    refine (catch_idle w.heap.size (w.heap.size + 1) (w.heap.size + 2) _).mono ?_
    rintro e u' w6 ⟨rfl, rfl, rfl⟩
    exact ⟨_, results_two_blk Try.results12 _ _ _ (w.heap.size + 1) (w.heap.size + 2) 24 #[.int .i64 g.pl, .int .i64 g.st, .int .i64 g.nx, .int .i64 g.ph, .int .i64 g.t, .int .i64 g.hd, .int .i64 g.hl, .int .i64 g.ak, .int .i64 g.wt, .bool g.sp] (0, 0) _ rfl hs5' Try.underlying24 rfl info_sig rfl _ (load_errno hs5), rfl, HB5.out⟩
set_option maxHeartbeats 32000000 in
theorem do_err (A : Option Addr) (n c : Nat) (l : List Pl) (s : Sg) (k a : Int) (fi : Nat) (hk : (k = 1 ∧ fi = 30) ∨ (k = 2 ∧ fi = 31) ∨ (k = 3 ∧ fi = 32) ∨ (k = 4 ∧ fi = 33) ∨ (k = 5 ∧ fi = 34) ∨ (k = 6 ∧ fi = 35)) (w : World) (q : Int) (hl : Pls w A n c l) (hm : MayS l s) (HCX : ∀ X, Below w.heap.size w X → Calls Try.prog fi #[wsV A n c s a] X (fun e w' => e = .panicked [whyV q] ∧ Below X.heap.size X w')) : Calls Try.prog 12 #[.slice A n c, sgV s, .int .i64 k, .int .i64 a] w (GivesGE (s, q) w) := by
  have hs : SmG s := small_may hm
  obtain ⟨W1, hW1⟩ : ∃ W1, w.alloc (.cells #[.int .i64 s.pl, .int .i64 s.st, .int .i64 s.nx, .int .i64 s.ph, .int .i64 s.t, .int .i64 s.hd, .int .i64 s.hl, .int .i64 s.ak, .int .i64 s.wt, .bool s.sp] 24) = W1 := ⟨_, rfl⟩
  obtain ⟨W2, hW2⟩ : ∃ W2, W1.alloc (.cells #[.int .i64 0, .int .i64 0, .int .i64 0, .int .i64 0, .int .i64 0, .int .i64 0, .int .i64 0, .int .i64 0, .int .i64 0, .bool false] 24) = W2 := ⟨_, rfl⟩
  obtain ⟨W0, hW0⟩ : ∃ W0, W2.alloc (.cells #[.int .i64 0] 28) = W0 := ⟨_, rfl⟩
  have z1 : W1.heap.size = w.heap.size + 1 := by rw [← hW1]; simp
  have z2 : W2.heap.size = w.heap.size + 2 := by rw [← hW2]; simp [z1]
  have z0 : W0.heap.size = w.heap.size + 3 := by rw [← hW0]; simp [z2]
  have b1 : Below w.heap.size w W1 := by rw [← hW1]; exact one_alloc w _
  have b2 : Below W1.heap.size W1 W2 := by rw [← hW2]; exact one_alloc W1 _
  have b0 : Below W2.heap.size W2 W0 := by rw [← hW0]; exact one_alloc W2 _
  have HSB := Lib.hid (show W0.heap[w.heap.size]? = some (.cells #[.int .i64 s.pl, .int .i64 s.st, .int .i64 s.nx, .int .i64 s.ph, .int .i64 s.t, .int .i64 s.hd, .int .i64 s.hl, .int .i64 s.ak, .int .i64 s.wt, .bool s.sp] 24 (0, 0)) from (b0.block w.heap.size (by omega)).trans ((b2.block w.heap.size (by omega)).trans (by rw [← hW1]; exact heap_alloc_new w _)))
  have HZB := Lib.hid (show W0.heap[w.heap.size + 1]? = some (.cells #[.int .i64 0, .int .i64 0, .int .i64 0, .int .i64 0, .int .i64 0, .int .i64 0, .int .i64 0, .int .i64 0, .int .i64 0, .bool false] 24 (0, 0)) from (b0.block (w.heap.size + 1) (by omega)).trans (by rw [← hW2, ← z1]; exact heap_alloc_new W1 _))
  have HEB := Lib.hid (show W0.heap[w.heap.size + 2]? = some (.cells #[.int .i64 0] 28 (0, 0)) by rw [← hW0, ← z2]; exact heap_alloc_new W2 _)
  have HB0 := Lib.hid (show Below w.heap.size w W0 from b1.trans ((b2.trans (b0.mono b2.size)).mono b1.size))
  have HZ0 := Lib.hid z0
  have HW := Lib.hid (show ((w.alloc (.cells #[.int .i64 s.pl, .int .i64 s.st, .int .i64 s.nx, .int .i64 s.ph, .int .i64 s.t, .int .i64 s.hd, .int .i64 s.hl, .int .i64 s.ak, .int .i64 s.wt, .bool s.sp] 24)).alloc (.cells #[.int .i64 0, .int .i64 0, .int .i64 0, .int .i64 0, .int .i64 0, .int .i64 0, .int .i64 0, .int .i64 0, .int .i64 0, .bool false] 24)).alloc (.cells #[.int .i64 0] 28) = W0 by rw [hW1, hW2, hW0])
  clear hW0 hW1 hW2 z1 z2 z0 b1 b2 b0
  have HMY := Lib.hid (fun X (hX : Below w.heap.size w X) => tmay_any A n c l s X (hl.below hX) hs)
  have HTU := Lib.hid (fun X => turns_any k X)
  have HC := Lib.hid HCX
  rw [mayS_iff.2 hm] at HMY
  have hmf : ∀ (fn : Fn) (first cap : Array Value) (w : World), (Instr.makeFunc fn first cap).run Try.prog w = .ok (.func fn first cap) w := fun _ _ _ _ => rfl
  rw [show turnsB k = true by rcases hk with ⟨rfl, -⟩ | ⟨rfl, -⟩ | ⟨rfl, -⟩ | ⟨rfl, -⟩ | ⟨rfl, -⟩ | ⟨rfl, -⟩ <;> rfl] at HTU
  unfold GivesGE
  unfold sgV wsV at *
  clear hl hm hs HCX
  rcases hk with ⟨rfl, rfl⟩ | ⟨rfl, rfl⟩ | ⟨rfl, rfl⟩ | ⟨rfl, rfl⟩ | ⟨rfl, rfl⟩ | ⟨rfl, rfl⟩
  all_goals
    go_enter_defers Try.func12, Try.ntmps12
    go_wp2_with (first
      | (go_at_call 22
         rw [HW.out]
         (with_reducible refine (HMY.out _ HB0.out).mono ?_)
         rintro e w1 ⟨rfl, hb1⟩
         have hz1' := HZ0.out
         have hs1 := (hb1.block w.heap.size (by omega)).trans HSB.out
         have hz1 := (hb1.block (w.heap.size + 1) (by omega)).trans HZB.out
         have he1 := (hb1.block (w.heap.size + 2) (by omega)).trans HEB.out
         have HB1 := Lib.hid (HB0.out.trans (hb1.mono HB0.out.size))
         obtain ⟨c0, c1, c2, c3, c4, c5, c6, c7, c8, c9⟩ := (show BoxG w1 w.heap.size s from hs1).cells
         clear hb1 hz1')
      | (go_at_call 21
         (with_reducible refine (HTU.out _).mono ?_)
         rintro e wq ⟨rfl, hwq⟩
         have hwq' := hwq.symm
         subst hwq')
      | ((first | go_at_call 30 | go_at_call 31 | go_at_call 32 | go_at_call 33 | go_at_call 34 | go_at_call 35)
         (with_reducible refine (HC.out _ (HB1.out.trans ((below_alloc2 w1 _ _).mono HB1.out.size))).mono ?_)
         rintro e w3 ⟨rfl, hbx⟩
         have hbw : Below w1.heap.size w1 w3 := (below_alloc2 w1 _ _).trans (hbx.mono (below_alloc2 w1 _ _).size)
         have hl1 : w.heap.size + 2 < w1.heap.size := (Array.getElem?_eq_some_iff.1 he1).1
         have hs3 := (hbw.block w.heap.size (by omega)).trans hs1
         have hz3 := (hbw.block (w.heap.size + 1) (by omega)).trans hz1
         have he3 := (hbw.block (w.heap.size + 2) (by omega)).trans he1
         have HB3 := Lib.hid (HB1.out.trans (hbw.mono HB1.out.size))
         clear hbx hbw hl1))
    refine leaves_cons (f := 29) (args := #[.pointer (some ⟨w.heap.size, 0, none⟩), .pointer (some ⟨w.heap.size + 1, 0, none⟩), .pointer (some ⟨w.heap.size + 2, 0, none⟩)]) (by simp) (by simp [go_sem]) ?_
    refine (catch_why w.heap.size (w.heap.size + 1) (w.heap.size + 2) s q _ hs3 hz3 he3 (by omega)).mono ?_
    rintro e u' w6 ⟨rfl, rfl, g1, g2, g3⟩
    exact ⟨_, results_two_blk Try.results12 _ _ _ (w.heap.size + 1) (w.heap.size + 2) 24 #[.int .i64 s.pl, .int .i64 s.st, .int .i64 s.nx, .int .i64 s.ph, .int .i64 s.t, .int .i64 s.hd, .int .i64 s.hl, .int .i64 s.ak, .int .i64 s.wt, .bool s.sp] (0, 0) _ rfl g1 Try.underlying24 rfl info_sig rfl _ (load_errno g2), rfl, HB3.out.trans (g3 w.heap.size (by omega) (by omega) HB3.out.size)⟩
theorem sdo_any (A : Option Addr) (n c : Nat) (l : List Pl) (s : Sg) (k a : Int) (w : World) (hl : Pls w A n c l) (hs : SmG s) : Calls Try.prog 12 #[.slice A n c, sgV s, .int .i64 k, .int .i64 a] w (GivesGE (doS l s k a) w) := by
  by_cases hd : mayS l s = true ∧ turnsB k = true
  · rw [doS, if_pos hd]
    have hm := mayS_iff.1 hd.1
    have main : ∀ (fi : Nat), ((k = 1 ∧ fi = 30) ∨ (k = 2 ∧ fi = 31) ∨ (k = 3 ∧ fi = 32) ∨ (k = 4 ∧ fi = 33) ∨ (k = 5 ∧ fi = 34) ∨ (k = 6 ∧ fi = 35)) → (∀ X, Below w.heap.size w X → Calls Try.prog fi #[wsV A n c s a] X (GivesWs (askS l s k a) X)) → Calls Try.prog 12 #[.slice A n c, sgV s, .int .i64 k, .int .i64 a] w (GivesGE (askS l s k a) w) := by
      intro fi hk HC
      obtain ⟨⟨g, q⟩, hr⟩ : ∃ r, askS l s k a = r := ⟨_, rfl⟩
      have he := ask_err l s k a
      rw [hr] at HC he ⊢
      by_cases hq : q = 0
      · subst hq
        refine do_ok A n c l s k a fi hk w g hl hm fun X hX => (HC X hX).mono fun e w' h => ?_
        rcases h with ⟨⟨-, rfl⟩ | ⟨h, -⟩, hb⟩
        · exact ⟨rfl, hb⟩
        · exact absurd rfl h
      · obtain rfl : g = s := he hq
        refine do_err A n c l g k a fi hk w q hl hm fun X hX => (HC X hX).mono fun e w' h => ?_
        rcases h with ⟨⟨h, -⟩ | ⟨-, rfl⟩, hb⟩
        · exact absurd h hq
        · exact ⟨rfl, hb⟩
    have hk : k = 1 ∨ k = 2 ∨ k = 3 ∨ k = 4 ∨ k = 5 ∨ k = 6 := by
      have h := hd.2
      rw [turnsB, Bool.and_eq_true, decide_eq_true_eq, decide_eq_true_eq] at h
      omega
    rcases hk with rfl | rfl | rfl | rfl | rfl | rfl
    · exact main 30 (by simp) fun X hX => whold_any A n c l s a X (hl.below hX) hm
    · exact main 31 (by simp) fun X hX => wfree_any A n c l s a X
    · exact main 32 (by simp) fun X hX => wnext_any A n c l s a X (hl.below hX) hm
    · exact main 33 (by simp) fun X hX => wplan_any A n c l s a X (hl.below hX)
    · exact main 34 (by simp) fun X hX => wred_any A n c l s a X
    · exact main 35 (by simp) fun X hX => wclear_any A n c l s a X
  · rw [doS, if_neg hd]
    exact do_no A n c l s k a w hl hs hd
end Go.Proofs.Ytgnhmdfajnnkhaa


/- A store of one number, or one bool, into a slice of rows of the call's own. -/
namespace Go.Proofs.Ytgnhmdfajnnkhaa
set_option linter.unusedVariables false
set_option linter.unusedSimpArgs false
open Go.RowKit

theorem set_flat {k : Nat} : ∀ (rows : List (List Value)), (∀ r ∈ rows, r.length = k) → ∀ (j i : Nat) (v : Value), j < rows.length → i < k → rows.flatten.set (j * k + i) v = (rows.set j ((rows.getD j []).set i v)).flatten
  | [], _, j, i, v, hj, _ => by simp at hj
  | r :: rows, h, 0, i, v, _, hi => by
    have hr : r.length = k := h r (by simp)
    simp only [List.flatten_cons, List.set_cons_zero, List.getD_cons_zero, Nat.zero_mul, Nat.zero_add]
    rw [List.set_append_left _ _ (by omega)]
  | r :: rows, h, j + 1, i, v, hj, hi => by
    have hr : r.length = k := h r (by simp)
    have ih := set_flat rows (fun x hx => h x (by simp [hx])) j i v (by simpa using hj) hi
    simp only [List.flatten_cons, List.set_cons_succ, List.getD_cons_succ]
    have e : (j + 1) * k + i = k + (j * k + i) := by rw [Nat.add_mul, Nat.one_mul]; omega
    rw [List.set_append_right _ _ (by rw [e, hr]; omega), e, hr, Nat.add_sub_cancel_left, ih]
section
variable {P : Program} {e : TypeId} {k g n cap base : Nat} {w : World} {rows : List (List Value)}
theorem OwnR.put (h : OwnR e k w base (.slice (some ⟨g, 0, none⟩) n cap) rows) (hn : rows.length = n) (j i : Nat) (hj : j < n) (hi : i < k) (v : Value) (hv : v.oneCell' = true) :
    OwnR e k (w.setCell ⟨g, j * k + i, none⟩ v) base (.slice (some ⟨g, 0, none⟩) n cap) (rows.set j ((rows.getD j []).set i v)) ∧ w.grownBy (w.setCell ⟨g, j * k + i, none⟩ v) (some g) := by
  subst hn
  have hs := World.ownsRow.stored h.row (j * k + i) v
  have hg : rows.getD j [] = rows[j] := by simp [List.getD_eq_getElem?_getD, hj]
  have hm : rows[j] ∈ rows := List.getElem_mem hj
  refine ⟨⟨?_, fun r hr => ?_, fun r hr u hu => ?_⟩, hs.2⟩
  · rw [List.length_set, ← set_flat rows h.wid j i v hj hi]
    exact hs.1
  · rcases List.mem_or_eq_of_mem_set hr with hr | rfl
    · exact h.wid r hr
    · rw [List.length_set, hg]; exact h.wid _ hm
  · rcases List.mem_or_eq_of_mem_set hr with hr | rfl
    · exact h.one r hr u hu
    · rcases List.mem_or_eq_of_mem_set hu with hu | rfl
      · rw [hg] at hu; exact h.one _ hm u hu
      · exact hv
theorem OwnR.cell (h : OwnR e k w base (.slice (some ⟨g, 0, none⟩) n cap) rows) (hn : rows.length = n) (j i : Nat) (hj : j < n) (hi : i < k) : w.cell? ⟨g, j * k + i, none⟩ = some ((rows.getD j []).getD i undef) := by
  subst hn
  have hlt : j * k + i < rows.length * k := by
    have : (j + 1) * k ≤ rows.length * k := Nat.mul_le_mul_right _ hj
    rw [Nat.add_mul, Nat.one_mul] at this
    omega
  rw [World.ownsRow.cellAt h.row _ hlt, ← flat_get h.wid j i hj hi]
theorem own_size {ty : TypeId} (h : (P.info? ty).map (·.size) = some 1) (w : World) : (sizeOf ty).run P w = .ok 1 w := by
  cases hi : P.info? ty with
  | none => simp [hi] at h
  | some i => simp [hi] at h; simp [sizeOf, typeInfo, hi, h]
end
end Go.Proofs.Ytgnhmdfajnnkhaa


/- make([]T, 0, n) in a region that draws its order, T of k cells. -/
namespace Go.Proofs.Ytgnhmdfajnnkhaa
set_option linter.unusedVariables false
set_option linter.unusedSimpArgs false
open Go.RowKit

theorem step_make_r {P : Program} {w : World} {ops : Array Oper} {o : Oper} {a : Act} {K : Act → World → Prop} {Q : Exit → Act → World → Prop} {E : Prop} (t e : TypeId) (z : Value) (k B : Nat) (l c : Operand) (ho : o.op = Op.makeSlice t l c)
    (hu : P.underlying t = some (.slice e)) (hinfo : (P.info? e).map (fun i => (i.zero, i.size, i.bytes)) = some (some z, k, B))
    (base : Nat) (C : Int) (n : Nat) (hl : a.eval l = .int .i64 0) (hc : a.eval c = .int .i64 C) (hC : C = (n : Int)) (hn : B * n ≤ 281474976710656) (h63 : n ≤ maxLen) (hb : base ≤ w.heap.size)
    (hw : Region.wanted o (yielded ops a.tmps) = true)
    (h : ∀ ob, OwnR e k (w.alloc ob) base (.slice (some ⟨w.heap.size, 0, none⟩) 0 n) [] → K (a.put o.dst (.slice (some ⟨w.heap.size, 0, none⟩) 0 n)) (w.alloc ob)) : if Region.wanted o (yielded ops a.tmps) = true then Oper.wp P o a w K Q else E := by
  rw [if_pos hw]
  obtain ⟨i, hi, hz, h1, h2⟩ := info_parts hinfo
  obtain ⟨w', hrun, r1, -⟩ := run_make_own (P := P) w base t e i z k hu hi hz h1 .i64 .i64 n (by rw [h2]; exact hn) h63 hb
  have hbb : (i.bytes : Int) * (n : Int) ≤ 281474976710656 := by
    have h : ((i.bytes * n : Nat) : Int) ≤ 281474976710656 := by rw [h2]; omega
    rwa [Int.natCast_mul] at h
  have hmm : (n : Int) ≤ 9223372036854775807 := by
    have h := h63
    simp [maxLen] at h
    omega
  have hr2 := run_make (P := P) w t e i z hu hi hz .i64 .i64 0 n (Int.le_refl _) (by omega) hbb hmm
  rw [hr2] at hrun
  have hww : w.alloc (.cells (madeCells z.cells ((n : Int).toNat * i.size)) e) = w' := by
    injection hrun
  subst hC
  unfold Oper.wp
  simp only [ho, execOp, hl, hc, hr2, Sem.run_bind, Result.andThen_ok, Sem.run_pure]
  rw [← hww] at r1
  exact h _ ⟨r1, (fun _ h => by cases h), (fun _ h => by cases h)⟩
end Go.Proofs.Ytgnhmdfajnnkhaa

