/- Joined texts: What the laws of stage take of lamp and plan, from the landed code. The landed package stage's New, May, Tick, Lamps, Run: all that the laws take of it. make([]T, 0, n) in a region that draws its order, T of k cells. -/
import Derived.Test.YtcgakgbnhlmcaaaStJG
import Derived.Test.YtcgakgbnhlmcaaaStJN
import Derived.Test.YtcgakgbnhlmcaaaStJM
import Derived.Test.YtcgakgbnhlmcaaaStJR
import Derived.Test.YtcgakgbnhlmcaaaStJS
import Derived.Test.YtcgakgbnhlmcaaaStJF
import Derived.Test.YtcgakgbnhlmcaaaStJA
/- What the laws of stage take of lamp and plan, from the landed code. -/
namespace Go.Proofs.Ytcgakgbnhlmcaaa
set_option maxRecDepth 100000
set_option linter.unusedVariables false
set_option linter.unusedSimpArgs false
open Go.RowKit

theorem lmpText : LmpText where
  text := fun A n c l X h _ => ltext_any A n c l X h
theorem lmpClash : LmpClash where
  may := fun A n c l X h _ => (lmay_any A n c l X h).mono fun _ _ g => ⟨g.1, g.2 ▸ Below.refl _ _⟩
  clash := fun p A n c l X h hb _ _ _ => lclashp_any p A n c l X h hb
theorem allOk : AllOk where
  all := fun A n c l X h _ _ => pall_own A n c l X h
end Go.Proofs.Ytcgakgbnhlmcaaa


/- The landed package stage's New, May, Tick, Lamps, Run: all that the laws take of it. -/
namespace Go.Proofs.Ytcgakgbnhlmcaaa
set_option maxRecDepth 100000
set_option linter.unusedVariables false
set_option linter.unusedSimpArgs false
open Go.RowKit

theorem tnew_any (X : World) : Calls Try.prog 20 #[] X (GivesG newG X) := by
  unfold GivesG sgV newG
  go_enter Try.func20, Try.ntmps20
  go_wp2
  refine bodyPost_ret (v := .agg #[.int .i64 0, .int .i64 0, .int .i64 0, .int .i64 2, .int .i64 0, .int .i64 0, .int .i64 0, .int .i64 (-1), .int .i64 (-1), .bool false]) ?_ rfl ⟨rfl, one_alloc _ _⟩
  exact results_cell_row Try.results20 _ _ X.heap.size 24 #[.int .i64 0, .int .i64 0, .int .i64 0, .int .i64 2, .int .i64 0, .int .i64 0, .int .i64 0, .int .i64 (-1), .int .i64 (-1), .bool false] (0, 0) _ rfl (heap_alloc_new _ _) Try.underlying24 rfl info_sig
set_option maxHeartbeats 4000000 in
theorem tmay_any (A : Option Addr) (n c : Nat) (l : List Pl) (s : Sg) (w : World) (hl : Pls w A n c l) (hs : SmG s) : Calls Try.prog 17 #[.slice A n c, sgV s] w fun e w' => e = .returned (.bool (mayS l s)) ∧ Below w.heap.size w w' := by
  have hlen := hl.len
  have hsm := hl.small
  obtain ⟨W1, hW1⟩ : ∃ W1, w.alloc (.cells #[.int .i64 s.pl, .int .i64 s.st, .int .i64 s.nx, .int .i64 s.ph, .int .i64 s.t, .int .i64 s.hd, .int .i64 s.hl, .int .i64 s.ak, .int .i64 s.wt, .bool s.sp] 24) = W1 := ⟨_, rfl⟩
  have hB1 : Below w.heap.size w W1 := by rw [← hW1]; exact one_alloc w _
  have hbg : BoxG W1 w.heap.size s := by rw [← hW1]; exact BoxG.new w s
  have HW := Lib.hid hW1
  have HB1 := Lib.hid hB1
  have HBG := Lib.hid (show ∀ X, Below W1.heap.size W1 X → CellsG X w.heap.size s from fun X hX => (hbg.below hX).cells)
  have HAL := Lib.hid (pall_own A n c l W1 (hl.below hB1))
  have HPC := Lib.hid (fun X => place_any s.pl n X)
  have HFI0 := Lib.hid (fun (ha : allP l = true) (h0 : 0 ≤ s.pl) (h1 : s.pl < n) X (hX : Below W1.heap.size W1 X) => mfits_any A n c l s X ((hl.below hB1).below hX) ha h0 h1 hs)
  have hM : mayS l s = (allP l && (placeB s.pl n && mayS l s)) := by
    cases hm : mayS l s
    · simp
    · have h := mayS_iff.1 hm
      rw [h.all, place_iff.2 ⟨h.p0, by have := h.p1; rw [hlen] at this; exact this⟩]
      rfl
  have HM := Lib.hid hM
  unfold mcV at HFI0
  unfold sgV
  clear hl hbg hB1 hW1 hM hlen hs
  obtain ⟨Pb, hP⟩ : ∃ b, placeB s.pl n = b := ⟨_, rfl⟩
  rw [hP] at HPC HM
  obtain ⟨R, hR⟩ : ∃ R, mayS l s = R := ⟨_, rfl⟩
  rw [hR] at HFI0 HM ⊢
  clear hR
  cases ha : allP l
  · rw [ha] at HAL HM
    clear ha HFI0 hP
    obtain ⟨pl, st, nx, ph, t, hd, hh, ak, wt, sp⟩ := s
    simp only at *
    go_enter Try.func17, Try.ntmps17
    go_wp2_with (first
      | (go_at_call 24; rw [HW.out]; (with_reducible refine (HAL.out).mono ?_); rintro e w1 ⟨rfl, hb1⟩; have HS := Lib.hid hb1; obtain ⟨c0, c1, c2, c3, c4, c5, c6, c7, c8, c9⟩ := HBG.out w1 hb1; clear hb1)
      | (go_at_call 32; (with_reducible refine (HPC.out _).mono ?_); rintro e wq ⟨rfl, rfl⟩))
    go_ret
    exact ⟨by rw [HM.out]; rfl, HB1.out.trans (HS.out.mono HB1.out.size)⟩
  · rw [ha] at HAL HM
    cases Pb
    · clear ha HFI0 hP
      obtain ⟨pl, st, nx, ph, t, hd, hh, ak, wt, sp⟩ := s
      simp only at *
      go_enter Try.func17, Try.ntmps17
      go_wp2_with (first
        | (go_at_call 24; rw [HW.out]; (with_reducible refine (HAL.out).mono ?_); rintro e w1 ⟨rfl, hb1⟩; have HS := Lib.hid hb1; obtain ⟨c0, c1, c2, c3, c4, c5, c6, c7, c8, c9⟩ := HBG.out w1 hb1; clear hb1)
        | (go_at_call 32; (with_reducible refine (HPC.out _).mono ?_); rintro e wq ⟨rfl, rfl⟩))
      go_ret
      exact ⟨by rw [HM.out]; rfl, HB1.out.trans (HS.out.mono HB1.out.size)⟩
    · have hpi := place_iff.1 hP
      have HFI := Lib.hid (HFI0.out ha hpi.1 hpi.2)
      clear ha HFI0 hP hpi
      obtain ⟨pl, st, nx, ph, t, hd, hh, ak, wt, sp⟩ := s
      simp only at *
      go_enter Try.func17, Try.ntmps17
      go_wp2_with (first
        | (go_at_call 24; rw [HW.out]; (with_reducible refine (HAL.out).mono ?_); rintro e w1 ⟨rfl, hb1⟩; have HS := Lib.hid hb1; obtain ⟨c0, c1, c2, c3, c4, c5, c6, c7, c8, c9⟩ := HBG.out w1 hb1; clear hb1)
        | (go_at_call 32; (with_reducible refine (HPC.out _).mono ?_); rintro e wq ⟨rfl, rfl⟩)
        | (go_at_call 33; (with_reducible refine (HFI.out _ HS.out).mono ?_); rintro e w2 ⟨rfl, hb2⟩; have HS2 := Lib.hid (HS.out.trans (hb2.mono HS.out.size)); clear hb2))
      go_ret
      exact ⟨rfl, HB1.out.trans (HS2.out.mono HB1.out.size)⟩
set_option maxHeartbeats 4000000 in
theorem ttick_any (A : Option Addr) (n c : Nat) (l : List Pl) (s : Sg) (w : World) (hl : Pls w A n c l) (hs : SmG s) : Calls Try.prog 18 #[.slice A n c, sgV s] w (GivesG (tickS l s) w) := by
  obtain ⟨W0, hW0⟩ : ∃ W0, (w.alloc (.cells #[.int .i64 s.pl, .int .i64 s.st, .int .i64 s.nx, .int .i64 s.ph, .int .i64 s.t, .int .i64 s.hd, .int .i64 s.hl, .int .i64 s.ak, .int .i64 s.wt, .bool s.sp] 24)).alloc (.cells #[.int .i64 0, .int .i64 0, .int .i64 0, .int .i64 0, .int .i64 0, .int .i64 0, .int .i64 0, .int .i64 0, .int .i64 0, .bool false] 24) = W0 := ⟨_, rfl⟩
  have HBW := Lib.hid (show Below w.heap.size w W0 by rw [← hW0]; exact below_alloc2 w _ _)
  have HSB := Lib.hid (show W0.heap[w.heap.size]? = some (.cells #[.int .i64 s.pl, .int .i64 s.st, .int .i64 s.nx, .int .i64 s.ph, .int .i64 s.t, .int .i64 s.hd, .int .i64 s.hl, .int .i64 s.ak, .int .i64 s.wt, .bool s.sp] 24 (0, 0)) by rw [← hW0]; exact alloc2_old w _ _)
  have HRB := Lib.hid (show W0.heap[w.heap.size + 1]? = some (.cells #[.int .i64 0, .int .i64 0, .int .i64 0, .int .i64 0, .int .i64 0, .int .i64 0, .int .i64 0, .int .i64 0, .int .i64 0, .bool false] 24 (0, 0)) by rw [← hW0]; exact alloc2_new w _ _)
  have HLT := Lib.hid (show w.heap.size < W0.heap.size ∧ w.heap.size + 1 < W0.heap.size from ⟨(Array.getElem?_eq_some_iff.1 HSB.out).1, (Array.getElem?_eq_some_iff.1 HRB.out).1⟩)
  have HW := Lib.hid hW0
  have HPL := Lib.hid (show ∀ X, Below w.heap.size w X → Pls X A n c l from fun X hX => hl.below hX)
  have HMY := Lib.hid (fun X (hX : Below w.heap.size w X) => tmay_any A n c l s X (hl.below hX) hs)
  cases hm : mayS l s
  · rw [tickS, if_neg (by rw [hm]; simp)]
    rw [hm] at HMY
    unfold GivesG sgV at *
    clear hl hm hW0 HPL hs
    go_enter Try.func18, Try.ntmps18
    go_wp2_with (first
      | (go_at_call 17
         try rw [HW.out]
         (with_reducible refine (HMY.out _ HBW.out).mono ?_)
         rintro e w1 ⟨rfl, hb1⟩
         have hS1 : Below w.heap.size w w1 := HBW.out.trans (hb1.mono HBW.out.size)
         have hs1 := (hb1.block w.heap.size HLT.out.1).trans HSB.out
         have hr1 := (hb1.block (w.heap.size + 1) HLT.out.2).trans HRB.out
         have HB1 := Lib.hid hS1
         obtain ⟨c0, c1, c2, c3, c4, c5, c6, c7, c8, c9⟩ := (show BoxG w1 w.heap.size s from hs1).cells
         clear hb1)
      | ((with_reducible refine wpList_store_part rfl 24 _ _ rfl (w.heap.size + 1) 0 (.agg #[.int .i64 s.pl, .int .i64 s.st, .int .i64 s.nx, .int .i64 s.ph, .int .i64 s.t, .int .i64 s.hd, .int .i64 s.hl, .int .i64 s.ak, .int .i64 s.wt, .bool s.sp]) #[.int .i64 s.pl, .int .i64 s.st, .int .i64 s.nx, .int .i64 s.ph, .int .i64 s.t, .int .i64 s.hd, .int .i64 s.hl, .int .i64 s.ak, .int .i64 s.wt, .bool s.sp] ?hxn ?hyn ?hvn 24 #[.int .i64 0, .int .i64 0, .int .i64 0, .int .i64 0, .int .i64 0, .int .i64 0, .int .i64 0, .int .i64 0, .int .i64 0, .bool false] #[.int .i64 s.pl, .int .i64 s.st, .int .i64 s.nx, .int .i64 s.ph, .int .i64 s.t, .int .i64 s.hd, .int .i64 s.hl, .int .i64 s.ak, .int .i64 s.wt, .bool s.sp] hr1 ?hin ?hln ?hon ?hnn ?_); (case hxn => rfl); (case hyn => rfl); (case hvn => rfl); (case hin => exact info_sig); (case hln => simp); (case hon => exact one_sig _ _ _ _ _ _ _ _ _ _); (case hnn => rfl)
         intro w9 hg9 hr9 hz9
         have HB9 := Lib.hid (show Below w.heap.size w w9 from Below.grows HB1.out hg9 HB1.out.size (by omega))
         clear hg9 hz9))
    refine bodyPost_ret (v := .agg #[.int .i64 s.pl, .int .i64 s.st, .int .i64 s.nx, .int .i64 s.ph, .int .i64 s.t, .int .i64 s.hd, .int .i64 s.hl, .int .i64 s.ak, .int .i64 s.wt, .bool s.sp]) ?_ rfl ⟨rfl, HB9.out⟩
    exact results_cell_row Try.results18 _ _ (w.heap.size + 1) 24 #[.int .i64 s.pl, .int .i64 s.st, .int .i64 s.nx, .int .i64 s.ph, .int .i64 s.t, .int .i64 s.hd, .int .i64 s.hl, .int .i64 s.ak, .int .i64 s.wt, .bool s.sp] (0, 0) _ rfl hr9 Try.underlying24 rfl info_sig
  · have HTK := Lib.hid (fun X (hX : Below w.heap.size w X) => ticked_any A n c l s X (hl.below hX) (mayS_iff.1 hm))
    rw [hm] at HMY
    unfold GivesM mcV at HTK
    unfold GivesG sgV at *
    obtain ⟨g, hg⟩ : ∃ g, tickS l s = g := ⟨_, rfl⟩
    rw [hg] at HTK ⊢
    clear hl hm hW0 HPL hs hg
    have hfd : ∀ w, Sem.run Try.prog (Instr.field 49 (.agg #[.slice A n c, .int .i64 g.pl, .int .i64 g.st, .int .i64 g.nx, .int .i64 g.ph, .int .i64 g.t, .int .i64 g.hd, .int .i64 g.hl, .int .i64 g.ak, .int .i64 g.wt, .bool g.sp]) 1) w = Result.ok (.agg #[.int .i64 g.pl, .int .i64 g.st, .int .i64 g.nx, .int .i64 g.ph, .int .i64 g.t, .int .i64 g.hd, .int .i64 g.hl, .int .i64 g.ak, .int .i64 g.wt, .bool g.sp]) w := fun _ => rfl
    go_enter Try.func18, Try.ntmps18
    go_wp2_with (first
      | (go_at_call 17
         try rw [HW.out]
         (with_reducible refine (HMY.out _ HBW.out).mono ?_)
         rintro e w1 ⟨rfl, hb1⟩
         have hS1 : Below w.heap.size w w1 := HBW.out.trans (hb1.mono HBW.out.size)
         have hs1 := (hb1.block w.heap.size HLT.out.1).trans HSB.out
         have hr1 := (hb1.block (w.heap.size + 1) HLT.out.2).trans HRB.out
         have HB1 := Lib.hid hS1
         obtain ⟨c0, c1, c2, c3, c4, c5, c6, c7, c8, c9⟩ := (show BoxG w1 w.heap.size s from hs1).cells
         clear hb1)
      | (go_at_call 29
         (with_reducible refine (HTK.out _ HB1.out).mono ?_)
         rintro e w2 ⟨rfl, hb2⟩
         have hr2 := (hb2.block (w.heap.size + 1) (Array.getElem?_eq_some_iff.1 hr1).1).trans hr1
         have HB2 := Lib.hid (show Below w.heap.size w w2 from HB1.out.trans (hb2.mono HB1.out.size))
         clear hb2)
      | ((with_reducible refine wpList_store_part rfl 24 _ _ rfl (w.heap.size + 1) 0 (.agg #[.int .i64 g.pl, .int .i64 g.st, .int .i64 g.nx, .int .i64 g.ph, .int .i64 g.t, .int .i64 g.hd, .int .i64 g.hl, .int .i64 g.ak, .int .i64 g.wt, .bool g.sp]) #[.int .i64 g.pl, .int .i64 g.st, .int .i64 g.nx, .int .i64 g.ph, .int .i64 g.t, .int .i64 g.hd, .int .i64 g.hl, .int .i64 g.ak, .int .i64 g.wt, .bool g.sp] ?hxm ?hym ?hvm 24 #[.int .i64 0, .int .i64 0, .int .i64 0, .int .i64 0, .int .i64 0, .int .i64 0, .int .i64 0, .int .i64 0, .int .i64 0, .bool false] #[.int .i64 g.pl, .int .i64 g.st, .int .i64 g.nx, .int .i64 g.ph, .int .i64 g.t, .int .i64 g.hd, .int .i64 g.hl, .int .i64 g.ak, .int .i64 g.wt, .bool g.sp] hr2 ?him ?hlm ?hom ?hnm ?_); (case hxm => rfl); (case hym => rfl); (case hvm => rfl); (case him => exact info_sig); (case hlm => simp); (case hom => exact one_sig _ _ _ _ _ _ _ _ _ _); (case hnm => rfl)
         intro w9 hg9 hr9 hz9
         have HB9 := Lib.hid (show Below w.heap.size w w9 from Below.grows HB2.out hg9 HB2.out.size (by omega))
         clear hg9 hz9))
    refine bodyPost_ret (v := .agg #[.int .i64 g.pl, .int .i64 g.st, .int .i64 g.nx, .int .i64 g.ph, .int .i64 g.t, .int .i64 g.hd, .int .i64 g.hl, .int .i64 g.ak, .int .i64 g.wt, .bool g.sp]) ?_ rfl ⟨rfl, HB9.out⟩
    exact results_cell_row Try.results18 _ _ (w.heap.size + 1) 24 #[.int .i64 g.pl, .int .i64 g.st, .int .i64 g.nx, .int .i64 g.ph, .int .i64 g.t, .int .i64 g.hd, .int .i64 g.hl, .int .i64 g.ak, .int .i64 g.wt, .bool g.sp] (0, 0) _ rfl hr9 Try.underlying24 rfl info_sig
set_option maxHeartbeats 4000000 in
theorem tlamps_any (A : Option Addr) (n c : Nat) (l : List Pl) (s : Sg) (w : World) (hl : Pls w A n c l) (hs : SmG s) : Calls Try.prog 15 #[.slice A n c, sgV s] w (GivesO (lampsS l s) w) := by
  obtain ⟨W1, hW1⟩ : ∃ W1, w.alloc (.cells #[.int .i64 s.pl, .int .i64 s.st, .int .i64 s.nx, .int .i64 s.ph, .int .i64 s.t, .int .i64 s.hd, .int .i64 s.hl, .int .i64 s.ak, .int .i64 s.wt, .bool s.sp] 24) = W1 := ⟨_, rfl⟩
  have hB1 : Below w.heap.size w W1 := by rw [← hW1]; exact one_alloc w _
  have hbg : BoxG W1 w.heap.size s := by rw [← hW1]; exact BoxG.new w s
  have HW := Lib.hid hW1
  have HB1 := Lib.hid hB1
  have HBG := Lib.hid (show ∀ X, Below W1.heap.size W1 X → CellsG X w.heap.size s from fun X hX => (hbg.below hX).cells)
  have HMY := Lib.hid (fun X (hX : Below w.heap.size w X) => tmay_any A n c l s X (hl.below hX) hs)
  obtain ⟨d0, d1, d2, d3, d4, d5, d6, d7, d8, d9⟩ := HBG.out W1 (Below.refl _ _)
  cases hm : mayS l s
  · rw [lampsS, if_neg (by rw [hm]; simp)]
    rw [hm] at HMY
    unfold sgV at *
    clear hl hm hW1 hs hbg hB1
    go_enter Try.func15, Try.ntmps15
    go_wp2_with (go_at_call 17
                 try rw [HW.out]
                 (with_reducible refine (HMY.out _ HB1.out).mono ?_)
                 rintro e w1 ⟨rfl, hb1⟩
                 have HS := Lib.hid (show Below w.heap.size w w1 from HB1.out.trans (hb1.mono HB1.out.size))
                 obtain ⟨c0, c1, c2, c3, c4, c5, c6, c7, c8, c9⟩ := HBG.out w1 hb1
                 clear hb1)
    go_ret
    exact ⟨none, 0, 0, rfl, OwnI.nil _ _ _ _, HS.out⟩
  · have h := mayS_iff.1 hm
    have HSH := Lib.hid (fun X (hX : Below w.heap.size w X) => shown_own A n c l s X (hl.below hX) h.p0 (by have := h.p1; rw [hl.len] at this; exact this))
    rw [lampsS, if_pos hm]
    obtain ⟨R, hR⟩ : ∃ R, showR (planAt l s.pl) s.st s.ph = R := ⟨_, rfl⟩
    rw [hR] at HSH ⊢
    rw [hm] at HMY
    unfold mcV at HSH
    unfold sgV at *
    clear hl hm hW1 hs hbg hB1 h hR
    go_enter Try.func15, Try.ntmps15
    go_wp2_with (first
      | (go_at_call 17
         try rw [HW.out]
         (with_reducible refine (HMY.out _ HB1.out).mono ?_)
         rintro e w1 ⟨rfl, hb1⟩
         have HS := Lib.hid (show Below w.heap.size w w1 from HB1.out.trans (hb1.mono HB1.out.size))
         obtain ⟨c0, c1, c2, c3, c4, c5, c6, c7, c8, c9⟩ := HBG.out w1 hb1
         clear hb1)
      | (go_at_call 30
         (with_reducible refine (HSH.out _ HS.out).mono ?_)
         rintro e w2 ⟨A1, n1, e1, rfl, ho, hb2⟩
         have HB2 := Lib.hid (show Below w.heap.size w w2 from HS.out.trans (hb2.mono HS.out.size))
         have HO := Lib.hid (own_base ho HS.out.size)
         clear hb2 ho))
    go_ret
    exact ⟨A1, n1, e1, rfl, HO.out, HB2.out⟩
end Go.Proofs.Ytcgakgbnhlmcaaa


/- make([]T, 0, n) in a region that draws its order, T of k cells. -/
namespace Go.Proofs.Ytcgakgbnhlmcaaa
set_option linter.unusedVariables false
set_option linter.unusedSimpArgs false
open Go.RowKit

theorem step_make_r {P : Program} {w : World} {ops : Array Oper} {o : Oper} {a : Act} {K : Act → World → Prop} {Q : Exit → Act → World → Prop} {E : Prop} (t e : TypeId) (z : Value) (k B : Nat) (l c : Operand) (ho : o.op = Op.makeSlice t l c)
    (hu : P.underlying t = some (.slice e)) (hinfo : (P.info? e).map (fun i => (i.zero, i.size, i.bytes)) = some (some z, k, B))
    (base : Nat) (C : Int) (n : Nat) (hl : a.eval l = .int .i64 0) (hc : a.eval c = .int .i64 C) (hC : C = (n : Int)) (hn : B * n ≤ 281474976710656) (h63 : n ≤ maxLen) (hb : base ≤ w.heap.size)
    (hw : Region.wanted o (yielded ops a.tmps) = true)
    (h : ∀ ob, OwnR e k (w.alloc ob) base (.slice (some ⟨w.heap.size, 0, none⟩) 0 n) [] → K (a.put o.dst (.slice (some ⟨w.heap.size, 0, none⟩) 0 n)) (w.alloc ob)) : if Region.wanted o (yielded ops a.tmps) = true then Oper.wp P o a w K Q else E := by
  rw [if_pos hw]
  obtain ⟨i, hi, hz, h1, h2⟩ := info_parts hinfo
  obtain ⟨w', hrun, r1, -⟩ := run_make_own (P := P) w base t e i z k hu hi hz h1 .i64 .i64 n (by rw [h2]; exact hn) h63 hb
  have hbb : (i.bytes : Int) * (n : Int) ≤ 281474976710656 := by
    have h : ((i.bytes * n : Nat) : Int) ≤ 281474976710656 := by rw [h2]; omega
    rwa [Int.natCast_mul] at h
  have hmm : (n : Int) ≤ 9223372036854775807 := by
    have h := h63
    simp [maxLen] at h
    omega
  have hr2 := run_make (P := P) w t e i z hu hi hz .i64 .i64 0 n (Int.le_refl _) (by omega) hbb hmm
  rw [hr2] at hrun
  have hww : w.alloc (.cells (madeCells z.cells ((n : Int).toNat * i.size)) e) = w' := by
    injection hrun
  subst hC
  unfold Oper.wp
  simp only [ho, execOp, hl, hc, hr2, Sem.run_bind, Result.andThen_ok, Sem.run_pure]
  rw [← hww] at r1
  exact h _ ⟨r1, (fun _ h => by cases h), (fun _ h => by cases h)⟩
end Go.Proofs.Ytcgakgbnhlmcaaa

