/- The walk over the law StageTells. -/
import Derived.Test.YtcgakgbnhlmcaaaStJG
import Derived.Test.YtcgakgbnhlmcaaaStJH
namespace Go.Proofs.Ytcgakgbnhlmcaaa
set_option maxRecDepth 100000
set_option linter.unusedVariables false
set_option linter.unusedSimpArgs false
open Go.RowKit

set_option maxHeartbeats 8000000 in
theorem stells_any (HO : StgOk) (HT : LmpText) (A : Option Addr) (n c : Nat) (l : List Pl) (s : Sg) (x : Int) (w : World) (hl : Pls w A n c l) (hts : SmG s) :
    Calls Try.prog 3 #[.slice A n c, sgV s, .int .i64 x] w fun e w' => e = .returned (.bool true) ∧ Below w.heap.size w w' := by
  cases hfw : fewAllB l with
  | false =>
    have hsm := hl.small
    have hlen := hl.len
    simp only [sgV]
    obtain ⟨W0, hW0⟩ : ∃ W0, w.alloc (.cells #[.int .i64 s.pl, .int .i64 s.st, .int .i64 s.nx, .int .i64 s.ph, .int .i64 s.t, .int .i64 s.hd, .int .i64 s.hl, .int .i64 s.ak, .int .i64 s.wt, .bool s.sp] 24) = W0 := ⟨_, rfl⟩
    have hB0 : Below w.heap.size w W0 := by rw [← hW0]; exact one_alloc w _
    have hbs : BoxG W0 w.heap.size s := by rw [← hW0]; exact BoxG.new w s
    have HPL := Lib.hid (show ∀ X, Below W0.heap.size W0 X → Pls X A n c l from fun X hX => (hl.below hB0).below hX)
    have HBS := Lib.hid (show ∀ X, Below W0.heap.size W0 X → BoxG X w.heap.size s from fun X hX => hbs.below hX)
    have HLL := Lib.hid hlen
    have HB0 := Lib.hid hB0
    have HW := Lib.hid hW0
    have HAW := Lib.hid (sawake16_any HO HT W0)
    have HFW := Lib.hid (fun X hX => pfewall_any A n c l X (HPL.out X hX))
    clear hW0 hB0 hbs hl
    rw [hfw] at HFW
    clear hfw
    go_enter Try.func3, Try.ntmps3
    go_wp2_with (first
        | (go_at_call 9
           rw [HW.out]
           (with_reducible refine (HAW.out).mono ?_)
           rintro e w1 ⟨rfl, hbx⟩
           have HX1 := Lib.hid hbx
           clear hbx)
        | (go_at_call 10
           (with_reducible refine (HFW.out _ HX1.out).mono ?_)
           rintro e w2 ⟨rfl, hbx⟩
           have HX2 := Lib.hid (HX1.out.trans (hbx.mono HX1.out.size))
           clear hbx))
    go_ret
    exact ⟨rfl, HB0.out.trans (HX2.out.mono HB0.out.size)⟩
  | true =>
  by_cases hx1 : 60 < x
  · by_cases hx2 : x ≤ 2000
    · skip
      have hsm := hl.small
      have hlen := hl.len
      simp only [sgV]
      obtain ⟨W0, hW0⟩ : ∃ W0, w.alloc (.cells #[.int .i64 s.pl, .int .i64 s.st, .int .i64 s.nx, .int .i64 s.ph, .int .i64 s.t, .int .i64 s.hd, .int .i64 s.hl, .int .i64 s.ak, .int .i64 s.wt, .bool s.sp] 24) = W0 := ⟨_, rfl⟩
      have hB0 : Below w.heap.size w W0 := by rw [← hW0]; exact one_alloc w _
      have hbs : BoxG W0 w.heap.size s := by rw [← hW0]; exact BoxG.new w s
      have HPL := Lib.hid (show ∀ X, Below W0.heap.size W0 X → Pls X A n c l from fun X hX => (hl.below hB0).below hX)
      have HBS := Lib.hid (show ∀ X, Below W0.heap.size W0 X → BoxG X w.heap.size s from fun X hX => hbs.below hX)
      have HLL := Lib.hid hlen
      have HB0 := Lib.hid hB0
      have HW := Lib.hid hW0
      have HAW := Lib.hid (sawake16_any HO HT W0)
      have HFW := Lib.hid (fun X hX => pfewall_any A n c l X (HPL.out X hX))
      clear hW0 hB0 hbs hl
      rw [hfw] at HFW
      clear hfw
      go_enter Try.func3, Try.ntmps3
      go_wp2_with (first
          | (go_at_call 9
             rw [HW.out]
             (with_reducible refine (HAW.out).mono ?_)
             rintro e w1 ⟨rfl, hbx⟩
             have HX1 := Lib.hid hbx
             clear hbx)
          | (go_at_call 10
             (with_reducible refine (HFW.out _ HX1.out).mono ?_)
             rintro e w2 ⟨rfl, hbx⟩
             have HX2 := Lib.hid (HX1.out.trans (hbx.mono HX1.out.size))
             clear hbx))
      go_ret
      exact ⟨rfl, HB0.out.trans (HX2.out.mono HB0.out.size)⟩
    · exact stells_much HO HT A n c l s x w hl hts hfw hx1 hx2
  · exact stells_few HO HT A n c l s x w hl hts hfw hx1
end Go.Proofs.Ytcgakgbnhlmcaaa

