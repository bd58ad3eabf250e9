/- The walk over package know's Makes. -/
import Derived.Test.YtcpeaeefphgbaaaKnwMakes
namespace Go.Proofs.Ytcpeaeefphgbaaa
set_option linter.unusedVariables false
set_option linter.unusedSimpArgs false
open Go.RowKit

theorem two_new (w : World) (t1 t2 : TypeId) (v1 v2 : Value) : Below w.heap.size w ((w.alloc (.cells #[v1] t1)).alloc (.cells #[v2] t2)) ∧
    Boxed ((w.alloc (.cells #[v1] t1)).alloc (.cells #[v2] t2)) w.heap.size t1 v1 ∧ Boxed ((w.alloc (.cells #[v1] t1)).alloc (.cells #[v2] t2)) (w.heap.size + 1) t2 v2 := by
  have e1 : (w.alloc (.cells #[v1] t1)).heap.size = w.heap.size + 1 := by simp
  refine ⟨two_below w _ _, (Boxed.new w t1 v1).alloc _, ?_⟩
  have := Boxed.new (w.alloc (.cells #[v1] t1)) t2 v2
  rwa [e1] at this
set_option maxHeartbeats 4000000 in
theorem kmakes_any (P Q : Nat → Prop) (l : List Te) (t : Te) (A : Option Addr) (m c : Nat) (k n : Int) (A2 : Option Addr) (m2 c2 : Nat) (w : World) (hI : Is P w (.node 0 0 l) 0 0 A m c) (hJ : Is Q w t k n A2 m2 c2) :
    Calls Try.prog 21 #[.slice A m c, .agg #[.int .i64 k, .int .i64 n, .slice A2 m2 c2]] w (GivesB (makes l t) w) := by
  have hmf := hmf
  have hone := one_alloc w (.cells #[.int .i64 k, .int .i64 n, .slice A2 m2 c2] 24)
  have hcup := Cup.new w k n A2 m2 c2
  obtain ⟨W1, hW1⟩ : ∃ W1, w.alloc (.cells #[.int .i64 k, .int .i64 n, .slice A2 m2 c2] 24) = W1 := ⟨_, rfl⟩
  rw [hW1] at hone hcup
  have HW := Lib.hid hW1
  have HI := Lib.hid (hI.later hone)
  have HJ := Lib.hid (hJ.later hone)
  have HM := Lib.hid (kmay_any _ l A m c W1 (hI.later hone))
  have HC := Lib.hid hcup
  have HONE := Lib.hid hone
  clear hI hJ hone hcup hW1
  cases hl : mayL l
  · rw [hl] at HM
    have hmk : makes l t = (mayL l && t.may && t.made (known l)) := rfl
    rw [hl] at hmk
    have HMK := Lib.hid hmk
    clear hl hmk
    go_enter Try.func21, Try.ntmps21
    go_wp2_with (go_at_call 20
                 rw [HW.out]
                 (with_reducible refine HM.out.mono ?_)
                 rintro e w2 ⟨rfl, hb2⟩
                 have HB2 := Lib.hid hb2
                 clear hb2)
    go_ret
    exact ⟨by rw [HMK.out]; rfl, HONE.out.trans (HB2.out.mono HONE.out.size)⟩
  · have hsz := mayL_sizes hl
    cases ht : t.may
    all_goals
      rw [hl] at HM
      have HL := Lib.hid hl
      have HT := Lib.hid ht
      have hmk : makes l t = (mayL l && t.may && t.made (known l)) := rfl
      rw [hl, ht] at hmk
      have HMK := Lib.hid hmk
      clear hl ht hmk
      go_enter Try.func21, Try.ntmps21
      go_wp2_with (first
        | (go_at_call 20
           rw [HW.out]
           (with_reducible refine HM.out.mono ?_)
           rintro e w2 ⟨rfl, hb2⟩
           obtain ⟨y0, y1, y2⟩ := (HC.out.below hb2).cells
           have hcm := may_any _ t k n A2 m2 c2 w2 (HJ.out.later hb2)
           rw [HT.out] at hcm
           have HCM := Lib.hid hcm
           have HB2 := Lib.hid hb2
           clear hb2 hcm)
        | (go_at_call 23
           (with_reducible refine HCM.out.mono ?_)
           rintro e w3 ⟨rfl, hb3⟩
           have HB3 := Lib.hid (HB2.out.trans (hb3.mono HB2.out.size))
           have hct := taken_any _ l A m c w3 (HI.out.later HB3.out) (by omega)
           have HCT := Lib.hid hct
           clear hb3 hct)
        | (go_at_call 30
           (with_reducible refine HCT.out.mono ?_)
           rintro e w4 ⟨v4, rows4, rfl, hH4, hb4⟩
           obtain ⟨A4, m4, c4, rfl, hI4⟩ := hH4.is
           have hB4 := HB3.out.trans (hb4.mono HB3.out.size)
           obtain ⟨hB5, hp5, hf5⟩ := two_new w4 22 27 (.slice A4 m4 c4) (.func (.func 38) #[] #[.pointer (some ⟨w4.heap.size, 0, none⟩), .pointer (some ⟨w4.heap.size + 1, 0, none⟩)])
           obtain ⟨z0, z1, z2⟩ := (HC.out.below (hB4.trans (hB5.mono hB4.size))).cells
           have hcc := kmade_in w4 w4.heap.size (w4.heap.size + 1) (known l) A4 m4 c4 hI4.old t k n A2 m2 c2 (HJ.out.later hB4).old _ hB5 (may_good HT.out) hp5 hf5
           have HCC := Lib.hid hcc
           have HB5 := Lib.hid (hB4.trans (hB5.mono hB4.size))
           clear hH4 hb4 hI4 hB4 hB5 hp5 hf5 hcc)
        | (go_at_call 38
           (with_reducible refine HCC.out.mono ?_)
           rintro e w6 ⟨rfl, hb6⟩
           have HB6 := Lib.hid (HB5.out.trans (hb6.mono HB5.out.size))
           clear hb6))
    · go_ret
      exact ⟨by rw [HMK.out]; rfl, HONE.out.trans (HB3.out.mono HONE.out.size)⟩
    · go_ret
      exact ⟨by rw [HMK.out]; rfl, HONE.out.trans (HB6.out.mono HONE.out.size)⟩
end Go.Proofs.Ytcpeaeefphgbaaa
