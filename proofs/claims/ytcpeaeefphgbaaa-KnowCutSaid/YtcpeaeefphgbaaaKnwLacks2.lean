/- The walk over package know's Lacks. -/
import Derived.Test.YtcpeaeefphgbaaaKnwLook
namespace Go.Proofs.Ytcpeaeefphgbaaa
set_option linter.unusedVariables false
set_option linter.unusedSimpArgs false
open Go.RowKit

theorem three_new (w : World) (t1 t2 t3 : TypeId) (v1 v2 v3 : Value) : Below w.heap.size w (((w.alloc (.cells #[v1] t1)).alloc (.cells #[v2] t2)).alloc (.cells #[v3] t3)) ∧
    Boxed (((w.alloc (.cells #[v1] t1)).alloc (.cells #[v2] t2)).alloc (.cells #[v3] t3)) w.heap.size t1 v1 ∧ Boxed (((w.alloc (.cells #[v1] t1)).alloc (.cells #[v2] t2)).alloc (.cells #[v3] t3)) (w.heap.size + 1) t2 v2 ∧
    Boxed (((w.alloc (.cells #[v1] t1)).alloc (.cells #[v2] t2)).alloc (.cells #[v3] t3)) (w.heap.size + 1 + 1) t3 v3 ∧ (((w.alloc (.cells #[v1] t1)).alloc (.cells #[v2] t2)).alloc (.cells #[v3] t3)).heap.size = w.heap.size + 1 + 1 + 1 := by
  obtain ⟨_, h1, h2⟩ := two_new w t1 t2 v1 v2
  have e1 : ((w.alloc (.cells #[v1] t1)).alloc (.cells #[v2] t2)).heap.size = w.heap.size + 1 + 1 := by simp
  refine ⟨three_below w _ _ _, h1.alloc _, h2.alloc _, ?_, by simp⟩
  have := Boxed.new ((w.alloc (.cells #[v1] t1)).alloc (.cells #[v2] t2)) t3 v3
  rwa [e1] at this
theorem Grows.to_below {B q : Nat} {w w1 : World} {v1 : Value} (h : Grows q w w1 (.slice none 0 0) v1) (hB : B ≤ w.heap.size) (hq : B ≤ q) : Below B w w1 :=
  ⟨h.os, h.tape, h.output, h.size, fun b hb => h.block b (Nat.lt_of_lt_of_le hb hB) (by omega) (by simp [Value.ownBlock])⟩
set_option maxHeartbeats 4000000 in
theorem klacks_any (P Q : Nat → Prop) (l : List Te) (t : Te) (A : Option Addr) (m c : Nat) (k n : Int) (A2 : Option Addr) (m2 c2 : Nat) (w : World) (hI : Is P w (.node 0 0 l) 0 0 A m c) (hJ : Is Q w t k n A2 m2 c2) :
    Calls Try.prog 16 #[.slice A m c, .agg #[.int .i64 k, .int .i64 n, .slice A2 m2 c2]] w (GivesL (lacking l t) w) := by
  have hmf := hmf
  have hone := one_alloc w (.cells #[.int .i64 k, .int .i64 n, .slice A2 m2 c2] 24)
  have hcup := Cup.new w k n A2 m2 c2
  obtain ⟨W1, hW1⟩ : ∃ W1, w.alloc (.cells #[.int .i64 k, .int .i64 n, .slice A2 m2 c2] 24) = W1 := ⟨_, rfl⟩
  rw [hW1] at hone hcup
  have HW := Lib.hid hW1
  have HI := Lib.hid (hI.later hone)
  have HJ := Lib.hid (hJ.later hone)
  have HM := Lib.hid (kmay_any _ l A m c W1 (hI.later hone))
  have HC := Lib.hid hcup
  have HONE := Lib.hid hone
  clear hI hJ hone hcup hW1
  cases hl : mayL l
  · rw [hl] at HM
    have hmk : lacking l t = if (mayL l && t.may) = true then t.lacks (known l) [] else [] := rfl
    rw [hl] at hmk
    have HMK := Lib.hid hmk
    clear hl hmk
    go_enter Try.func16, Try.ntmps16
    go_wp2_with (go_at_call 20
                 rw [HW.out]
                 (with_reducible refine HM.out.mono ?_)
                 rintro e w2 ⟨rfl, hb2⟩
                 have HB2 := Lib.hid hb2
                 clear hb2)
    go_ret
    rw [HMK.out]
    exact (Had.nil w2 0).gives (HONE.out.trans (HB2.out.mono HONE.out.size))
  · have hsz := mayL_sizes hl
    cases ht : t.may
    all_goals
      rw [hl] at HM
      have HL := Lib.hid hl
      have HT := Lib.hid ht
      have hmk : lacking l t = if (mayL l && t.may) = true then t.lacks (known l) [] else [] := rfl
      rw [hl, ht] at hmk
      have HMK := Lib.hid hmk
      clear hl ht hmk
      go_enter Try.func16, Try.ntmps16
      go_wp2_with (first
        | (go_at_call 20
           rw [HW.out]
           (with_reducible refine HM.out.mono ?_)
           rintro e w2 ⟨rfl, hb2⟩
           obtain ⟨y0, y1, y2⟩ := (HC.out.below hb2).cells
           have hcm := may_any _ t k n A2 m2 c2 w2 (HJ.out.later hb2)
           rw [HT.out] at hcm
           have HCM := Lib.hid hcm
           have HB2 := Lib.hid hb2
           clear hb2 hcm)
        | (go_at_call 23
           (with_reducible refine HCM.out.mono ?_)
           rintro e w3 ⟨rfl, hb3⟩
           have HB3 := Lib.hid (HB2.out.trans (hb3.mono HB2.out.size))
           have hct := taken_any _ l A m c w3 (HI.out.later HB3.out) (by omega)
           have HCT := Lib.hid hct
           clear hb3 hct)
        | (go_at_call 30
           (with_reducible refine HCT.out.mono ?_)
           rintro e w4 ⟨v4, rows4, rfl, hH4, hb4⟩
           obtain ⟨A4, m4, c4, rfl, hI4⟩ := hH4.is
           have hB4 := HB3.out.trans (hb4.mono HB3.out.size)
           obtain ⟨hB5, hp5, hq5, hf5, hz5⟩ := three_new w4 22 22 42 (.slice A4 m4 c4) (.slice none 0 0) (.func (.func 33) #[] #[.pointer (some ⟨w4.heap.size, 0, none⟩), .pointer (some ⟨w4.heap.size + 1, 0, none⟩), .pointer (some ⟨w4.heap.size + 1 + 1, 0, none⟩)])
           obtain ⟨z0, z1, z2⟩ := (HC.out.below (hB4.trans (hB5.mono hB4.size))).cells
           have hcc := look_in _ w4.heap.size (w4.heap.size + 1) (w4.heap.size + 1 + 1) (known l) A4 m4 c4 (by rw [hz5]; omega) (by omega) (by omega) ((hI4.old.below hB5).mono fun b hb => ⟨by rw [hz5]; omega, by omega⟩) hp5 hf5 t k n A2 m2 c2 (((HJ.out.later hB4).old.below hB5).mono fun b hb => ⟨by rw [hz5]; omega, by omega⟩) _ _ _ _ (But.refl _ _) hq5 (Made.nil _ _) (fun x hx => by cases hx) (may_good HT.out) (by have := ((Te.may_iff t).1 HT.out).2.1; simp; omega)
           have HCC := Lib.hid hcc
           have hsl : W1.heap.size ≤ w4.heap.size := hB4.size
           have HSL := Lib.hid (Nat.le_trans HONE.out.size hsl)
           have HB5 := Lib.hid (hB4.trans (hB5.mono hB4.size))
           clear hH4 hb4 hI4 hB4 hB5 hp5 hq5 hf5 hz5 hcc hsl)
        | (go_at_call 33
           (with_reducible refine HCC.out.mono ?_)
           rintro e w6 ⟨rfl, v6, rows6, hG6, hQ6, hM6⟩
           have cq6 := hQ6.cell
           have HB6 := Lib.hid ((HONE.out.trans (HB5.out.mono HONE.out.size)).trans (hG6.to_below (Nat.le_trans HONE.out.size HB5.out.size) (Nat.le_trans HSL.out (Nat.le_succ _))))
           have HM6 := Lib.hid hM6
           clear hG6 hQ6 hM6))
    · go_ret
      rw [HMK.out]
      exact (Had.nil w3 0).gives (HONE.out.trans (HB3.out.mono HONE.out.size))
    · go_ret
      rw [HMK.out]
      exact HM6.out.had.gives HB6.out
end Go.Proofs.Ytcpeaeefphgbaaa
