/- The walk over the document's answer Makes. -/
import Derived.Test.YtcpeaeefphgbaaaKnwRMade
namespace Go.Proofs.Ytcpeaeefphgbaaa
set_option linter.unusedVariables false
set_option linter.unusedSimpArgs false
open Go.RowKit

theorem partsOf_is {l : List Te} (h : mayL l = true) : partsOf l = known l := by rw [partsOf, if_pos h]
theorem may_good {t : Te} (h : t.may = true) : t.good = true := ((Te.may_iff t).1 h).1
set_option maxHeartbeats 2000000 in
theorem rmakes_any (P Q : Nat → Prop) (l : List Te) (t : Te) (A : Option Addr) (m c : Nat) (k n : Int) (A2 : Option Addr) (m2 c2 : Nat) (w : World) (hI : Is P w (.node 0 0 l) 0 0 A m c) (hJ : Is Q w t k n A2 m2 c2)
    (hs : ∀ t ∈ l, (t.size : Int) ≤ 4611686018427387904) (hz : Te.sizes l ≤ 1000000) (ht : (t.size : Int) ≤ 4611686018427387904) :
    Calls Try.prog 19 #[.slice A m c, .agg #[.int .i64 k, .int .i64 n, .slice A2 m2 c2]] w (GivesB (makes l t) w) := by
  have hone := one_alloc w (.cells #[.int .i64 k, .int .i64 n, .slice A2 m2 c2] 24)
  have hcup := Cup.new w k n A2 m2 c2
  obtain ⟨W1, hW1⟩ : ∃ W1, w.alloc (.cells #[.int .i64 k, .int .i64 n, .slice A2 m2 c2] 24) = W1 := ⟨_, rfl⟩
  rw [hW1] at hone hcup
  have HW := Lib.hid hW1
  have HI := Lib.hid (hI.later hone)
  have HJ := Lib.hid (hJ.later hone)
  have HM := Lib.hid (rmayL_any _ l A m c W1 (hI.later hone) hs)
  have HC := Lib.hid hcup
  have HONE := Lib.hid hone
  have HS := Lib.hid hs
  have HZ := Lib.hid hz
  have HTT := Lib.hid ht
  obtain ⟨x0, x1, x2⟩ := hcup.cells
  clear hI hJ hone hcup hW1 hs hz ht
  cases hl : mayL l <;> cases ht : t.may
  all_goals
    rw [hl] at HM
    have HL := Lib.hid hl
    have HT := Lib.hid ht
    have hmk : makes l t = (mayL l && t.may && t.made (known l)) := rfl
    rw [hl, ht] at hmk
    have HMK := Lib.hid hmk
    clear hl ht hmk
    go_enter Try.func19, Try.ntmps19
    go_wp2_with (first
      | (go_at_call 18
         rw [HW.out]
         (with_reducible refine HM.out.mono ?_)
         rintro e w2 ⟨rfl, hb2⟩
         obtain ⟨y0, y1, y2⟩ := (HC.out.below hb2).cells
         have hcm := rmay_any _ t k n A2 m2 c2 w2 (HJ.out.later hb2) HTT.out
         rw [HT.out] at hcm
         have HCM := Lib.hid hcm
         have HB2 := Lib.hid hb2
         clear hb2 hcm)
      | (go_at_call 35
         (with_reducible refine HCM.out.mono ?_)
         rintro e w3 ⟨rfl, hb3⟩
         have hB3 := HB2.out.trans (hb3.mono HB2.out.size)
         obtain ⟨s0, s1, s2⟩ := (HC.out.below hB3).cells
         clear hb3))
  · go_ret
    exact ⟨by rw [HMK.out]; rfl, HONE.out.trans (hB3.mono HONE.out.size)⟩
  · go_ret
    exact ⟨by rw [HMK.out]; rfl, HONE.out.trans (hB3.mono HONE.out.size)⟩
  · go_ret
    exact ⟨by rw [HMK.out]; rfl, HONE.out.trans (hB3.mono HONE.out.size)⟩
  · have hB3d : Below W1.heap.size W1 w3.drew := hB3.drew
    have S3 := (HC.out.below hB3d).cells
    clear s0 s1 s2 x0 x1 x2 y0 y1 y2
    go_region_held3 (fun w' => w'.cell? ⟨w.heap.size, 0, none⟩ = some (.int .i64 k) ∧ w'.cell? ⟨w.heap.size, 1, none⟩ = some (.int .i64 n) ∧ w'.cell? ⟨w.heap.size, 2, none⟩ = some (.slice A2 m2 c2)) (first | with_reducible exact S3 | with_reducible exact S4 | with_reducible exact S5) (first
      | (go_at_call 15
         have hc4 := rparts_any _ l A m c w3.drew (HI.out.later hB3d) HS.out HZ.out
         rw [partsOf_is HL.out] at hc4
         (with_reducible refine hc4.mono ?_)
         rintro e w4 ⟨A4, m4, c4, rfl, hI4, hb4⟩
         have hB4 : Below W1.heap.size W1 w4 := hB3d.trans (hb4.mono hB3d.size)
         have S4 := (HC.out.below hB4).cells
         have HI4 := Lib.hid hI4
         clear hc4 hb4 hI4)
      | (go_at_call 37
         have hc5 := rmade_any _ _ (known l) A4 m4 c4 t k n A2 m2 c2 w4 HI4.out (HJ.out.later hB4) (may_good HT.out)
         (with_reducible refine hc5.mono ?_)
         rintro e w5 ⟨rfl, hb5⟩
         have hB5 : Below W1.heap.size W1 w5 := hB4.trans (hb5.mono hB4.size)
         have S5 := (HC.out.below hB5).cells
         clear hc5 hb5))
    go_wp2
    go_ret
    exact ⟨by rw [HMK.out]; rfl, HONE.out.trans (hB5.mono HONE.out.size)⟩
end Go.Proofs.Ytcpeaeefphgbaaa
