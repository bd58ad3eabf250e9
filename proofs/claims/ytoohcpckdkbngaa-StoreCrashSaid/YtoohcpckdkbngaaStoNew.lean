/- The walks over package store's New, and the document's. -/
import Derived.Test.YtoohcpckdkbngaaStoFile
namespace Go.Proofs.Ytoohcpckdkbngaa
set_option linter.unusedVariables false
set_option linter.unusedSimpArgs false
open Go.RowKit

theorem one_set3 {w w1 : World} (h : Below w.heap.size w w1) (x y z : Value) : Below w.heap.size w (((w1.setCell ⟨w.heap.size, 0, none⟩ x).setCell ⟨w.heap.size, 1, none⟩ y).setCell ⟨w.heap.size, 2, none⟩ z) := set3_below h (Nat.le_refl _) _ _ _
set_option maxHeartbeats 1000000 in
theorem rstnew_any (room : Int) (w : World) :
    Calls Try.prog 18 #[.int .i64 room] w (GSB (newP room) w) := by
  by_cases h1 : room < 0
  · have HR := Lib.hid (show newP room = (⟨0, [], 0⟩, false) from by rw [newP, if_neg (by omega)])
    go_enter Try.func18, Try.ntmps18
    go_wp2
    refine bodyPost_ret (v := .tuple #[.agg #[.int .i64 0, .slice none 0 0, .int .i64 0], .bool false]) ?_ ?_ ?_
    · exact ret_store Try.results18 _ _ w.heap.size 24 _ _ _ _ rfl (heap_alloc_new w _) rfl
    · rfl
    · rw [HR.out]
      exact ⟨rfl, one_alloc _ _⟩
  · by_cases h2 : 16384 < room
    · have HR := Lib.hid (show newP room = (⟨0, [], 0⟩, false) from by rw [newP, if_neg (by omega)])
      go_enter Try.func18, Try.ntmps18
      go_wp2
      refine bodyPost_ret (v := .tuple #[.agg #[.int .i64 0, .slice none 0 0, .int .i64 0], .bool false]) ?_ ?_ ?_
      · exact ret_store Try.results18 _ _ w.heap.size 24 _ _ _ _ rfl (heap_alloc_new w _) rfl
      · rfl
      · rw [HR.out]
        exact ⟨rfl, one_alloc _ _⟩
    · have HR := Lib.hid (show newP room = (⟨room, [], 0⟩, true) from by rw [newP, if_pos (by omega)])
      go_enter Try.func18, Try.ntmps18
      go_wp2
      refine bodyPost_ret (v := .tuple #[.agg #[.int .i64 room, .slice none 0 0, .int .i64 0], .bool true]) ?_ ?_ ?_
      · exact ret_store Try.results18 _ _ w.heap.size 24 _ _ _ _ rfl (heap_alloc_new w _) rfl
      · rfl
      · rw [HR.out]
        exact ⟨rfl, one_alloc _ _⟩
set_option maxHeartbeats 1000000 in
theorem stnew_any (room : Int) (w : World) :
    Calls Try.prog 17 #[.int .i64 room] w (GSB (newP room) w) := by
  cases hm : mayT room 0 0 with
  | false =>
    have hno : ¬ (0 ≤ room ∧ room ≤ 16384) := fun h => by
      have := mayT_iff.2 (show 0 ≤ room ∧ room ≤ 16384 ∧ ((0 : Nat) : Int) ≤ room ∧ (0 : Int) ≤ 0 ∧ (0 : Int) ≤ ((0 : Nat) : Int) from ⟨h.1, h.2, h.1, Int.le_refl _, Int.le_refl _⟩)
      rw [hm] at this
      cases this
    have HR := Lib.hid (show newP room = (⟨0, [], 0⟩, false) from by rw [newP, if_neg hno])
    have HM := Lib.hid hm
    clear hm hno
    go_enter Try.func17, Try.ntmps17
    go_wp2_with (go_at_call 23
                 (with_reducible refine (stmay_any _ none 0 0 _ _ (by omega)).mono ?_)
                 rintro e w2 ⟨he, hb2⟩
                 rw [HM.out] at he
                 subst he
                 obtain ⟨hB2, hs2, y1, y2⟩ := after_two hb2
                 have HX2 := Lib.hid (show BoxT w2 w.heap.size 24 0 none 0 0 0 from y1)
                 obtain ⟨z0, z1, z2⟩ := HX2.out.cells
                 have g0 := HX2.out.free 0
                 have g1 := HX2.out.free 1
                 have g2 := HX2.out.free 2
                 have HB2 := Lib.hid hB2
                 clear hb2 hB2 hs2 y1 y2)
    refine bodyPost_ret (v := .tuple #[.agg #[.int .i64 0, .slice none 0 0, .int .i64 0], .bool false]) ?_ ?_ ?_
    · exact ret_store Try.results17 _ _ w.heap.size 24 _ _ _ _ rfl (set3_heap _ _ _ HX2.out) rfl
    · rfl
    · rw [HR.out]
      exact ⟨rfl, one_set3 HB2.out _ _ _⟩
  | true =>
    obtain ⟨q1, q2, -, -, -⟩ := mayT_iff.1 hm
    have HR := Lib.hid (show newP room = (⟨room, [], 0⟩, true) from by rw [newP, if_pos ⟨q1, q2⟩])
    have HM := Lib.hid hm
    clear hm q1 q2
    go_enter Try.func17, Try.ntmps17
    go_wp2_with (go_at_call 23
                 (with_reducible refine (stmay_any _ none 0 0 _ _ (by omega)).mono ?_)
                 rintro e w2 ⟨he, hb2⟩
                 rw [HM.out] at he
                 subst he
                 obtain ⟨hB2, hs2, y1, y2⟩ := after_two hb2
                 have HX2 := Lib.hid (show BoxT w2 w.heap.size 24 0 none 0 0 0 from y1)
                 have HF2 := Lib.hid (show BoxT w2 (w.heap.size + 1) 24 room none 0 0 0 from y2)
                 obtain ⟨z0, z1, z2⟩ := HX2.out.cells
                 obtain ⟨x0, x1, x2⟩ := HF2.out.cells
                 have g0 := HX2.out.free 0
                 have g1 := HX2.out.free 1
                 have g2 := HX2.out.free 2
                 have HB2 := Lib.hid hB2
                 clear hb2 hB2 hs2 y1 y2)
    refine bodyPost_ret (v := .tuple #[.agg #[.int .i64 room, .slice none 0 0, .int .i64 0], .bool true]) ?_ ?_ ?_
    · exact ret_store Try.results17 _ _ w.heap.size 24 _ _ _ _ rfl (set3_heap _ _ _ HX2.out) rfl
    · rfl
    · rw [HR.out]
      exact ⟨rfl, one_set3 HB2.out _ _ _⟩
end Go.Proofs.Ytoohcpckdkbngaa
