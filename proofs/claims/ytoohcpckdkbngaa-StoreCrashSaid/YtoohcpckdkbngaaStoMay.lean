/- The walks over package store's May and Left, and the document's. -/
import Derived.Test.YtoohcpckdkbngaaStoSpec
namespace Go.Proofs.Ytoohcpckdkbngaa
set_option linter.unusedVariables false
set_option linter.unusedSimpArgs false
open Go.RowKit

set_option maxHeartbeats 1000000 in
theorem stmay_any (cap : Int) (A : Option Addr) (n c : Nat) (sure : Int) (w : World) (hn : n ≤ 9223372036854775807) :
    Calls Try.prog 23 #[.agg #[.int .i64 cap, .slice A n c, .int .i64 sure]] w (GBool (mayT cap n sure) w) := by
  have HB := Lib.hid (one_alloc w (.cells #[.int .i64 cap, .slice A n c, .int .i64 sure] 24))
  by_cases h1 : 0 ≤ cap
  · by_cases h2 : cap ≤ 16384
    · by_cases h3 : (n : Int) ≤ cap
      · by_cases h4 : 0 ≤ sure
        · by_cases h5 : sure ≤ (n : Int)
          · have HM := Lib.hid (show true = mayT cap n sure from (mayT_iff.2 ⟨h1, h2, h3, h4, h5⟩).symm)
            go_enter Try.func23, Try.ntmps23
            go_wp2
            go_ret
            exact ⟨ret_bool HM.out, HB.out⟩
          · have HM := Lib.hid (mayT_no (cap := cap) (n := n) (sure := sure) (fun h => h5 h.2.2.2.2))
            go_enter Try.func23, Try.ntmps23
            go_wp2
            go_ret
            exact ⟨ret_bool HM.out, HB.out⟩
        · have HM := Lib.hid (mayT_no (cap := cap) (n := n) (sure := sure) (fun h => h4 h.2.2.2.1))
          go_enter Try.func23, Try.ntmps23
          go_wp2
          go_ret
          exact ⟨ret_bool HM.out, HB.out⟩
      · have HM := Lib.hid (mayT_no (cap := cap) (n := n) (sure := sure) (fun h => h3 h.2.2.1))
        go_enter Try.func23, Try.ntmps23
        go_wp2
        go_ret
        exact ⟨ret_bool HM.out, HB.out⟩
    · have HM := Lib.hid (mayT_no (cap := cap) (n := n) (sure := sure) (fun h => h2 h.2.1))
      go_enter Try.func23, Try.ntmps23
      go_wp2
      go_ret
      exact ⟨ret_bool HM.out, HB.out⟩
  · have HM := Lib.hid (mayT_no (cap := cap) (n := n) (sure := sure) (fun h => h1 h.1))
    go_enter Try.func23, Try.ntmps23
    go_wp2
    go_ret
    exact ⟨ret_bool HM.out, HB.out⟩
set_option maxHeartbeats 1000000 in
theorem rstmay_any (cap : Int) (A : Option Addr) (n c : Nat) (sure : Int) (w : World) (hn : n ≤ 9223372036854775807) :
    Calls Try.prog 22 #[.agg #[.int .i64 cap, .slice A n c, .int .i64 sure]] w (GBool (mayT cap n sure) w) := by
  have HB := Lib.hid (one_alloc w (.cells #[.int .i64 cap, .slice A n c, .int .i64 sure] 24))
  by_cases h1 : 0 ≤ cap
  · by_cases h2 : cap ≤ 16384
    · by_cases h3 : (n : Int) ≤ cap
      · by_cases h4 : 0 ≤ sure
        · by_cases h5 : sure ≤ (n : Int)
          · have HM := Lib.hid (show true = mayT cap n sure from (mayT_iff.2 ⟨h1, h2, h3, h4, h5⟩).symm)
            go_enter Try.func22, Try.ntmps22
            go_wp2
            go_ret
            exact ⟨ret_bool HM.out, HB.out⟩
          · have HM := Lib.hid (mayT_no (cap := cap) (n := n) (sure := sure) (fun h => h5 h.2.2.2.2))
            go_enter Try.func22, Try.ntmps22
            go_wp2
            go_ret
            exact ⟨ret_bool HM.out, HB.out⟩
        · have HM := Lib.hid (mayT_no (cap := cap) (n := n) (sure := sure) (fun h => h4 h.2.2.2.1))
          go_enter Try.func22, Try.ntmps22
          go_wp2
          go_ret
          exact ⟨ret_bool HM.out, HB.out⟩
      · have HM := Lib.hid (mayT_no (cap := cap) (n := n) (sure := sure) (fun h => h3 h.2.2.1))
        go_enter Try.func22, Try.ntmps22
        go_wp2
        go_ret
        exact ⟨ret_bool HM.out, HB.out⟩
    · have HM := Lib.hid (mayT_no (cap := cap) (n := n) (sure := sure) (fun h => h2 h.2.1))
      go_enter Try.func22, Try.ntmps22
      go_wp2
      go_ret
      exact ⟨ret_bool HM.out, HB.out⟩
  · have HM := Lib.hid (mayT_no (cap := cap) (n := n) (sure := sure) (fun h => h1 h.1))
    go_enter Try.func22, Try.ntmps22
    go_wp2
    go_ret
    exact ⟨ret_bool HM.out, HB.out⟩
/-- a store in a box -/
def BoxT (w : World) (g : Nat) (t : TypeId) (cap : Int) (A : Option Addr) (n c : Nat) (sure : Int) : Prop := w.heap[g]? = some (.cells #[.int .i64 cap, .slice A n c, .int .i64 sure] t (0, 0))
theorem BoxT.cells {w : World} {g : Nat} {t : TypeId} {cap : Int} {A : Option Addr} {n c : Nat} {sure : Int} (h : BoxT w g t cap A n c sure) : w.cell? ⟨g, 0, none⟩ = some (.int .i64 cap) ∧ w.cell? ⟨g, 1, none⟩ = some (.slice A n c) ∧ w.cell? ⟨g, 2, none⟩ = some (.int .i64 sure) :=
  ⟨(cell_of_row _ _ _ _ _ _ h).trans rfl, (cell_of_row _ _ _ _ _ _ h).trans rfl, (cell_of_row _ _ _ _ _ _ h).trans rfl⟩
theorem BoxT.free {w : World} {g : Nat} {t : TypeId} {cap : Int} {A : Option Addr} {n c : Nat} {sure : Int} (h : BoxT w g t cap A n c sure) (i : Nat) : w.frozen? ⟨g, i, none⟩ = false := frozen_of_row _ _ i _ _ h
theorem BoxT.lt {w : World} {g : Nat} {t : TypeId} {cap : Int} {A : Option Addr} {n c : Nat} {sure : Int} (h : BoxT w g t cap A n c sure) : g < w.heap.size := (Array.getElem?_eq_some_iff.1 h).1
theorem BoxT.below {w w' : World} {g : Nat} {t : TypeId} {cap : Int} {A : Option Addr} {n c : Nat} {sure : Int} (h : BoxT w g t cap A n c sure) (hb : Below w.heap.size w w') : BoxT w' g t cap A n c sure := (hb.block g h.lt).trans h
def leftT (cap : Int) (n : Nat) (sure : Int) : Int := if mayT cap n sure = true then cap - n else 0
set_option maxHeartbeats 1000000 in
theorem stleft_any (cap : Int) (A : Option Addr) (n c : Nat) (sure : Int) (w : World) (hn : n ≤ 9223372036854775807) :
    Calls Try.prog 25 #[.agg #[.int .i64 cap, .slice A n c, .int .i64 sure]] w (GInt (leftT cap n sure) w) := by
  cases hm : mayT cap n sure with
  | false =>
    have HL := Lib.hid (show (0 : Int) = leftT cap n sure from by rw [leftT, hm]; rfl)
    have HM := Lib.hid hm
    clear hm
    go_enter Try.func25, Try.ntmps25
    go_wp2_with (go_at_call 23
                 (with_reducible refine (stmay_any cap A n c sure _ hn).mono ?_)
                 rintro e w1 ⟨he, hb⟩
                 rw [HM.out] at he
                 subst he
                 have HB := Lib.hid (after_one hb).1
                 clear hb)
    go_ret
    exact ⟨ret_int HL.out, HB.out⟩
  | true =>
    obtain ⟨h1, h2, h3, h4, h5⟩ := mayT_iff.1 hm
    have HL := Lib.hid (show cap - n = leftT cap n sure from by rw [leftT, hm]; rfl)
    have HM := Lib.hid hm
    clear hm
    go_enter Try.func25, Try.ntmps25
    go_wp2_with (go_at_call 23
                 (with_reducible refine (stmay_any cap A n c sure _ hn).mono ?_)
                 rintro e w1 ⟨he, hb⟩
                 rw [HM.out] at he
                 subst he
                 have HB := Lib.hid (after_one hb).1
                 have hbx : BoxT w1 w.heap.size 24 cap A n c sure := (after_one hb).2.2
                 obtain ⟨x0, x1, x2⟩ := hbx.cells
                 clear hb hbx)
    go_ret
    exact ⟨ret_int HL.out, HB.out⟩
set_option maxHeartbeats 1000000 in
theorem rstleft_any (cap : Int) (A : Option Addr) (n c : Nat) (sure : Int) (w : World) (hn : n ≤ 9223372036854775807) :
    Calls Try.prog 26 #[.agg #[.int .i64 cap, .slice A n c, .int .i64 sure]] w (GInt (leftT cap n sure) w) := by
  cases hm : mayT cap n sure with
  | false =>
    have HL := Lib.hid (show (0 : Int) = leftT cap n sure from by rw [leftT, hm]; rfl)
    have HM := Lib.hid hm
    clear hm
    go_enter Try.func26, Try.ntmps26
    go_wp2_with (go_at_call 22
                 (with_reducible refine (rstmay_any cap A n c sure _ hn).mono ?_)
                 rintro e w1 ⟨he, hb⟩
                 rw [HM.out] at he
                 subst he
                 have HB := Lib.hid (after_one hb).1
                 clear hb)
    go_ret
    exact ⟨ret_int HL.out, HB.out⟩
  | true =>
    obtain ⟨h1, h2, h3, h4, h5⟩ := mayT_iff.1 hm
    have HL := Lib.hid (show cap - n = leftT cap n sure from by rw [leftT, hm]; rfl)
    have HM := Lib.hid hm
    clear hm
    go_enter Try.func26, Try.ntmps26
    go_wp2_with (go_at_call 22
                 (with_reducible refine (rstmay_any cap A n c sure _ hn).mono ?_)
                 rintro e w1 ⟨he, hb⟩
                 rw [HM.out] at he
                 subst he
                 have HB := Lib.hid (after_one hb).1
                 have hbx : BoxT w1 w.heap.size 24 cap A n c sure := (after_one hb).2.2
                 obtain ⟨x0, x1, x2⟩ := hbx.cells
                 clear hb hbx)
    go_ret
    exact ⟨ret_int HL.out, HB.out⟩
end Go.Proofs.Ytoohcpckdkbngaa
