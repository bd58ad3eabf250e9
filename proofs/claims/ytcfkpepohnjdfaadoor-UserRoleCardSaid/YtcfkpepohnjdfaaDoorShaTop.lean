/- The walks over package sha's New, May, End, Add and Sum. -/
import Derived.Test.YtcfkpepohnjdfaaDoorShaBy
import Derived.Test.YtcfkpepohnjdfaaDoorShaJoin
import Derived.Test.YtcfkpepohnjdfaaDoorShaSpelt
import Derived.Deep.RegionHeld3
namespace Go.Proofs.YtcfkpepohnjdfaaDoor
open Go.RowKit

/-- a state, as a value -/
abbrev hashV (x0 x1 x2 x3 x4 x5 x6 x7 : Int) (A : Option Addr) (n c : Nat) (len : Int) : Value :=
  .agg #[.int .u32 x0, .int .u32 x1, .int .u32 x2, .int .u32 x3, .int .u32 x4, .int .u32 x5, .int .u32 x6, .int .u32 x7, .slice A n c, .int .i64 len]

set_option maxHeartbeats 1000000 in
theorem new_any (w : World) :
    Calls Tryd.prog 46 #[] w fun e w' => e = .returned (hashV 1779033703 3144134277 1013904242 2773480762 1359893119 2600822924 528734635 1541459225 none 0 0 0) ∧ Below w.heap.size w w' := by
  go_enter Tryd.func46, Tryd.ntmps46
  go_wp2
  exact bodyPost_ret (v := hashV 1779033703 3144134277 1013904242 2773480762 1359893119 2600822924 528734635 1541459225 none 0 0 0) (by simp [results, Tryd.results46, go_sem]) rfl ⟨rfl, (Below.refl _ _).alloc (Nat.le_refl _) _⟩

/-- may a state be? -/
def mayB (n : Nat) (len : Int) : Bool := decide (0 ≤ len ∧ len ≤ 1048576 ∧ (n : Int) = len % 64)
theorem mayB_yes {n : Nat} {len : Int} (h : mayB n len = true) : 0 ≤ len ∧ len ≤ 1048576 ∧ (n : Int) = len % 64 := of_decide_eq_true h
theorem mayB_no {n : Nat} {len : Int} (h : mayB n len = false) : ¬ (0 ≤ len ∧ len ≤ 1048576 ∧ (n : Int) = len % 64) := of_decide_eq_false h

set_option maxHeartbeats 1000000 in
theorem may_any (x0 x1 x2 x3 x4 x5 x6 x7 : Int) (A : Option Addr) (n c : Nat) (len : Int) (w : World) :
    Calls Tryd.prog 51 #[hashV x0 x1 x2 x3 x4 x5 x6 x7 A n c len] w fun e w' => e = .returned (.bool (mayB n len)) ∧ w.alloc (.cells #[.int .u32 x0, .int .u32 x1, .int .u32 x2, .int .u32 x3, .int .u32 x4, .int .u32 x5, .int .u32 x6, .int .u32 x7, .slice A n c, .int .i64 len] 63) = w' := by
  have k1 : 0 ≤ len → len ≤ 1048576 → ((n : Int) == len % 64) = mayB n len := by
    intro h0 h1
    unfold mayB
    rw [Bool.eq_iff_iff]
    simp [h0, h1]
  have k2 : 0 ≤ len → 1048576 < len → false = mayB n len := by
    intro h0 h1
    unfold mayB
    rw [Bool.eq_iff_iff]
    simp; omega
  have k3 : len < 0 → false = mayB n len := by
    intro h0
    unfold mayB
    rw [Bool.eq_iff_iff]
    simp; omega
  have K1 := Lib.hid k1
  have K2 := Lib.hid k2
  have K3 := Lib.hid k3
  clear k1 k2 k3
  go_enter Tryd.func51, Tryd.ntmps51
  go_wp2
  · go_ret
    exact ⟨congrArg (fun b => Ending.returned (Value.bool b)) (K1.out (by assumption) (by assumption)), rfl⟩
  · go_ret
    exact ⟨congrArg (fun b => Ending.returned (Value.bool b)) (K2.out (by assumption) (by assumption)), rfl⟩
  · go_ret
    exact ⟨congrArg (fun b => Ending.returned (Value.bool b)) (K3.out (by assumption)), rfl⟩

end Go.Proofs.YtcfkpepohnjdfaaDoor
