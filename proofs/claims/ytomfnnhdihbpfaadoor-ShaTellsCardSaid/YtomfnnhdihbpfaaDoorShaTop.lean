/- The walks over package sha's New, May, End, Add and Sum. -/
import Derived.Test.YtomfnnhdihbpfaaDoorShaBy
import Derived.Test.YtomfnnhdihbpfaaDoorShaJoin
import Derived.Test.YtomfnnhdihbpfaaDoorShaSpelt
import Derived.Deep.RegionHeld3
namespace Go.Proofs.YtomfnnhdihbpfaaDoor
open Go.RowKit

/-- a state, as a value -/
abbrev hashV (x0 x1 x2 x3 x4 x5 x6 x7 : Int) (A : Option Addr) (n c : Nat) (len : Int) : Value :=
  .agg #[.int .u32 x0, .int .u32 x1, .int .u32 x2, .int .u32 x3, .int .u32 x4, .int .u32 x5, .int .u32 x6, .int .u32 x7, .slice A n c, .int .i64 len]

set_option maxHeartbeats 1000000 in
theorem new_any (w : World) :
    Calls Tryd.prog 21 #[] w fun e w' => e = .returned (hashV 1779033703 3144134277 1013904242 2773480762 1359893119 2600822924 528734635 1541459225 none 0 0 0) ∧ Below w.heap.size w w' := by
  go_enter Tryd.func21, Tryd.ntmps21
  go_wp2
  exact bodyPost_ret (v := hashV 1779033703 3144134277 1013904242 2773480762 1359893119 2600822924 528734635 1541459225 none 0 0 0) (by simp [results, Tryd.results21, go_sem]) rfl ⟨rfl, (Below.refl _ _).alloc (Nat.le_refl _) _⟩

/-- may a state be? -/
def mayB (n : Nat) (len : Int) : Bool := decide (0 ≤ len ∧ len ≤ 1048576 ∧ (n : Int) = len % 64)
theorem mayB_yes {n : Nat} {len : Int} (h : mayB n len = true) : 0 ≤ len ∧ len ≤ 1048576 ∧ (n : Int) = len % 64 := of_decide_eq_true h
theorem mayB_no {n : Nat} {len : Int} (h : mayB n len = false) : ¬ (0 ≤ len ∧ len ≤ 1048576 ∧ (n : Int) = len % 64) := of_decide_eq_false h

set_option maxHeartbeats 1000000 in
theorem may_any (x0 x1 x2 x3 x4 x5 x6 x7 : Int) (A : Option Addr) (n c : Nat) (len : Int) (w : World) :
    Calls Tryd.prog 23 #[hashV x0 x1 x2 x3 x4 x5 x6 x7 A n c len] w fun e w' => e = .returned (.bool (mayB n len)) ∧ w.alloc (.cells #[.int .u32 x0, .int .u32 x1, .int .u32 x2, .int .u32 x3, .int .u32 x4, .int .u32 x5, .int .u32 x6, .int .u32 x7, .slice A n c, .int .i64 len] 26) = w' := by
  have k1 : 0 ≤ len → len ≤ 1048576 → ((n : Int) == len % 64) = mayB n len := by
    intro h0 h1
    unfold mayB
    rw [Bool.eq_iff_iff]
    simp [h0, h1]
  have k2 : 0 ≤ len → 1048576 < len → false = mayB n len := by
    intro h0 h1
    unfold mayB
    rw [Bool.eq_iff_iff]
    simp; omega
  have k3 : len < 0 → false = mayB n len := by
    intro h0
    unfold mayB
    rw [Bool.eq_iff_iff]
    simp; omega
  have K1 := Lib.hid k1
  have K2 := Lib.hid k2
  have K3 := Lib.hid k3
  clear k1 k2 k3
  go_enter Tryd.func23, Tryd.ntmps23
  go_wp2
  · go_ret
    exact ⟨congrArg (fun b => Ending.returned (Value.bool b)) (K1.out (by assumption) (by assumption)), rfl⟩
  · go_ret
    exact ⟨congrArg (fun b => Ending.returned (Value.bool b)) (K2.out (by assumption) (by assumption)), rfl⟩
  · go_ret
    exact ⟨congrArg (fun b => Ending.returned (Value.bool b)) (K3.out (by assumption)), rfl⟩

/-- pieces of a slice of bytes, whatever its address is -/
theorem run_from {w0 : World} {A : Option Addr} {n cap lo : Nat} {l : List Int} (hb : Bts w0 A n cap l) (x : Int) (hx : x = lo) (hlo : lo ≤ n) :
    ∃ A2, (∀ w : World, (Instr.slice 24 (.slice A n cap) (some (.int .i64 x)) none none).run Tryd.prog w = .ok (.slice A2 (n - lo) (cap - lo)) w) ∧ Bts w0 A2 (n - lo) (cap - lo) (l.drop lo) := by
  subst hx
  refine ⟨if cap = lo then A else A.map (·.add lo), fun w => ?_, ?_⟩
  · rw [run_slice_l (P := Tryd.prog) w 24 A n cap (by kernel_rfl) .i64 lo (by omega) (by omega), size_u8]
    simp only [Result.andThen_ok, sliced, Int.toNat_natCast, Nat.mul_one]
  · have hle := hb.le
    have hmax := hb.max
    refine ⟨by rw [List.length_drop, hb.len], by omega, by omega, ?_, ?_, ?_⟩
    · intro j
      have := hb.ok (lo + j)
      simpa [List.getD_eq_getElem?_getD, List.getElem?_drop] using this
    · intro h
      by_cases hc : cap = lo
      · omega
      · rw [if_neg hc] at h
        have : A = none := by cases A <;> simp at h ⊢
        have := hb.bare this
        omega
    · intro hn
      obtain ⟨b, off, hA, hcell⟩ := hb.at_ (by omega)
      rw [if_neg (by omega), hA]
      refine ⟨b, off + lo, ?_, fun j hj => ?_⟩
      · simp only [Option.map_some]
        congr 1
        unfold Addr.add
        split
        · rename_i h0; subst h0; rfl
        · rfl
      · have := hcell (lo + j) (by omega)
        rw [← Nat.add_assoc] at this
        rw [this]
        simp [List.getD_eq_getElem?_getD, List.getElem?_drop]
theorem run_to {w0 : World} {A : Option Addr} {n cap hi : Nat} {l : List Int} (hb : Bts w0 A n cap l) (x : Int) (hx : x = hi) (hhi : hi ≤ n) :
    (∀ w : World, (Instr.slice 24 (.slice A n cap) none (some (.int .i64 x)) none).run Tryd.prog w = .ok (.slice A hi cap) w) ∧ Bts w0 A hi cap (l.take hi) := by
  subst hx
  have hle := hb.le
  refine ⟨fun w => ?_, ?_⟩
  · rw [run_slice_h (P := Tryd.prog) w 24 A n cap (by kernel_rfl) .i64 hi (by omega) (by omega), size_u8]
    simp only [Result.andThen_ok, sliced, Int.toNat_natCast, Nat.zero_mul, Nat.sub_zero]
    have e : A.map (fun x => x.add 0) = A := by
      cases A with
      | none => rfl
      | some a => simp [Addr.add]
    rw [e]
    simp
  · refine ⟨by rw [List.length_take, hb.len]; omega, by omega, hb.max, ?_, hb.bare, ?_⟩
    · have := ok_piece l hb.ok 0 hi
      simpa using this
    · intro hn
      obtain ⟨b, off, hA, hcell⟩ := hb.at_ (by omega)
      refine ⟨b, off, hA, fun j hj => ?_⟩
      rw [hcell j (by omega)]
      simp [List.getD_eq_getElem?_getD, hj]
end Go.Proofs.YtomfnnhdihbpfaaDoor
