/- The laws' arguments, opened: a slice of numbers with sizes. -/
import Derived.Test.YtadcbikdbekmgaaNumCat
import Derived.Test.YtadcbikdbekmgaaBasOpen
namespace Go.Proofs.Ytadcbikdbekmgaa
set_option linter.unusedVariables false
set_option linter.unusedSimpArgs false
open Go.ChangeShapes Go.WideShapes Go.ChangeAt Go.RowKit

theorem cellsNum : Try.prog.cellsOf 53 = 2 := by kernel_rfl
theorem cellsU64 : Try.prog.cellsOf 22 = 1 := by kernel_rfl
theorem open_nums {H : Type} {enc : TypeId × Value → H} {W : World} {base : Nat} {spare : Nat → Bool} {held : Bool} {fuel : Nat} {cs : List Value} {x : DataW H × List MemPlace} (h : DataW.trod enc Try.prog W base spare held fuel 54 cs = some x) :
    ∃ (A : Option Addr) (n c : Nat) (l : List (Int × Int)), cs = [.slice A n c] ∧ Nms W A n c l := by
  rcases Go.Deep.open_slice_pairs Try.underlying54 Try.underlying53 cellsNum rfl rfl cellsU64 cellsInt h with ⟨hcs, _⟩ | ⟨a, len, cap, m, n, V0, V1, D0, D1, P0, P1, hcs, _, hl, hm, hz, _, hcell⟩
  · exact ⟨none, 0, 0, [], hcs, Rws.nil 2 W, fun p hp => by cases hp⟩
  · have hlm : len ≤ m := by rw [hz]; split <;> omega
    have each : ∀ i, i < len → ∃ p : Int × Int, W.cell? (a.add (i * 2)) = some (.int .u64 p.1) ∧ W.cell? (a.add (i * 2 + 1)) = some (.int .i64 p.2) ∧ (0 ≤ p.1 ∧ p.1 < 18446744073709551616 ∧ -9223372036854775808 ≤ p.2 ∧ p.2 ≤ 9223372036854775807) := by
      intro i hi
      obtain ⟨h0, h1, t0, t1⟩ := hcell i (by omega)
      obtain ⟨x0, e0, _, w0⟩ := DataW.trod_int Try.underlying22 t0
      obtain ⟨x1, e1, _, w1⟩ := DataW.trod_int Try.underlying3 t1
      simp only [List.cons.injEq, and_true] at e0 e1
      have b0 := bounds_u64 w0
      have b1 := bounds_i64 w1
      exact ⟨(x0, x1), by rw [h0, e0], by rw [h1, e1], b0.1, by omega, b1.1, b1.2⟩
    obtain ⟨q, hq⟩ := Go.Deep.choose_lt each
    refine ⟨some a, len, cap, (List.range len).map q, hcs, ⟨by simp, ?_, ?_, hl, hm, (fun e => by cases e), ?_⟩, ?_⟩
    · intro r hr
      obtain ⟨p, _, rfl⟩ := List.mem_map.1 hr
      rfl
    · intro r hr u hu
      obtain ⟨p, _, rfl⟩ := List.mem_map.1 hr
      simp only [numR, List.mem_cons, List.not_mem_nil, or_false] at hu
      rcases hu with rfl | rfl <;> rfl
    · intro hn
      obtain ⟨ab, ao, am⟩ := a
      have h0 := (hq 0 hn).1
      have ham : am = none := by simpa [Addr.add] using World.cell?_spot h0
      subst ham
      refine ⟨ab, ao, rfl, fun j hj i hi => ?_⟩
      obtain ⟨c0, c1, _⟩ := hq j hj
      rw [add_addr] at c0 c1
      simp only [List.getD_eq_getElem?_getD, List.getElem?_map, List.getElem?_range hj, Option.map_some, Option.getD_some, numR]
      match i, hi with
      | 0, _ => simpa using c0
      | 1, _ => rw [Nat.add_assoc]; simpa using c1
    · intro p hp
      obtain ⟨i, hi, rfl⟩ := List.mem_map.1 hp
      exact (hq i (List.mem_range.1 hi)).2.2
end Go.Proofs.Ytadcbikdbekmgaa
