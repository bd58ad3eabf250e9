/- The laws' arguments, opened: a slice of bytes. -/
import Derived.Test.YtfjiefhicjnnnaaBasBytes
import Derived.Test.YtfjiefhicjnnnaaBasOpenG
namespace Go.Proofs.Ytfjiefhicjnnnaa
open Go.ChangeShapes Go.WideShapes Go.ChangeAt Go.RowKit

theorem cellsU8 : Try.prog.cellsOf 5 = 1 := by kernel_rfl
theorem cellsBytes : Try.prog.cellsOf 26 = 1 := by kernel_rfl
section
variable {H : Type} {enc : TypeId × Value → H} {W : World} {base : Nat} {spare : Nat → Bool} {held : Bool}
theorem open_bytes {fuel : Nat} {cs : List Value} {x : DataW H × List MemPlace} (h : DataW.trod enc Try.prog W base spare held fuel 26 cs = some x) :
    ∃ (A : Option Addr) (n c : Nat) (l : List Int), cs = [.slice A n c] ∧ Bts W A n c l := by
  rcases open_ints Try.underlying26 Try.underlying5 cellsU8 h with ⟨hcs, _⟩ | ⟨a, len, cap, zs, hcs, _, hl, hm, hz, _, hcell, hwz⟩
  · exact ⟨none, 0, 0, [], hcs, Bts.nil W⟩
  · have hlen : len ≤ zs.length := by rw [hz]; split <;> omega
    refine ⟨some a, len, cap, zs.take len, hcs, by rw [List.length_take]; omega, hl, hm, ?_, (fun e => by cases e), ?_⟩
    · intro j
      simp only [List.getD_eq_getElem?_getD, List.getElem?_take]
      split
      · cases hj : zs[j]? with
        | none => simp
        | some y =>
          have := bounds_u8 (hwz y (List.mem_of_getElem? hj))
          simp only [Option.getD_some]
          omega
      · simp
    · intro hn
      obtain ⟨b, off, rfl, hc⟩ := ints_at hcell (by omega)
      refine ⟨b, off, rfl, fun j hj => ?_⟩
      rw [hc j (by omega)]
      simp [List.getD_eq_getElem?_getD, hj]
end
end Go.Proofs.Ytfjiefhicjnnnaa
