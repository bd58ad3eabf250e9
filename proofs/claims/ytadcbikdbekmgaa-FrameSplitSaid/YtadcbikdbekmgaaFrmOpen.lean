/- The laws' arguments, opened: a frame by value. -/
import Derived.Test.YtadcbikdbekmgaaFrmAwake
import Derived.Test.YtadcbikdbekmgaaBasOpen
import Derived.Deep.SlicePairs
namespace Go.Proofs.Ytadcbikdbekmgaa
set_option linter.unusedVariables false
set_option linter.unusedSimpArgs false
open Go.ChangeShapes Go.WideShapes Go.ChangeAt Go.RowKit

theorem cellsFrame : Try.prog.cellsOf 26 = 40 := by kernel_rfl
theorem cellsId : Try.prog.cellsOf 24 = 32 := by kernel_rfl
theorem cellsU64' : Try.prog.cellsOf 22 = 1 := by kernel_rfl
theorem at_take {l : List Value} {i : Nat} {v : Value} (h : (l.drop i).take 1 = [v]) : l[i]? = some v := by
  have h1 : ((l.drop i).take 1)[0]? = some v := by rw [h]; rfl
  rw [List.getElem?_take, if_pos (by omega), List.getElem?_drop, Nat.add_zero] at h1
  exact h1
section
variable {H : Type} {enc : TypeId × Value → H} {W : World} {base : Nat} {spare : Nat → Bool} {held : Bool}
/-- the cells of a frame -/
theorem frame_cells {fuel : Nat} {cs : List Value} {x : DataW H × List MemPlace} (hl : cs.length = 40) (h : DataW.trod enc Try.prog W base spare held fuel 26 cs = some x) : ∃ f : Fr, cs = frC f ∧ f.ok := by
  obtain ⟨xs, n, _, hx, _, hlen, hg⟩ := DataW.trod_struct Try.underlying26 h
  match xs, hlen with
  | [y0, y1, y2, y3, y4, y5, y6, y7, y8], _ =>
    have g0 : DataW.trod enc Try.prog W base spare held n 3 ((cs.drop 0).take (Try.prog.cellsOf 3)) = some y0 := hg 0 _ rfl
    have g1 : DataW.trod enc Try.prog W base spare held n 3 ((cs.drop 1).take (Try.prog.cellsOf 3)) = some y1 := hg 1 _ rfl
    have g2 : DataW.trod enc Try.prog W base spare held n 22 ((cs.drop 2).take (Try.prog.cellsOf 22)) = some y2 := hg 2 _ rfl
    have g3 : DataW.trod enc Try.prog W base spare held n 22 ((cs.drop 3).take (Try.prog.cellsOf 22)) = some y3 := hg 3 _ rfl
    have g4 : DataW.trod enc Try.prog W base spare held n 3 ((cs.drop 4).take (Try.prog.cellsOf 3)) = some y4 := hg 4 _ rfl
    have g5 : DataW.trod enc Try.prog W base spare held n 22 ((cs.drop 5).take (Try.prog.cellsOf 22)) = some y5 := hg 5 _ rfl
    have g6 : DataW.trod enc Try.prog W base spare held n 3 ((cs.drop 6).take (Try.prog.cellsOf 3)) = some y6 := hg 6 _ rfl
    have g7 : DataW.trod enc Try.prog W base spare held n 3 ((cs.drop 7).take (Try.prog.cellsOf 3)) = some y7 := hg 7 _ rfl
    have g8 : DataW.trod enc Try.prog W base spare held n 24 ((cs.drop 8).take (Try.prog.cellsOf 24)) = some y8 := hg 8 _ rfl
    rw [cellsInt] at g0 g1 g4 g6 g7
    rw [cellsU64'] at g2 g3 g5
    rw [cellsId] at g8
    obtain ⟨x0, e0, _, w0⟩ := DataW.trod_int Try.underlying3 (x := y0) g0
    obtain ⟨x1, e1, _, w1⟩ := DataW.trod_int Try.underlying3 (x := y1) g1
    obtain ⟨x2, e2, _, w2⟩ := DataW.trod_int Try.underlying22 (x := y2) g2
    obtain ⟨x3, e3, _, w3⟩ := DataW.trod_int Try.underlying22 (x := y3) g3
    obtain ⟨x4, e4, _, w4⟩ := DataW.trod_int Try.underlying3 (x := y4) g4
    obtain ⟨x5, e5, _, w5⟩ := DataW.trod_int Try.underlying22 (x := y5) g5
    obtain ⟨x6, e6, _, w6⟩ := DataW.trod_int Try.underlying3 (x := y6) g6
    obtain ⟨x7, e7, _, w7⟩ := DataW.trod_int Try.underlying3 (x := y7) g7
    have b0 := bounds_i64 w0
    have q0 := at_take e0
    have b1 := bounds_i64 w1
    have q1 := at_take e1
    have b2 := bounds_u64 w2
    have q2 := at_take e2
    have b3 := bounds_u64 w3
    have q3 := at_take e3
    have b4 := bounds_i64 w4
    have q4 := at_take e4
    have b5 := bounds_u64 w5
    have q5 := at_take e5
    have b6 := bounds_i64 w6
    have q6 := at_take e6
    have b7 := bounds_i64 w7
    have q7 := at_take e7
    obtain ⟨zs, m, _, _, _, hzl, hz⟩ := DataW.trod_array Try.underlying24 (x := y8) g8
    have each : ∀ i, i < 32 → ∃ z : Int, cs[8 + i]? = some (.int .u8 z) ∧ (0 ≤ z ∧ z < 256) := by
      intro i hi
      have e := hz i (by omega)
      rw [cellsU8] at e
      obtain ⟨y, hy⟩ : ∃ y, zs[i]? = some y := ⟨_, List.getElem?_eq_getElem (by omega)⟩
      rw [hy] at e
      obtain ⟨z, ez, _, wz⟩ := DataW.trod_int Try.underlying5 e
      have bz := bounds_u8 wz
      have qz := at_take ez
      rw [Nat.mul_one, List.getElem?_take, if_pos (by omega), List.getElem?_drop] at qz
      exact ⟨z, qz, bz.1, by omega⟩
    obtain ⟨q, hq⟩ := Go.Deep.choose_lt each
    refine ⟨⟨x0, x1, x2, x3, x4, x5, x6, x7, (List.range 32).map q⟩, ?_, ⟨b0, b1, ⟨b2.1, Int.lt_of_le_of_lt b2.2 (by decide)⟩, ⟨b3.1, Int.lt_of_le_of_lt b3.2 (by decide)⟩, b4, ⟨b5.1, Int.lt_of_le_of_lt b5.2 (by decide)⟩, b6, b7, by simp, ?_⟩⟩
    · apply List.ext_getElem?
      intro i
      by_cases h8 : i < 8
      · have : i = 0 ∨ i = 1 ∨ i = 2 ∨ i = 3 ∨ i = 4 ∨ i = 5 ∨ i = 6 ∨ i = 7 := by omega
        rcases this with rfl | rfl | rfl | rfl | rfl | rfl | rfl | rfl <;> assumption
      · by_cases h40 : i < 40
        · obtain ⟨j, rfl⟩ : ∃ j, i = 8 + j := ⟨i - 8, by omega⟩
          rw [(hq j (by omega)).1, frC, List.getElem?_append_right (by simp)]
          simp [byv, List.getElem?_range (show j < 32 by omega)]
        · rw [List.getElem?_eq_none (by omega), List.getElem?_eq_none (by rw [frC_length (by simp)]; omega)]
    · intro j
      dsimp only
      by_cases h32 : j < 32
      · simp only [List.getD_eq_getElem?_getD, List.getElem?_map, List.getElem?_range h32, Option.map_some, Option.getD_some]
        exact (hq j h32).2
      · rw [List.getD_eq_getElem?_getD, List.getElem?_eq_none (by simp; omega)]
        simp
theorem open_frame {v : Value} {r : Reach} {b0 : Nat} {d : DataW H} {p : List MemPlace} (hv : Value.okWide Try.prog W r b0 26 v) (h : DataW.Trod enc Try.prog W base spare held 26 v d p) : ∃ f : Fr, v = frV f ∧ f.ok := by
  obtain ⟨cs, rfl, hsz⟩ := okWide_struct Try.underlying26 hv
  obtain ⟨l⟩ := cs
  obtain ⟨fuel, hf⟩ := h
  obtain ⟨f, rfl, hok⟩ := frame_cells (hsz.trans cellsFrame) hf
  exact ⟨f, rfl, hok⟩
end
end Go.Proofs.Ytadcbikdbekmgaa
