/- The laws' arguments, opened: an entry by value; a slice of entries. -/
import Derived.Test.YtfjiefhicjnnnaaEntSpec
import Derived.Deep.Slices
import Derived.Deep.SlicePairs
import Derived.Test.YtfjiefhicjnnnaaBasOpen
namespace Go.Proofs.Ytfjiefhicjnnnaa
set_option linter.unusedVariables false
set_option linter.unusedSimpArgs false
open Go.ChangeShapes Go.WideShapes Go.ChangeAt Go.RowKit

theorem cellsEntry : Try.prog.cellsOf 25 = 9 := by kernel_rfl
theorem cellsU64e : Try.prog.cellsOf 22 = 1 := by kernel_rfl
theorem cellsErrno : Try.prog.cellsOf 23 = 1 := by kernel_rfl
theorem at_take_e {l : List Value} {i : Nat} {v : Value} (h : (l.drop i).take 1 = [v]) : l[i]? = some v := by
  have h1 : ((l.drop i).take 1)[0]? = some v := by rw [h]; rfl
  rw [List.getElem?_take, if_pos (by omega), List.getElem?_drop, Nat.add_zero] at h1
  exact h1
theorem add_two9 (b o m i : Nat) : (((⟨b, o, none⟩ : Addr).add m).add i) = ⟨b, o + m + i, none⟩ := by rw [Addr.add_mid, Addr.add_mid]
section
variable {H : Type} {enc : TypeId × Value → H} {W : World} {base : Nat} {spare : Nat → Bool} {held : Bool}
theorem entry_cells (fuel : Nat) (cs : List Value) (x : DataW H × List MemPlace) (hl : cs.length = 9) (h : DataW.trod enc Try.prog W base spare held fuel 25 cs = some x) : ∃ u : En, cs = u.row ∧ u.ok := by
  obtain ⟨xs, n, rfl, hx, _, hlen, hg⟩ := DataW.trod_struct Try.underlying25 h
  match xs, hlen with
  | [y0, y1, y2, y3, y4, y5, y6, y7, y8], _ =>
    have g0 : DataW.trod enc Try.prog W base spare held n 3 ((cs.drop 0).take (Try.prog.cellsOf 3)) = some y0 := hg 0 _ rfl
    have g1 : DataW.trod enc Try.prog W base spare held n 3 ((cs.drop 1).take (Try.prog.cellsOf 3)) = some y1 := hg 1 _ rfl
    have g2 : DataW.trod enc Try.prog W base spare held n 3 ((cs.drop 2).take (Try.prog.cellsOf 3)) = some y2 := hg 2 _ rfl
    have g3 : DataW.trod enc Try.prog W base spare held n 3 ((cs.drop 3).take (Try.prog.cellsOf 3)) = some y3 := hg 3 _ rfl
    have g4 : DataW.trod enc Try.prog W base spare held n 22 ((cs.drop 4).take (Try.prog.cellsOf 22)) = some y4 := hg 4 _ rfl
    have g5 : DataW.trod enc Try.prog W base spare held n 22 ((cs.drop 5).take (Try.prog.cellsOf 22)) = some y5 := hg 5 _ rfl
    have g6 : DataW.trod enc Try.prog W base spare held n 3 ((cs.drop 6).take (Try.prog.cellsOf 3)) = some y6 := hg 6 _ rfl
    have g7 : DataW.trod enc Try.prog W base spare held n 3 ((cs.drop 7).take (Try.prog.cellsOf 3)) = some y7 := hg 7 _ rfl
    have g8 : DataW.trod enc Try.prog W base spare held n 23 ((cs.drop 8).take (Try.prog.cellsOf 23)) = some y8 := hg 8 _ rfl
    rw [cellsInt] at g0 g1 g2 g3 g6 g7
    rw [cellsU64e] at g4 g5
    rw [cellsErrno] at g8
    obtain ⟨x0, e0, _, w0⟩ := DataW.trod_int Try.underlying3 (x := y0) g0
    obtain ⟨x1, e1, _, w1⟩ := DataW.trod_int Try.underlying3 (x := y1) g1
    obtain ⟨x2, e2, _, w2⟩ := DataW.trod_int Try.underlying3 (x := y2) g2
    obtain ⟨x3, e3, _, w3⟩ := DataW.trod_int Try.underlying3 (x := y3) g3
    obtain ⟨x4, e4, _, w4⟩ := DataW.trod_int Try.underlying22 (x := y4) g4
    obtain ⟨x5, e5, _, w5⟩ := DataW.trod_int Try.underlying22 (x := y5) g5
    obtain ⟨x6, e6, _, w6⟩ := DataW.trod_int Try.underlying3 (x := y6) g6
    obtain ⟨x7, e7, _, w7⟩ := DataW.trod_int Try.underlying3 (x := y7) g7
    obtain ⟨x8, e8, _, w8⟩ := DataW.trod_int Try.underlying23 (x := y8) g8
    have b4 := bounds_u64 w4
    have b5 := bounds_u64 w5
    have q0 := at_take_e e0
    have q1 := at_take_e e1
    have q2 := at_take_e e2
    have q3 := at_take_e e3
    have q4 := at_take_e e4
    have q5 := at_take_e e5
    have q6 := at_take_e e6
    have q7 := at_take_e e7
    have q8 := at_take_e e8
    refine ⟨⟨x0, x1, x2, x3, x4, x5, x6, x7, x8⟩, ?_, ⟨⟨b4.1, Int.lt_of_le_of_lt b4.2 (by decide)⟩, ⟨b5.1, Int.lt_of_le_of_lt b5.2 (by decide)⟩⟩⟩
    match cs, hl with
    | [u0, u1, u2, u3, u4, u5, u6, u7, u8], _ =>
      simp only [List.getElem?_cons_zero, List.getElem?_cons_succ, Option.some.injEq] at q0 q1 q2 q3 q4 q5 q6 q7 q8
      rw [q0, q1, q2, q3, q4, q5, q6, q7, q8]
      rfl
/-- an argument that is an entry -/
theorem open_entry {v : Value} {r : Reach} {b0 : Nat} {d : DataW H} {p : List MemPlace} (hv : Value.okWide Try.prog W r b0 25 v) (h : DataW.Trod enc Try.prog W base spare held 25 v d p) :
    ∃ u : En, v = enV u ∧ u.ok := by
  obtain ⟨cs, rfl, hsz⟩ := okWide_struct Try.underlying25 hv
  obtain ⟨l⟩ := cs
  obtain ⟨fuel, hf⟩ := h
  obtain ⟨u, rfl, hb⟩ := entry_cells fuel l _ (hsz.trans cellsEntry) hf
  exact ⟨u, rfl, hb⟩
/-- an argument that is a slice of entries -/
theorem open_entries {v : Value} {r : Reach} {b0 : Nat} {d : DataW H} {p : List MemPlace} (hv : Value.okWide Try.prog W r b0 27 v) (h : DataW.Trod enc Try.prog W base spare held 27 v d p) :
    ∃ (A : Option Addr) (n c : Nat) (l : List En), v = .slice A n c ∧ Ens W A n c l := by
  obtain ⟨A, n, c, rfl⟩ := okWide_slice Try.underlying27 hv
  obtain ⟨fuel, hf⟩ := h
  rcases Go.Deep.open_slice Try.underlying27 hf with ⟨hcs, _⟩ | ⟨a, len, cap, m, n', D, Pl, hcs, _, hl, hm, hz, _, hx⟩
  · simp only [Value.cells, List.cons.injEq, Value.slice.injEq, and_true] at hcs
    obtain ⟨rfl, rfl, rfl⟩ := hcs
    exact ⟨none, 0, 0, [], rfl, Ens.nil W⟩
  · simp only [Value.cells, List.cons.injEq, Value.slice.injEq, and_true] at hcs
    obtain ⟨rfl, rfl, rfl⟩ := hcs
    have hlm : n ≤ m := by rw [hz]; split <;> omega
    have each : ∀ i, i < n → ∃ u : En, (∀ j, j < 9 → W.cell? ((a.add (i * 9)).add j) = u.row[j]?) := by
      intro i hi
      obtain ⟨cs', h1, h2⟩ := hx i (by omega)
      rw [cellsEntry] at h1
      obtain ⟨_, h3, h4⟩ := World.cells?_some h1
      obtain ⟨u, rfl, hb⟩ := entry_cells n' cs' _ h3 h2
      exact ⟨u, h4⟩
    haveI : Inhabited En := ⟨En.zero⟩
    obtain ⟨q, hq⟩ := Go.Deep.choose_lt each
    refine ⟨some a, n, c, (List.range n).map q, rfl, ⟨by simp, ?_, ?_, hl, hm, (fun e => by cases e), ?_⟩⟩
    · intro r hr
      obtain ⟨u, _, rfl⟩ := List.mem_map.1 hr
      rfl
    · intro r hr v hv
      obtain ⟨u, _, rfl⟩ := List.mem_map.1 hr
      exact row_one9 u v hv
    · intro hn
      obtain ⟨ab, ao, am⟩ := a
      have h0 := (hq 0 hn) 0 (by omega)
      have ham : am = none := by
        have h1 : (q 0).row[0]? = some (.int .i64 (q 0).kind) := rfl
        rw [h1] at h0
        simpa [Addr.add] using World.cell?_spot h0
      subst ham
      refine ⟨ab, ao, rfl, fun j hj i hi => ?_⟩
      have h1 := (hq j hj) i hi
      rw [add_two9] at h1
      rw [h1]
      have hl9 : i < (q j).row.length := hi
      simp [List.getD_eq_getElem?_getD, List.getElem?_range hj, hl9]
end
end Go.Proofs.Ytfjiefhicjnnnaa
