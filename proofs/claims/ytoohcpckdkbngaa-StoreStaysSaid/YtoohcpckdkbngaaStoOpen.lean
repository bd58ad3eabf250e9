/- The laws' arguments, opened: a store. -/
import Derived.Test.YtoohcpckdkbngaaStoSpec
import Derived.Test.YtoohcpckdkbngaaBasOpen
import Derived.Test.YtoohcpckdkbngaaBasOpenG
import Derived.Deep.Slices
namespace Go.Proofs.Ytoohcpckdkbngaa
set_option linter.unusedVariables false
set_option linter.unusedSimpArgs false
open Go.ChangeShapes Go.WideShapes Go.ChangeAt Go.RowKit

theorem cellsStore : Try.prog.cellsOf 24 = 3 := by kernel_rfl
section
variable {H : Type} {enc : TypeId × Value → H} {W : World} {base : Nat} {spare : Nat → Bool} {held : Bool}
theorem store_cells (fuel : Nat) (cs : List Value) (x : DataW H × List MemPlace) (hl : cs.length = 3) (h : DataW.trod enc Try.prog W base spare held fuel 24 cs = some x) : ∃ (s : Sp) (A : Option Addr) (n c : Nat), cs = [.int .i64 s.cap, .slice A n c, .int .i64 s.sure] ∧ Bts W A n c s.data := by
  obtain ⟨xs, n, rfl, hx, _, hlen, hg⟩ := DataW.trod_struct Try.underlying24 h
  match xs, hlen with
  | [y0, y1, y2], _ =>
    have g0 : DataW.trod enc Try.prog W base spare held n 3 ((cs.drop 0).take (Try.prog.cellsOf 3)) = some y0 := hg 0 _ rfl
    have g1 : DataW.trod enc Try.prog W base spare held n 22 ((cs.drop 1).take (Try.prog.cellsOf 22)) = some y1 := hg 1 _ rfl
    have g2 : DataW.trod enc Try.prog W base spare held n 3 ((cs.drop 2).take (Try.prog.cellsOf 3)) = some y2 := hg 2 _ rfl
    rw [cellsInt] at g0 g2
    rw [cellsBytes] at g1
    obtain ⟨k, e0, _, w0⟩ := DataW.trod_int Try.underlying3 (x := y0) g0
    obtain ⟨A, n2, c2, bs, e1, hb⟩ := open_bytes (x := y1) g1
    obtain ⟨m, e2, _, w2⟩ := DataW.trod_int Try.underlying3 (x := y2) g2
    have q0 := one_of_take3 e0
    have q1 := one_of_take3 e1
    have q2 := one_of_take3 e2
    refine ⟨⟨k, bs, m⟩, A, n2, c2, ?_, hb⟩
    match cs, hl with
    | [u0, u1, u2], _ =>
      simp only [List.getElem?_cons_zero, List.getElem?_cons_succ, Option.some.injEq] at q0 q1 q2
      rw [q0, q1, q2]
/-- an argument that is a store -/
theorem open_store {v : Value} {r : Reach} {b0 : Nat} {d : DataW H} {p : List MemPlace} (hv : Value.okWide Try.prog W r b0 24 v) (h : DataW.Trod enc Try.prog W base spare held 24 v d p) :
    ∃ (s : Sp) (A : Option Addr) (n c : Nat), v = s.val A n c ∧ Bts W A n c s.data := by
  obtain ⟨cs, rfl, hsz⟩ := okWide_struct Try.underlying24 hv
  obtain ⟨l⟩ := cs
  obtain ⟨fuel, hf⟩ := h
  obtain ⟨s, A, n, c, hu, hb⟩ := store_cells fuel l _ (hsz.trans cellsStore) hf
  refine ⟨s, A, n, c, ?_, hb⟩
  rw [hu]
  rfl
end
end Go.Proofs.Ytoohcpckdkbngaa
