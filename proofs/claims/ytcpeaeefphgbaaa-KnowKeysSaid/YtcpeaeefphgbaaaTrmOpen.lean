/- The laws' arguments, opened: a term. -/
import Derived.Test.YtcpeaeefphgbaaaTrmSpec
import Derived.Test.YtcpeaeefphgbaaaTrmOwn2
import Derived.Test.YtcpeaeefphgbaaaBasOpenG
import Derived.Deep.Slices
namespace Go.Proofs.Ytcpeaeefphgbaaa
set_option linter.unusedVariables false
set_option linter.unusedSimpArgs false
open Go.ChangeShapes Go.WideShapes Go.ChangeAt Go.RowKit

theorem cellsTerm : Try.prog.cellsOf 24 = 3 := by kernel_rfl
theorem cellsTerms : Try.prog.cellsOf 22 = 1 := by kernel_rfl
theorem one_of_take {l : List Value} {i : Nat} {v : Value} (h : (l.drop i).take 1 = [v]) : l[i]? = some v := by
  have h1 : ((l.drop i).take 1)[0]? = some v := by rw [h]; rfl
  rw [List.getElem?_take, if_pos (by omega), List.getElem?_drop, Nat.add_zero] at h1
  exact h1
theorem add_two (b o m i : Nat) : (((⟨b, o, none⟩ : Addr).add m).add i) = ⟨b, o + m + i, none⟩ := by rw [Addr.add_mid, Addr.add_mid]
section
variable {H : Type} {enc : TypeId × Value → H} {W : World} {base : Nat} {spare : Nat → Bool} {held : Bool}
theorem term_cells : ∀ (fuel : Nat) (cs : List Value) (x : DataW H × List MemPlace), cs.length = 3 → DataW.trod enc Try.prog W base spare held fuel 24 cs = some x → ∃ t, Lies (· < W.heap.size) W t cs := by
  intro fuel
  induction fuel using Nat.strongRecOn with
  | _ fuel ih =>
    intro cs x hl h
    obtain ⟨xs, n, rfl, hx, _, hlen, hg⟩ := DataW.trod_struct Try.underlying24 h
    match xs, hlen with
    | [y0, y1, y2], _ =>
      have g0 : DataW.trod enc Try.prog W base spare held n 3 ((cs.drop 0).take (Try.prog.cellsOf 3)) = some y0 := hg 0 _ rfl
      have g1 : DataW.trod enc Try.prog W base spare held n 3 ((cs.drop 1).take (Try.prog.cellsOf 3)) = some y1 := hg 1 _ rfl
      have g2 : DataW.trod enc Try.prog W base spare held n 22 ((cs.drop 2).take (Try.prog.cellsOf 22)) = some y2 := hg 2 _ rfl
      rw [cellsInt] at g0 g1
      rw [cellsTerms] at g2
      obtain ⟨k, e0, _, w0⟩ := DataW.trod_int Try.underlying3 (x := y0) g0
      obtain ⟨m, e1, _, w1⟩ := DataW.trod_int Try.underlying3 (x := y1) g1
      have q0 := one_of_take e0
      have q1 := one_of_take e1
      have hcs : ∀ v, cs[2]? = some v → cs = [.int .i64 k, .int .i64 m, v] := fun v q2 => by
        match cs, hl with
        | [u0, u1, u2], _ =>
          simp only [List.getElem?_cons_zero, List.getElem?_cons_succ, Option.some.injEq] at q0 q1 q2
          rw [q0, q1, q2]
      rcases DataW.trod_slice Try.underlying22 (x := y2) g2 with ⟨e2, _⟩ | ⟨a, len, cap, elems, rest, n', rfl, e2, _, _, hle, hmx, hel, hx', _, _⟩
      · rw [hcs _ (one_of_take e2)]
        exact ⟨.node k m [], .mk (Rws.nil 3 W) (fun h => by omega) rfl (fun i hi => by simp at hi)⟩
      · rw [hcs _ (one_of_take e2)]
        have each : ∀ i, i < len → ∃ r : Te × List Value, Lies (· < W.heap.size) W r.1 r.2 ∧ ∀ j, j < 3 → W.cell? ((a.add (i * 3)).add j) = r.2[j]? := by
          intro i hi
          have key := hx' i hi
          rw [List.getElem?_eq_getElem (by omega), cellsTerm] at key
          obtain ⟨cs', h1, h2⟩ := Option.bind_eq_some_iff.1 key
          obtain ⟨_, h3, h4⟩ := World.cells?_some h1
          obtain ⟨t, ht⟩ := ih n' (by omega) cs' _ h3 h2
          exact ⟨(t, cs'), ht, h4⟩
        haveI : Inhabited (Te × List Value) := ⟨(.node 0 0 [], [])⟩
        obtain ⟨q, hq⟩ := Go.Deep.choose_lt each
        have hr : Rws 3 W (some a) len cap ((List.range len).map fun i => (q i).2) := by
          refine ⟨by simp, ?_, ?_, hle, hmx, (fun e => by cases e), ?_⟩
          · intro r hr
            obtain ⟨i, hi, rfl⟩ := List.mem_map.1 hr
            obtain ⟨_, _, _, _, _, e⟩ := (hq i (List.mem_range.1 hi)).1.three
            rw [e]; rfl
          · intro r hr u hu
            obtain ⟨i, hi, rfl⟩ := List.mem_map.1 hr
            obtain ⟨k', n', A', m', c', e⟩ := (hq i (List.mem_range.1 hi)).1.three
            rw [e] at hu
            exact row_one k' n' A' m' c' u hu
          · intro hn
            obtain ⟨ab, ao, am⟩ := a
            obtain ⟨k', n', A', m', c', e⟩ := (hq 0 hn).1.three
            have h0 := (hq 0 hn).2 0 (by omega)
            have ham : am = none := by
              rw [e] at h0
              simpa [Addr.add] using World.cell?_spot h0
            subst ham
            refine ⟨ab, ao, rfl, fun j hj i hi => ?_⟩
            have h1 := (hq j hj).2 i hi
            rw [add_two] at h1
            obtain ⟨k', n', A', m', c', e⟩ := (hq j hj).1.three
            rw [h1]
            have hl3 : i < (q j).2.length := by rw [e]; exact hi
            simp [List.getD_eq_getElem?_getD, List.getElem?_range hj, hl3]
        refine ⟨.node k m ((List.range len).map fun i => (q i).1), .mk hr (fun hm b hb => ?_) (by simp) fun i hi => ?_⟩
        · obtain ⟨b', off, hA, hc⟩ := hr.at_ hm
          rw [hA] at hb
          injection hb with hb
          subst hb
          exact block_lt_of_cell (hc 0 hm 0 (by omega))
        · have hi' : i < len := by simpa using hi
          have e1 : ((List.range len).map fun i => (q i).1)[i] = (q i).1 := by simp
          have e2 : ((List.range len).map fun i => (q i).2).getD i [] = (q i).2 := by simp [List.getD_eq_getElem?_getD, List.getElem?_range hi']
          rw [e1, e2]
          exact (hq i hi').1
/-- an argument that is a term -/
theorem open_term {v : Value} {r : Reach} {b0 : Nat} {d : DataW H} {p : List MemPlace} (hv : Value.okWide Try.prog W r b0 24 v) (h : DataW.Trod enc Try.prog W base spare held 24 v d p) :
    ∃ (t : Te) (k n : Int) (A : Option Addr) (m c : Nat), v = .agg #[.int .i64 k, .int .i64 n, .slice A m c] ∧ Is (· < W.heap.size) W t k n A m c := by
  obtain ⟨cs, rfl, hsz⟩ := okWide_struct Try.underlying24 hv
  obtain ⟨l⟩ := cs
  obtain ⟨fuel, hf⟩ := h
  obtain ⟨t, ht⟩ := term_cells fuel l _ (hsz.trans cellsTerm) hf
  obtain ⟨k, n, A, m, c, rfl⟩ := ht.three
  exact ⟨t, k, n, A, m, c, rfl, ⟨ht⟩⟩
end
end Go.Proofs.Ytcpeaeefphgbaaa
