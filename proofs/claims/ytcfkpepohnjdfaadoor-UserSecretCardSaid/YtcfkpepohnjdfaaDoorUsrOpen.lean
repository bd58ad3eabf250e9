/- The laws' arguments, opened: a user, a slice of users; the table of the constants, as the rows list it. -/
import Derived.Test.YtcfkpepohnjdfaaDoorUsrSpec
import Derived.Test.YtcfkpepohnjdfaaDoorShaSum
import Derived.Test.YtcfkpepohnjdfaaDoorCards
import Derived.Test.YtcfkpepohnjdfaaDoorTie
import Derived.Deep.Slices
import Derived.Lib.LaidTab
import Derived.Test.YtcfkpepohnjdfaaDoorBasOpen
namespace Go.Proofs.YtcfkpepohnjdfaaDoor
set_option linter.unusedVariables false
set_option linter.unusedSimpArgs false
open Go.ChangeShapes Go.WideShapes Go.ChangeAt Go.RowKit

theorem gK : Tryd.prog.globalNamed "pelican/sha.constants" = some 0 := by kernel_rfl
theorem gKType : (Tryd.prog.globals[0]?).map (·.type) = some 75 := by kernel_rfl
theorem cells64 : Tryd.prog.cellsOf 75 = 64 := by kernel_rfl
theorem cellsU32 : Tryd.prog.cellsOf 60 = 1 := by kernel_rfl
/-- what the row's list gives -/
theorem table {W : World} (h : laidMetH Tryd.prog Rows.userTellsRow.laid W) : Lib.TabIs Tryd.prog W "pelican/sha.constants" .u32 kList :=
  Lib.tabIs_of_head (rest := []) gK gKType Tryd.underlying75 Tryd.underlying60 cellsU32 cells64 h
theorem ktab {W : World} (h : laidMetH Tryd.prog Rows.userTellsRow.laid W) : KTab W := by
  have hc : ∀ j, j < 64 → W.cell? ⟨0, j, none⟩ = some (.int .u32 (kList.getD j 0)) := fun j hj => (table h).cell gK j (by simpa [kList] using hj)
  exact ⟨block_lt_of_cell (hc 0 (by omega)), hc⟩
theorem cellsUser : Tryd.prog.cellsOf 25 = 3 := by kernel_rfl
theorem add_two3 (b o m i : Nat) : (((⟨b, o, none⟩ : Addr).add m).add i) = ⟨b, o + m + i, none⟩ := by rw [Addr.add_mid, Addr.add_mid]
theorem one_of_take3 {l : List Value} {i : Nat} {v : Value} (h : (l.drop i).take 1 = [v]) : l[i]? = some v := by
  have h1 : ((l.drop i).take 1)[0]? = some v := by rw [h]; rfl
  rw [List.getElem?_take, if_pos (by omega), List.getElem?_drop, Nat.add_zero] at h1
  exact h1
section
variable {H : Type} {enc : TypeId × Value → H} {W : World} {base : Nat} {spare : Nat → Bool} {held : Bool}
theorem user_cells (fuel : Nat) (cs : List Value) (x : DataW H × List MemPlace) (hl : cs.length = 3) (h : DataW.trod enc Tryd.prog W base spare held fuel 25 cs = some x) : ∃ u : Us, cs = u.row ∧ Bts W u.A u.n u.c u.key := by
  obtain ⟨xs, n, rfl, hx, _, hlen, hg⟩ := DataW.trod_struct Tryd.underlying25 h
  match xs, hlen with
  | [y0, y1, y2], _ =>
    have g0 : DataW.trod enc Tryd.prog W base spare held n 3 ((cs.drop 0).take (Tryd.prog.cellsOf 3)) = some y0 := hg 0 _ rfl
    have g1 : DataW.trod enc Tryd.prog W base spare held n 3 ((cs.drop 1).take (Tryd.prog.cellsOf 3)) = some y1 := hg 1 _ rfl
    have g2 : DataW.trod enc Tryd.prog W base spare held n 23 ((cs.drop 2).take (Tryd.prog.cellsOf 23)) = some y2 := hg 2 _ rfl
    rw [cellsInt] at g0 g1
    rw [cellsBytes] at g2
    obtain ⟨k, e0, _, w0⟩ := DataW.trod_int Tryd.underlying3 (x := y0) g0
    obtain ⟨m, e1, _, w1⟩ := DataW.trod_int Tryd.underlying3 (x := y1) g1
    obtain ⟨A, n2, c2, bs, e2, hb⟩ := open_bytes (x := y2) g2
    have q0 := one_of_take3 e0
    have q1 := one_of_take3 e1
    have q2 := one_of_take3 e2
    refine ⟨⟨k, m, A, n2, c2, bs⟩, ?_, hb⟩
    match cs, hl with
    | [u0, u1, u2], _ =>
      simp only [List.getElem?_cons_zero, List.getElem?_cons_succ, Option.some.injEq] at q0 q1 q2
      rw [q0, q1, q2]
      rfl
/-- an argument that is a user -/
theorem open_user {v : Value} {r : Reach} {b0 : Nat} {d : DataW H} {p : List MemPlace} (hv : Value.okWide Tryd.prog W r b0 25 v) (h : DataW.Trod enc Tryd.prog W base spare held 25 v d p) :
    ∃ u : Us, v = .agg #[.int .i64 u.no, .int .i64 u.role, .slice u.A u.n u.c] ∧ Bts W u.A u.n u.c u.key := by
  obtain ⟨cs, rfl, hsz⟩ := okWide_struct Tryd.underlying25 hv
  obtain ⟨l⟩ := cs
  obtain ⟨fuel, hf⟩ := h
  obtain ⟨u, hu, hb⟩ := user_cells fuel l _ (hsz.trans cellsUser) hf
  refine ⟨u, ?_, hb⟩
  rw [hu]
  rfl
/-- an argument that is a slice of users -/
theorem open_users {v : Value} {r : Reach} {b0 : Nat} {d : DataW H} {p : List MemPlace} (hv : Value.okWide Tryd.prog W r b0 22 v) (h : DataW.Trod enc Tryd.prog W base spare held 22 v d p) :
    ∃ (A : Option Addr) (n c : Nat) (l : List Us), v = .slice A n c ∧ Uss W A n c l := by
  obtain ⟨A, n, c, rfl⟩ := okWide_slice Tryd.underlying22 hv
  obtain ⟨fuel, hf⟩ := h
  rcases Go.Deep.open_slice Tryd.underlying22 hf with ⟨hcs, _⟩ | ⟨a, len, cap, m, n', D, Pl, hcs, _, hl, hm, hz, _, hx⟩
  · simp only [Value.cells, List.cons.injEq, Value.slice.injEq, and_true] at hcs
    obtain ⟨rfl, rfl, rfl⟩ := hcs
    exact ⟨none, 0, 0, [], rfl, Uss.nil W⟩
  · simp only [Value.cells, List.cons.injEq, Value.slice.injEq, and_true] at hcs
    obtain ⟨rfl, rfl, rfl⟩ := hcs
    have hlm : n ≤ m := by rw [hz]; split <;> omega
    have each : ∀ i, i < n → ∃ u : Us, (∀ j, j < 3 → W.cell? ((a.add (i * 3)).add j) = u.row[j]?) ∧ Bts W u.A u.n u.c u.key := by
      intro i hi
      obtain ⟨cs', h1, h2⟩ := hx i (by omega)
      rw [cellsUser] at h1
      obtain ⟨_, h3, h4⟩ := World.cells?_some h1
      obtain ⟨u, rfl, hb⟩ := user_cells n' cs' _ h3 h2
      exact ⟨u, h4, hb⟩
    haveI : Inhabited Us := ⟨Us.zero⟩
    obtain ⟨q, hq⟩ := Go.Deep.choose_lt each
    refine ⟨some a, n, c, (List.range n).map q, rfl, ⟨by simp, ?_, ?_, hl, hm, (fun e => by cases e), ?_⟩, ?_⟩
    · intro r hr
      obtain ⟨u, _, rfl⟩ := List.mem_map.1 hr
      rfl
    · intro r hr v hv
      obtain ⟨u, _, rfl⟩ := List.mem_map.1 hr
      exact row_one3 u v hv
    · intro hn
      obtain ⟨ab, ao, am⟩ := a
      have h0 := (hq 0 hn).1 0 (by omega)
      have ham : am = none := by
        have h1 : (q 0).row[0]? = some (.int .i64 (q 0).no) := rfl
        rw [h1] at h0
        simpa [Addr.add] using World.cell?_spot h0
      subst ham
      refine ⟨ab, ao, rfl, fun j hj i hi => ?_⟩
      have h1 := (hq j hj).1 i hi
      rw [add_two3] at h1
      rw [h1]
      have hl3 : i < (q j).row.length := hi
      simp [List.getD_eq_getElem?_getD, List.getElem?_range hj, hl3]
    · intro u hu
      obtain ⟨i, hi, rfl⟩ := List.mem_map.1 hu
      exact (hq i (List.mem_range.1 hi)).2
theorem trodAll_seven {P : Program} {w : World} {t0 t1 t2 t3 t4 t5 t6 : TypeId} {args : Array Value} {ds : List (DataW H)} {ps : List MemPlace} (h : DataW.TrodAll enc P w base spare held [t0, t1, t2, t3, t4, t5, t6] args.toList ds ps) :
    ∃ v0 v1 v2 v3 v4 v5 v6 d0 d1 d2 d3 d4 d5 d6 p0 p1 p2 p3 p4 p5 p6, args = #[v0, v1, v2, v3, v4, v5, v6] ∧ ds = [d0, d1, d2, d3, d4, d5, d6] ∧ ps = p0 ++ p1 ++ p2 ++ p3 ++ p4 ++ p5 ++ p6 ∧ DataW.Trod enc P w base spare held t0 v0 d0 p0 ∧ DataW.Trod enc P w base spare held t1 v1 d1 p1 ∧ DataW.Trod enc P w base spare held t2 v2 d2 p2 ∧ DataW.Trod enc P w base spare held t3 v3 d3 p3 ∧ DataW.Trod enc P w base spare held t4 v4 d4 p4 ∧ DataW.Trod enc P w base spare held t5 v5 d5 p5 ∧ DataW.Trod enc P w base spare held t6 v6 d6 p6 := by
  obtain ⟨v0, vs0, d0, es0, p0, q0, hargs, rfl, rfl, h0, r0⟩ := trodAll_cons h
  obtain ⟨v1, vs1, d1, es1, p1, q1, rfl, rfl, rfl, h1, r1⟩ := trodAll_cons r0
  obtain ⟨v2, vs2, d2, es2, p2, q2, rfl, rfl, rfl, h2, r2⟩ := trodAll_cons r1
  obtain ⟨v3, vs3, d3, es3, p3, q3, rfl, rfl, rfl, h3, r3⟩ := trodAll_cons r2
  obtain ⟨v4, vs4, d4, es4, p4, q4, rfl, rfl, rfl, h4, r4⟩ := trodAll_cons r3
  obtain ⟨v5, vs5, d5, es5, p5, q5, rfl, rfl, rfl, h5, r5⟩ := trodAll_cons r4
  obtain ⟨v6, vs6, d6, es6, p6, q6, rfl, rfl, rfl, h6, r6⟩ := trodAll_cons r5
  obtain ⟨rfl, rfl, rfl⟩ := trodAll_nil r6
  exact ⟨v0, v1, v2, v3, v4, v5, v6, d0, d1, d2, d3, d4, d5, d6, p0, p1, p2, p3, p4, p5, p6, by cases args; simp_all, rfl, by simp, h0, h1, h2, h3, h4, h5, h6⟩
theorem trodAll_mk7 {P : Program} {w : World} {t0 t1 t2 t3 t4 t5 t6 : TypeId} {v0 v1 v2 v3 v4 v5 v6 : Value} {d0 d1 d2 d3 d4 d5 d6 : DataW H} {p0 p1 p2 p3 p4 p5 p6 : List MemPlace} (h0 : DataW.Trod enc P w base spare held t0 v0 d0 p0) (h1 : DataW.Trod enc P w base spare held t1 v1 d1 p1) (h2 : DataW.Trod enc P w base spare held t2 v2 d2 p2) (h3 : DataW.Trod enc P w base spare held t3 v3 d3 p3) (h4 : DataW.Trod enc P w base spare held t4 v4 d4 p4) (h5 : DataW.Trod enc P w base spare held t5 v5 d5 p5) (h6 : DataW.Trod enc P w base spare held t6 v6 d6 p6) : DataW.TrodAll enc P w base spare held [t0, t1, t2, t3, t4, t5, t6] [v0, v1, v2, v3, v4, v5, v6] [d0, d1, d2, d3, d4, d5, d6] (p0 ++ (p1 ++ (p2 ++ (p3 ++ (p4 ++ (p5 ++ (p6))))))) :=
  ⟨p0, _, h0, trodAll_mk6 h1 h2 h3 h4 h5 h6, rfl⟩
end
end Go.Proofs.YtcfkpepohnjdfaaDoor
