/- Joined texts: The laws' arguments, opened: a log. The laws' arguments, opened: a store. The table of the constants, as the rows list it; openers of the laws' arguments. -/
import Derived.Test.YtafmompplcaadaaGreatDoorAuJH
import Derived.Test.YtafmompplcaadaaGreatDoorAuJV
import Derived.Test.YtafmompplcaadaaGreatDoorAuJA
import Derived.Test.YtafmompplcaadaaGreatDoorAuJB
import Derived.Deep.Slices
import Derived.Test.YtafmompplcaadaaGreatDoorAuJF
import Derived.Test.YtafmompplcaadaaGreatDoorCards
import Derived.Test.YtafmompplcaadaaGreatDoorTie
import Derived.Deep.SlicePairs
import Derived.Lib.LaidTab
/- The laws' arguments, opened: a log. -/
namespace Go.Proofs.YtafmompplcaadaaGreatDoor
set_option maxRecDepth 100000
set_option linter.unusedVariables false
set_option linter.unusedSimpArgs false
open Go.ChangeShapes Go.WideShapes Go.ChangeAt Go.RowKit

theorem cellsStoreG : Tryz.prog.cellsOf 24 = 3 := by kernel_rfl
theorem cellsEnsG : Tryz.prog.cellsOf 25 = 1 := by kernel_rfl
theorem cellsLog : Tryz.prog.cellsOf 29 = 36 := by kernel_rfl
section
variable {H : Type} {enc : TypeId × Value → H} {W : World} {base : Nat} {spare : Nat → Bool} {held : Bool}
/-- the cells of a store, its room a number that fits -/
theorem store_cells_g (fuel : Nat) (cs : List Value) (x : DataW H × List MemPlace) (hl : cs.length = 3) (h : DataW.trod enc Tryz.prog W base spare held fuel 24 cs = some x) :
    ∃ (s : Sp) (A : Option Addr) (n c : Nat), cs = [.int .i64 s.cap, .slice A n c, .int .i64 s.sure] ∧ Bts W A n c s.data ∧ -9223372036854775808 ≤ s.cap ∧ s.cap ≤ 9223372036854775807 := by
  obtain ⟨xs, n, rfl, hx, _, hlen, hg⟩ := DataW.trod_struct Tryz.underlying24 h
  match xs, hlen with
  | [y0, y1, y2], _ =>
    have g0 : DataW.trod enc Tryz.prog W base spare held n 3 ((cs.drop 0).take (Tryz.prog.cellsOf 3)) = some y0 := hg 0 _ rfl
    have g1 : DataW.trod enc Tryz.prog W base spare held n 22 ((cs.drop 1).take (Tryz.prog.cellsOf 22)) = some y1 := hg 1 _ rfl
    have g2 : DataW.trod enc Tryz.prog W base spare held n 3 ((cs.drop 2).take (Tryz.prog.cellsOf 3)) = some y2 := hg 2 _ rfl
    rw [show Tryz.prog.cellsOf 3 = 1 by kernel_rfl] at g0 g2
    rw [show Tryz.prog.cellsOf 22 = 1 by kernel_rfl] at g1
    obtain ⟨k, e0, _, w0⟩ := DataW.trod_int Tryz.underlying3 (x := y0) g0
    obtain ⟨A, n2, c2, bs, e1, hb⟩ := open_bytes (x := y1) g1
    obtain ⟨m, e2, _, w2⟩ := DataW.trod_int Tryz.underlying3 (x := y2) g2
    have q0 := at_take_c e0
    have q1 := at_take_c e1
    have q2 := at_take_c e2
    have b0 := bounds_i64 w0
    refine ⟨⟨k, bs, m⟩, A, n2, c2, ?_, hb, b0.1, b0.2⟩
    match cs, hl with
    | [u0, u1, u2], _ =>
      simp only [List.getElem?_cons_zero, List.getElem?_cons_succ, Option.some.injEq] at q0 q1 q2
      rw [q0, q1, q2]
/-- the cells of a slice of entries -/
theorem entries_cells {fuel : Nat} {cs : List Value} {x : DataW H × List MemPlace} (h : DataW.trod enc Tryz.prog W base spare held fuel 25 cs = some x) :
    ∃ (A : Option Addr) (n c : Nat) (l : List En), cs = [.slice A n c] ∧ Ens W A n c l ∧ ∀ u ∈ l, u.ok := by
  rcases Go.Deep.open_slice Tryz.underlying25 h with ⟨hcs, _⟩ | ⟨a, n, c, m, n', D, Pl, hcs, _, hl, hm, hz, _, hx⟩
  · exact ⟨none, 0, 0, [], hcs, Ens.nil W, fun u hu => by cases hu⟩
  · have hlm : n ≤ m := by rw [hz]; split <;> omega
    have each : ∀ i, i < n → ∃ u : En, (∀ j, j < 9 → W.cell? ((a.add (i * 9)).add j) = u.row[j]?) ∧ u.ok := by
      intro i hi
      obtain ⟨cs', h1, h2⟩ := hx i (by omega)
      rw [cellsEntry] at h1
      obtain ⟨_, h3, h4⟩ := World.cells?_some h1
      obtain ⟨u, rfl, hb⟩ := entry_cells n' cs' _ h3 h2
      exact ⟨u, h4, hb⟩
    haveI : Inhabited En := ⟨En.zero⟩
    obtain ⟨q, hq⟩ := Go.Deep.choose_lt each
    refine ⟨some a, n, c, (List.range n).map q, hcs, ⟨by simp, ?_, ?_, hl, hm, (fun e => by cases e), ?_⟩, fun u hu => ?_⟩
    · intro r hr
      obtain ⟨u, _, rfl⟩ := List.mem_map.1 hr
      rfl
    · intro r hr v hv
      obtain ⟨u, _, rfl⟩ := List.mem_map.1 hr
      exact row_one9 u v hv
    · intro hn
      obtain ⟨ab, ao, am⟩ := a
      have h0 := (hq 0 hn).1 0 (by omega)
      have ham : am = none := by
        have h1 : (q 0).row[0]? = some (.int .i64 (q 0).kind) := rfl
        rw [h1] at h0
        simpa [Addr.add] using World.cell?_spot h0
      subst ham
      refine ⟨ab, ao, rfl, fun j hj i hi => ?_⟩
      have h1 := (hq j hj).1 i hi
      rw [add_two9] at h1
      rw [h1]
      have hl9 : i < (q j).row.length := hi
      simp [List.getD_eq_getElem?_getD, List.getElem?_range hj, hl9]
    · obtain ⟨i, hi, rfl⟩ := List.mem_map.1 hu
      exact (hq i (List.mem_range.1 hi)).2
theorem cut_cells (cs : List Value) (hl : cs.length = 36) : cs = (cs.drop 0).take 3 ++ ((cs.drop 3).take 1 ++ (cs.drop 4).take 32) := by
  have h4 : (cs.drop 4).take 32 = cs.drop 4 := List.take_of_length_le (by rw [List.length_drop]; omega)
  have h3 : (cs.drop 3).take 1 ++ cs.drop 4 = cs.drop 3 := by
    have := List.take_append_drop 1 (cs.drop 3)
    rw [List.drop_drop] at this
    exact this
  rw [h4, h3, List.drop_zero, List.take_append_drop]
/-- the cells of a log -/
theorem log_cells (fuel : Nat) (cs : List Value) (x : DataW H × List MemPlace) (hl : cs.length = 36) (h : DataW.trod enc Tryz.prog W base spare held fuel 29 cs = some x) :
    ∃ (p : Lp) (g : Lg), cs = p.cells ∧ LgAt W p g := by
  obtain ⟨xs, n, rfl, hx, _, hlen, hg⟩ := DataW.trod_struct Tryz.underlying29 h
  match xs, hlen with
  | [y0, y1, y2], _ =>
    have g0 : DataW.trod enc Tryz.prog W base spare held n 24 ((cs.drop 0).take (Tryz.prog.cellsOf 24)) = some y0 := hg 0 _ rfl
    have g1 : DataW.trod enc Tryz.prog W base spare held n 25 ((cs.drop 3).take (Tryz.prog.cellsOf 25)) = some y1 := hg 1 _ rfl
    have g2 : DataW.trod enc Tryz.prog W base spare held n 27 ((cs.drop 4).take (Tryz.prog.cellsOf 27)) = some y2 := hg 2 _ rfl
    rw [cellsStoreG] at g0
    rw [cellsEnsG] at g1
    rw [cellsIdC] at g2
    obtain ⟨s, A, k, c, e0, hb, f1, f2⟩ := store_cells_g n _ _ (by rw [List.length_take, List.length_drop, hl]; rfl) g0
    obtain ⟨B, m, d, l, e1, hen, hok⟩ := entries_cells g1
    obtain ⟨z, e2, hz1, hz2⟩ := id_cells (by rw [List.length_take, List.length_drop, hl]; rfl) g2
    refine ⟨⟨s.cap, A, k, c, s.sure, B, m, d, z⟩, ⟨s, l, z⟩, ?_, ⟨rfl, rfl, rfl, hb, hen, ⟨hok, hz1, hz2⟩, f1, f2⟩⟩
    rw [cut_cells cs hl, e0, e1, e2]
    rfl
/-- an argument that is a log -/
theorem open_log_arg {v : Value} {r : Reach} {b0 : Nat} {d : DataW H} {p : List MemPlace} (hv : Value.okWide Tryz.prog W r b0 29 v) (h : DataW.Trod enc Tryz.prog W base spare held 29 v d p) :
    ∃ (p : Lp) (g : Lg), v = .agg p.arr ∧ LgAt W p g := by
  obtain ⟨cs, rfl, hsz⟩ := okWide_struct Tryz.underlying29 hv
  obtain ⟨l⟩ := cs
  obtain ⟨fuel, hf⟩ := h
  obtain ⟨p, g, hu, hb⟩ := log_cells fuel l _ (hsz.trans cellsLog) hf
  exact ⟨p, g, by rw [hu]; rfl, hb⟩
end
end Go.Proofs.YtafmompplcaadaaGreatDoor

/- The laws' arguments, opened: a store. -/
namespace Go.Proofs.YtafmompplcaadaaGreatDoor
set_option maxRecDepth 100000
set_option linter.unusedVariables false
set_option linter.unusedSimpArgs false
open Go.ChangeShapes Go.WideShapes Go.ChangeAt Go.RowKit

theorem cellsStore : Tryz.prog.cellsOf 24 = 3 := by kernel_rfl
section
variable {H : Type} {enc : TypeId × Value → H} {W : World} {base : Nat} {spare : Nat → Bool} {held : Bool}
theorem store_cells (fuel : Nat) (cs : List Value) (x : DataW H × List MemPlace) (hl : cs.length = 3) (h : DataW.trod enc Tryz.prog W base spare held fuel 24 cs = some x) : ∃ (s : Sp) (A : Option Addr) (n c : Nat), cs = [.int .i64 s.cap, .slice A n c, .int .i64 s.sure] ∧ Bts W A n c s.data := by
  obtain ⟨xs, n, rfl, hx, _, hlen, hg⟩ := DataW.trod_struct Tryz.underlying24 h
  match xs, hlen with
  | [y0, y1, y2], _ =>
    have g0 : DataW.trod enc Tryz.prog W base spare held n 3 ((cs.drop 0).take (Tryz.prog.cellsOf 3)) = some y0 := hg 0 _ rfl
    have g1 : DataW.trod enc Tryz.prog W base spare held n 22 ((cs.drop 1).take (Tryz.prog.cellsOf 22)) = some y1 := hg 1 _ rfl
    have g2 : DataW.trod enc Tryz.prog W base spare held n 3 ((cs.drop 2).take (Tryz.prog.cellsOf 3)) = some y2 := hg 2 _ rfl
    rw [cellsInt] at g0 g2
    rw [cellsBytes] at g1
    obtain ⟨k, e0, _, w0⟩ := DataW.trod_int Tryz.underlying3 (x := y0) g0
    obtain ⟨A, n2, c2, bs, e1, hb⟩ := open_bytes (x := y1) g1
    obtain ⟨m, e2, _, w2⟩ := DataW.trod_int Tryz.underlying3 (x := y2) g2
    have q0 := one_of_take3 e0
    have q1 := one_of_take3 e1
    have q2 := one_of_take3 e2
    refine ⟨⟨k, bs, m⟩, A, n2, c2, ?_, hb⟩
    match cs, hl with
    | [u0, u1, u2], _ =>
      simp only [List.getElem?_cons_zero, List.getElem?_cons_succ, Option.some.injEq] at q0 q1 q2
      rw [q0, q1, q2]
/-- an argument that is a store -/
theorem open_store {v : Value} {r : Reach} {b0 : Nat} {d : DataW H} {p : List MemPlace} (hv : Value.okWide Tryz.prog W r b0 24 v) (h : DataW.Trod enc Tryz.prog W base spare held 24 v d p) :
    ∃ (s : Sp) (A : Option Addr) (n c : Nat), v = s.val A n c ∧ Bts W A n c s.data := by
  obtain ⟨cs, rfl, hsz⟩ := okWide_struct Tryz.underlying24 hv
  obtain ⟨l⟩ := cs
  obtain ⟨fuel, hf⟩ := h
  obtain ⟨s, A, n, c, hu, hb⟩ := store_cells fuel l _ (hsz.trans cellsStore) hf
  refine ⟨s, A, n, c, ?_, hb⟩
  rw [hu]
  rfl
end
end Go.Proofs.YtafmompplcaadaaGreatDoor

/- The table of the constants, as the rows list it; openers of the laws' arguments. -/
namespace Go.Proofs.YtafmompplcaadaaGreatDoor
set_option maxRecDepth 100000
set_option linter.unusedVariables false
set_option linter.unusedSimpArgs false
open Go.ChangeShapes Go.WideShapes Go.ChangeAt Go.RowKit

theorem gK : Tryz.prog.globalNamed "pelican/sha.constants" = some 0 := by kernel_rfl
theorem gKType : (Tryz.prog.globals[0]?).map (·.type) = some 133 := by kernel_rfl
theorem cells64 : Tryz.prog.cellsOf 133 = 64 := by kernel_rfl
theorem cellsU32 : Tryz.prog.cellsOf 107 = 1 := by kernel_rfl
/-- what the row's list gives -/
theorem table {W : World} (h : laidMetH Tryz.prog Rows.auditTellsRow.laid W) : Lib.TabIs Tryz.prog W "pelican/sha.constants" .u32 kList :=
  Lib.tabIs_of_head (rest := []) gK gKType Tryz.underlying133 Tryz.underlying107 cellsU32 cells64 h
theorem ktab {W : World} (h : laidMetH Tryz.prog Rows.auditTellsRow.laid W) : KTab W := by
  have hc : ∀ j, j < 64 → W.cell? ⟨0, j, none⟩ = some (.int .u32 (kList.getD j 0)) := fun j hj => (table h).cell gK j (by simpa [kList] using hj)
  exact ⟨block_lt_of_cell (hc 0 (by omega)), hc⟩
section
variable {H : Type} {enc : TypeId × Value → H} {base : Nat} {spare : Nat → Bool} {held : Bool}
theorem trodAll_seven {P : Program} {w : World} {t0 t1 t2 t3 t4 t5 t6 : TypeId} {args : Array Value} {ds : List (DataW H)} {ps : List MemPlace} (h : DataW.TrodAll enc P w base spare held [t0, t1, t2, t3, t4, t5, t6] args.toList ds ps) :
    ∃ v0 v1 v2 v3 v4 v5 v6 d0 d1 d2 d3 d4 d5 d6 p0 p1 p2 p3 p4 p5 p6, args = #[v0, v1, v2, v3, v4, v5, v6] ∧ ds = [d0, d1, d2, d3, d4, d5, d6] ∧ ps = p0 ++ p1 ++ p2 ++ p3 ++ p4 ++ p5 ++ p6 ∧ DataW.Trod enc P w base spare held t0 v0 d0 p0 ∧ DataW.Trod enc P w base spare held t1 v1 d1 p1 ∧ DataW.Trod enc P w base spare held t2 v2 d2 p2 ∧ DataW.Trod enc P w base spare held t3 v3 d3 p3 ∧ DataW.Trod enc P w base spare held t4 v4 d4 p4 ∧ DataW.Trod enc P w base spare held t5 v5 d5 p5 ∧ DataW.Trod enc P w base spare held t6 v6 d6 p6 := by
  obtain ⟨v0, vs0, d0, es0, p0, q0, hargs, rfl, rfl, h0, r0⟩ := trodAll_cons h
  obtain ⟨v1, vs1, d1, es1, p1, q1, rfl, rfl, rfl, h1, r1⟩ := trodAll_cons r0
  obtain ⟨v2, vs2, d2, es2, p2, q2, rfl, rfl, rfl, h2, r2⟩ := trodAll_cons r1
  obtain ⟨v3, vs3, d3, es3, p3, q3, rfl, rfl, rfl, h3, r3⟩ := trodAll_cons r2
  obtain ⟨v4, vs4, d4, es4, p4, q4, rfl, rfl, rfl, h4, r4⟩ := trodAll_cons r3
  obtain ⟨v5, vs5, d5, es5, p5, q5, rfl, rfl, rfl, h5, r5⟩ := trodAll_cons r4
  obtain ⟨v6, vs6, d6, es6, p6, q6, rfl, rfl, rfl, h6, r6⟩ := trodAll_cons r5
  obtain ⟨rfl, rfl, rfl⟩ := trodAll_nil r6
  exact ⟨v0, v1, v2, v3, v4, v5, v6, d0, d1, d2, d3, d4, d5, d6, p0, p1, p2, p3, p4, p5, p6, by cases args; simp_all, rfl, by simp, h0, h1, h2, h3, h4, h5, h6⟩
theorem trodAll_mk7 {P : Program} {w : World} {t0 t1 t2 t3 t4 t5 t6 : TypeId} {v0 v1 v2 v3 v4 v5 v6 : Value} {d0 d1 d2 d3 d4 d5 d6 : DataW H} {p0 p1 p2 p3 p4 p5 p6 : List MemPlace} (h0 : DataW.Trod enc P w base spare held t0 v0 d0 p0) (h1 : DataW.Trod enc P w base spare held t1 v1 d1 p1) (h2 : DataW.Trod enc P w base spare held t2 v2 d2 p2) (h3 : DataW.Trod enc P w base spare held t3 v3 d3 p3) (h4 : DataW.Trod enc P w base spare held t4 v4 d4 p4) (h5 : DataW.Trod enc P w base spare held t5 v5 d5 p5) (h6 : DataW.Trod enc P w base spare held t6 v6 d6 p6) : DataW.TrodAll enc P w base spare held [t0, t1, t2, t3, t4, t5, t6] [v0, v1, v2, v3, v4, v5, v6] [d0, d1, d2, d3, d4, d5, d6] (p0 ++ (p1 ++ (p2 ++ (p3 ++ (p4 ++ (p5 ++ (p6))))))) :=
  ⟨p0, _, h0, trodAll_mk6 h1 h2 h3 h4 h5 h6, rfl⟩
end
end Go.Proofs.YtafmompplcaadaaGreatDoor
