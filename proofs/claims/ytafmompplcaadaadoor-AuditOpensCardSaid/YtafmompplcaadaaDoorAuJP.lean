/- Joined texts: The laws' arguments, opened: an entry by value; a slice of entries. The laws' arguments, opened: a head. The laws' arguments, opened: a log. The laws' arguments, opened: a store. The table of the constants, as the rows list it; openers of the laws' arguments. -/
import Derived.Test.YtafmompplcaadaaDoorAuJC
import Derived.Deep.Slices
import Derived.Deep.SlicePairs
import Derived.Test.YtafmompplcaadaaDoorAuJB
import Derived.Test.YtafmompplcaadaaDoorAuJE
import Derived.Test.YtafmompplcaadaaDoorAuJG
import Derived.Test.YtafmompplcaadaaDoorAuJA
import Derived.Test.YtafmompplcaadaaDoorCards
import Derived.Test.YtafmompplcaadaaDoorTie
import Derived.Lib.LaidTab
/- The laws' arguments, opened: an entry by value; a slice of entries. -/
namespace Go.Proofs.YtafmompplcaadaaDoor
set_option maxRecDepth 100000
set_option linter.unusedVariables false
set_option linter.unusedSimpArgs false
open Go.ChangeShapes Go.WideShapes Go.ChangeAt Go.RowKit

theorem cellsEntry : Tryd.prog.cellsOf 33 = 9 := by kernel_rfl
theorem cellsU64e : Tryd.prog.cellsOf 30 = 1 := by kernel_rfl
theorem cellsErrno : Tryd.prog.cellsOf 31 = 1 := by kernel_rfl
theorem at_take_e {l : List Value} {i : Nat} {v : Value} (h : (l.drop i).take 1 = [v]) : l[i]? = some v := by
  have h1 : ((l.drop i).take 1)[0]? = some v := by rw [h]; rfl
  rw [List.getElem?_take, if_pos (by omega), List.getElem?_drop, Nat.add_zero] at h1
  exact h1
theorem add_two9 (b o m i : Nat) : (((⟨b, o, none⟩ : Addr).add m).add i) = ⟨b, o + m + i, none⟩ := by rw [Addr.add_mid, Addr.add_mid]
section
variable {H : Type} {enc : TypeId × Value → H} {W : World} {base : Nat} {spare : Nat → Bool} {held : Bool}
theorem entry_cells (fuel : Nat) (cs : List Value) (x : DataW H × List MemPlace) (hl : cs.length = 9) (h : DataW.trod enc Tryd.prog W base spare held fuel 33 cs = some x) : ∃ u : En, cs = u.row ∧ u.ok := by
  obtain ⟨xs, n, rfl, hx, _, hlen, hg⟩ := DataW.trod_struct Tryd.underlying33 h
  match xs, hlen with
  | [y0, y1, y2, y3, y4, y5, y6, y7, y8], _ =>
    have g0 : DataW.trod enc Tryd.prog W base spare held n 3 ((cs.drop 0).take (Tryd.prog.cellsOf 3)) = some y0 := hg 0 _ rfl
    have g1 : DataW.trod enc Tryd.prog W base spare held n 3 ((cs.drop 1).take (Tryd.prog.cellsOf 3)) = some y1 := hg 1 _ rfl
    have g2 : DataW.trod enc Tryd.prog W base spare held n 3 ((cs.drop 2).take (Tryd.prog.cellsOf 3)) = some y2 := hg 2 _ rfl
    have g3 : DataW.trod enc Tryd.prog W base spare held n 3 ((cs.drop 3).take (Tryd.prog.cellsOf 3)) = some y3 := hg 3 _ rfl
    have g4 : DataW.trod enc Tryd.prog W base spare held n 30 ((cs.drop 4).take (Tryd.prog.cellsOf 30)) = some y4 := hg 4 _ rfl
    have g5 : DataW.trod enc Tryd.prog W base spare held n 30 ((cs.drop 5).take (Tryd.prog.cellsOf 30)) = some y5 := hg 5 _ rfl
    have g6 : DataW.trod enc Tryd.prog W base spare held n 3 ((cs.drop 6).take (Tryd.prog.cellsOf 3)) = some y6 := hg 6 _ rfl
    have g7 : DataW.trod enc Tryd.prog W base spare held n 3 ((cs.drop 7).take (Tryd.prog.cellsOf 3)) = some y7 := hg 7 _ rfl
    have g8 : DataW.trod enc Tryd.prog W base spare held n 31 ((cs.drop 8).take (Tryd.prog.cellsOf 31)) = some y8 := hg 8 _ rfl
    rw [cellsInt] at g0 g1 g2 g3 g6 g7
    rw [cellsU64e] at g4 g5
    rw [cellsErrno] at g8
    obtain ⟨x0, e0, _, w0⟩ := DataW.trod_int Tryd.underlying3 (x := y0) g0
    obtain ⟨x1, e1, _, w1⟩ := DataW.trod_int Tryd.underlying3 (x := y1) g1
    obtain ⟨x2, e2, _, w2⟩ := DataW.trod_int Tryd.underlying3 (x := y2) g2
    obtain ⟨x3, e3, _, w3⟩ := DataW.trod_int Tryd.underlying3 (x := y3) g3
    obtain ⟨x4, e4, _, w4⟩ := DataW.trod_int Tryd.underlying30 (x := y4) g4
    obtain ⟨x5, e5, _, w5⟩ := DataW.trod_int Tryd.underlying30 (x := y5) g5
    obtain ⟨x6, e6, _, w6⟩ := DataW.trod_int Tryd.underlying3 (x := y6) g6
    obtain ⟨x7, e7, _, w7⟩ := DataW.trod_int Tryd.underlying3 (x := y7) g7
    obtain ⟨x8, e8, _, w8⟩ := DataW.trod_int Tryd.underlying31 (x := y8) g8
    have b4 := bounds_u64 w4
    have b5 := bounds_u64 w5
    have q0 := at_take_e e0
    have q1 := at_take_e e1
    have q2 := at_take_e e2
    have q3 := at_take_e e3
    have q4 := at_take_e e4
    have q5 := at_take_e e5
    have q6 := at_take_e e6
    have q7 := at_take_e e7
    have q8 := at_take_e e8
    refine ⟨⟨x0, x1, x2, x3, x4, x5, x6, x7, x8⟩, ?_, ⟨⟨b4.1, Int.lt_of_le_of_lt b4.2 (by decide)⟩, ⟨b5.1, Int.lt_of_le_of_lt b5.2 (by decide)⟩⟩⟩
    match cs, hl with
    | [u0, u1, u2, u3, u4, u5, u6, u7, u8], _ =>
      simp only [List.getElem?_cons_zero, List.getElem?_cons_succ, Option.some.injEq] at q0 q1 q2 q3 q4 q5 q6 q7 q8
      rw [q0, q1, q2, q3, q4, q5, q6, q7, q8]
      rfl
/-- an argument that is an entry -/
theorem open_entry {v : Value} {r : Reach} {b0 : Nat} {d : DataW H} {p : List MemPlace} (hv : Value.okWide Tryd.prog W r b0 33 v) (h : DataW.Trod enc Tryd.prog W base spare held 33 v d p) :
    ∃ u : En, v = enV u ∧ u.ok := by
  obtain ⟨cs, rfl, hsz⟩ := okWide_struct Tryd.underlying33 hv
  obtain ⟨l⟩ := cs
  obtain ⟨fuel, hf⟩ := h
  obtain ⟨u, rfl, hb⟩ := entry_cells fuel l _ (hsz.trans cellsEntry) hf
  exact ⟨u, rfl, hb⟩
/-- an argument that is a slice of entries, each of numbers that fit -/
theorem open_entries_ok {v : Value} {r : Reach} {b0 : Nat} {d : DataW H} {p : List MemPlace} (hv : Value.okWide Tryd.prog W r b0 25 v) (h : DataW.Trod enc Tryd.prog W base spare held 25 v d p) :
    ∃ (A : Option Addr) (n c : Nat) (l : List En), v = .slice A n c ∧ Ens W A n c l ∧ ∀ u ∈ l, u.ok := by
  obtain ⟨A, n, c, rfl⟩ := okWide_slice Tryd.underlying25 hv
  obtain ⟨fuel, hf⟩ := h
  rcases Go.Deep.open_slice Tryd.underlying25 hf with ⟨hcs, _⟩ | ⟨a, len, cap, m, n', D, Pl, hcs, _, hl, hm, hz, _, hx⟩
  · simp only [Value.cells, List.cons.injEq, Value.slice.injEq, and_true] at hcs
    obtain ⟨rfl, rfl, rfl⟩ := hcs
    exact ⟨none, 0, 0, [], rfl, Ens.nil W, fun u hu => by cases hu⟩
  · simp only [Value.cells, List.cons.injEq, Value.slice.injEq, and_true] at hcs
    obtain ⟨rfl, rfl, rfl⟩ := hcs
    have hlm : n ≤ m := by rw [hz]; split <;> omega
    have each : ∀ i, i < n → ∃ u : En, (∀ j, j < 9 → W.cell? ((a.add (i * 9)).add j) = u.row[j]?) ∧ u.ok := by
      intro i hi
      obtain ⟨cs', h1, h2⟩ := hx i (by omega)
      rw [cellsEntry] at h1
      obtain ⟨_, h3, h4⟩ := World.cells?_some h1
      obtain ⟨u, rfl, hb⟩ := entry_cells n' cs' _ h3 h2
      exact ⟨u, h4, hb⟩
    haveI : Inhabited En := ⟨En.zero⟩
    obtain ⟨q, hq⟩ := Go.Deep.choose_lt each
    refine ⟨some a, n, c, (List.range n).map q, rfl, ⟨by simp, ?_, ?_, hl, hm, (fun e => by cases e), ?_⟩, fun u hu => ?_⟩
    · intro r hr
      obtain ⟨u, _, rfl⟩ := List.mem_map.1 hr
      rfl
    · intro r hr v hv
      obtain ⟨u, _, rfl⟩ := List.mem_map.1 hr
      exact row_one9 u v hv
    · intro hn
      obtain ⟨ab, ao, am⟩ := a
      have h0 := (hq 0 hn).1 0 (by omega)
      have ham : am = none := by
        have h1 : (q 0).row[0]? = some (.int .i64 (q 0).kind) := rfl
        rw [h1] at h0
        simpa [Addr.add] using World.cell?_spot h0
      subst ham
      refine ⟨ab, ao, rfl, fun j hj i hi => ?_⟩
      have h1 := (hq j hj).1 i hi
      rw [add_two9] at h1
      rw [h1]
      have hl9 : i < (q j).row.length := hi
      simp [List.getD_eq_getElem?_getD, List.getElem?_range hj, hl9]
    · obtain ⟨i, hi, rfl⟩ := List.mem_map.1 hu
      exact (hq i (List.mem_range.1 hi)).2
/-- an argument that is a slice of entries -/
theorem open_entries {v : Value} {r : Reach} {b0 : Nat} {d : DataW H} {p : List MemPlace} (hv : Value.okWide Tryd.prog W r b0 25 v) (h : DataW.Trod enc Tryd.prog W base spare held 25 v d p) :
    ∃ (A : Option Addr) (n c : Nat) (l : List En), v = .slice A n c ∧ Ens W A n c l := by
  obtain ⟨A, n, c, l, h1, h2, _⟩ := open_entries_ok hv h
  exact ⟨A, n, c, l, h1, h2⟩
end
end Go.Proofs.YtafmompplcaadaaDoor

/- The laws' arguments, opened: a head. -/
namespace Go.Proofs.YtafmompplcaadaaDoor
set_option maxRecDepth 100000
set_option linter.unusedVariables false
set_option linter.unusedSimpArgs false
open Go.ChangeShapes Go.WideShapes Go.ChangeAt Go.RowKit

theorem cellsIdC : Tryd.prog.cellsOf 27 = 32 := by kernel_rfl
theorem at_take_c {l : List Value} {i : Nat} {v : Value} (h : (l.drop i).take 1 = [v]) : l[i]? = some v := by
  have h1 : ((l.drop i).take 1)[0]? = some v := by rw [h]; rfl
  rw [List.getElem?_take, if_pos (by omega), List.getElem?_drop, Nat.add_zero] at h1
  exact h1
section
variable {H : Type} {enc : TypeId × Value → H} {W : World} {base : Nat} {spare : Nat → Bool} {held : Bool}
/-- the cells of a head -/
theorem id_cells {fuel : Nat} {cs : List Value} {x : DataW H × List MemPlace} (hl : cs.length = 32) (h : DataW.trod enc Tryd.prog W base spare held fuel 27 cs = some x) :
    ∃ z : List Int, cs = byv z ∧ z.length = 32 ∧ ∀ j, 0 ≤ z.getD j 0 ∧ z.getD j 0 < 256 := by
  obtain ⟨zs, m, _, _, _, hzl, hz⟩ := DataW.trod_array Tryd.underlying27 h
  have each : ∀ i, i < 32 → ∃ z : Int, cs[i]? = some (.int .u8 z) ∧ (0 ≤ z ∧ z < 256) := by
    intro i hi
    have e := hz i (by omega)
    rw [cellsU8] at e
    obtain ⟨y, hy⟩ : ∃ y, zs[i]? = some y := ⟨_, List.getElem?_eq_getElem (by omega)⟩
    rw [hy] at e
    obtain ⟨z, ez, _, wz⟩ := DataW.trod_int Tryd.underlying5 e
    have bz := bounds_u8 wz
    have qz := at_take_c ez
    rw [Nat.mul_one] at qz
    exact ⟨z, qz, bz.1, by omega⟩
  obtain ⟨q, hq⟩ := Go.Deep.choose_lt each
  refine ⟨(List.range 32).map q, ?_, by simp, ?_⟩
  · apply List.ext_getElem?
    intro i
    by_cases h32 : i < 32
    · rw [(hq i h32).1]
      simp [byv, List.getElem?_range h32]
    · rw [List.getElem?_eq_none (by omega), List.getElem?_eq_none (by simp [byv]; omega)]
  · intro j
    by_cases h32 : j < 32
    · simp only [List.getD_eq_getElem?_getD, List.getElem?_map, List.getElem?_range h32, Option.map_some, Option.getD_some]
      exact (hq j h32).2
    · rw [List.getD_eq_getElem?_getD, List.getElem?_eq_none (by simp; omega)]
      simp
theorem okWide_arr {P : Program} {w : World} {r : Reach} {b0 : Nat} {t e : TypeId} {n : Nat} {v : Value} (ht : P.underlying t = some (.array n e)) (h : Value.okWide P w r b0 t v) : ∃ cs, v = .agg cs ∧ cs.size = P.cellsOf t := by
  simp only [Value.okWide, ht] at h
  obtain ⟨cs, h1, h2, _⟩ := h
  exact ⟨cs, h1, h2⟩
/-- an argument that is a head -/
theorem open_id {v : Value} {r : Reach} {b0 : Nat} {d : DataW H} {p : List MemPlace} (hv : Value.okWide Tryd.prog W r b0 27 v) (h : DataW.Trod enc Tryd.prog W base spare held 27 v d p) :
    ∃ z : List Int, v = .agg (idv z) ∧ z.length = 32 ∧ ∀ j, 0 ≤ z.getD j 0 ∧ z.getD j 0 < 256 := by
  obtain ⟨cs, rfl, hsz⟩ := okWide_arr Tryd.underlying27 hv
  obtain ⟨l⟩ := cs
  obtain ⟨fuel, hf⟩ := h
  obtain ⟨z, rfl, hz⟩ := id_cells (hsz.trans cellsIdC) hf
  exact ⟨z, rfl, hz⟩
end
end Go.Proofs.YtafmompplcaadaaDoor

/- The laws' arguments, opened: a log. -/
namespace Go.Proofs.YtafmompplcaadaaDoor
set_option maxRecDepth 100000
set_option linter.unusedVariables false
set_option linter.unusedSimpArgs false
open Go.ChangeShapes Go.WideShapes Go.ChangeAt Go.RowKit

theorem cellsStoreG : Tryd.prog.cellsOf 24 = 3 := by kernel_rfl
theorem cellsEnsG : Tryd.prog.cellsOf 25 = 1 := by kernel_rfl
theorem cellsLog : Tryd.prog.cellsOf 29 = 36 := by kernel_rfl
section
variable {H : Type} {enc : TypeId × Value → H} {W : World} {base : Nat} {spare : Nat → Bool} {held : Bool}
/-- the cells of a store, its room a number that fits -/
theorem store_cells_g (fuel : Nat) (cs : List Value) (x : DataW H × List MemPlace) (hl : cs.length = 3) (h : DataW.trod enc Tryd.prog W base spare held fuel 24 cs = some x) :
    ∃ (s : Sp) (A : Option Addr) (n c : Nat), cs = [.int .i64 s.cap, .slice A n c, .int .i64 s.sure] ∧ Bts W A n c s.data ∧ -9223372036854775808 ≤ s.cap ∧ s.cap ≤ 9223372036854775807 := by
  obtain ⟨xs, n, rfl, hx, _, hlen, hg⟩ := DataW.trod_struct Tryd.underlying24 h
  match xs, hlen with
  | [y0, y1, y2], _ =>
    have g0 : DataW.trod enc Tryd.prog W base spare held n 3 ((cs.drop 0).take (Tryd.prog.cellsOf 3)) = some y0 := hg 0 _ rfl
    have g1 : DataW.trod enc Tryd.prog W base spare held n 22 ((cs.drop 1).take (Tryd.prog.cellsOf 22)) = some y1 := hg 1 _ rfl
    have g2 : DataW.trod enc Tryd.prog W base spare held n 3 ((cs.drop 2).take (Tryd.prog.cellsOf 3)) = some y2 := hg 2 _ rfl
    rw [show Tryd.prog.cellsOf 3 = 1 by kernel_rfl] at g0 g2
    rw [show Tryd.prog.cellsOf 22 = 1 by kernel_rfl] at g1
    obtain ⟨k, e0, _, w0⟩ := DataW.trod_int Tryd.underlying3 (x := y0) g0
    obtain ⟨A, n2, c2, bs, e1, hb⟩ := open_bytes (x := y1) g1
    obtain ⟨m, e2, _, w2⟩ := DataW.trod_int Tryd.underlying3 (x := y2) g2
    have q0 := at_take_c e0
    have q1 := at_take_c e1
    have q2 := at_take_c e2
    have b0 := bounds_i64 w0
    refine ⟨⟨k, bs, m⟩, A, n2, c2, ?_, hb, b0.1, b0.2⟩
    match cs, hl with
    | [u0, u1, u2], _ =>
      simp only [List.getElem?_cons_zero, List.getElem?_cons_succ, Option.some.injEq] at q0 q1 q2
      rw [q0, q1, q2]
/-- the cells of a slice of entries -/
theorem entries_cells {fuel : Nat} {cs : List Value} {x : DataW H × List MemPlace} (h : DataW.trod enc Tryd.prog W base spare held fuel 25 cs = some x) :
    ∃ (A : Option Addr) (n c : Nat) (l : List En), cs = [.slice A n c] ∧ Ens W A n c l ∧ ∀ u ∈ l, u.ok := by
  rcases Go.Deep.open_slice Tryd.underlying25 h with ⟨hcs, _⟩ | ⟨a, n, c, m, n', D, Pl, hcs, _, hl, hm, hz, _, hx⟩
  · exact ⟨none, 0, 0, [], hcs, Ens.nil W, fun u hu => by cases hu⟩
  · have hlm : n ≤ m := by rw [hz]; split <;> omega
    have each : ∀ i, i < n → ∃ u : En, (∀ j, j < 9 → W.cell? ((a.add (i * 9)).add j) = u.row[j]?) ∧ u.ok := by
      intro i hi
      obtain ⟨cs', h1, h2⟩ := hx i (by omega)
      rw [cellsEntry] at h1
      obtain ⟨_, h3, h4⟩ := World.cells?_some h1
      obtain ⟨u, rfl, hb⟩ := entry_cells n' cs' _ h3 h2
      exact ⟨u, h4, hb⟩
    haveI : Inhabited En := ⟨En.zero⟩
    obtain ⟨q, hq⟩ := Go.Deep.choose_lt each
    refine ⟨some a, n, c, (List.range n).map q, hcs, ⟨by simp, ?_, ?_, hl, hm, (fun e => by cases e), ?_⟩, fun u hu => ?_⟩
    · intro r hr
      obtain ⟨u, _, rfl⟩ := List.mem_map.1 hr
      rfl
    · intro r hr v hv
      obtain ⟨u, _, rfl⟩ := List.mem_map.1 hr
      exact row_one9 u v hv
    · intro hn
      obtain ⟨ab, ao, am⟩ := a
      have h0 := (hq 0 hn).1 0 (by omega)
      have ham : am = none := by
        have h1 : (q 0).row[0]? = some (.int .i64 (q 0).kind) := rfl
        rw [h1] at h0
        simpa [Addr.add] using World.cell?_spot h0
      subst ham
      refine ⟨ab, ao, rfl, fun j hj i hi => ?_⟩
      have h1 := (hq j hj).1 i hi
      rw [add_two9] at h1
      rw [h1]
      have hl9 : i < (q j).row.length := hi
      simp [List.getD_eq_getElem?_getD, List.getElem?_range hj, hl9]
    · obtain ⟨i, hi, rfl⟩ := List.mem_map.1 hu
      exact (hq i (List.mem_range.1 hi)).2
theorem cut_cells (cs : List Value) (hl : cs.length = 36) : cs = (cs.drop 0).take 3 ++ ((cs.drop 3).take 1 ++ (cs.drop 4).take 32) := by
  have h4 : (cs.drop 4).take 32 = cs.drop 4 := List.take_of_length_le (by rw [List.length_drop]; omega)
  have h3 : (cs.drop 3).take 1 ++ cs.drop 4 = cs.drop 3 := by
    have := List.take_append_drop 1 (cs.drop 3)
    rw [List.drop_drop] at this
    exact this
  rw [h4, h3, List.drop_zero, List.take_append_drop]
/-- the cells of a log -/
theorem log_cells (fuel : Nat) (cs : List Value) (x : DataW H × List MemPlace) (hl : cs.length = 36) (h : DataW.trod enc Tryd.prog W base spare held fuel 29 cs = some x) :
    ∃ (p : Lp) (g : Lg), cs = p.cells ∧ LgAt W p g := by
  obtain ⟨xs, n, rfl, hx, _, hlen, hg⟩ := DataW.trod_struct Tryd.underlying29 h
  match xs, hlen with
  | [y0, y1, y2], _ =>
    have g0 : DataW.trod enc Tryd.prog W base spare held n 24 ((cs.drop 0).take (Tryd.prog.cellsOf 24)) = some y0 := hg 0 _ rfl
    have g1 : DataW.trod enc Tryd.prog W base spare held n 25 ((cs.drop 3).take (Tryd.prog.cellsOf 25)) = some y1 := hg 1 _ rfl
    have g2 : DataW.trod enc Tryd.prog W base spare held n 27 ((cs.drop 4).take (Tryd.prog.cellsOf 27)) = some y2 := hg 2 _ rfl
    rw [cellsStoreG] at g0
    rw [cellsEnsG] at g1
    rw [cellsIdC] at g2
    obtain ⟨s, A, k, c, e0, hb, f1, f2⟩ := store_cells_g n _ _ (by rw [List.length_take, List.length_drop, hl]; rfl) g0
    obtain ⟨B, m, d, l, e1, hen, hok⟩ := entries_cells g1
    obtain ⟨z, e2, hz1, hz2⟩ := id_cells (by rw [List.length_take, List.length_drop, hl]; rfl) g2
    refine ⟨⟨s.cap, A, k, c, s.sure, B, m, d, z⟩, ⟨s, l, z⟩, ?_, ⟨rfl, rfl, rfl, hb, hen, ⟨hok, hz1, hz2⟩, f1, f2⟩⟩
    rw [cut_cells cs hl, e0, e1, e2]
    rfl
/-- an argument that is a log -/
theorem open_log_arg {v : Value} {r : Reach} {b0 : Nat} {d : DataW H} {p : List MemPlace} (hv : Value.okWide Tryd.prog W r b0 29 v) (h : DataW.Trod enc Tryd.prog W base spare held 29 v d p) :
    ∃ (p : Lp) (g : Lg), v = .agg p.arr ∧ LgAt W p g := by
  obtain ⟨cs, rfl, hsz⟩ := okWide_struct Tryd.underlying29 hv
  obtain ⟨l⟩ := cs
  obtain ⟨fuel, hf⟩ := h
  obtain ⟨p, g, hu, hb⟩ := log_cells fuel l _ (hsz.trans cellsLog) hf
  exact ⟨p, g, by rw [hu]; rfl, hb⟩
end
end Go.Proofs.YtafmompplcaadaaDoor

/- The laws' arguments, opened: a store. -/
namespace Go.Proofs.YtafmompplcaadaaDoor
set_option maxRecDepth 100000
set_option linter.unusedVariables false
set_option linter.unusedSimpArgs false
open Go.ChangeShapes Go.WideShapes Go.ChangeAt Go.RowKit

theorem cellsStore : Tryd.prog.cellsOf 24 = 3 := by kernel_rfl
section
variable {H : Type} {enc : TypeId × Value → H} {W : World} {base : Nat} {spare : Nat → Bool} {held : Bool}
theorem store_cells (fuel : Nat) (cs : List Value) (x : DataW H × List MemPlace) (hl : cs.length = 3) (h : DataW.trod enc Tryd.prog W base spare held fuel 24 cs = some x) : ∃ (s : Sp) (A : Option Addr) (n c : Nat), cs = [.int .i64 s.cap, .slice A n c, .int .i64 s.sure] ∧ Bts W A n c s.data := by
  obtain ⟨xs, n, rfl, hx, _, hlen, hg⟩ := DataW.trod_struct Tryd.underlying24 h
  match xs, hlen with
  | [y0, y1, y2], _ =>
    have g0 : DataW.trod enc Tryd.prog W base spare held n 3 ((cs.drop 0).take (Tryd.prog.cellsOf 3)) = some y0 := hg 0 _ rfl
    have g1 : DataW.trod enc Tryd.prog W base spare held n 22 ((cs.drop 1).take (Tryd.prog.cellsOf 22)) = some y1 := hg 1 _ rfl
    have g2 : DataW.trod enc Tryd.prog W base spare held n 3 ((cs.drop 2).take (Tryd.prog.cellsOf 3)) = some y2 := hg 2 _ rfl
    rw [cellsInt] at g0 g2
    rw [cellsBytes] at g1
    obtain ⟨k, e0, _, w0⟩ := DataW.trod_int Tryd.underlying3 (x := y0) g0
    obtain ⟨A, n2, c2, bs, e1, hb⟩ := open_bytes (x := y1) g1
    obtain ⟨m, e2, _, w2⟩ := DataW.trod_int Tryd.underlying3 (x := y2) g2
    have q0 := one_of_take3 e0
    have q1 := one_of_take3 e1
    have q2 := one_of_take3 e2
    refine ⟨⟨k, bs, m⟩, A, n2, c2, ?_, hb⟩
    match cs, hl with
    | [u0, u1, u2], _ =>
      simp only [List.getElem?_cons_zero, List.getElem?_cons_succ, Option.some.injEq] at q0 q1 q2
      rw [q0, q1, q2]
/-- an argument that is a store -/
theorem open_store {v : Value} {r : Reach} {b0 : Nat} {d : DataW H} {p : List MemPlace} (hv : Value.okWide Tryd.prog W r b0 24 v) (h : DataW.Trod enc Tryd.prog W base spare held 24 v d p) :
    ∃ (s : Sp) (A : Option Addr) (n c : Nat), v = s.val A n c ∧ Bts W A n c s.data := by
  obtain ⟨cs, rfl, hsz⟩ := okWide_struct Tryd.underlying24 hv
  obtain ⟨l⟩ := cs
  obtain ⟨fuel, hf⟩ := h
  obtain ⟨s, A, n, c, hu, hb⟩ := store_cells fuel l _ (hsz.trans cellsStore) hf
  refine ⟨s, A, n, c, ?_, hb⟩
  rw [hu]
  rfl
end
end Go.Proofs.YtafmompplcaadaaDoor

/- The table of the constants, as the rows list it; openers of the laws' arguments. -/
namespace Go.Proofs.YtafmompplcaadaaDoor
set_option maxRecDepth 100000
set_option linter.unusedVariables false
set_option linter.unusedSimpArgs false
open Go.ChangeShapes Go.WideShapes Go.ChangeAt Go.RowKit

theorem gK : Tryd.prog.globalNamed "pelican/sha.constants" = some 0 := by kernel_rfl
theorem gKType : (Tryd.prog.globals[0]?).map (·.type) = some 128 := by kernel_rfl
theorem cells64 : Tryd.prog.cellsOf 128 = 64 := by kernel_rfl
theorem cellsU32 : Tryd.prog.cellsOf 109 = 1 := by kernel_rfl
/-- what the row's list gives -/
theorem table {W : World} (h : laidMetH Tryd.prog Rows.auditTornRow.laid W) : Lib.TabIs Tryd.prog W "pelican/sha.constants" .u32 kList :=
  Lib.tabIs_of_head (rest := []) gK gKType Tryd.underlying128 Tryd.underlying109 cellsU32 cells64 h
theorem ktab {W : World} (h : laidMetH Tryd.prog Rows.auditTornRow.laid W) : KTab W := by
  have hc : ∀ j, j < 64 → W.cell? ⟨0, j, none⟩ = some (.int .u32 (kList.getD j 0)) := fun j hj => (table h).cell gK j (by simpa [kList] using hj)
  exact ⟨block_lt_of_cell (hc 0 (by omega)), hc⟩
end Go.Proofs.YtafmompplcaadaaDoor
