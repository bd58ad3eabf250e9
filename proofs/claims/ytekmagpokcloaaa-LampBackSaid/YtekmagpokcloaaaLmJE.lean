/- Joined texts: The laws' arguments, opened: a plan, a slice of plans. A strings.Builder of the call's own: one letter more is written, what it holds is read. The walks over lamp's May, letter, spell and Text. The walks over lamp's alphabet and Read: a string is gone through rune by rune. The walk over slices.Repeat of one nought: a row of noughts. -/
import Derived.Test.YtekmagpokcloaaaLmJB
import Derived.Test.YtekmagpokcloaaaLmJD
import Derived.Deep.Slices
import Derived.Test.YtekmagpokcloaaaLmJC
import Derived.Lib.Builder
import Derived.Lib.UnsafeStr
import Derived.Laws.Externs
import Derived.Lib.OthersKept
import Derived.Laws.CopyOwn
/- The laws' arguments, opened: a plan, a slice of plans. -/
namespace Go.Proofs.Ytekmagpokcloaaa
set_option maxRecDepth 100000
set_option linter.unusedVariables false
set_option linter.unusedSimpArgs false
open Go.ChangeShapes Go.WideShapes Go.ChangeAt Go.RowKit

theorem cellsStage : Try.prog.cellsOf 39 = 3 := by kernel_rfl
theorem cellsPlan : Try.prog.cellsOf 25 = 5 := by kernel_rfl
theorem cellsIntsS : Try.prog.cellsOf 22 = 1 := by kernel_rfl
theorem cellsStagesS : Try.prog.cellsOf 23 = 1 := by kernel_rfl
theorem add_two5 (b o m i : Nat) : (((⟨b, o, none⟩ : Addr).add m).add i) = ⟨b, o + m + i, none⟩ := by rw [Addr.add_mid, Addr.add_mid]
theorem stg_one (x : Stg) : ∀ u ∈ x.row, u.oneCell' = true := by
  intro u hu
  simp only [Stg.row, List.mem_cons, List.not_mem_nil, or_false] at hu
  rcases hu with rfl | rfl | rfl <;> rfl
theorem pl_one (p : Pl) : ∀ u ∈ p.row, u.oneCell' = true := by
  intro u hu
  simp only [Pl.row, List.mem_cons, List.not_mem_nil, or_false] at hu
  rcases hu with rfl | rfl | rfl | rfl | rfl <;> rfl
section
variable {H : Type} {enc : TypeId × Value → H} {W : World} {base : Nat} {spare : Nat → Bool} {held : Bool}
theorem stage_cells (fuel : Nat) (cs : List Value) (x : DataW H × List MemPlace) (hl : cs.length = 3) (h : DataW.trod enc Try.prog W base spare held fuel 39 cs = some x) : ∃ u : Stg, cs = u.row := by
  obtain ⟨xs, n, rfl, hx, _, hlen, hg⟩ := DataW.trod_struct Try.underlying39 h
  match xs, hlen with
  | [y0, y1, y2], _ =>
    have g0 : DataW.trod enc Try.prog W base spare held n 3 ((cs.drop 0).take (Try.prog.cellsOf 3)) = some y0 := hg 0 _ rfl
    have g1 : DataW.trod enc Try.prog W base spare held n 3 ((cs.drop 1).take (Try.prog.cellsOf 3)) = some y1 := hg 1 _ rfl
    have g2 : DataW.trod enc Try.prog W base spare held n 3 ((cs.drop 2).take (Try.prog.cellsOf 3)) = some y2 := hg 2 _ rfl
    rw [cellsInt] at g0 g1 g2
    obtain ⟨k0, e0, _, w0⟩ := DataW.trod_int Try.underlying3 (x := y0) g0
    obtain ⟨k1, e1, _, w1⟩ := DataW.trod_int Try.underlying3 (x := y1) g1
    obtain ⟨k2, e2, _, w2⟩ := DataW.trod_int Try.underlying3 (x := y2) g2
    have q0 := one_of_take3 e0
    have q1 := one_of_take3 e1
    have q2 := one_of_take3 e2
    refine ⟨⟨k0, k1, k2⟩, ?_⟩
    match cs, hl with
    | [u0, u1, u2], _ =>
      simp only [List.getElem?_cons_zero, List.getElem?_cons_succ, Option.some.injEq] at q0 q1 q2
      rw [q0, q1, q2]
      rfl
theorem open_stgs {fuel : Nat} {cs : List Value} {x : DataW H × List MemPlace} (h : DataW.trod enc Try.prog W base spare held fuel 23 cs = some x) : ∃ (A : Option Addr) (n c : Nat) (l : List Stg), cs = [.slice A n c] ∧ Sts W A n c l := by
  rcases Go.Deep.open_slice Try.underlying23 h with ⟨hcs, _⟩ | ⟨a, len, cap, m, n', D, Pl, hcs, _, hl, hm, hz, _, hx⟩
  · exact ⟨none, 0, 0, [], hcs, Rws.nil 3 W⟩
  · have hlm : len ≤ m := by rw [hz]; split <;> omega
    have each : ∀ i, i < len → ∃ u : Stg, ∀ j, j < 3 → W.cell? ((a.add (i * 3)).add j) = u.row[j]? := by
      intro i hi
      obtain ⟨cs', h1, h2⟩ := hx i (by omega)
      rw [cellsStage] at h1
      obtain ⟨_, h3, h4⟩ := World.cells?_some h1
      obtain ⟨u, rfl⟩ := stage_cells n' cs' _ h3 h2
      exact ⟨u, h4⟩
    haveI : Inhabited Stg := ⟨Stg.zero⟩
    obtain ⟨q, hq⟩ := Go.Deep.choose_lt each
    refine ⟨some a, len, cap, (List.range len).map q, hcs, ⟨by simp, ?_, ?_, hl, hm, (fun e => by cases e), ?_⟩⟩
    · intro r hr
      obtain ⟨u, _, rfl⟩ := List.mem_map.1 hr
      rfl
    · intro r hr v hv
      obtain ⟨u, _, rfl⟩ := List.mem_map.1 hr
      exact stg_one u v hv
    · intro hn
      obtain ⟨ab, ao, am⟩ := a
      have h0 := hq 0 hn 0 (by omega)
      have ham : am = none := by
        have h1 : (q 0).row[0]? = some (.int .i64 (q 0).g) := rfl
        rw [h1] at h0
        simpa [Addr.add] using World.cell?_spot h0
      subst ham
      refine ⟨ab, ao, rfl, fun j hj i hi => ?_⟩
      have h1 := hq j hj i hi
      rw [add_two5] at h1
      rw [h1]
      have hl3 : i < (q j).row.length := hi
      simp [List.getD_eq_getElem?_getD, List.getElem?_range hj, hl3]
theorem plan_cells (fuel : Nat) (cs : List Value) (x : DataW H × List MemPlace) (hl : cs.length = 5) (h : DataW.trod enc Try.prog W base spare held fuel 25 cs = some x) : ∃ p : Pl, cs = p.row ∧ PlIn W p := by
  obtain ⟨xs, n, rfl, hx, _, hlen, hg⟩ := DataW.trod_struct Try.underlying25 h
  match xs, hlen with
  | [y0, y1, y2, y3, y4], _ =>
    have g0 : DataW.trod enc Try.prog W base spare held n 22 ((cs.drop 0).take (Try.prog.cellsOf 22)) = some y0 := hg 0 _ rfl
    have g1 : DataW.trod enc Try.prog W base spare held n 23 ((cs.drop 1).take (Try.prog.cellsOf 23)) = some y1 := hg 1 _ rfl
    have g2 : DataW.trod enc Try.prog W base spare held n 3 ((cs.drop 2).take (Try.prog.cellsOf 3)) = some y2 := hg 2 _ rfl
    have g3 : DataW.trod enc Try.prog W base spare held n 3 ((cs.drop 3).take (Try.prog.cellsOf 3)) = some y3 := hg 3 _ rfl
    have g4 : DataW.trod enc Try.prog W base spare held n 3 ((cs.drop 4).take (Try.prog.cellsOf 3)) = some y4 := hg 4 _ rfl
    rw [cellsIntsS] at g0
    rw [cellsStagesS] at g1
    rw [cellsInt] at g2 g3 g4
    obtain ⟨A, n0, c0, m, e0, hm, -⟩ := open_its Try.underlying22 Try.underlying3 cellsInt (x := y0) g0
    obtain ⟨B, k0, d0, s, e1, hs⟩ := open_stgs (x := y1) g1
    obtain ⟨am, e2, _, w2⟩ := DataW.trod_int Try.underlying3 (x := y2) g2
    obtain ⟨rd, e3, _, w3⟩ := DataW.trod_int Try.underlying3 (x := y3) g3
    obtain ⟨hd, e4, _, w4⟩ := DataW.trod_int Try.underlying3 (x := y4) g4
    have q0 := one_of_take3 e0
    have q1 := one_of_take3 e1
    have q2 := one_of_take3 e2
    have q3 := one_of_take3 e3
    have q4 := one_of_take3 e4
    refine ⟨⟨A, n0, c0, m, B, k0, d0, s, am, rd, hd⟩, ?_, hm, hs⟩
    match cs, hl with
    | [u0, u1, u2, u3, u4], _ =>
      simp only [List.getElem?_cons_zero, List.getElem?_cons_succ, Option.some.injEq] at q0 q1 q2 q3 q4
      rw [q0, q1, q2, q3, q4]
      rfl
/-- an argument that is a plan -/
theorem open_plan {v : Value} {r : Reach} {b0 : Nat} {d : DataW H} {p : List MemPlace} (hv : Value.okWide Try.prog W r b0 25 v) (h : DataW.Trod enc Try.prog W base spare held 25 v d p) : ∃ q : Pl, v = plV q ∧ PlIn W q := by
  obtain ⟨cs, rfl, hsz⟩ := okWide_struct Try.underlying25 hv
  obtain ⟨l⟩ := cs
  obtain ⟨fuel, hf⟩ := h
  obtain ⟨u, hu, hb⟩ := plan_cells fuel l _ (hsz.trans cellsPlan) hf
  refine ⟨u, ?_, hb⟩
  rw [hu, plV_row]
end
end Go.Proofs.Ytekmagpokcloaaa

/- A strings.Builder of the call's own: one letter more is written, what it holds is read. -/
namespace Go.Proofs.Ytekmagpokcloaaa
set_option maxRecDepth 100000
set_option linter.unusedVariables false
set_option linter.unusedSimpArgs false
open Go.RowKit

theorem info_sb : ((Try.prog.info? 65).map (·.size)) = some 2 := by kernel_rfl
theorem lies_sb : liesAt Try.prog Try.prog.depth 65 (2 / Try.prog.cellsOf 65) 0 65 1 = true := by kernel_rfl
theorem info_u8 : (Try.prog.info? 5).map (fun i => (i.zero, i.size, i.bytes)) = some (some (.int .u8 0), 1, 1) := by kernel_rfl
theorem cells_u8 : Try.prog.cellsOf 5 = 1 := by kernel_rfl
set_option maxHeartbeats 1000000 in
theorem check_used (b : Nat) (w : World) (h0 : w.cell? ⟨b, 0, none⟩ = some (.pointer (some ⟨b, 0, none⟩))) : Calls Try.prog 56 #[.pointer (some ⟨b, 0, none⟩)] w fun e w' => e = .returned (.tuple #[]) ∧ w' = w := by
  obtain ⟨j, hj, -⟩ := Option.map_eq_some_iff.1 info_sb
  go_enter Try.func56, Try.ntmps56
  go_wp2
  rw [Lib.run_neq_ptr_same w _ Try.underlying62 hj]
  go_wp2
  go_end0
  exact ⟨rfl, rfl⟩
set_option maxHeartbeats 1000000 in
theorem check_fresh (b : Nat) (w : World) (h0 : w.cell? ⟨b, 0, none⟩ = some (.pointer none)) (hsh : w.shape? b = some (65, 2)) (hfz : w.frozen? ⟨b, 0, none⟩ = false) : Calls Try.prog 56 #[.pointer (some ⟨b, 0, none⟩)] w fun e w' => e = .returned (.tuple #[]) ∧ w' = w.setCell ⟨b, 0, none⟩ (.pointer (some ⟨b, 0, none⟩)) := by
  obtain ⟨j, hj, hjs⟩ := Option.map_eq_some_iff.1 info_sb
  go_enter Try.func56, Try.ntmps56
  go_wp2
  rw [Lib.run_to_unsafe w ⟨b, 0, none⟩ Try.underlying62 Try.underlying83 hj (by rw [hjs]; decide) hsh (Nat.zero_lt_succ 1)]
  simp only [Result.andThen]
  rw [Oper.upon_value]
  go_wp2
  rw [run_callFunc_extern Try.func61 (by kernel_rfl) (by kernel_rfl) (by kernel_rfl) (e := Extern.AbiNoEscape.same) (by kernel_rfl)]
  rw [Lib.run_noEscape]
  simp only [Result.andThen]
  rw [Oper.upon_value]
  go_wp2
  rw [Lib.run_from_unsafe w ⟨b, 0, none⟩ Try.underlying83 Try.underlying62 hj hsh lies_sb]
  simp only [Result.andThen]
  rw [Oper.upon_value]
  go_wp2
  go_end0
  exact ⟨rfl, rfl⟩
theorem check_any (B b : Nat) (bs : List Value) (w : World) (h : Lib.IsBuilder 65 5 B b bs w) : Calls Try.prog 56 #[.pointer (some ⟨b, 0, none⟩)] w fun e w' => e = .returned (.tuple #[]) ∧ (Lib.BuilderAt 65 5 B b (.pointer (some ⟨b, 0, none⟩)) bs w' ∧ Below B w w') := by
  rcases h with h | h
  · refine (check_fresh b w h.cell0 h.shape h.frozen0).mono ?_
    rintro e w' ⟨rfl, rfl⟩
    exact ⟨rfl, h.used _, (Below.refl B w).setCell (p := ⟨b, 0, none⟩) h.1 _⟩
  · refine (check_used b w h.cell0).mono ?_
    rintro e w' ⟨rfl, rfl⟩
    exact ⟨rfl, h, Below.refl B _⟩
set_option maxHeartbeats 2000000 in
/-- AppendRune of a rune of one byte, onto a row of the call's own -/
theorem rune_any (B : Nat) (v : Value) (bs : List Value) (r : Int) (hr0 : 0 ≤ r) (hr1 : r < 128) (w : World) (hown : w.ownsRow B 5 1 v bs.length bs) (hlen : bs.length ≤ 1000) (hBw : B ≤ w.heap.size) : Calls Try.prog 57 #[v, .int .i32 r] w fun e w' => ∃ g cap, e = .returned (.slice (some ⟨g, 0, none⟩) (bs.length + 1) cap) ∧ w'.ownsRow B 5 1 (.slice (some ⟨g, 0, none⟩) (bs.length + 1) cap) (bs.length + 1) (bs ++ [.int .u8 r]) ∧ (w.alloc (.cells #[.int .u8 r] 5)).grownBy w' v.ownBlock := by
  obtain ⟨i0, hi, hz0, hz1, hz2⟩ := info_parts info_u8
  have hcv : IntKind.wrap .u8 r = r := by rw [IntKind.wrap_u8']; omega
  have hcu : IntKind.wrap .u32 r = r := by rw [IntKind.wrap_u32']; omega
  have hle : r ≤ 127 := by omega
  go_enter Try.func57, Try.ntmps57
  go_wp2_with (at_builtin; refine wpList_append_own _ rfl _ _ 63 rfl B 5 i0 (.int .u8 0) 1 1 Try.underlying63 hi hz0 hz1 hz2 rfl (by decide) _ _ _ rfl (hown.alloc _) ⟨w.heap.size, 0, none⟩ 1 1 [.int .u8 r] rfl rfl ?c1 ?c2 ?c3 ?c4 ?c5 ?_)
  case c1 =>
    intro j u hj
    match j, hj with
    | 0, hj => simp at hj; subst hj; simp [Addr.add]
  case c2 => intro u hu; simp at hu; subst hu; rfl
  case c3 => unfold maxLen; omega
  case c4 => omega
  case c5 => simp; omega
  intro v' w2 hown' hgrow _
  obtain ⟨g, cap2, rfl⟩ : ∃ g cap, v' = .slice (some ⟨g, 0, none⟩) (bs.length + 1) cap := by
    rcases hown'.2 with ⟨_, h0⟩ | ⟨g, cap, cur, hv, _⟩
    · omega
    · exact ⟨g, cap, hv⟩
  go_wp2
  go_ret
  exact ⟨g, cap2, rfl, hown', hgrow⟩
set_option maxHeartbeats 2000000 in
/-- WriteRune at a rune of one byte -/
theorem write_any (B b : Nat) (bs : List Value) (r : Int) (hr0 : 0 ≤ r) (hr1 : r < 128) (w : World) (h : Lib.IsBuilder 65 5 B b bs w) (hlen : bs.length ≤ 1000) (hBw : B ≤ w.heap.size) : Calls Try.prog 42 #[.pointer (some ⟨b, 0, none⟩), .int .i32 r] w fun e w' => (∃ z, e = .returned z) ∧ (Lib.BuilderAt 65 5 B b (.pointer (some ⟨b, 0, none⟩)) (bs ++ [.int .u8 r]) w' ∧ Below B w w') := by
  go_enter Try.func42, Try.ntmps42
  go_wp2_with (go_at_call 56; refine (check_any B b bs _ h).mono ?_)
  rintro e w1 ⟨rfl, h1, hb1⟩
  obtain ⟨hB, v, hbk, hown, hne⟩ := h1
  have c0 : w1.cell? ⟨b, 0, none⟩ = some (.pointer (some ⟨b, 0, none⟩)) := by rw [Lib.cell_of_heap hbk]; rfl
  have c1 : w1.cell? ⟨b, 1, none⟩ = some v := by rw [Lib.cell_of_heap hbk]; rfl
  have hlt : b < w1.heap.size := by
    rcases Nat.lt_or_ge b w1.heap.size with h' | h'
    · exact h'
    · simp [Array.getElem?_eq_none h'] at hbk
  obtain ⟨ao, cap, hv⟩ : ∃ ao cap, v = .slice ao bs.length cap := by
    rcases hown.2 with ⟨hv, h0⟩ | ⟨g, cap, cur, hv, _⟩
    · exact ⟨none, 0, by rw [hv, h0]⟩
    · exact ⟨_, _, hv⟩
  have HRU := Lib.hid (rune_any B v bs r hr0 hr1 w1 hown hlen (by have := hb1.size; omega))
  have HK := Lib.hid (show ∀ w2, (w1.alloc (.cells #[.int .u8 r] 5)).grownBy w2 v.ownBlock → w2.heap[b]? = some (.cells #[.pointer (some ⟨b, 0, none⟩), v] 65 (0, 0)) ∧ Below B w w2 from fun w2 hg => ⟨by rw [hg.block b (by simp; omega) (fun e => hne e.symm), Lib.alloc_old w1 _ b hlt]; exact hbk, (hb1.alloc (by have := hb1.size; omega) _).grown hg (by have := hb1.size; simp; omega) (fun k hk => (hown.lt k hk).1)⟩)
  rw [hv] at HRU HK c1
  clear hown hne hbk
  go_wp2_with (first
    | (go_at_call 57
       (with_reducible refine (HRU.out).mono ?_)
       rintro e w2 ⟨g, cap2, rfl, hown', hgrow⟩
       obtain ⟨hb2, hbel⟩ := HK.out w2 hgrow
       have d0 : w2.cell? ⟨b, 0, none⟩ = some (.pointer (some ⟨b, 0, none⟩)) := by rw [Lib.cell_of_heap hb2]; rfl
       have d1 : w2.cell? ⟨b, 1, none⟩ = some (.slice ao bs.length cap) := by rw [Lib.cell_of_heap hb2]; rfl
       have f1 : w2.frozen? ⟨b, 1, none⟩ = false := Lib.frozen_of_heap hb2 1
       have HP := Lib.hid (Lib.BuilderAt.put (T := 65) (e := 5) hB hb2 (bs' := bs ++ [.int .u8 r]) (by simpa using hown') (by decide))
       have HBB := Lib.hid (hbel.setCell (p := ⟨b, 1, none⟩) hB (.slice (some ⟨g, 0, none⟩) (bs.length + 1) cap2))
       clear hown' hgrow hb2 hbel))
  go_ret2
  exact ⟨⟨_, rfl⟩, HP.out, HBB.out⟩
/-- the letters that a builder holds -/
theorem letters_cells (l : List Int) : Lib.byteCells (l.map letU) = l.map (fun x => Value.int .u8 (letU x).toNat) := by simp [Lib.byteCells]
set_option maxHeartbeats 2000000 in
/-- String of a builder that holds at least one byte -/
theorem string_any (B b : Nat) (l : List UInt8) (w : World) (h : Lib.IsBuilder 65 5 B b (Lib.byteCells l) w) (h0 : l ≠ []) : Calls Try.prog 43 #[.pointer (some ⟨b, 0, none⟩)] w fun e w' => e = .returned (.string ⟨l.toArray⟩) ∧ Below B w w' := by
  obtain ⟨p, hB, v, hbk, hown, hne⟩ : ∃ p, Lib.BuilderAt 65 5 B b p (Lib.byteCells l) w := by
    rcases h with h | h
    · exact ⟨_, h⟩
    · exact ⟨_, h⟩
  have hl0 : l.length ≠ 0 := by simpa using h0
  rw [Lib.byteCells_length] at hown
  obtain ⟨g, cap, cur, rfl, hbg, hg, hnc, hcm, hcs, htake⟩ : ∃ g cap cur, v = .slice (some ⟨g, 0, none⟩) l.length cap ∧ B ≤ g ∧ w.heap[g]? = some (.cells cur 5 (0, 0)) ∧ l.length ≤ cap ∧ cap ≤ maxLen ∧ cur.size = cap * 1 ∧ cur.toList.take (l.length * 1) = Lib.byteCells l := by
    rcases hown.2 with ⟨_, hz⟩ | ⟨g, cap, cur, hv, r⟩
    · exact absurd hz hl0
    · exact ⟨g, cap, cur, hv, r⟩
  have c1 : w.drew.cell? ⟨b, 1, none⟩ = some (.slice (some ⟨g, 0, none⟩) l.length cap) := by
    have : w.drew.heap[b]? = some (.cells #[p, .slice (some ⟨g, 0, none⟩) l.length cap] 65 (0, 0)) := hbk
    rw [Lib.cell_of_heap this]; rfl
  have hSD : (Builtin.unsafeSliceData_ #[63] 82 #[.slice (some ⟨g, 0, none⟩) l.length cap]).run Try.prog w.drew = .ok (.pointer (some ⟨g, 0, none⟩)) w.drew :=
    Lib.run_unsafeSliceData_row _ _ _ _ _ _ (by omega)
  have hUS : (Builtin.unsafeString_ #[82, 3] 9 #[.pointer (some ⟨g, 0, none⟩), .int .i64 l.length]).run Try.prog w.drew = .ok (.string ⟨l.toArray⟩) (w.drew.freeze ⟨g, 0, none⟩ l.length) := by
    refine Lib.run_unsafeString_row w.drew 82 3 9 5 Try.underlying82 cells_u8 g cur.size (by have hg' : w.drew.heap[g]? = some (.cells cur 5 (0, 0)) := hg; simp [World.shape?, hg']) l h0 (by omega) (by unfold maxLen at hcm; omega) ?_
    intro j x hx
    have := hown.cells (g := g) rfl j (.int .u8 x.toNat) (by simp [Lib.byteCells, hx])
    exact this
  go_enter Try.func43, Try.ntmps43
  go_wp2
  go_region
  all_goals (go_wp2; go_ret; exact ⟨rfl, Lib.below_freeze (Below.drew (Below.refl B w)) (p := ⟨g, 0, none⟩) hbg _⟩)
end Go.Proofs.Ytekmagpokcloaaa

/- The walks over lamp's May, letter, spell and Text. -/
namespace Go.Proofs.Ytekmagpokcloaaa
set_option maxRecDepth 100000
set_option linter.unusedVariables false
set_option linter.unusedSimpArgs false
open Go.RowKit

set_option maxHeartbeats 2000000 in
theorem lmay_any (A : Option Addr) (n c : Nat) (l : List Int) (w : World) (hb : Its .i64 w A n c l) : Calls Try.prog 17 #[.slice A n c] w fun e w' => e = .returned (.bool (mayR l)) ∧ w = w' := by
  have hsm := hb.small
  have HL := Lib.hid hb.len
  by_cases hn : n < 1 ∨ 8 < n
  · have HR := Lib.hid (show mayR l = false by rw [← Bool.not_eq_true, may_iff]; rintro ⟨h, -⟩; have := HL.out; omega)
    rcases hn with hn | hn
    · obtain rfl : n = 0 := by omega
      clear hb
      go_enter Try.func17, Try.ntmps17
      go_wp2
      go_ret
      exact ⟨by rw [HR.out]; rfl, rfl⟩
    · have hn1 : ¬ ((n : Int) < 1) := by omega
      have hn8 : (8 < (n : Int)) := by omega
      clear hb
      go_enter Try.func17, Try.ntmps17
      go_wp2
      go_ret
      exact ⟨by rw [HR.out]; rfl, rfl⟩
  · have hn1 : ¬ ((n : Int) < 1) := by omega
    have hn8 : ¬ (8 < (n : Int)) := by omega
    obtain ⟨b, off, rfl, hc⟩ := hb.at_ (by omega)
    have HC := Lib.hid hc
    clear hb hc
    go_enter Try.func17, Try.ntmps17
    go_wp2
    go_loop [15] (fun i => ∃ j : Nat, j ≤ n ∧ i = .int .i64 j ∧ ∀ k, k < j → 0 ≤ l.getD k 0 ∧ l.getD k 0 < 3) (fun i => n - (intOf i).toNat)
    case atStart => exact ⟨0, by omega, rfl, fun k hk => by omega⟩
    case round =>
      obtain ⟨j, hj, rfl, hall⟩ := hrel
      have HA := Lib.hid hall
      clear hall
      by_cases hlt : j < n
      · have hlt2 : (j : Int) < n := by omega
        have q0 : 0 ≤ (j : Int) := by omega
        have z := HC.out j hlt
        obtain ⟨x, hx⟩ : ∃ x, l.getD j 0 = x := ⟨_, rfl⟩
        rw [hx] at z
        by_cases h1 : x < 0
        · have HR := Lib.hid (row_bad (by rw [HL.out]; exact hlt) (.inl (by rw [hx]; exact h1)))
          clear hx
          go_wp2
          go_ret
          exact ⟨by rw [HR.out]; rfl, rfl⟩
        · by_cases h2 : 3 ≤ x
          · have HR := Lib.hid (row_bad (by rw [HL.out]; exact hlt) (.inr (by rw [hx]; exact h2)))
            clear hx
            go_wp2
            go_ret
            exact ⟨by rw [HR.out]; rfl, rfl⟩
          · have HN := Lib.hid (show ∀ k, k < j + 1 → 0 ≤ l.getD k 0 ∧ l.getD k 0 < 3 from fun k hk => by
              by_cases e : k = j
              · subst e; rw [hx]; omega
              · exact HA.out k (by omega))
            clear hx
            go_wp2
            go_round
            case rel => exact ⟨j + 1, by omega, by go_num, HN.out⟩
            case measure => simp [intOf]; omega
      · obtain rfl : j = n := by omega
        have hge : ¬ ((j : Int) < j) := by omega
        have HR := Lib.hid (show mayR l = true by
          rw [may_iff]
          refine ⟨by have := HL.out; omega, fun x hx => ?_⟩
          obtain ⟨k, hk, rfl⟩ := mem_getD hx
          exact HA.out k (by rw [HL.out] at hk; exact hk))
        go_wp2
        go_ret
        exact ⟨by rw [HR.out]; rfl, rfl⟩
theorem let_lt (x : Int) : ((letU x).toNat : Int) < 128 := by
  unfold letU
  split
  · decide
  · split <;> decide
/-- the letters -/
theorem rag0 : wrap32 (((⟨#[114, 97, 103]⟩ : ByteArray)[0]'(by decide)).toNat : Int) = ((letU 0).toNat : Int) := by decide +kernel
theorem rag1 : wrap32 (((⟨#[114, 97, 103]⟩ : ByteArray)[1]'(by decide)).toNat : Int) = ((letU 1).toNat : Int) := by decide +kernel
theorem rag2 : wrap32 (((⟨#[114, 97, 103]⟩ : ByteArray)[2]'(by decide)).toNat : Int) = ((letU 2).toNat : Int) := by decide +kernel
set_option maxHeartbeats 1000000 in
theorem letter_any (x : Int) (hx : 0 ≤ x ∧ x < 3) (w : World) : Calls Try.prog 31 #[.string ⟨#[114, 97, 103]⟩, .int .i64 x] w fun e w' => e = .returned (.int .i32 ((letU x).toNat : Int)) ∧ w = w' := by
  have : x = 0 ∨ x = 1 ∨ x = 2 := by omega
  rcases this with rfl | rfl | rfl
  all_goals
    go_enter Try.func31, Try.ntmps31
    go_wp2
    go_ret
    first | exact ⟨congrArg (fun z => Ending.returned (Value.int .i32 z)) rag0, rfl⟩ | exact ⟨congrArg (fun z => Ending.returned (Value.int .i32 z)) rag1, rfl⟩ | exact ⟨congrArg (fun z => Ending.returned (Value.int .i32 z)) rag2, rfl⟩
theorem cells_next {l : List Int} {j : Nat} (h : j < l.length) : Lib.byteCells ((l.take (j + 1)).map letU) = Lib.byteCells ((l.take j).map letU) ++ [.int .u8 ((letU (l.getD j 0)).toNat : Int)] := by
  rw [List.take_succ_eq_append_getElem h, List.map_append, Lib.byteCells_append]
  simp [Lib.byteCells, List.getD_eq_getElem?_getD, h]
set_option maxHeartbeats 4000000 in
theorem spell_any (A : Option Addr) (n c : Nat) (l : List Int) (w : World) (hb : Its .i64 w A n c l) (hm : mayR l = true) : Calls Try.prog 30 #[.slice A n c, .func (Fn.func 31) #[.string ⟨#[114, 97, 103]⟩] #[]] w fun e w' => e = .returned (.string (txt l)) ∧ Below w.heap.size w w' := by
  have hsm := hb.small
  have HL := Lib.hid hb.len
  obtain ⟨⟨m1, m8⟩, hall⟩ := may_iff.1 hm
  have HA := Lib.hid hall
  rw [hb.len] at m1 m8
  obtain ⟨b, off, rfl, -⟩ := hb.at_ (by omega)
  have HI := Lib.hid (show ∀ X, Below w.heap.size w X → ∀ j, j < n → X.cell? ⟨b, off + j, none⟩ = some (.int .i64 (l.getD j 0)) from fun X hX j hj => by
    obtain ⟨b', off', e, hc⟩ := (hb.below hX).at_ (by omega)
    cases e
    exact hc j hj)
  clear hb hall hm
  go_enter Try.func30, Try.ntmps30
  go_wp2
  go_loopw [10] (fun i wr => ∃ j : Nat, j ≤ n ∧ i = .int .i64 j ∧ Lib.IsBuilder 65 5 w.heap.size w.heap.size (Lib.byteCells ((l.take j).map letU)) wr ∧ Below w.heap.size w wr) (fun i _ => n - (intOf i).toNat)
  case atStart => exact ⟨0, by omega, rfl, Lib.fresh_isBuilder _ _ w, one_alloc w _⟩
  case round =>
    obtain ⟨j, hj, rfl, hbu, hbw⟩ := hrel
    have HBU := Lib.hid hbu
    have HBW := Lib.hid hbw
    clear hbu
    by_cases hlt : j < n
    · have hlt2 : (j : Int) < n := by omega
      have q0 : 0 ≤ (j : Int) := by omega
      have hjl : j < l.length := by rw [HL.out]; exact hlt
      have z := HI.out wr hbw j hlt
      have ho := HA.out _ (getD_mem hjl)
      have hnx := cells_next hjl
      have hll : (Lib.byteCells ((l.take j).map letU)).length ≤ 1000 := by rw [Lib.byteCells_length, List.length_map, List.length_take]; omega
      obtain ⟨x, hx⟩ : ∃ x, l.getD j 0 = x := ⟨_, rfl⟩
      rw [hx] at z ho hnx
      obtain ⟨S, hS⟩ : ∃ S, Lib.byteCells ((l.take j).map letU) = S := ⟨_, rfl⟩
      rw [hS] at hll HBU hnx
      obtain ⟨N, hN⟩ : ∃ N : Int, ((letU x).toNat : Int) = N := ⟨_, rfl⟩
      have hn0 : 0 ≤ N := by rw [← hN]; omega
      have hn1 : N < 128 := by rw [← hN]; exact let_lt x
      have HLE := Lib.hid (fun X => letter_any x ho X)
      rw [hN] at HLE hnx
      have HWR := Lib.hid (write_any w.heap.size w.heap.size S N hn0 hn1 wr HBU.out hll hbw.size)
      have HNX := Lib.hid hnx
      clear hx ho hnx hS hN hn0 hn1 hjl hbw
      go_wp2_with (first
        | (go_at_call 31
           (with_reducible refine (HLE.out _).mono ?_)
           rintro e w1 ⟨rfl, rfl⟩)
        | (go_at_call 42
           (with_reducible refine (HWR.out).mono ?_)
           rintro e w2 ⟨⟨z, rfl⟩, hbu2, hbw2⟩
           have HBU2 := Lib.hid hbu2
           have HBW2 := Lib.hid (HBW.out.trans hbw2)
           clear hbu2 hbw2))
      go_roundw
      case rel => exact ⟨j + 1, by omega, by go_num, .inr (by rw [HNX.out]; exact HBU2.out), HBW2.out⟩
      case measure => simp [intOf]; omega
    · obtain rfl : j = n := by omega
      have hge : ¬ ((j : Int) < j) := by omega
      have HT := Lib.hid (show l.take j = l from List.take_of_length_le (by rw [HL.out]; exact Nat.le_refl _))
      have hbu := HBU.out
      rw [HT.out] at hbu
      have HST := Lib.hid (string_any w.heap.size w.heap.size (l.map letU) wr hbu (by intro h; have := congrArg List.length h; rw [List.length_map, HL.out] at this; simp at this; omega))
      clear hbu hbw
      go_wp2_with (go_at_call 43; (with_reducible refine (HST.out).mono ?_); rintro e w2 ⟨rfl, hbw2⟩; have HBW2 := Lib.hid (HBW.out.trans hbw2); clear hbw2)
      go_ret
      exact ⟨rfl, HBW2.out⟩
set_option maxHeartbeats 4000000 in
theorem ltext_any (A : Option Addr) (n c : Nat) (l : List Int) (w : World) (hb : Its .i64 w A n c l) : Calls Try.prog 18 #[.slice A n c] w fun e w' => e = .returned (.string (textR l)) ∧ Below w.heap.size w w' := by
  have hsm := hb.small
  have HL := Lib.hid hb.len
  have HM := Lib.hid (lmay_any A n c l w hb)
  cases hm : mayR l with
  | false =>
    rw [hm] at HM
    have HR := Lib.hid (show textR l = ⟨#[]⟩ by rw [textR, hm]; rfl)
    clear hm hb
    go_enter Try.func18, Try.ntmps18
    go_wp2_with (go_at_call 17; (with_reducible refine (HM.out).mono ?_); rintro e w1 ⟨rfl, rfl⟩)
    go_ret
    exact ⟨by rw [HR.out]; rfl, Below.refl _ _⟩
  | true =>
    rw [hm] at HM
    obtain ⟨⟨m1, m8⟩, hall⟩ := may_iff.1 hm
    have HR := Lib.hid (show textR l = txt l by rw [textR, if_pos hm])
    have HSP := Lib.hid (spell_any A n c l w hb hm)
    clear hm hb hall
    go_enter Try.func18, Try.ntmps18
    go_wp2_with (first
      | (go_at_call 17; (with_reducible refine (HM.out).mono ?_); rintro e w1 ⟨rfl, rfl⟩)
      | (go_at_call 30; (with_reducible refine (HSP.out).mono ?_); rintro e w2 ⟨rfl, hb2⟩; have HB2 := Lib.hid hb2; clear hb2))
    go_ret
    exact ⟨by rw [HR.out]; rfl, HB2.out⟩
end Go.Proofs.Ytekmagpokcloaaa

/- The walks over lamp's alphabet and Read: a string is gone through rune by rune. -/
namespace Go.Proofs.Ytekmagpokcloaaa
set_option maxRecDepth 100000
set_option linter.unusedVariables false
set_option linter.unusedSimpArgs false
open Go.RowKit

theorem OwnI.iterAt {K : IntKind} {e : TypeId} {w : World} {base : Nat} {v : Value} {l : List Int} (h : OwnI K e w base v l) {k : Nat} {s : ByteArray} {pos : Nat} (hk : w.heap[k]? = some (.stringIter s pos)) (pos' : Nat) : OwnI K e (w.iterAt k s pos') base v l := by
  refine ⟨h.1, ?_⟩
  rcases h.2 with hn | ⟨g, cap, cur, hv, hbg, hg, rest⟩
  · exact .inl hn
  · have hkg : g ≠ k := by
      intro e1
      rw [e1, hk] at hg
      cases hg
    exact .inr ⟨g, cap, cur, hv, hbg, (Lib.iterAt_other w k g s pos' hkg).trans hg, rest⟩
/-- what a rune stands for -/
def runeI (r : Int) : Int := if r = 114 then 0 else if r = 97 then 1 else if r = 103 then 2 else -1
def ragB : ByteArray := ⟨#[114, 97, 103]⟩
theorem rag_size : (⟨#[114, 97, 103]⟩ : ByteArray).size = 3 := rfl
theorem rag_0 : (((⟨#[114, 97, 103]⟩ : ByteArray)[0]'(by decide)).toNat) = 114 := by decide +kernel
theorem rag_1 : (((⟨#[114, 97, 103]⟩ : ByteArray)[1]'(by decide)).toNat) = 97 := by decide +kernel
theorem rag_2 : (((⟨#[114, 97, 103]⟩ : ByteArray)[2]'(by decide)).toNat) = 103 := by decide +kernel
theorem next_rag0 {P : Program} (w : World) (ty : TypeId) : (Instr.next (.pointer (some ⟨w.heap.size, 0, none⟩)) true ty).run P (w.iter ⟨#[114, 97, 103]⟩ 0) = .ok (.tuple #[.bool true, .int .i64 0, .int .i32 114]) (w.iter ⟨#[114, 97, 103]⟩ 1) := by
  rw [run_next_ascii w ⟨#[114, 97, 103]⟩ 0 ty (by decide) (by rw [rag_0]; decide), rag_0]; rfl
theorem next_rag1 {P : Program} (w : World) (ty : TypeId) : (Instr.next (.pointer (some ⟨w.heap.size, 0, none⟩)) true ty).run P (w.iter ⟨#[114, 97, 103]⟩ 1) = .ok (.tuple #[.bool true, .int .i64 1, .int .i32 97]) (w.iter ⟨#[114, 97, 103]⟩ 2) := by
  rw [run_next_ascii w ⟨#[114, 97, 103]⟩ 1 ty (by decide) (by rw [rag_1]; decide), rag_1]; rfl
theorem next_rag2 {P : Program} (w : World) (ty : TypeId) : (Instr.next (.pointer (some ⟨w.heap.size, 0, none⟩)) true ty).run P (w.iter ⟨#[114, 97, 103]⟩ 2) = .ok (.tuple #[.bool true, .int .i64 2, .int .i32 103]) (w.iter ⟨#[114, 97, 103]⟩ 3) := by
  rw [run_next_ascii w ⟨#[114, 97, 103]⟩ 2 ty (by decide) (by rw [rag_2]; decide), rag_2]; rfl
theorem next_rag3 {P : Program} (w : World) (ty : TypeId) : (Instr.next (.pointer (some ⟨w.heap.size, 0, none⟩)) true ty).run P (w.iter ⟨#[114, 97, 103]⟩ 3) = .ok (.tuple #[.bool false]) (w.iter ⟨#[114, 97, 103]⟩ 3) := run_next_end w ⟨#[114, 97, 103]⟩ 3 ty (by decide)
theorem iter_below (w : World) (s : ByteArray) (p : Nat) : Below w.heap.size w (w.iter s p) := (Below.refl _ w).alloc (Nat.le_refl _) _
set_option maxHeartbeats 4000000 in
theorem lamp_any (r : Int) (w : World) : Calls Try.prog 23 #[.string ⟨#[114, 97, 103]⟩, .int .i32 r] w fun e w' => e = .returned (.int .i64 (runeI r)) ∧ Below w.heap.size w w' := by
  go_enter Try.func23, Try.ntmps23
  go_wp2
  go_loopw [] (fun wr => ∃ p : Nat, p ≤ 3 ∧ wr = w.iter ⟨#[114, 97, 103]⟩ p ∧ (0 < p → r ≠ 114) ∧ (1 < p → r ≠ 97) ∧ (2 < p → r ≠ 103)) (fun wr => 3 - wr.iterPos w.heap.size)
  case atStart => exact ⟨0, by omega, rfl, by omega, by omega, by omega⟩
  case round =>
    obtain ⟨p, hp, rfl, h1, h2, h3⟩ := hrel
    have : p = 0 ∨ p = 1 ∨ p = 2 ∨ p = 3 := by omega
    rcases this with rfl | rfl | rfl | rfl
    · have hnx := fun ty => next_rag0 (P := Try.prog) w ty
      by_cases e : r = 114
      · have HB := Lib.hid (iter_below w ⟨#[114, 97, 103]⟩ 1)
        have e2 : ((114 : Int) == r) = true := by rw [beq_iff_eq]; exact e.symm
        have HR := Lib.hid (show runeI r = 0 by rw [runeI, if_pos e])
        clear h1 h2 h3 e
        go_wp2
        go_ret
        exact ⟨by rw [HR.out]; rfl, HB.out⟩
      · have e2 : ((114 : Int) == r) = false := by rw [beq_eq_false_iff_ne]; exact fun h => e h.symm
        have HE := Lib.hid e
        clear h1 h2 h3 e
        go_wp2
        go_roundw
        case rel => exact ⟨1, by omega, rfl, fun _ => HE.out, by omega, by omega⟩
        case measure => simp only [World.iterPos, World.iter_heap]; omega
    · have hnx := fun ty => next_rag1 (P := Try.prog) w ty
      by_cases e : r = 97
      · have HB := Lib.hid (iter_below w ⟨#[114, 97, 103]⟩ 2)
        have e2 : ((97 : Int) == r) = true := by rw [beq_iff_eq]; exact e.symm
        have HR := Lib.hid (show runeI r = 1 by rw [runeI, if_neg (h1 (by omega)), if_pos e])
        clear h1 h2 h3 e
        go_wp2
        go_ret
        exact ⟨by rw [HR.out]; rfl, HB.out⟩
      · have e2 : ((97 : Int) == r) = false := by rw [beq_eq_false_iff_ne]; exact fun h => e h.symm
        have HE := Lib.hid (And.intro (h1 (by omega)) e)
        clear h1 h2 h3 e
        go_wp2
        go_roundw
        case rel => exact ⟨2, by omega, rfl, fun _ => HE.out.1, fun _ => HE.out.2, by omega⟩
        case measure => simp only [World.iterPos, World.iter_heap]; omega
    · have hnx := fun ty => next_rag2 (P := Try.prog) w ty
      by_cases e : r = 103
      · have HB := Lib.hid (iter_below w ⟨#[114, 97, 103]⟩ 3)
        have e2 : ((103 : Int) == r) = true := by rw [beq_iff_eq]; exact e.symm
        have HR := Lib.hid (show runeI r = 2 by rw [runeI, if_neg (h1 (by omega)), if_neg (h2 (by omega)), if_pos e])
        clear h1 h2 h3 e
        go_wp2
        go_ret
        exact ⟨by rw [HR.out]; rfl, HB.out⟩
      · have e2 : ((103 : Int) == r) = false := by rw [beq_eq_false_iff_ne]; exact fun h => e h.symm
        have HE := Lib.hid (And.intro (h1 (by omega)) (And.intro (h2 (by omega)) e))
        clear h1 h2 h3 e
        go_wp2
        go_roundw
        case rel => exact ⟨3, by omega, rfl, fun _ => HE.out.1, fun _ => HE.out.2.1, fun _ => HE.out.2.2⟩
        case measure => simp only [World.iterPos, World.iter_heap]; omega
    · have hnx := fun ty => next_rag3 (P := Try.prog) w ty
      have HB := Lib.hid (iter_below w ⟨#[114, 97, 103]⟩ 3)
      have HR := Lib.hid (show runeI r = -1 by rw [runeI, if_neg (h1 (by omega)), if_neg (h2 (by omega)), if_neg (h3 (by omega))])
      clear h1 h2 h3
      go_wp2
      go_ret
      exact ⟨by rw [HR.out]; rfl, HB.out⟩
/-- how far the row is: letter by letter, or it has one that is none -/
def RowTo (s : ByteArray) (pos : Nat) (L : List Int) : Prop := L.length ≤ pos ∧ ((pos ≤ s.size ∧ L = (lampsOf s).take pos) ∨ (-1 ∈ L ∧ mayR (lampsOf s) = false))
theorem RowTo.zero (s : ByteArray) : RowTo s 0 [] := ⟨by simp, .inl ⟨by omega, by simp⟩⟩
theorem bad_row {s : ByteArray} {i : Nat} (h : i < s.size) (hx : unU (byteI s i) = -1) : mayR (lampsOf s) = false := by
  rw [← Bool.not_eq_true, may_iff]
  rintro ⟨-, ha⟩
  have hd : i < s.data.toList.length := by rw [Array.length_toList]; exact h
  have := ha (-1) (by
    rw [← hx, lampsOf]
    refine List.mem_map_of_mem ?_
    rw [byteI, List.getD_eq_getElem?_getD, List.getElem?_eq_getElem hd]
    exact List.getElem_mem hd)
  omega
theorem rune_one (r : Int) : 0 ≤ runeI r ∨ runeI r = -1 := by
  unfold runeI
  split
  · exact .inl (by omega)
  · split
    · exact .inl (by omega)
    · split
      · exact .inl (by omega)
      · exact .inr rfl
theorem rowTo_next {s : ByteArray} {pos : Nat} {L : List Int} (h : RowTo s pos L) (hp : pos < s.size) : RowTo s (pos + (Utf8.decode s pos).2) (L ++ [runeI ((Utf8.decode s pos).1 : Int)]) := by
  obtain ⟨hl, hc⟩ := h
  by_cases ha : (s[pos]'hp).toNat < 128
  · rw [decode_ascii s pos hp ha]
    refine ⟨by simp; omega, ?_⟩
    rcases hc with ⟨h1, rfl⟩ | ⟨h1, h2⟩
    · refine .inl ⟨by show pos + 1 ≤ _; omega, ?_⟩
      show (lampsOf s).take pos ++ [runeI ((s[pos]'hp).toNat : Int)] = (lampsOf s).take (pos + 1)
      rw [lamps_next hp, byte_at hp, un_nat]
      congr 2
      unfold runeI
      congr 1
      · simp; omega
      · congr 1
        · simp; omega
        · congr 1
          simp; omega
    · exact .inr ⟨List.mem_append_left _ h1, h2⟩
  · obtain ⟨d1, d2⟩ := decode_high s pos hp (by omega)
    refine ⟨by simp; omega, .inr ?_⟩
    have hr : runeI ((Utf8.decode s pos).1 : Int) = -1 := by
      unfold runeI
      rw [if_neg (by omega), if_neg (by omega), if_neg (by omega)]
    refine ⟨by rw [hr]; simp, ?_⟩
    rcases hc with ⟨h1, rfl⟩ | ⟨h1, h2⟩
    · refine bad_row hp ?_
      rw [un_nat, ← byte_at hp, if_neg (by omega), if_neg (by omega), if_neg (by omega)]
    · exact h2
theorem rowTo_end {s : ByteArray} {pos : Nat} {L : List Int} (h : RowTo s pos L) (hp : ¬ pos < s.size) : mayR L = mayR (lampsOf s) ∧ (mayR L = true → L = lampsOf s) := by
  obtain ⟨hl, hc⟩ := h
  rcases hc with ⟨h1, rfl⟩ | ⟨h1, h2⟩
  · have : (lampsOf s).take pos = lampsOf s := List.take_of_length_le (by rw [lamps_length]; omega)
    rw [this]
    exact ⟨rfl, fun _ => rfl⟩
  · have : mayR L = false := by
      rw [← Bool.not_eq_true, may_iff]
      rintro ⟨-, ha⟩
      have := ha _ h1
      omega
    rw [this, h2]
    exact ⟨rfl, fun h => by cases h⟩
theorem decode_pos (s : ByteArray) (pos : Nat) (h : pos < s.size) : 1 ≤ (Utf8.decode s pos).2 := by
  by_cases ha : (s[pos]'h).toNat < 128
  · rw [decode_ascii s pos h ha]
    exact Nat.le_refl _
  · exact (decode_high s pos h (by omega)).2
set_option maxHeartbeats 4000000 in
theorem lread_any (s : ByteArray) (w : World) : Calls Try.prog 10 #[.string s] w (GivesLB (readR s) w) := by
  by_cases h8 : 8 < s.size
  · have h82 : 8 < (s.size : Int) := by omega
    have HR := Lib.hid (show readR s = ([], false) from if_neg fun h => by have := (may_iff.1 h).1; rw [lamps_length] at this; omega)
    go_enter Try.func10, Try.ntmps10
    go_wp2
    go_ret2
    exact ⟨none, 0, 0, by rw [HR.out]; rfl, by rw [HR.out]; exact Its.nil _ _, Below.refl _ _⟩
  · have h82 : ¬ (8 < (s.size : Int)) := by omega
    go_enter Try.func10, Try.ntmps10
    go_wp2
    go_loopw [4] (fun v wr => ∃ (pos : Nat) (L : List Int), wr.heap[w.heap.size]? = some (.stringIter s pos) ∧ OwnI .i64 3 wr (w.heap.size + 1) v L ∧ Below w.heap.size w wr ∧ RowTo s pos L) (fun _ wr => s.size - wr.iterPos w.heap.size)
    case atStart => exact ⟨0, [], World.iter_heap w s 0, OwnI.nil _ _ _ _, iter_below w s 0, RowTo.zero s⟩
    case round =>
      obtain ⟨pos, L, hit, hown, hbw, hrow⟩ := hrel
      have hsz : w.heap.size < wr.heap.size := (Array.getElem?_eq_some_iff.1 hit).1
      by_cases hp : pos < s.size
      · have hnx : ∀ ty, (Instr.next (.pointer (some ⟨w.heap.size, 0, none⟩)) true ty).run Try.prog wr = _ := fun ty => Lib.run_next_any_at wr w.heap.size s pos ty hit hp
        have hwd := decode_pos s pos hp
        have hit2 := Lib.iterAt_heap wr w.heap.size s pos (pos + (Utf8.decode s pos).2) hit
        have hown2 := hown.iterAt hit (pos + (Utf8.decode s pos).2)
        have hbw2 := Lib.below_iterAt hbw (Nat.le_refl _) s (pos + (Utf8.decode s pos).2)
        have hrow2 := rowTo_next hrow hp
        have hL8 : L.length ≤ 8 := by have := hrow.1; omega
        obtain ⟨r, hr⟩ : ∃ r : Int, ((Utf8.decode s pos).1 : Int) = r := ⟨_, rfl⟩
        obtain ⟨q, hq⟩ : ∃ q, pos + (Utf8.decode s pos).2 = q := ⟨_, rfl⟩
        have hqp : pos < q := by omega
        rw [hr, hq] at hnx
        rw [hq] at hit2 hown2 hbw2
        rw [hr, hq] at hrow2
        have hsz2 : w.heap.size < (wr.iterAt w.heap.size s q).heap.size := by rw [Lib.iterAt_size]; exact hsz
        obtain ⟨W, hW⟩ : ∃ W, wr.iterAt w.heap.size s q = W := ⟨_, rfl⟩
        rw [hW] at hnx hit2 hown2 hbw2 hsz2
        have HLP := Lib.hid (lamp_any r W)
        have HIT := Lib.hid hit2
        have HOW := Lib.hid hown2
        have HBW := Lib.hid hbw2
        have HRO := Lib.hid hrow2
        have HSZ := Lib.hid hsz2
        have HPI := Lib.hid (show wr.iterPos w.heap.size = pos by simp only [World.iterPos, hit])
        clear hit hown hbw hrow hsz hwd hit2 hown2 hbw2 hrow2 hr hq hsz2 hW
        go_wp2_with (first
          | (go_at_call 23
             (with_reducible refine (HLP.out).mono ?_)
             rintro e w2 ⟨rfl, hb2⟩
             have HB2 := Lib.hid hb2
             have HO2 := Lib.hid (HOW.out.below hb2)
             have HI2 := Lib.hid (show w2.heap[w.heap.size]? = some (.stringIter s q) from (hb2.block _ HSZ.out).trans HIT.out)
             have hs2 : w.heap.size < w2.heap.size := Nat.lt_of_lt_of_le HSZ.out hb2.size
             clear hb2)
          | (at_builtin
             refine wpList_append_i rfl 22 3 .i64 8 _ _ rfl Try.underlying22 (by kernel_rfl) (by omega) (w.heap.size + 1) u4 L rfl (HO2.out.more _) _ 1 1 [runeI r] rfl (one_its .i64 3 _ (runeI r)) (by omega) (Nat.le_trans hs2 (size_le_alloc _ _)) ?_
             intro v5 w6 hown5 hg5
             have HI6 := Lib.hid (show w6.heap[w.heap.size]? = some (.stringIter s q) from by
               rw [hg5.block _ (by simp; omega) (fun e => by have := (HO2.out.size _ e.symm).1; omega), Lib.alloc_old _ _ _ hs2]
               exact HI2.out)
             have HB6 := Lib.hid (((HBW.out.trans (HB2.out.mono (Nat.le_of_lt HSZ.out))).alloc (Nat.le_of_lt hs2) _).grown hg5 (by simp; omega) (fun k hk => by have := (HO2.out.size k hk).1; omega))
             clear hg5))
        go_roundw
        case rel => exact ⟨q, L ++ [runeI r], HI6.out, hown5, HB6.out, HRO.out⟩
        case measure =>
          rw [HPI.out]
          simp only [World.iterPos, HI6.out]
          omega
      · have hnx : ∀ ty, (Instr.next (.pointer (some ⟨w.heap.size, 0, none⟩)) true ty).run Try.prog wr = _ := fun ty => Lib.run_next_end_at wr w.heap.size s pos ty hit hp
        obtain ⟨e1, e2⟩ := rowTo_end hrow hp
        obtain ⟨B, k, d, rfl, hi⟩ := hown.its
        have HMY := Lib.hid (lmay_any B k d L wr hi)
        have HI := Lib.hid hi
        have HBW := Lib.hid hbw
        clear hit hown hbw hrow hsz hi
        cases hm : mayR L with
        | false =>
          rw [hm] at HMY e1
          have HR := Lib.hid (show readR s = ([], false) from if_neg fun h => by rw [← e1] at h; cases h)
          clear e1 e2 hm
          go_wp2_with (go_at_call 17; (with_reducible refine (HMY.out).mono ?_); rintro e w1 ⟨rfl, rfl⟩)
          go_ret2
          exact ⟨none, 0, 0, by rw [HR.out]; rfl, by rw [HR.out]; exact Its.nil _ _, HBW.out⟩
        | true =>
          have hL := e2 hm
          rw [hm] at HMY e1
          have HR := Lib.hid (show readR s = (L, true) by rw [readR, if_pos e1.symm, ← hL])
          clear e1 e2 hm hL
          go_wp2_with (go_at_call 17; (with_reducible refine (HMY.out).mono ?_); rintro e w1 ⟨rfl, rfl⟩)
          go_ret2
          exact ⟨_, _, _, by rw [HR.out]; rfl, by rw [HR.out]; exact HI.out, HBW.out⟩
end Go.Proofs.Ytekmagpokcloaaa

/- The walk over slices.Repeat of one nought: a row of noughts. -/
namespace Go.Proofs.Ytekmagpokcloaaa
set_option maxRecDepth 100000
set_option linter.unusedVariables false
set_option linter.unusedSimpArgs false
open Go.RowKit

theorem eight {n : Nat} (h1 : 1 ≤ n) (h8 : n ≤ 8) : n = 1 ∨ n = 2 ∨ n = 3 ∨ n = 4 ∨ n = 5 ∨ n = 6 ∨ n = 7 ∨ n = 8 := by omega
set_option maxHeartbeats 4000000 in
theorem mul64_any (n : Nat) (h1 : 1 ≤ n) (h8 : n ≤ 8) (w : World) : Calls Try.prog 51 #[.int .u64 1, .int .u64 n] w fun e w' => e = .returned (.tuple #[.int .u64 0, .int .u64 n]) ∧ w = w' := by
  rcases eight h1 h8 with rfl | rfl | rfl | rfl | rfl | rfl | rfl | rfl
  all_goals
    go_enter Try.func51, Try.ntmps51
    go_wp2
    go_ret2
    exact ⟨rfl, rfl⟩
theorem mul_any (n : Nat) (h1 : 1 ≤ n) (h8 : n ≤ 8) (w : World) : Calls Try.prog 35 #[.int .u64 1, .int .u64 n] w fun e w' => e = .returned (.tuple #[.int .u64 0, .int .u64 n]) ∧ w = w' := by
  have HM := Lib.hid (mul64_any n h1 h8 w)
  go_enter Try.func35, Try.ntmps35
  go_wp2_with (go_at_call 51; (with_reducible refine (HM.out).mono ?_); rintro e w1 ⟨rfl, rfl⟩)
  go_ret2
  exact ⟨rfl, rfl⟩
/-- a block that holds just these numbers -/
def RowL (w : World) (g : Nat) (l : List Int) : Prop := w.heap[g]? = some (.cells (inv .i64 l).toArray 3 (0, 0))
theorem RowL.lt {w : World} {g : Nat} {l : List Int} (h : RowL w g l) : g < w.heap.size := (Array.getElem?_eq_some_iff.1 h).1
theorem RowL.below {w w' : World} {g : Nat} {l : List Int} (h : RowL w g l) (hb : Below w.heap.size w w') : RowL w' g l := (hb.block _ h.lt).trans h
theorem RowL.cell {w : World} {g : Nat} {l : List Int} (h : RowL w g l) (j : Nat) (hj : j < l.length) : w.cell? ⟨g, j, none⟩ = some (.int .i64 (l.getD j 0)) := by
  rw [Lib.cell_of_heap h]
  rw [List.getElem?_toArray, inv_get _ _ _ hj]
theorem RowL.frozen {w : World} {g : Nat} {l : List Int} (h : RowL w g l) (j : Nat) : w.frozen? ⟨g, j, none⟩ = false := Lib.frozen_of_heap h j
theorem RowL.set {w : World} {g : Nat} {l : List Int} (h : RowL w g l) (i : Nat) (x : Int) : RowL (w.setCell ⟨g, i, none⟩ (.int .i64 x)) g (l.set i x) := by
  unfold RowL at h ⊢
  have e : inv .i64 (l.set i x) = (inv .i64 l).set i (.int .i64 x) := by simp [inv, List.map_set]
  rw [e]
  simp [World.setCell, Array.getElem?_modify, h]
theorem RowL.own {w : World} {g base : Nat} {l : List Int} (h : RowL w g l) (hb : base ≤ g) (hl : l.length ≤ 1000) : OwnI .i64 3 w base (.slice (some ⟨g, 0, none⟩) l.length l.length) l := by
  refine ⟨by rw [inv_length, Nat.mul_one], .inr ⟨g, l.length, _, rfl, hb, h, Nat.le_refl _, by unfold maxLen; omega, by rw [Nat.mul_one, List.size_toArray, inv_length], ?_⟩⟩
  rw [Nat.mul_one, List.toList_toArray]
  exact List.take_of_length_le (by rw [inv_length]; exact Nat.le_refl _)
theorem wpList_make_l {P : Program} {w : World} {ops : Array Oper} {rest : List Oper} {o : Oper} {a : Act} {Q : Exit → Act → World → Prop} (hgd : o.guard = none) (t : TypeId) (l c : Operand) (ho : o.op = Op.makeSlice t l c)
    (hu : P.underlying t = some (.slice 3)) (hinfo : (P.info? 3).map (fun i => (i.zero, i.size, i.bytes)) = some (some (.int .i64 0), 1, 8))
    (n : Nat) (hl : a.eval l = .int .i64 n) (hc : a.eval c = .int .i64 n) (hn : n ≤ 17592186044416)
    (h : ∀ w', RowL w' w.heap.size (List.replicate n 0) → w.grownBy w' none → wpList P ops Q rest (a.put o.dst (.slice (some ⟨w.heap.size, 0, none⟩) n n)) w') : wpList P ops Q (o :: rest) a w := by
  obtain ⟨i, hi, hz, h1, h2⟩ := info_parts hinfo
  refine wpList_make_full w hgd l c t ho w.heap.size 3 i (.int .i64 0) 1 hu hi hz h1 .i64 .i64 n n n hl hc rfl rfl (by rw [h2]; omega) (by unfold maxLen; omega) (Nat.le_refl _) (fun w' r1 r2 => h w' ?_ r2)
  rcases r1.2 with ⟨hv, -⟩ | ⟨g, cap, cur, hv, -, hh, -, -, hsz, htake⟩
  · cases hv
  · injection hv with e1 e2 e3
    injection e1 with e1
    injection e1 with e1
    subst e1 e3
    unfold RowL
    rw [hh]
    congr 2
    apply Array.ext'
    rw [List.toList_toArray]
    rw [Nat.mul_one] at htake hsz
    rw [List.take_of_length_le (by rw [Array.length_toList, hsz]; exact Nat.le_refl _)] at htake
    rw [htake]
    apply List.ext_getElem?
    intro j
    by_cases hj : j < n
    · simp [inv, madeCells, hj, Value.cells, Nat.mod_one]
    · simp [inv, madeCells, hj]
theorem zeros_over (n lo m : Nat) (h : lo + m ≤ n) : (inv .i64 (List.replicate n 0)).take lo ++ List.replicate m (Value.int .i64 0) ++ (inv .i64 (List.replicate n 0)).drop (lo + m) = inv .i64 (List.replicate n 0) := by
  simp only [inv, List.map_replicate, List.take_replicate, List.drop_replicate, List.replicate_append_replicate]
  congr 1
  omega
/-- copying noughts over noughts leaves the world as it is -/
theorem run_copy_z (w : World) (g n lo d dc s sc m : Nat) (a : Addr) (ty : TypeId) (h : RowL w g (List.replicate n 0)) (hm : m = Nat.min s d) (hlo : lo + m ≤ n) (hs : ∀ j, j < m → w.cell? (a.add j) = some (.int .i64 0)) :
    (Builtin.copy_ #[22, 22] ty #[.slice (some ⟨g, lo, none⟩) d dc, .slice (some a) s sc]).run Try.prog w = .ok (.int .i64 m) w := by
  have hr := run_copy_row (P := Try.prog) w 22 22 ty 3 g lo d dc a s sc _ 3 (List.replicate m (.int .i64 0)) Try.underlying22 (by kernel_rfl) h (by rw [List.length_replicate, hm]) (by
      intro j v hv
      have hj : j < m := by have := (List.getElem?_eq_some_iff.1 hv).1; rwa [List.length_replicate] at this
      rw [List.getElem?_replicate, if_pos hj] at hv
      cases hv
      exact hs j hj) (by rw [List.length_replicate, List.size_toArray, inv_length, List.length_replicate]; exact hlo) (by intro v hv; rw [List.eq_of_mem_replicate hv]; rfl)
  rw [hr, List.toList_toArray, List.length_replicate, zeros_over n lo m hlo, setRow_self w g _ _ _ h]
  rfl
theorem size_int (w : World) : (sizeOf (Try.prog.elem 22)).run Try.prog w = .ok 1 w := by
  rw [show Try.prog.elem 22 = 3 from by kernel_rfl]
  rfl
theorem run_cut_z (g n k : Nat) (hk : k < n) (hn : n ≤ 8) (w : World) : (Instr.slice 22 (.slice (some ⟨g, 0, none⟩) n n) (some (.int .i64 k)) none none).run Try.prog w = .ok (.slice (some ⟨g, k, none⟩) (n - k) (n - k)) w := by
  rw [run_slice_l (P := Try.prog) w 22 (some ⟨g, 0, none⟩) n n (by kernel_rfl) .i64 k (by omega) (by omega), size_int]
  simp only [Result.andThen_ok, sliced, Int.toNat_natCast, Nat.mul_one]
  rw [if_neg (by omega)]
  simp only [Option.map_some]
  congr 3
  unfold Addr.add
  split
  · rename_i h0; subst h0; rfl
  · simp
theorem run_to_z (g n k : Nat) (hk : k < n) (hn : n ≤ 8) (w : World) : (Instr.slice 22 (.slice (some ⟨g, 0, none⟩) n n) none (some (.int .i64 k)) none).run Try.prog w = .ok (.slice (some ⟨g, 0, none⟩) k n) w := by
  rw [run_slice_h (P := Try.prog) w 22 (some ⟨g, 0, none⟩) n n (by kernel_rfl) .i64 k (by omega) (by omega), size_int]
  simp only [Result.andThen_ok, sliced, Int.toNat_natCast, Nat.zero_mul, Nat.sub_zero]
  simp [Addr.add]
set_option maxHeartbeats 4000000 in
theorem repeat_any (A : Option Addr) (c n : Nat) (h1 : 1 ≤ n) (h8 : n ≤ 8) (w : World) (hb : Its .i64 w A 1 c [0]) : Calls Try.prog 25 #[.slice A 1 c, .int .i64 n] w fun e w' => e = .returned (.slice (some ⟨w.heap.size, 0, none⟩) n n) ∧ RowL w' w.heap.size (List.replicate n 0) ∧ Below w.heap.size w w' := by
  have HM := Lib.hid (mul_any n h1 h8 w)
  have hn0 : ¬ ((n : Int) < 0) := by omega
  have hnw : IntKind.u64.wrap (n : Int) = n := by rw [IntKind.wrap_u64]; omega
  have hni : IntKind.i64.wrap (n : Int) = n := by rw [IntKind.wrap_i64]; omega
  have hng : ¬ (9223372036854775807 < (n : Int)) := by omega
  obtain ⟨b, off, rfl, hc⟩ := hb.at_ (by omega)
  have HC := Lib.hid (show w.cell? ⟨b, off, none⟩ = some (.int .i64 0) from hc 0 (by omega))
  clear hb hc
  go_enter Try.func25, Try.ntmps25
  go_wp2_with (first
    | (go_at_call 35; (with_reducible refine (HM.out).mono ?_); rintro e w1 ⟨rfl, rfl⟩)
    | (refine wpList_make_l rfl 22 _ _ rfl Try.underlying22 (by kernel_rfl) n rfl rfl (by omega) ?_
       intro W hrow hg
       have HW := Lib.hid (show Below w.heap.size w W from (Below.refl _ w).grown hg (Nat.le_refl _) (fun k hk => by cases hk))
       have HR := Lib.hid hrow
       have hcp := fun ty => run_copy_z W w.heap.size n 0 n n 1 c 1 ⟨b, off, none⟩ ty hrow (by show 1 = min 1 n; omega) (by omega) (fun j hj => by
         obtain rfl : j = 0 := by omega
         have := HW.out.cell (p := ⟨b, off, none⟩) (block_lt_of_cell HC.out)
         rw [show (⟨b, off, none⟩ : Addr).add 0 = ⟨b, off, none⟩ from rfl, this]
         exact HC.out)
       clear hrow hg))
  clear hcp
  go_loopw [8] (fun i wr => ∃ k : Nat, 1 ≤ k ∧ k ≤ n ∧ i = .int .i64 k ∧ RowL wr w.heap.size (List.replicate n 0) ∧ Below w.heap.size w wr) (fun i _ => n - (intOf i).toNat)
  case atStart => exact ⟨1, by omega, h1, rfl, HR.out, HW.out⟩
  case round =>
    obtain ⟨k, hk1, hkn, rfl, hrow, hbw⟩ := hrel
    by_cases hlt : k < n
    · have hlt2 : (k : Int) < n := by omega
      have q0 : 0 ≤ (k : Int) := by omega
      obtain ⟨m, hm⟩ : ∃ m, Nat.min k (n - k) = m := ⟨_, rfl⟩
      have hm1 : 1 ≤ m := by rw [← hm]; show 1 ≤ min k (n - k); omega
      have hmk : k + m ≤ n := by rw [← hm]; show k + min k (n - k) ≤ n; omega
      have hmz : m ≤ k := by rw [← hm]; show min k (n - k) ≤ k; omega
      have hs1 := fun X => run_cut_z w.heap.size n k hlt h8 X
      have hs2 := fun X => run_to_z w.heap.size n k hlt h8 X
      have hdr : RowL wr.drew w.heap.size (List.replicate n 0) := hrow
      have hcp : ∀ ty, (Builtin.copy_ #[22, 22] ty #[.slice (some ⟨w.heap.size, k, none⟩) (n - k) (n - k), .slice (some ⟨w.heap.size, 0, none⟩) k n]).run Try.prog wr.drew = .ok (.int .i64 m) wr.drew := fun ty => run_copy_z wr.drew w.heap.size n k (n - k) (n - k) k n m ⟨w.heap.size, 0, none⟩ ty hdr hm.symm hmk (fun j hj => by
        have e : (⟨w.heap.size, 0, none⟩ : Addr).add j = ⟨w.heap.size, j, none⟩ := by
          unfold Addr.add
          split
          · rename_i h0; subst h0; rfl
          · simp
        rw [e, hdr.cell j (by rw [List.length_replicate]; omega)]
        simp [List.getD_eq_getElem?_getD, show j < n by omega])
      have HRW := Lib.hid hdr
      have HBW := Lib.hid (show Below w.heap.size w wr.drew from hbw.drew)
      have HMN := Lib.hid (And.intro hm1 hmk)
      clear hm hrow hbw hdr
      go_wp2
      go_region
      all_goals
        go_wp2
        go_roundw
        · exact ⟨k + m, by omega, HMN.out.2, by go_num, HRW.out, HBW.out⟩
        · simp [intOf]; omega
    · obtain rfl : k = n := by omega
      have hge : ¬ ((k : Int) < k) := by omega
      have HRW := Lib.hid hrow
      have HBW := Lib.hid hbw
      clear hrow hbw
      go_wp2
      go_ret
      exact ⟨rfl, HRW.out, HBW.out⟩
end Go.Proofs.Ytekmagpokcloaaa
