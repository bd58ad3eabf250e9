/- Joined texts: '==' between two entries; a load out of a slice of entries. A log as it lies in memory: its cells, what is loaded of it, how one is built. The walk over the document's Head of entries. The first ones of a slice of entries. The walk over the document's Text of entries. The walk over the document's Put of a list of entries: its records and head. Regions by hand: whole rows loaded, built and stored, one operation after another. What package audit does: seven contracts that its own walks must bring; the walks over the laws stand on them alone. The chapter's example of a log, of which each law asks first. The walks over package store's May and Left, and the document's. The walks over the library's bytes.Equal and bytes.Clone. The walks over package store's Same, and the document's. The walks over package store's methods of a file. The walks over the document's Sync, Cut, Crash and New of stores. The walk over the document's Get of entries. The walk over the document's Read of bytes: entries, head, how many bytes. The walk over the document's Open of a store. -/
import Derived.Test.YtafmompplcaadaaDoorAuJD
import Derived.Test.YtafmompplcaadaaDoorAuJF
import Derived.Test.YtafmompplcaadaaDoorAuJE
import Derived.Test.YtafmompplcaadaaDoorAuJA
import Derived.Lib.SliceRun
import Derived.RegionTactic
/- '==' between two entries; a load out of a slice of entries. -/
namespace Go.Proofs.YtafmompplcaadaaDoor
set_option maxRecDepth 100000
set_option linter.unusedVariables false
set_option linter.unusedSimpArgs false
open Go.RowKit

theorem ent_part {P : Program} (t : TypeId) (k : IntKind) (cs : Array Value) (off : Nat) (v : Value) (h : P.underlying t = some (.int k)) (hv : cs[off]? = some v) (w : World) : (part t cs off).run P w = .ok v w := by
  simp [part, isAgg, run_underlying h, hv, go_sem]
theorem ent_fields {P : Program} {d : Nat} {xs ys : Array Value} {f : Field} {fs : List Field} {a b : Value} {r : Bool} {w : World} (hn : f.name ≠ "_") (ha : (part f.type xs f.offset).run P w = .ok a w) (hb : (part f.type ys f.offset).run P w = .ok b w) (he : (Op.equalIn d f.type a b).run P w = .ok r w) :
    (Op.eqFields d xs ys (f :: fs)).run P w = if r then (Op.eqFields d xs ys fs).run P w else .ok false w := by
  simp only [Op.eqFields, if_pos hn, Sem.run_bind, ha, hb, he, Result.andThen_ok]
  cases r <;> simp
theorem ent_if (r s : Bool) (w : World) : (if r then (Result.ok s w : Result Bool) else .ok false w) = .ok (r && s) w := by cases r <;> rfl
set_option maxHeartbeats 2000000 in
theorem eq_ens (f g : En) (w : World) : (Op.equalIn 10000 33 (.agg (enA f)) (.agg (enA g))).run Tryd.prog w = .ok (decide (f = g)) w := by
  rw [run_equalIn_struct w 9999 33 _ _ (by kernel_rfl) (by kernel_rfl)]
  unfold Program.fieldsOf
  rw [Tryd.underlying33]
  have p := hasE f
  have q := hasE g
  have i3 := Tryd.underlying3
  have i22 := Tryd.underlying30
  have i23 := Tryd.underlying31
  dsimp only
  have hd : decide (f = g) = (f.kind == g.kind && (f.tick == g.tick && (f.epoch == g.epoch && (f.user == g.user && (f.sess == g.sess && (f.count == g.count && (f.cmd == g.cmd && (f.arg == g.arg && f.code == g.code)))))))) := by
    rcases f with ⟨a0, a1, a2, a3, a4, a5, a6, a7, a8⟩
    rcases g with ⟨b0, b1, b2, b3, b4, b5, b6, b7, b8⟩
    rw [Bool.eq_iff_iff]
    simp
  rw [hd]
  obtain ⟨X, hX⟩ : ∃ X, X = enA f := ⟨_, rfl⟩
  obtain ⟨Y, hY⟩ : ∃ Y, Y = enA g := ⟨_, rfl⟩
  rw [← hX] at p ⊢
  rw [← hY] at q ⊢
  rw [ent_fields (by decide) (ent_part _ _ _ _ _ i3 p.d0 w) (ent_part _ _ _ _ _ i3 q.d0 w) (run_equalIn_int w 9998 _ _ _ _ _ i3),
    ent_fields (by decide) (ent_part _ _ _ _ _ i3 p.d1 w) (ent_part _ _ _ _ _ i3 q.d1 w) (run_equalIn_int w 9998 _ _ _ _ _ i3),
    ent_fields (by decide) (ent_part _ _ _ _ _ i3 p.d2 w) (ent_part _ _ _ _ _ i3 q.d2 w) (run_equalIn_int w 9998 _ _ _ _ _ i3),
    ent_fields (by decide) (ent_part _ _ _ _ _ i3 p.d3 w) (ent_part _ _ _ _ _ i3 q.d3 w) (run_equalIn_int w 9998 _ _ _ _ _ i3),
    ent_fields (by decide) (ent_part _ _ _ _ _ i22 p.d4 w) (ent_part _ _ _ _ _ i22 q.d4 w) (run_equalIn_int w 9998 _ _ _ _ _ i22),
    ent_fields (by decide) (ent_part _ _ _ _ _ i22 p.d5 w) (ent_part _ _ _ _ _ i22 q.d5 w) (run_equalIn_int w 9998 _ _ _ _ _ i22),
    ent_fields (by decide) (ent_part _ _ _ _ _ i3 p.d6 w) (ent_part _ _ _ _ _ i3 q.d6 w) (run_equalIn_int w 9998 _ _ _ _ _ i3),
    ent_fields (by decide) (ent_part _ _ _ _ _ i3 p.d7 w) (ent_part _ _ _ _ _ i3 q.d7 w) (run_equalIn_int w 9998 _ _ _ _ _ i3),
    ent_fields (by decide) (ent_part _ _ _ _ _ i23 p.d8 w) (ent_part _ _ _ _ _ i23 q.d8 w) (run_equalIn_int w 9998 _ _ _ _ _ i23)]
  simp only [Op.eqFields, Sem.run_pure, ent_if, Bool.and_true]
theorem run_eq_en {op : BinOp} {ρ : Operand → Value} {o : Oper} {x y : Operand} {xs ys : Array Value} {E r : Bool} {w : World} (ho : o.op = .binOp op 33 x y 33) (hx : ρ x = .agg xs) (hy : ρ y = .agg ys) (hr : op = .eql ∧ r = E ∨ op = .neq ∧ r = !E)
    (h : (Op.equalIn 10000 33 (.agg xs) (.agg ys)).run Tryd.prog w = .ok E w) : (execOp ρ o).run Tryd.prog w = .ok (.value (.bool r)) w := by
  unfold execOp
  rw [ho]
  have hm : Tryd.prog.eqGuardType Tryd.prog.depth 33 = false := by kernel_rfl
  rcases hr with ⟨rfl, rfl⟩ | ⟨rfl, rfl⟩
  · simp only [hx, hy, Sem.run_bind, run_eqGuard_agg (hm := hm), run_eql_struct, h, Result.andThen_ok, Sem.run_pure, Sem.run_map]
  · simp only [hx, hy, Sem.run_bind, run_eqGuard_agg (hm := hm), run_neq_struct, h, Result.andThen_ok, Sem.run_pure, Sem.run_map]
theorem wpList_eq_en {ops : Array Oper} {rest : List Oper} {o : Oper} {a : Act} {w : World} {Q : Exit → Act → World → Prop} (op : BinOp) (x y : Operand) (ho : o.op = .binOp op 33 x y 33) (xs ys : Array Value) (hx : a.eval x = .agg xs) (hy : a.eval y = .agg ys) (E r : Bool) (hr : op = .eql ∧ r = E ∨ op = .neq ∧ r = !E)
    (hE : ∀ w, (Op.equalIn 10000 33 (.agg xs) (.agg ys)).run Tryd.prog w = .ok E w) (h : wpList Tryd.prog ops Q rest (a.put o.dst (.bool r)) w) (hw : Region.wanted o (yielded ops a.tmps) = true) : wpList Tryd.prog ops Q (o :: rest) a w :=
  wpList_step fun K hK => by
    rw [if_pos hw]
    unfold Oper.wp
    rw [run_eq_en ho hx hy hr (hE w)]
    exact hK _ _ h
theorem run_load_en {ρ : Operand → Value} {o : Oper} {x : Operand} {b off : Nat} {u : En} {w : World} (ho : o.op = .load 33 x) (hx : ρ x = .pointer (some ⟨b, off, none⟩)) (hc : w.rangeAt b off u.row) : (execOp ρ o).run Tryd.prog w = .ok (.value (.agg (enA u))) w := by
  unfold execOp
  have hi : (Tryd.prog.info? 33).map (·.size) = some u.row.length := by rw [erow_len]; kernel_rfl
  simp only [ho, hx, Instr.loadAt, Instr.sureAddr, Sem.run_bind, Sem.run_pure, Result.andThen_ok, run_loadVar_mid w b off 33 u.row _ hc Tryd.underlying33 rfl hi]
  rfl
theorem rangeAt_below {w w' : World} {b o : Nat} {cs : List Value} (h : w.rangeAt b o cs) (hb : Below w.heap.size w w') : w'.rangeAt b o cs := fun j v hv => (hb.cell (p := ⟨b, o + j, none⟩) (block_lt_of_cell (h j v hv))).trans (h j v hv)
/-- one of them, as it lies -/
theorem Ens.range {w : World} {A : Option Addr} {n c : Nat} {l : List En} (h : Ens w A n c l) (j : Nat) (hj : j < n) : ∃ b off u, A = some ⟨b, off, none⟩ ∧ l[j]? = some u ∧ w.rangeAt b (off + j * 9) u.row := by
  obtain ⟨b, off, hA, hc⟩ := h.rws.at_ (by omega)
  have hl : j < l.length := by rw [h.len]; exact hj
  have hr : (l.map En.row).getD j [] = l[j].row := by simp [List.getD_eq_getElem?_getD, hl]
  refine ⟨b, off, l[j], hA, by simp [hl], fun i v hv => ?_⟩
  have hi : i < 9 := (List.getElem?_eq_some_iff.1 hv).1
  have := hc j hj i hi
  rw [hr, List.getD_eq_getElem?_getD, hv] at this
  exact this
end Go.Proofs.YtafmompplcaadaaDoor

/- A log as it lies in memory: its cells, what is loaded of it, how one is built. -/
namespace Go.Proofs.YtafmompplcaadaaDoor
set_option maxRecDepth 100000
set_option linter.unusedVariables false
set_option linter.unusedSimpArgs false
open Go.RowKit

/-- where a log lies, by its parts -/
structure Lp where
  cap : Int
  A : Option Addr
  n : Nat
  c : Nat
  sure : Int
  B : Option Addr
  m : Nat
  d : Nat
  H : List Int
def Lp.cells (p : Lp) : List Value := .int .i64 p.cap :: .slice p.A p.n p.c :: .int .i64 p.sure :: .slice p.B p.m p.d :: byv p.H
def Lp.arr (p : Lp) : Array Value := p.cells.toArray
def Lp.zero : Lp := ⟨0, none, 0, 0, 0, none, 0, 0, noughtsC⟩
theorem lp_size {p : Lp} (h : p.H.length = 32) : p.arr.size = 36 := by simp [Lp.arr, Lp.cells, byv, h]
theorem lp_one (p : Lp) : p.arr.all (·.oneCell') = true := by
  refine all_oneCell_toArray fun v hv => ?_
  simp only [Lp.cells, List.mem_cons] at hv
  rcases hv with rfl | rfl | rfl | rfl | hv
  · rfl
  · rfl
  · rfl
  · rfl
  · exact byv_one _ v hv
theorem info_log {C : Array Value} (h : C.size = 36) : (Tryd.prog.info? 29).map (·.size) = some C.size := by rw [h]; kernel_rfl
/-- a log that reads so -/
structure LgAt (w : World) (p : Lp) (g : Lg) : Prop where
  cap : p.cap = g.st.cap
  sure : p.sure = g.st.sure
  head : p.H = g.head
  data : Bts w p.A p.n p.c g.st.data
  ents : Ens w p.B p.m p.d g.l
  ok : g.ok
  fits : -9223372036854775808 ≤ p.cap ∧ p.cap ≤ 9223372036854775807
theorem LgAt.below {w w' : World} {p : Lp} {g : Lg} (h : LgAt w p g) (hb : Below w.heap.size w w') : LgAt w' p g := ⟨h.cap, h.sure, h.head, h.data.below hb, h.ents.below hb, h.ok, h.fits⟩
theorem LgAt.hlen {w : World} {p : Lp} {g : Lg} (h : LgAt w p g) : p.H.length = 32 := by rw [h.head]; exact h.ok.len
theorem LgAt.hbyte {w : World} {p : Lp} {g : Lg} (h : LgAt w p g) : ∀ j, 0 ≤ p.H.getD j 0 ∧ p.H.getD j 0 < 256 := by rw [h.head]; exact h.ok.byte
theorem LgAt.may {w : World} {p : Lp} {g : Lg} (h : LgAt w p g) : mayT p.cap p.n p.sure = mayP g.st := by rw [mayP, h.cap, h.sure, h.data.len]
theorem LgAt.val {w : World} {p : Lp} {g : Lg} (h : LgAt w p g) : g.st.val p.A p.n p.c = .agg #[.int .i64 p.cap, .slice p.A p.n p.c, .int .i64 p.sure] := by rw [Sp.val, h.cap, h.sure]
theorem LgAt.info {w : World} {p : Lp} {g : Lg} (h : LgAt w p g) : (Tryd.prog.info? 27).map (·.size) = some (byv p.H).length := by rw [byv_length, h.hlen]; kernel_rfl
theorem LgAt.whole {w : World} {p : Lp} {g : Lg} (h : LgAt w p g) : (Tryd.prog.info? 29).map (·.size) = some p.arr.size := info_log (lp_size h.hlen)
theorem zero_at (w : World) : LgAt w Lp.zero zeroG := ⟨rfl, rfl, rfl, Bts.nil w, Ens.nil w, ⟨fun u hu => (by cases hu), rfl, noughts_ok⟩, by decide⟩
section
variable {w : World} {b : Nat} {p : Lp}
theorem lg_cells (h : w.heap[b]? = some (.cells p.arr 29 (0, 0))) : w.cell? ⟨b, 0, none⟩ = some (.int .i64 p.cap) ∧ w.cell? ⟨b, 1, none⟩ = some (.slice p.A p.n p.c) ∧ w.cell? ⟨b, 2, none⟩ = some (.int .i64 p.sure) ∧ w.cell? ⟨b, 3, none⟩ = some (.slice p.B p.m p.d) :=
  ⟨by rw [cell_of_row _ _ _ _ _ _ h]; rfl, by rw [cell_of_row _ _ _ _ _ _ h]; rfl, by rw [cell_of_row _ _ _ _ _ _ h]; rfl, by rw [cell_of_row _ _ _ _ _ _ h]; rfl⟩
theorem lg_head (h : w.heap[b]? = some (.cells p.arr 29 (0, 0))) : w.rangeAt b 4 (byv p.H) := fun j v hv => by
  rw [cell_of_row _ _ _ _ _ _ h, Lp.arr, List.getElem?_toArray, Nat.add_comm]
  exact hv
end
theorem lg_st {w : World} {b : Nat} {p : Lp} (h : w.heap[b]? = some (.cells p.arr 29 (0, 0))) : w.rangeAt b 0 [.int .i64 p.cap, .slice p.A p.n p.c, .int .i64 p.sure] := fun j v hv => by
  obtain ⟨c0, c1, c2, -⟩ := lg_cells h
  match j, hv with
  | 0, hv => rw [← (Option.some.inj hv)]; exact c0
  | 1, hv => rw [← (Option.some.inj hv)]; exact c1
  | 2, hv => rw [← (Option.some.inj hv)]; exact c2
theorem lp_get (p : Lp) : p.arr[0]? = some (.int .i64 p.cap) ∧ p.arr[1]? = some (.slice p.A p.n p.c) ∧ p.arr[2]? = some (.int .i64 p.sure) ∧ p.arr[3]? = some (.slice p.B p.m p.d) := ⟨rfl, rfl, rfl, rfl⟩
theorem list32c {α : Type} (S : List α) (h : S.length = 32) : ∃ a0 a1 a2 a3 a4 a5 a6 a7 a8 a9 b0 b1 b2 b3 b4 b5 b6 b7 b8 b9 c0 c1 c2 c3 c4 c5 c6 c7 c8 c9 d0 d1, S = [a0, a1, a2, a3, a4, a5, a6, a7, a8, a9, b0, b1, b2, b3, b4, b5, b6, b7, b8, b9, c0, c1, c2, c3, c4, c5, c6, c7, c8, c9, d0, d1] := by
  match S, h with
  | [a0, a1, a2, a3, a4, a5, a6, a7, a8, a9, b0, b1, b2, b3, b4, b5, b6, b7, b8, b9, c0, c1, c2, c3, c4, c5, c6, c7, c8, c9, d0, d1], _ => exact ⟨_, _, _, _, _, _, _, _, _, _, _, _, _, _, _, _, _, _, _, _, _, _, _, _, _, _, _, _, _, _, _, _, rfl⟩
theorem fill_log (p : Lp) (h : p.H.length = 32) : Instr.fill (([(0, 3), (3, 1), (4, 32)] : List (Nat × Nat)).toArray[·]?) Lp.zero.arr [(0, .agg #[.int .i64 p.cap, .slice p.A p.n p.c, .int .i64 p.sure]), (1, .slice p.B p.m p.d), (2, .agg (idv p.H))] = some p.arr := by
  rcases p with ⟨cap, A, n, c, sure, B, m, d, H⟩
  obtain ⟨a0, a1, a2, a3, a4, a5, a6, a7, a8, a9, b0, b1, b2, b3, b4, b5, b6, b7, b8, b9, c0, c1, c2, c3, c4, c5, c6, c7, c8, c9, d0, d1, rfl⟩ := list32c H h
  kernel_rfl
theorem fill_new (p : Lp) (h : p.H.length = 32) : Instr.fill (([(0, 3), (3, 1), (4, 32)] : List (Nat × Nat)).toArray[·]?) Lp.zero.arr [(0, .agg #[.int .i64 p.cap, .slice p.A p.n p.c, .int .i64 p.sure]), (2, .agg (idv p.H))] = some (Lp.arr ⟨p.cap, p.A, p.n, p.c, p.sure, none, 0, 0, p.H⟩) := by
  rcases p with ⟨cap, A, n, c, sure, B, m, d, H⟩
  obtain ⟨a0, a1, a2, a3, a4, a5, a6, a7, a8, a9, b0, b1, b2, b3, b4, b5, b6, b7, b8, b9, c0, c1, c2, c3, c4, c5, c6, c7, c8, c9, d0, d1, rfl⟩ := list32c H h
  kernel_rfl
theorem built_log (p : Lp) (h : p.H.length = 32) : Tryd.prog.built 29 [(0, .agg #[.int .i64 p.cap, .slice p.A p.n p.c, .int .i64 p.sure]), (1, .slice p.B p.m p.d), (2, .agg (idv p.H))] = some p.arr :=
  built_of (z := .agg Lp.zero.arr) (places := [(0, 3), (3, 1), (4, 32)]) Tryd.underlying29 (by kernel_rfl) (by kernel_rfl) (fill_log p h)
theorem built_new (p : Lp) (h : p.H.length = 32) : Tryd.prog.built 29 [(0, .agg #[.int .i64 p.cap, .slice p.A p.n p.c, .int .i64 p.sure]), (2, .agg (idv p.H))] = some (Lp.arr ⟨p.cap, p.A, p.n, p.c, p.sure, none, 0, 0, p.H⟩) :=
  built_of (z := .agg Lp.zero.arr) (places := [(0, 3), (3, 1), (4, 32)]) Tryd.underlying29 (by kernel_rfl) (by kernel_rfl) (fill_new p h)
theorem built_zero_g : Tryd.prog.built 29 [] = some Lp.zero.arr :=
  built_of (z := .agg Lp.zero.arr) (places := [(0, 3), (3, 1), (4, 32)]) Tryd.underlying29 (by kernel_rfl) (by kernel_rfl) rfl
/-- gives a log, and an error, or a bool; gives a store -/
def GLE (r : Lg × Int) (w : World) (e : Ending) (w' : World) : Prop := ∃ p : Lp, e = .returned (.tuple #[.agg p.arr, .int .i64 r.2]) ∧ LgAt w' p r.1 ∧ Below w.heap.size w w'
def GLB (r : Lg × Bool) (w : World) (e : Ending) (w' : World) : Prop := ∃ p : Lp, e = .returned (.tuple #[.agg p.arr, .bool r.2]) ∧ LgAt w' p r.1 ∧ Below w.heap.size w w'
def GSt (s : Sp) (w : World) (e : Ending) (w' : World) : Prop := ∃ A n c, e = .returned (.agg #[.int .i64 s.cap, .slice A n c, .int .i64 s.sure]) ∧ Bts w' A n c s.data ∧ Below w.heap.size w w'
/-- what lies in none of the blocks between two stays where one of them is written -/
theorem Bts.kept {w w' : World} {A : Option Addr} {n c : Nat} {l : List Int} {lo hi g : Nat} (h : Bts w A n c l) (hf : Far A n lo hi) (hg : w.grownBy w' (some g)) (h1 : lo ≤ g) (h2 : g < hi) : Bts w' A n c l :=
  ⟨h.len, h.le, h.max, h.ok, h.bare, fun hn => by
    obtain ⟨b, off, hA, hc⟩ := h.at_ hn
    refine ⟨b, off, hA, fun j hj => ?_⟩
    have hne : b ≠ g := by have := hf _ hA hn; simp only at this; omega
    exact hg.cell (hc j hj) (fun e => by injection e with e; exact hne e)⟩
theorem ens_kept {w w' : World} {A : Option Addr} {n c : Nat} {l : List En} {lo hi g : Nat} (h : Ens w A n c l) (hf : Far A n lo hi) (hg : w.grownBy w' (some g)) (h1 : lo ≤ g) (h2 : g < hi) : Ens w' A n c l := by
  by_cases hn : 0 < n
  · refine ⟨h.rws.grown hg fun b off hA e => ?_⟩
    injection e with e
    have := hf _ hA hn
    simp only at this
    omega
  · exact ⟨⟨h.rws.len, h.rws.wid, h.rws.one, h.rws.le, h.rws.max, h.rws.bare, fun h0 => absurd h0 hn⟩⟩
theorem Ens.far {w : World} {A : Option Addr} {n c : Nat} {l : List En} (h : Ens w A n c l) (hi : Nat) : Far A n w.heap.size hi := fun a ha hn => by
  obtain ⟨b, off, u, hA, -, hb, -⟩ := h.at_ 0 hn
  rw [ha] at hA
  injection hA with hA
  subst hA
  exact .inl hb
theorem own_ens_far {w : World} {B lo hi : Nat} {A : Option Addr} {n c : Nat} {rows : List (List Value)} (h : OwnR 33 9 w B (.slice A n c) rows) (hB : hi ≤ B) : Far A n lo hi := fun a ha hn => by
  subst ha
  exact .inr (Nat.le_trans hB (h.size a.block rfl).1)
end Go.Proofs.YtafmompplcaadaaDoor

/- The walk over the document's Head of entries. -/
namespace Go.Proofs.YtafmompplcaadaaDoor
set_option maxRecDepth 100000
set_option linter.unusedVariables false
set_option linter.unusedSimpArgs false
open Go.RowKit

theorem head_take {l : List En} {k : Nat} {u : En} (h : l[k]? = some u) : headC (l.take (k + 1)) = linkC (headC (l.take k)) u := by rw [etake_more h, headC_snoc]
theorem may_mem {l : List En} (hm : mayC l = true) {k : Nat} {u : En} (h : l[k]? = some u) : mayE u = true := List.all_eq_true.1 hm _ (List.mem_of_getElem? h)
theorem rowb_grown {w w' : World} {g g' : Nat} {t : TypeId} {l : List Int} (h : RowB w g t l) (hg : w.grownBy w' (some g')) (hne : g ≠ g') : RowB w' g t l := h.grown hg (fun e => hne (by injection e))
end Go.Proofs.YtafmompplcaadaaDoor

/- The first ones of a slice of entries. -/
namespace Go.Proofs.YtafmompplcaadaaDoor
set_option maxRecDepth 100000
set_option linter.unusedVariables false
set_option linter.unusedSimpArgs false
open Go.RowKit

theorem size_entry (w : World) : (sizeOf (Tryd.prog.elem 25)).run Tryd.prog w = .ok 9 w := rfl
theorem Ens.upto {w : World} {A : Option Addr} {n c : Nat} {l : List En} (h : Ens w A n c l) (k : Nat) (x : Int) (hx : x = k) (hk : k ≤ n) :
    (∀ w' : World, (Instr.slice 25 (.slice A n c) none (some (.int .i64 x)) none).run Tryd.prog w' = .ok (.slice A k c) w') ∧ Ens w A k c (l.take k) := by
  have hn := h.small
  have hle := h.rws.le
  refine ⟨fun w' => ?_, ⟨⟨by rw [List.length_map, List.length_take, h.len]; omega, ?_, ?_, by omega, h.rws.max, h.rws.bare, fun h0 => ?_⟩⟩⟩
  · subst hx
    rw [run_slice_h (P := Tryd.prog) w' 25 A n c (by kernel_rfl) .i64 k (by omega) (by omega), size_entry]
    simp only [Result.andThen_ok, sliced, Int.toNat_natCast, Nat.zero_mul, Nat.sub_zero]
    have e : A.map (fun x => x.add 0) = A := by
      cases A with
      | none => rfl
      | some a => simp [Addr.add]
    rw [e]
    simp
  · intro r hr
    obtain ⟨u, _, rfl⟩ := List.mem_map.1 hr
    rfl
  · intro r hr v hv
    obtain ⟨u, _, rfl⟩ := List.mem_map.1 hr
    exact row_one9 u v hv
  · obtain ⟨b, off, hA, hc⟩ := h.rws.at_ (by omega)
    refine ⟨b, off, hA, fun j hj i hi => ?_⟩
    rw [hc j (by omega) i hi]
    simp [List.getD_eq_getElem?_getD, List.getElem?_take, hj]
end Go.Proofs.YtafmompplcaadaaDoor

/- The walk over the document's Text of entries. -/
namespace Go.Proofs.YtafmompplcaadaaDoor
set_option maxRecDepth 100000
set_option linter.unusedVariables false
set_option linter.unusedSimpArgs false
open Go.RowKit

/-- gives bytes -/
def GT (L : List Int) (w : World) (e : Ending) (w' : World) : Prop := ∃ A m c, e = .returned (.slice A m c) ∧ Bts w' A m c L ∧ Below w.heap.size w w'
theorem text_byte (l : List En) : ∀ j, 0 ≤ (textC l).getD j 0 ∧ (textC l).getD j 0 < 256 := by
  rcases List.eq_nil_or_concat l with rfl | ⟨m, u, rfl⟩
  · intro j; match j with | 0 => simp [textC] | j + 1 => simp [textC]
  · rw [List.concat_eq_append, textC_snoc]; exact ok_linkT (headC_byte _)
theorem text_len (l : List En) : (textC l).length ≤ 63 := by
  rcases List.eq_nil_or_concat l with rfl | ⟨m, u, rfl⟩
  · simp [textC]
  · rw [List.concat_eq_append, textC_snoc, linkT, List.length_cons, List.length_append, headC_len, put_len]; omega
theorem text_last {l : List En} {k : Nat} {u : En} (hl : l.length = k + 1) (h : l[k]? = some u) : textC l = linkT (headC (l.take k)) u := by
  have := (text_take h).1
  rwa [List.take_of_length_le (by omega)] at this
theorem mayC_take {l : List En} (h : mayC l = true) (k : Nat) : mayC (l.take k) = true := by
  cases e : mayC (l.take k) with
  | true => rfl
  | false => rw [mayC_part e] at h; exact h
end Go.Proofs.YtafmompplcaadaaDoor

/- The walk over the document's Put of a list of entries: its records and head. -/
namespace Go.Proofs.YtafmompplcaadaaDoor
set_option maxRecDepth 100000
set_option linter.unusedVariables false
set_option linter.unusedSimpArgs false
open Go.RowKit

theorem results_tct {fn : Func} {p q r : Tmp} {ty : TypeId} (h : fn.results = #[.tmp p, .cell q ty, .tmp r]) (tmps : Array Value) (P : Program) (w : World) (g : Nat) (t : TypeId) (cs : Array Value) (fr : Nat × Nat) (d : TypeDesc)
    (hp : tmps.getD q undef = .pointer (some ⟨g, 0, none⟩)) (hg : w.heap[g]? = some (.cells cs t fr)) (hu : P.underlying ty = some d) (hd : d.isRow = true) (hi : (P.info? ty).map (·.size) = some cs.size) (u v : Value) (hv : tmps.getD p undef = u) (hz : tmps.getD r undef = v) :
    (results fn tmps).run P w = .ok (.tuple #[u, .agg cs, v]) w := by
  have hp' : tmps[q]?.getD undef = .pointer (some ⟨g, 0, none⟩) := by simpa using hp
  have hv' : tmps[p]?.getD undef = u := by simpa using hv
  have hz' : tmps[r]?.getD undef = v := by simpa using hz
  simp [results, h, hp', hv', hz', asAddr, run_loadVar_row w g t ty cs fr d hg hu (by cases d <;> simp_all) hi]
/-- gives bytes, a head, and a bool -/
def GP (L Z : List Int) (b : Bool) (w : World) (e : Ending) (w' : World) : Prop := ∃ A m c, e = .returned (.tuple #[.slice A m c, .agg (idv Z), .bool b]) ∧ Bts w' A m c L ∧ Below w.heap.size w w'
theorem recs_take {l : List En} {k : Nat} {u : En} (h : l[k]? = some u) : recsC (l.take (k + 1)) = recsC (l.take k) ++ putE u ++ linkC (headC (l.take k)) u := by rw [etake_more h, recsC_snoc, List.append_assoc]
theorem recs_byte {l : List En} : ∀ h, ∀ j, 0 ≤ (recsF h l).getD j 0 ∧ (recsF h l).getD j 0 < 256 := by
  induction l with
  | nil => intro h j; simp [recsF]
  | cons u l ih => intro h; rw [recsF]; exact ok_append (put_ok u) (ok_append (csum_byte _) (ih _))
theorem may_take {l : List En} {k : Nat} {u : En} (h : l[k]? = some u) (hm : mayC (l.take k) = true) : mayC (l.take (k + 1)) = mayE u := by rw [etake_more h, mayC_snoc, hm, Bool.true_and]
theorem own_far {w : World} {b g : Nat} {v : Value} {l : List Int} (h : Own w b v l) (hg : g < b) : v.ownBlock = none ∨ v.ownBlock ≠ some g := by
  cases e : v.ownBlock with
  | none => exact .inl rfl
  | some k =>
    refine .inr (fun h2 => ?_)
    injection h2 with h2
    have := (h.size k e).1
    omega
theorem own_off {w w' : World} {g : Nat} {v : Value} {l : List Int} (h : Own w (g + 1) v l) (hg : w.grownBy w' (some g)) : Own w' (g + 1) v l := h.far hg (own_far h (Nat.lt_succ_self _))
theorem id_load {w : World} {g : Nat} {h : List Int} (hb : RowB w g 27 h) (hl : h.length = 32) {ρ : Operand → Value} {o : Oper} {x : Operand} (ho : o.op = .load 27 x) (hx : ρ x = .pointer (some ⟨g, 0, none⟩)) : (execOp ρ o).run Tryd.prog w = .ok (.value (.agg (idv h))) w := by
  unfold execOp
  simp only [ho, hx, Instr.loadAt, Instr.sureAddr, Sem.run_bind, Sem.run_pure, Result.andThen_ok, run_loadVar_row w g 27 27 (idv h) (0, 0) _ hb.is Tryd.underlying27 rfl (info32 hl)]
theorem step_store_b {P : Program} {ops : Array Oper} {o : Oper} {a : Act} {w : World} {K : Act → World → Prop} {Q : Exit → Act → World → Prop} {E : Prop} (ty : TypeId) (x y : Operand) (ho : o.op = .store ty x y)
    (g : Nat) (m l : List Int) (hx : a.eval x = .pointer (some ⟨g, 0, none⟩)) (hy : a.eval y = .agg (idv m)) (t : TypeId) (hg : RowB w g t l) (hi : (P.info? ty).map (·.size) = some (idv m).size) (hl : l.length = m.length) (hw : Region.wanted o (yielded ops a.tmps) = true)
    (h : ∀ w', w.grownBy w' (some g) → RowB w' g t m → w'.heap.size = w.heap.size → K (a.put o.dst undef) w') : if Region.wanted o (yielded ops a.tmps) = true then Oper.wp P o a w K Q else E := by
  rw [if_pos hw]
  exact wp_store_row ty x y ho g (idv m) hx hy t (idv l) hg hi (by rw [idv_size, idv_size, hl]) (idv_one m) (h _ (grown_setRow _ _ _) (hg.all m) (by simp))
end Go.Proofs.YtafmompplcaadaaDoor

/- Regions by hand: whole rows loaded, built and stored, one operation after another. -/
namespace Go.Proofs.YtafmompplcaadaaDoor
set_option maxRecDepth 100000
open Go.RowKit

section
variable {P : Program} {l : List Oper} {Q : Exit → Act → World → Prop} {md : Region.Mode} {S : World → Prop} {oi : Oper} {fuel : Nat} {listed : Array Bool} {a : Act} {w : World}
/-- a load of a row, out of the middle of a block -/
theorem take_mid (i : Nat) (ty : TypeId) (x : Operand) (g off : Nat) (cs : List Value) (T : Array Value) (hT : cs.toArray = T) (d : TypeDesc) (hi : l[i]? = some oi) (ho : oi.op = .load ty x) (hx : a.eval x = .pointer (some ⟨g, off, none⟩)) (hs : Region.noSelect l.toArray = true) (hf : Region.free md l.toArray listed i = true) (hr : (Region.ready md l.toArray listed).contains i = true)
    (hQ : ∀ c a w, Q (.panic c) (a.put oi.dst (.agg T)) w → Q (.panic c) a w) (hw : Region.wanted oi (yielded l.toArray a.tmps) = true) (hS : S w) (hat : ∀ w, S w → w.rangeAt g off cs)
    (hu : P.underlying ty = some d) (hd : d.isRow = true) (hsz : (P.info? ty).map (·.size) = some cs.length)
    (h : wpAnyH P md l.toArray Q S fuel (listed.setIfInBounds i true) (a.put oi.dst (.agg T)) w) : wpAnyH P md l.toArray Q S (fuel + 1) listed a w := by
  subst hT
  exact wpAnyH_take (by simpa using hi) hs hf hr hQ (yieldsIf_load_mid hw ty x ho g off hx cs d hat hu hd hsz) hS h
/-- a load of a whole block -/
theorem take_blk (i : Nat) (ty : TypeId) (x : Operand) (g : Nat) (t : TypeId) (cs : Array Value) (fr : Nat × Nat) (d : TypeDesc) (hi : l[i]? = some oi) (ho : oi.op = .load ty x) (hx : a.eval x = .pointer (some ⟨g, 0, none⟩)) (hs : Region.noSelect l.toArray = true) (hf : Region.free md l.toArray listed i = true) (hr : (Region.ready md l.toArray listed).contains i = true)
    (hQ : ∀ c a w, Q (.panic c) (a.put oi.dst (.agg cs)) w → Q (.panic c) a w) (hw : Region.wanted oi (yielded l.toArray a.tmps) = true) (hS : S w) (hat : ∀ w, S w → w.heap[g]? = some (.cells cs t fr))
    (hu : P.underlying ty = some d) (hd : (match d with | .struct _ | .array _ _ => true | _ => false) = true) (hsz : (P.info? ty).map (·.size) = some cs.size)
    (h : wpAnyH P md l.toArray Q S fuel (listed.setIfInBounds i true) (a.put oi.dst (.agg cs)) w) : wpAnyH P md l.toArray Q S (fuel + 1) listed a w :=
  take_if i (.agg cs) hi hs hf hr hQ hw hS (fun w' hw' => by
    unfold execOp
    simp only [ho, hx, Instr.loadAt, Instr.sureAddr, Sem.run_bind, Sem.run_pure, Result.andThen_ok, run_loadVar_row w' g t ty cs fr d (hat w' hw') hu hd hsz]) h
/-- a row that is built -/
theorem take_build (i : Nat) (t : TypeId) (parts : Array (Nat × Operand)) (m : List (Nat × Value)) (Y : Array Value) (hi : l[i]? = some oi) (ho : oi.op = .build t parts) (hm : parts.toList.map (fun (i, x) => (i, a.eval x)) = m) (hb : P.built t m = some Y) (hs : Region.noSelect l.toArray = true) (hf : Region.free md l.toArray listed i = true) (hr : (Region.ready md l.toArray listed).contains i = true)
    (hQ : ∀ c a w, Q (.panic c) (a.put oi.dst (.agg Y)) w → Q (.panic c) a w) (hw : Region.wanted oi (yielded l.toArray a.tmps) = true) (hS : S w)
    (h : wpAnyH P md l.toArray Q S fuel (listed.setIfInBounds i true) (a.put oi.dst (.agg Y)) w) : wpAnyH P md l.toArray Q S (fuel + 1) listed a w :=
  take_run i (.agg Y) hi hs hf hr hQ hw hS (fun w' => by
    have hl : (parts.map fun (i, x) => (i, a.eval x)).toList = m := by rw [Array.toList_map]; exact hm
    unfold execOp
    simp only [ho, Sem.run_bind, run_build w' t _ Y (hl ▸ hb), Result.andThen_ok]
    rfl) h
end
/-- a store of a whole block -/
theorem step_store_row {P : Program} {ops : Array Oper} {o : Oper} {a : Act} {w : World} {K : Act → World → Prop} {Q : Exit → Act → World → Prop} {E : Prop} (ty : TypeId) (x y : Operand) (ho : o.op = .store ty x y)
    (g : Nat) (cells : Array Value) (hx : a.eval x = .pointer (some ⟨g, 0, none⟩)) (hy : a.eval y = .agg cells) (t : TypeId) (old : Array Value) (hg : w.heap[g]? = some (.cells old t (0, 0))) (hi : (P.info? ty).map (·.size) = some cells.size) (hold : old.size = cells.size) (h1 : cells.all (·.oneCell') = true) (hw : Region.wanted o (yielded ops a.tmps) = true)
    (h : ∀ w', w.grownBy w' (some g) → w'.heap[g]? = some (.cells cells t (0, 0)) → w'.heap.size = w.heap.size → K (a.put o.dst undef) w') : if Region.wanted o (yielded ops a.tmps) = true then Oper.wp P o a w K Q else E := by
  rw [if_pos hw]
  exact wp_store_row ty x y ho g cells hx hy t old hg hi hold h1 (h _ (grown_setRow _ _ _) (setRow_heap _ _ _ _ _ _ hg) (by simp))
/-- a block that stays -/
theorem blk_below {w w' : World} {g : Nat} {t : TypeId} {cs : Array Value} {fr : Nat × Nat} (h : w.heap[g]? = some (.cells cs t fr)) (hb : Below w.heap.size w w') : w'.heap[g]? = some (.cells cs t fr) := (hb.block g (Array.getElem?_eq_some_iff.1 h).1).trans h
theorem blk_drew {w : World} {g : Nat} {t : TypeId} {cs : Array Value} {fr : Nat × Nat} (h : w.heap[g]? = some (.cells cs t fr)) : w.drew.heap[g]? = some (.cells cs t fr) := h
theorem blk_other {w w' : World} {g k : Nat} {t : TypeId} {cs : Array Value} {fr : Nat × Nat} (h : w.heap[g]? = some (.cells cs t fr)) (hg : w.grownBy w' (some k)) (hne : g ≠ k) : w'.heap[g]? = some (.cells cs t fr) := (hg.block g (Array.getElem?_eq_some_iff.1 h).1 (fun e => hne (Option.some.inj e))).trans h
theorem size_st3 (a b c : Value) : (Tryd.prog.info? 24).map (·.size) = some (#[a, b, c] : Array Value).size := by
  show _ = some 3
  kernel_rfl
theorem size_st : (Tryd.prog.info? 24).map (·.size) = some 3 := by kernel_rfl
end Go.Proofs.YtafmompplcaadaaDoor

/- What package audit does: seven contracts that its own walks must bring; the walks over the laws stand on them alone. -/
namespace Go.Proofs.YtafmompplcaadaaDoor
set_option maxRecDepth 100000
open Go.RowKit

/-- not too long for a law that asks for few -/
def LgSm (g : Lg) : Prop := g.st.data.length ≤ 1000000 ∧ g.l.length ≤ 1000000
structure AudOk : Prop where
  new : ∀ (room : Int) (X : World), KTab X → Calls Tryd.prog 20 #[.int .i64 room] X (GLB (newG room) X)
  may : ∀ (p : Lp) (g : Lg) (X : World), KTab X → LgAt X p g → LgSm g → Calls Tryd.prog 10 #[.agg p.arr] X (GBe (mayG g) X)
  same : ∀ (p q : Lp) (a b : Lg) (X : World), KTab X → LgAt X p a → LgAt X q b → LgSm a → LgSm b → Calls Tryd.prog 13 #[.agg p.arr, .agg q.arr] X (GBe (sameG a b) X)
  open_ : ∀ (s : Sp) (A : Option Addr) (n c : Nat) (X : World), KTab X → Bts X A n c s.data → n ≤ 1000000 → Calls Tryd.prog 12 #[.agg #[.int .i64 s.cap, .slice A n c, .int .i64 s.sure]] X (GLE (openG s) X)
  room : ∀ (p : Lp) (g : Lg) (X : World), KTab X → LgAt X p g → LgSm g → Calls Tryd.prog 19 #[.agg p.arr] X (fun e w' => e = .returned (.int .i64 (roomG g)) ∧ Below X.heap.size X w')
  add : ∀ (p : Lp) (g : Lg) (u : En) (urg : Bool) (X : World), KTab X → LgAt X p g → LgSm g → u.ok → Calls Tryd.prog 11 #[.agg p.arr, .agg (enA u), .bool urg] X (GLE (addG g u urg) X)
  torn : ∀ (p : Lp) (g : Lg) (u : En) (keep : Int) (X : World), KTab X → LgAt X p g → LgSm g → u.ok → Calls Tryd.prog 15 #[.agg p.arr, .agg (enA u), .int .i64 keep] X (GSt (tornG g u keep) X)
end Go.Proofs.YtafmompplcaadaaDoor

/- The chapter's example of a log, of which each law asks first. -/
namespace Go.Proofs.YtafmompplcaadaaDoor
set_option maxRecDepth 100000
set_option linter.unusedVariables false
set_option linter.unusedSimpArgs false
open Go.RowKit

def exA : En := ⟨0, 0, 1, 0, 0, 0, 0, 0, 0⟩
theorem exA_may : mayE exA = true := by decide
theorem exA_ok : exA.ok := ⟨by decide, by decide⟩
theorem zeroE_may : mayE En.zero = true := by decide
theorem zeroE_ok : En.zero.ok := ⟨by decide, by decide⟩
def g0A : Lg := ⟨⟨400, [], 0⟩, [], headC []⟩
theorem new400 : newG 400 = (g0A, true) := by rw [newG, if_pos (by decide)]; rfl
theorem g0_may : mayG g0A = true := mayG_iff.2 ⟨may_of ⟨by decide, by decide, by decide, by decide, by decide⟩, rfl, rfl, rfl, rfl⟩
theorem g0_slots : slotsG g0A = 6 := by decide
theorem g0_room : roomG g0A = 2 := by rw [room_in g0_may, g0_slots]; rfl
theorem g0_fits : (g0A.l.length : Int) < slotsG g0A := by rw [g0_slots]; decide
theorem g0_full : fullG g0A false = false := by rw [fullG, g0_slots, g0_room]; rfl
theorem g0_add : addG g0A exA false = (moreG g0A exA, 0) := add_ok g0_may exA_may g0_full
theorem g0_each : ∀ u ∈ g0A.l, u.ok := fun u hu => by cases hu
theorem x_may : mayG (moreG g0A exA) = true := more_may g0_may exA_may g0_fits
theorem x_room : roomG (moreG g0A exA) = 1 := by rw [more_room g0_may exA_may g0_fits, g0_slots]; rfl
theorem x_open : openG (moreG g0A exA).st = (moreG g0A exA, 0) := open_log x_may (more_ok g0_each exA_ok)
theorem x_len : (moreG g0A exA).st.data.length = 62 ∧ (moreG g0A exA).l.length = 1 := ⟨(moreG_parts g0A exA).2.2.2.2.1, rfl⟩
theorem torn_nine : (tornG g0A En.zero 9).data.length = 9 := by
  have hw := write_rec g0_may zeroE_may g0_fits
  have hwm := (write_may (mayG_iff.1 g0_may).1 hw).1
  have hml := more_len g0A En.zero
  obtain ⟨j, hj, h1, h2, h3⟩ := kept_at (keep := 9) hwm
  rw [tornG, g0_may, zeroE_may, decide_eq_true g0_fits, Bool.and_self, Bool.and_self, if_pos rfl, hw]
  show (crashP ⟨g0A.st.cap, recsC (g0A.l ++ [En.zero]), 62 * g0A.l.length⟩ 9).data.length = 9
  rw [h3]
  rw [keptP] at hj
  simp only at hj h2 ⊢
  rw [hml] at hj h2
  rw [List.length_take, hml]
  have hl : g0A.l.length = 0 := rfl
  rw [hl] at hj h2 ⊢
  omega
theorem st_field (a c : Int) (A : Option Addr) (n m : Nat) (w : World) : (Instr.field 24 (.agg #[.int .i64 a, .slice A n m, .int .i64 c]) 1).run Tryd.prog w = .ok (.slice A n m) w := by
  first | rfl | kernel_rfl
theorem built_exA : Tryd.prog.built 33 [(2, .int .i64 1)] = some (enA exA) :=
  built_of (z := .agg (enA En.zero)) (places := [(0, 1), (1, 1), (2, 1), (3, 1), (4, 1), (5, 1), (6, 1), (7, 1), (8, 1)]) Tryd.underlying33 (by kernel_rfl) (by kernel_rfl) rfl
theorem built_zeroE : Tryd.prog.built 33 [] = some (enA En.zero) :=
  built_of (z := .agg (enA En.zero)) (places := [(0, 1), (1, 1), (2, 1), (3, 1), (4, 1), (5, 1), (6, 1), (7, 1), (8, 1)]) Tryd.underlying33 (by kernel_rfl) (by kernel_rfl) rfl
set_option maxHeartbeats 4000000 in
theorem aawake_any (HA : AudOk) (w : World) (hK : KTab w) : Calls Tryd.prog 8 #[] w fun e w' => e = .returned (.bool true) ∧ Below w.heap.size w w' := by
  have HK := Lib.hid hK
  have HNW := Lib.hid (fun (X : World) (hk : KTab X) => HA.new 400 X hk)
  rw [new400] at HNW
  have HAD := Lib.hid (fun (p : Lp) (X : World) (hk : KTab X) (h : LgAt X p g0A) => HA.add p g0A exA false X hk h ⟨by decide, by decide⟩ exA_ok)
  rw [g0_add] at HAD
  have HTO := Lib.hid (fun (p : Lp) (X : World) (hk : KTab X) (h : LgAt X p g0A) => HA.torn p g0A En.zero 9 X hk h ⟨by decide, by decide⟩ zeroE_ok)
  have HR1 := Lib.hid (fun (p : Lp) (X : World) (hk : KTab X) (h : LgAt X p g0A) => HA.room p g0A X hk h ⟨by decide, by decide⟩)
  rw [g0_room] at HR1
  have hxs : LgSm (moreG g0A exA) := ⟨by rw [x_len.1]; omega, by rw [x_len.2]; omega⟩
  have hxo := x_open
  have HT9 := Lib.hid torn_nine
  have HMY := Lib.hid (fun (p : Lp) (X : World) (hk : KTab X) (h : LgAt X p (moreG g0A exA)) => HA.may p _ X hk h hxs)
  rw [x_may] at HMY
  have HR2 := Lib.hid (fun (p : Lp) (X : World) (hk : KTab X) (h : LgAt X p (moreG g0A exA)) => HA.room p _ X hk h hxs)
  rw [x_room] at HR2
  have HSM := Lib.hid (fun (p q : Lp) (X : World) (hk : KTab X) (h : LgAt X p (moreG g0A exA)) (h2 : LgAt X q (moreG g0A exA)) => HA.same p q _ _ X hk h h2 hxs hxs)
  rw [sameG_self] at HSM
  have hxl := x_len
  obtain ⟨g1, hg1⟩ : ∃ x, moreG g0A exA = x := ⟨_, rfl⟩
  rw [hg1] at HAD HMY HR2 HSM hxo hxl
  obtain ⟨g0, hg0⟩ : ∃ x, g0A = x := ⟨_, rfl⟩
  simp only [hg0] at HNW HAD HTO HR1 HT9
  obtain ⟨T, hT⟩ : ∃ x, tornG g0 En.zero 9 = x := ⟨_, rfl⟩
  simp only [hT] at HTO HT9
  have HOP := Lib.hid (show ∀ (p : Lp) (X : World), KTab X → LgAt X p g1 → Calls Tryd.prog 12 #[.agg #[.int .i64 p.cap, .slice p.A p.n p.c, .int .i64 p.sure]] X (GLE (g1, 0) X) from fun p X hk h => by
    have h0 := HA.open_ g1.st p.A p.n p.c X hk h.data (by rw [← h.data.len, hxl.1]; omega)
    rw [hxo, ← h.cap, ← h.sure] at h0
    exact h0)
  have HXL := Lib.hid hxl
  have hfd := st_field
  clear hK HA hxs hxo hxl hg1 hg0 hT
  go_enter Tryd.func8, Tryd.ntmps8
  go_wp2_with (first
    | (go_at_call 20
       (with_reducible refine (HNW.out _ HK.out).mono ?_)
       rintro e w1 ⟨p1, rfl, hp1, hb1⟩
       have HP1 := Lib.hid hp1
       have HB1 := Lib.hid hb1
       clear hp1 hb1)
    | ((with_reducible refine wpList_store_blk rfl 29 _ _ rfl w1.heap.size p1.arr ?hx31 ?hy31 29 _ (heap_alloc_new w1 _) HP1.out.whole ?hs31 (lp_one _) ?_); (case hx31 => rfl); (case hy31 => rfl); (case hs31 => exact (lp_size (p := Lp.zero) rfl).trans (lp_size HP1.out.hlen).symm)
       intro w2 hg k1 hs
       have hbx : Below w1.heap.size w1 w2 := Below.grows (one_alloc w1 _) hg (size_le_alloc _ _) (Nat.le_refl _)
       have HP1 := Lib.hid (HP1.out.below hbx)
       have HB2 := Lib.hid (HB1.out.trans (hbx.mono HB1.out.size))
       clear hbx hg hs)
    | ((with_reducible refine wpList_load_blk 29 _ rfl w1.heap.size ?hx1 29 p1.arr (0, 0) _ k1 Tryd.underlying29 ?hd1 HP1.out.whole ?_ ?hw1); (case hx1 => rfl); (case hd1 => rfl); (case hw1 => rfl))
    | ((with_reducible refine wpList_build_to rfl 33 _ rfl [(2, .int .i64 1)] (enA exA) ?hl5 ?hb5 ?_); (case hl5 => rfl); (case hb5 => exact built_exA))
    | (go_at_call 11
       (with_reducible refine (HAD.out p1 _ (HK.out.from HB2.out) HP1.out).mono ?_)
       rintro e w3 ⟨p2, rfl, hp2, hbx⟩
       have HP2 := Lib.hid hp2
       have k1 := blk_below k1 hbx
       have HP1 := Lib.hid (HP1.out.below hbx)
       have HB3 := Lib.hid (HB2.out.trans (hbx.mono HB2.out.size))
       clear hp2 hbx)
    | ((with_reducible refine wpList_store_blk rfl 29 _ _ rfl w3.heap.size p2.arr ?hx32 ?hy32 29 _ (heap_alloc_new w3 _) HP2.out.whole ?hs32 (lp_one _) ?_); (case hx32 => rfl); (case hy32 => rfl); (case hs32 => exact (lp_size (p := Lp.zero) rfl).trans (lp_size HP2.out.hlen).symm)
       intro w4 hg k2 hs
       have hbx : Below w3.heap.size w3 w4 := Below.grows (one_alloc w3 _) hg (size_le_alloc _ _) (Nat.le_refl _)
       have k1 := blk_below k1 hbx
       have HP1 := Lib.hid (HP1.out.below hbx)
       have HP2 := Lib.hid (HP2.out.below hbx)
       have HB4 := Lib.hid (HB3.out.trans (hbx.mono HB3.out.size))
       clear hbx hg hs)
    | ((with_reducible refine wpList_load_on 24 _ rfl w3.heap.size 0 ?hx7 [.int .i64 p2.cap, .slice p2.A p2.n p2.c, .int .i64 p2.sure] _ rfl _ (lg_st k2) Tryd.underlying24 ?hd7 (by kernel_rfl) ?_ ?hw7); (case hx7 => rfl); (case hd7 => rfl); (case hw7 => rfl))
    | (go_at_call 12
       (with_reducible refine (HOP.out p2 _ (HK.out.from HB4.out) HP2.out).mono ?_)
       rintro e w5 ⟨p3, rfl, hp3, hbx⟩
       have HP3 := Lib.hid hp3
       have k1 := blk_below k1 hbx
       have k2 := blk_below k2 hbx
       have HP1 := Lib.hid (HP1.out.below hbx)
       have HP2 := Lib.hid (HP2.out.below hbx)
       have HB5 := Lib.hid (HB4.out.trans (hbx.mono HB4.out.size))
       clear hp3 hbx)
    | ((with_reducible refine wpList_store_blk rfl 29 _ _ rfl w5.heap.size p3.arr ?hx33 ?hy33 29 _ (heap_alloc_new w5 _) HP3.out.whole ?hs33 (lp_one _) ?_); (case hx33 => rfl); (case hy33 => rfl); (case hs33 => exact (lp_size (p := Lp.zero) rfl).trans (lp_size HP3.out.hlen).symm)
       intro w6 hg k3 hs
       have hbx : Below w5.heap.size w5 w6 := Below.grows (one_alloc w5 _) hg (size_le_alloc _ _) (Nat.le_refl _)
       have k1 := blk_below k1 hbx
       have k2 := blk_below k2 hbx
       have HP1 := Lib.hid (HP1.out.below hbx)
       have HP2 := Lib.hid (HP2.out.below hbx)
       have HP3 := Lib.hid (HP3.out.below hbx)
       have HB6 := Lib.hid (HB5.out.trans (hbx.mono HB5.out.size))
       clear hbx hg hs)
    | (go_at_call 19
       (with_reducible refine (HR1.out p1 _ (HK.out.from HB6.out) HP1.out).mono ?_)
       rintro e w7 ⟨rfl, hbx⟩
       have k1 := blk_below k1 hbx
       have k2 := blk_below k2 hbx
       have k3 := blk_below k3 hbx
       have HP1 := Lib.hid (HP1.out.below hbx)
       have HP2 := Lib.hid (HP2.out.below hbx)
       have HP3 := Lib.hid (HP3.out.below hbx)
       have HB7 := Lib.hid (HB6.out.trans (hbx.mono HB6.out.size))
       clear hbx)
    | ((with_reducible refine wpList_load_blk 29 _ rfl w3.heap.size ?hx2 29 p2.arr (0, 0) _ k2 Tryd.underlying29 ?hd2 HP2.out.whole ?_ ?hw2); (case hx2 => rfl); (case hd2 => rfl); (case hw2 => rfl))
    | (go_at_call 19
       (with_reducible refine (HR2.out p2 _ (HK.out.from HB7.out) HP2.out).mono ?_)
       rintro e w8 ⟨rfl, hbx⟩
       have k1 := blk_below k1 hbx
       have k2 := blk_below k2 hbx
       have k3 := blk_below k3 hbx
       have HP1 := Lib.hid (HP1.out.below hbx)
       have HP2 := Lib.hid (HP2.out.below hbx)
       have HP3 := Lib.hid (HP3.out.below hbx)
       have HB8 := Lib.hid (HB7.out.trans (hbx.mono HB7.out.size))
       clear hbx)
    | ((with_reducible refine wpList_load_blk 29 _ rfl w5.heap.size ?hx3 29 p3.arr (0, 0) _ k3 Tryd.underlying29 ?hd3 HP3.out.whole ?_ ?hw3); (case hx3 => rfl); (case hd3 => rfl); (case hw3 => rfl))
    | (go_at_call 13
       (with_reducible refine (HSM.out p2 p3 _ (HK.out.from HB8.out) HP2.out HP3.out).mono ?_)
       rintro e w9 ⟨rfl, hbx⟩
       have k1 := blk_below k1 hbx
       have k2 := blk_below k2 hbx
       have k3 := blk_below k3 hbx
       have HP1 := Lib.hid (HP1.out.below hbx)
       have HP2 := Lib.hid (HP2.out.below hbx)
       have HP3 := Lib.hid (HP3.out.below hbx)
       have HB9 := Lib.hid (HB8.out.trans (hbx.mono HB8.out.size))
       clear hbx)
    | (go_at_call 10
       (with_reducible refine (HMY.out p2 _ (HK.out.from HB9.out) HP2.out).mono ?_)
       rintro e w10 ⟨rfl, hbx⟩
       have k1 := blk_below k1 hbx
       have k2 := blk_below k2 hbx
       have k3 := blk_below k3 hbx
       have HP1 := Lib.hid (HP1.out.below hbx)
       have HP2 := Lib.hid (HP2.out.below hbx)
       have HP3 := Lib.hid (HP3.out.below hbx)
       have HB10 := Lib.hid (HB9.out.trans (hbx.mono HB9.out.size))
       have x3 := (lg_cells k3).2.2.2
       have hm3 : (p3.m : Int) = 1 := by have := HP3.out.ents.len; have := HXL.out.2; omega
       clear hbx)
    | ((with_reducible refine wpList_build_on 33 _ rfl [] (enA En.zero) ?hl6 ?hb6 ?_ ?hw6); (case hl6 => rfl); (case hb6 => exact built_zeroE); (case hw6 => rfl))
    | (go_at_call 15
       (with_reducible refine (HTO.out p1 _ (HK.out.from HB10.out) HP1.out).mono ?_)
       rintro e w11 ⟨A9, n9, c9, rfl, hbt, hbx⟩
       have hn9 : n9 = 9 := by have := hbt.len; have := HT9.out; omega
       subst hn9
       have HB11 := Lib.hid (HB10.out.trans (hbx.mono HB10.out.size))
       clear hbx hbt))
  go_ret
  exact ⟨rfl, HB11.out⟩
end Go.Proofs.YtafmompplcaadaaDoor

/- The walks over package store's May and Left, and the document's. -/
namespace Go.Proofs.YtafmompplcaadaaDoor
set_option maxRecDepth 100000
set_option linter.unusedVariables false
set_option linter.unusedSimpArgs false
open Go.RowKit

set_option maxHeartbeats 1000000 in
theorem stmay_any (cap : Int) (A : Option Addr) (n c : Nat) (sure : Int) (w : World) (hn : n ≤ 9223372036854775807) :
    Calls Tryd.prog 16 #[.agg #[.int .i64 cap, .slice A n c, .int .i64 sure]] w (GBool (mayT cap n sure) w) := by
  have HB := Lib.hid (one_alloc w (.cells #[.int .i64 cap, .slice A n c, .int .i64 sure] 24))
  by_cases h1 : 0 ≤ cap
  · by_cases h2 : cap ≤ 16384
    · by_cases h3 : (n : Int) ≤ cap
      · by_cases h4 : 0 ≤ sure
        · by_cases h5 : sure ≤ (n : Int)
          · have HM := Lib.hid (show true = mayT cap n sure from (mayT_iff.2 ⟨h1, h2, h3, h4, h5⟩).symm)
            go_enter Tryd.func16, Tryd.ntmps16
            go_wp2
            go_ret
            exact ⟨ret_bool HM.out, HB.out⟩
          · have HM := Lib.hid (mayT_no (cap := cap) (n := n) (sure := sure) (fun h => h5 h.2.2.2.2))
            go_enter Tryd.func16, Tryd.ntmps16
            go_wp2
            go_ret
            exact ⟨ret_bool HM.out, HB.out⟩
        · have HM := Lib.hid (mayT_no (cap := cap) (n := n) (sure := sure) (fun h => h4 h.2.2.2.1))
          go_enter Tryd.func16, Tryd.ntmps16
          go_wp2
          go_ret
          exact ⟨ret_bool HM.out, HB.out⟩
      · have HM := Lib.hid (mayT_no (cap := cap) (n := n) (sure := sure) (fun h => h3 h.2.2.1))
        go_enter Tryd.func16, Tryd.ntmps16
        go_wp2
        go_ret
        exact ⟨ret_bool HM.out, HB.out⟩
    · have HM := Lib.hid (mayT_no (cap := cap) (n := n) (sure := sure) (fun h => h2 h.2.1))
      go_enter Tryd.func16, Tryd.ntmps16
      go_wp2
      go_ret
      exact ⟨ret_bool HM.out, HB.out⟩
  · have HM := Lib.hid (mayT_no (cap := cap) (n := n) (sure := sure) (fun h => h1 h.1))
    go_enter Tryd.func16, Tryd.ntmps16
    go_wp2
    go_ret
    exact ⟨ret_bool HM.out, HB.out⟩
/-- a store in a box -/
def BoxT (w : World) (g : Nat) (t : TypeId) (cap : Int) (A : Option Addr) (n c : Nat) (sure : Int) : Prop := w.heap[g]? = some (.cells #[.int .i64 cap, .slice A n c, .int .i64 sure] t (0, 0))
theorem BoxT.cells {w : World} {g : Nat} {t : TypeId} {cap : Int} {A : Option Addr} {n c : Nat} {sure : Int} (h : BoxT w g t cap A n c sure) : w.cell? ⟨g, 0, none⟩ = some (.int .i64 cap) ∧ w.cell? ⟨g, 1, none⟩ = some (.slice A n c) ∧ w.cell? ⟨g, 2, none⟩ = some (.int .i64 sure) :=
  ⟨(cell_of_row _ _ _ _ _ _ h).trans rfl, (cell_of_row _ _ _ _ _ _ h).trans rfl, (cell_of_row _ _ _ _ _ _ h).trans rfl⟩
theorem BoxT.free {w : World} {g : Nat} {t : TypeId} {cap : Int} {A : Option Addr} {n c : Nat} {sure : Int} (h : BoxT w g t cap A n c sure) (i : Nat) : w.frozen? ⟨g, i, none⟩ = false := frozen_of_row _ _ i _ _ h
theorem BoxT.lt {w : World} {g : Nat} {t : TypeId} {cap : Int} {A : Option Addr} {n c : Nat} {sure : Int} (h : BoxT w g t cap A n c sure) : g < w.heap.size := (Array.getElem?_eq_some_iff.1 h).1
theorem BoxT.below {w w' : World} {g : Nat} {t : TypeId} {cap : Int} {A : Option Addr} {n c : Nat} {sure : Int} (h : BoxT w g t cap A n c sure) (hb : Below w.heap.size w w') : BoxT w' g t cap A n c sure := (hb.block g h.lt).trans h
def leftT (cap : Int) (n : Nat) (sure : Int) : Int := if mayT cap n sure = true then cap - n else 0
end Go.Proofs.YtafmompplcaadaaDoor

/- The walks over the library's bytes.Equal and bytes.Clone. -/
namespace Go.Proofs.YtafmompplcaadaaDoor
set_option linter.unusedVariables false
set_option linter.unusedSimpArgs false
open Go.RowKit

theorem equal_any (A B : Option Addr) (n c m d : Nat) (a b : List Int) (w : World) (ha : Bts w A n c a) (hb : Bts w B m d b) :
    Calls Tryd.prog 22 #[.slice A n c, .slice B m d] w fun e w' => e = .returned (.bool (a == b)) ∧ w = w' := by
  have k1 := conv_bts ha
  have k2 := conv_bts hb
  have k3 := run_eq_bstr a b ha.ok hb.ok
  obtain ⟨x, hx⟩ : ∃ x, bstr a = x := ⟨_, rfl⟩
  obtain ⟨y, hy⟩ : ∃ x, bstr b = x := ⟨_, rfl⟩
  rw [hx] at k1 k3
  rw [hy] at k2 k3
  have K3 := Lib.hid k3
  clear k3 hx hy ha hb
  go_enter Tryd.func22, Tryd.ntmps22
  go_wp2
  go_ret
  exact ⟨ret_bool K3.out, rfl⟩
theorem none_own (w : World) : Own (w.alloc (.cells #[] 5)) w.heap.size (.slice (some ⟨w.heap.size, 0, none⟩) 0 0) [] :=
  ⟨rfl, .inr ⟨w.heap.size, 0, #[], rfl, Nat.le_refl _, heap_alloc_new w _, Nat.le_refl _, by unfold maxLen; omega, rfl, rfl⟩⟩
set_option maxHeartbeats 1000000 in
theorem clone_any (A : Option Addr) (n c : Nat) (l : List Int) (w : World) (hb : Bts w A n c l) (hsm : n ≤ 140737488355328) :
    Calls Tryd.prog 38 #[.slice A n c] w fun e w' => ∃ v, e = .returned v ∧ Own w' w.heap.size v l ∧ Below w.heap.size w w' := by
  have q22 : ∀ (w : World) (a : Option Addr) (n c n' c' : Nat), (binOp .eql 22 (.slice a n c) (.slice none n' c')).run Tryd.prog w = .ok (.bool a.isNone) w := fun w a n c n' c' => Lib.run_eql_slice_nil w _ _ a n c n' c' Tryd.underlying22
  cases A with
  | none =>
    have h0 := hb.bare rfl
    have hn : n = 0 := by have := hb.le; omega
    have hl : l = [] := List.eq_nil_of_length_eq_zero (hb.len.trans hn)
    have HL := Lib.hid hl
    clear hl hb h0
    go_enter Tryd.func38, Tryd.ntmps38
    go_wp2
    go_ret
    exact ⟨_, rfl, by rw [HL.out]; exact Own.nil _ _, Below.refl _ _⟩
  | some a =>
    have hb1 := hb.more (.cells #[] 5)
    go_enter Tryd.func38, Tryd.ntmps38
    go_wp2_with (at_builtin
                 refine wpList_append_b rfl _ _ rfl w.heap.size _ [] rfl (none_own w) _ n c l rfl hb1 (by simp; omega) (size_le_alloc _ _) ?_
                 intro v5 w5 hown5 hg5
                 rw [List.nil_append] at hown5
                 have hB5 : Below w.heap.size w w5 := (one_alloc w _).grown hg5 (size_le_alloc _ _) (fun k hk => by cases hk; exact Nat.le_refl _)
                 clear hg5)
    go_ret
    exact ⟨_, rfl, hown5, hB5⟩
theorem clone_bts (A : Option Addr) (n c : Nat) (l : List Int) (w : World) (hb : Bts w A n c l) (hsm : n ≤ 140737488355328) :
    Calls Tryd.prog 38 #[.slice A n c] w fun e w' => ∃ A' c', e = .returned (.slice A' n c') ∧ Bts w' A' n c' l ∧ (∀ a, A' = some a → w.heap.size ≤ a.block) ∧ Below w.heap.size w w' := by
  refine (clone_any A n c l w hb hsm).mono ?_
  rintro e w' ⟨v, rfl, hown, hbel⟩
  have hl := hb.len
  obtain ⟨A', c', rfl, hb'⟩ := hown.bts hb.ok
  subst hl
  exact ⟨A', c', rfl, hb', fun a ha => by subst ha; exact (hown.size _ rfl).1, hbel⟩
end Go.Proofs.YtafmompplcaadaaDoor

/- The walks over package store's Same, and the document's. -/
namespace Go.Proofs.YtafmompplcaadaaDoor
set_option maxRecDepth 100000
set_option linter.unusedVariables false
set_option linter.unusedSimpArgs false
open Go.RowKit

set_option maxHeartbeats 1000000 in
theorem stsame_any (a b : Sp) (A B : Option Addr) (n c m d : Nat) (w : World) (ha : Bts w A n c a.data) (hb : Bts w B m d b.data) :
    Calls Tryd.prog 27 #[a.val A n c, b.val B m d] w (GBool (sameP a b) w) := by
  obtain ⟨cap1, l1, s1⟩ := a
  obtain ⟨cap2, l2, s2⟩ := b
  simp only at ha hb
  unfold Sp.val
  simp only
  have htwo := two_below w (.cells #[.int .i64 cap1, .slice A n c, .int .i64 s1] 24) (.cells #[.int .i64 cap2, .slice B m d, .int .i64 s2] 24)
  obtain ⟨E, hE⟩ : ∃ E, (l1 == l2) = E := ⟨_, rfl⟩
  have HC := Lib.hid (equal_any A B n c m d l1 l2 _ (ha.below htwo) (hb.below htwo))
  rw [hE] at HC
  have HTWO := Lib.hid htwo
  have HE := Lib.hid hE
  clear htwo ha hb hE
  cases e1 : (cap1 == cap2) with
  | false =>
    have HR := Lib.hid (show false = sameP ⟨cap1, l1, s1⟩ ⟨cap2, l2, s2⟩ from by simp only [sameP, e1, Bool.false_and])
    go_enter Tryd.func27, Tryd.ntmps27
    go_wp2
    go_ret
    exact ⟨ret_bool HR.out, HTWO.out⟩
  | true =>
    cases e2 : (s1 == s2) with
    | false =>
      have HR := Lib.hid (show false = sameP ⟨cap1, l1, s1⟩ ⟨cap2, l2, s2⟩ from by simp only [sameP, e1, e2, Bool.and_false, Bool.false_and])
      go_enter Tryd.func27, Tryd.ntmps27
      go_wp2
      go_ret
      exact ⟨ret_bool HR.out, HTWO.out⟩
    | true =>
      have HR := Lib.hid (show E = sameP ⟨cap1, l1, s1⟩ ⟨cap2, l2, s2⟩ from by simp only [sameP, e1, e2, Bool.true_and, HE.out])
      go_enter Tryd.func27, Tryd.ntmps27
      go_wp2_with (go_at_call 22; refine HC.out.mono ?_; rintro e w1 ⟨rfl, rfl⟩)
      go_ret
      exact ⟨ret_bool HR.out, HTWO.out⟩
end Go.Proofs.YtafmompplcaadaaDoor

/- The walks over package store's methods of a file. -/
namespace Go.Proofs.YtafmompplcaadaaDoor
set_option maxRecDepth 100000
set_option linter.unusedVariables false
set_option linter.unusedSimpArgs false
open Go.RowKit

theorem size_store : (Tryd.prog.info? 24).map (·.size) = some 3 := by kernel_rfl
theorem size_file : (Tryd.prog.info? 83).map (·.size) = some 3 := by kernel_rfl
theorem ret_file {fn : Func} {p u : Tmp} (h : fn.results = #[.cell p 83, .tmp u]) (tmps : Array Value) (w : World) (g : Nat) (t : TypeId) (x y z v : Value)
    (hp : tmps.getD p undef = .pointer (some ⟨g, 0, none⟩)) (hg : w.heap[g]? = some (.cells #[x, y, z] t (0, 0))) (hv : tmps.getD u undef = v) :
    (results fn tmps).run Tryd.prog w = .ok (.tuple #[.agg #[x, y, z], v]) w :=
  results_blk_tmp h tmps Tryd.prog w g t _ (0, 0) _ hp hg Tryd.underlying83 rfl size_file v hv
theorem ret_store {fn : Func} {p u : Tmp} (h : fn.results = #[.cell p 24, .tmp u]) (tmps : Array Value) (w : World) (g : Nat) (t : TypeId) (x y z v : Value)
    (hp : tmps.getD p undef = .pointer (some ⟨g, 0, none⟩)) (hg : w.heap[g]? = some (.cells #[x, y, z] t (0, 0))) (hv : tmps.getD u undef = v) :
    (results fn tmps).run Tryd.prog w = .ok (.tuple #[.agg #[x, y, z], v]) w :=
  results_blk_tmp h tmps Tryd.prog w g t _ (0, 0) _ hp hg Tryd.underlying24 rfl size_store v hv
theorem ret_store1 {fn : Func} {p : Tmp} (h : fn.results = #[.cell p 24]) (tmps : Array Value) (w : World) (g : Nat) (t : TypeId) (x y z : Value)
    (hp : tmps.getD p undef = .pointer (some ⟨g, 0, none⟩)) (hg : w.heap[g]? = some (.cells #[x, y, z] t (0, 0))) :
    (results fn tmps).run Tryd.prog w = .ok (.agg #[x, y, z]) w :=
  results_cell_row (P := Tryd.prog) h tmps w g t _ (0, 0) _ hp hg Tryd.underlying24 rfl size_store

theorem loc_up {w W : World} {A A' : Option Addr} {n n' : Nat} (h : Loc A n A' n' W) (hW : w.heap.size ≤ W.heap.size) : Loc A n A' n' w := h.imp id fun h a ha => Nat.le_trans hW (h a ha)
theorem far_loc {w W : World} {A A' : Option Addr} {n n' c hi : Nat} {l : List Int} (hb : Bts w A n c l) (h : Loc A n A' n' W) (hW : hi ≤ W.heap.size) : Far A' n' w.heap.size hi := fun a ha hn => by
  rcases h with ⟨rfl, h⟩ | h
  · exact hb.far hi a ha (by omega)
  · exact .inr (Nat.le_trans hW (h a ha))
theorem below_at {B g : Nat} {w0 w : World} (h : Below B w0 w) (hg : B ≤ g) (i : Nat) (v : Value) : Below B w0 (w.setCell ⟨g, i, none⟩ v) := h.setCell hg v
set_option maxHeartbeats 1000000 in
theorem fcut_any (s : Sp) (A : Option Addr) (n c : Nat) (k : Int) (w : World) (hb : Bts w A n c s.data) :
    Calls Tryd.prog 42 #[s.val A n c, .int .i64 k] w (GSE (fcutP s k) A n w) := by
  obtain ⟨cap, data, sure⟩ := s
  simp only at hb
  unfold Sp.val
  simp only
  have hn := hb.small
  have HLL := Lib.hid hb.len
  by_cases h1 : k < 0
  · have HR := Lib.hid (show fcutP ⟨cap, data, sure⟩ k = (⟨cap, data, sure⟩, 1) from by rw [fcutP, if_pos (.inl h1)])
    have HB := Lib.hid hb
    clear hb
    go_enter Tryd.func42, Tryd.ntmps42
    go_wp2
    refine bodyPost_ret (v := .tuple #[.agg #[.int .i64 cap, .slice A n c, .int .i64 sure], .int .i64 1]) ?_ ?_ ?_
    · exact ret_file Tryd.results42 _ _ (w.heap.size + 1) 83 _ _ _ _ rfl (heap_alloc2_new w _ _) rfl
    · rfl
    · rw [HR.out]
      exact ⟨A, n, c, rfl, HB.out.below (two_below _ _ _), .inl ⟨rfl, Nat.le_refl _⟩, two_below _ _ _⟩
  · by_cases h2 : (n : Int) < k
    · have HR := Lib.hid (show fcutP ⟨cap, data, sure⟩ k = (⟨cap, data, sure⟩, 1) from by rw [fcutP, if_pos (.inr (by simp only; rw [HLL.out]; exact h2))])
      have HB := Lib.hid hb
      clear hb
      go_enter Tryd.func42, Tryd.ntmps42
      go_wp2
      refine bodyPost_ret (v := .tuple #[.agg #[.int .i64 cap, .slice A n c, .int .i64 sure], .int .i64 1]) ?_ ?_ ?_
      · exact ret_file Tryd.results42 _ _ (w.heap.size + 1) 83 _ _ _ _ rfl (heap_alloc2_new w _ _) rfl
      · rfl
      · rw [HR.out]
        exact ⟨A, n, c, rfl, HB.out.below (two_below _ _ _), .inl ⟨rfl, Nat.le_refl _⟩, two_below _ _ _⟩
    · obtain ⟨j, rfl⟩ := Int.eq_ofNat_of_zero_le (show 0 ≤ k by omega)
      have hj : j ≤ n := by omega
      obtain ⟨hto, hbt⟩ := run_to hb (j : Int) (hi := j) rfl hj
      have HR := Lib.hid (show fcutP ⟨cap, data, sure⟩ (j : Int) = (⟨cap, data.take j, (j : Int)⟩, 0) from by rw [fcutP, if_neg (by simp only; rw [HLL.out]; omega)]; rfl)
      have HB := Lib.hid hbt
      clear hb hbt
      go_enter Tryd.func42, Tryd.ntmps42
      go_wp2
      refine bodyPost_ret (v := .tuple #[.agg #[.int .i64 cap, .slice A j c, .int .i64 (j : Int)], .int .i64 0]) ?_ ?_ ?_
      · exact ret_file Tryd.results42 _ _ (w.heap.size + 1) 83 _ _ _ _ rfl (heap_alloc2_new w _ _) rfl
      · rfl
      · rw [HR.out]
        exact ⟨A, j, c, rfl, HB.out.below (two_below _ _ _), .inl ⟨rfl, hj⟩, two_below _ _ _⟩
set_option maxHeartbeats 1000000 in
theorem fwrite_any (s : Sp) (b : List Int) (A B : Option Addr) (n c m d : Nat) (w : World) (hb : Bts w A n c s.data) (h2 : Bts w B m d b) (hm : mayP s = true) :
    Calls Tryd.prog 52 #[s.val A n c, .slice B m d] w (GSE (fwriteP s b) A n w) := by
  obtain ⟨cap, data, sure⟩ := s
  simp only at hb
  unfold Sp.val
  simp only
  have hn := hb.small
  have hn2 := h2.small
  have HLL := Lib.hid hb.len
  have HLB := Lib.hid h2.len
  obtain ⟨q1, q2, q3, q4, q5⟩ := mayT_iff.1 hm
  simp only [hb.len] at q1 q2 q3 q4 q5
  clear hm
  by_cases h1 : cap - n < m
  · have HR := Lib.hid (show fwriteP ⟨cap, data, sure⟩ b = (⟨cap, data, sure⟩, 12) from by rw [fwriteP, if_pos (by simp only; rw [HLL.out, HLB.out]; exact h1)])
    have HB := Lib.hid hb
    clear hb h2
    go_enter Tryd.func52, Tryd.ntmps52
    go_wp2
    refine bodyPost_ret (v := .tuple #[.agg #[.int .i64 cap, .slice A n c, .int .i64 sure], .int .i64 12]) ?_ ?_ ?_
    · exact ret_file Tryd.results52 _ _ (w.heap.size + 1) 83 _ _ _ _ rfl (heap_alloc2_new w _ _) rfl
    · rfl
    · rw [HR.out]
      exact ⟨A, n, c, rfl, HB.out.below (two_below _ _ _), .inl ⟨rfl, Nat.le_refl _⟩, two_below _ _ _⟩
  · have HR := Lib.hid (show fwriteP ⟨cap, data, sure⟩ b = (⟨cap, data ++ b, sure⟩, 0) from by rw [fwriteP, if_neg (by simp only; rw [HLL.out, HLB.out]; exact h1)])
    obtain ⟨hfull, hbf⟩ := run_full hb
    have HB := Lib.hid hb
    have HBF := Lib.hid hbf
    have HB2 := Lib.hid h2
    clear hb h2 hbf
    go_enter Tryd.func52, Tryd.ntmps52
    go_wp2_with (at_builtin
                 (with_reducible refine wpList_append_full rfl _ _ rfl A n data rfl (HBF.out.below (two_below _ _ _)) B m d b rfl (HB2.out.below (two_below _ _ _)) (by omega) ?_)
                 intro A' k c' w5 hk hb5 hat5 hbel5
                 have hbx5 : BoxT w5 w.heap.size 83 cap A n c sure := (after_two hbel5).2.2.1
                 have hbz5 : BoxT w5 (w.heap.size + 1) 83 0 none 0 0 0 := (after_two hbel5).2.2.2
                 obtain ⟨x0, x1, x2⟩ := hbx5.cells
                 obtain ⟨z0, z1, z2⟩ := hbz5.cells
                 have f0 := hbx5.free 0
                 have f1 := hbx5.free 1
                 have f2 := hbx5.free 2
                 have g0 := hbz5.free 0
                 have g1 := hbz5.free 1
                 have g2 := hbz5.free 2
                 have HB5 := Lib.hid hb5
                 have HF := Lib.hid (far_full HBF.out hat5).two
                 have HBZ := Lib.hid hbz5
                 have HLO := Lib.hid (loc_up (w := w) (hat5.imp (fun h => ⟨h.1, Nat.le_of_eq h.2⟩) id) (two_below _ _ _).size)
                 have HBE := Lib.hid (after_two hbel5).1
                 clear hb5 hat5 hbel5 hbx5 hbz5)
    have hlt1 := Nat.lt_succ_self (w.heap.size + 1)
    subst hk
    refine bodyPost_ret (v := .tuple #[.agg #[.int .i64 cap, .slice A' (n + m) c', .int .i64 sure], .int .i64 0]) ?_ ?_ ?_
    · exact ret_file Tryd.results52 _ _ (w.heap.size + 1) 83 _ _ _ _ rfl (set3_heap _ _ _ ((heap_setCell_other _ _ _ _ (by simp)).trans HBZ.out)) rfl
    · rfl
    · rw [HR.out]
      exact ⟨A', n + m, c', rfl, (HB5.out.set HF.out (Nat.le_refl _) (by omega) _).set3 HF.out (Nat.le_succ _) hlt1 _ _ _, HLO.out, set3_below (below_at HBE.out (Nat.le_refl _) _ _) (Nat.le_succ _) _ _ _⟩
set_option maxHeartbeats 1000000 in
theorem fcrash_any (s : Sp) (A : Option Addr) (n c : Nat) (keep : Int) (w : World) (hb : Bts w A n c s.data) (hm : mayP s = true) :
    Calls Tryd.prog 43 #[s.val A n c, .int .i64 keep] w (GSE (s.upto (keptP s keep).toNat, 0) A n w) := by
  obtain ⟨cap, data, sure⟩ := s
  simp only at hb
  unfold Sp.val
  simp only
  have hn := hb.small
  have HLL := Lib.hid hb.len
  obtain ⟨q1, q2, q3, q4, q5⟩ := mayT_iff.1 hm
  simp only [hb.len] at q1 q2 q3 q4 q5
  clear hm
  obtain ⟨j, hj⟩ := Int.eq_ofNat_of_zero_le (show 0 ≤ keptP ⟨cap, data, sure⟩ keep by simp only [keptP, hb.len]; omega)
  have hjn : j ≤ n := by simp only [keptP, hb.len] at hj; omega
  have hj2 : (j : Int) = sure + min (max keep 0) (n - sure) := by simp only [keptP, hb.len] at hj; omega
  have HR := Lib.hid (show (Sp.upto ⟨cap, data, sure⟩ (keptP ⟨cap, data, sure⟩ keep).toNat, (0 : Int)) = fcutP ⟨cap, data, sure⟩ (j : Int) from by rw [hj, fcutP, if_neg (by simp only [hb.len]; omega)])
  have HR2 := Lib.hid (show fcutP ⟨cap, data, sure⟩ (j : Int) = (⟨cap, data.take j, (j : Int)⟩, 0) from by rw [fcutP, if_neg (by simp only [hb.len]; omega)]; rfl)
  have HB := Lib.hid hb
  have HJ := Lib.hid hj2
  rw [HR.out]
  clear hb hj hj2
  have key : ∀ (W : World) (k : Int), k = j → Below w.heap.size w W → w.heap.size + 2 ≤ W.heap.size → Calls Tryd.prog 42 #[.agg #[.int .i64 cap, .slice A n c, .int .i64 sure], .int .i64 k] W fun e w' => ∃ A' n' c', e = .returned (.tuple #[.agg #[.int .i64 cap, .slice A' n' c', .int .i64 j], .int .i64 0]) ∧ Bts w' A' n' c' (data.take j) ∧ Far A' n' w.heap.size (w.heap.size + 2) ∧ Loc A n A' n' w ∧ Below W.heap.size W w' := fun W k hk hW h2 => by
    subst hk
    refine (fcut_any ⟨cap, data, sure⟩ A n c j W (HB.out.below hW)).mono ?_
    rintro e w' ⟨A', n', c', rfl, hb', hloc, hbel⟩
    rw [HR2.out] at hb' ⊢
    exact ⟨A', n', c', rfl, hb', far_loc HB.out hloc h2, loc_up hloc hW.size, hbel⟩
  have HK := Lib.hid key
  clear key
  go_enter Tryd.func43, Tryd.ntmps43
  go_wp2_with (go_at_call 42
               refine (HK.out _ _ ?hk (two_below _ _ _) (by simp)).mono ?_
               (case hk => have := HJ.out; omega)
               rintro e w5 ⟨A', n', c', rfl, hb5, hf5, hlo5, hbel5⟩
               have hbz5 : BoxT w5 (w.heap.size + 1) 83 0 none 0 0 0 := (after_two hbel5).2.2.2
               obtain ⟨z0, z1, z2⟩ := hbz5.cells
               have g0 := hbz5.free 0
               have g1 := hbz5.free 1
               have g2 := hbz5.free 2
               have HB5 := Lib.hid hb5
               have HF := Lib.hid hf5
               have HBZ := Lib.hid hbz5
               have HLO := Lib.hid hlo5
               have HBE := Lib.hid (after_two hbel5).1
               clear hb5 hf5 hlo5 hbel5 hbz5)
  all_goals
    refine bodyPost_ret (v := .tuple #[.agg #[.int .i64 cap, .slice A' n' c', .int .i64 (j : Int)], .int .i64 0]) ?_ ?_ ?_
    · exact ret_file Tryd.results43 _ _ (w.heap.size + 1) 83 _ _ _ _ rfl (set3_heap _ _ _ HBZ.out) rfl
    · rfl
    · rw [HR2.out]
      exact ⟨A', n', c', rfl, HB5.out.set3 HF.out (Nat.le_succ _) (Nat.lt_succ_self _) _ _ _, HLO.out, set3_below HBE.out (Nat.le_succ _) _ _ _⟩
end Go.Proofs.YtafmompplcaadaaDoor

/- The walks over the document's Sync, Cut, Crash and New of stores. -/
namespace Go.Proofs.YtafmompplcaadaaDoor
set_option maxRecDepth 100000
set_option linter.unusedVariables false
set_option linter.unusedSimpArgs false
open Go.RowKit

end Go.Proofs.YtafmompplcaadaaDoor

/- The walk over the document's Get of entries. -/
namespace Go.Proofs.YtafmompplcaadaaDoor
set_option maxRecDepth 100000
set_option linter.unusedVariables false
set_option linter.unusedSimpArgs false
open Go.RowKit

theorem wrap_nat {a : Nat} (h : a < 9223372036854775808) : IntKind.i64.wrap (a : Int) = a := by
  rw [IntKind.wrap_i64]; omega
theorem its_lit (w : World) (t : TypeId) : Its .i64 (w.alloc (.cells szC t)) (some ⟨w.heap.size, 0, none⟩) 9 9 szI :=
  ⟨rfl, Nat.le_refl _, by unfold maxLen; omega, (fun e => by cases e), fun _ => ⟨w.heap.size, 0, rfl, fun j hj => by
    rw [Nat.zero_add, cell_of_row _ _ _ _ _ _ (heap_alloc_new w _)]
    match j, hj with
    | 0, _ | 1, _ | 2, _ | 3, _ | 4, _ | 5, _ | 6, _ | 7, _ | 8, _ => rfl⟩⟩
end Go.Proofs.YtafmompplcaadaaDoor

/- The walk over the document's Read of bytes: entries, head, how many bytes. -/
namespace Go.Proofs.YtafmompplcaadaaDoor
set_option maxRecDepth 100000
set_option linter.unusedVariables false
set_option linter.unusedSimpArgs false
open Go.RowKit

/-- gives entries, a head, and a number -/
def GRd (L : List En) (Z : List Int) (m : Nat) (w : World) (e : Ending) (w' : World) : Prop := ∃ A n c, e = .returned (.tuple #[.slice A n c, .agg (idv Z), .int .i64 (62 * m)]) ∧ Ens w' A n c L ∧ Below w.heap.size w w'
/-- the same, and where the entries lie -/
def GRl (L : List En) (Z : List Int) (m : Nat) (w : World) (e : Ending) (w' : World) : Prop := ∃ A n c, e = .returned (.tuple #[.slice A n c, .agg (idv Z), .int .i64 (62 * m)]) ∧ Ens w' A n c L ∧ (∀ a, A = some a → w.heap.size ≤ a.block) ∧ Below w.heap.size w w'
theorem ownr_loc {w : World} {e : TypeId} {k b : Nat} {A : Option Addr} {n c : Nat} {l : List (List Value)} (h : OwnR e k w b (.slice A n c) l) : ∀ a, A = some a → b ≤ a.block := fun a ha => by subst ha; exact (h.size a.block rfl).1
def lenOf : Value → Nat
  | .slice _ n _ => n
  | _ => 0
theorem ownr_len {w : World} {e : TypeId} {k b : Nat} {v : Value} {l : List (List Value)} (h : OwnR e k w b v l) : lenOf v = l.length := by
  obtain ⟨A, n, c, rfl, hr⟩ := h.rws
  exact hr.len.symm
theorem one_alloc' {B : Nat} (w : World) (o : Obj) (h : B ≤ w.heap.size) : Below B w (w.alloc o) := (Below.refl _ w).alloc h o
theorem ownr_far {w : World} {e : TypeId} {k b g : Nat} {v : Value} {l : List (List Value)} (h : OwnR e k w b v l) (hg : g < b) : v.ownBlock = none ∨ v.ownBlock ≠ some g := by
  cases e : v.ownBlock with
  | none => exact .inl rfl
  | some k =>
    refine .inr (fun h2 => ?_)
    injection h2 with h2
    have := (h.size k e).1
    omega
end Go.Proofs.YtafmompplcaadaaDoor

/- The walk over the document's Open of a store. -/
namespace Go.Proofs.YtafmompplcaadaaDoor
set_option maxRecDepth 100000
set_option linter.unusedVariables false
set_option linter.unusedSimpArgs false
open Go.RowKit

theorem loc_far {w X : World} {A A' : Option Addr} {n n' c hi : Nat} {l : List Int} (hb : Bts w A n c l) (h : Loc A n A' n' X) (hX : hi ≤ X.heap.size) : Far A' n' w.heap.size hi := by
  rcases h with ⟨rfl, hn⟩ | h
  · exact (hb.far hi).part hn
  · exact fun a ha _ => .inr (Nat.le_trans hX (h a ha))
theorem blk_far {A : Option Addr} {n lo hi : Nat} {X : World} (h : ∀ a, A = some a → X.heap.size ≤ a.block) (hX : hi ≤ X.heap.size) : Far A n lo hi := fun a ha _ => .inr (Nat.le_trans hX (h a ha))
end Go.Proofs.YtafmompplcaadaaDoor
