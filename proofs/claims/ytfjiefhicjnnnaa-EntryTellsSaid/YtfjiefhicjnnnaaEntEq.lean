/- '==' between two entries; a load out of a slice of entries. -/
import Derived.Test.YtfjiefhicjnnnaaEntMay
import Derived.Test.YtfjiefhicjnnnaaBasTake
namespace Go.Proofs.Ytfjiefhicjnnnaa
set_option linter.unusedVariables false
set_option linter.unusedSimpArgs false
open Go.RowKit

theorem ent_part {P : Program} (t : TypeId) (k : IntKind) (cs : Array Value) (off : Nat) (v : Value) (h : P.underlying t = some (.int k)) (hv : cs[off]? = some v) (w : World) : (part t cs off).run P w = .ok v w := by
  simp [part, isAgg, run_underlying h, hv, go_sem]
theorem ent_fields {P : Program} {d : Nat} {xs ys : Array Value} {f : Field} {fs : List Field} {a b : Value} {r : Bool} {w : World} (hn : f.name ≠ "_") (ha : (part f.type xs f.offset).run P w = .ok a w) (hb : (part f.type ys f.offset).run P w = .ok b w) (he : (Op.equalIn d f.type a b).run P w = .ok r w) :
    (Op.eqFields d xs ys (f :: fs)).run P w = if r then (Op.eqFields d xs ys fs).run P w else .ok false w := by
  simp only [Op.eqFields, if_pos hn, Sem.run_bind, ha, hb, he, Result.andThen_ok]
  cases r <;> simp
theorem ent_if (r s : Bool) (w : World) : (if r then (Result.ok s w : Result Bool) else .ok false w) = .ok (r && s) w := by cases r <;> rfl
set_option maxHeartbeats 2000000 in
theorem eq_ens (f g : En) (w : World) : (Op.equalIn 10000 25 (.agg (enA f)) (.agg (enA g))).run Try.prog w = .ok (decide (f = g)) w := by
  rw [run_equalIn_struct w 9999 25 _ _ (by kernel_rfl) (by kernel_rfl)]
  unfold Program.fieldsOf
  rw [Try.underlying25]
  have p := hasE f
  have q := hasE g
  have i3 := Try.underlying3
  have i22 := Try.underlying22
  have i23 := Try.underlying23
  dsimp only
  have hd : decide (f = g) = (f.kind == g.kind && (f.tick == g.tick && (f.epoch == g.epoch && (f.user == g.user && (f.sess == g.sess && (f.count == g.count && (f.cmd == g.cmd && (f.arg == g.arg && f.code == g.code)))))))) := by
    rcases f with ⟨a0, a1, a2, a3, a4, a5, a6, a7, a8⟩
    rcases g with ⟨b0, b1, b2, b3, b4, b5, b6, b7, b8⟩
    rw [Bool.eq_iff_iff]
    simp
  rw [hd]
  obtain ⟨X, hX⟩ : ∃ X, X = enA f := ⟨_, rfl⟩
  obtain ⟨Y, hY⟩ : ∃ Y, Y = enA g := ⟨_, rfl⟩
  rw [← hX] at p ⊢
  rw [← hY] at q ⊢
  rw [ent_fields (by decide) (ent_part _ _ _ _ _ i3 p.d0 w) (ent_part _ _ _ _ _ i3 q.d0 w) (run_equalIn_int w 9998 _ _ _ _ _ i3),
    ent_fields (by decide) (ent_part _ _ _ _ _ i3 p.d1 w) (ent_part _ _ _ _ _ i3 q.d1 w) (run_equalIn_int w 9998 _ _ _ _ _ i3),
    ent_fields (by decide) (ent_part _ _ _ _ _ i3 p.d2 w) (ent_part _ _ _ _ _ i3 q.d2 w) (run_equalIn_int w 9998 _ _ _ _ _ i3),
    ent_fields (by decide) (ent_part _ _ _ _ _ i3 p.d3 w) (ent_part _ _ _ _ _ i3 q.d3 w) (run_equalIn_int w 9998 _ _ _ _ _ i3),
    ent_fields (by decide) (ent_part _ _ _ _ _ i22 p.d4 w) (ent_part _ _ _ _ _ i22 q.d4 w) (run_equalIn_int w 9998 _ _ _ _ _ i22),
    ent_fields (by decide) (ent_part _ _ _ _ _ i22 p.d5 w) (ent_part _ _ _ _ _ i22 q.d5 w) (run_equalIn_int w 9998 _ _ _ _ _ i22),
    ent_fields (by decide) (ent_part _ _ _ _ _ i3 p.d6 w) (ent_part _ _ _ _ _ i3 q.d6 w) (run_equalIn_int w 9998 _ _ _ _ _ i3),
    ent_fields (by decide) (ent_part _ _ _ _ _ i3 p.d7 w) (ent_part _ _ _ _ _ i3 q.d7 w) (run_equalIn_int w 9998 _ _ _ _ _ i3),
    ent_fields (by decide) (ent_part _ _ _ _ _ i23 p.d8 w) (ent_part _ _ _ _ _ i23 q.d8 w) (run_equalIn_int w 9998 _ _ _ _ _ i23)]
  simp only [Op.eqFields, Sem.run_pure, ent_if, Bool.and_true]
theorem run_eq_en {op : BinOp} {ρ : Operand → Value} {o : Oper} {x y : Operand} {xs ys : Array Value} {E r : Bool} {w : World} (ho : o.op = .binOp op 25 x y 25) (hx : ρ x = .agg xs) (hy : ρ y = .agg ys) (hr : op = .eql ∧ r = E ∨ op = .neq ∧ r = !E)
    (h : (Op.equalIn 10000 25 (.agg xs) (.agg ys)).run Try.prog w = .ok E w) : (execOp ρ o).run Try.prog w = .ok (.value (.bool r)) w := by
  unfold execOp
  rw [ho]
  have hm : Try.prog.eqGuardType Try.prog.depth 25 = false := by kernel_rfl
  rcases hr with ⟨rfl, rfl⟩ | ⟨rfl, rfl⟩
  · simp only [hx, hy, Sem.run_bind, run_eqGuard_agg (hm := hm), run_eql_struct, h, Result.andThen_ok, Sem.run_pure, Sem.run_map]
  · simp only [hx, hy, Sem.run_bind, run_eqGuard_agg (hm := hm), run_neq_struct, h, Result.andThen_ok, Sem.run_pure, Sem.run_map]
theorem wpList_eq_en {ops : Array Oper} {rest : List Oper} {o : Oper} {a : Act} {w : World} {Q : Exit → Act → World → Prop} (op : BinOp) (x y : Operand) (ho : o.op = .binOp op 25 x y 25) (xs ys : Array Value) (hx : a.eval x = .agg xs) (hy : a.eval y = .agg ys) (E r : Bool) (hr : op = .eql ∧ r = E ∨ op = .neq ∧ r = !E)
    (hE : ∀ w, (Op.equalIn 10000 25 (.agg xs) (.agg ys)).run Try.prog w = .ok E w) (h : wpList Try.prog ops Q rest (a.put o.dst (.bool r)) w) (hw : Region.wanted o (yielded ops a.tmps) = true) : wpList Try.prog ops Q (o :: rest) a w :=
  wpList_step fun K hK => by
    rw [if_pos hw]
    unfold Oper.wp
    rw [run_eq_en ho hx hy hr (hE w)]
    exact hK _ _ h
theorem run_load_en {ρ : Operand → Value} {o : Oper} {x : Operand} {b off : Nat} {u : En} {w : World} (ho : o.op = .load 25 x) (hx : ρ x = .pointer (some ⟨b, off, none⟩)) (hc : w.rangeAt b off u.row) : (execOp ρ o).run Try.prog w = .ok (.value (.agg (enA u))) w := by
  unfold execOp
  have hi : (Try.prog.info? 25).map (·.size) = some u.row.length := by rw [row_len]; kernel_rfl
  simp only [ho, hx, Instr.loadAt, Instr.sureAddr, Sem.run_bind, Sem.run_pure, Result.andThen_ok, run_loadVar_mid w b off 25 u.row _ hc Try.underlying25 rfl hi]
  rfl
/-- one of them, as it lies -/
theorem Ens.range {w : World} {A : Option Addr} {n c : Nat} {l : List En} (h : Ens w A n c l) (j : Nat) (hj : j < n) : ∃ b off u, A = some ⟨b, off, none⟩ ∧ l[j]? = some u ∧ w.rangeAt b (off + j * 9) u.row := by
  obtain ⟨b, off, hA, hc⟩ := h.rws.at_ (by omega)
  have hl : j < l.length := by rw [h.len]; exact hj
  have hr : (l.map En.row).getD j [] = l[j].row := by simp [List.getD_eq_getElem?_getD, hl]
  refine ⟨b, off, l[j], hA, by simp [hl], fun i v hv => ?_⟩
  have hi : i < 9 := (List.getElem?_eq_some_iff.1 hv).1
  have := hc j hj i hi
  rw [hr, List.getD_eq_getElem?_getD, hv] at this
  exact this
end Go.Proofs.Ytfjiefhicjnnnaa
