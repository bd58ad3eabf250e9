/- '==' between two stages. -/
import Derived.Test.YtjjjfckkglcdfaaPlnRFit
import Derived.Test.YtjjjfckkglcdfaaGrpInts
namespace Go.Proofs.Ytjjjfckkglcdfaa
set_option maxRecDepth 100000
set_option linter.unusedVariables false
set_option linter.unusedSimpArgs false
open Go.RowKit

theorem stg_part {P : Program} (t : TypeId) (k : IntKind) (cs : Array Value) (off : Nat) (v : Value) (h : P.underlying t = some (.int k)) (hv : cs[off]? = some v) (w : World) : (part t cs off).run P w = .ok v w := by
  simp [part, isAgg, run_underlying h, hv, go_sem]
theorem stg_fields {P : Program} {d : Nat} {xs ys : Array Value} {f : Field} {fs : List Field} {a b : Value} {r : Bool} {w : World} (hn : f.name ≠ "_") (ha : (part f.type xs f.offset).run P w = .ok a w) (hb : (part f.type ys f.offset).run P w = .ok b w) (he : (Op.equalIn d f.type a b).run P w = .ok r w) :
    (Op.eqFields d xs ys (f :: fs)).run P w = if r then (Op.eqFields d xs ys fs).run P w else .ok false w := by
  simp only [Op.eqFields, if_pos hn, Sem.run_bind, ha, hb, he, Result.andThen_ok]
  cases r <;> simp
theorem stg_if (r s : Bool) (w : World) : (if r then (Result.ok s w : Result Bool) else .ok false w) = .ok (r && s) w := by cases r <;> rfl
theorem eq_stgs (f g : Stg) (w : World) : (Op.equalIn 10000 36 (.agg #[.int .i64 f.g, .int .i64 f.mn, .int .i64 f.mx]) (.agg #[.int .i64 g.g, .int .i64 g.mn, .int .i64 g.mx])).run Try.prog w = .ok (decide (f = g)) w := by
  rw [run_equalIn_struct w 9999 36 _ _ (by kernel_rfl) (by kernel_rfl)]
  unfold Program.fieldsOf
  rw [Try.underlying36]
  have i3 := Try.underlying3
  dsimp only
  have hd : decide (f = g) = (f.g == g.g && (f.mn == g.mn && f.mx == g.mx)) := by
    rcases f with ⟨a0, a1, a2⟩
    rcases g with ⟨b0, b1, b2⟩
    rw [Bool.eq_iff_iff]
    simp
  rw [hd]
  rw [stg_fields (by decide) (stg_part _ _ _ _ (.int .i64 f.g) i3 rfl w) (stg_part _ _ _ _ (.int .i64 g.g) i3 rfl w) (run_equalIn_int w 9998 _ _ _ _ _ i3),
    stg_fields (by decide) (stg_part _ _ _ _ (.int .i64 f.mn) i3 rfl w) (stg_part _ _ _ _ (.int .i64 g.mn) i3 rfl w) (run_equalIn_int w 9998 _ _ _ _ _ i3),
    stg_fields (by decide) (stg_part _ _ _ _ (.int .i64 f.mx) i3 rfl w) (stg_part _ _ _ _ (.int .i64 g.mx) i3 rfl w) (run_equalIn_int w 9998 _ _ _ _ _ i3)]
  simp only [Op.eqFields, Sem.run_pure, stg_if, Bool.and_true]
theorem run_ne_stg {ρ : Operand → Value} {o : Oper} {x y : Operand} {f g : Stg} {w : World} (ho : o.op = .binOp .neq 36 x y 36) (hx : ρ x = .agg #[.int .i64 f.g, .int .i64 f.mn, .int .i64 f.mx]) (hy : ρ y = .agg #[.int .i64 g.g, .int .i64 g.mn, .int .i64 g.mx]) :
    (execOp ρ o).run Try.prog w = .ok (.value (.bool (!decide (f = g)))) w := by
  unfold execOp
  rw [ho]
  have hm : Try.prog.eqGuardType Try.prog.depth 36 = false := by kernel_rfl
  simp only [hx, hy, Sem.run_bind, run_eqGuard_agg (hm := hm), run_neq_struct, eq_stgs f g w, Result.andThen_ok, Sem.run_pure, Sem.run_map]
theorem ints_below (A B : Option Addr) (n c m d : Nat) (a b : List Int) (w : World) (ha : Its .i64 w A n c a) (hb : Its .i64 w B m d b) :
    Calls Try.prog 30 #[.slice A n c, .slice B m d] w fun e w' => e = .returned (.bool (a == b)) ∧ Below w.heap.size w w' :=
  (ints_any A B n c m d a b w ha hb).mono fun e w' ⟨h1, j, h2⟩ => ⟨h1, by rw [h2]; exact ⟨rfl, rfl, rfl, Nat.le_refl _, fun _ _ => rfl⟩⟩
end Go.Proofs.Ytjjjfckkglcdfaa
