/- '==' between two frames. -/
import Derived.Test.YtadcbikdbekmgaaFrmPure3
namespace Go.Proofs.Ytadcbikdbekmgaa
set_option linter.unusedVariables false
set_option linter.unusedSimpArgs false
open Go.RowKit

def eqFr (f g : Fr) : Bool := f.kind == g.kind && (f.user == g.user && (f.sess == g.sess && (f.cn == g.cn && (f.epoch == g.epoch && (f.count == g.count && (f.cmd == g.cmd && (f.arg == g.arg && f.tag == g.tag)))))))
theorem eqFr_iff (f g : Fr) : eqFr f g = true ↔ f = g := by
  rcases f with ⟨a0, a1, a2, a3, a4, a5, a6, a7, t⟩
  rcases g with ⟨b0, b1, b2, b3, b4, b5, b6, b7, u⟩
  simp [eqFr]
theorem eqFr_self (f : Fr) : eqFr f f = true := (eqFr_iff f f).2 rfl
theorem part_one {P : Program} (t : TypeId) (k : IntKind) (cs : Array Value) (off : Nat) (v : Value) (h : P.underlying t = some (.int k)) (hv : cs[off]? = some v) (w : World) : (part t cs off).run P w = .ok v w := by
  simp [part, isAgg, run_underlying h, hv, go_sem]
theorem part_tag (f : Fr) (hT : f.tag.length = 32) (w : World) : (part 24 (frA f) 8).run Try.prog w = .ok (.agg (idv f.tag)) w := by
  have hs : (sizeOf 24).run Try.prog w = .ok 32 w := by
    have hq : (Try.prog.info? 24).map (·.size) = some 32 := by kernel_rfl
    cases hi : Try.prog.info? 24 with
    | none => simp [hi] at hq
    | some i => simp [hi] at hq; simp [sizeOf, typeInfo, hi, hq]
  have he : (frA f).extract 8 (8 + 32) = idv f.tag := by
    have h8 : (frC f).drop 8 = byv f.tag := rfl
    have hl : (byv f.tag).length = 32 := by rw [byv_length, hT]
    unfold frA
    rw [List.extract_toArray, List.extract, h8, List.take_of_length_le (by omega)]
    rfl
  simp [part, isAgg, run_underlying Try.underlying24, hs, he, go_sem]
theorem fields_step {P : Program} {d : Nat} {xs ys : Array Value} {f : Field} {fs : List Field} {a b : Value} {r : Bool} {w : World} (hn : f.name ≠ "_") (ha : (part f.type xs f.offset).run P w = .ok a w) (hb : (part f.type ys f.offset).run P w = .ok b w) (he : (Op.equalIn d f.type a b).run P w = .ok r w) :
    (Op.eqFields d xs ys (f :: fs)).run P w = if r then (Op.eqFields d xs ys fs).run P w else .ok false w := by
  simp only [Op.eqFields, if_pos hn, Sem.run_bind, ha, hb, he, Result.andThen_ok]
  cases r <;> simp
theorem if_ok (r s : Bool) (w : World) : (if r then (Result.ok s w : Result Bool) else .ok false w) = .ok (r && s) w := by cases r <;> rfl
set_option maxHeartbeats 2000000 in
theorem eq_frames (f g : Fr) (hf : f.tag.length = 32) (hg : g.tag.length = 32) (w : World) : (Op.equalIn 10000 26 (.agg (frA f)) (.agg (frA g))).run Try.prog w = .ok (eqFr f g) w := by
  rw [run_equalIn_struct w 9999 26 _ _ (by kernel_rfl) (by kernel_rfl)]
  unfold Program.fieldsOf
  rw [Try.underlying26]
  have p := hasF f
  have q := hasF g
  have i3 := Try.underlying3
  have i22 := Try.underlying22
  have eT : ∀ w, (Op.equalIn 9999 24 (.agg (idv f.tag)) (.agg (idv g.tag))).run Try.prog w = .ok (f.tag == g.tag) w := fun w =>
    run_equalIn_ints w 9997 24 5 32 .u8 Try.underlying24 Try.underlying5 (size_of (by kernel_rfl)) f.tag g.tag hf hg
  dsimp only
  obtain ⟨X, hX⟩ : ∃ X, X = frA f := ⟨_, rfl⟩
  obtain ⟨Y, hY⟩ : ∃ Y, Y = frA g := ⟨_, rfl⟩
  have tf := part_tag f hf w
  have tg := part_tag g hg w
  rw [← hX] at p tf ⊢
  rw [← hY] at q tg ⊢
  rw [fields_step (by decide) (part_one _ _ _ _ _ i3 p.d0 w) (part_one _ _ _ _ _ i3 q.d0 w) (run_equalIn_int w 9998 _ _ _ _ _ i3),
    fields_step (by decide) (part_one _ _ _ _ _ i3 p.d1 w) (part_one _ _ _ _ _ i3 q.d1 w) (run_equalIn_int w 9998 _ _ _ _ _ i3),
    fields_step (by decide) (part_one _ _ _ _ _ i22 p.d2 w) (part_one _ _ _ _ _ i22 q.d2 w) (run_equalIn_int w 9998 _ _ _ _ _ i22),
    fields_step (by decide) (part_one _ _ _ _ _ i22 p.d3 w) (part_one _ _ _ _ _ i22 q.d3 w) (run_equalIn_int w 9998 _ _ _ _ _ i22),
    fields_step (by decide) (part_one _ _ _ _ _ i3 p.d4 w) (part_one _ _ _ _ _ i3 q.d4 w) (run_equalIn_int w 9998 _ _ _ _ _ i3),
    fields_step (by decide) (part_one _ _ _ _ _ i22 p.d5 w) (part_one _ _ _ _ _ i22 q.d5 w) (run_equalIn_int w 9998 _ _ _ _ _ i22),
    fields_step (by decide) (part_one _ _ _ _ _ i3 p.d6 w) (part_one _ _ _ _ _ i3 q.d6 w) (run_equalIn_int w 9998 _ _ _ _ _ i3),
    fields_step (by decide) (part_one _ _ _ _ _ i3 p.d7 w) (part_one _ _ _ _ _ i3 q.d7 w) (run_equalIn_int w 9998 _ _ _ _ _ i3),
    fields_step (by decide) tf tg (eT w)]
  simp only [Op.eqFields, Sem.run_pure, if_ok, Bool.and_true]
  rfl
end Go.Proofs.Ytadcbikdbekmgaa
