/- The walk over the law TermEdge. -/
import Derived.Test.YtgldbjlifcfjlaaTrmPairF
namespace Go.Proofs.Ytgldbjlifcfjlaa
set_option linter.unusedVariables false
set_option linter.unusedSimpArgs false
open Go.RowKit

/-- a node of as many Args as told, all of them the same term -/
def manyT (kind n : Int) (M : Nat) (t : Te) : Te := .node kind n (List.replicate M t)
theorem sizes_rep (M : Nat) (t : Te) : Te.sizes (List.replicate M t) = M * t.size := by
  induction M with
  | zero => simp [Te.sizes]
  | succ M ih => rw [List.replicate_succ, Te.sizes, ih, Nat.succ_mul]; omega
theorem depths_rep (M : Nat) (t : Te) : Te.depths (List.replicate M t) ≤ t.depth := by
  induction M with
  | zero => simp [Te.depths]
  | succ M ih => rw [List.replicate_succ, Te.depths]; omega
theorem goods_rep (M : Nat) (t : Te) (h : t.good = true) : Te.goods (List.replicate M t) = true := by
  rw [Te.goods_iff]
  intro u hu
  rw [List.eq_of_mem_replicate hu]
  exact h
theorem many_small {kind n : Int} {M : Nat} {t : Te} (hM : M ≤ 3) (ht : t.size ≤ 20) : (manyT kind n M t).size ≤ 61 ∧ (manyT kind n M t).depth ≤ 62 := by
  have h1 := sizes_rep M t
  have h2 := depths_rep M t
  have h3 := Te.depth_le_size t
  have h4 : M * t.size ≤ 3 * 20 := Nat.mul_le_mul hM ht
  unfold manyT
  simp only [Te.size, Te.depth]
  omega
theorem many_no {kind n : Int} {M : Nat} {t : Te} (h : nodeB kind n M = false) : (manyT kind n M t).may = false ∧ (Te.node 2 0 [t, manyT kind n M t]).may = false := by
  have h1 : (manyT kind n M t).may = false := by
    unfold manyT Te.may Te.good
    rw [List.length_replicate, h]
    rfl
  refine ⟨h1, ?_⟩
  rw [pair_may 2 (.inl rfl), h1, Bool.and_false, Bool.false_and, Bool.false_and]
theorem many_yes {kind n : Int} {M : Nat} {t : Te} (h : nodeB kind n M = true) (ht : t.may = true) : (manyT kind n M t).may = (decide (((manyT kind n M t).size : Int) ≤ 60) && decide (((manyT kind n M t).depth : Int) ≤ 12)) := by
  have hg : t.good = true := by
    unfold Te.may at ht
    rw [Bool.and_eq_true, Bool.and_eq_true] at ht
    exact ht.1.1
  have h2 : (manyT kind n M t).good = true := by
    unfold manyT
    rw [Te.good, List.length_replicate, h, goods_rep M t hg]
    rfl
  unfold Te.may
  rw [h2, Bool.true_and]
  congr 1
  · rw [decide_eq_decide]; omega
  · rw [decide_eq_decide]; omega
/-- a node whose Args the call made itself: all of them the same term -/
theorem many_is {w : World} {base : Nat} {v : Value} {M : Nat} {t : Te} {k n kind nn : Int} {A : Option Addr} {m c : Nat} (hown : OwnR 24 3 w base v (List.replicate M [.int .i64 k, .int .i64 n, .slice A m c])) (ht : Is (fun _ => True) w t k n A m c) :
    ∃ A' m' c', v = .slice A' m' c' ∧ Is (fun _ => True) w (manyT kind nn M t) kind nn A' m' c' := by
  obtain ⟨A', m', c', rfl, hr⟩ := hown.rws
  refine ⟨A', m', c', rfl, ⟨.mk hr (fun _ _ _ => trivial) (by have := hr.len; simpa using this) fun i hi => ?_⟩⟩
  have hi' : i < M := by simpa using hi
  have e2 : (List.replicate M [Value.int .i64 k, .int .i64 n, .slice A m c]).getD i [] = [.int .i64 k, .int .i64 n, .slice A m c] := by simp [List.getD_eq_getElem?_getD, hi']
  rw [e2, List.getElem_replicate]
  exact ht.lies
end Go.Proofs.Ytgldbjlifcfjlaa
