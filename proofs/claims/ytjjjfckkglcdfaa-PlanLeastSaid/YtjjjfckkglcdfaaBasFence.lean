/- append onto a slice of numbers of the call's own, inside a fence. -/
import Derived.Test.YtjjjfckkglcdfaaBasStops
namespace Go.Proofs.Ytjjjfckkglcdfaa
set_option linter.unusedVariables false
open Go.RowKit

theorem wpListIn_append_i {F : Fence} {n : Nat} {P : Program} {w : World} {ops : Array Oper} {rest : List Oper} {o : Oper} {a : Act} {Q : Exit → Act → World → Prop} (hgd : o.guard = none) (t e : TypeId) (K : IntKind) (B : Nat) (s x : Operand)
    (ho : o.op = Op.call { callee := Callee.builtin Builtin.append, args := #[s, x], argTypes := #[t, t] }) (hu : P.underlying t = some (.slice e)) (hinfo : (P.info? e).map (fun i => (i.zero, i.size, i.bytes)) = some (some (.int K 0), 1, B)) (hB : B ≤ 8)
    (base : Nat) (v : Value) (l : List Int) (hs : a.eval s = v) (hown : OwnI K e w base v l) (ad : Addr) (m c : Nat) (l2 : List Int) (hx : a.eval x = .slice (some ad) m c) (hr : Its K w (some ad) m c l2)
    (hsmall : l.length + m ≤ 17592186044416) (hbase : base ≤ w.heap.size)
    (h : ∀ v' w', OwnI K e w' base v' (l ++ l2) → w.grownBy w' v.ownBlock → wpListIn F n P ops Q rest (a.put o.dst v') w') : wpListIn F n P ops Q (o :: rest) a w := by
  obtain ⟨i, hi, hz, h1, h2⟩ := info_parts hinfo
  have hl2 : (inv K l2).length = m * 1 := by rw [inv_length, hr.len, Nat.mul_one]
  have hb8 : (l.length + m) * B ≤ (l.length + m) * 8 := Nat.mul_le_mul_left _ hB
  refine wpListIn_append_own (P := P) w hgd s x t ho base e i (.int K 0) 1 B hu hi hz h1 h2 rfl (by omega) v l.length (inv K l) hs hown ad m c (inv K l2) hx hl2 ?_ (inv_one K l2) (by unfold maxLen; omega) (by omega) hbase ?_
  · intro j u hu'
    have hj : j < l2.length := by
      have := (List.getElem?_eq_some_iff.1 hu').1
      rwa [inv_length] at this
    rw [inv_get K l2 j hj] at hu'
    obtain ⟨b, off, hA, hc⟩ := hr.at_ (by have := hr.len; omega)
    injection hA with hA
    subst hA
    have hadd : (⟨b, off, none⟩ : Addr).add j = ⟨b, off + j, none⟩ := by
      unfold Addr.add
      split
      · rename_i h0; subst h0; rfl
      · rfl
    rw [hadd, hc j (by have := hr.len; omega), hu']
  · intro v' w' hown' hg _
    refine h v' w' ?_ hg
    unfold OwnI
    rw [inv_append, List.length_append, hr.len]
    exact hown'
end Go.Proofs.Ytjjjfckkglcdfaa
