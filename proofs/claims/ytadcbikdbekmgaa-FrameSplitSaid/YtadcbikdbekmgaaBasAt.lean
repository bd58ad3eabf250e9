/- append(v, s...) of bytes: the same as in BasBytes, and where it lies. -/
import Derived.Test.YtadcbikdbekmgaaBasInts
import Derived.Maps.AppendAt
namespace Go.Proofs.Ytadcbikdbekmgaa
open Go.RowKit

theorem wpList_append_b_at {w : World} {ops : Array Oper} {rest : List Oper} {o : Oper} {a : Act} {Q : Exit → Act → World → Prop} (hgd : o.guard = none) (s x : Operand)
    (ho : o.op = .call { callee := .builtin .append, args := #[s, x], argTypes := #[27, 27] })
    (base : Nat) (v : Value) (l : List Int) (hs : a.eval s = v) (hown : Own w base v l) (A : Option Addr) (m c : Nat) (l2 : List Int) (hx : a.eval x = .slice A m c) (hr : Bts w A m c l2)
    (hsmall : l.length + m ≤ 140737488355328) (hbase : base ≤ w.heap.size)
    (h : ∀ v' w', Own w' base v' (l ++ l2) → w.grownBy w' v.ownBlock → (v'.ownBlock = v.ownBlock ∨ v'.ownBlock = some w.heap.size) → wpList Try.prog ops Q rest (a.put o.dst v') w') : wpList Try.prog ops Q (o :: rest) a w := by
  obtain ⟨i, hi, hz, h1, h2⟩ := info_parts info_u8
  have hl2 : (byv l2).length = m * 1 := by rw [byv_length, hr.len, Nat.mul_one]
  rcases A with _ | ad
  · obtain rfl := hr.bare rfl
    have hm : m = 0 := by have := hr.le; omega
    subst hm
    obtain rfl : l2 = [] := List.eq_nil_of_length_eq_zero hr.len
    refine wpList_append_own_none hgd s x 27 ho base 5 i 1 Try.underlying27 hi v l.length (byv l) hs hown hx ?_
    exact h v w (by simpa using hown) (World.grownBy.refl w _) (.inl rfl)
  · refine wpList_append_own_at (P := Try.prog) w hgd s x 27 ho base 5 i (.int .u8 0) 1 1 Try.underlying27 hi hz h1 h2 rfl (by omega) v l.length (byv l) hs hown ad m c (byv l2) hx hl2 ?_ (byv_one l2) (by unfold maxLen; omega) (by omega) hbase ?_
    · intro j u hu
      have hj : j < l2.length := by
        have := (List.getElem?_eq_some_iff.1 hu).1
        rwa [byv_length] at this
      rw [byv_get l2 j hj] at hu
      obtain ⟨b, off, hA, hc⟩ := hr.at_ (by have := hr.len; omega)
      injection hA with hA
      subst hA
      have hadd : (⟨b, off, none⟩ : Addr).add j = ⟨b, off + j, none⟩ := by
        unfold Addr.add
        split
        · rename_i h0; subst h0; rfl
        · rfl
      rw [hadd, hc j (by have := hr.len; omega), hu]
    · intro v' w' hown' hg _ hat
      refine h v' w' ?_ hg hat
      unfold Own
      rw [byv_append, List.length_append, hr.len]
      exact hown'
end Go.Proofs.Ytadcbikdbekmgaa
