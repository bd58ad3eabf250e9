/- copy into an array of bytes, whatever its type's name. -/
import Derived.Test.YtadcbikdbekmgaaBasBytes
namespace Go.Proofs.Ytadcbikdbekmgaa
open Go.RowKit

theorem wpList_copy_t (ty : TypeId) {w : World} {ops : Array Oper} {rest : List Oper} {o : Oper} {a : Act} {Q : Exit → Act → World → Prop} (hgd : o.guard = none) (d s : Operand)
    (ho : o.op = .call { callee := .builtin .copy, args := #[d, s], argTypes := #[27, 27] })
    (g n : Nat) (l : List Int) (hd : a.eval d = .slice (some ⟨g, 0, none⟩) n n) (hg : RowB w g ty l) (hl : l.length = n)
    (A : Option Addr) (m c : Nat) (k : List Int) (hs : a.eval s = .slice A m c) (hr : Bts w A m c k) (hm : m ≤ n) (B : Nat) (w0 : World) (hb : Below B w0 w) (hBg : B ≤ g)
    (h : ∀ w', RowB w' g ty (k ++ l.drop m) → Below B w0 w' → wpList Try.prog ops Q rest (a.put o.dst (goInt m)) w') : wpList Try.prog ops Q (o :: rest) a w := by
  have hkl := hr.len
  have hcl : (byv k).length = m := by rw [byv_length, hkl]
  refine wpList_copy_splice hgd d s 27 27 ho 5 Try.underlying27 (by kernel_rfl) (some ⟨g, 0, none⟩) A n n m c hd hs g 0 (byv l) ty hg (byv k) (by rw [hcl]; exact (show min m n = m from Nat.min_eq_left hm).symm) ?_ (by rw [hcl, byv_length]; omega) (byv_one k) B w0 hb hBg ?_
  · intro h0
    rw [hcl] at h0
    obtain ⟨b, off, hA, hc⟩ := hr.at_ h0
    refine ⟨rfl, ⟨b, off, none⟩, hA, fun j v hv => ?_⟩
    have hj : j < k.length := by
      have := (List.getElem?_eq_some_iff.1 hv).1
      rwa [byv_length] at this
    rw [byv_get k j hj] at hv
    have hadd : (⟨b, off, none⟩ : Addr).add j = ⟨b, off + j, none⟩ := by
      unfold Addr.add
      split
      · rename_i h0; subst h0; rfl
      · rfl
    rw [hadd, hc j (by omega), hv]
  · intro w' hw hB
    rw [hcl]
    refine h w' ?_ hB
    have h2 := hw.out
    unfold splice at h2
    rw [List.take_zero, List.nil_append, Nat.zero_add, hcl] at h2
    unfold RowB
    rw [h2]
    simp [idv, byv, List.map_drop]
end Go.Proofs.Ytadcbikdbekmgaa
