/- append(v[:n:n], s...) of bytes, whoever's v is; v[:n:n]. -/
import Derived.Test.YtoohcpckdkbngaaBasBytes
import Derived.ArgAppend
namespace Go.Proofs.Ytoohcpckdkbngaa
set_option linter.unusedVariables false
set_option linter.unusedSimpArgs false
open Go.RowKit

/-- the whole of it, without room behind -/
theorem run_full {w0 : World} {A : Option Addr} {n cap : Nat} {l : List Int} (hb : Bts w0 A n cap l) :
    (∀ w : World, (Instr.slice 22 (.slice A n cap) none (some (.int .i64 n)) (some (.int .i64 n))).run Try.prog w = .ok (.slice A n n) w) ∧ Bts w0 A n n l := by
  have hle := hb.le
  refine ⟨fun w => ?_, hb.len, Nat.le_refl _, Nat.le_trans hb.le hb.max, hb.ok, fun h => ?_, hb.at_⟩
  · rw [run_slice_hm (P := Try.prog) w 22 A n cap (by kernel_rfl) .i64 .i64 n n (by omega) (by omega) (by omega), size_u8]
    simp only [Result.andThen_ok, sliced, Int.toNat_natCast, Nat.zero_mul, Nat.sub_zero]
    have e : A.map (fun x => x.add 0) = A := by
      cases A with
      | none => rfl
      | some a => simp [Addr.add]
    rw [e]
    simp
  · have := hb.bare h
    omega
theorem run_append_zero (ty : TypeId) (A B : Option Addr) (n c : Nat) (w : World) : (Builtin.append_ #[22, 22] ty #[.slice A n n, .slice B 0 c]).run Try.prog w = .ok (.slice A n n) w := by
  obtain ⟨i, hi, hz, h1, h2⟩ := info_parts info_u8
  cases B with
  | none => cases A <;> simp [Builtin.append_, run_underlying Try.underlying22, sizeOf, typeInfo, hi, h1, Builtin.lenOf, run_firstCells_none, storeCells, Addr.add]
  | some b =>
    have hf := fun w => run_firstCells_some (P := Try.prog) w 1 0 b 0 c [] rfl (fun j v h => by simp at h)
    cases A <;> simp [Builtin.append_, run_underlying Try.underlying22, sizeOf, typeInfo, hi, h1, Builtin.lenOf, hf, storeCells, Addr.add]
/-- append(v, s...): v whoever's, without room behind -/
theorem wpList_append_full {w : World} {ops : Array Oper} {rest : List Oper} {o : Oper} {a : Act} {Q : Exit → Act → World → Prop} (hgd : o.guard = none) (s x : Operand)
    (ho : o.op = .call { callee := .builtin .append, args := #[s, x], argTypes := #[22, 22] })
    (A : Option Addr) (n : Nat) (l : List Int) (hs : a.eval s = .slice A n n) (hb : Bts w A n n l) (B : Option Addr) (m c : Nat) (l2 : List Int) (hx : a.eval x = .slice B m c) (hr : Bts w B m c l2)
    (hsmall : n + m ≤ 140737488355328)
    (h : ∀ A' k c' w', k = n + m → Bts w' A' k c' (l ++ l2) → ((A' = A ∧ k = n) ∨ ∀ a, A' = some a → w.heap.size ≤ a.block) → Below w.heap.size w w' → wpList Try.prog ops Q rest (a.put o.dst (.slice A' k c')) w') : wpList Try.prog ops Q (o :: rest) a w := by
  obtain ⟨i, hi, hz, h1, h2⟩ := info_parts info_u8
  by_cases hm : m = 0
  · subst hm
    obtain rfl : l2 = [] := List.eq_nil_of_length_eq_zero hr.len
    have hrun := run_append_zero o.type A B n c w
    refine wpList_plain hgd fun K hK => ?_
    unfold Oper.wp
    simp [execOp, ho, resolve, invoke, builtin, hs, hx, hrun, Result.andThen]
    exact hK _ _ (h A n n w rfl (by rw [List.append_nil]; exact hb) (.inl ⟨rfl, rfl⟩) (Below.refl _ _))
  · have hl2 : (byv l2).length = m * 1 := by rw [byv_length, hr.len, Nat.mul_one]
    have hl1 : (byv l).length = n * 1 := by rw [byv_length, hb.len, Nat.mul_one]
    obtain ⟨b, off, rfl, hc⟩ := hr.at_ (by omega)
    refine wpList_append_grows (P := Try.prog) w hgd s x 22 ho 5 i (.int .u8 0) 1 1 Try.underlying22 hi hz h1 h2 rfl (by omega) A n n (byv l) hs (fun e => by have := hb.bare e; omega) hl1 ?_ ⟨b, off, none⟩ m c (byv l2) hx hl2 ?_ (byv_one l2) (by omega) (by unfold maxLen; omega) (by omega) ?_
    · intro ad had j u hu
      have hj : j < l.length := by
        have := (List.getElem?_eq_some_iff.1 hu).1
        rwa [byv_length] at this
      rw [byv_get l j hj] at hu
      obtain ⟨b2, off2, hA, hc2⟩ := hb.at_ (by have := hb.len; omega)
      rw [hA] at had
      injection had with had
      subst had
      rw [add_addr, hc2 j (by have := hb.len; omega), hu]
    · intro j u hu
      have hj : j < l2.length := by
        have := (List.getElem?_eq_some_iff.1 hu).1
        rwa [byv_length] at this
      rw [byv_get l2 j hj] at hu
      rw [add_addr, hc j (by have := hr.len; omega), hu]
    · intro v' w' hown hg
      have ho2 : Own w' w.heap.size v' (l ++ l2) := by
        unfold Own
        rw [byv_append, List.length_append, hr.len, hb.len]
        exact hown
      obtain ⟨A', c', rfl, hb'⟩ := ho2.bts (ok_append hb.ok hr.ok)
      have e : (l ++ l2).length = n + m := by rw [List.length_append, hr.len, hb.len]
      rw [e] at hb'
      rw [show Value.slice A' (l ++ l2).length c' = .slice A' (n + m) c' from by rw [e]]
      exact h A' (n + m) c' w' rfl hb' (.inr fun a ha => by subst ha; exact (ho2.size _ rfl).1) ((Below.refl _ _).grown hg (Nat.le_refl _) (fun k hk => by cases hk))
/-- the bytes lie in none of these blocks -/
def Far (A : Option Addr) (n lo hi : Nat) : Prop := ∀ a, A = some a → 0 < n → a.block < lo ∨ hi ≤ a.block
theorem Bts.far {w : World} {A : Option Addr} {n c : Nat} {l : List Int} (h : Bts w A n c l) (hi : Nat) : Far A n w.heap.size hi := fun a ha hn => by
  obtain ⟨b, off, hA, hc⟩ := h.at_ hn
  rw [ha] at hA
  injection hA with hA
  subst hA
  exact .inl (block_lt_of_cell (hc 0 hn))
theorem Far.part {A : Option Addr} {n k lo hi : Nat} (h : Far A n lo hi) (hk : k ≤ n) : Far A k lo hi := fun a ha hn => h a ha (by omega)
theorem far_full {w : World} {A A' : Option Addr} {n k c hi : Nat} {l : List Int} (hb : Bts w A n c l) (h : (A' = A ∧ k = n) ∨ ∀ a, A' = some a → hi ≤ a.block) : Far A' k w.heap.size hi := fun a ha hn => by
  rcases h with ⟨rfl, rfl⟩ | h
  · exact hb.far hi a ha hn
  · exact .inr (h a ha)
theorem Bts.set {w : World} {A : Option Addr} {n c : Nat} {l : List Int} (h : Bts w A n c l) {lo hi g i : Nat} (hf : Far A n lo hi) (h1 : lo ≤ g) (h2 : g < hi) (v : Value) : Bts (w.setCell ⟨g, i, none⟩ v) A n c l :=
  ⟨h.len, h.le, h.max, h.ok, h.bare, fun hn => by
    obtain ⟨b, off, hA, hc⟩ := h.at_ hn
    refine ⟨b, off, hA, fun j hj => ?_⟩
    have hne : b ≠ g := by have := hf _ hA hn; simp only at this; omega
    rw [World.cell?_setCell_far _ _ _ _ (fun e => hne e.symm)]
    exact hc j hj⟩
theorem Far.two {w : World} {o1 o2 : Obj} {A : Option Addr} {n lo : Nat} (h : Far A n lo ((w.alloc o1).alloc o2).heap.size) : Far A n lo (w.heap.size + 2) := by
  have e : ((w.alloc o1).alloc o2).heap.size = w.heap.size + 2 := by simp
  rw [e] at h
  exact h
/-- three cells, overwritten -/
theorem set3_heap {w : World} {g : Nat} {t : TypeId} {a b c : Value} (x y z : Value) (h : w.heap[g]? = some (.cells #[a, b, c] t (0, 0))) :
    (((w.setCell ⟨g, 0, none⟩ x).setCell ⟨g, 1, none⟩ y).setCell ⟨g, 2, none⟩ z).heap[g]? = some (.cells #[x, y, z] t (0, 0)) :=
  heap_setCell_same _ _ _ _ _ _ (heap_setCell_same _ _ _ _ _ _ (heap_setCell_same _ _ _ _ _ _ h))
theorem set3_below {B : Nat} {w0 w : World} (h : Below B w0 w) {g : Nat} (hg : B ≤ g) (x y z : Value) : Below B w0 (((w.setCell ⟨g, 0, none⟩ x).setCell ⟨g, 1, none⟩ y).setCell ⟨g, 2, none⟩ z) := ((h.setCell hg x).setCell hg y).setCell hg z
theorem Bts.set3 {w : World} {A : Option Addr} {n c : Nat} {l : List Int} (h : Bts w A n c l) {lo hi g : Nat} (hf : Far A n lo hi) (h1 : lo ≤ g) (h2 : g < hi) (x y z : Value) : Bts (((w.setCell ⟨g, 0, none⟩ x).setCell ⟨g, 1, none⟩ y).setCell ⟨g, 2, none⟩ z) A n c l :=
  ((h.set hf h1 h2 x).set hf h1 h2 y).set hf h1 h2 z
end Go.Proofs.Ytoohcpckdkbngaa
