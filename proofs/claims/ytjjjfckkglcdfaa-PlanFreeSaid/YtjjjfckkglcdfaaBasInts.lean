/- Slices of numbers of any kind: what they read as; the call's own, and one more appended. -/
import Derived.Test.YtjjjfckkglcdfaaBasWorld
import Derived.Laws.AppendOwnNone
import Derived.Laws.OwnMore
import Derived.Laws.ResultCell
import Derived.Maps.AppendAt
namespace Go.Proofs.Ytjjjfckkglcdfaa
open Go.RowKit

/-- numbers of kind K, as cells -/
def inv (K : IntKind) (l : List Int) : List Value := l.map (Value.int K)
theorem inv_length (K : IntKind) (l : List Int) : (inv K l).length = l.length := by simp [inv]
theorem inv_get (K : IntKind) (l : List Int) (i : Nat) (h : i < l.length) : (inv K l)[i]? = some (.int K (l.getD i 0)) := by
  simp [inv, List.getD_eq_getElem?_getD, h]
theorem inv_append (K : IntKind) (l m : List Int) : inv K (l ++ m) = inv K l ++ inv K m := by simp [inv]
theorem inv_one (K : IntKind) (l : List Int) : ∀ u ∈ inv K l, u.oneCell' = true := by
  intro u hu
  simp only [inv, List.mem_map] at hu
  obtain ⟨x, _, rfl⟩ := hu
  rfl

/-- the slice value A, n, cap reads as the numbers l, of kind K -/
structure Its (K : IntKind) (w : World) (A : Option Addr) (n cap : Nat) (l : List Int) : Prop where
  len : l.length = n
  le : n ≤ cap
  max : cap ≤ maxLen
  bare : A = none → cap = 0
  at_ : 0 < n → ∃ b off, A = some ⟨b, off, none⟩ ∧ ∀ j, j < n → w.cell? ⟨b, off + j, none⟩ = some (.int K (l.getD j 0))
section
variable {K : IntKind} {w w' : World} {A : Option Addr} {n cap : Nat} {l : List Int}
theorem Its.below (h : Its K w A n cap l) (hb : Below w.heap.size w w') : Its K w' A n cap l := by
  refine ⟨h.len, h.le, h.max, h.bare, fun hn => ?_⟩
  obtain ⟨b, off, hA, hc⟩ := h.at_ hn
  exact ⟨b, off, hA, fun j hj => (hb.cell (p := ⟨b, off + j, none⟩) (block_lt_of_cell (hc j hj))).trans (hc j hj)⟩
theorem Its.draw (h : Its K w A n cap l) (k : Nat) : Its K (w.drewN k) A n cap l := ⟨h.len, h.le, h.max, h.bare, h.at_⟩
theorem Its.draw1 (h : Its K w A n cap l) : Its K w.drew A n cap l := ⟨h.len, h.le, h.max, h.bare, h.at_⟩
theorem Its.more (h : Its K w A n cap l) (o : Obj) : Its K (w.alloc o) A n cap l := h.below ((Below.refl _ _).alloc (Nat.le_refl _) _)
theorem Its.small (h : Its K w A n cap l) : n ≤ 9223372036854775807 := Nat.le_trans h.le (by have := h.max; unfold maxLen at this; omega)
theorem Its.grown {row : Option Nat} (h : Its K w A n cap l) (hg : w.grownBy w' row) (hne : ∀ b off, A = some ⟨b, off, none⟩ → some b ≠ row) : Its K w' A n cap l := by
  refine ⟨h.len, h.le, h.max, h.bare, fun hn => ?_⟩
  obtain ⟨b, off, hA, hc⟩ := h.at_ hn
  refine ⟨b, off, hA, fun j hj => ?_⟩
  rw [World.cell?_of_block (w := w) (a := ⟨b, off + j, none⟩) (hg.block b (block_lt_of_cell (hc j hj)) (hne b off hA))]
  exact hc j hj
end
theorem Its.nil (K : IntKind) (w : World) : Its K w none 0 0 [] := ⟨rfl, Nat.le_refl _, by unfold maxLen; omega, fun _ => rfl, fun h => by omega⟩

/-- a slice of numbers that the call made itself; e: the element's type -/
def OwnI (K : IntKind) (e : TypeId) (w : World) (base : Nat) (v : Value) (l : List Int) : Prop := w.ownsRow base e 1 v l.length (inv K l)
section
variable {K : IntKind} {e : TypeId} {w w' : World} {base : Nat} {v : Value} {l : List Int}
theorem OwnI.nil (K : IntKind) (e : TypeId) (w : World) (base : Nat) : OwnI K e w base (.slice none 0 0) [] := World.ownsRow_nil _ _ _ _
theorem OwnI.more (h : OwnI K e w base v l) (o : Obj) : OwnI K e (w.alloc o) base v l := World.ownsRow.alloc h o
theorem OwnI.draw1 (h : OwnI K e w base v l) : OwnI K e w.drew base v l := h
theorem OwnI.draw (h : OwnI K e w base v l) (k : Nat) : OwnI K e (w.drewN k) base v l := h
theorem OwnI.size (h : OwnI K e w base v l) : ∀ k, v.ownBlock = some k → base ≤ k ∧ k < w.heap.size := World.ownsRow.lt h
theorem OwnI.mono {b : Nat} (h : OwnI K e w base v l) (hb : b ≤ base) : OwnI K e w b v l := by
  refine ⟨h.1, ?_⟩
  rcases h.2 with h0 | ⟨g, cap, cur, hv, hg, rest⟩
  · exact .inl h0
  · exact .inr ⟨g, cap, cur, hv, Nat.le_trans hb hg, rest⟩
theorem OwnI.below (h : OwnI K e w base v l) (hb : Below w.heap.size w w') : OwnI K e w' base v l := by
  refine ⟨h.1, ?_⟩
  rcases h.2 with h0 | ⟨g, cap, cur, hv, hg, hh, rest⟩
  · exact .inl h0
  · exact .inr ⟨g, cap, cur, hv, hg, (hb.block g (Array.getElem?_eq_some_iff.1 hh).1).trans hh, rest⟩
theorem OwnI.far {row : Option Nat} (h : OwnI K e w base v l) (hg : w.grownBy w' row) (hne : v.ownBlock = none ∨ v.ownBlock ≠ row) : OwnI K e w' base v l := World.ownsRow.kept h hg hne
theorem OwnI.its (h : OwnI K e w base v l) : ∃ A n cap, v = .slice A n cap ∧ Its K w A n cap l := by
  rcases h.2 with ⟨hv, hn⟩ | ⟨g, cap, cur, hv, _, hh, hnc, hcm, hcs, htake⟩
  · obtain rfl : l = [] := List.eq_nil_of_length_eq_zero hn
    exact ⟨none, 0, 0, hv, Its.nil K w⟩
  · refine ⟨some ⟨g, 0, none⟩, l.length, cap, hv, rfl, hnc, hcm, (fun e => by cases e), fun hn => ⟨g, 0, rfl, fun j hj => ?_⟩⟩
    rw [Nat.zero_add, cell_of_row _ _ _ _ _ _ hh, ← inv_get K l j hj, ← htake, List.getElem?_take, if_pos (by omega)]
    simp
end

/-- append(v, s...): v the call's own, s whatever; t: the slice's type, e the element's, of B bytes -/
theorem wpList_append_i {P : Program} {w : World} {ops : Array Oper} {rest : List Oper} {o : Oper} {a : Act} {Q : Exit → Act → World → Prop} (hgd : o.guard = none) (t e : TypeId) (K : IntKind) (B : Nat) (s x : Operand)
    (ho : o.op = .call { callee := .builtin .append, args := #[s, x], argTypes := #[t, t] }) (hu : P.underlying t = some (.slice e)) (hinfo : (P.info? e).map (fun i => (i.zero, i.size, i.bytes)) = some (some (.int K 0), 1, B)) (hB : B ≤ 8)
    (base : Nat) (v : Value) (l : List Int) (hs : a.eval s = v) (hown : OwnI K e w base v l) (A : Option Addr) (m c : Nat) (l2 : List Int) (hx : a.eval x = .slice A m c) (hr : Its K w A m c l2)
    (hsmall : l.length + m ≤ 17592186044416) (hbase : base ≤ w.heap.size)
    (h : ∀ v' w', OwnI K e w' base v' (l ++ l2) → w.grownBy w' v.ownBlock → wpList P ops Q rest (a.put o.dst v') w') : wpList P ops Q (o :: rest) a w := by
  obtain ⟨i, hi, hz, h1, h2⟩ := info_parts hinfo
  have hl2 : (inv K l2).length = m * 1 := by rw [inv_length, hr.len, Nat.mul_one]
  rcases A with _ | ad
  · obtain rfl := hr.bare rfl
    have hm : m = 0 := by have := hr.le; omega
    subst hm
    obtain rfl : l2 = [] := List.eq_nil_of_length_eq_zero hr.len
    refine wpList_append_own_none hgd s x t ho base e i 1 hu hi v l.length (inv K l) hs hown hx ?_
    exact h v w (by simpa using hown) (World.grownBy.refl w _)
  · have hb8 : (l.length + m) * B ≤ (l.length + m) * 8 := Nat.mul_le_mul_left _ hB
    refine wpList_append_own (P := P) w hgd s x t ho base e i (.int K 0) 1 B hu hi hz h1 h2 rfl (by omega) v l.length (inv K l) hs hown ad m c (inv K l2) hx hl2 ?_ (inv_one K l2) (by unfold maxLen; omega) (by omega) hbase ?_
    · intro j u hu'
      have hj : j < l2.length := by
        have := (List.getElem?_eq_some_iff.1 hu').1
        rwa [inv_length] at this
      rw [inv_get K l2 j hj] at hu'
      obtain ⟨b, off, hA, hc⟩ := hr.at_ (by have := hr.len; omega)
      injection hA with hA
      subst hA
      have hadd : (⟨b, off, none⟩ : Addr).add j = ⟨b, off + j, none⟩ := by
        unfold Addr.add
        split
        · rename_i h0; subst h0; rfl
        · rfl
      rw [hadd, hc j (by have := hr.len; omega), hu']
    · intro v' w' hown' hg _
      refine h v' w' ?_ hg
      unfold OwnI
      rw [inv_append, List.length_append, hr.len]
      exact hown'
/-- the same, and where it lies: v the call's own, s whatever; t: the slice's type, e the element's, of B bytes -/
theorem wpList_append_i_at {P : Program} {w : World} {ops : Array Oper} {rest : List Oper} {o : Oper} {a : Act} {Q : Exit → Act → World → Prop} (hgd : o.guard = none) (t e : TypeId) (K : IntKind) (B : Nat) (s x : Operand)
    (ho : o.op = .call { callee := .builtin .append, args := #[s, x], argTypes := #[t, t] }) (hu : P.underlying t = some (.slice e)) (hinfo : (P.info? e).map (fun i => (i.zero, i.size, i.bytes)) = some (some (.int K 0), 1, B)) (hB : B ≤ 8)
    (base : Nat) (v : Value) (l : List Int) (hs : a.eval s = v) (hown : OwnI K e w base v l) (A : Option Addr) (m c : Nat) (l2 : List Int) (hx : a.eval x = .slice A m c) (hr : Its K w A m c l2)
    (hsmall : l.length + m ≤ 17592186044416) (hbase : base ≤ w.heap.size)
    (h : ∀ v' w', OwnI K e w' base v' (l ++ l2) → w.grownBy w' v.ownBlock → (v'.ownBlock = v.ownBlock ∨ v'.ownBlock = some w.heap.size) → wpList P ops Q rest (a.put o.dst v') w') : wpList P ops Q (o :: rest) a w := by
  obtain ⟨i, hi, hz, h1, h2⟩ := info_parts hinfo
  have hl2 : (inv K l2).length = m * 1 := by rw [inv_length, hr.len, Nat.mul_one]
  rcases A with _ | ad
  · obtain rfl := hr.bare rfl
    have hm : m = 0 := by have := hr.le; omega
    subst hm
    obtain rfl : l2 = [] := List.eq_nil_of_length_eq_zero hr.len
    refine wpList_append_own_none hgd s x t ho base e i 1 hu hi v l.length (inv K l) hs hown hx ?_
    exact h v w (by simpa using hown) (World.grownBy.refl w _) (.inl rfl)
  · have hb8 : (l.length + m) * B ≤ (l.length + m) * 8 := Nat.mul_le_mul_left _ hB
    refine wpList_append_own_at (P := P) w hgd s x t ho base e i (.int K 0) 1 B hu hi hz h1 h2 rfl (by omega) v l.length (inv K l) hs hown ad m c (inv K l2) hx hl2 ?_ (inv_one K l2) (by unfold maxLen; omega) (by omega) hbase ?_
    · intro j u hu'
      have hj : j < l2.length := by
        have := (List.getElem?_eq_some_iff.1 hu').1
        rwa [inv_length] at this
      rw [inv_get K l2 j hj] at hu'
      obtain ⟨b, off, hA, hc⟩ := hr.at_ (by have := hr.len; omega)
      injection hA with hA
      subst hA
      have hadd : (⟨b, off, none⟩ : Addr).add j = ⟨b, off + j, none⟩ := by
        unfold Addr.add
        split
        · rename_i h0; subst h0; rfl
        · rfl
      rw [hadd, hc j (by have := hr.len; omega), hu']
    · intro v' w' hown' hg _ hat
      refine h v' w' ?_ hg hat
      unfold OwnI
      rw [inv_append, List.length_append, hr.len]
      exact hown'
/-- make([]T, 0, n), T a number of kind K -/
theorem wpList_make_i {P : Program} {w : World} {ops : Array Oper} {rest : List Oper} {o : Oper} {a : Act} {Q : Exit → Act → World → Prop} (hgd : o.guard = none) (t e : TypeId) (K : IntKind) (B : Nat) (l c : Operand) (ho : o.op = Op.makeSlice t l c)
    (hu : P.underlying t = some (.slice e)) (hinfo : (P.info? e).map (fun i => (i.zero, i.size, i.bytes)) = some (some (.int K 0), 1, B)) (hB : B ≤ 8)
    (base : Nat) (C : Int) (n : Nat) (hl : a.eval l = .int .i64 0) (hc : a.eval c = .int .i64 C) (hC : C = (n : Int)) (hn : n ≤ 17592186044416) (hb : base ≤ w.heap.size)
    (h : ∀ v' w', OwnI K e w' base v' [] → w.grownBy w' none → wpList P ops Q rest (a.put o.dst v') w') : wpList P ops Q (o :: rest) a w := by
  obtain ⟨i, hi, hz, h1, h2⟩ := info_parts hinfo
  have hb8 : B * n ≤ 8 * n := Nat.mul_le_mul_right _ hB
  exact wpList_make_own w hgd l c t ho base e i (.int K 0) 1 hu hi hz h1 .i64 .i64 C n hl hc hC (by rw [h2]; omega) (by unfold maxLen; omega) hb
    (fun w' r1 r2 => h _ w' r1 r2)
/-- a literal of one number -/
theorem one_its (K : IntKind) (e : TypeId) (w : World) (x : Int) : Its K (w.alloc (.cells #[.int K x] e)) (some ⟨w.heap.size, 0, none⟩) 1 1 [x] := by
  refine ⟨rfl, Nat.le_refl _, by unfold maxLen; omega, (fun e => by cases e), fun _ => ⟨w.heap.size, 0, rfl, fun j hj => ?_⟩⟩
  obtain rfl : j = 0 := by omega
  exact (cell_of_row _ _ _ _ _ _ (heap_alloc_new w _)).trans rfl
/-- two slices that lie in blocks of their own -/
def Sep (a b : Value) : Prop := ∀ g, a.ownBlock = some g → b.ownBlock ≠ some g
theorem Sep.symm {a b : Value} (h : Sep a b) : Sep b a := fun g hb ha => h g ha hb
theorem Sep.nil (b : Value) : Sep (.slice none 0 0) b := fun g h => by simp [Value.ownBlock] at h
theorem Sep.row {a b : Value} (h : Sep a b) : a.ownBlock = none ∨ a.ownBlock ≠ b.ownBlock := by
  cases ha : a.ownBlock with
  | none => exact .inl rfl
  | some g => exact .inr fun e => h g ha e.symm
/-- one of them grows -/
theorem Sep.step {a a' b : Value} {n : Nat} (h : Sep a b) (hb : ∀ g, b.ownBlock = some g → g < n) (ha : a'.ownBlock = a.ownBlock ∨ a'.ownBlock = some n) : Sep a' b := by
  intro g hg hbg
  rcases ha with e | e
  · exact h g (e ▸ hg) hbg
  · rw [hg] at e
    have := hb g hbg
    injection e with e
    omega
end Go.Proofs.Ytjjjfckkglcdfaa
