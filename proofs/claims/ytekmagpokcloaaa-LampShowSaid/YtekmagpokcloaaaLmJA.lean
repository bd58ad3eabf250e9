/- Joined texts: Worlds: what a call leaves as it was; blocks behind new blocks; cells that are overwritten. Slices of numbers of any kind: what they read as; the call's own, and one more appended. Groups, plainly: sets as numbers, matrices, which groups conflict, the greatest free sets, the groups of a set. What the laws of groups ask, plainly. Slices whose elements are rows of k cells (structs, or one cell): what they read as; the call's own; append. -/
import Derived.Test.YtekmagpokcloaaaRows
import Derived.WalkKit
import Derived.WalkSpells
import Derived.WalkLawsBesides
import Derived.Deep.QuietTactic
import Derived.BigQuiet
import Derived.StillTailTactics
import Derived.Lib.Hide
import Derived.Laws.CopyOwn
import Derived.OwnWalk
import Derived.Deep.MidRow
import Derived.Deep.RegionHeld3
import Derived.Laws.AppendOwnNone
import Derived.Laws.OwnMore
import Derived.Laws.ResultCell
import Derived.Maps.AppendAt
import Derived.Laws.BitsAllLaws
/- Worlds: what a call leaves as it was; blocks behind new blocks; cells that are overwritten. -/
namespace Go.Proofs.Ytekmagpokcloaaa
open Go.RowKit

/-- a call behind two new blocks: what is left of them -/
theorem after_two {w w1 : World} {o1 o2 : Obj} (h : Below ((w.alloc o1).alloc o2).heap.size ((w.alloc o1).alloc o2) w1) :
    Below w.heap.size w w1 ∧ w.heap.size + 2 ≤ w1.heap.size ∧ w1.heap[w.heap.size]? = some o1 ∧ w1.heap[w.heap.size + 1]? = some o2 := by
  have hs : ((w.alloc o1).alloc o2).heap.size = w.heap.size + 2 := by simp
  have hb : Below w.heap.size w ((w.alloc o1).alloc o2) := ((Below.refl _ _).alloc (Nat.le_refl _) _).alloc (by simp) _
  rw [hs] at h
  exact ⟨hb.trans (h.mono (by omega)), by have := h.size; omega, (h.block _ (by omega)).trans (heap_alloc2_old w _ _), (h.block _ (by omega)).trans (heap_alloc2_new w _ _)⟩
theorem after_one {w w1 : World} {o1 : Obj} (h : Below (w.alloc o1).heap.size (w.alloc o1) w1) :
    Below w.heap.size w w1 ∧ w.heap.size + 1 ≤ w1.heap.size ∧ w1.heap[w.heap.size]? = some o1 := by
  have hs : (w.alloc o1).heap.size = w.heap.size + 1 := by simp
  have hb : Below w.heap.size w (w.alloc o1) := (Below.refl _ _).alloc (Nat.le_refl _) _
  rw [hs] at h
  exact ⟨hb.trans (h.mono (by omega)), by have := h.size; omega, (h.block _ (by omega)).trans (heap_alloc_new w _)⟩
theorem two_below (w : World) (o1 o2 : Obj) : Below w.heap.size w ((w.alloc o1).alloc o2) := ((Below.refl _ _).alloc (Nat.le_refl _) _).alloc (by simp) _
theorem below_draw {w w' : World} (h : Below w.drew.heap.size w.drew w') : Below w.heap.size w w' := (Below.refl _ w).drew.trans h
theorem Below.grows {B g : Nat} {w w1 w2 : World} (h : Below B w w1) (hg : w1.grownBy w2 (some g)) (hB : B ≤ w1.heap.size) (hr : B ≤ g) : Below B w w2 :=
  h.grown hg hB (fun k e => by injection e with e; omega)
theorem ne_some {a b : Nat} (h : a ≠ b) : some a ≠ some b := fun e => h (Option.some.inj e)
theorem grown_setRow (w : World) (g : Nat) (cs : Array Value) : w.grownBy (w.setRow g cs) (some g) :=
  ⟨rfl, rfl, rfl, by simp, fun k _ hk => setRow_other w g k _ (fun e => hk (by rw [e]))⟩
theorem three_below (w : World) (o1 o2 o3 : Obj) : Below w.heap.size w (((w.alloc o1).alloc o2).alloc o3) := (two_below w o1 o2).alloc (by simp; omega) _
theorem size_le_alloc (w : World) (o : Obj) : w.heap.size ≤ (w.alloc o).heap.size := by simp
/-- a world of three new blocks, under a name -/
theorem named_three {w W : World} {o1 o2 o3 : Obj} (h : ((w.alloc o1).alloc o2).alloc o3 = W) :
    Below w.heap.size w W ∧ w.heap.size + 3 = W.heap.size ∧ W.heap[w.heap.size]? = some o1 ∧ W.heap[w.heap.size + 1]? = some o2 := by
  subst h
  have hs2 : ((w.alloc o1).alloc o2).heap.size = w.heap.size + 2 := by simp
  refine ⟨three_below w o1 o2 o3, by simp, ?_, ?_⟩
  · exact (Below.heap_alloc _ _ _ (by omega)).trans (heap_alloc2_old w _ _)
  · exact (Below.heap_alloc _ _ _ (by omega)).trans (heap_alloc2_new w _ _)
/-- a call behind three new blocks: what is left of them -/
theorem after_3 {w w1 : World} {o1 o2 o3 : Obj} (h : Below (((w.alloc o1).alloc o2).alloc o3).heap.size (((w.alloc o1).alloc o2).alloc o3) w1) :
    Below w.heap.size w w1 ∧ w.heap.size + 3 ≤ w1.heap.size ∧ w1.heap[w.heap.size]? = some o1 ∧ w1.heap[w.heap.size + 1]? = some o2 ∧ w1.heap[w.heap.size + 2]? = some o3 := by
  have hs : (((w.alloc o1).alloc o2).alloc o3).heap.size = w.heap.size + 3 := by simp
  have hs2 : ((w.alloc o1).alloc o2).heap.size = w.heap.size + 2 := by simp
  rw [hs] at h
  refine ⟨(three_below w o1 o2 o3).trans (h.mono (by omega)), by have := h.size; omega, (h.block _ (by omega)).trans ?_, (h.block _ (by omega)).trans ?_, (h.block _ (by omega)).trans ?_⟩
  · exact (Below.heap_alloc _ _ _ (by omega)).trans (heap_alloc2_old w _ _)
  · exact (Below.heap_alloc _ _ _ (by omega)).trans (heap_alloc2_new w _ _)
  · rw [← hs2]
    exact heap_alloc_new _ _
/-- whole cells of a block, overwritten -/
theorem setCells_heap (g : Nat) (t : TypeId) : ∀ (vs : List Value) (o : Nat) (w : World) (cs : List Value), w.heap[g]? = some (.cells cs.toArray t (0, 0)) → o + vs.length ≤ cs.length →
    (w.setCells g o vs).heap[g]? = some (.cells (cs.take o ++ vs ++ cs.drop (o + vs.length)).toArray t (0, 0))
  | [], o, w, cs, h, _ => by
    simp only [World.setCells, List.append_nil, List.length_nil, Nat.add_zero, List.take_append_drop]
    exact h
  | v :: r, o, w, cs, h, hl => by
    have h1 := heap_setCell_same w g o cs.toArray t v h
    simp only [List.setIfInBounds_toArray] at h1
    have h2 := setCells_heap g t r (o + 1) (w.setCell ⟨g, o, none⟩ v) (cs.set o v) h1 (by simp at hl ⊢; omega)
    rw [World.setCells, h2]
    congr 2
    have ho : o < cs.length := by simp at hl; omega
    rw [List.take_set, List.drop_set_of_lt (by omega)]
    have e1 : (cs.take (o + 1)).set o v = cs.take o ++ [v] := by
      rw [List.take_succ_eq_append_getElem ho, List.set_append_right _ _ (by simp; omega)]
      simp [List.length_take, Nat.min_eq_left (Nat.le_of_lt ho)]
    rw [e1]
    simp [List.append_assoc, Nat.add_comm, Nat.add_left_comm]
theorem setCells_all {g : Nat} {t : TypeId} {vs cs : List Value} {w : World} (h : w.heap[g]? = some (.cells cs.toArray t (0, 0))) (hl : vs.length = cs.length) :
    (w.setCells g 0 vs).heap[g]? = some (.cells vs.toArray t (0, 0)) := by
  rw [setCells_heap g t vs 0 w cs h (by omega)]
  congr 2
  rw [List.take_zero, List.nil_append, Nat.zero_add, hl, List.drop_length, List.append_nil]
theorem setCells_below {B : Nat} {w0 : World} {g : Nat} (hg : B ≤ g) : ∀ (vs : List Value) (o : Nat) (w : World), Below B w0 w → Below B w0 (w.setCells g o vs)
  | [], _, _, h => h
  | v :: r, o, _, h => setCells_below hg r (o + 1) _ (h.setCell hg v)
theorem setCells_off {g k : Nat} (hk : k ≠ g) : ∀ (vs : List Value) (o : Nat) (w : World), (w.setCells g o vs).heap[k]? = w.heap[k]?
  | [], _, _ => rfl
  | _ :: r, o, _ => (setCells_off hk r (o + 1) _).trans (heap_setCell_other _ _ _ _ hk)
theorem there_of {w : World} {g : Nat} {t : TypeId} {cs : Array Value} (h : w.heap[g]? = some (.cells cs t (0, 0))) {n : Nat} (hn : cs.size = n) : w.there g 0 n := by
  intro j hj
  rw [Nat.zero_add]
  exact ⟨by rw [cell_of_row _ _ _ _ _ _ h]; simp; omega, frozen_of_row _ _ j _ _ h⟩
/-- a world of one new block, under a name -/
theorem named_one {w W : World} {o1 : Obj} (h : w.alloc o1 = W) : Below w.heap.size w W ∧ w.heap.size + 1 = W.heap.size ∧ W.heap[w.heap.size]? = some o1 := by
  subst h
  exact ⟨(Below.refl _ _).alloc (Nat.le_refl _) _, by simp, heap_alloc_new w _⟩
theorem below_then {B : Nat} {w W w' : World} (h : Below B w W) (hB : B ≤ W.heap.size) (hb : Below W.heap.size W w') : Below B w w' := h.trans (hb.mono hB)
theorem drew_alloc (w : World) (o : Obj) : Below w.heap.size w (w.drew.alloc o) := ((Below.refl _ w).drew).alloc (Nat.le_refl _) o
theorem one_alloc (w : World) (o : Obj) : Below w.heap.size w (w.alloc o) := (Below.refl _ w).alloc (Nat.le_refl _) o
theorem after_drew {w w1 : World} {o1 : Obj} (h : Below (w.drew.alloc o1).heap.size (w.drew.alloc o1) w1) : w1.heap[w.heap.size]? = some o1 := (after_one (w := w.drew) h).2.2
theorem after_alloc {w w1 : World} {o1 : Obj} (h : Below (w.alloc o1).heap.size (w.alloc o1) w1) : w1.heap[w.heap.size]? = some o1 := (after_one h).2.2
theorem mac_alloc (w : World) (o : Obj) : Below w.heap.size w (w.alloc o) := (Below.refl _ w).alloc (Nat.le_refl _) o
theorem size_next (w : World) (o : Obj) : (w.alloc o).heap.size = w.heap.size + 1 := by simp
theorem mac_one (w : World) (o : Obj) : Below w.heap.size w (w.alloc o) := (Below.refl _ w).alloc (Nat.le_refl _) o
theorem size_next1 (w : World) (o : Obj) : (w.alloc o).heap.size = w.heap.size + 1 := by simp
theorem size_two (w : World) (o1 o2 : Obj) : w.heap.size + 1 ≤ ((w.alloc o1).alloc o2).heap.size ∧ w.heap.size < ((w.alloc o1).alloc o2).heap.size := by
  simp; omega
theorem ret_bool {a b : Bool} (h : a = b) : Ending.returned (.bool a) = .returned (.bool b) := by rw [h]
theorem ret_int {a b : Int} (h : a = b) : Ending.returned (.int .i64 a) = .returned (.int .i64 b) := by rw [h]
end Go.Proofs.Ytekmagpokcloaaa

/- Slices of numbers of any kind: what they read as; the call's own, and one more appended. -/
namespace Go.Proofs.Ytekmagpokcloaaa
open Go.RowKit

/-- numbers of kind K, as cells -/
def inv (K : IntKind) (l : List Int) : List Value := l.map (Value.int K)
theorem inv_length (K : IntKind) (l : List Int) : (inv K l).length = l.length := by simp [inv]
theorem inv_get (K : IntKind) (l : List Int) (i : Nat) (h : i < l.length) : (inv K l)[i]? = some (.int K (l.getD i 0)) := by
  simp [inv, List.getD_eq_getElem?_getD, h]
theorem inv_append (K : IntKind) (l m : List Int) : inv K (l ++ m) = inv K l ++ inv K m := by simp [inv]
theorem inv_one (K : IntKind) (l : List Int) : ∀ u ∈ inv K l, u.oneCell' = true := by
  intro u hu
  simp only [inv, List.mem_map] at hu
  obtain ⟨x, _, rfl⟩ := hu
  rfl

/-- the slice value A, n, cap reads as the numbers l, of kind K -/
structure Its (K : IntKind) (w : World) (A : Option Addr) (n cap : Nat) (l : List Int) : Prop where
  len : l.length = n
  le : n ≤ cap
  max : cap ≤ maxLen
  bare : A = none → cap = 0
  at_ : 0 < n → ∃ b off, A = some ⟨b, off, none⟩ ∧ ∀ j, j < n → w.cell? ⟨b, off + j, none⟩ = some (.int K (l.getD j 0))
section
variable {K : IntKind} {w w' : World} {A : Option Addr} {n cap : Nat} {l : List Int}
theorem Its.below (h : Its K w A n cap l) (hb : Below w.heap.size w w') : Its K w' A n cap l := by
  refine ⟨h.len, h.le, h.max, h.bare, fun hn => ?_⟩
  obtain ⟨b, off, hA, hc⟩ := h.at_ hn
  exact ⟨b, off, hA, fun j hj => (hb.cell (p := ⟨b, off + j, none⟩) (block_lt_of_cell (hc j hj))).trans (hc j hj)⟩
theorem Its.draw (h : Its K w A n cap l) (k : Nat) : Its K (w.drewN k) A n cap l := ⟨h.len, h.le, h.max, h.bare, h.at_⟩
theorem Its.draw1 (h : Its K w A n cap l) : Its K w.drew A n cap l := ⟨h.len, h.le, h.max, h.bare, h.at_⟩
theorem Its.more (h : Its K w A n cap l) (o : Obj) : Its K (w.alloc o) A n cap l := h.below ((Below.refl _ _).alloc (Nat.le_refl _) _)
theorem Its.small (h : Its K w A n cap l) : n ≤ 9223372036854775807 := Nat.le_trans h.le (by have := h.max; unfold maxLen at this; omega)
theorem Its.grown {row : Option Nat} (h : Its K w A n cap l) (hg : w.grownBy w' row) (hne : ∀ b off, A = some ⟨b, off, none⟩ → some b ≠ row) : Its K w' A n cap l := by
  refine ⟨h.len, h.le, h.max, h.bare, fun hn => ?_⟩
  obtain ⟨b, off, hA, hc⟩ := h.at_ hn
  refine ⟨b, off, hA, fun j hj => ?_⟩
  rw [World.cell?_of_block (w := w) (a := ⟨b, off + j, none⟩) (hg.block b (block_lt_of_cell (hc j hj)) (hne b off hA))]
  exact hc j hj
end
theorem Its.nil (K : IntKind) (w : World) : Its K w none 0 0 [] := ⟨rfl, Nat.le_refl _, by unfold maxLen; omega, fun _ => rfl, fun h => by omega⟩

/-- a slice of numbers that the call made itself; e: the element's type -/
def OwnI (K : IntKind) (e : TypeId) (w : World) (base : Nat) (v : Value) (l : List Int) : Prop := w.ownsRow base e 1 v l.length (inv K l)
section
variable {K : IntKind} {e : TypeId} {w w' : World} {base : Nat} {v : Value} {l : List Int}
theorem OwnI.nil (K : IntKind) (e : TypeId) (w : World) (base : Nat) : OwnI K e w base (.slice none 0 0) [] := World.ownsRow_nil _ _ _ _
theorem OwnI.more (h : OwnI K e w base v l) (o : Obj) : OwnI K e (w.alloc o) base v l := World.ownsRow.alloc h o
theorem OwnI.draw1 (h : OwnI K e w base v l) : OwnI K e w.drew base v l := h
theorem OwnI.draw (h : OwnI K e w base v l) (k : Nat) : OwnI K e (w.drewN k) base v l := h
theorem OwnI.size (h : OwnI K e w base v l) : ∀ k, v.ownBlock = some k → base ≤ k ∧ k < w.heap.size := World.ownsRow.lt h
theorem OwnI.mono {b : Nat} (h : OwnI K e w base v l) (hb : b ≤ base) : OwnI K e w b v l := by
  refine ⟨h.1, ?_⟩
  rcases h.2 with h0 | ⟨g, cap, cur, hv, hg, rest⟩
  · exact .inl h0
  · exact .inr ⟨g, cap, cur, hv, Nat.le_trans hb hg, rest⟩
theorem OwnI.below (h : OwnI K e w base v l) (hb : Below w.heap.size w w') : OwnI K e w' base v l := by
  refine ⟨h.1, ?_⟩
  rcases h.2 with h0 | ⟨g, cap, cur, hv, hg, hh, rest⟩
  · exact .inl h0
  · exact .inr ⟨g, cap, cur, hv, hg, (hb.block g (Array.getElem?_eq_some_iff.1 hh).1).trans hh, rest⟩
theorem OwnI.far {row : Option Nat} (h : OwnI K e w base v l) (hg : w.grownBy w' row) (hne : v.ownBlock = none ∨ v.ownBlock ≠ row) : OwnI K e w' base v l := World.ownsRow.kept h hg hne
theorem OwnI.its (h : OwnI K e w base v l) : ∃ A n cap, v = .slice A n cap ∧ Its K w A n cap l := by
  rcases h.2 with ⟨hv, hn⟩ | ⟨g, cap, cur, hv, _, hh, hnc, hcm, hcs, htake⟩
  · obtain rfl : l = [] := List.eq_nil_of_length_eq_zero hn
    exact ⟨none, 0, 0, hv, Its.nil K w⟩
  · refine ⟨some ⟨g, 0, none⟩, l.length, cap, hv, rfl, hnc, hcm, (fun e => by cases e), fun hn => ⟨g, 0, rfl, fun j hj => ?_⟩⟩
    rw [Nat.zero_add, cell_of_row _ _ _ _ _ _ hh, ← inv_get K l j hj, ← htake, List.getElem?_take, if_pos (by omega)]
    simp
end

/-- append(v, s...): v the call's own, s whatever; t: the slice's type, e the element's, of B bytes -/
theorem wpList_append_i {P : Program} {w : World} {ops : Array Oper} {rest : List Oper} {o : Oper} {a : Act} {Q : Exit → Act → World → Prop} (hgd : o.guard = none) (t e : TypeId) (K : IntKind) (B : Nat) (s x : Operand)
    (ho : o.op = .call { callee := .builtin .append, args := #[s, x], argTypes := #[t, t] }) (hu : P.underlying t = some (.slice e)) (hinfo : (P.info? e).map (fun i => (i.zero, i.size, i.bytes)) = some (some (.int K 0), 1, B)) (hB : B ≤ 8)
    (base : Nat) (v : Value) (l : List Int) (hs : a.eval s = v) (hown : OwnI K e w base v l) (A : Option Addr) (m c : Nat) (l2 : List Int) (hx : a.eval x = .slice A m c) (hr : Its K w A m c l2)
    (hsmall : l.length + m ≤ 17592186044416) (hbase : base ≤ w.heap.size)
    (h : ∀ v' w', OwnI K e w' base v' (l ++ l2) → w.grownBy w' v.ownBlock → wpList P ops Q rest (a.put o.dst v') w') : wpList P ops Q (o :: rest) a w := by
  obtain ⟨i, hi, hz, h1, h2⟩ := info_parts hinfo
  have hl2 : (inv K l2).length = m * 1 := by rw [inv_length, hr.len, Nat.mul_one]
  rcases A with _ | ad
  · obtain rfl := hr.bare rfl
    have hm : m = 0 := by have := hr.le; omega
    subst hm
    obtain rfl : l2 = [] := List.eq_nil_of_length_eq_zero hr.len
    refine wpList_append_own_none hgd s x t ho base e i 1 hu hi v l.length (inv K l) hs hown hx ?_
    exact h v w (by simpa using hown) (World.grownBy.refl w _)
  · have hb8 : (l.length + m) * B ≤ (l.length + m) * 8 := Nat.mul_le_mul_left _ hB
    refine wpList_append_own (P := P) w hgd s x t ho base e i (.int K 0) 1 B hu hi hz h1 h2 rfl (by omega) v l.length (inv K l) hs hown ad m c (inv K l2) hx hl2 ?_ (inv_one K l2) (by unfold maxLen; omega) (by omega) hbase ?_
    · intro j u hu'
      have hj : j < l2.length := by
        have := (List.getElem?_eq_some_iff.1 hu').1
        rwa [inv_length] at this
      rw [inv_get K l2 j hj] at hu'
      obtain ⟨b, off, hA, hc⟩ := hr.at_ (by have := hr.len; omega)
      injection hA with hA
      subst hA
      have hadd : (⟨b, off, none⟩ : Addr).add j = ⟨b, off + j, none⟩ := by
        unfold Addr.add
        split
        · rename_i h0; subst h0; rfl
        · rfl
      rw [hadd, hc j (by have := hr.len; omega), hu']
    · intro v' w' hown' hg _
      refine h v' w' ?_ hg
      unfold OwnI
      rw [inv_append, List.length_append, hr.len]
      exact hown'
/-- the same, and where it lies: v the call's own, s whatever; t: the slice's type, e the element's, of B bytes -/
theorem wpList_append_i_at {P : Program} {w : World} {ops : Array Oper} {rest : List Oper} {o : Oper} {a : Act} {Q : Exit → Act → World → Prop} (hgd : o.guard = none) (t e : TypeId) (K : IntKind) (B : Nat) (s x : Operand)
    (ho : o.op = .call { callee := .builtin .append, args := #[s, x], argTypes := #[t, t] }) (hu : P.underlying t = some (.slice e)) (hinfo : (P.info? e).map (fun i => (i.zero, i.size, i.bytes)) = some (some (.int K 0), 1, B)) (hB : B ≤ 8)
    (base : Nat) (v : Value) (l : List Int) (hs : a.eval s = v) (hown : OwnI K e w base v l) (A : Option Addr) (m c : Nat) (l2 : List Int) (hx : a.eval x = .slice A m c) (hr : Its K w A m c l2)
    (hsmall : l.length + m ≤ 17592186044416) (hbase : base ≤ w.heap.size)
    (h : ∀ v' w', OwnI K e w' base v' (l ++ l2) → w.grownBy w' v.ownBlock → (v'.ownBlock = v.ownBlock ∨ v'.ownBlock = some w.heap.size) → wpList P ops Q rest (a.put o.dst v') w') : wpList P ops Q (o :: rest) a w := by
  obtain ⟨i, hi, hz, h1, h2⟩ := info_parts hinfo
  have hl2 : (inv K l2).length = m * 1 := by rw [inv_length, hr.len, Nat.mul_one]
  rcases A with _ | ad
  · obtain rfl := hr.bare rfl
    have hm : m = 0 := by have := hr.le; omega
    subst hm
    obtain rfl : l2 = [] := List.eq_nil_of_length_eq_zero hr.len
    refine wpList_append_own_none hgd s x t ho base e i 1 hu hi v l.length (inv K l) hs hown hx ?_
    exact h v w (by simpa using hown) (World.grownBy.refl w _) (.inl rfl)
  · have hb8 : (l.length + m) * B ≤ (l.length + m) * 8 := Nat.mul_le_mul_left _ hB
    refine wpList_append_own_at (P := P) w hgd s x t ho base e i (.int K 0) 1 B hu hi hz h1 h2 rfl (by omega) v l.length (inv K l) hs hown ad m c (inv K l2) hx hl2 ?_ (inv_one K l2) (by unfold maxLen; omega) (by omega) hbase ?_
    · intro j u hu'
      have hj : j < l2.length := by
        have := (List.getElem?_eq_some_iff.1 hu').1
        rwa [inv_length] at this
      rw [inv_get K l2 j hj] at hu'
      obtain ⟨b, off, hA, hc⟩ := hr.at_ (by have := hr.len; omega)
      injection hA with hA
      subst hA
      have hadd : (⟨b, off, none⟩ : Addr).add j = ⟨b, off + j, none⟩ := by
        unfold Addr.add
        split
        · rename_i h0; subst h0; rfl
        · rfl
      rw [hadd, hc j (by have := hr.len; omega), hu']
    · intro v' w' hown' hg _ hat
      refine h v' w' ?_ hg hat
      unfold OwnI
      rw [inv_append, List.length_append, hr.len]
      exact hown'
/-- make([]T, 0, n), T a number of kind K -/
theorem wpList_make_i {P : Program} {w : World} {ops : Array Oper} {rest : List Oper} {o : Oper} {a : Act} {Q : Exit → Act → World → Prop} (hgd : o.guard = none) (t e : TypeId) (K : IntKind) (B : Nat) (l c : Operand) (ho : o.op = Op.makeSlice t l c)
    (hu : P.underlying t = some (.slice e)) (hinfo : (P.info? e).map (fun i => (i.zero, i.size, i.bytes)) = some (some (.int K 0), 1, B)) (hB : B ≤ 8)
    (base : Nat) (C : Int) (n : Nat) (hl : a.eval l = .int .i64 0) (hc : a.eval c = .int .i64 C) (hC : C = (n : Int)) (hn : n ≤ 17592186044416) (hb : base ≤ w.heap.size)
    (h : ∀ v' w', OwnI K e w' base v' [] → w.grownBy w' none → wpList P ops Q rest (a.put o.dst v') w') : wpList P ops Q (o :: rest) a w := by
  obtain ⟨i, hi, hz, h1, h2⟩ := info_parts hinfo
  have hb8 : B * n ≤ 8 * n := Nat.mul_le_mul_right _ hB
  exact wpList_make_own w hgd l c t ho base e i (.int K 0) 1 hu hi hz h1 .i64 .i64 C n hl hc hC (by rw [h2]; omega) (by unfold maxLen; omega) hb
    (fun w' r1 r2 => h _ w' r1 r2)
/-- a literal of one number -/
theorem one_its (K : IntKind) (e : TypeId) (w : World) (x : Int) : Its K (w.alloc (.cells #[.int K x] e)) (some ⟨w.heap.size, 0, none⟩) 1 1 [x] := by
  refine ⟨rfl, Nat.le_refl _, by unfold maxLen; omega, (fun e => by cases e), fun _ => ⟨w.heap.size, 0, rfl, fun j hj => ?_⟩⟩
  obtain rfl : j = 0 := by omega
  exact (cell_of_row _ _ _ _ _ _ (heap_alloc_new w _)).trans rfl
/-- two slices that lie in blocks of their own -/
def Sep (a b : Value) : Prop := ∀ g, a.ownBlock = some g → b.ownBlock ≠ some g
theorem Sep.symm {a b : Value} (h : Sep a b) : Sep b a := fun g hb ha => h g ha hb
theorem Sep.nil (b : Value) : Sep (.slice none 0 0) b := fun g h => by simp [Value.ownBlock] at h
theorem Sep.row {a b : Value} (h : Sep a b) : a.ownBlock = none ∨ a.ownBlock ≠ b.ownBlock := by
  cases ha : a.ownBlock with
  | none => exact .inl rfl
  | some g => exact .inr fun e => h g ha e.symm
/-- one of them grows -/
theorem Sep.step {a a' b : Value} {n : Nat} (h : Sep a b) (hb : ∀ g, b.ownBlock = some g → g < n) (ha : a'.ownBlock = a.ownBlock ∨ a'.ownBlock = some n) : Sep a' b := by
  intro g hg hbg
  rcases ha with e | e
  · exact h g (e ▸ hg) hbg
  · rw [hg] at e
    have := hb g hbg
    injection e with e
    omega
end Go.Proofs.Ytekmagpokcloaaa

/- Groups, plainly: sets as numbers, matrices, which groups conflict, the greatest free sets, the groups of a set. -/
namespace Go.Proofs.Ytekmagpokcloaaa
set_option maxRecDepth 100000
set_option linter.unusedVariables false
set_option linter.unusedSimpArgs false
open Go

/-- is group i in the set s? -/
def bitI (s : Int) (i : Nat) : Bool := decide (s / 2 ^ i % 2 = 1)
theorem bit_nat (t i : Nat) : bitI (t : Int) i = t.testBit i := by
  rw [bitI, Nat.testBit_eq_decide_div_mod_eq]
  refine decide_eq_decide.2 ?_
  have e : ((2 : Int) ^ i) = ((2 ^ i : Nat) : Int) := by simp
  rw [e]
  omega
def meetM (m : List Int) (i k : Nat) : Bool := bitI (m.getD i 0) k
def rowsM (m : List Int) : Prop := ∀ i, i < m.length → 0 ≤ m.getD i 0 ∧ m.getD i 0 < 2 ^ m.length
def evenM (m : List Int) : Prop := ∀ i, i < m.length → ∀ k, k < m.length → meetM m i k = meetM m k i ∧ ¬ (meetM m i k = true ∧ i = k)
instance (m : List Int) : Decidable (rowsM m) := by unfold rowsM; infer_instance
instance (m : List Int) : Decidable (evenM m) := by unfold evenM; infer_instance
def mayM (m : List Int) : Bool := decide ((1 ≤ m.length ∧ m.length ≤ 8) ∧ rowsM m ∧ evenM m)
def setM (m : List Int) (s : Int) : Prop := 0 ≤ s ∧ s < 2 ^ m.length
instance (m : List Int) (s : Int) : Decidable (setM m s) := by unfold setM; infer_instance
def hitM (m : List Int) (s : Int) (k : Nat) : Bool := (List.range m.length).any fun i => bitI s i && meetM m i k
def sumN (f : Nat → Bool) : Nat → Nat
  | 0 => 0
  | k + 1 => sumN f k + (if f k then 2 ^ k else 0)
def againstM (m : List Int) (s : Int) : Int := if mayM m = true ∧ setM m s then (sumN (hitM m s) m.length : Nat) else -1
def noneM (m : List Int) (s : Int) : Prop := ∀ i, i < m.length → ∀ k, k < m.length → ¬ (bitI s i = true ∧ bitI s k = true ∧ meetM m i k = true)
instance (m : List Int) (s : Int) : Decidable (noneM m s) := by unfold noneM; infer_instance
def freeM (m : List Int) (s : Int) : Bool := decide (mayM m = true ∧ setM m s ∧ noneM m s)
def mostM (m : List Int) (s : Int) : Bool := decide (freeM m s = true ∧ ∀ i, i < m.length → ¬ (bitI s i = false ∧ freeM m (s + 2 ^ i) = true))
def setsM (m : List Int) : List Int := if mayM m = true then ((List.range (2 ^ m.length)).filter fun t : Nat => mostM m (t : Int)).map Int.ofNat else []
def listM (s : Int) : List Int := if 0 ≤ s ∧ s < 256 then ((List.range 8).filter (bitI s)).map Int.ofNat else []
def ofF : List Int → Int → Int
  | [], o => o
  | x :: l, o => if x < 0 ∨ 7 < x then -1 else if bitI o x.toNat = true then -1 else ofF l (o + 2 ^ x.toNat)
def ofM (l : List Int) : Int := ofF l 0

theorem may_all {m : List Int} (h : mayM m = true) : (1 ≤ m.length ∧ m.length ≤ 8) ∧ rowsM m ∧ evenM m := of_decide_eq_true h
theorem free_iff {m : List Int} {s : Int} : freeM m s = true ↔ mayM m = true ∧ setM m s ∧ noneM m s := decide_eq_true_iff
theorem most_iff {m : List Int} {s : Int} : mostM m s = true ↔ freeM m s = true ∧ ∀ i, i < m.length → ¬ (bitI s i = false ∧ freeM m (s + 2 ^ i) = true) := decide_eq_true_iff
theorem pow_le {n : Nat} (h : n ≤ 8) : (2 : Nat) ^ n ≤ 256 := Nat.pow_le_pow_right (by omega) h
theorem pow_int (n : Nat) : ((2 : Int) ^ n) = ((2 ^ n : Nat) : Int) := by simp
theorem set_nat {m : List Int} {s : Int} (h : setM m s) : ∃ t : Nat, s = t ∧ t < 2 ^ m.length := by
  obtain ⟨h0, h1⟩ := h
  obtain ⟨t, rfl⟩ := Int.eq_ofNat_of_zero_le h0
  rw [pow_int] at h1
  exact ⟨t, rfl, by omega⟩
theorem nat_set {m : List Int} {t : Nat} (h : t < 2 ^ m.length) : setM m (t : Int) := by
  unfold setM
  rw [pow_int]
  omega
theorem sumN_lt (f : Nat → Bool) : ∀ n, sumN f n < 2 ^ n
  | 0 => by simp [sumN]
  | n + 1 => by
    have := sumN_lt f n
    rw [sumN, Nat.pow_succ]
    split <;> omega
theorem sumN_bit (f : Nat → Bool) (k : Nat) : ∀ n, (sumN f n).testBit k = (decide (k < n) && f k)
  | 0 => by simp [sumN]
  | n + 1 => by
    have ih := sumN_bit f k n
    have hlt := sumN_lt f n
    rw [sumN]
    by_cases hf : f n = true
    · rw [if_pos hf, Nat.add_comm]
      by_cases h1 : k < n
      · rw [Nat.testBit_two_pow_add_gt h1, ih, decide_eq_true h1, decide_eq_true (by omega : k < n + 1)]
      · by_cases h2 : k = n
        · subst h2
          rw [Nat.testBit_two_pow_add_eq, Nat.testBit_lt_two_pow hlt, hf]
          simp
        · rw [Nat.testBit_lt_two_pow (x := 2 ^ n + sumN f n) (i := k), decide_eq_false (by omega)]
          · rfl
          · have : 2 ^ (n + 1) ≤ 2 ^ k := Nat.pow_le_pow_right (by omega) (by omega)
            rw [Nat.pow_succ] at this
            omega
    · rw [if_neg hf, Nat.add_zero, ih]
      by_cases h1 : k < n
      · rw [decide_eq_true h1, decide_eq_true (by omega : k < n + 1)]
      · rw [decide_eq_false h1]
        by_cases h2 : k = n
        · subst h2; simp [hf]
        · rw [decide_eq_false (by omega)]
/-- numbers below 256 -/
theorem or_pow8 : ∀ (t : Fin 256) (i : Fin 8), (t.val ||| 2 ^ i.val) = if t.val.testBit i.val then t.val else t.val + 2 ^ i.val := by decide +kernel
theorem and_up8 : ∀ (t : Fin 256) (i : Fin 8), t.val.testBit i.val = false → (t.val + 2 ^ i.val) &&& t.val = t.val := by decide +kernel
theorem back8 : ∀ t : Fin 256, ofM (listM (t.val : Int)) = (t.val : Int) := by decide +kernel
def risesTo (l : List Int) (k : Nat) : Prop := ∀ i, i < k → 0 < i → l.getD (i - 1) 0 < l.getD i 0
instance (l : List Int) (k : Nat) : Decidable (risesTo l k) := by unfold risesTo; infer_instance
def risesB (l : List Int) : Bool := decide (risesTo l l.length)
theorem rise8 : ∀ t : Fin 256, risesB (listM (t.val : Int)) = true := by decide +kernel
theorem more8 : ∀ (t : Fin 256) (x : Fin 8), bitI (t.val : Int) x.val = false → t.val + 2 ^ x.val < 256 ∧ (listM ((t.val + 2 ^ x.val : Nat) : Int)).length = (listM (t.val : Int)).length + 1 ∧ ∀ j : Fin 8, bitI ((t.val + 2 ^ x.val : Nat) : Int) j.val = (bitI (t.val : Int) j.val || decide (j = x)) := by decide +kernel
theorem mem8 : ∀ (t : Fin 256) (x : Int), x ∈ listM (t.val : Int) ↔ ∃ j : Fin 8, x = (j.val : Int) ∧ bitI (t.val : Int) j.val = true := by
  intro t x
  have h : 0 ≤ ((t.val : Nat) : Int) ∧ ((t.val : Nat) : Int) < 256 := ⟨by omega, by have := t.isLt; omega⟩
  rw [listM, if_pos h, List.mem_map]
  constructor
  · rintro ⟨a, ha, rfl⟩
    rw [List.mem_filter, List.mem_range] at ha
    exact ⟨⟨a, ha.1⟩, rfl, ha.2⟩
  · rintro ⟨j, rfl, hj⟩
    exact ⟨j.val, List.mem_filter.2 ⟨List.mem_range.2 j.isLt, hj⟩, rfl⟩
end Go.Proofs.Ytekmagpokcloaaa

/- What the laws of groups ask, plainly. -/
namespace Go.Proofs.Ytekmagpokcloaaa
set_option maxRecDepth 100000
set_option linter.unusedVariables false
set_option linter.unusedSimpArgs false
open Go

/-! what is free, in bits -/
theorem none_nat {m : List Int} {t : Nat} : noneM m (t : Int) ↔ ∀ i, i < m.length → ∀ k, k < m.length → ¬ (t.testBit i = true ∧ t.testBit k = true ∧ meetM m i k = true) := by
  unfold noneM
  simp only [bit_nat]
theorem free_nat {m : List Int} {t : Nat} (hm : mayM m = true) (ht : t < 2 ^ m.length) : freeM m (t : Int) = true ↔ ∀ i, i < m.length → ∀ k, k < m.length → ¬ (t.testBit i = true ∧ t.testBit k = true ∧ meetM m i k = true) := by
  rw [free_iff, none_nat]
  exact ⟨fun h => h.2.2, fun h => ⟨hm, nat_set ht, h⟩⟩
/-- what is part of a free set is free -/
theorem free_part {m : List Int} {s p : Nat} (h : freeM m (s : Int) = true) (hs : p &&& s = p) : freeM m (p : Int) = true := by
  obtain ⟨hm, hin, hn⟩ := free_iff.1 h
  obtain ⟨t, ht, htl⟩ := set_nat hin
  obtain rfl : s = t := by omega
  have hp : p < 2 ^ m.length := by
    have : p &&& s ≤ s := Nat.and_le_right
    omega
  rw [free_nat hm hp]
  rw [none_nat] at hn
  intro i hi k hk hc
  have hb : ∀ j, p.testBit j = true → s.testBit j = true := fun j hj => by
    rw [← hs, Nat.testBit_and, Bool.and_eq_true] at hj
    exact hj.2
  exact hn i hi k hk ⟨hb i hc.1, hb k hc.2.1, hc.2.2⟩
theorem low_bit {t n : Nat} (h : t < 2 ^ n) {k : Nat} (hk : n ≤ k) : t.testBit k = false := by
  refine Nat.testBit_lt_two_pow ?_
  have : 2 ^ n ≤ 2 ^ k := Nat.pow_le_pow_right (by omega) hk
  omega
theorem up_lt {n t i : Nat} (hi : i < n) (ht : t < 2 ^ n) (hb : t.testBit i = false) (hn : n ≤ 8) : t + 2 ^ i < 2 ^ n := by
  have h8 := pow_le hn
  have e := or_pow8 ⟨t, by omega⟩ ⟨i, by omega⟩
  simp only [hb, Bool.false_eq_true, if_false] at e
  rw [← e]
  exact Nat.or_lt_two_pow ht (Nat.pow_lt_pow_right (by omega) hi)
theorem and_up {n t i : Nat} (hi : i < n) (ht : t < 2 ^ n) (hb : t.testBit i = false) (hn : n ≤ 8) : (t + 2 ^ i) &&& t = t := by
  have h8 := pow_le hn
  exact and_up8 ⟨t, by omega⟩ ⟨i, by omega⟩ hb
/-- each free set is part of one of the greatest -/
theorem grow {m : List Int} (hm : mayM m = true) : ∀ (d t : Nat), 2 ^ m.length - t ≤ d → freeM m (t : Int) = true → t < 2 ^ m.length → ∃ u : Nat, u < 2 ^ m.length ∧ mostM m (u : Int) = true ∧ u &&& t = t
  | 0, t, h, _, ht => by omega
  | d + 1, t, h, hf, ht => by
    obtain ⟨⟨h1, h8⟩, -, -⟩ := may_all hm
    by_cases hmo : mostM m (t : Int) = true
    · exact ⟨t, ht, hmo, Nat.and_self t⟩
    · have hex : ∃ i, i < m.length ∧ bitI (t : Int) i = false ∧ freeM m ((t : Int) + 2 ^ i) = true := by
        apply Classical.byContradiction
        intro hc
        exact hmo (most_iff.2 ⟨hf, fun i hi hh => hc ⟨i, hi, hh⟩⟩)
      obtain ⟨i, hi, hb, hfi⟩ := hex
      rw [bit_nat] at hb
      have e : (t : Int) + 2 ^ i = ((t + 2 ^ i : Nat) : Int) := by simp
      rw [e] at hfi
      have hlt := up_lt hi ht hb h8
      have hpos : 0 < 2 ^ i := Nat.pow_pos (by omega)
      obtain ⟨u, hu, hmu, ha⟩ := grow hm d (t + 2 ^ i) (by omega) hfi hlt
      refine ⟨u, hu, hmu, ?_⟩
      have h2 := and_up hi ht hb h8
      calc u &&& t = u &&& ((t + 2 ^ i) &&& t) := by rw [h2]
        _ = (u &&& (t + 2 ^ i)) &&& t := by rw [Nat.and_assoc]
        _ = (t + 2 ^ i) &&& t := by rw [ha]
        _ = t := h2
theorem free_zero {m : List Int} (hm : mayM m = true) : freeM m ((0 : Nat) : Int) = true := by
  rw [free_nat hm (Nat.pow_pos (by omega))]
  intro i _ k _ h
  simp at h
/-! the greatest free sets -/
theorem mem_sets {m : List Int} {x : Int} (hm : mayM m = true) : x ∈ setsM m ↔ ∃ t : Nat, x = t ∧ t < 2 ^ m.length ∧ mostM m (t : Int) = true := by
  rw [setsM, if_pos hm, List.mem_map]
  constructor
  · rintro ⟨t, ht, rfl⟩
    rw [List.mem_filter, List.mem_range] at ht
    exact ⟨t, rfl, ht.1, ht.2⟩
  · rintro ⟨t, rfl, h1, h2⟩
    exact ⟨t, List.mem_filter.2 ⟨List.mem_range.2 h1, h2⟩, rfl⟩
theorem sets_some {m : List Int} (hm : mayM m = true) : 0 < (setsM m).length := by
  obtain ⟨u, h1, h2, -⟩ := grow hm _ 0 (Nat.le_refl _) (free_zero hm) (Nat.pow_pos (by omega))
  exact List.length_pos_of_mem ((mem_sets hm).2 ⟨u, rfl, h1, h2⟩)
theorem sets_rise {m : List Int} : (setsM m).Pairwise (· < ·) := by
  rw [setsM]
  split
  · rw [List.pairwise_map]
    refine (List.Pairwise.filter _ List.pairwise_lt_range).imp ?_
    intro a b h
    exact Int.ofNat_lt.2 h
  · exact List.Pairwise.nil
/-! against -/
theorem against_some {m : List Int} {t : Nat} (hm : mayM m = true) (ht : t < 2 ^ m.length) : againstM m (t : Int) = (sumN (hitM m (t : Int)) m.length : Nat) := by rw [againstM, if_pos ⟨hm, nat_set ht⟩]
theorem hit_nat {m : List Int} {t k : Nat} : hitM m (t : Int) k = true ↔ ∃ i, i < m.length ∧ t.testBit i = true ∧ meetM m i k = true := by
  simp only [hitM, List.any_eq_true, List.mem_range, Bool.and_eq_true, bit_nat]
theorem against_bit {m : List Int} {t k : Nat} : (sumN (hitM m (t : Int)) m.length).testBit k = true ↔ k < m.length ∧ ∃ i, i < m.length ∧ t.testBit i = true ∧ meetM m i k = true := by
  rw [sumN_bit, Bool.and_eq_true, decide_eq_true_iff, hit_nat]
theorem free_against {m : List Int} {t : Nat} (hm : mayM m = true) (ht : t < 2 ^ m.length) : freeM m (t : Int) = decide (sumN (hitM m (t : Int)) m.length &&& t = 0) := by
  rw [Bool.eq_iff_iff, free_nat hm ht, decide_eq_true_iff]
  constructor
  · intro h
    apply Nat.eq_of_testBit_eq
    intro k
    rw [Nat.zero_testBit]
    apply Bool.eq_false_iff.2
    intro hc
    rw [Nat.testBit_and, Bool.and_eq_true, against_bit] at hc
    obtain ⟨⟨hk, i, hi, hb, hme⟩, hbk⟩ := hc
    exact h i hi k hk ⟨hb, hbk, hme⟩
  · intro h i hi k hk hc
    have h1 : (sumN (hitM m (t : Int)) m.length &&& t).testBit k = true := by
      rw [Nat.testBit_and, Bool.and_eq_true, against_bit]
      exact ⟨⟨hk, i, hi, hc.1, hc.2.2⟩, hc.2.1⟩
    rw [h, Nat.zero_testBit] at h1
    cases h1
theorem against_more {m : List Int} {t i : Nat} : sumN (hitM m ((t ||| 2 ^ i : Nat) : Int)) m.length = sumN (hitM m (t : Int)) m.length ||| sumN (hitM m ((2 ^ i : Nat) : Int)) m.length := by
  apply Nat.eq_of_testBit_eq
  intro k
  rw [Bool.eq_iff_iff, Nat.testBit_or, Bool.or_eq_true, against_bit, against_bit, against_bit]
  constructor
  · rintro ⟨hk, j, hj, hb, hme⟩
    rw [Nat.testBit_or, Bool.or_eq_true] at hb
    rcases hb with hb | hb
    · exact .inl ⟨hk, j, hj, hb, hme⟩
    · exact .inr ⟨hk, j, hj, hb, hme⟩
  · rintro (⟨hk, j, hj, hb, hme⟩ | ⟨hk, j, hj, hb, hme⟩)
    · exact ⟨hk, j, hj, by rw [Nat.testBit_or, hb]; rfl, hme⟩
    · exact ⟨hk, j, hj, by rw [Nat.testBit_or, hb]; simp, hme⟩
theorem against_one {m : List Int} {i k : Nat} (hi : i < m.length) (hk : k < m.length) : (sumN (hitM m ((2 ^ i : Nat) : Int)) m.length).testBit k = meetM m i k := by
  rw [Bool.eq_iff_iff, against_bit]
  constructor
  · rintro ⟨-, j, hj, hb, hme⟩
    rw [Nat.testBit_two_pow] at hb
    obtain rfl : i = j := of_decide_eq_true hb
    exact hme
  · intro h
    exact ⟨hk, i, hi, Nat.testBit_two_pow_self, h⟩
/-! a list and its set -/
theorem of_step (l : List Int) : ∀ (t : Nat), t < 256 → (ofF l (t : Int) = -1) ∨ (∃ r : Nat, ofF l (t : Int) = r ∧ r < 256 ∧ (listM (r : Int)).length = (listM (t : Int)).length + l.length ∧ (∀ j, j < 8 → (bitI (r : Int) j = true ↔ bitI (t : Int) j = true ∨ (j : Int) ∈ l)) ∧ ∀ x ∈ l, 0 ≤ x ∧ x ≤ 7) := by
  induction l with
  | nil => exact fun t ht => .inr ⟨t, rfl, ht, rfl, fun j _ => by simp, fun x hx => by cases hx⟩
  | cons x l ih =>
    intro t ht
    rw [ofF]
    by_cases h1 : x < 0 ∨ 7 < x
    · rw [if_pos h1]; exact .inl rfl
    · rw [if_neg h1]
      obtain ⟨y, rfl⟩ := Int.eq_ofNat_of_zero_le (show 0 ≤ x by omega)
      rw [Int.toNat_natCast]
      by_cases h2 : bitI (t : Int) y = true
      · rw [if_pos h2]; exact .inl rfl
      · rw [if_neg h2]
        have hy : y < 8 := by omega
        obtain ⟨m1, m2, m3⟩ := more8 ⟨t, ht⟩ ⟨y, hy⟩ (by simpa using h2)
        simp only at m1 m2 m3
        have e : (t : Int) + 2 ^ y = ((t + 2 ^ y : Nat) : Int) := by simp
        rw [e]
        rcases ih (t + 2 ^ y) m1 with h | ⟨r, r1, r2, r3, r4, r5⟩
        · exact .inl h
        · refine .inr ⟨r, r1, r2, by rw [r3, m2, List.length_cons]; omega, fun j hj => ?_, fun z hz => ?_⟩
          · rw [r4 j hj]
            have := m3 ⟨j, hj⟩
            simp only at this
            rw [this, Bool.or_eq_true, decide_eq_true_iff, Fin.mk.injEq, List.mem_cons]
            constructor
            · rintro ((h | h) | h)
              · exact .inl h
              · exact .inr (.inl (by rw [h]))
              · exact .inr (.inr h)
            · rintro (h | h | h)
              · exact .inl (.inl h)
              · exact .inl (.inr (by exact Int.ofNat.inj h))
              · exact .inr h
          · rcases List.mem_cons.1 hz with rfl | hz
            · omega
            · exact r5 z hz
theorem of_list (l : List Int) : ofM l = -1 ∨ ∃ r : Nat, ofM l = r ∧ r < 256 ∧ (listM (r : Int)).length = l.length ∧ ∀ x, x ∈ listM (r : Int) ↔ x ∈ l := by
  rcases of_step l 0 (by omega) with h | ⟨r, r1, r2, r3, r4, r5⟩
  · exact .inl h
  · refine .inr ⟨r, r1, r2, by rw [r3]; show 0 + l.length = _; omega, fun x => ?_⟩
    rw [mem8 ⟨r, r2⟩ x]
    constructor
    · rintro ⟨j, rfl, hj⟩
      rcases (r4 j.val j.isLt).1 hj with h | h
      · rw [show ((0 : Nat) : Int) = 0 by rfl] at h
        simp [bitI] at h
      · exact h
    · intro hx
      obtain ⟨h0, h7⟩ := r5 x hx
      obtain ⟨y, rfl⟩ := Int.eq_ofNat_of_zero_le h0
      exact ⟨⟨y, by omega⟩, rfl, (r4 y (by omega)).2 (.inr hx)⟩
theorem of_none {l : List Int} (h : ofM l = -1) : 0 < l.length := by
  cases l with
  | nil => simp [ofM, ofF] at h
  | cons x l => simp
theorem rise_pair : ∀ (l : List Int), risesB l = true → l.Pairwise (· < ·)
  | [], _ => List.Pairwise.nil
  | [x], _ => List.pairwise_singleton _ _
  | x :: y :: l, h => by
    have h0 : risesTo (x :: y :: l) (x :: y :: l).length := of_decide_eq_true h
    have hxy : x < y := h0 1 (by simp) (by omega)
    have ht : risesB (y :: l) = true := decide_eq_true fun i hi hp => by
      have := h0 (i + 1) (by simpa using hi) (by omega)
      obtain ⟨j, rfl⟩ : ∃ j, i = j + 1 := ⟨i - 1, by omega⟩
      simpa using this
    have ih := rise_pair (y :: l) ht
    refine List.pairwise_cons.2 ⟨fun z hz => ?_, ih⟩
    rcases List.mem_cons.1 hz with rfl | hz
    · exact hxy
    · exact Int.lt_trans hxy ((List.pairwise_cons.1 ih).1 z hz)
theorem pair_rise {l : List Int} (h : l.Pairwise (· < ·)) : risesB l = true := decide_eq_true fun i hi hp => by
  have h1 := List.pairwise_iff_getElem.1 h (i - 1) i (by omega) hi (by omega)
  simpa [List.getD_eq_getElem?_getD, hi, show i - 1 < l.length by omega] using h1
theorem pair_ext : ∀ {a b : List Int}, a.Pairwise (· < ·) → b.Pairwise (· < ·) → (∀ x, x ∈ a ↔ x ∈ b) → a = b
  | [], [], _, _, _ => rfl
  | [], y :: b, _, _, h => by have := (h y).2 (by simp); simp at this
  | x :: a, [], _, _, h => by have := (h x).1 (by simp); simp at this
  | x :: a, y :: b, ha, hb, h => by
    have ha' := List.pairwise_cons.1 ha
    have hb' := List.pairwise_cons.1 hb
    have hxy : x = y := by
      rcases List.mem_cons.1 ((h x).1 (by simp)) with e | e
      · exact e
      · rcases List.mem_cons.1 ((h y).2 (by simp)) with e2 | e2
        · exact e2.symm
        · have h1 := hb'.1 x e
          have h2 := ha'.1 y e2
          omega
    subst hxy
    congr 1
    refine pair_ext ha'.2 hb'.2 fun z => ?_
    constructor
    · intro hz
      rcases List.mem_cons.1 ((h z).1 (List.mem_cons_of_mem _ hz)) with rfl | e
      · have := ha'.1 z hz; omega
      · exact e
    · intro hz
      rcases List.mem_cons.1 ((h z).2 (List.mem_cons_of_mem _ hz)) with rfl | e
      · have := hb'.1 z hz; omega
      · exact e
/-- what a list's set gives back is the list just if it rises -/
theorem same_rise {l : List Int} {r : Nat} (h : ofM l = r) : decide (listM (ofM l) = l) = risesB l := by
  rcases of_list l with h1 | ⟨r2, h1, h2, h3, h4⟩
  · rw [h] at h1; omega
  · rw [h1]
    have hr := rise_pair _ (rise8 ⟨r2, h2⟩)
    rw [Bool.eq_iff_iff, decide_eq_true_iff]
    constructor
    · intro e
      rw [← e]
      exact rise8 ⟨r2, h2⟩
    · intro e
      exact pair_ext hr (rise_pair _ e) h4
theorem back_list {s : Int} (h : 0 ≤ s ∧ s < 256) : ofM (listM s) = s ∧ risesB (listM s) = true := by
  obtain ⟨t, rfl⟩ := Int.eq_ofNat_of_zero_le h.1
  exact ⟨back8 ⟨t, by omega⟩, rise8 ⟨t, by omega⟩⟩
end Go.Proofs.Ytekmagpokcloaaa

/- Slices whose elements are rows of k cells (structs, or one cell): what they read as; the call's own; append. -/
namespace Go.Proofs.Ytekmagpokcloaaa
open Go.RowKit

theorem flat_len {k : Nat} {rows : List (List Value)} (h : ∀ r ∈ rows, r.length = k) : rows.flatten.length = rows.length * k := by
  induction rows with
  | nil => simp
  | cons r rows ih =>
    rw [List.flatten_cons, List.length_append, h r (by simp), ih (fun x hx => h x (by simp [hx])), List.length_cons, Nat.add_mul, Nat.one_mul, Nat.add_comm]
theorem flat_get {k : Nat} {rows : List (List Value)} (h : ∀ r ∈ rows, r.length = k) (j i : Nat) (hj : j < rows.length) (hi : i < k) : rows.flatten[j * k + i]? = some ((rows.getD j []).getD i undef) := by
  induction rows generalizing j with
  | nil => simp at hj
  | cons r rows ih =>
    have hr := h r (by simp)
    rw [List.flatten_cons]
    cases j with
    | zero =>
      rw [Nat.zero_mul, Nat.zero_add, List.getElem?_append_left (by omega)]
      simp [List.getD_eq_getElem?_getD, List.getElem?_eq_getElem (show i < r.length by omega)]
    | succ j =>
      rw [Nat.add_mul, Nat.one_mul, List.getElem?_append_right (by rw [hr]; omega), hr, show j * k + k + i - k = j * k + i by omega]
      rw [ih (fun x hx => h x (by simp [hx])) j (by simpa using hj)]
      simp
/-- the slice value A, n, cap reads as the rows, of k cells each -/
structure Rws (k : Nat) (w : World) (A : Option Addr) (n cap : Nat) (rows : List (List Value)) : Prop where
  len : rows.length = n
  wid : ∀ r ∈ rows, r.length = k
  one : ∀ r ∈ rows, ∀ u ∈ r, u.oneCell' = true
  le : n ≤ cap
  max : cap ≤ maxLen
  bare : A = none → cap = 0
  at_ : 0 < n → ∃ b off, A = some ⟨b, off, none⟩ ∧ ∀ j, j < n → ∀ i, i < k → w.cell? ⟨b, off + j * k + i, none⟩ = some ((rows.getD j []).getD i undef)
section
variable {k : Nat} {w w' : World} {A : Option Addr} {n cap : Nat} {rows : List (List Value)}
theorem Rws.below (h : Rws k w A n cap rows) (hb : Below w.heap.size w w') : Rws k w' A n cap rows := by
  refine ⟨h.len, h.wid, h.one, h.le, h.max, h.bare, fun hn => ?_⟩
  obtain ⟨b, off, hA, hc⟩ := h.at_ hn
  exact ⟨b, off, hA, fun j hj i hi => (hb.cell (p := ⟨b, off + j * k + i, none⟩) (block_lt_of_cell (hc j hj i hi))).trans (hc j hj i hi)⟩
theorem Rws.draw (h : Rws k w A n cap rows) (m : Nat) : Rws k (w.drewN m) A n cap rows := ⟨h.len, h.wid, h.one, h.le, h.max, h.bare, h.at_⟩
theorem Rws.draw1 (h : Rws k w A n cap rows) : Rws k w.drew A n cap rows := ⟨h.len, h.wid, h.one, h.le, h.max, h.bare, h.at_⟩
theorem Rws.more (h : Rws k w A n cap rows) (o : Obj) : Rws k (w.alloc o) A n cap rows := h.below ((Below.refl _ _).alloc (Nat.le_refl _) _)
theorem Rws.small (h : Rws k w A n cap rows) : n ≤ 9223372036854775807 := Nat.le_trans h.le (by have := h.max; unfold maxLen at this; omega)
theorem Rws.grown {row : Option Nat} (h : Rws k w A n cap rows) (hg : w.grownBy w' row) (hne : ∀ b off, A = some ⟨b, off, none⟩ → some b ≠ row) : Rws k w' A n cap rows := by
  refine ⟨h.len, h.wid, h.one, h.le, h.max, h.bare, fun hn => ?_⟩
  obtain ⟨b, off, hA, hc⟩ := h.at_ hn
  refine ⟨b, off, hA, fun j hj i hi => ?_⟩
  rw [World.cell?_of_block (w := w) (a := ⟨b, off + j * k + i, none⟩) (hg.block b (block_lt_of_cell (hc j hj i hi)) (hne b off hA))]
  exact hc j hj i hi
end
theorem Rws.nil (k : Nat) (w : World) : Rws k w none 0 0 [] := ⟨rfl, (fun _ h => by cases h), (fun _ h => by cases h), Nat.le_refl _, by unfold maxLen; omega, fun _ => rfl, fun h => by omega⟩
/-- a slice of rows that the call made itself; e: the element's type -/
structure OwnR (e : TypeId) (k : Nat) (w : World) (base : Nat) (v : Value) (rows : List (List Value)) : Prop where
  row : w.ownsRow base e k v rows.length rows.flatten
  wid : ∀ r ∈ rows, r.length = k
  one : ∀ r ∈ rows, ∀ u ∈ r, u.oneCell' = true
section
variable {e : TypeId} {k : Nat} {w w' : World} {base : Nat} {v : Value} {rows : List (List Value)}
theorem OwnR.nil (e : TypeId) (k : Nat) (w : World) (base : Nat) : OwnR e k w base (.slice none 0 0) [] := ⟨World.ownsRow_nil _ _ _ _, (fun _ h => by cases h), (fun _ h => by cases h)⟩
theorem OwnR.more (h : OwnR e k w base v rows) (o : Obj) : OwnR e k (w.alloc o) base v rows := ⟨World.ownsRow.alloc h.row o, h.wid, h.one⟩
theorem OwnR.draw1 (h : OwnR e k w base v rows) : OwnR e k w.drew base v rows := ⟨h.row, h.wid, h.one⟩
theorem OwnR.draw (h : OwnR e k w base v rows) (m : Nat) : OwnR e k (w.drewN m) base v rows := ⟨h.row, h.wid, h.one⟩
theorem OwnR.size (h : OwnR e k w base v rows) : ∀ g, v.ownBlock = some g → base ≤ g ∧ g < w.heap.size := World.ownsRow.lt h.row
theorem OwnR.below (h : OwnR e k w base v rows) (hb : Below w.heap.size w w') : OwnR e k w' base v rows := by
  refine ⟨⟨h.row.1, ?_⟩, h.wid, h.one⟩
  rcases h.row.2 with h0 | ⟨g, cap, cur, hv, hg, hh, rest⟩
  · exact .inl h0
  · exact .inr ⟨g, cap, cur, hv, hg, (hb.block g (Array.getElem?_eq_some_iff.1 hh).1).trans hh, rest⟩
theorem OwnR.far {row : Option Nat} (h : OwnR e k w base v rows) (hg : w.grownBy w' row) (hne : v.ownBlock = none ∨ v.ownBlock ≠ row) : OwnR e k w' base v rows := ⟨World.ownsRow.kept h.row hg hne, h.wid, h.one⟩
theorem OwnR.rws (h : OwnR e k w base v rows) : ∃ A n cap, v = .slice A n cap ∧ Rws k w A n cap rows := by
  rcases h.row.2 with ⟨hv, hn⟩ | ⟨g, cap, cur, hv, _, hh, hnc, hcm, hcs, htake⟩
  · obtain rfl : rows = [] := List.eq_nil_of_length_eq_zero hn
    exact ⟨none, 0, 0, hv, Rws.nil k w⟩
  · refine ⟨some ⟨g, 0, none⟩, rows.length, cap, hv, rfl, h.wid, h.one, hnc, hcm, (fun e => by cases e), fun hn => ⟨g, 0, rfl, fun j hj i hi => ?_⟩⟩
    have hlt : j * k + i < rows.length * k := by
      have : (j + 1) * k ≤ rows.length * k := Nat.mul_le_mul_right _ hj
      rw [Nat.add_mul, Nat.one_mul] at this
      omega
    rw [Nat.zero_add, cell_of_row _ _ _ _ _ _ hh, ← flat_get h.wid j i hj hi, ← htake, List.getElem?_take, if_pos hlt]
    simp
end
theorem Rws.news {k : Nat} {w : World} {b off n cap : Nat} {rows : List (List Value)} (h : Rws k w (some ⟨b, off, none⟩) n cap rows) (hk : 0 < k) : ∀ (j : Nat) (u : Value), rows.flatten[j]? = some u → w.cell? ((⟨b, off, none⟩ : Addr).add j) = some u := by
  intro j u hu
  have hj : j < rows.length * k := by
    have := (List.getElem?_eq_some_iff.1 hu).1
    rwa [flat_len h.wid] at this
  have hq : j / k < rows.length := (Nat.div_lt_iff_lt_mul hk).2 hj
  have hr : j % k < k := Nat.mod_lt _ hk
  have hjk : j / k * k + j % k = j := by rw [Nat.mul_comm]; exact Nat.div_add_mod j k
  rw [← hjk, flat_get h.wid _ _ hq hr] at hu
  obtain ⟨b', off', hA, hc⟩ := h.at_ (by rw [← h.len]; exact Nat.lt_of_le_of_lt (Nat.zero_le _) hq)
  injection hA with hA
  injection hA with e1 e2 _
  subst e1 e2
  have hadd : (⟨b, off, none⟩ : Addr).add j = ⟨b, off + j, none⟩ := by
    unfold Addr.add
    split
    · rename_i h0; subst h0; rfl
    · rfl
  have := hc (j / k) (by rw [← h.len]; exact hq) (j % k) hr
  rw [Nat.add_assoc, hjk] at this
  rw [hadd, this, hu]
theorem flat_one {rows : List (List Value)} (h : ∀ r ∈ rows, ∀ u ∈ r, u.oneCell' = true) : ∀ u ∈ rows.flatten, u.oneCell' = true := by
  intro u hu
  obtain ⟨r, hr, hu⟩ := List.mem_flatten.1 hu
  exact h r hr u hu
theorem mem_app {α : Type} {p : α → Prop} {l m : List α} (h : ∀ x ∈ l, p x) (k : ∀ x ∈ m, p x) : ∀ x ∈ l ++ m, p x := fun x hx => (List.mem_append.1 hx).elim (h x) (k x)
/-- append(v, s...): v the call's own, s whatever; t: the slice's type, e the element's, of k cells and B bytes -/
theorem wp_append_r {P : Program} {w : World} {o : Oper} {a : Act} {K : Act → World → Prop} {Q : Exit → Act → World → Prop} (t e : TypeId) (k B : Nat) (s x : Operand)
    (ho : o.op = .call { callee := .builtin .append, args := #[s, x], argTypes := #[t, t] }) (hu : P.underlying t = some (.slice e)) (hinfo : (P.info? e).map (fun i => (i.zero.map (·.cells.size), i.size, i.bytes)) = some (some k, k, B)) (hk : 0 < k)
    (base : Nat) (v : Value) (rows : List (List Value)) (hs : a.eval s = v) (hown : OwnR e k w base v rows) (A : Option Addr) (m c : Nat) (news : List (List Value)) (hx : a.eval x = .slice A m c) (hr : Rws k w A m c news)
    (hsmall : (rows.length + m) * B ≤ 140737488355328) (hm63 : rows.length + m ≤ 140737488355328) (hbase : base ≤ w.heap.size)
    (h : ∀ v' w', OwnR e k w' base v' (rows ++ news) → w.grownBy w' v.ownBlock → K (a.put o.dst v') w') : o.wp P a w K Q := by
  cases hi : P.info? e with
  | none => simp [hi] at hinfo
  | some i =>
    simp only [hi, Option.map_some, Option.some.injEq, Prod.mk.injEq] at hinfo
    obtain ⟨hz, h1, h2⟩ := hinfo
    cases hzz : i.zero with
    | none => simp [hzz] at hz
    | some z =>
      simp only [hzz, Option.map_some, Option.some.injEq] at hz
      rcases A with _ | ad
      · obtain rfl := hr.bare rfl
        have hm : m = 0 := by have := hr.le; omega
        subst hm
        obtain rfl : news = [] := List.eq_nil_of_length_eq_zero hr.len
        have hrun := run_append_owned_none (P := P) (w := w) base t o.type e i k hu hi v rows.length rows.flatten hown.row
        unfold Oper.wp
        simp [execOp, ho, resolve, invoke, builtin, hs, hx, hrun, Result.andThen]
        exact h v w (by simpa using hown) (World.grownBy.refl w _)
      · have hnews : ∀ (j : Nat) (u : Value), news.flatten[j]? = some u → w.cell? (ad.add j) = some u := by
          intro j u hu
          have hm0 : 0 < m := by
            have h3 := (List.getElem?_eq_some_iff.1 hu).1
            rw [flat_len hr.wid, hr.len] at h3
            rcases Nat.eq_zero_or_pos m with h4 | h4
            · rw [h4, Nat.zero_mul] at h3; omega
            · exact h4
          obtain ⟨b, off, hA, _⟩ := hr.at_ hm0
          injection hA with hA
          subst hA
          exact hr.news hk j u hu
        refine wp_append_own (P := P) w s x t ho base e i z k B hu hi hzz h1 h2 hz hk v rows.length rows.flatten hs hown.row ad m c news.flatten hx (by rw [flat_len hr.wid, hr.len]) hnews (flat_one hr.one) (by unfold maxLen; omega) hsmall hbase ?_
        intro v' w' hown' hg _
        refine h v' w' ⟨?_, mem_app hown.wid hr.wid, mem_app hown.one hr.one⟩ hg
        rw [List.flatten_append, List.length_append, hr.len]
        exact hown'
theorem wpList_append_r {P : Program} {w : World} {ops : Array Oper} {rest : List Oper} {o : Oper} {a : Act} {Q : Exit → Act → World → Prop} (hgd : o.guard = none) (t e : TypeId) (k B : Nat) (s x : Operand)
    (ho : o.op = .call { callee := .builtin .append, args := #[s, x], argTypes := #[t, t] }) (hu : P.underlying t = some (.slice e)) (hinfo : (P.info? e).map (fun i => (i.zero.map (·.cells.size), i.size, i.bytes)) = some (some k, k, B)) (hk : 0 < k)
    (base : Nat) (v : Value) (rows : List (List Value)) (hs : a.eval s = v) (hown : OwnR e k w base v rows) (A : Option Addr) (m c : Nat) (news : List (List Value)) (hx : a.eval x = .slice A m c) (hr : Rws k w A m c news)
    (hsmall : (rows.length + m) * B ≤ 140737488355328) (hm63 : rows.length + m ≤ 140737488355328) (hbase : base ≤ w.heap.size)
    (h : ∀ v' w', OwnR e k w' base v' (rows ++ news) → w.grownBy w' v.ownBlock → wpList P ops Q rest (a.put o.dst v') w') : wpList P ops Q (o :: rest) a w :=
  wpList_plain hgd fun _ hK => wp_append_r t e k B s x ho hu hinfo hk base v rows hs hown A m c news hx hr hsmall hm63 hbase fun v' w' h2 h3 => hK _ _ (h v' w' h2 h3)
/-- the same as one step of a region that draws its order -/
theorem step_append_r {P : Program} {ops : Array Oper} {o : Oper} {a : Act} {w : World} {K : Act → World → Prop} {Q : Exit → Act → World → Prop} {E : Prop} (t e : TypeId) (k B : Nat) (s x : Operand)
    (ho : o.op = .call { callee := .builtin .append, args := #[s, x], argTypes := #[t, t] }) (hu : P.underlying t = some (.slice e)) (hinfo : (P.info? e).map (fun i => (i.zero.map (·.cells.size), i.size, i.bytes)) = some (some k, k, B)) (hk : 0 < k)
    (base : Nat) (v : Value) (rows : List (List Value)) (hs : a.eval s = v) (hown : OwnR e k w base v rows) (A : Option Addr) (m c : Nat) (news : List (List Value)) (hx : a.eval x = .slice A m c) (hr : Rws k w A m c news)
    (hsmall : (rows.length + m) * B ≤ 140737488355328) (hm63 : rows.length + m ≤ 140737488355328) (hbase : base ≤ w.heap.size) (hw : Region.wanted o (yielded ops a.tmps) = true)
    (h : ∀ v' w', OwnR e k w' base v' (rows ++ news) → w.grownBy w' v.ownBlock → K (a.put o.dst v') w') : if Region.wanted o (yielded ops a.tmps) = true then Oper.wp P o a w K Q else E := by
  rw [if_pos hw]
  exact wp_append_r t e k B s x ho hu hinfo hk base v rows hs hown A m c news hx hr hsmall hm63 hbase h
/-- the same, and where it lies -/
theorem wpList_append_r_at {P : Program} {w : World} {ops : Array Oper} {rest : List Oper} {o : Oper} {a : Act} {Q : Exit → Act → World → Prop} (hgd : o.guard = none) (t e : TypeId) (k B : Nat) (s x : Operand)
    (ho : o.op = .call { callee := .builtin .append, args := #[s, x], argTypes := #[t, t] }) (hu : P.underlying t = some (.slice e)) (hinfo : (P.info? e).map (fun i => (i.zero.map (·.cells.size), i.size, i.bytes)) = some (some k, k, B)) (hk : 0 < k)
    (base : Nat) (v : Value) (rows : List (List Value)) (hs : a.eval s = v) (hown : OwnR e k w base v rows) (A : Option Addr) (m c : Nat) (news : List (List Value)) (hx : a.eval x = .slice A m c) (hr : Rws k w A m c news)
    (hsmall : (rows.length + m) * B ≤ 140737488355328) (hm63 : rows.length + m ≤ 140737488355328) (hbase : base ≤ w.heap.size)
    (h : ∀ v' w', OwnR e k w' base v' (rows ++ news) → w.grownBy w' v.ownBlock → (v'.ownBlock = v.ownBlock ∨ v'.ownBlock = some w.heap.size) → wpList P ops Q rest (a.put o.dst v') w') : wpList P ops Q (o :: rest) a w := by
  cases hi : P.info? e with
  | none => simp [hi] at hinfo
  | some i =>
    simp only [hi, Option.map_some, Option.some.injEq, Prod.mk.injEq] at hinfo
    obtain ⟨hz, h1, h2⟩ := hinfo
    cases hzz : i.zero with
    | none => simp [hzz] at hz
    | some z =>
      simp only [hzz, Option.map_some, Option.some.injEq] at hz
      rcases A with _ | ad
      · obtain rfl := hr.bare rfl
        have hm : m = 0 := by have := hr.le; omega
        subst hm
        obtain rfl : news = [] := List.eq_nil_of_length_eq_zero hr.len
        refine wpList_append_own_none hgd s x t ho base e i k hu hi v rows.length rows.flatten hs hown.row hx ?_
        exact h v w (by simpa using hown) (World.grownBy.refl w _) (.inl rfl)
      · have hnews : ∀ (j : Nat) (u : Value), news.flatten[j]? = some u → w.cell? (ad.add j) = some u := by
          intro j u hu
          have hm0 : 0 < m := by
            have h3 := (List.getElem?_eq_some_iff.1 hu).1
            rw [flat_len hr.wid, hr.len] at h3
            rcases Nat.eq_zero_or_pos m with h4 | h4
            · rw [h4, Nat.zero_mul] at h3; omega
            · exact h4
          obtain ⟨b, off, hA, _⟩ := hr.at_ hm0
          injection hA with hA
          subst hA
          exact hr.news hk j u hu
        refine wpList_append_own_at (P := P) w hgd s x t ho base e i z k B hu hi hzz h1 h2 hz hk v rows.length rows.flatten hs hown.row ad m c news.flatten hx (by rw [flat_len hr.wid, hr.len]) hnews (flat_one hr.one) (by unfold maxLen; omega) hsmall hbase ?_
        intro v' w' hown' hg _ hat
        refine h v' w' ⟨?_, mem_app hown.wid hr.wid, mem_app hown.one hr.one⟩ hg hat
        rw [List.flatten_append, List.length_append, hr.len]
        exact hown'
/-- a literal of one row -/
theorem one_rws (k : Nat) (e : TypeId) (w : World) (r : List Value) (hr : r.length = k) (h1 : ∀ u ∈ r, u.oneCell' = true) : Rws k (w.alloc (.cells r.toArray e)) (some ⟨w.heap.size, 0, none⟩) 1 1 [r] := by
  refine ⟨rfl, fun x hx => ?_, fun x hx => ?_, Nat.le_refl _, by unfold maxLen; omega, (fun e => by cases e), fun _ => ⟨w.heap.size, 0, rfl, fun j hj i hi => ?_⟩⟩
  · rw [List.mem_singleton.1 hx]; exact hr
  · rw [List.mem_singleton.1 hx]; exact h1
  · obtain rfl : j = 0 := by omega
    rw [Nat.zero_mul, Nat.add_zero, Nat.zero_add, cell_of_row _ _ _ _ _ _ (heap_alloc_new w _)]
    simp [List.getD_eq_getElem?_getD, List.getElem?_eq_getElem (show i < r.length by omega)]
end Go.Proofs.Ytekmagpokcloaaa
