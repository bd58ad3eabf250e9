/- Joined texts: Numbers as bytes: which bytes stand ahead; the bytes of several numbers, and the numbers that bytes are cut into. Slices of numbers of any kind: what they read as; the call's own, and one more appended. The laws' arguments, opened: a slice of numbers. The laws' arguments, opened: a slice of bytes. The walks over package num's isSize, fits and Put: a number's bytes. The walk over package num's Get: the number of some bytes. What the walks over package num's laws, and others, share: pieces of bytes, numbers that fit; what a call gives. Slices whose elements are rows of k cells (structs, or one cell): what they read as; the call's own; append. -/
import Derived.Test.YtafmompplcaadaaGreatDoorAuJA
import Derived.Laws.AppendOwnNone
import Derived.Laws.OwnMore
import Derived.Laws.ResultCell
import Derived.Maps.AppendAt
import Derived.ProofKit
import Derived.OpenShut
import Derived.Deep.DeepHandedRow
import Derived.WalkMore
import Derived.ScopeJumps
/- Numbers as bytes: which bytes stand ahead; the bytes of several numbers, and the numbers that bytes are cut into. -/
namespace Go.Proofs.YtafmompplcaadaaGreatDoor
open Go

theorem numOf_eq (l : List Int) (a : Nat) : numOf l a = a * 256 ^ l.length + numL l := by
  induction l generalizing a with
  | nil => simp [numOf, numL]
  | cons x l ih =>
    rw [numL, numOf, numOf, ih (256 * a + x.toNat), ih (256 * 0 + x.toNat), List.length_cons, Nat.pow_succ]
    rw [Nat.add_mul, Nat.add_mul, Nat.mul_comm 256 a, Nat.mul_assoc, Nat.mul_comm 256 (256 ^ l.length)]
    omega
theorem numL_cons (x : Int) (l : List Int) : numL (x :: l) = x.toNat * 256 ^ l.length + numL l := by
  rw [numL, numOf, numOf_eq, Nat.mul_zero, Nat.zero_add]
def u8s (l : List Int) : List UInt8 := l.map fun n => UInt8.ofNat n.toNat
theorem u8_lt (x y : Int) (hx : 0 ≤ x ∧ x < 256) (hy : 0 ≤ y ∧ y < 256) : (UInt8.ofNat x.toNat < UInt8.ofNat y.toNat) ↔ x < y := by
  rw [UInt8.lt_iff_toNat_lt]
  simp only [UInt8.toNat_ofNat']
  omega
theorem u8_eq (x y : Int) (hx : 0 ≤ x ∧ x < 256) (hy : 0 ≤ y ∧ y < 256) : (UInt8.ofNat x.toNat = UInt8.ofNat y.toNat) ↔ x = y := by
  rw [← UInt8.toNat_inj]
  simp only [UInt8.toNat_ofNat']
  omega
/-- of as many bytes the lesser number's stand ahead -/
theorem less_num (l m : List Int) (h : l.length = m.length) (hl : ∀ x ∈ l, 0 ≤ x ∧ x < 256) (hm : ∀ x ∈ m, 0 ≤ x ∧ x < 256) : Op.bytesLess (u8s l) (u8s m) = decide (numL l < numL m) := by
  induction l generalizing m with
  | nil =>
    cases m with
    | nil => simp [u8s, Op.bytesLess]
    | cons y m => simp at h
  | cons x l ih =>
    cases m with
    | nil => simp at h
    | cons y m =>
      have hlen : l.length = m.length := by simpa using h
      have hx := hl x (by simp)
      have hy := hm y (by simp)
      have hl' : ∀ z ∈ l, 0 ≤ z ∧ z < 256 := fun z hz => hl z (by simp [hz])
      have hm' : ∀ z ∈ m, 0 ≤ z ∧ z < 256 := fun z hz => hm z (by simp [hz])
      have ih := ih m hlen hl' hm'
      have bl := numL_bound l hl'
      have bm := numL_bound m hm'
      rw [hlen] at bl
      rw [numL_cons, numL_cons, hlen]
      show (decide (UInt8.ofNat x.toNat < UInt8.ofNat y.toNat) || (UInt8.ofNat x.toNat == UInt8.ofNat y.toNat && Op.bytesLess (u8s l) (u8s m))) = _
      rw [ih]
      generalize 256 ^ m.length = P at bl bm ⊢
      generalize numL l = a at bl ⊢
      generalize numL m = b at bm ⊢
      rw [Bool.eq_iff_iff, Bool.or_eq_true, Bool.and_eq_true, decide_eq_true_eq, decide_eq_true_eq, decide_eq_true_eq, beq_iff_eq, u8_lt x y hx hy, u8_eq x y hx hy]
      obtain ⟨X, hX⟩ : ∃ X, X = x.toNat := ⟨_, rfl⟩
      obtain ⟨Y, hY⟩ : ∃ Y, Y = y.toNat := ⟨_, rfl⟩
      rw [← hX, ← hY]
      have e1 : x < y ↔ X < Y := by omega
      have e2 : x = y ↔ X = Y := by omega
      rw [e1, e2]
      constructor
      · rintro (hlt | ⟨rfl, hab⟩)
        · have : (X + 1) * P ≤ Y * P := Nat.mul_le_mul_right _ hlt
          rw [Nat.add_mul, Nat.one_mul] at this
          omega
        · omega
      · intro hlt
        rcases Nat.lt_trichotomy X Y with h1 | h1 | h1
        · exact .inl h1
        · subst h1
          exact .inr ⟨rfl, by omega⟩
        · have : (Y + 1) * P ≤ X * P := Nat.mul_le_mul_right _ h1
          rw [Nat.add_mul, Nat.one_mul] at this
          omega
theorem putL_mem (N k : Nat) : ∀ x ∈ putL N k, 0 ≤ x ∧ x < 256 := by
  intro x hx
  obtain ⟨i, _, rfl⟩ := List.mem_map.1 hx
  exact putAt_ok N k i
theorem less_put (N M k : Nat) (hN : N < 256 ^ k) (hM : M < 256 ^ k) : Op.bytesLess (u8s (putL N k)) (u8s (putL M k)) = decide (N < M) := by
  rw [less_num _ _ (by rw [putL_length, putL_length]) (putL_mem N k) (putL_mem M k), num_put N k hN, num_put M k hM]
/-- one byte more, with a nought ahead -/
theorem put_long (N k : Nat) (hN : N < 256 ^ k) : putL N (k + 1) = 0 :: putL N k := by
  rw [putL, List.range_succ_eq_map, List.map_cons, List.map_map]
  congr 1
  · rw [putAt, show k + 1 - 1 - 0 = k by omega, Nat.div_eq_of_lt hN]
    rfl
  · apply List.map_congr_left
    intro i _
    show putAt N (k + 1) (i + 1) = putAt N k i
    rw [putAt, putAt, show k + 1 - 1 - (i + 1) = k - 1 - i by omega]

/-- the bytes of several numbers -/
def catL : List (Nat × Nat) → List Int
  | [] => []
  | p :: l => putL p.1 p.2 ++ catL l
/-- the numbers that bytes are cut into -/
def cutL : List Nat → List Int → List Nat
  | [], _ => []
  | k :: ks, b => numL (b.take k) :: cutL ks (b.drop k)
def fitsL (l : List (Nat × Nat)) : Prop := ∀ p ∈ l, p.1 < 256 ^ p.2
theorem catL_append (l m : List (Nat × Nat)) : catL (l ++ m) = catL l ++ catL m := by
  induction l with
  | nil => rfl
  | cons p l ih => rw [List.cons_append, catL, catL, ih, List.append_assoc]
theorem catL_length (l : List (Nat × Nat)) : (catL l).length = (l.map (·.2)).sum := by
  induction l with
  | nil => rfl
  | cons p l ih => rw [catL, List.length_append, putL_length, ih, List.map_cons, List.sum_cons]
theorem cutL_length (ks : List Nat) (b : List Int) : (cutL ks b).length = ks.length := by
  induction ks generalizing b with
  | nil => rfl
  | cons k ks ih => rw [cutL, List.length_cons, ih, List.length_cons]
/-- numbers are cut out of their bytes -/
theorem cut_cat (l : List (Nat × Nat)) (h : fitsL l) : cutL (l.map (·.2)) (catL l) = l.map (·.1) := by
  induction l with
  | nil => rfl
  | cons p l ih =>
    have hp := h p (by simp)
    have ih := ih (fun q hq => h q (by simp [hq]))
    rw [List.map_cons, List.map_cons, catL, cutL]
    have e1 : (putL p.1 p.2 ++ catL l).take p.2 = putL p.1 p.2 := List.take_left' (putL_length _ _)
    have e2 : (putL p.1 p.2 ++ catL l).drop p.2 = catL l := List.drop_left' (putL_length _ _)
    rw [e1, e2, num_put _ _ hp, ih]
/-- what is cut is put together as the same bytes -/
theorem cat_cut (ks : List Nat) (b : List Int) (hb : ∀ x ∈ b, 0 ≤ x ∧ x < 256) (h : ks.sum = b.length) : catL ((cutL ks b).zip ks) = b := by
  induction ks generalizing b with
  | nil =>
    have : b = [] := List.eq_nil_of_length_eq_zero (by simpa using h.symm)
    subst this
    rfl
  | cons k ks ih =>
    rw [List.sum_cons] at h
    have hd : ks.sum = (b.drop k).length := by rw [List.length_drop]; omega
    have ih := ih (b.drop k) (fun x hx => hb x (List.mem_of_mem_drop hx)) hd
    have ht : (b.take k).length = k := by rw [List.length_take]; omega
    have hp := put_num (b.take k) (fun x hx => hb x (List.mem_of_mem_take hx))
    rw [ht] at hp
    rw [cutL, List.zip_cons_cons, catL, ih, hp, List.take_append_drop]
theorem fits_cut (ks : List Nat) (b : List Int) (hb : ∀ x ∈ b, 0 ≤ x ∧ x < 256) (h : ks.sum = b.length) : fitsL ((cutL ks b).zip ks) := by
  induction ks generalizing b with
  | nil => intro p hp; simp [cutL] at hp
  | cons k ks ih =>
    rw [List.sum_cons] at h
    have hd : ks.sum = (b.drop k).length := by rw [List.length_drop]; omega
    have ih := ih (b.drop k) (fun x hx => hb x (List.mem_of_mem_drop hx)) hd
    have ht : (b.take k).length = k := by rw [List.length_take]; omega
    intro p hp
    rw [cutL, List.zip_cons_cons] at hp
    rcases List.mem_cons.1 hp with rfl | hp
    · have := numL_bound (b.take k) (fun x hx => hb x (List.mem_of_mem_take hx))
      rwa [ht] at this
    · exact ih p hp
end Go.Proofs.YtafmompplcaadaaGreatDoor

/- Slices of numbers of any kind: what they read as; the call's own, and one more appended. -/
namespace Go.Proofs.YtafmompplcaadaaGreatDoor
open Go.RowKit

/-- numbers of kind K, as cells -/
def inv (K : IntKind) (l : List Int) : List Value := l.map (Value.int K)
theorem inv_length (K : IntKind) (l : List Int) : (inv K l).length = l.length := by simp [inv]
theorem inv_get (K : IntKind) (l : List Int) (i : Nat) (h : i < l.length) : (inv K l)[i]? = some (.int K (l.getD i 0)) := by
  simp [inv, List.getD_eq_getElem?_getD, h]
theorem inv_append (K : IntKind) (l m : List Int) : inv K (l ++ m) = inv K l ++ inv K m := by simp [inv]
theorem inv_one (K : IntKind) (l : List Int) : ∀ u ∈ inv K l, u.oneCell' = true := by
  intro u hu
  simp only [inv, List.mem_map] at hu
  obtain ⟨x, _, rfl⟩ := hu
  rfl

/-- the slice value A, n, cap reads as the numbers l, of kind K -/
structure Its (K : IntKind) (w : World) (A : Option Addr) (n cap : Nat) (l : List Int) : Prop where
  len : l.length = n
  le : n ≤ cap
  max : cap ≤ maxLen
  bare : A = none → cap = 0
  at_ : 0 < n → ∃ b off, A = some ⟨b, off, none⟩ ∧ ∀ j, j < n → w.cell? ⟨b, off + j, none⟩ = some (.int K (l.getD j 0))
section
variable {K : IntKind} {w w' : World} {A : Option Addr} {n cap : Nat} {l : List Int}
theorem Its.below (h : Its K w A n cap l) (hb : Below w.heap.size w w') : Its K w' A n cap l := by
  refine ⟨h.len, h.le, h.max, h.bare, fun hn => ?_⟩
  obtain ⟨b, off, hA, hc⟩ := h.at_ hn
  exact ⟨b, off, hA, fun j hj => (hb.cell (p := ⟨b, off + j, none⟩) (block_lt_of_cell (hc j hj))).trans (hc j hj)⟩
theorem Its.draw (h : Its K w A n cap l) (k : Nat) : Its K (w.drewN k) A n cap l := ⟨h.len, h.le, h.max, h.bare, h.at_⟩
theorem Its.draw1 (h : Its K w A n cap l) : Its K w.drew A n cap l := ⟨h.len, h.le, h.max, h.bare, h.at_⟩
theorem Its.more (h : Its K w A n cap l) (o : Obj) : Its K (w.alloc o) A n cap l := h.below ((Below.refl _ _).alloc (Nat.le_refl _) _)
theorem Its.small (h : Its K w A n cap l) : n ≤ 9223372036854775807 := Nat.le_trans h.le (by have := h.max; unfold maxLen at this; omega)
theorem Its.grown {row : Option Nat} (h : Its K w A n cap l) (hg : w.grownBy w' row) (hne : ∀ b off, A = some ⟨b, off, none⟩ → some b ≠ row) : Its K w' A n cap l := by
  refine ⟨h.len, h.le, h.max, h.bare, fun hn => ?_⟩
  obtain ⟨b, off, hA, hc⟩ := h.at_ hn
  refine ⟨b, off, hA, fun j hj => ?_⟩
  rw [World.cell?_of_block (w := w) (a := ⟨b, off + j, none⟩) (hg.block b (block_lt_of_cell (hc j hj)) (hne b off hA))]
  exact hc j hj
end
theorem Its.nil (K : IntKind) (w : World) : Its K w none 0 0 [] := ⟨rfl, Nat.le_refl _, by unfold maxLen; omega, fun _ => rfl, fun h => by omega⟩

/-- a slice of numbers that the call made itself; e: the element's type -/
def OwnI (K : IntKind) (e : TypeId) (w : World) (base : Nat) (v : Value) (l : List Int) : Prop := w.ownsRow base e 1 v l.length (inv K l)
section
variable {K : IntKind} {e : TypeId} {w w' : World} {base : Nat} {v : Value} {l : List Int}
theorem OwnI.nil (K : IntKind) (e : TypeId) (w : World) (base : Nat) : OwnI K e w base (.slice none 0 0) [] := World.ownsRow_nil _ _ _ _
theorem OwnI.more (h : OwnI K e w base v l) (o : Obj) : OwnI K e (w.alloc o) base v l := World.ownsRow.alloc h o
theorem OwnI.draw1 (h : OwnI K e w base v l) : OwnI K e w.drew base v l := h
theorem OwnI.draw (h : OwnI K e w base v l) (k : Nat) : OwnI K e (w.drewN k) base v l := h
theorem OwnI.size (h : OwnI K e w base v l) : ∀ k, v.ownBlock = some k → base ≤ k ∧ k < w.heap.size := World.ownsRow.lt h
theorem OwnI.mono {b : Nat} (h : OwnI K e w base v l) (hb : b ≤ base) : OwnI K e w b v l := by
  refine ⟨h.1, ?_⟩
  rcases h.2 with h0 | ⟨g, cap, cur, hv, hg, rest⟩
  · exact .inl h0
  · exact .inr ⟨g, cap, cur, hv, Nat.le_trans hb hg, rest⟩
theorem OwnI.below (h : OwnI K e w base v l) (hb : Below w.heap.size w w') : OwnI K e w' base v l := by
  refine ⟨h.1, ?_⟩
  rcases h.2 with h0 | ⟨g, cap, cur, hv, hg, hh, rest⟩
  · exact .inl h0
  · exact .inr ⟨g, cap, cur, hv, hg, (hb.block g (Array.getElem?_eq_some_iff.1 hh).1).trans hh, rest⟩
theorem OwnI.far {row : Option Nat} (h : OwnI K e w base v l) (hg : w.grownBy w' row) (hne : v.ownBlock = none ∨ v.ownBlock ≠ row) : OwnI K e w' base v l := World.ownsRow.kept h hg hne
theorem OwnI.its (h : OwnI K e w base v l) : ∃ A n cap, v = .slice A n cap ∧ Its K w A n cap l := by
  rcases h.2 with ⟨hv, hn⟩ | ⟨g, cap, cur, hv, _, hh, hnc, hcm, hcs, htake⟩
  · obtain rfl : l = [] := List.eq_nil_of_length_eq_zero hn
    exact ⟨none, 0, 0, hv, Its.nil K w⟩
  · refine ⟨some ⟨g, 0, none⟩, l.length, cap, hv, rfl, hnc, hcm, (fun e => by cases e), fun hn => ⟨g, 0, rfl, fun j hj => ?_⟩⟩
    rw [Nat.zero_add, cell_of_row _ _ _ _ _ _ hh, ← inv_get K l j hj, ← htake, List.getElem?_take, if_pos (by omega)]
    simp
end

/-- append(v, s...): v the call's own, s whatever; t: the slice's type, e the element's, of B bytes -/
theorem wpList_append_i {P : Program} {w : World} {ops : Array Oper} {rest : List Oper} {o : Oper} {a : Act} {Q : Exit → Act → World → Prop} (hgd : o.guard = none) (t e : TypeId) (K : IntKind) (B : Nat) (s x : Operand)
    (ho : o.op = .call { callee := .builtin .append, args := #[s, x], argTypes := #[t, t] }) (hu : P.underlying t = some (.slice e)) (hinfo : (P.info? e).map (fun i => (i.zero, i.size, i.bytes)) = some (some (.int K 0), 1, B)) (hB : B ≤ 8)
    (base : Nat) (v : Value) (l : List Int) (hs : a.eval s = v) (hown : OwnI K e w base v l) (A : Option Addr) (m c : Nat) (l2 : List Int) (hx : a.eval x = .slice A m c) (hr : Its K w A m c l2)
    (hsmall : l.length + m ≤ 17592186044416) (hbase : base ≤ w.heap.size)
    (h : ∀ v' w', OwnI K e w' base v' (l ++ l2) → w.grownBy w' v.ownBlock → wpList P ops Q rest (a.put o.dst v') w') : wpList P ops Q (o :: rest) a w := by
  obtain ⟨i, hi, hz, h1, h2⟩ := info_parts hinfo
  have hl2 : (inv K l2).length = m * 1 := by rw [inv_length, hr.len, Nat.mul_one]
  rcases A with _ | ad
  · obtain rfl := hr.bare rfl
    have hm : m = 0 := by have := hr.le; omega
    subst hm
    obtain rfl : l2 = [] := List.eq_nil_of_length_eq_zero hr.len
    refine wpList_append_own_none hgd s x t ho base e i 1 hu hi v l.length (inv K l) hs hown hx ?_
    exact h v w (by simpa using hown) (World.grownBy.refl w _)
  · have hb8 : (l.length + m) * B ≤ (l.length + m) * 8 := Nat.mul_le_mul_left _ hB
    refine wpList_append_own (P := P) w hgd s x t ho base e i (.int K 0) 1 B hu hi hz h1 h2 rfl (by omega) v l.length (inv K l) hs hown ad m c (inv K l2) hx hl2 ?_ (inv_one K l2) (by unfold maxLen; omega) (by omega) hbase ?_
    · intro j u hu'
      have hj : j < l2.length := by
        have := (List.getElem?_eq_some_iff.1 hu').1
        rwa [inv_length] at this
      rw [inv_get K l2 j hj] at hu'
      obtain ⟨b, off, hA, hc⟩ := hr.at_ (by have := hr.len; omega)
      injection hA with hA
      subst hA
      have hadd : (⟨b, off, none⟩ : Addr).add j = ⟨b, off + j, none⟩ := by
        unfold Addr.add
        split
        · rename_i h0; subst h0; rfl
        · rfl
      rw [hadd, hc j (by have := hr.len; omega), hu']
    · intro v' w' hown' hg _
      refine h v' w' ?_ hg
      unfold OwnI
      rw [inv_append, List.length_append, hr.len]
      exact hown'
/-- the same, and where it lies: v the call's own, s whatever; t: the slice's type, e the element's, of B bytes -/
theorem wpList_append_i_at {P : Program} {w : World} {ops : Array Oper} {rest : List Oper} {o : Oper} {a : Act} {Q : Exit → Act → World → Prop} (hgd : o.guard = none) (t e : TypeId) (K : IntKind) (B : Nat) (s x : Operand)
    (ho : o.op = .call { callee := .builtin .append, args := #[s, x], argTypes := #[t, t] }) (hu : P.underlying t = some (.slice e)) (hinfo : (P.info? e).map (fun i => (i.zero, i.size, i.bytes)) = some (some (.int K 0), 1, B)) (hB : B ≤ 8)
    (base : Nat) (v : Value) (l : List Int) (hs : a.eval s = v) (hown : OwnI K e w base v l) (A : Option Addr) (m c : Nat) (l2 : List Int) (hx : a.eval x = .slice A m c) (hr : Its K w A m c l2)
    (hsmall : l.length + m ≤ 17592186044416) (hbase : base ≤ w.heap.size)
    (h : ∀ v' w', OwnI K e w' base v' (l ++ l2) → w.grownBy w' v.ownBlock → (v'.ownBlock = v.ownBlock ∨ v'.ownBlock = some w.heap.size) → wpList P ops Q rest (a.put o.dst v') w') : wpList P ops Q (o :: rest) a w := by
  obtain ⟨i, hi, hz, h1, h2⟩ := info_parts hinfo
  have hl2 : (inv K l2).length = m * 1 := by rw [inv_length, hr.len, Nat.mul_one]
  rcases A with _ | ad
  · obtain rfl := hr.bare rfl
    have hm : m = 0 := by have := hr.le; omega
    subst hm
    obtain rfl : l2 = [] := List.eq_nil_of_length_eq_zero hr.len
    refine wpList_append_own_none hgd s x t ho base e i 1 hu hi v l.length (inv K l) hs hown hx ?_
    exact h v w (by simpa using hown) (World.grownBy.refl w _) (.inl rfl)
  · have hb8 : (l.length + m) * B ≤ (l.length + m) * 8 := Nat.mul_le_mul_left _ hB
    refine wpList_append_own_at (P := P) w hgd s x t ho base e i (.int K 0) 1 B hu hi hz h1 h2 rfl (by omega) v l.length (inv K l) hs hown ad m c (inv K l2) hx hl2 ?_ (inv_one K l2) (by unfold maxLen; omega) (by omega) hbase ?_
    · intro j u hu'
      have hj : j < l2.length := by
        have := (List.getElem?_eq_some_iff.1 hu').1
        rwa [inv_length] at this
      rw [inv_get K l2 j hj] at hu'
      obtain ⟨b, off, hA, hc⟩ := hr.at_ (by have := hr.len; omega)
      injection hA with hA
      subst hA
      have hadd : (⟨b, off, none⟩ : Addr).add j = ⟨b, off + j, none⟩ := by
        unfold Addr.add
        split
        · rename_i h0; subst h0; rfl
        · rfl
      rw [hadd, hc j (by have := hr.len; omega), hu']
    · intro v' w' hown' hg _ hat
      refine h v' w' ?_ hg hat
      unfold OwnI
      rw [inv_append, List.length_append, hr.len]
      exact hown'
/-- make([]T, 0, n), T a number of kind K -/
theorem wpList_make_i {P : Program} {w : World} {ops : Array Oper} {rest : List Oper} {o : Oper} {a : Act} {Q : Exit → Act → World → Prop} (hgd : o.guard = none) (t e : TypeId) (K : IntKind) (B : Nat) (l c : Operand) (ho : o.op = Op.makeSlice t l c)
    (hu : P.underlying t = some (.slice e)) (hinfo : (P.info? e).map (fun i => (i.zero, i.size, i.bytes)) = some (some (.int K 0), 1, B)) (hB : B ≤ 8)
    (base : Nat) (C : Int) (n : Nat) (hl : a.eval l = .int .i64 0) (hc : a.eval c = .int .i64 C) (hC : C = (n : Int)) (hn : n ≤ 17592186044416) (hb : base ≤ w.heap.size)
    (h : ∀ v' w', OwnI K e w' base v' [] → w.grownBy w' none → wpList P ops Q rest (a.put o.dst v') w') : wpList P ops Q (o :: rest) a w := by
  obtain ⟨i, hi, hz, h1, h2⟩ := info_parts hinfo
  have hb8 : B * n ≤ 8 * n := Nat.mul_le_mul_right _ hB
  exact wpList_make_own w hgd l c t ho base e i (.int K 0) 1 hu hi hz h1 .i64 .i64 C n hl hc hC (by rw [h2]; omega) (by unfold maxLen; omega) hb
    (fun w' r1 r2 => h _ w' r1 r2)
/-- a literal of one number -/
theorem one_its (K : IntKind) (e : TypeId) (w : World) (x : Int) : Its K (w.alloc (.cells #[.int K x] e)) (some ⟨w.heap.size, 0, none⟩) 1 1 [x] := by
  refine ⟨rfl, Nat.le_refl _, by unfold maxLen; omega, (fun e => by cases e), fun _ => ⟨w.heap.size, 0, rfl, fun j hj => ?_⟩⟩
  obtain rfl : j = 0 := by omega
  exact (cell_of_row _ _ _ _ _ _ (heap_alloc_new w _)).trans rfl
/-- two slices that lie in blocks of their own -/
def Sep (a b : Value) : Prop := ∀ g, a.ownBlock = some g → b.ownBlock ≠ some g
theorem Sep.symm {a b : Value} (h : Sep a b) : Sep b a := fun g hb ha => h g ha hb
theorem Sep.nil (b : Value) : Sep (.slice none 0 0) b := fun g h => by simp [Value.ownBlock] at h
theorem Sep.row {a b : Value} (h : Sep a b) : a.ownBlock = none ∨ a.ownBlock ≠ b.ownBlock := by
  cases ha : a.ownBlock with
  | none => exact .inl rfl
  | some g => exact .inr fun e => h g ha e.symm
/-- one of them grows -/
theorem Sep.step {a a' b : Value} {n : Nat} (h : Sep a b) (hb : ∀ g, b.ownBlock = some g → g < n) (ha : a'.ownBlock = a.ownBlock ∨ a'.ownBlock = some n) : Sep a' b := by
  intro g hg hbg
  rcases ha with e | e
  · exact h g (e ▸ hg) hbg
  · rw [hg] at e
    have := hb g hbg
    injection e with e
    omega
end Go.Proofs.YtafmompplcaadaaGreatDoor

/- The laws' arguments, opened: a slice of numbers. -/
namespace Go.Proofs.YtafmompplcaadaaGreatDoor
open Go.ChangeShapes Go.WideShapes Go.ChangeAt Go.RowKit

theorem own : ownKnob Tryz.prog.godebug = none := by kernel_rfl
theorem cellsInt : Tryz.prog.cellsOf 3 = 1 := by kernel_rfl
theorem laidOut : laidOutB Tryz.prog = true := by kernel_rfl

theorem one_of_take3 {l : List Value} {i : Nat} {v : Value} (h : (l.drop i).take 1 = [v]) : l[i]? = some v := by
  have h1 : ((l.drop i).take 1)[0]? = some v := by rw [h]; rfl
  rw [List.getElem?_take, if_pos (by omega), List.getElem?_drop, Nat.add_zero] at h1
  exact h1
section
variable {H : Type} {enc : TypeId × Value → H} {W : World} {base : Nat} {spare : Nat → Bool} {held : Bool}
/-- a slice of numbers of kind K: t the slice's type, e the element's -/
theorem open_its {t e : TypeId} {K : IntKind} {fuel : Nat} {cs : List Value} {x : DataW H × List MemPlace} (ht : Tryz.prog.underlying t = some (.slice e)) (he : Tryz.prog.underlying e = some (.int K)) (hc : Tryz.prog.cellsOf e = 1)
    (h : DataW.trod enc Tryz.prog W base spare held fuel t cs = some x) : ∃ (A : Option Addr) (n c : Nat) (l : List Int), cs = [.slice A n c] ∧ Its K W A n c l ∧ ∀ y ∈ l, (Lit.int K y).wf = true := by
  rcases open_ints ht he hc h with ⟨hcs, _⟩ | ⟨a, len, cap, zs, hcs, _, hl, hm, hz, _, hcell, hwz⟩
  · exact ⟨none, 0, 0, [], hcs, Its.nil K W, fun y hy => by cases hy⟩
  · have hlen : len ≤ zs.length := by rw [hz]; split <;> omega
    refine ⟨some a, len, cap, zs.take len, hcs, ⟨by rw [List.length_take]; omega, hl, hm, (fun e => by cases e), ?_⟩, fun y hy => hwz y (List.mem_of_mem_take hy)⟩
    intro hn
    obtain ⟨b, off, rfl, hc⟩ := ints_at hcell (by omega)
    refine ⟨b, off, rfl, fun j hj => ?_⟩
    rw [hc j (by omega)]
    simp [List.getD_eq_getElem?_getD, hj]
theorem trodAll_five {P : Program} {w : World} {t0 t1 t2 t3 t4 : TypeId} {args : Array Value} {ds : List (DataW H)} {ps : List MemPlace} (h : DataW.TrodAll enc P w base spare held [t0, t1, t2, t3, t4] args.toList ds ps) :
    ∃ v0 v1 v2 v3 v4 d0 d1 d2 d3 d4 p0 p1 p2 p3 p4, args = #[v0, v1, v2, v3, v4] ∧ ds = [d0, d1, d2, d3, d4] ∧ ps = p0 ++ p1 ++ p2 ++ p3 ++ p4 ∧ DataW.Trod enc P w base spare held t0 v0 d0 p0 ∧ DataW.Trod enc P w base spare held t1 v1 d1 p1 ∧ DataW.Trod enc P w base spare held t2 v2 d2 p2 ∧ DataW.Trod enc P w base spare held t3 v3 d3 p3 ∧ DataW.Trod enc P w base spare held t4 v4 d4 p4 := by
  obtain ⟨v0, vs0, d0, es0, p0, q0, hargs, rfl, rfl, h0, r0⟩ := trodAll_cons h
  obtain ⟨v1, vs1, d1, es1, p1, q1, rfl, rfl, rfl, h1, r1⟩ := trodAll_cons r0
  obtain ⟨v2, vs2, d2, es2, p2, q2, rfl, rfl, rfl, h2, r2⟩ := trodAll_cons r1
  obtain ⟨v3, vs3, d3, es3, p3, q3, rfl, rfl, rfl, h3, r3⟩ := trodAll_cons r2
  obtain ⟨v4, vs4, d4, es4, p4, q4, rfl, rfl, rfl, h4, r4⟩ := trodAll_cons r3
  obtain ⟨rfl, rfl, rfl⟩ := trodAll_nil r4
  exact ⟨v0, v1, v2, v3, v4, d0, d1, d2, d3, d4, p0, p1, p2, p3, p4, by cases args; simp_all, rfl, by simp, h0, h1, h2, h3, h4⟩
theorem trodAll_mk5 {P : Program} {w : World} {t0 t1 t2 t3 t4 : TypeId} {v0 v1 v2 v3 v4 : Value} {d0 d1 d2 d3 d4 : DataW H} {p0 p1 p2 p3 p4 : List MemPlace} (h0 : DataW.Trod enc P w base spare held t0 v0 d0 p0) (h1 : DataW.Trod enc P w base spare held t1 v1 d1 p1) (h2 : DataW.Trod enc P w base spare held t2 v2 d2 p2) (h3 : DataW.Trod enc P w base spare held t3 v3 d3 p3) (h4 : DataW.Trod enc P w base spare held t4 v4 d4 p4) : DataW.TrodAll enc P w base spare held [t0, t1, t2, t3, t4] [v0, v1, v2, v3, v4] [d0, d1, d2, d3, d4] (p0 ++ (p1 ++ (p2 ++ (p3 ++ (p4))))) :=
  ⟨p0, _, h0, trodAll_mk4 h1 h2 h3 h4, rfl⟩
theorem trodAll_six {P : Program} {w : World} {t0 t1 t2 t3 t4 t5 : TypeId} {args : Array Value} {ds : List (DataW H)} {ps : List MemPlace} (h : DataW.TrodAll enc P w base spare held [t0, t1, t2, t3, t4, t5] args.toList ds ps) :
    ∃ v0 v1 v2 v3 v4 v5 d0 d1 d2 d3 d4 d5 p0 p1 p2 p3 p4 p5, args = #[v0, v1, v2, v3, v4, v5] ∧ ds = [d0, d1, d2, d3, d4, d5] ∧ ps = p0 ++ p1 ++ p2 ++ p3 ++ p4 ++ p5 ∧ DataW.Trod enc P w base spare held t0 v0 d0 p0 ∧ DataW.Trod enc P w base spare held t1 v1 d1 p1 ∧ DataW.Trod enc P w base spare held t2 v2 d2 p2 ∧ DataW.Trod enc P w base spare held t3 v3 d3 p3 ∧ DataW.Trod enc P w base spare held t4 v4 d4 p4 ∧ DataW.Trod enc P w base spare held t5 v5 d5 p5 := by
  obtain ⟨v0, vs0, d0, es0, p0, q0, hargs, rfl, rfl, h0, r0⟩ := trodAll_cons h
  obtain ⟨v1, vs1, d1, es1, p1, q1, rfl, rfl, rfl, h1, r1⟩ := trodAll_cons r0
  obtain ⟨v2, vs2, d2, es2, p2, q2, rfl, rfl, rfl, h2, r2⟩ := trodAll_cons r1
  obtain ⟨v3, vs3, d3, es3, p3, q3, rfl, rfl, rfl, h3, r3⟩ := trodAll_cons r2
  obtain ⟨v4, vs4, d4, es4, p4, q4, rfl, rfl, rfl, h4, r4⟩ := trodAll_cons r3
  obtain ⟨v5, vs5, d5, es5, p5, q5, rfl, rfl, rfl, h5, r5⟩ := trodAll_cons r4
  obtain ⟨rfl, rfl, rfl⟩ := trodAll_nil r5
  exact ⟨v0, v1, v2, v3, v4, v5, d0, d1, d2, d3, d4, d5, p0, p1, p2, p3, p4, p5, by cases args; simp_all, rfl, by simp, h0, h1, h2, h3, h4, h5⟩
theorem trodAll_mk6 {P : Program} {w : World} {t0 t1 t2 t3 t4 t5 : TypeId} {v0 v1 v2 v3 v4 v5 : Value} {d0 d1 d2 d3 d4 d5 : DataW H} {p0 p1 p2 p3 p4 p5 : List MemPlace} (h0 : DataW.Trod enc P w base spare held t0 v0 d0 p0) (h1 : DataW.Trod enc P w base spare held t1 v1 d1 p1) (h2 : DataW.Trod enc P w base spare held t2 v2 d2 p2) (h3 : DataW.Trod enc P w base spare held t3 v3 d3 p3) (h4 : DataW.Trod enc P w base spare held t4 v4 d4 p4) (h5 : DataW.Trod enc P w base spare held t5 v5 d5 p5) : DataW.TrodAll enc P w base spare held [t0, t1, t2, t3, t4, t5] [v0, v1, v2, v3, v4, v5] [d0, d1, d2, d3, d4, d5] (p0 ++ (p1 ++ (p2 ++ (p3 ++ (p4 ++ (p5)))))) :=
  ⟨p0, _, h0, trodAll_mk5 h1 h2 h3 h4 h5, rfl⟩
end
end Go.Proofs.YtafmompplcaadaaGreatDoor

/- The laws' arguments, opened: a slice of bytes. -/
namespace Go.Proofs.YtafmompplcaadaaGreatDoor
open Go.ChangeShapes Go.WideShapes Go.ChangeAt Go.RowKit

theorem cellsU8 : Tryz.prog.cellsOf 5 = 1 := by kernel_rfl
theorem cellsBytes : Tryz.prog.cellsOf 22 = 1 := by kernel_rfl
section
variable {H : Type} {enc : TypeId × Value → H} {W : World} {base : Nat} {spare : Nat → Bool} {held : Bool}
theorem open_bytes {fuel : Nat} {cs : List Value} {x : DataW H × List MemPlace} (h : DataW.trod enc Tryz.prog W base spare held fuel 22 cs = some x) :
    ∃ (A : Option Addr) (n c : Nat) (l : List Int), cs = [.slice A n c] ∧ Bts W A n c l := by
  rcases open_ints Tryz.underlying22 Tryz.underlying5 cellsU8 h with ⟨hcs, _⟩ | ⟨a, len, cap, zs, hcs, _, hl, hm, hz, _, hcell, hwz⟩
  · exact ⟨none, 0, 0, [], hcs, Bts.nil W⟩
  · have hlen : len ≤ zs.length := by rw [hz]; split <;> omega
    refine ⟨some a, len, cap, zs.take len, hcs, by rw [List.length_take]; omega, hl, hm, ?_, (fun e => by cases e), ?_⟩
    · intro j
      simp only [List.getD_eq_getElem?_getD, List.getElem?_take]
      split
      · cases hj : zs[j]? with
        | none => simp
        | some y =>
          have := bounds_u8 (hwz y (List.mem_of_getElem? hj))
          simp only [Option.getD_some]
          omega
      · simp
    · intro hn
      obtain ⟨b, off, rfl, hc⟩ := ints_at hcell (by omega)
      refine ⟨b, off, rfl, fun j hj => ?_⟩
      rw [hc j (by omega)]
      simp [List.getD_eq_getElem?_getD, hj]
end
end Go.Proofs.YtafmompplcaadaaGreatDoor

/- The walks over package num's isSize, fits and Put: a number's bytes. -/
namespace Go.Proofs.YtafmompplcaadaaGreatDoor
set_option linter.unusedVariables false
set_option linter.unusedSimpArgs false
open Go.RowKit

def sizeB (k : Int) : Bool := decide (1 ≤ k ∧ k ≤ 8)
def fitB (n : Int) (k : Int) : Bool := decide (1 ≤ k ∧ k ≤ 8 ∧ n.toNat < 256 ^ k.toNat)

theorem size_any (k : Int) (w : World) : Calls Tryz.prog 102 #[.int .i64 k] w fun e w' => e = .returned (.bool (sizeB k)) ∧ w = w' := by
  have k1 : 1 ≤ k → decide (k ≤ 8) = sizeB k := by
    intro h; unfold sizeB; rw [Bool.eq_iff_iff]; simp; omega
  have k2 : k < 1 → false = sizeB k := by
    intro h; unfold sizeB; rw [Bool.eq_iff_iff]; simp; omega
  have K1 := Lib.hid k1
  have K2 := Lib.hid k2
  clear k1 k2
  by_cases h : 1 ≤ k
  · go_enter Tryz.func102, Tryz.ntmps102
    go_wp2
    go_ret
    exact ⟨ret_bool (K1.out h), rfl⟩
  · have h2 : k < 1 := by omega
    clear h
    go_enter Tryz.func102, Tryz.ntmps102
    go_wp2
    go_ret
    exact ⟨ret_bool (K2.out h2), rfl⟩
theorem size_yes (k : Int) (w : World) (h1 : 1 ≤ k) (h2 : k ≤ 8) : Calls Tryz.prog 102 #[.int .i64 k] w fun e w' => e = .returned (.bool true) ∧ w = w' := by
  refine (size_any k w).mono fun e w' ⟨he, hw⟩ => ⟨he.trans (ret_bool ?_), hw⟩
  unfold sizeB; simp; omega
theorem size_no (k : Int) (w : World) (h : k < 1 ∨ 8 < k) : Calls Tryz.prog 102 #[.int .i64 k] w fun e w' => e = .returned (.bool false) ∧ w = w' := by
  refine (size_any k w).mono fun e w' ⟨he, hw⟩ => ⟨he.trans (ret_bool ?_), hw⟩
  unfold sizeB; simp; omega

set_option maxHeartbeats 1000000 in
theorem fits_any (n : Int) (k : Int) (w : World) (h0 : 0 ≤ n) (h1 : n < 18446744073709551616) :
    Calls Tryz.prog 95 #[.int .u64 n, .int .i64 k] w fun e w' => e = .returned (.bool (fitB n k)) ∧ w = w' := by
  by_cases h : 1 ≤ k ∧ k ≤ 8
  · obtain ⟨ha, hb⟩ := h
    have hk : k = 1 ∨ k = 2 ∨ k = 3 ∨ k = 4 ∨ k = 5 ∨ k = 6 ∨ k = 7 ∨ k = 8 := by omega
    rcases hk with rfl | rfl | rfl | rfl | rfl | rfl | rfl | rfl
    all_goals
      go_enter Tryz.func95, Tryz.ntmps95
      go_wp2_with (go_at_call 102; refine (size_yes _ _ (by omega) (by omega)).mono ?_; rintro e w1 ⟨rfl, rfl⟩)
      go_ret
      exact ⟨ret_bool (by unfold fitB; rw [Bool.eq_iff_iff]; simp; omega), rfl⟩
  · have hr : false = fitB n k := by unfold fitB; rw [Bool.eq_iff_iff]; simp; omega
    have HR := Lib.hid hr
    clear hr
    go_enter Tryz.func95, Tryz.ntmps95
    go_wp2_with (go_at_call 102; refine (size_no _ _ (by omega)).mono ?_; rintro e w1 ⟨rfl, rfl⟩)
    go_ret
    exact ⟨ret_bool HR.out, rfl⟩
theorem fits_yes (N K : Nat) (w : World) (h1 : 1 ≤ K) (h2 : K ≤ 8) (h3 : N < 256 ^ K) :
    Calls Tryz.prog 95 #[.int .u64 N, .int .i64 K] w fun e w' => e = .returned (.bool true) ∧ w = w' := by
  have hN : N < 256 ^ 8 := Nat.lt_of_lt_of_le h3 (Nat.pow_le_pow_right (by omega) h2)
  refine (fits_any N K w (by omega) (by omega)).mono fun e w' ⟨he, hw⟩ => ⟨he.trans (ret_bool ?_), hw⟩
  unfold fitB; rw [decide_eq_true_eq]
  exact ⟨by omega, by omega, by simpa using h3⟩
theorem fits_no (n k : Int) (w : World) (h0 : 0 ≤ n) (h1 : n < 18446744073709551616) (h : fitB n k = false) :
    Calls Tryz.prog 95 #[.int .u64 n, .int .i64 k] w fun e w' => e = .returned (.bool false) ∧ w = w' := by
  exact (fits_any n k w h0 h1).mono fun e w' ⟨he, hw⟩ => ⟨he.trans (ret_bool h), hw⟩

theorem put_no (n k : Int) (w : World) (h0 : 0 ≤ n) (h1 : n < 18446744073709551616) (h : fitB n k = false) :
    Calls Tryz.prog 82 #[.int .u64 n, .int .i64 k] w fun e w' => e = .returned (.tuple #[.slice none 0 0, .bool false]) ∧ w = w' := by
  have H := Lib.hid h
  clear h
  go_enter Tryz.func82, Tryz.ntmps82
  go_wp2_with (go_at_call 95; refine (fits_no _ _ _ h0 h1 H.out).mono ?_; rintro e w1 ⟨rfl, rfl⟩)
  go_ret2
  exact ⟨rfl, rfl⟩

set_option maxHeartbeats 1000000 in
theorem put_yes (N K : Nat) (w : World) (h1 : 1 ≤ K) (h2 : K ≤ 8) (h3 : N < 256 ^ K) :
    Calls Tryz.prog 82 #[.int .u64 N, .int .i64 K] w fun e w' => e = .returned (.tuple #[.slice (some ⟨w.heap.size, 0, none⟩) K K, .bool true]) ∧ RowB w' w.heap.size 5 (putL N K) ∧ Below w.heap.size w w' := by
  have hN : N < 256 ^ 8 := Nat.lt_of_lt_of_le h3 (Nat.pow_le_pow_right (by omega) h2)
  have HN := Lib.hid hN
  have H3 := Lib.hid h3
  clear h3 hN
  go_enter Tryz.func82, Tryz.ntmps82
  go_wp2_with (first
    | (go_at_call 95; refine (fits_yes _ _ _ h1 h2 H3.out).mono ?_; rintro e w1 ⟨rfl, rfl⟩)
    | (at_make
       refine wpList_make_n rfl _ _ rfl K K K rfl rfl rfl rfl (by omega) ?_
       intro w1 hX1 hg1 hs1
       have hB1 : Below w.heap.size w w1 := (Below.refl _ _).grown hg1 (Nat.le_refl _) (fun k hk => by cases hk)))
  go_loopw [0, 7] (fun n i wr => ∃ M x : Nat, M ≤ K ∧ n = .int .u64 x ∧ x = N / 256 ^ (K - M) ∧ i = .int .i64 ((M : Int) - 1) ∧ RowB wr w.heap.size 5 (fillBack N K (K - M)) ∧ Below w.heap.size w wr) (fun _ i _ => (intOf i + 1).toNat)
  case atStart => exact ⟨K, N, Nat.le_refl _, rfl, by simp, rfl, by rw [Nat.sub_self]; exact hX1, hB1⟩
  case round =>
    clear hX1 hg1 hs1 hB1
    obtain ⟨M, x, hM, rfl, hx, rfl, hX, hB⟩ := hrel
    have hxb : x < 256 ^ 8 := by rw [hx]; exact Nat.lt_of_le_of_lt (Nat.div_le_self _ _) HN.out
    have HX := Lib.hid hx
    clear hx
    rcases M with _ | m
    · rw [Nat.sub_zero, fillBack_all] at hX
      go_wp2
      go_ret2
      exact ⟨rfl, hX, hB⟩
    · have e : (((m + 1 : Nat) : Int) - 1) = m := by omega
      rw [e]
      have hl : (fillBack N K (K - (m + 1))).length = K := fillBack_length _ _ _
      have hcell := hX.cell m (by omega)
      have hfr := hX.free m
      have hnext : fillBack N K (K - m) = (fillBack N K (K - (m + 1))).set m ((x : Int) % 256) := by
        rw [show K - m = (K - (m + 1)) + 1 by omega, fillBack, HX.out, show K - 1 - (K - (m + 1)) = m by omega]
        rfl
      have hx2 : x / 256 = N / 256 ^ (K - m) := by
        rw [HX.out, show K - m = (K - (m + 1)) + 1 by omega, Nat.div_div_eq_div_mul, Nat.pow_succ]
      have HP := Lib.hid (hX.put m ((x : Int) % 256))
      have HNX := Lib.hid hnext
      have HX2 := Lib.hid hx2
      have HBB := Lib.hid hB
      obtain ⟨c, hc⟩ : ∃ c, c = (fillBack N K (K - (m + 1))).getD m 0 := ⟨_, rfl⟩
      rw [← hc] at hcell
      clear hc e hl hnext hx2 hX hB
      go_wp2
      go_roundw
      case rel =>
        exact ⟨m, x / 256, by omega, by go_num, HX2.out, rfl, by rw [HNX.out]; exact HP.out, HBB.out.setCell (p := ⟨_, m, none⟩) (Nat.le_refl _) _⟩
      case measure => simp [intOf]
theorem put_at (n k : Int) (N K : Nat) (w : World) (hn : n = N) (hk : k = K) (h1 : 1 ≤ K) (h2 : K ≤ 8) (h3 : N < 256 ^ K) :
    Calls Tryz.prog 82 #[.int .u64 n, .int .i64 k] w fun e w' => e = .returned (.tuple #[.slice (some ⟨w.heap.size, 0, none⟩) K K, .bool true]) ∧ RowB w' w.heap.size 5 (putL N K) ∧ Below w.heap.size w w' := by
  subst hn hk
  exact put_yes N K w h1 h2 h3
theorem fit_nat {n k : Int} (h0 : 0 ≤ n) (h : fitB n k = true) : ∃ N K : Nat, n = N ∧ k = K ∧ 1 ≤ K ∧ K ≤ 8 ∧ N < 256 ^ K := by
  unfold fitB at h
  rw [decide_eq_true_eq] at h
  refine ⟨n.toNat, k.toNat, by omega, by omega, by omega, by omega, h.2.2⟩
theorem fit_of (N K : Nat) (h1 : 1 ≤ K) (h2 : K ≤ 8) (h3 : N < 256 ^ K) : fitB N K = true := by
  unfold fitB
  rw [decide_eq_true_eq]
  exact ⟨by omega, by omega, by simpa using h3⟩
/-- whatever is put: a slice, and whether it fits -/
theorem put_some (n k : Int) (w : World) (h0 : 0 ≤ n) (h1 : n < 18446744073709551616) :
    Calls Tryz.prog 82 #[.int .u64 n, .int .i64 k] w fun e w' => ∃ V, e = .returned (.tuple #[V, .bool (fitB n k)]) ∧ Below w.heap.size w w' := by
  cases h : fitB n k with
  | false => exact (put_no n k w h0 h1 h).mono fun e w' ⟨he, hw⟩ => ⟨_, he, by subst hw; exact Below.refl _ _⟩
  | true =>
    obtain ⟨N, K, rfl, rfl, h2, h3, h4⟩ := fit_nat h0 h
    exact (put_yes N K w h2 h3 h4).mono fun e w' ⟨he, _, hw⟩ => ⟨_, he, hw⟩
theorem put_b (n k : Int) (b : Bool) (w : World) (h0 : 0 ≤ n) (h1 : n < 18446744073709551616) (h : fitB n k = b) :
    Calls Tryz.prog 82 #[.int .u64 n, .int .i64 k] w fun e w' => ∃ V, e = .returned (.tuple #[V, .bool b]) ∧ Below w.heap.size w w' := by
  subst h
  exact put_some n k w h0 h1
end Go.Proofs.YtafmompplcaadaaGreatDoor

/- The walk over package num's Get: the number of some bytes. -/
namespace Go.Proofs.YtafmompplcaadaaGreatDoor
set_option linter.unusedVariables false
set_option linter.unusedSimpArgs false
open Go.RowKit

/-- may a number be read there? -/
def mayGet (n at_ k : Int) : Bool := decide (1 ≤ k ∧ k ≤ 8 ∧ 0 ≤ at_ ∧ at_ + k ≤ n)

set_option maxHeartbeats 1000000 in
theorem get_no (A : Option Addr) (n c : Nat) (l : List Int) (at_ k : Int) (w : World) (hb : Bts w A n c l) (ha0 : -9223372036854775808 ≤ at_) (ha1 : at_ ≤ 9223372036854775807) (hk0 : -9223372036854775808 ≤ k) (hk1 : k ≤ 9223372036854775807) (h : mayGet n at_ k = false) :
    Calls Tryz.prog 97 #[.slice A n c, .int .i64 at_, .int .i64 k] w fun e w' => e = .returned (.tuple #[.int .u64 0, .int .i64 (-1)]) ∧ w = w' := by
  have hn := hb.small
  have h' : ¬ (1 ≤ k ∧ k ≤ 8 ∧ 0 ≤ at_ ∧ at_ + k ≤ n) := by
    unfold mayGet at h; simpa using h
  clear h
  by_cases h1 : 1 ≤ k ∧ k ≤ 8
  · obtain ⟨h1, h2⟩ := h1
    by_cases h3 : 0 ≤ at_
    · have h4 : n - at_ < k := by omega
      clear h'
      go_enter Tryz.func97, Tryz.ntmps97
      go_wp2
      go_step3
      go_wp2_with (go_at_call 102; refine (size_yes _ _ (by omega) (by omega)).mono ?_; rintro e w1 ⟨rfl, rfl⟩)
      rw [Exit.noGoto_ret]
      go_ret2
      exact ⟨rfl, rfl⟩
    · have h4 : at_ < 0 := by omega
      clear h' h3
      go_enter Tryz.func97, Tryz.ntmps97
      go_wp2
      go_step3
      go_wp2_with (go_at_call 102; refine (size_yes _ _ (by omega) (by omega)).mono ?_; rintro e w1 ⟨rfl, rfl⟩)
      rw [Exit.noGoto_ret]
      go_ret2
      exact ⟨rfl, rfl⟩
  · have h4 : k < 1 ∨ 8 < k := by omega
    clear h' h1
    go_enter Tryz.func97, Tryz.ntmps97
    go_wp2
    go_step3
    go_wp2_with (go_at_call 102; refine (size_no _ _ h4).mono ?_; rintro e w1 ⟨rfl, rfl⟩)
    rw [Exit.noGoto_ret]
    go_ret2
    exact ⟨rfl, rfl⟩

theorem orStep (y : Nat) (z : Int) (hy : y < 256 ^ 7) (h0 : 0 ≤ z) (h1 : z < 256) : bits .or .u64 (IntKind.u64.wrap ((y : Int) * 256)) z = ((256 * y + z.toNat : Nat) : Int) := by
  obtain ⟨x, rfl⟩ := Int.eq_ofNat_of_zero_le h0
  have e : IntKind.u64.wrap ((y : Int) * 256) = ((256 * y : Nat) : Int) := by
    rw [IntKind.wrap_u64]
    omega
  have hx : x < 2 ^ 8 := by omega
  rw [e, u64_or_nat _ _ (by omega) (by omega), Int.toNat_natCast]
  have := Nat.two_pow_add_eq_or_of_lt hx y
  rw [show 2 ^ 8 = 256 by rfl] at this
  rw [this]
theorem orStart (z : Int) (h0 : 0 ≤ z) (h1 : z < 256) : bits .or .u64 0 z = ((z.toNat : Nat) : Int) := by
  have := orStep 0 z (by omega) h0 h1
  simpa [IntKind.wrap_u64] using this
theorem num_one (l : List Int) (a : Nat) (h : a < l.length) : numL ((l.drop a).take 1) = (l.getD a 0).toNat := by
  rw [List.drop_eq_getElem_cons h, List.take_succ_cons, List.take_zero]
  simp [numL, numOf, h]
theorem num_next (l : List Int) (a j : Nat) (h : a + j < l.length) : numL ((l.drop a).take (j + 1)) = 256 * numL ((l.drop a).take j) + (l.getD (a + j) 0).toNat := by
  rw [List.take_succ_eq_append_getElem (by rw [List.length_drop]; omega), numL, numOf_snoc, numL]
  simp [h]
theorem mem_ok {l : List Int} (h : ∀ j, 0 ≤ l.getD j 0 ∧ l.getD j 0 < 256) : ∀ x ∈ l, 0 ≤ x ∧ x < 256 := by
  intro x hx
  obtain ⟨i, hi, rfl⟩ := List.getElem_of_mem hx
  have := h i
  simpa [List.getD_eq_getElem?_getD, hi] using this

set_option maxHeartbeats 1000000 in
theorem get_yes (A : Option Addr) (n c : Nat) (l : List Int) (at_ k : Nat) (w : World) (hb : Bts w A n c l) (h1 : 1 ≤ k) (h2 : k ≤ 8) (h3 : at_ + k ≤ n) :
    Calls Tryz.prog 97 #[.slice A n c, .int .i64 at_, .int .i64 k] w fun e w' => e = .returned (.tuple #[.int .u64 (numL ((l.drop at_).take k)), .int .i64 ((at_ + k : Nat) : Int)]) ∧ w = w' := by
  have hn := hb.small
  obtain ⟨b, off, rfl, hc⟩ := hb.at_ (by omega)
  have h4 : (at_ : Int) + k ≤ n := by omega
  go_enter Tryz.func97, Tryz.ntmps97
  go_wp2
  obtain ⟨x, hx⟩ : ∃ x, x = l.getD at_ 0 := ⟨_, rfl⟩
  have hc0 := hc at_ (by omega)
  rw [← hx] at hc0
  obtain ⟨hx0, hx1⟩ := hb.ok at_
  rw [← hx] at hx0 hx1
  have HX := Lib.hid hx
  have HC := Lib.hid hc
  have HO := Lib.hid hb.ok
  have HL := Lib.hid hb.len
  clear hx hc hb
  refine wp_scope_jumps 0 (fun a' w' => w = w' ∧ ∃ (j : Nat) (y : Nat) (u10 u11 u12 u13 u14 u15 u16 u17 u18 u19 u20 u21 u22 u23 u24 u25 u26 u27 u28 u29 u30 u31 u32 u33 u34 u35 u36 u37 u38 u39 u40 : Value), a' = { tmps := #[.slice (some ⟨b, off, none⟩) n c, .int .i64 ((at_ + j : Nat) : Int), .int .i64 k, undef, undef, undef, .int .u64 0, .int .i64 0, .int .i64 ((at_ : Int) + k), .int .u64 y, u10, u11, u12, u13, u14, u15, u16, u17, u18, u19, u20, u21, u22, u23, u24, u25, u26, u27, u28, u29, u30, u31, u32, u33, u34, u35, u36, u37, u38, u39, u40, undef, undef], defers := [] } ∧ 1 ≤ j ∧ j < k ∧ y = numL ((l.drop at_).take j)) (fun a' _ => (at_ + k - intOf (a'.tmps.getD 1 undef)).toNat) rfl ?_ ?_
  · go_wp2_with (go_at_call 102; refine (size_yes _ _ (by omega) (by omega)).mono ?_; rintro e w1 ⟨rfl, rfl⟩)
    go_step3
    go_wp2
    · go_step3
      rw [orStart x hx0 hx1]
      refine ⟨rfl, rfl, 1, x.toNat, _, _, _, _, _, _, _, _, _, _, _, _, _, _, _, _, _, _, _, _, _, _, _, _, _, _, _, _, _, _, _, rfl, by omega, by omega, ?_⟩
      rw [num_one l at_ (by rw [HL.out]; omega), HX.out]
    · simp only [Exit.jump]
      go_ret2
      rw [orStart x hx0 hx1]
      obtain rfl : k = 1 := by omega
      rw [num_one l at_ (by rw [HL.out]; omega), HX.out]
      exact ⟨rfl, rfl⟩
  · rintro a' w' ⟨rfl, j, y, u10, u11, u12, u13, u14, u15, u16, u17, u18, u19, u20, u21, u22, u23, u24, u25, u26, u27, u28, u29, u30, u31, u32, u33, u34, u35, u36, u37, u38, u39, u40, rfl, hj1, hjk, hy⟩
    have hcj := HC.out (at_ + j) (by omega)
    obtain ⟨z, hz⟩ : ∃ z, z = l.getD (at_ + j) 0 := ⟨_, rfl⟩
    rw [← hz] at hcj
    obtain ⟨hz0, hz1⟩ := HO.out (at_ + j)
    rw [← hz] at hz0 hz1
    have hy8 : y < 256 ^ 7 := by
      have hb := numL_bound ((l.drop at_).take j) (fun x hx => mem_ok HO.out x (List.mem_of_mem_drop (List.mem_of_mem_take hx)))
      rw [← hy] at hb
      refine Nat.lt_of_lt_of_le hb (Nat.pow_le_pow_right (by omega) ?_)
      rw [List.length_take]
      omega
    have hst := orStep y z hy8 hz0 hz1
    have hnx : 256 * y + z.toNat = numL ((l.drop at_).take (j + 1)) := by
      rw [num_next l at_ j (by rw [HL.out]; omega), hy, hz]
    have HST := Lib.hid hst
    have HNX := Lib.hid hnx
    clear hy hz hy8 hst hnx
    go_wp2
    · go_step3
      rw [HST.out]
      refine ⟨rfl, ⟨rfl, j + 1, 256 * y + z.toNat, _, _, _, _, _, _, _, _, _, _, _, _, _, _, _, _, _, _, _, _, _, _, _, _, _, _, _, _, _, _, _, rfl, by omega, by omega, HNX.out⟩, ?_⟩
      simp [intOf]
      omega
    · simp only [Exit.jump]
      go_ret2
      rw [HST.out, HNX.out]
      obtain rfl : k = j + 1 := by omega
      exact ⟨rfl, rfl⟩
theorem get_at (A : Option Addr) (n c : Nat) (l : List Int) (i j : Int) (at_ k : Nat) (w : World) (hi : i = at_) (hj : j = k) (hb : Bts w A n c l) (h1 : 1 ≤ k) (h2 : k ≤ 8) (h3 : at_ + k ≤ n) :
    Calls Tryz.prog 97 #[.slice A n c, .int .i64 i, .int .i64 j] w fun e w' => e = .returned (.tuple #[.int .u64 (numL ((l.drop at_).take k)), .int .i64 ((at_ + k : Nat) : Int)]) ∧ w = w' := by
  subst hi hj
  exact get_yes A n c l at_ k w hb h1 h2 h3
end Go.Proofs.YtafmompplcaadaaGreatDoor

/- What the walks over package num's laws, and others, share: pieces of bytes, numbers that fit; what a call gives. -/
namespace Go.Proofs.YtafmompplcaadaaGreatDoor
set_option linter.unusedVariables false
set_option linter.unusedSimpArgs false
open Go.RowKit

theorem then_below {w w1 w2 : World} (h : Below w.heap.size w w1) (h2 : Below w1.heap.size w1 w2) : Below w.heap.size w w2 := h.trans (h2.mono h.size)
theorem fit8 (n : Int) (h0 : 0 ≤ n) (h1 : n < 18446744073709551616) : fitB n 8 = true := by
  unfold fitB
  rw [decide_eq_true_eq]
  exact ⟨by omega, by omega, by simp; omega⟩
theorem top7 : fitB 18446744073709551615 7 = false := by decide +kernel

theorem fit_more (N K : Nat) (h1 : 1 ≤ K) (h2 : K < 8) (h3 : N < 256 ^ K) : fitB N ((K : Int) + 1) = true := by
  have h := fit_of N (K + 1) (by omega) (by omega) (by rw [Nat.pow_succ]; omega)
  simpa using h
theorem fit_nine (n : Int) : fitB n 9 = false := by
  unfold fitB
  rw [decide_eq_false_iff_not]
  omega
theorem fit_low (n k : Int) (h : fitB n k = true) : 1 ≤ k ∧ k ≤ 8 := by
  unfold fitB at h
  rw [decide_eq_true_eq] at h
  exact ⟨h.1, h.2.1⟩

theorem bstr_u8s (l : List Int) : (bstr l).toList = u8s l := by
  have e : ∀ b : ByteArray, b.toList = b.data.toList := fun b => by
    rcases b with ⟨⟨d⟩⟩
    simp
  rw [e]
  rfl
theorem less_bstr (N M K : Nat) (hN : N < 256 ^ K) (hM : M < 256 ^ K) : Op.bytesLess (bstr (putL N K)).toList (bstr (putL M K)).toList = decide (N < M) := by
  rw [bstr_u8s, bstr_u8s, less_put N M K hN hM]
theorem putL_ok (N K : Nat) : ∀ j, 0 ≤ (putL N K).getD j 0 ∧ (putL N K).getD j 0 < 256 := ok_map _ (fun i => putAt_ok N K i) K
theorem conv_row {w : World} {g K : Nat} {l : List Int} (h : RowB w g 5 l) (hl : l.length = K) (hm : K ≤ maxLen) (hok : ∀ j, 0 ≤ l.getD j 0 ∧ l.getD j 0 < 256) :
    (convert 22 9 (.slice (some ⟨g, 0, none⟩) K K)).run Tryz.prog w = .ok (.string (bstr l)) w := conv_bts (h.bts hl hm hok)

theorem one_more (N K : Nat) (h : N < 256 ^ K) : bstr (putL N (K + 1)) = bstr ([0] ++ putL N K) := by rw [put_long N K h]; rfl
theorem zero_str (l : List Int) (hl : l.length ≤ 8388608) (w : World) : (Op.stringOp .add ⟨#[0]⟩ (bstr l)).run Tryz.prog w = .ok (.string (bstr ([0] ++ l))) w := by
  have := add_bstr [0] l (by simp) hl w
  exact this
/-- a slice that tells this text -/
def ConvTo (w : World) (v : Value) (s : ByteArray) : Prop := ∃ A n c l, v = .slice A n c ∧ bstr l = s ∧ Bts w A n c l
theorem ConvTo.keep {w w' : World} {v : Value} {s : ByteArray} (h : ConvTo w v s) (hb : Below w.heap.size w w') : ConvTo w' v s := by
  obtain ⟨A, n, c, l, rfl, rfl, h⟩ := h
  exact ⟨A, n, c, l, rfl, rfl, h.below hb⟩
theorem ConvTo.run {w : World} {v : Value} {s : ByteArray} (h : ConvTo w v s) : (convert 22 9 v).run Tryz.prog w = .ok (.string s) w := by
  obtain ⟨A, n, c, l, rfl, rfl, h⟩ := h
  exact conv_bts h
theorem mayGet_nat {n : Nat} {i k : Int} (h : mayGet n i k = true) : ∃ a K : Nat, i = a ∧ k = K ∧ 1 ≤ K ∧ K ≤ 8 ∧ a + K ≤ n := by
  unfold mayGet at h
  rw [decide_eq_true_eq] at h
  exact ⟨i.toNat, k.toNat, by omega, by omega, by omega, by omega, by omega⟩
theorem get_some (A : Option Addr) (n c : Nat) (l : List Int) (i k : Int) (w : World) (hb : Bts w A n c l) (ha0 : -9223372036854775808 ≤ i) (ha1 : i ≤ 9223372036854775807) (hk0 : -9223372036854775808 ≤ k) (hk1 : k ≤ 9223372036854775807) :
    Calls Tryz.prog 97 #[.slice A n c, .int .i64 i, .int .i64 k] w fun e w' => ∃ x y, e = .returned (.tuple #[.int .u64 x, .int .i64 y]) ∧ w = w' := by
  cases h : mayGet n i k with
  | false => exact (get_no A n c l i k w hb ha0 ha1 hk0 hk1 h).mono fun e w' ⟨he, hw⟩ => ⟨_, _, he, hw⟩
  | true =>
    obtain ⟨a, K, rfl, rfl, h1, h2, h3⟩ := mayGet_nat h
    exact (get_yes A n c l a K w hb h1 h2 h3).mono fun e w' ⟨he, hw⟩ => ⟨_, _, he, hw⟩
/-- the piece that was got is put as the same bytes -/
theorem put_piece (l : List Int) (a K : Nat) (hl : ∀ j, 0 ≤ l.getD j 0 ∧ l.getD j 0 < 256) (h : a + K ≤ l.length) : putL (numL ((l.drop a).take K)) K = (l.drop a).take K := by
  have hlen : ((l.drop a).take K).length = K := by rw [List.length_take, List.length_drop]; omega
  have := put_num ((l.drop a).take K) (fun x hx => mem_ok hl x (List.mem_of_mem_drop (List.mem_of_mem_take hx)))
  rw [hlen] at this
  exact this
theorem num_piece (l : List Int) (a K : Nat) (hl : ∀ j, 0 ≤ l.getD j 0 ∧ l.getD j 0 < 256) (h : a + K ≤ l.length) : numL ((l.drop a).take K) < 256 ^ K := by
  have hlen : ((l.drop a).take K).length = K := by rw [List.length_take, List.length_drop]; omega
  have := numL_bound ((l.drop a).take K) (fun x hx => mem_ok hl x (List.mem_of_mem_drop (List.mem_of_mem_take hx)))
  rw [hlen] at this
  exact this
/-- what is put is got out of the middle -/
theorem ok_nil : ∀ j, 0 ≤ ([] : List Int).getD j 0 ∧ ([] : List Int).getD j 0 < 256 := by simp
theorem piece_bts {w : World} {b off n c a K : Nat} {l : List Int} (h : Bts w (some ⟨b, off, none⟩) n c l) (ha : a + K ≤ n) (hK : 1 ≤ K) : Bts w (some ⟨b, off + a, none⟩) K (c - a) ((l.drop a).take K) := by
  have hle := h.le
  have hm := h.max
  refine ⟨by rw [List.length_take, List.length_drop, h.len]; omega, by omega, by omega, ok_piece l h.ok a K, (fun e => by cases e), fun _ => ⟨b, off + a, rfl, fun j hj => ?_⟩⟩
  obtain ⟨b', off', hA, hc⟩ := h.at_ (by omega)
  injection hA with hA
  injection hA with e1 e2 _
  subst e1 e2
  have := hc (a + j) (by omega)
  rw [← Nat.add_assoc] at this
  rw [this]
  simp [List.getD_eq_getElem?_getD, List.getElem?_take, hj, List.getElem?_drop]
theorem mid_piece (a p b : List Int) : ((a ++ p ++ b).drop a.length).take p.length = p := by
  rw [List.append_assoc, List.drop_left, List.take_left]
end Go.Proofs.YtafmompplcaadaaGreatDoor

/- Slices whose elements are rows of k cells (structs, or one cell): what they read as; the call's own; append. -/
namespace Go.Proofs.YtafmompplcaadaaGreatDoor
open Go.RowKit

theorem flat_len {k : Nat} {rows : List (List Value)} (h : ∀ r ∈ rows, r.length = k) : rows.flatten.length = rows.length * k := by
  induction rows with
  | nil => simp
  | cons r rows ih =>
    rw [List.flatten_cons, List.length_append, h r (by simp), ih (fun x hx => h x (by simp [hx])), List.length_cons, Nat.add_mul, Nat.one_mul, Nat.add_comm]
theorem flat_get {k : Nat} {rows : List (List Value)} (h : ∀ r ∈ rows, r.length = k) (j i : Nat) (hj : j < rows.length) (hi : i < k) : rows.flatten[j * k + i]? = some ((rows.getD j []).getD i undef) := by
  induction rows generalizing j with
  | nil => simp at hj
  | cons r rows ih =>
    have hr := h r (by simp)
    rw [List.flatten_cons]
    cases j with
    | zero =>
      rw [Nat.zero_mul, Nat.zero_add, List.getElem?_append_left (by omega)]
      simp [List.getD_eq_getElem?_getD, List.getElem?_eq_getElem (show i < r.length by omega)]
    | succ j =>
      rw [Nat.add_mul, Nat.one_mul, List.getElem?_append_right (by rw [hr]; omega), hr, show j * k + k + i - k = j * k + i by omega]
      rw [ih (fun x hx => h x (by simp [hx])) j (by simpa using hj)]
      simp
/-- the slice value A, n, cap reads as the rows, of k cells each -/
structure Rws (k : Nat) (w : World) (A : Option Addr) (n cap : Nat) (rows : List (List Value)) : Prop where
  len : rows.length = n
  wid : ∀ r ∈ rows, r.length = k
  one : ∀ r ∈ rows, ∀ u ∈ r, u.oneCell' = true
  le : n ≤ cap
  max : cap ≤ maxLen
  bare : A = none → cap = 0
  at_ : 0 < n → ∃ b off, A = some ⟨b, off, none⟩ ∧ ∀ j, j < n → ∀ i, i < k → w.cell? ⟨b, off + j * k + i, none⟩ = some ((rows.getD j []).getD i undef)
section
variable {k : Nat} {w w' : World} {A : Option Addr} {n cap : Nat} {rows : List (List Value)}
theorem Rws.below (h : Rws k w A n cap rows) (hb : Below w.heap.size w w') : Rws k w' A n cap rows := by
  refine ⟨h.len, h.wid, h.one, h.le, h.max, h.bare, fun hn => ?_⟩
  obtain ⟨b, off, hA, hc⟩ := h.at_ hn
  exact ⟨b, off, hA, fun j hj i hi => (hb.cell (p := ⟨b, off + j * k + i, none⟩) (block_lt_of_cell (hc j hj i hi))).trans (hc j hj i hi)⟩
theorem Rws.draw (h : Rws k w A n cap rows) (m : Nat) : Rws k (w.drewN m) A n cap rows := ⟨h.len, h.wid, h.one, h.le, h.max, h.bare, h.at_⟩
theorem Rws.draw1 (h : Rws k w A n cap rows) : Rws k w.drew A n cap rows := ⟨h.len, h.wid, h.one, h.le, h.max, h.bare, h.at_⟩
theorem Rws.more (h : Rws k w A n cap rows) (o : Obj) : Rws k (w.alloc o) A n cap rows := h.below ((Below.refl _ _).alloc (Nat.le_refl _) _)
theorem Rws.small (h : Rws k w A n cap rows) : n ≤ 9223372036854775807 := Nat.le_trans h.le (by have := h.max; unfold maxLen at this; omega)
theorem Rws.grown {row : Option Nat} (h : Rws k w A n cap rows) (hg : w.grownBy w' row) (hne : ∀ b off, A = some ⟨b, off, none⟩ → some b ≠ row) : Rws k w' A n cap rows := by
  refine ⟨h.len, h.wid, h.one, h.le, h.max, h.bare, fun hn => ?_⟩
  obtain ⟨b, off, hA, hc⟩ := h.at_ hn
  refine ⟨b, off, hA, fun j hj i hi => ?_⟩
  rw [World.cell?_of_block (w := w) (a := ⟨b, off + j * k + i, none⟩) (hg.block b (block_lt_of_cell (hc j hj i hi)) (hne b off hA))]
  exact hc j hj i hi
end
theorem Rws.nil (k : Nat) (w : World) : Rws k w none 0 0 [] := ⟨rfl, (fun _ h => by cases h), (fun _ h => by cases h), Nat.le_refl _, by unfold maxLen; omega, fun _ => rfl, fun h => by omega⟩
/-- a slice of rows that the call made itself; e: the element's type -/
structure OwnR (e : TypeId) (k : Nat) (w : World) (base : Nat) (v : Value) (rows : List (List Value)) : Prop where
  row : w.ownsRow base e k v rows.length rows.flatten
  wid : ∀ r ∈ rows, r.length = k
  one : ∀ r ∈ rows, ∀ u ∈ r, u.oneCell' = true
section
variable {e : TypeId} {k : Nat} {w w' : World} {base : Nat} {v : Value} {rows : List (List Value)}
theorem OwnR.nil (e : TypeId) (k : Nat) (w : World) (base : Nat) : OwnR e k w base (.slice none 0 0) [] := ⟨World.ownsRow_nil _ _ _ _, (fun _ h => by cases h), (fun _ h => by cases h)⟩
theorem OwnR.more (h : OwnR e k w base v rows) (o : Obj) : OwnR e k (w.alloc o) base v rows := ⟨World.ownsRow.alloc h.row o, h.wid, h.one⟩
theorem OwnR.draw1 (h : OwnR e k w base v rows) : OwnR e k w.drew base v rows := ⟨h.row, h.wid, h.one⟩
theorem OwnR.draw (h : OwnR e k w base v rows) (m : Nat) : OwnR e k (w.drewN m) base v rows := ⟨h.row, h.wid, h.one⟩
theorem OwnR.size (h : OwnR e k w base v rows) : ∀ g, v.ownBlock = some g → base ≤ g ∧ g < w.heap.size := World.ownsRow.lt h.row
theorem OwnR.below (h : OwnR e k w base v rows) (hb : Below w.heap.size w w') : OwnR e k w' base v rows := by
  refine ⟨⟨h.row.1, ?_⟩, h.wid, h.one⟩
  rcases h.row.2 with h0 | ⟨g, cap, cur, hv, hg, hh, rest⟩
  · exact .inl h0
  · exact .inr ⟨g, cap, cur, hv, hg, (hb.block g (Array.getElem?_eq_some_iff.1 hh).1).trans hh, rest⟩
theorem OwnR.far {row : Option Nat} (h : OwnR e k w base v rows) (hg : w.grownBy w' row) (hne : v.ownBlock = none ∨ v.ownBlock ≠ row) : OwnR e k w' base v rows := ⟨World.ownsRow.kept h.row hg hne, h.wid, h.one⟩
theorem OwnR.rws (h : OwnR e k w base v rows) : ∃ A n cap, v = .slice A n cap ∧ Rws k w A n cap rows := by
  rcases h.row.2 with ⟨hv, hn⟩ | ⟨g, cap, cur, hv, _, hh, hnc, hcm, hcs, htake⟩
  · obtain rfl : rows = [] := List.eq_nil_of_length_eq_zero hn
    exact ⟨none, 0, 0, hv, Rws.nil k w⟩
  · refine ⟨some ⟨g, 0, none⟩, rows.length, cap, hv, rfl, h.wid, h.one, hnc, hcm, (fun e => by cases e), fun hn => ⟨g, 0, rfl, fun j hj i hi => ?_⟩⟩
    have hlt : j * k + i < rows.length * k := by
      have : (j + 1) * k ≤ rows.length * k := Nat.mul_le_mul_right _ hj
      rw [Nat.add_mul, Nat.one_mul] at this
      omega
    rw [Nat.zero_add, cell_of_row _ _ _ _ _ _ hh, ← flat_get h.wid j i hj hi, ← htake, List.getElem?_take, if_pos hlt]
    simp
end
theorem Rws.news {k : Nat} {w : World} {b off n cap : Nat} {rows : List (List Value)} (h : Rws k w (some ⟨b, off, none⟩) n cap rows) (hk : 0 < k) : ∀ (j : Nat) (u : Value), rows.flatten[j]? = some u → w.cell? ((⟨b, off, none⟩ : Addr).add j) = some u := by
  intro j u hu
  have hj : j < rows.length * k := by
    have := (List.getElem?_eq_some_iff.1 hu).1
    rwa [flat_len h.wid] at this
  have hq : j / k < rows.length := (Nat.div_lt_iff_lt_mul hk).2 hj
  have hr : j % k < k := Nat.mod_lt _ hk
  have hjk : j / k * k + j % k = j := by rw [Nat.mul_comm]; exact Nat.div_add_mod j k
  rw [← hjk, flat_get h.wid _ _ hq hr] at hu
  obtain ⟨b', off', hA, hc⟩ := h.at_ (by rw [← h.len]; exact Nat.lt_of_le_of_lt (Nat.zero_le _) hq)
  injection hA with hA
  injection hA with e1 e2 _
  subst e1 e2
  have hadd : (⟨b, off, none⟩ : Addr).add j = ⟨b, off + j, none⟩ := by
    unfold Addr.add
    split
    · rename_i h0; subst h0; rfl
    · rfl
  have := hc (j / k) (by rw [← h.len]; exact hq) (j % k) hr
  rw [Nat.add_assoc, hjk] at this
  rw [hadd, this, hu]
theorem flat_one {rows : List (List Value)} (h : ∀ r ∈ rows, ∀ u ∈ r, u.oneCell' = true) : ∀ u ∈ rows.flatten, u.oneCell' = true := by
  intro u hu
  obtain ⟨r, hr, hu⟩ := List.mem_flatten.1 hu
  exact h r hr u hu
theorem mem_app {α : Type} {p : α → Prop} {l m : List α} (h : ∀ x ∈ l, p x) (k : ∀ x ∈ m, p x) : ∀ x ∈ l ++ m, p x := fun x hx => (List.mem_append.1 hx).elim (h x) (k x)
/-- append(v, s...): v the call's own, s whatever; t: the slice's type, e the element's, of k cells and B bytes -/
theorem wp_append_r {P : Program} {w : World} {o : Oper} {a : Act} {K : Act → World → Prop} {Q : Exit → Act → World → Prop} (t e : TypeId) (k B : Nat) (s x : Operand)
    (ho : o.op = .call { callee := .builtin .append, args := #[s, x], argTypes := #[t, t] }) (hu : P.underlying t = some (.slice e)) (hinfo : (P.info? e).map (fun i => (i.zero.map (·.cells.size), i.size, i.bytes)) = some (some k, k, B)) (hk : 0 < k)
    (base : Nat) (v : Value) (rows : List (List Value)) (hs : a.eval s = v) (hown : OwnR e k w base v rows) (A : Option Addr) (m c : Nat) (news : List (List Value)) (hx : a.eval x = .slice A m c) (hr : Rws k w A m c news)
    (hsmall : (rows.length + m) * B ≤ 140737488355328) (hm63 : rows.length + m ≤ 140737488355328) (hbase : base ≤ w.heap.size)
    (h : ∀ v' w', OwnR e k w' base v' (rows ++ news) → w.grownBy w' v.ownBlock → K (a.put o.dst v') w') : o.wp P a w K Q := by
  cases hi : P.info? e with
  | none => simp [hi] at hinfo
  | some i =>
    simp only [hi, Option.map_some, Option.some.injEq, Prod.mk.injEq] at hinfo
    obtain ⟨hz, h1, h2⟩ := hinfo
    cases hzz : i.zero with
    | none => simp [hzz] at hz
    | some z =>
      simp only [hzz, Option.map_some, Option.some.injEq] at hz
      rcases A with _ | ad
      · obtain rfl := hr.bare rfl
        have hm : m = 0 := by have := hr.le; omega
        subst hm
        obtain rfl : news = [] := List.eq_nil_of_length_eq_zero hr.len
        have hrun := run_append_owned_none (P := P) (w := w) base t o.type e i k hu hi v rows.length rows.flatten hown.row
        unfold Oper.wp
        simp [execOp, ho, resolve, invoke, builtin, hs, hx, hrun, Result.andThen]
        exact h v w (by simpa using hown) (World.grownBy.refl w _)
      · have hnews : ∀ (j : Nat) (u : Value), news.flatten[j]? = some u → w.cell? (ad.add j) = some u := by
          intro j u hu
          have hm0 : 0 < m := by
            have h3 := (List.getElem?_eq_some_iff.1 hu).1
            rw [flat_len hr.wid, hr.len] at h3
            rcases Nat.eq_zero_or_pos m with h4 | h4
            · rw [h4, Nat.zero_mul] at h3; omega
            · exact h4
          obtain ⟨b, off, hA, _⟩ := hr.at_ hm0
          injection hA with hA
          subst hA
          exact hr.news hk j u hu
        refine wp_append_own (P := P) w s x t ho base e i z k B hu hi hzz h1 h2 hz hk v rows.length rows.flatten hs hown.row ad m c news.flatten hx (by rw [flat_len hr.wid, hr.len]) hnews (flat_one hr.one) (by unfold maxLen; omega) hsmall hbase ?_
        intro v' w' hown' hg _
        refine h v' w' ⟨?_, mem_app hown.wid hr.wid, mem_app hown.one hr.one⟩ hg
        rw [List.flatten_append, List.length_append, hr.len]
        exact hown'
theorem wpList_append_r {P : Program} {w : World} {ops : Array Oper} {rest : List Oper} {o : Oper} {a : Act} {Q : Exit → Act → World → Prop} (hgd : o.guard = none) (t e : TypeId) (k B : Nat) (s x : Operand)
    (ho : o.op = .call { callee := .builtin .append, args := #[s, x], argTypes := #[t, t] }) (hu : P.underlying t = some (.slice e)) (hinfo : (P.info? e).map (fun i => (i.zero.map (·.cells.size), i.size, i.bytes)) = some (some k, k, B)) (hk : 0 < k)
    (base : Nat) (v : Value) (rows : List (List Value)) (hs : a.eval s = v) (hown : OwnR e k w base v rows) (A : Option Addr) (m c : Nat) (news : List (List Value)) (hx : a.eval x = .slice A m c) (hr : Rws k w A m c news)
    (hsmall : (rows.length + m) * B ≤ 140737488355328) (hm63 : rows.length + m ≤ 140737488355328) (hbase : base ≤ w.heap.size)
    (h : ∀ v' w', OwnR e k w' base v' (rows ++ news) → w.grownBy w' v.ownBlock → wpList P ops Q rest (a.put o.dst v') w') : wpList P ops Q (o :: rest) a w :=
  wpList_plain hgd fun _ hK => wp_append_r t e k B s x ho hu hinfo hk base v rows hs hown A m c news hx hr hsmall hm63 hbase fun v' w' h2 h3 => hK _ _ (h v' w' h2 h3)
/-- the same as one step of a region that draws its order -/
theorem step_append_r {P : Program} {ops : Array Oper} {o : Oper} {a : Act} {w : World} {K : Act → World → Prop} {Q : Exit → Act → World → Prop} {E : Prop} (t e : TypeId) (k B : Nat) (s x : Operand)
    (ho : o.op = .call { callee := .builtin .append, args := #[s, x], argTypes := #[t, t] }) (hu : P.underlying t = some (.slice e)) (hinfo : (P.info? e).map (fun i => (i.zero.map (·.cells.size), i.size, i.bytes)) = some (some k, k, B)) (hk : 0 < k)
    (base : Nat) (v : Value) (rows : List (List Value)) (hs : a.eval s = v) (hown : OwnR e k w base v rows) (A : Option Addr) (m c : Nat) (news : List (List Value)) (hx : a.eval x = .slice A m c) (hr : Rws k w A m c news)
    (hsmall : (rows.length + m) * B ≤ 140737488355328) (hm63 : rows.length + m ≤ 140737488355328) (hbase : base ≤ w.heap.size) (hw : Region.wanted o (yielded ops a.tmps) = true)
    (h : ∀ v' w', OwnR e k w' base v' (rows ++ news) → w.grownBy w' v.ownBlock → K (a.put o.dst v') w') : if Region.wanted o (yielded ops a.tmps) = true then Oper.wp P o a w K Q else E := by
  rw [if_pos hw]
  exact wp_append_r t e k B s x ho hu hinfo hk base v rows hs hown A m c news hx hr hsmall hm63 hbase h
/-- the same, and where it lies -/
theorem wpList_append_r_at {P : Program} {w : World} {ops : Array Oper} {rest : List Oper} {o : Oper} {a : Act} {Q : Exit → Act → World → Prop} (hgd : o.guard = none) (t e : TypeId) (k B : Nat) (s x : Operand)
    (ho : o.op = .call { callee := .builtin .append, args := #[s, x], argTypes := #[t, t] }) (hu : P.underlying t = some (.slice e)) (hinfo : (P.info? e).map (fun i => (i.zero.map (·.cells.size), i.size, i.bytes)) = some (some k, k, B)) (hk : 0 < k)
    (base : Nat) (v : Value) (rows : List (List Value)) (hs : a.eval s = v) (hown : OwnR e k w base v rows) (A : Option Addr) (m c : Nat) (news : List (List Value)) (hx : a.eval x = .slice A m c) (hr : Rws k w A m c news)
    (hsmall : (rows.length + m) * B ≤ 140737488355328) (hm63 : rows.length + m ≤ 140737488355328) (hbase : base ≤ w.heap.size)
    (h : ∀ v' w', OwnR e k w' base v' (rows ++ news) → w.grownBy w' v.ownBlock → (v'.ownBlock = v.ownBlock ∨ v'.ownBlock = some w.heap.size) → wpList P ops Q rest (a.put o.dst v') w') : wpList P ops Q (o :: rest) a w := by
  cases hi : P.info? e with
  | none => simp [hi] at hinfo
  | some i =>
    simp only [hi, Option.map_some, Option.some.injEq, Prod.mk.injEq] at hinfo
    obtain ⟨hz, h1, h2⟩ := hinfo
    cases hzz : i.zero with
    | none => simp [hzz] at hz
    | some z =>
      simp only [hzz, Option.map_some, Option.some.injEq] at hz
      rcases A with _ | ad
      · obtain rfl := hr.bare rfl
        have hm : m = 0 := by have := hr.le; omega
        subst hm
        obtain rfl : news = [] := List.eq_nil_of_length_eq_zero hr.len
        refine wpList_append_own_none hgd s x t ho base e i k hu hi v rows.length rows.flatten hs hown.row hx ?_
        exact h v w (by simpa using hown) (World.grownBy.refl w _) (.inl rfl)
      · have hnews : ∀ (j : Nat) (u : Value), news.flatten[j]? = some u → w.cell? (ad.add j) = some u := by
          intro j u hu
          have hm0 : 0 < m := by
            have h3 := (List.getElem?_eq_some_iff.1 hu).1
            rw [flat_len hr.wid, hr.len] at h3
            rcases Nat.eq_zero_or_pos m with h4 | h4
            · rw [h4, Nat.zero_mul] at h3; omega
            · exact h4
          obtain ⟨b, off, hA, _⟩ := hr.at_ hm0
          injection hA with hA
          subst hA
          exact hr.news hk j u hu
        refine wpList_append_own_at (P := P) w hgd s x t ho base e i z k B hu hi hzz h1 h2 hz hk v rows.length rows.flatten hs hown.row ad m c news.flatten hx (by rw [flat_len hr.wid, hr.len]) hnews (flat_one hr.one) (by unfold maxLen; omega) hsmall hbase ?_
        intro v' w' hown' hg _ hat
        refine h v' w' ⟨?_, mem_app hown.wid hr.wid, mem_app hown.one hr.one⟩ hg hat
        rw [List.flatten_append, List.length_append, hr.len]
        exact hown'
/-- a literal of one row -/
theorem one_rws (k : Nat) (e : TypeId) (w : World) (r : List Value) (hr : r.length = k) (h1 : ∀ u ∈ r, u.oneCell' = true) : Rws k (w.alloc (.cells r.toArray e)) (some ⟨w.heap.size, 0, none⟩) 1 1 [r] := by
  refine ⟨rfl, fun x hx => ?_, fun x hx => ?_, Nat.le_refl _, by unfold maxLen; omega, (fun e => by cases e), fun _ => ⟨w.heap.size, 0, rfl, fun j hj i hi => ?_⟩⟩
  · rw [List.mem_singleton.1 hx]; exact hr
  · rw [List.mem_singleton.1 hx]; exact h1
  · obtain rfl : j = 0 := by omega
    rw [Nat.zero_mul, Nat.add_zero, Nat.zero_add, cell_of_row _ _ _ _ _ _ (heap_alloc_new w _)]
    simp [List.getD_eq_getElem?_getD, List.getElem?_eq_getElem (show i < r.length by omega)]
end Go.Proofs.YtafmompplcaadaaGreatDoor
