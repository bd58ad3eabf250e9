/- Numbers as bytes: which bytes stand ahead; the bytes of several numbers, and the numbers that bytes are cut into. -/
import Derived.Test.YtfjiefhicjnnnaaNumSpec

import Derived.Test.YtfjiefhicjnnnaaBasBytes
namespace Go.Proofs.Ytfjiefhicjnnnaa
open Go

theorem numOf_eq (l : List Int) (a : Nat) : numOf l a = a * 256 ^ l.length + numL l := by
  induction l generalizing a with
  | nil => simp [numOf, numL]
  | cons x l ih =>
    rw [numL, numOf, numOf, ih (256 * a + x.toNat), ih (256 * 0 + x.toNat), List.length_cons, Nat.pow_succ]
    rw [Nat.add_mul, Nat.add_mul, Nat.mul_comm 256 a, Nat.mul_assoc, Nat.mul_comm 256 (256 ^ l.length)]
    omega
theorem numL_cons (x : Int) (l : List Int) : numL (x :: l) = x.toNat * 256 ^ l.length + numL l := by
  rw [numL, numOf, numOf_eq, Nat.mul_zero, Nat.zero_add]
def u8s (l : List Int) : List UInt8 := l.map fun n => UInt8.ofNat n.toNat
theorem u8_lt (x y : Int) (hx : 0 ≤ x ∧ x < 256) (hy : 0 ≤ y ∧ y < 256) : (UInt8.ofNat x.toNat < UInt8.ofNat y.toNat) ↔ x < y := by
  rw [UInt8.lt_iff_toNat_lt]
  simp only [UInt8.toNat_ofNat']
  omega
theorem u8_eq (x y : Int) (hx : 0 ≤ x ∧ x < 256) (hy : 0 ≤ y ∧ y < 256) : (UInt8.ofNat x.toNat = UInt8.ofNat y.toNat) ↔ x = y := by
  rw [← UInt8.toNat_inj]
  simp only [UInt8.toNat_ofNat']
  omega
/-- of as many bytes the lesser number's stand ahead -/
theorem less_num (l m : List Int) (h : l.length = m.length) (hl : ∀ x ∈ l, 0 ≤ x ∧ x < 256) (hm : ∀ x ∈ m, 0 ≤ x ∧ x < 256) : Op.bytesLess (u8s l) (u8s m) = decide (numL l < numL m) := by
  induction l generalizing m with
  | nil =>
    cases m with
    | nil => simp [u8s, Op.bytesLess]
    | cons y m => simp at h
  | cons x l ih =>
    cases m with
    | nil => simp at h
    | cons y m =>
      have hlen : l.length = m.length := by simpa using h
      have hx := hl x (by simp)
      have hy := hm y (by simp)
      have hl' : ∀ z ∈ l, 0 ≤ z ∧ z < 256 := fun z hz => hl z (by simp [hz])
      have hm' : ∀ z ∈ m, 0 ≤ z ∧ z < 256 := fun z hz => hm z (by simp [hz])
      have ih := ih m hlen hl' hm'
      have bl := numL_bound l hl'
      have bm := numL_bound m hm'
      rw [hlen] at bl
      rw [numL_cons, numL_cons, hlen]
      show (decide (UInt8.ofNat x.toNat < UInt8.ofNat y.toNat) || (UInt8.ofNat x.toNat == UInt8.ofNat y.toNat && Op.bytesLess (u8s l) (u8s m))) = _
      rw [ih]
      generalize 256 ^ m.length = P at bl bm ⊢
      generalize numL l = a at bl ⊢
      generalize numL m = b at bm ⊢
      rw [Bool.eq_iff_iff, Bool.or_eq_true, Bool.and_eq_true, decide_eq_true_eq, decide_eq_true_eq, decide_eq_true_eq, beq_iff_eq, u8_lt x y hx hy, u8_eq x y hx hy]
      obtain ⟨X, hX⟩ : ∃ X, X = x.toNat := ⟨_, rfl⟩
      obtain ⟨Y, hY⟩ : ∃ Y, Y = y.toNat := ⟨_, rfl⟩
      rw [← hX, ← hY]
      have e1 : x < y ↔ X < Y := by omega
      have e2 : x = y ↔ X = Y := by omega
      rw [e1, e2]
      constructor
      · rintro (hlt | ⟨rfl, hab⟩)
        · have : (X + 1) * P ≤ Y * P := Nat.mul_le_mul_right _ hlt
          rw [Nat.add_mul, Nat.one_mul] at this
          omega
        · omega
      · intro hlt
        rcases Nat.lt_trichotomy X Y with h1 | h1 | h1
        · exact .inl h1
        · subst h1
          exact .inr ⟨rfl, by omega⟩
        · have : (Y + 1) * P ≤ X * P := Nat.mul_le_mul_right _ h1
          rw [Nat.add_mul, Nat.one_mul] at this
          omega
theorem putL_mem (N k : Nat) : ∀ x ∈ putL N k, 0 ≤ x ∧ x < 256 := by
  intro x hx
  obtain ⟨i, _, rfl⟩ := List.mem_map.1 hx
  exact putAt_ok N k i
theorem less_put (N M k : Nat) (hN : N < 256 ^ k) (hM : M < 256 ^ k) : Op.bytesLess (u8s (putL N k)) (u8s (putL M k)) = decide (N < M) := by
  rw [less_num _ _ (by rw [putL_length, putL_length]) (putL_mem N k) (putL_mem M k), num_put N k hN, num_put M k hM]
/-- one byte more, with a nought ahead -/
theorem put_long (N k : Nat) (hN : N < 256 ^ k) : putL N (k + 1) = 0 :: putL N k := by
  rw [putL, List.range_succ_eq_map, List.map_cons, List.map_map]
  congr 1
  · rw [putAt, show k + 1 - 1 - 0 = k by omega, Nat.div_eq_of_lt hN]
    rfl
  · apply List.map_congr_left
    intro i _
    show putAt N (k + 1) (i + 1) = putAt N k i
    rw [putAt, putAt, show k + 1 - 1 - (i + 1) = k - 1 - i by omega]

/-- the bytes of several numbers -/
def catL : List (Nat × Nat) → List Int
  | [] => []
  | p :: l => putL p.1 p.2 ++ catL l
/-- the numbers that bytes are cut into -/
def cutL : List Nat → List Int → List Nat
  | [], _ => []
  | k :: ks, b => numL (b.take k) :: cutL ks (b.drop k)
def fitsL (l : List (Nat × Nat)) : Prop := ∀ p ∈ l, p.1 < 256 ^ p.2
theorem catL_append (l m : List (Nat × Nat)) : catL (l ++ m) = catL l ++ catL m := by
  induction l with
  | nil => rfl
  | cons p l ih => rw [List.cons_append, catL, catL, ih, List.append_assoc]
theorem catL_length (l : List (Nat × Nat)) : (catL l).length = (l.map (·.2)).sum := by
  induction l with
  | nil => rfl
  | cons p l ih => rw [catL, List.length_append, putL_length, ih, List.map_cons, List.sum_cons]
theorem cutL_length (ks : List Nat) (b : List Int) : (cutL ks b).length = ks.length := by
  induction ks generalizing b with
  | nil => rfl
  | cons k ks ih => rw [cutL, List.length_cons, ih, List.length_cons]
/-- numbers are cut out of their bytes -/
theorem cut_cat (l : List (Nat × Nat)) (h : fitsL l) : cutL (l.map (·.2)) (catL l) = l.map (·.1) := by
  induction l with
  | nil => rfl
  | cons p l ih =>
    have hp := h p (by simp)
    have ih := ih (fun q hq => h q (by simp [hq]))
    rw [List.map_cons, List.map_cons, catL, cutL]
    have e1 : (putL p.1 p.2 ++ catL l).take p.2 = putL p.1 p.2 := List.take_left' (putL_length _ _)
    have e2 : (putL p.1 p.2 ++ catL l).drop p.2 = catL l := List.drop_left' (putL_length _ _)
    rw [e1, e2, num_put _ _ hp, ih]
/-- what is cut is put together as the same bytes -/
theorem cat_cut (ks : List Nat) (b : List Int) (hb : ∀ x ∈ b, 0 ≤ x ∧ x < 256) (h : ks.sum = b.length) : catL ((cutL ks b).zip ks) = b := by
  induction ks generalizing b with
  | nil =>
    have : b = [] := List.eq_nil_of_length_eq_zero (by simpa using h.symm)
    subst this
    rfl
  | cons k ks ih =>
    rw [List.sum_cons] at h
    have hd : ks.sum = (b.drop k).length := by rw [List.length_drop]; omega
    have ih := ih (b.drop k) (fun x hx => hb x (List.mem_of_mem_drop hx)) hd
    have ht : (b.take k).length = k := by rw [List.length_take]; omega
    have hp := put_num (b.take k) (fun x hx => hb x (List.mem_of_mem_take hx))
    rw [ht] at hp
    rw [cutL, List.zip_cons_cons, catL, ih, hp, List.take_append_drop]
theorem fits_cut (ks : List Nat) (b : List Int) (hb : ∀ x ∈ b, 0 ≤ x ∧ x < 256) (h : ks.sum = b.length) : fitsL ((cutL ks b).zip ks) := by
  induction ks generalizing b with
  | nil => intro p hp; simp [cutL] at hp
  | cons k ks ih =>
    rw [List.sum_cons] at h
    have hd : ks.sum = (b.drop k).length := by rw [List.length_drop]; omega
    have ih := ih (b.drop k) (fun x hx => hb x (List.mem_of_mem_drop hx)) hd
    have ht : (b.take k).length = k := by rw [List.length_take]; omega
    intro p hp
    rw [cutL, List.zip_cons_cons] at hp
    rcases List.mem_cons.1 hp with rfl | hp
    · have := numL_bound (b.take k) (fun x hx => hb x (List.mem_of_mem_take hx))
      rwa [ht] at this
    · exact ih p hp
end Go.Proofs.Ytfjiefhicjnnnaa
