/- Frames as bytes: what is put fits; its length; what it is read as. -/
import Derived.Test.YtadcbikdbekmgaaFrmSpec
import Derived.Test.YtadcbikdbekmgaaNumGives
namespace Go.Proofs.Ytadcbikdbekmgaa
set_option linter.unusedVariables false
set_option linter.unusedSimpArgs false
open Go

def pickI : List Int → List Nat → List (Int × Int)
  | n :: ns, s :: S => if 0 < s then (n, (s : Int)) :: pickI ns S else pickI ns S
  | _, _ => []
def rowI (f : Fr) (S : List Nat) (t : Bool) : List (Int × Int) := ((folL S t : Nat), 2) :: pickI f.nums S
theorem pickI_toN : ∀ (ns : List Int) (S : List Nat), toN (pickI ns S) = pick (ns.map Int.toNat) S
  | n :: ns, s :: S => by
    rw [pickI, List.map_cons, pick]
    by_cases h : 0 < s
    · rw [if_pos h, if_pos h, toN, List.map_cons]
      congr 1
      exact pickI_toN ns S
    · rw [if_neg h, if_neg h]
      exact pickI_toN ns S
  | [], _ => by simp [pickI, pick, toN]
  | _ :: _, [] => by simp [pickI, pick, toN]
theorem rowI_toN (f : Fr) (S : List Nat) (t : Bool) : toN (rowI f S t) = rowS f S t := by
  rw [rowI, toN, List.map_cons, rowS]
  congr 1
  exact pickI_toN _ _
theorem pickI_snoc : ∀ (ns : List Int) (S : List Nat) (k : Nat), k < ns.length → k < S.length → pickI (ns.take (k + 1)) (S.take (k + 1)) = pickI (ns.take k) (S.take k) ++ if 0 < S.getD k 0 then [(ns.getD k 0, ((S.getD k 0 : Nat) : Int))] else []
  | n :: ns, s :: S, 0, _, _ => by
    simp only [List.take_succ_cons, List.take_zero, pickI, List.getD_cons_zero]
    by_cases h : 0 < s
    · simp [h, pickI]
    · simp [h, pickI]
  | n :: ns, s :: S, k + 1, h1, h2 => by
    have ih := pickI_snoc ns S k (by simpa using h1) (by simpa using h2)
    simp only [List.getD_cons_succ]
    rw [List.take_succ_cons, List.take_succ_cons, List.take_succ_cons (i := k), List.take_succ_cons (i := k), pickI, pickI, ih]
    by_cases h : 0 < s
    · rw [if_pos h, if_pos h, List.cons_append]
    · rw [if_neg h, if_neg h]
theorem pickI_len (ns : List Int) (S : List Nat) : (pickI ns S).length ≤ S.length := by
  induction ns generalizing S with
  | nil => simp [pickI]
  | cons n ns ih =>
    cases S with
    | nil => simp [pickI]
    | cons s S =>
      rw [pickI]
      have := ih S
      split <;> simp <;> omega
theorem plain_facts {f : Fr} (h : plainB f = true) : kindB f.kind = true ∧ rangeB f = true ∧ blankB f.nums (szK f.kind.toNat) = true ∧ (tagK f.kind.toNat = false → f.tag = noTag) := by
  rw [plainB, Bool.and_eq_true, plainS, Bool.and_eq_true, Bool.and_eq_true] at h
  refine ⟨h.1, h.2.1, h.2.2.1, fun ht => ?_⟩
  have := h.2.2.2
  rw [ht, Bool.false_or, beq_iff_eq] at this
  exact this
/-- all numbers of a plain frame fit -/
theorem plain_fits {f : Fr} (hok : f.ok) (h : plainB f = true) : catB (rowI f (szK f.kind.toNat) (tagK f.kind.toNat)) = true := by
  obtain ⟨h1, h2, h3, h4⟩ := plain_facts h
  unfold rangeB at h2
  rw [decide_eq_true_eq] at h2
  obtain ⟨_, _, ⟨b2, a2⟩, ⟨b3, a3⟩, _, ⟨b5, a5⟩, _, _, _, _⟩ := hok
  rcases f with ⟨kind, user, sess, cn, epoch, count, cmd, arg, tag⟩
  simp only at *
  clear h h3 h4
  rcases kind_cases h1 with rfl | rfl | rfl | rfl | rfl | rfl | rfl
  all_goals
    simp [rowI, pickI, Fr.nums, szK, tagK, folL, catB, fitsB, fitB]
    omega
theorem rowS_sum (f : Fr) (S : List Nat) (t : Bool) (hS : S.length = 8) : (catL (rowS f S t)).length = 2 + S.sum := by
  rw [catL_length, rowS, List.map_cons, List.sum_cons, pick_length _ _ (by rw [natsOf_length, hS]), there_sum]
theorem putF_length {f : Fr} (hT : f.tag.length = 32) : (putF f).length = 2 + folL (szK f.kind.toNat) (tagK f.kind.toNat) := by
  rw [putF, List.length_append, frontF, rowS_sum _ _ _ (szK_length _), folL]
  cases tagK f.kind.toNat <;> simp [hT] <;> omega
theorem putF_ok {f : Fr} (hok : f.ok) : ∀ j, 0 ≤ (putF f).getD j 0 ∧ (putF f).getD j 0 < 256 := by
  rw [putF]
  refine ok_append (catL_ok _) ?_
  split
  · exact hok.bytes
  · simp
theorem putF_small (f : Fr) (hT : f.tag.length = 32) : (putF f).length ≤ 54 := by
  rw [putF_length hT]
  have := folK_small f.kind.toNat
  omega
end Go.Proofs.Ytadcbikdbekmgaa
