/- The walks over the laws' Key, Word, Tag. -/
import Derived.Test.YtcpeaeefphgbaaaKnwLacks2
namespace Go.Proofs.Ytcpeaeefphgbaaa
set_option linter.unusedVariables false
set_option linter.unusedSimpArgs false
open Go.RowKit

theorem is_leaf (P : Nat → Prop) (w : World) (k n : Int) : Is P w (.node k n []) k n none 0 0 := ⟨lies_zero P w k n⟩
theorem key_any (n : Int) (w : World) : Calls Try.prog 26 #[.int .i64 n] w (fun e w' => e = .returned (.agg #[.int .i64 1, .int .i64 n, .slice none 0 0]) ∧ Below w.heap.size w w') := by
  go_enter Try.func26, Try.ntmps26
  go_wp2
  exact bodyPost_ret (v := .agg #[.int .i64 1, .int .i64 n, .slice none 0 0]) (by simp [results, Try.results26, go_sem]) rfl ⟨rfl, one_alloc _ _⟩
theorem word_any (n : Int) (w : World) : Calls Try.prog 27 #[.int .i64 n] w (fun e w' => e = .returned (.agg #[.int .i64 0, .int .i64 n, .slice none 0 0]) ∧ Below w.heap.size w w') := by
  go_enter Try.func27, Try.ntmps27
  go_wp2
  exact bodyPost_ret (v := .agg #[.int .i64 0, .int .i64 n, .slice none 0 0]) (by simp [results, Try.results27, go_sem]) rfl ⟨rfl, one_alloc _ _⟩
/-- a literal of two rows -/
theorem two_rws (k : Nat) (e : TypeId) (w : World) (r s : List Value) (hr : r.length = k) (hs : s.length = k) (h1 : ∀ u ∈ r, u.oneCell' = true) (h2 : ∀ u ∈ s, u.oneCell' = true) : Rws k (w.alloc (.cells (r ++ s).toArray e)) (some ⟨w.heap.size, 0, none⟩) 2 2 [r, s] := by
  refine ⟨rfl, fun x hx => ?_, fun x hx => ?_, Nat.le_refl _, by unfold maxLen; omega, (fun e => by cases e), fun _ => ⟨w.heap.size, 0, rfl, fun j hj i hi => ?_⟩⟩
  · simp only [List.mem_cons, List.not_mem_nil, or_false] at hx
    rcases hx with rfl | rfl
    · exact hr
    · exact hs
  · simp only [List.mem_cons, List.not_mem_nil, or_false] at hx
    rcases hx with rfl | rfl
    · exact h1
    · exact h2
  · rw [cell_of_row _ _ _ _ _ _ (heap_alloc_new w _)]
    have hf : (r ++ s) = [r, s].flatten := by simp
    have := flat_get (rows := [r, s]) (k := k) (fun x hx => by
      simp only [List.mem_cons, List.not_mem_nil, or_false] at hx
      rcases hx with rfl | rfl
      · exact hr
      · exact hs) j i (by simpa using hj) hi
    rw [← hf] at this
    rw [Nat.zero_add, List.getElem?_toArray]
    exact this
theorem pair_lies {w : World} {t u : Te} {k n k2 n2 kk nn : Int} {A A2 : Option Addr} {m c m2 c2 : Nat} {P Q : Nat → Prop} (ht : Is P w t k n A m c) (hu : Is Q w u k2 n2 A2 m2 c2) :
    Is (fun _ => True) (w.alloc (.cells #[.int .i64 k, .int .i64 n, .slice A m c, .int .i64 k2, .int .i64 n2, .slice A2 m2 c2] 24)) (.node kk nn [t, u]) kk nn (some ⟨w.heap.size, 0, none⟩) 2 2 := by
  have hr := two_rws 3 24 w [.int .i64 k, .int .i64 n, .slice A m c] [.int .i64 k2, .int .i64 n2, .slice A2 m2 c2] rfl rfl (row_one k n A m c) (row_one k2 n2 A2 m2 c2)
  refine ⟨.mk hr (fun _ _ _ => trivial) rfl fun i hi => ?_⟩
  have hone := one_alloc w (.cells #[.int .i64 k, .int .i64 n, .slice A m c, .int .i64 k2, .int .i64 n2, .slice A2 m2 c2] 24)
  have hi2 : i = 0 ∨ i = 1 := by simp at hi; omega
  rcases hi2 with rfl | rfl
  · exact ((ht.later hone).mono fun _ _ => trivial).lies
  · exact ((hu.later hone).mono fun _ _ => trivial).lies
/-- behind a call that gives a term whose Args stand in a new slice -/
def GivesTag (t : Te) (w : World) (e : Ending) (w' : World) : Prop := ∃ A, e = .returned (.agg #[.int .i64 3, .int .i64 0, .slice A 2 2]) ∧ Is (fun _ => True) w' t 3 0 A 2 2 ∧ Below w.heap.size w w'
theorem tag_any (P Q : Nat → Prop) (t u : Te) (k n k2 n2 : Int) (A A2 : Option Addr) (m c m2 c2 : Nat) (w : World) (hI : Is P w t k n A m c) (hJ : Is Q w u k2 n2 A2 m2 c2) :
    Calls Try.prog 24 #[.agg #[.int .i64 k, .int .i64 n, .slice A m c], .agg #[.int .i64 k2, .int .i64 n2, .slice A2 m2 c2]] w (GivesTag (.node 3 0 [t, u]) w) := by
  have HI := Lib.hid hI
  have HJ := Lib.hid hJ
  clear hI hJ
  go_enter Try.func24, Try.ntmps24
  go_wp2
  have h3 := three_below w (.cells #[.int .i64 k, .int .i64 n, .slice A m c] 24) (.cells #[.int .i64 k2, .int .i64 n2, .slice A2 m2 c2] 24) (.cells #[.int .i64 3, .int .i64 0, .slice (some ⟨w.heap.size + 1 + 1 + 1, 0, none⟩) 2 2] 24)
  have hp := pair_lies (kk := 3) (nn := 0) (HI.out.later h3) (HJ.out.later h3)
  have e : (((w.alloc (.cells #[.int .i64 k, .int .i64 n, .slice A m c] 24)).alloc (.cells #[.int .i64 k2, .int .i64 n2, .slice A2 m2 c2] 24)).alloc (.cells #[.int .i64 3, .int .i64 0, .slice (some ⟨w.heap.size + 1 + 1 + 1, 0, none⟩) 2 2] 24)).heap.size = w.heap.size + 1 + 1 + 1 := by simp
  rw [e] at hp
  exact bodyPost_ret (v := .agg #[.int .i64 3, .int .i64 0, .slice (some ⟨w.heap.size + 1 + 1 + 1, 0, none⟩) 2 2]) (by simp [results, Try.results24, go_sem]) rfl ⟨_, rfl, hp, h3.alloc (by rw [e]; omega) _⟩
/-- a slice of one term, in a new block -/
theorem one_is {P : Nat → Prop} {w : World} {t : Te} {k n : Int} {A : Option Addr} {m c : Nat} (h : Is P w t k n A m c) :
    Is (fun _ => True) (w.alloc (.cells #[.int .i64 k, .int .i64 n, .slice A m c] 24)) (.node 0 0 [t]) 0 0 (some ⟨w.heap.size, 0, none⟩) 1 1 := by
  refine ⟨.mk (one_rws 3 24 w [.int .i64 k, .int .i64 n, .slice A m c] rfl (row_one k n A m c)) (fun _ _ _ => trivial) rfl fun i hi => ?_⟩
  have hi2 : i = 0 := by simp at hi; omega
  subst hi2
  exact ((h.later (one_alloc _ _)).mono fun _ _ => trivial).lies
end Go.Proofs.Ytcpeaeefphgbaaa
