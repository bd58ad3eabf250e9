/- Numbers, each to its place: what stands where; what their bounds are. -/
import Derived.Test.YtadcbikdbekmgaaFrmWhole
namespace Go.Proofs.Ytadcbikdbekmgaa
set_option linter.unusedVariables false
set_option linter.unusedSimpArgs false
open Go Go.RowKit

theorem there_succ (S : List Nat) (k : Nat) (h : k < S.length) : (there (S.take (k + 1))).length = (there (S.take k)).length + if 0 < S.getD k 0 then 1 else 0 := by
  have e : there (S.take (k + 1)) = there (S.take k) ++ if 0 < S.getD k 0 then [S.getD k 0] else [] := by
    rw [there, there, List.take_succ_eq_append_getElem h, List.filter_append]
    simp [List.getD_eq_getElem?_getD, h, List.filter_cons]
  rw [e, List.length_append]
  split <;> rfl
theorem spread_get : ∀ (S l : List Nat) (k : Nat), k < S.length → (spread S l).getD k 0 = if 0 < S.getD k 0 then l.getD (there (S.take k)).length 0 else 0
  | s :: S, l, 0, _ => by
    rw [spread]
    by_cases h : 0 < s
    · rw [if_pos h]
      simp only [List.getD_cons_zero, h, if_true, List.take_zero]
      cases l <;> simp [there]
    · rw [if_neg h]
      simp [h]
  | s :: S, l, k + 1, hk => by
    rw [spread]
    by_cases h : 0 < s
    · rw [if_pos h, List.getD_cons_succ, spread_get S l.tail k (by simpa using hk), List.getD_cons_succ]
      have : (there ((s :: S).take (k + 1))).length = (there (S.take k)).length + 1 := by simp [there, List.filter_cons, h]
      rw [this]
      cases l <;> simp
    · rw [if_neg h, List.getD_cons_succ, spread_get S l k (by simpa using hk), List.getD_cons_succ]
      have : (there ((s :: S).take (k + 1))).length = (there (S.take k)).length := by simp [there, List.filter_cons, h]
      rw [this]
theorem cut_bound (ks : List Nat) (b : List Int) (hb : ∀ x ∈ b, 0 ≤ x ∧ x < 256) (k : Nat) (h : k < ks.length) : (cutL ks b).getD k 0 < 256 ^ ks.getD k 0 := by
  have h1 := cutL_get ks b k h
  have h2 : (cutL ks b).getD k 0 = numL ((b.drop (ks.take k).sum).take (ks.getD k 0)) := by rw [List.getD_eq_getElem?_getD, h1]; rfl
  rw [h2]
  refine Nat.lt_of_lt_of_le (numL_bound _ (fun x hx => hb x (List.mem_of_mem_drop (List.mem_of_mem_take hx)))) (Nat.pow_le_pow_right (by omega) ?_)
  rw [List.length_take]
  omega
theorem there_at : ∀ (S : List Nat) (k : Nat), k < S.length → 0 < S.getD k 0 → (there S).getD (there (S.take k)).length 0 = S.getD k 0 ∧ (there (S.take k)).length < (there S).length
  | s :: S, 0, _, h => by
    simp only [List.getD_cons_zero] at h
    simp [there, List.filter_cons, h]
  | s :: S, k + 1, hk, h => by
    simp only [List.getD_cons_succ] at h
    obtain ⟨h1, h2⟩ := there_at S k (by simpa using hk) h
    by_cases hs : 0 < s
    · have e1 : there (s :: S) = s :: there S := by simp [there, List.filter_cons, hs]
      have e2 : (there ((s :: S).take (k + 1))).length = (there (S.take k)).length + 1 := by simp [there, List.filter_cons, hs]
      rw [e1, e2, List.getD_cons_succ, List.getD_cons_succ, h1]
      exact ⟨rfl, by simp; omega⟩
    · have e1 : there (s :: S) = there S := by simp [there, List.filter_cons, hs]
      have e2 : (there ((s :: S).take (k + 1))).length = (there (S.take k)).length := by simp [there, List.filter_cons, hs]
      rw [e1, e2, List.getD_cons_succ, h1]
      exact ⟨rfl, h2⟩
theorem spread_bound (S : List Nat) (b : List Int) (hb : ∀ x ∈ b, 0 ≤ x ∧ x < 256) (k : Nat) (h : k < S.length) : (spread S (cutL (there S) b)).getD k 0 < 256 ^ S.getD k 0 := by
  rw [spread_get S _ k h]
  by_cases hs : 0 < S.getD k 0
  · rw [if_pos hs]
    obtain ⟨h1, h2⟩ := there_at S k h hs
    have := cut_bound (there S) b hb _ h2
    rwa [h1] at this
  · rw [if_neg hs]
    exact Nat.pow_pos (by omega)
/-- the numbers so far, and noughts -/
def soFar (F : List Nat) (k : Nat) : List Nat := F.take k ++ List.replicate (8 - k) 0
theorem soFar_length (F : List Nat) (hF : F.length = 8) (k : Nat) (hk : k ≤ 8) : (soFar F k).length = 8 := by simp [soFar, hF]; omega
theorem soFar_set (F : List Nat) (hF : F.length = 8) (k : Nat) (hk : k < 8) : (soFar F k).set k (F.getD k 0) = soFar F (k + 1) := by
  have hl : k < F.length := by omega
  have hn : F.take (k + 1) = F.take k ++ [F.getD k 0] := by rw [List.take_succ_eq_append_getElem hl]; simp [List.getD_eq_getElem?_getD, hl]
  have e : List.replicate (8 - k) 0 = 0 :: List.replicate (8 - (k + 1)) 0 := by
    rw [show 8 - k = (8 - (k + 1)) + 1 by omega]
    rfl
  have htl : (F.take k).length = k := by rw [List.length_take]; omega
  rw [soFar, soFar, e, hn, List.append_assoc, List.set_append_right _ _ (by omega), htl, Nat.sub_self]
  rfl
theorem soFar_zero (F : List Nat) (hF : F.length = 8) (k : Nat) (hk : k < 8) (h : F.getD k 0 = 0) : soFar F k = soFar F (k + 1) := by
  have hl : k < F.length := by omega
  have hn : F.take (k + 1) = F.take k ++ [F.getD k 0] := by rw [List.take_succ_eq_append_getElem hl]; simp [List.getD_eq_getElem?_getD, hl]
  have e : List.replicate (8 - k) 0 = 0 :: List.replicate (8 - (k + 1)) 0 := by
    rw [show 8 - k = (8 - (k + 1)) + 1 by omega]
    rfl
  rw [soFar, soFar, e, hn, h, List.append_assoc]
  rfl
theorem soFar_all (F : List Nat) (hF : F.length = 8) : soFar F 8 = F := by
  simp only [soFar, Nat.sub_self, List.replicate_zero, List.append_nil]
  rw [← hF, List.take_length]
theorem ok_sizes (k : Nat) : okSizes (there (szK k)) := by
  intro s hs
  have h1 : s ∈ szK k := (List.mem_filter.1 hs).1
  have h2 := (List.mem_filter.1 hs).2
  simp only [decide_eq_true_eq] at h2
  refine ⟨h2, ?_⟩
  revert h1
  unfold szK
  split <;> intro h1 <;> simp at h1 <;> omega
theorem low_sizes (k : Nat) : (szK k).getD 0 0 ≤ 4 ∧ (szK k).getD 1 0 ≤ 4 ∧ (szK k).getD 4 0 ≤ 4 ∧ (szK k).getD 6 0 ≤ 4 ∧ (szK k).getD 7 0 ≤ 4 ∧ (szK k).getD 2 0 ≤ 8 ∧ (szK k).getD 3 0 ≤ 8 ∧ (szK k).getD 5 0 ≤ 8 := by
  unfold szK
  split <;> decide
end Go.Proofs.Ytadcbikdbekmgaa
