/- The walk over package frame's Read: the frame of bytes, or why none. -/
import Derived.Test.YtadcbikdbekmgaaFrmParsed2
namespace Go.Proofs.Ytadcbikdbekmgaa
set_option linter.unusedVariables false
set_option linter.unusedSimpArgs false
open Go.RowKit

/-- what parsed hands back -/
def ParsedPost (l : List Int) (w : World) (e : Ending) (w' : World) : Prop := e = .returned (.tuple #[frV (if formB l then parseF l else Fr.zero), .bool (formB l)]) ∧ Below w.heap.size w w'
theorem parsed_any (A : Option Addr) (n c : Nat) (l : List Int) (w : World) (hb : Bts w A n c l) :
    Calls Try.prog 27 #[.slice A n c] w (ParsedPost l w) := by
  have hno : formB l = false → ∀ e w', NoFrame w e w' → ParsedPost l w e w' := fun h e w' ⟨he, hB⟩ => ⟨by rw [h]; exact he, hB⟩
  have hyes : formB l = true → ∀ e w', YesFrame l w e w' → ParsedPost l w e w' := fun h e w' ⟨he, hB⟩ => ⟨by rw [h]; exact he, hB⟩
  by_cases h3 : n < 3
  · exact (parsed_short A n c l w hb h3).mono (hno (by unfold formB; rw [hb.len, decide_eq_false (by omega)]; rfl))
  · cases hk : kindB (kindL l) with
    | false => exact (parsed_kind A n c l w hb (by omega) hk).mono (hno (by unfold formB; rw [hk]; simp))
    | true =>
      by_cases hf : n = 2 + folL (szK (kindL l)) (tagK (kindL l))
      · have hform : formB l = true := by
          unfold formB
          rw [hk, hb.len, decide_eq_true (by omega), decide_eq_true hf]
          rfl
        cases ht : tagK (kindL l) with
        | true => exact (parsed_tag A n c l w hb (by omega) hk hf ht).mono (hyes hform)
        | false => exact (parsed_bare A n c l w hb (by omega) hk hf ht).mono (hyes hform)
      · exact (parsed_long A n c l w hb (by omega) hk hf).mono (hno (by unfold formB; rw [hk, hb.len, decide_eq_false hf]; simp))
theorem form_facts {l : List Int} (h : formB l = true) : 3 ≤ l.length ∧ kindB (kindL l) = true ∧ l.length = 2 + folL (szK (kindL l)) (tagK (kindL l)) := by
  unfold formB at h
  rw [Bool.and_eq_true, Bool.and_eq_true, decide_eq_true_eq, decide_eq_true_eq] at h
  exact ⟨h.1, h.2.1, h.2.2⟩
theorem parse_ok {l : List Int} (hl : ∀ j, 0 ≤ l.getD j 0 ∧ l.getD j 0 < 256) (h : formB l = true) : (parseF l).ok := by
  obtain ⟨h1, h2, h3⟩ := form_facts h
  have hlb : ∀ x ∈ ((l.drop 2).take (szK (kindL l)).sum), 0 ≤ x ∧ x < 256 := fun x hx => mem_ok hl x (List.mem_of_mem_drop (List.mem_of_mem_take hx))
  have hlow := low_sizes (kindL l)
  have hcap : ∀ (a k : Nat), k ≤ a → 256 ^ k ≤ 256 ^ a := fun a k h => Nat.pow_le_pow_right (by omega) h
  have hFb := fun k (hk : k < 8) => spread_bound (szK (kindL l)) _ hlb k (by rw [szK_length]; exact hk)
  have q0 : (spread (szK (kindL l)) (cutL (there (szK (kindL l))) ((l.drop 2).take (szK (kindL l)).sum))).getD 0 0 < 9223372036854775808 := Nat.lt_of_lt_of_le (hFb 0 (by omega)) (Nat.le_trans (hcap 4 _ hlow.1) (by decide))
  have q1 : (spread (szK (kindL l)) (cutL (there (szK (kindL l))) ((l.drop 2).take (szK (kindL l)).sum))).getD 1 0 < 9223372036854775808 := Nat.lt_of_lt_of_le (hFb 1 (by omega)) (Nat.le_trans (hcap 4 _ hlow.2.1) (by decide))
  have q4 : (spread (szK (kindL l)) (cutL (there (szK (kindL l))) ((l.drop 2).take (szK (kindL l)).sum))).getD 4 0 < 9223372036854775808 := Nat.lt_of_lt_of_le (hFb 4 (by omega)) (Nat.le_trans (hcap 4 _ hlow.2.2.1) (by decide))
  have q6 : (spread (szK (kindL l)) (cutL (there (szK (kindL l))) ((l.drop 2).take (szK (kindL l)).sum))).getD 6 0 < 9223372036854775808 := Nat.lt_of_lt_of_le (hFb 6 (by omega)) (Nat.le_trans (hcap 4 _ hlow.2.2.2.1) (by decide))
  have q7 : (spread (szK (kindL l)) (cutL (there (szK (kindL l))) ((l.drop 2).take (szK (kindL l)).sum))).getD 7 0 < 9223372036854775808 := Nat.lt_of_lt_of_le (hFb 7 (by omega)) (Nat.le_trans (hcap 4 _ hlow.2.2.2.2.1) (by decide))
  have q2 : (spread (szK (kindL l)) (cutL (there (szK (kindL l))) ((l.drop 2).take (szK (kindL l)).sum))).getD 2 0 < 18446744073709551616 := Nat.lt_of_lt_of_le (hFb 2 (by omega)) (Nat.le_trans (hcap 8 _ hlow.2.2.2.2.2.1) (by decide))
  have q3 : (spread (szK (kindL l)) (cutL (there (szK (kindL l))) ((l.drop 2).take (szK (kindL l)).sum))).getD 3 0 < 18446744073709551616 := Nat.lt_of_lt_of_le (hFb 3 (by omega)) (Nat.le_trans (hcap 8 _ hlow.2.2.2.2.2.2.1) (by decide))
  have q5 : (spread (szK (kindL l)) (cutL (there (szK (kindL l))) ((l.drop 2).take (szK (kindL l)).sum))).getD 5 0 < 18446744073709551616 := Nat.lt_of_lt_of_le (hFb 5 (by omega)) (Nat.le_trans (hcap 8 _ hlow.2.2.2.2.2.2.2) (by decide))
  have htl : (if tagK (kindL l) then l.drop (2 + (szK (kindL l)).sum) else noTag).length = 32 := by
    cases ht : tagK (kindL l) with
    | true => rw [if_pos rfl, List.length_drop, h3, ht, folL, if_pos rfl]; omega
    | false => rfl
  have htb : ∀ j, 0 ≤ (if tagK (kindL l) then l.drop (2 + (szK (kindL l)).sum) else noTag).getD j 0 ∧ (if tagK (kindL l) then l.drop (2 + (szK (kindL l)).sum) else noTag).getD j 0 < 256 := by
    cases ht : tagK (kindL l) with
    | true =>
      intro j
      rw [if_pos rfl]
      have := hl (2 + (szK (kindL l)).sum + j)
      simpa [List.getD_eq_getElem?_getD, List.getElem?_drop] using this
    | false => exact ok_rep 32
  unfold parseF frOf
  exact ⟨⟨by simp only; omega, by simp only; omega⟩, ⟨by simp only; omega, by simp only; omega⟩, ⟨by simp only; omega, by simp only; omega⟩, ⟨by simp only; omega, by simp only; omega⟩, ⟨by simp only; omega, by simp only; omega⟩, ⟨by simp only; omega, by simp only; omega⟩, ⟨by simp only; omega, by simp only; omega⟩, ⟨by simp only; omega, by simp only; omega⟩, htl, htb⟩
/-- are bytes a plain frame's? -/
def goodB (l : List Int) : Bool := formB l && (plainB (parseF l) && putF (parseF l) == l)
/-- the error of bytes -/
def errL (l : List Int) : Int := if 64 < l.length then 2 else if wholeB l = false then 4 else if goodB l then 0 else 3
/-- the frame of bytes -/
def readF (l : List Int) : Fr := if errL l = 0 then parseF l else Fr.zero
def ReadPost (l : List Int) (w : World) (e : Ending) (w' : World) : Prop := e = .returned (.tuple #[frV (readF l), .int .i64 (errL l)]) ∧ Below w.heap.size w w'
theorem readF_no {l : List Int} (h : errL l ≠ 0) : readF l = Fr.zero := by unfold readF; rw [if_neg h]
theorem zero_ok : Fr.zero.ok := ⟨by decide, by decide, by decide, by decide, by decide, by decide, by decide, by decide, rfl, ok_rep 32⟩

set_option maxHeartbeats 1000000 in
theorem read_early (A : Option Addr) (n c : Nat) (l : List Int) (w : World) (hb : Bts w A n c l) (h : 64 < n ∨ wholeB l = false) :
    Calls Try.prog 12 #[.slice A n c] w (ReadPost l w) := by
  have hn := hb.small
  have hZs : (frA Fr.zero).size = 40 := rfl
  have hZ1 := frA_one Fr.zero
  have hzb := built_zero
  have hwh := fun w hb => whole_any A n c l w hb
  have he : errL l = if 64 < n then 2 else 4 := by
    unfold errL
    rw [hb.len]
    split
    · rfl
    · rw [if_pos (h.resolve_left (by omega))]
  have hr : readF l = Fr.zero := readF_no (by rw [he]; split <;> omega)
  obtain ⟨Z, hZ⟩ : ∃ Z, Z = frA Fr.zero := ⟨_, rfl⟩
  have hres : frV (readF l) = .agg Z := by rw [hr, hZ]; rfl
  rw [← hZ] at hZs hZ1 hzb
  have hb' := hb.more (.cells Z 26)
  have hwl : 64 < n ∨ wholeB l = false := h
  obtain ⟨W, hW⟩ : ∃ W, wholeB l = W := ⟨_, rfl⟩
  rw [hW] at hwl h
  have hwh := hwh _ hb'
  rw [hW] at hwh
  have HZ := Lib.hid hZ
  have HZS := Lib.hid hZs
  have HZ1 := Lib.hid hZ1
  have HZB := Lib.hid hzb
  have HRES := Lib.hid hres
  have HWH := Lib.hid hwh
  have HE := Lib.hid he
  by_cases h64 : 64 < n
  · have h64' : (64 : Int) < n := by omega
    have hX2 : (w.alloc (.cells (frA Fr.zero) 26)).heap[w.heap.size]? = some (.cells Z 26 (0, 0)) := by rw [hZ]; exact heap_alloc_new w _
    have HX2 := Lib.hid hX2
    rw [if_pos h64] at he
    have HE := Lib.hid he
    clear hZ hZs hZ1 hzb hres hwh hW hr hb hb' h hwl hX2 he
    go_enter Try.func12, Try.ntmps12
    go_wp2_with (first
      | ((with_reducible refine wpList_build_to rfl 26 _ rfl _ Z ?hb3 HZB.out ?_); (case hb3 => rfl))
      | ((refine wpList_store_blk rfl 26 _ _ rfl w.heap.size Z ?hx4 ?hy4 26 Z HX2.out (info_frame HZS.out) rfl HZ1.out ?_); (case hx4 => rfl); (case hy4 => rfl)
         intro w6 hg6 hX6 hs6))
    refine bodyPost_ret (v := .tuple #[.agg Z, .int .i64 2]) ?_ ?_ ?_
    · exact results_blk_tmp Try.results12 _ _ _ w.heap.size 26 _ (0, 0) _ rfl hX6 Try.underlying26 rfl (info_frame HZS.out) _ rfl
    · rfl
    · exact ⟨by rw [HRES.out, HE.out], (one_alloc _ _).grown hg6 (by simp) (fun k e => by cases e; exact Nat.le_refl _)⟩
  · have h64' : (n : Int) ≤ 64 := by omega
    obtain rfl : W = false := h.resolve_left (by omega)
    have hX2 : (w.alloc (.cells (frA Fr.zero) 26)).heap[w.heap.size]? = some (.cells Z 26 (0, 0)) := by rw [hZ]; exact heap_alloc_new w _
    have HX2 := Lib.hid hX2
    rw [if_neg h64] at he
    have HE := Lib.hid he
    have hb' := hb.more (.cells (frA Fr.zero) 26)
    have hwh := whole_any A n c l _ hb'
    rw [hW] at hwh
    have HWH := Lib.hid hwh
    clear hZ hZs hZ1 hzb hres hwh hW hr hb hb' h hwl hX2 he
    go_enter Try.func12, Try.ntmps12
    go_wp2_with (first
      | (go_at_call 26; refine HWH.out.mono ?_; rintro e w1 ⟨rfl, rfl⟩)
      | ((with_reducible refine wpList_build_to rfl 26 _ rfl _ Z ?hb3 HZB.out ?_); (case hb3 => rfl))
      | ((refine wpList_store_blk rfl 26 _ _ rfl w.heap.size Z ?hx4 ?hy4 26 Z HX2.out (info_frame HZS.out) rfl HZ1.out ?_); (case hx4 => rfl); (case hy4 => rfl)
         intro w6 hg6 hX6 hs6))
    refine bodyPost_ret (v := .tuple #[.agg Z, .int .i64 4]) ?_ ?_ ?_
    · exact results_blk_tmp Try.results12 _ _ _ w.heap.size 26 _ (0, 0) _ rfl hX6 Try.underlying26 rfl (info_frame HZS.out) _ rfl
    · rfl
    · exact ⟨by rw [HRES.out, HE.out], (one_alloc _ _).grown hg6 (by simp) (fun k e => by cases e; exact Nat.le_refl _)⟩
end Go.Proofs.Ytadcbikdbekmgaa
