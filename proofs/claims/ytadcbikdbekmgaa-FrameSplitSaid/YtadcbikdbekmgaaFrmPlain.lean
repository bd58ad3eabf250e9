/- The walk over package frame's isPlain. -/
import Derived.Test.YtadcbikdbekmgaaFrmOf
namespace Go.Proofs.Ytadcbikdbekmgaa
set_option linter.unusedVariables false
set_option linter.unusedSimpArgs false
open Go.RowKit

theorem rangeB_of (f : Fr) : rangeB f = (upB f.user 255 && upB f.epoch 1073741824 && upB f.cmd 255 && upB f.arg 65535) := by
  unfold rangeB upB
  rw [Bool.eq_iff_iff]
  simp only [decide_eq_true_eq, Bool.and_eq_true]
  omega
theorem plain_no {f : Fr} {S : List Nat} {t : Bool} (h : rangeB f = false) : false = plainS f S t := by rw [plainS, h]; rfl
theorem blank_at : ∀ (ns : List Int) (S : List Nat) (k : Nat), k < ns.length → k < S.length → S.getD k 0 = 0 → ns.getD k 0 ≠ 0 → blankB ns S = false
  | n :: ns, s :: S, 0, _, _, hs, hn => by
    simp only [List.getD_cons_zero] at hs hn
    rw [blankB]
    simp [hs, hn]
  | n :: ns, s :: S, k + 1, h1, h2, hs, hn => by
    simp only [List.getD_cons_succ, List.length_cons] at hs hn h1 h2
    rw [blankB, blank_at ns S k (by omega) (by omega) hs hn, Bool.and_false]
theorem blank_all : ∀ (ns : List Int) (S : List Nat), (∀ k, k < ns.length → S.getD k 0 = 0 → ns.getD k 0 = 0) → blankB ns S = true
  | n :: ns, s :: S, h => by
    rw [blankB, Bool.and_eq_true]
    refine ⟨?_, blank_all ns S fun k hk hs => ?_⟩
    · have := h 0 (by simp)
      simp only [List.getD_cons_zero] at this
      by_cases hs : s = 0
      · simp [this hs]
      · simp; omega
    · have := h (k + 1) (by simpa using hk)
      simp only [List.getD_cons_succ] at this
      exact this hs
  | [], _, _ => by simp [blankB]
  | _ :: _, [], _ => by simp [blankB]
theorem num_index {f : Fr} {cs : Array Value} (hc : (numC f).toArray = cs) (k : Nat) (hk : k < 8) (w : World) :
    (Instr.index 55 (.agg cs) (.int .i64 k)).run Try.prog w = .ok (.int .u64 (f.nums.getD k 0)) w := by
  refine run_index_arr 55 22 8 .u64 _ k k _ Try.underlying55 Try.underlying22 (by kernel_rfl) rfl hk ?_ w
  have hl : k < f.nums.length := hk
  rw [← hc]
  simp only [numC, List.getElem?_toArray, List.getElem?_map, List.getD_eq_getElem?_getD, List.getElem?_eq_getElem hl, Option.map_some, Option.getD_some]
/-- the block g holds this shape -/
structure RowS (w : World) (g : Nat) (S : List Nat) (t : Bool) : Prop where
  at_ : ∀ k, k < 8 → w.cell? ⟨g, k, none⟩ = some (.int .i64 (S.getD k 0 : Nat))
  tag : w.cell? ⟨g, 8, none⟩ = some (.bool t)
  lt : g < w.heap.size
  blk : w.heap[g]? = some (.cells (shC S t).toArray 47 (0, 0))
theorem rowS_of {w : World} {g : Nat} {S : List Nat} {t : Bool} (hS : S.length = 8) (h : w.heap[g]? = some (.cells (shC S t).toArray 47 (0, 0))) : RowS w g S t := by
  refine ⟨fun k hk => ?_, ?_, (Array.getElem?_eq_some_iff.1 h).1, h⟩
  · rw [cell_of_row _ _ _ _ _ _ h, shC, List.getElem?_toArray, List.getElem?_append_left (by simp [hS, hk])]
    simp [List.getD_eq_getElem?_getD, hS, hk]
  · rw [cell_of_row _ _ _ _ _ _ h, shC, List.getElem?_toArray, List.getElem?_append_right (by simp [hS])]
    simp [hS]
theorem RowS.below {w w' : World} {g : Nat} {S : List Nat} {t : Bool} (hS : S.length = 8) (h : RowS w g S t) (hb : Below w.heap.size w w') : RowS w' g S t :=
  rowS_of hS ((hb.block g h.lt).trans h.blk)
theorem frA_tag (f : Fr) : (frA f).toList.drop 8 = byv f.tag := rfl
theorem RowF.range {w : World} {g : Nat} {f : Fr} (h : RowF w g f) : w.rangeAt g 8 (byv f.tag) := fun j v hv => by
  rw [cell_of_row _ _ _ _ _ _ h.blk, frA, frC, List.getElem?_toArray, List.getElem?_append_right (by simp)]
  simpa using hv
theorem load_tag {w : World} {g : Nat} {f : Fr} (hT : f.tag.length = 32) (h : RowF w g f) : (Instr.loadAt 24 (.pointer (some ⟨g, 8, none⟩))).run Try.prog w = .ok (.agg (idv f.tag)) w :=
  run_loadAt_mid w g 8 24 (byv f.tag) _ h.range Try.underlying24 rfl (by rw [byv_length, hT]; kernel_rfl)
theorem eq_tag (x : List Int) (hx : x.length = 32) (w : World) : (Op.equalIn 10000 24 (.agg (idv x)) (.agg (idv noTag))).run Try.prog w = .ok (x == noTag) w :=
  run_equalIn_ints w 9998 24 5 32 .u8 Try.underlying24 Try.underlying5 (size_of (by kernel_rfl)) x noTag hx rfl

set_option maxHeartbeats 1000000 in
theorem plain_low (f : Fr) (S : List Nat) (t : Bool) (w : World) (hS : S.length = 8) (h : rangeB f = false) :
    Calls Try.prog 20 #[frV f, shV S t] w fun e w' => e = .returned (.bool (plainS f S t)) ∧ Below w.heap.size w w' := by
  obtain ⟨s0, s1, s2, s3, s4, s5, s6, s7, hl⟩ := list8 S hS
  have hres := plain_no (S := S) (t := t) h
  rw [← hres, shV_lit hl]
  rw [rangeB_of] at h
  have hh := hasF f
  unfold frV
  obtain ⟨C, hC⟩ : ∃ C, C = frA f := ⟨_, rfl⟩
  rw [← hC] at hh ⊢
  obtain ⟨d0, d1, d2, d3, d4, d5, d6, d7⟩ := hh
  obtain ⟨a, ha⟩ : ∃ a, upB f.user 255 = a := ⟨_, rfl⟩
  obtain ⟨b, hb⟩ : ∃ a, upB f.epoch 1073741824 = a := ⟨_, rfl⟩
  obtain ⟨c, hc⟩ : ∃ a, upB f.cmd 255 = a := ⟨_, rfl⟩
  obtain ⟨d, hd⟩ : ∃ a, upB f.arg 65535 = a := ⟨_, rfl⟩
  rw [ha, hb, hc, hd] at h
  have HA := Lib.hid ha
  have HB := Lib.hid hb
  have HC := Lib.hid hc
  have HD := Lib.hid hd
  rcases f with ⟨kind, user, sess, cn, epoch, count, cmd, arg, tag⟩
  simp only at *
  clear hC hl hres ha hb hc hd hS
  cases a <;> cases b <;> cases c <;> cases d <;> first
    | (exfalso; revert h; simp; done)
    | (clear h
       go_enter Try.func20, Try.ntmps20
       go_wp2_with (first
         | (go_at_call 35; (with_reducible refine (upto_any user 255 _).mono ?_); rintro e w1 ⟨he, rfl⟩; rw [HA.out] at he; subst he)
         | (go_at_call 35; (with_reducible refine (upto_any epoch 1073741824 _).mono ?_); rintro e w1 ⟨he, rfl⟩; rw [HB.out] at he; subst he)
         | (go_at_call 35; (with_reducible refine (upto_any cmd 255 _).mono ?_); rintro e w1 ⟨he, rfl⟩; rw [HC.out] at he; subst he)
         | (go_at_call 35; (with_reducible refine (upto_any arg 65535 _).mono ?_); rintro e w1 ⟨he, rfl⟩; rw [HD.out] at he; subst he))
       go_ret
       exact ⟨rfl, two_below _ _ _⟩)
end Go.Proofs.Ytadcbikdbekmgaa
