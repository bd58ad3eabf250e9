/- What is put is read; what is read is put; beginnings of frames, and what is longer. -/
import Derived.Test.YtadcbikdbekmgaaFrmRead2
import Derived.Test.YtadcbikdbekmgaaFrmIter
namespace Go.Proofs.Ytadcbikdbekmgaa
set_option linter.unusedVariables false
set_option linter.unusedSimpArgs false
open Go

theorem szK_head {k : Int} (h : kindB k = true) : ∃ S', szK k.toNat = 1 :: S' := by
  rcases kind_cases h with rfl | rfl | rfl | rfl | rfl | rfl | rfl <;> exact ⟨_, rfl⟩
theorem fits_of_cat {f : Fr} (hok : f.ok) (h : plainB f = true) : fitsL (rowS f (szK f.kind.toNat) (tagK f.kind.toNat)) := by
  have h1 := plain_fits hok h
  rw [catB, Bool.and_eq_true] at h1
  have h2 := h1.2
  intro p hp
  rw [← rowI_toN] at hp
  obtain ⟨q, hq, rfl⟩ := List.mem_map.1 hp
  have h3 := List.all_eq_true.1 h2 q hq
  unfold fitB at h3
  rw [decide_eq_true_eq] at h3
  exact h3.2.2
theorem put_drop {f : Fr} : (putF f).drop 2 = catL (pick (natsOf f) (szK f.kind.toNat)) ++ if tagK f.kind.toNat then f.tag else [] := by
  have hl := putL_length (folL (szK f.kind.toNat) (tagK f.kind.toNat)) 2
  rw [putF, frontF, rowS, catL, List.append_assoc]
  exact List.drop_left' hl
theorem put_take {f : Fr} : (putF f).take 2 = putL (folL (szK f.kind.toNat) (tagK f.kind.toNat)) 2 := by
  have hl := putL_length (folL (szK f.kind.toNat) (tagK f.kind.toNat)) 2
  rw [putF, frontF, rowS, catL, List.append_assoc]
  exact List.take_left' hl
theorem put_told {f : Fr} (hT : f.tag.length = 32) : told (putF f) = (putF f).length := by
  have h1 := folK_small f.kind.toNat
  unfold told
  rw [put_take, num_put _ _ (by omega), putF_length hT]
theorem put_whole {f : Fr} (hT : f.tag.length = 32) : wholeB (putF f) = true := by
  have h1 := put_told hT
  unfold told at h1
  unfold wholeB
  rw [decide_eq_true_eq]
  have := putF_length hT
  omega
theorem put_kind_l {f : Fr} (h : kindB f.kind = true) : kindL (putF f) = f.kind.toNat := by
  obtain ⟨S', hS⟩ := szK_head h
  have hk : f.kind.toNat < 256 ^ 1 := by have := kind_cases h; omega
  unfold kindL
  rw [put_drop, hS]
  have hn : natsOf f = f.kind.toNat :: (natsOf f).tail := rfl
  rw [hn, pick, if_pos (by omega), catL, List.append_assoc]
  have hl := putL_length f.kind.toNat 1
  rw [List.take_left' hl, num_put _ _ hk]
theorem put_form {f : Fr} (hT : f.tag.length = 32) (h : kindB f.kind = true) : formB (putF f) = true := by
  have h1 := put_kind_l h
  have h2 := putF_length hT
  have hkk : ((f.kind.toNat : Nat) : Int) = f.kind := by have := kind_cases h; omega
  have hp := szK_pos (x := f.kind.toNat) (by rw [hkk]; exact h)
  unfold formB
  rw [h1, hkk, h, h2]
  simp only [Bool.true_and, decide_true, Bool.and_true, decide_eq_true_eq]
  unfold folL
  omega
theorem frOf_nats {f : Fr} (hp : f.pos) (hok : f.ok) : frOf (natsOf f) f.tag = f := by
  obtain ⟨p0, p1, p2, p3, p4⟩ := hp
  obtain ⟨_, _, ⟨b2, _⟩, ⟨b3, _⟩, _, ⟨b5, _⟩, _, _, _, _⟩ := hok
  refine Fr.ext' ?_ rfl
  rcases f with ⟨kind, user, sess, cn, epoch, count, cmd, arg, tag⟩
  simp only at *
  simp [frOf, natsOf, Fr.nums]
  omega
theorem put_parse {f : Fr} (hok : f.ok) (h : plainB f = true) : parseF (putF f) = f := by
  obtain ⟨h1, h2, h3, h4⟩ := plain_facts h
  have hk := put_kind_l h1
  have hpos := pos_of (kind_pos h1) h2
  have hS := szK_length f.kind.toNat
  have hpl := pick_length (natsOf f) (szK f.kind.toNat) (by rw [natsOf_length, hS])
  have hcl : (catL (pick (natsOf f) (szK f.kind.toNat))).length = (szK f.kind.toNat).sum := by rw [catL_length, hpl, there_sum]
  have hfit := fits_of_cat hok h
  have hcut := cut_cat (pick (natsOf f) (szK f.kind.toNat)) (fun p hp => hfit p (by rw [rowS]; exact List.mem_cons_of_mem _ hp))
  rw [hpl] at hcut
  have hsp := spread_pick f.nums (szK f.kind.toNat) (by rw [hS]; rfl) h3
  unfold parseF
  simp only
  rw [hk, put_drop, List.take_left' hcl, hcut]
  have hsp2 : spread (szK f.kind.toNat) ((pick (natsOf f) (szK f.kind.toNat)).map (·.1)) = natsOf f := hsp
  rw [hsp2]
  have ht : (if tagK f.kind.toNat = true then (putF f).drop (2 + (szK f.kind.toNat).sum) else noTag) = f.tag := by
    cases ht : tagK f.kind.toNat with
    | false => rw [if_neg (by simp), h4 ht]
    | true =>
      rw [if_pos rfl, ← List.drop_drop, put_drop, List.drop_left' hcl, ht, if_pos rfl]
  rw [ht]
  exact frOf_nats hpos hok
theorem put_read {f : Fr} (hok : f.ok) (h : plainB f = true) : errL (putF f) = 0 ∧ readF (putF f) = f := by
  have hT := hok.len
  have hpp := put_parse hok h
  have hg : goodB (putF f) = true := by
    unfold goodB
    rw [put_form hT (plain_facts h).1, hpp, h]
    simp
  have he : errL (putF f) = 0 := by
    unfold errL
    have := putF_small f hT
    rw [if_neg (by omega), if_neg (by rw [put_whole hT]; simp), if_pos hg]
  refine ⟨he, ?_⟩
  unfold readF
  rw [if_pos he, hpp]
theorem err_cases (l : List Int) : errL l = 0 ∨ errL l = 2 ∨ errL l = 3 ∨ errL l = 4 := by
  unfold errL
  split
  · omega
  · split
    · omega
    · split <;> omega
theorem read_put {l : List Int} (hl : ∀ j, 0 ≤ l.getD j 0 ∧ l.getD j 0 < 256) (h : errL l = 0) : (readF l).ok ∧ plainB (readF l) = true ∧ putF (readF l) = l := by
  have hg : goodB l = true := by
    unfold errL at h
    split at h
    · omega
    · split at h
      · omega
      · split at h
        · assumption
        · omega
  have hr : readF l = parseF l := by unfold readF; rw [if_pos h]
  unfold goodB at hg
  rw [Bool.and_eq_true, Bool.and_eq_true, beq_iff_eq] at hg
  rw [hr]
  exact ⟨parse_ok hl hg.1, hg.2.1, hg.2.2⟩
theorem read_okay (l : List Int) (hl : ∀ j, 0 ≤ l.getD j 0 ∧ l.getD j 0 < 256) : (readF l).ok := by
  by_cases h : errL l = 0
  · exact (read_put hl h).1
  · rw [readF_no h]; exact zero_ok
/-- two plain frames of the same bytes are one -/
theorem put_inj {f g : Fr} (hf : f.ok) (hg : g.ok) (pf : plainB f = true) (pg : plainB g = true) (h : putF f = putF g) : f = g := by
  rw [← (put_read hf pf).2, h, (put_read hg pg).2]
/-- a beginning of a frame is short -/
theorem put_begin {f : Fr} (hok : f.ok) (k : Nat) (hk : k < (putF f).length) : errL ((putF f).take k) = 4 := by
  have hT := hok.len
  have hw : wholeB ((putF f).take k) = false := by
    unfold wholeB
    rw [decide_eq_false_iff_not]
    intro ⟨h1, h2⟩
    have hl : ((putF f).take k).length = k := by rw [List.length_take]; omega
    have ht : ((putF f).take k).take 2 = (putF f).take 2 := by rw [List.take_take, Nat.min_eq_left (by omega)]
    rw [ht] at h2
    have := put_told hT
    unfold told at this
    omega
  unfold errL
  have h1 := putF_small f hT
  rw [if_neg (by rw [List.length_take]; omega), if_pos hw]
/-- with more behind it, it is none's, or too long -/
theorem put_longer {f : Fr} (hok : f.ok) (h : plainB f = true) (m : List Int) (hm : 0 < m.length) : errL (putF f ++ m) = if 64 < (putF f).length + m.length then 2 else 3 := by
  have hT := hok.len
  have hk := (plain_facts h).1
  have hpl := putF_length hT
  have hw : wholeB (putF f ++ m) = true := by
    unfold wholeB
    rw [decide_eq_true_eq]
    have ht : (putF f ++ m).take 2 = (putF f).take 2 := List.take_append_of_le_length (by omega)
    have := put_told hT
    unfold told at this
    rw [ht, List.length_append]
    omega
  have hkl : kindL (putF f ++ m) = f.kind.toNat := by
    rw [← put_kind_l hk]
    unfold kindL
    have hp3 : 3 ≤ (putF f).length := (form_facts (put_form hT hk)).1
    rw [List.drop_append_of_le_length (by omega), List.take_append_of_le_length (by rw [List.length_drop]; omega)]
  have hg : goodB (putF f ++ m) = false := by
    have hf : formB (putF f ++ m) = false := by
      unfold formB
      rw [hkl, List.length_append, hpl, decide_eq_false (p := 2 + folL (szK f.kind.toNat) (tagK f.kind.toNat) + m.length = 2 + folL (szK f.kind.toNat) (tagK f.kind.toNat)) (by omega)]
      simp
    unfold goodB
    rw [hf]
    rfl
  unfold errL
  rw [List.length_append, hw, hg]
  split
  · rfl
  · simp
/-- the bytes of a frame with a tag are its body, and the tag -/
theorem body_put {f : Fr} (h : bodyF f ≠ []) : plainB f = true ∧ putF f = bodyF f ++ f.tag := by
  unfold bodyF at h ⊢
  split at h
  · rename_i hc
    rw [Bool.and_eq_true] at hc
    rw [if_pos (by rw [hc.1, hc.2]; rfl)]
    exact ⟨hc.1, by rw [putF, hc.2]; simp⟩
  · exact absurd rfl h
end Go.Proofs.Ytadcbikdbekmgaa
