/- Joined texts: The walk over package audit's own: a log with memory of its own. -/
import Derived.Test.YtafmompplcaadaaGreatDoorAuJP
import Derived.Test.YtafmompplcaadaaGreatDoorAuJK
import Derived.Test.YtafmompplcaadaaGreatDoorAuJL
import Derived.Test.YtafmompplcaadaaGreatDoorAuJQ
/- The walk over package audit's own: a log with memory of its own. -/
namespace Go.Proofs.YtafmompplcaadaaGreatDoor
set_option maxRecDepth 100000
set_option linter.unusedVariables false
set_option linter.unusedSimpArgs false
open Go.RowKit

set_option maxHeartbeats 4000000 in
theorem aown_any (p : Lp) (g : Lg) (w : World) (h : LgAt w p g) (hsm : LgSm g) : Calls Tryz.prog 21 #[.agg p.arr] w fun e w' => ∃ q : Lp, e = .returned (.agg q.arr) ∧ LgAt w' q g ∧ OwnR 33 9 w' w.heap.size (.slice q.B q.m q.d) (g.l.map En.row) ∧ (∀ a, q.A = some a → w.heap.size ≤ a.block) ∧ Below w.heap.size w w' := by
  have hdl := h.data.len
  have hel := h.ents.len
  have hs1 := hsm.1
  have hs2 := hsm.2
  have HCA := Lib.hid (fun (X : World) (hX : Below w.heap.size w X) => clone_bts p.A p.n p.c g.st.data X (h.data.below hX) (by omega))
  have HCB := Lib.hid (fun (X : World) (hX : Below w.heap.size w X) => clone_ens p.B p.m p.d g.l X (h.ents.below hX) (by omega))
  have HS := Lib.hid (lp_size h.hlen)
  have HPL := Lib.hid h.hlen
  have HCP := Lib.hid h.cap
  have HSU := Lib.hid h.sure
  have HHD := Lib.hid h.head
  have HOK := Lib.hid h.ok
  have HFT := Lib.hid h.fits
  obtain ⟨W0, hW0⟩ : ∃ X, ((w.alloc (.cells p.arr 29 (0, 0))).alloc (.cells Lp.zero.arr 29 (0, 0))).drew = X := ⟨_, rfl⟩
  have k0 : W0.heap[w.heap.size]? = some (.cells p.arr 29 (0, 0)) := by rw [← hW0]; exact (after_two (Below.refl _ _)).2.2.1
  have r0 : W0.heap[w.heap.size + 1]? = some (.cells Lp.zero.arr 29 (0, 0)) := by rw [← hW0]; exact (after_two (Below.refl _ _)).2.2.2
  have hB0 : Below w.heap.size w W0 := by rw [← hW0]; exact (two_below _ _ _).drew
  have hz0 : w.heap.size + 2 ≤ W0.heap.size := by rw [← hW0]; exact (after_two (Below.refl _ _)).2.1
  clear h hdl hel hs1 hs2 hsm
  go_enter Tryz.func21, Tryz.ntmps21
  go_wp2
  refine wp_region_held_drew (S := fun _ => True) (by kernel_rfl) trivial (fun hHeld => ?_)
  change wpAnyH _ _ _ _ _ _ _ _ (((w.alloc (.cells p.arr 29 (0, 0))).alloc (.cells Lp.zero.arr 29 (0, 0))).drew)
  rw [hW0]
  clear hW0
  refine take_run 0 (.pointer (some ⟨w.heap.size, 0, none⟩)) rfl (by kernel_rfl) (by kernel_rfl) (by kernel_rfl) (fun _ _ _ h => h) rfl hHeld (fun w' => ?_) ?_
  · go_simp
  simp only [Act.put, List.setIfInBounds_toArray, List.set_cons_zero, List.set_cons_succ]
  refine take_run 1 (.pointer (some ⟨w.heap.size, 1, none⟩)) rfl (by kernel_rfl) (by kernel_rfl) (by kernel_rfl) (fun _ _ _ h => h) rfl hHeld (fun w' => ?_) ?_
  · go_simp
  simp only [Act.put, List.setIfInBounds_toArray, List.set_cons_zero, List.set_cons_succ]
  refine take_run 4 (.pointer (some ⟨w.heap.size, 3, none⟩)) rfl (by kernel_rfl) (by kernel_rfl) (by kernel_rfl) (fun _ _ _ h => h) rfl hHeld (fun w' => ?_) ?_
  · go_simp
  simp only [Act.put, List.setIfInBounds_toArray, List.set_cons_zero, List.set_cons_succ]
  refine two_steps 2 5 (by kernel_rfl) rfl rfl (fun Kq hKq => ?_) (fun Kq hKq => ?_)
  · skip
    have hq := (dk_cells k0).2.1
    refine step_run (.slice p.A p.n p.c) rfl (by go_simp) ?_
    clear hq
    refine hKq.out _ _ trivial (fun hHeld0 => ?_)
    clear hKq Kq hHeld
    have hHeld := hHeld0
    clear hHeld0
    try simp only [Act.put, List.setIfInBounds_toArray, List.set_cons_zero, List.set_cons_succ]
    refine two_steps 3 5 (by kernel_rfl) rfl rfl (fun Kq hKq => ?_) (fun Kq hKq => ?_)
    · skip
      go_simp
      go_at_call 48
      refine (HCA.out W0 hB0).mono ?_
      rintro e y1 ⟨A1, c1, rfl, hbt, hlo, hbx⟩
      have hB1 : Below w.heap.size w y1 := hB0.trans (hbx.mono hB0.size)
      have k1 := blk_below k0 hbx
      have r1 := blk_below r0 hbx
      have hfa := blk_far (n := p.n) (lo := w.heap.size) hlo hz0
      have hz1 := Nat.le_trans hz0 hbx.size
      have hla : ∀ a, A1 = some a → w.heap.size ≤ a.block := fun a ha => Nat.le_trans hB0.size (hlo a ha)
      clear hbx hlo
      refine hKq.out _ _ trivial (fun hHeld0 => ?_)
      clear hKq Kq hHeld
      have hHeld := hHeld0
      clear hHeld0
      try simp only [Act.put, List.setIfInBounds_toArray, List.set_cons_zero, List.set_cons_succ]
      refine one_step 5 (by kernel_rfl) rfl (fun Kq hKq => ?_)
      have hq := (dk_cells k1).2.2.2
      refine step_run (.slice p.B p.m p.d) rfl (by go_simp) ?_
      clear hq
      refine hKq.out _ _ trivial (fun hHeld0 => ?_)
      clear hKq Kq hHeld
      have hHeld := hHeld0
      clear hHeld0
      try simp only [Act.put, List.setIfInBounds_toArray, List.set_cons_zero, List.set_cons_succ]
      refine take_run 7 (.pointer (some ⟨w.heap.size, 0, none⟩)) rfl (by kernel_rfl) (by kernel_rfl) (by kernel_rfl) (fun _ _ _ h => h) rfl hHeld (fun w' => ?_) ?_
      · go_simp
      simp only [Act.put, List.setIfInBounds_toArray, List.set_cons_zero, List.set_cons_succ]
      refine take_run 8 (.pointer (some ⟨w.heap.size, 1, none⟩)) rfl (by kernel_rfl) (by kernel_rfl) (by kernel_rfl) (fun _ _ _ h => h) rfl hHeld (fun w' => ?_) ?_
      · go_simp
      simp only [Act.put, List.setIfInBounds_toArray, List.set_cons_zero, List.set_cons_succ]
      refine one_step 6 (by kernel_rfl) rfl (fun Kq hKq => ?_)
      go_simp
      go_at_call 49
      refine (HCB.out y1 hB1).mono ?_
      rintro e y2 ⟨B1, m1, d1, rfl, hen, hown, hbx⟩
      have hB2 : Below w.heap.size w y2 := hB1.trans (hbx.mono hB1.size)
      have k2 := blk_below k1 hbx
      have r2 := blk_below r1 hbx
      have hbt := hbt.below hbx
      have hfb := own_ens_far (lo := w.heap.size) hown hz1
      clear hbx
      refine hKq.out _ _ trivial (fun hHeld0 => ?_)
      clear hKq Kq hHeld
      have hHeld := hHeld0
      clear hHeld0
      try simp only [Act.put, List.setIfInBounds_toArray, List.set_cons_zero, List.set_cons_succ]
      refine one_step 9 (by kernel_rfl) rfl (fun Kq hKq => ?_)
      refine step_store_in 22 _ _ rfl w.heap.size 1 (.slice A1 p.n c1) #[.slice A1 p.n c1] rfl rfl rfl 29 p.arr (p.putA A1 p.n c1).arr k2 (size_bytes1 _) (by rw [HS.out]; show 1 + 1 ≤ 36; omega) (one_slice _ _ _) (new_a _ _ _ _) rfl ?_
      intro z1 hg k3 hs3
      have hB3 := hB2.grown hg hB2.size (fun k e => by cases e; exact Nat.le_refl _)
      have r3 := blk_other r2 hg (Nat.succ_ne_self _)
      have hbt := hbt.kept hfa hg (Nat.le_refl _) (by omega)
      have hen := ens_kept hen hfb hg (Nat.le_refl _) (by omega)
      have hown := hown.far hg (ownr_far hown (by omega))
      clear hg hs3
      refine hKq.out _ _ trivial (fun hHeld0 => ?_)
      clear hKq Kq hHeld
      have hHeld := hHeld0
      clear hHeld0
      try simp only [Act.put, List.setIfInBounds_toArray, List.set_cons_zero, List.set_cons_succ]
      refine take_run 10 (.pointer (some ⟨w.heap.size, 3, none⟩)) rfl (by kernel_rfl) (by kernel_rfl) (by kernel_rfl) (fun _ _ _ h => h) rfl hHeld (fun w' => ?_) ?_
      · go_simp
      simp only [Act.put, List.setIfInBounds_toArray, List.set_cons_zero, List.set_cons_succ]
      refine one_step 11 (by kernel_rfl) rfl (fun Kq hKq => ?_)
      refine step_store_in 25 _ _ rfl w.heap.size 3 (.slice B1 m1 d1) #[.slice B1 m1 d1] rfl rfl rfl 29 (p.putA A1 p.n c1).arr ((p.putA A1 p.n c1).putB B1 m1 d1).arr k3 (size_ens1 _) (by rw [lp_size (show (p.putA A1 p.n c1).H.length = 32 from HPL.out)]; show 3 + 1 ≤ 36; omega) (one_slice _ _ _) (new_b _ _ _ _) rfl ?_
      intro z2 hg k4 hs4
      have hB4 := hB3.grown hg hB3.size (fun k e => by cases e; exact Nat.le_refl _)
      have r4 := blk_other r3 hg (Nat.succ_ne_self _)
      have hbt := hbt.kept hfa hg (Nat.le_refl _) (by omega)
      have hen := ens_kept hen hfb hg (Nat.le_refl _) (by omega)
      have hown := hown.far hg (ownr_far hown (by omega))
      clear hg hs4
      refine hKq.out _ _ trivial (fun hHeld0 => ?_)
      clear hKq Kq hHeld
      have hHeld := hHeld0
      clear hHeld0
      try simp only [Act.put, List.setIfInBounds_toArray, List.set_cons_zero, List.set_cons_succ]
      refine wpAnyH_done (by kernel_rfl) ?_ _
      have HQL := Lib.hid (show ((p.putA A1 p.n c1).putB B1 m1 d1).H.length = 32 from HPL.out)
      obtain ⟨q, hq⟩ : ∃ q, (p.putA A1 p.n c1).putB B1 m1 d1 = q := ⟨_, rfl⟩
      have HQ := Lib.hid hq
      rw [hq] at k4 HQL
      have HQS := Lib.hid (info_log (lp_size HQL.out))
      have hown0 := ownR_mono hown hB1.size
      clear hHeld hq
      go_wp2_with (first
        | ((with_reducible refine wpList_load_blk 29 _ rfl w.heap.size ?hx1 29 q.arr (0, 0) _ k4 Tryz.underlying29 ?hd1 HQS.out ?_ ?hw1); (case hx1 => rfl); (case hd1 => rfl); (case hw1 => rfl))
        | ((with_reducible refine wpList_store_blk rfl 29 _ _ rfl (w.heap.size + 1) q.arr ?hx3 ?hy3 29 _ r4 HQS.out ?hs3 (lp_one _) ?_); (case hx3 => rfl); (case hy3 => rfl); (case hs3 => exact (lp_size (p := Lp.zero) rfl).trans (lp_size HQL.out).symm)
           intro z3 hg3 hX3 hs3))
      have hbt := hbt.kept hfa hg3 (Nat.le_succ _) (Nat.lt_succ_self _)
      have hen := ens_kept hen hfb hg3 (Nat.le_succ _) (Nat.lt_succ_self _)
      have hown := ownR_mono (hown.far hg3 (ownr_far hown (by omega))) hB1.size
      have hB5 := hB4.grown hg3 hB4.size (fun k e => by cases e; exact Nat.le_succ _)
      refine bodyPost_ret (v := .agg q.arr) ?_ rfl ⟨q, rfl, ?_, ?_, ?_, hB5⟩
      · exact results_cell_row (P := Tryz.prog) Tryz.results21 _ _ (w.heap.size + 1) 29 _ (0, 0) _ rfl hX3 Tryz.underlying29 rfl HQS.out
      · rw [← HQ.out]; exact ⟨HCP.out, HSU.out, HHD.out, hbt, hen, HOK.out, HFT.out⟩
      · rw [← HQ.out]; exact hown
      · rw [← HQ.out]; exact hla
    · skip
      have hq := (dk_cells k0).2.2.2
      refine step_run (.slice p.B p.m p.d) rfl (by go_simp) ?_
      clear hq
      refine hKq.out _ _ trivial (fun hHeld0 => ?_)
      clear hKq Kq hHeld
      have hHeld := hHeld0
      clear hHeld0
      try simp only [Act.put, List.setIfInBounds_toArray, List.set_cons_zero, List.set_cons_succ]
      refine one_step 3 (by kernel_rfl) rfl (fun Kq hKq => ?_)
      go_simp
      go_at_call 48
      refine (HCA.out W0 hB0).mono ?_
      rintro e y1 ⟨A1, c1, rfl, hbt, hlo, hbx⟩
      have hB1 : Below w.heap.size w y1 := hB0.trans (hbx.mono hB0.size)
      have k1 := blk_below k0 hbx
      have r1 := blk_below r0 hbx
      have hfa := blk_far (n := p.n) (lo := w.heap.size) hlo hz0
      have hz1 := Nat.le_trans hz0 hbx.size
      have hla : ∀ a, A1 = some a → w.heap.size ≤ a.block := fun a ha => Nat.le_trans hB0.size (hlo a ha)
      clear hbx hlo
      refine hKq.out _ _ trivial (fun hHeld0 => ?_)
      clear hKq Kq hHeld
      have hHeld := hHeld0
      clear hHeld0
      try simp only [Act.put, List.setIfInBounds_toArray, List.set_cons_zero, List.set_cons_succ]
      refine take_run 7 (.pointer (some ⟨w.heap.size, 0, none⟩)) rfl (by kernel_rfl) (by kernel_rfl) (by kernel_rfl) (fun _ _ _ h => h) rfl hHeld (fun w' => ?_) ?_
      · go_simp
      simp only [Act.put, List.setIfInBounds_toArray, List.set_cons_zero, List.set_cons_succ]
      refine take_run 8 (.pointer (some ⟨w.heap.size, 1, none⟩)) rfl (by kernel_rfl) (by kernel_rfl) (by kernel_rfl) (fun _ _ _ h => h) rfl hHeld (fun w' => ?_) ?_
      · go_simp
      simp only [Act.put, List.setIfInBounds_toArray, List.set_cons_zero, List.set_cons_succ]
      refine one_step 6 (by kernel_rfl) rfl (fun Kq hKq => ?_)
      go_simp
      go_at_call 49
      refine (HCB.out y1 hB1).mono ?_
      rintro e y2 ⟨B1, m1, d1, rfl, hen, hown, hbx⟩
      have hB2 : Below w.heap.size w y2 := hB1.trans (hbx.mono hB1.size)
      have k2 := blk_below k1 hbx
      have r2 := blk_below r1 hbx
      have hbt := hbt.below hbx
      have hfb := own_ens_far (lo := w.heap.size) hown hz1
      clear hbx
      refine hKq.out _ _ trivial (fun hHeld0 => ?_)
      clear hKq Kq hHeld
      have hHeld := hHeld0
      clear hHeld0
      try simp only [Act.put, List.setIfInBounds_toArray, List.set_cons_zero, List.set_cons_succ]
      refine one_step 9 (by kernel_rfl) rfl (fun Kq hKq => ?_)
      refine step_store_in 22 _ _ rfl w.heap.size 1 (.slice A1 p.n c1) #[.slice A1 p.n c1] rfl rfl rfl 29 p.arr (p.putA A1 p.n c1).arr k2 (size_bytes1 _) (by rw [HS.out]; show 1 + 1 ≤ 36; omega) (one_slice _ _ _) (new_a _ _ _ _) rfl ?_
      intro z1 hg k3 hs3
      have hB3 := hB2.grown hg hB2.size (fun k e => by cases e; exact Nat.le_refl _)
      have r3 := blk_other r2 hg (Nat.succ_ne_self _)
      have hbt := hbt.kept hfa hg (Nat.le_refl _) (by omega)
      have hen := ens_kept hen hfb hg (Nat.le_refl _) (by omega)
      have hown := hown.far hg (ownr_far hown (by omega))
      clear hg hs3
      refine hKq.out _ _ trivial (fun hHeld0 => ?_)
      clear hKq Kq hHeld
      have hHeld := hHeld0
      clear hHeld0
      try simp only [Act.put, List.setIfInBounds_toArray, List.set_cons_zero, List.set_cons_succ]
      refine take_run 10 (.pointer (some ⟨w.heap.size, 3, none⟩)) rfl (by kernel_rfl) (by kernel_rfl) (by kernel_rfl) (fun _ _ _ h => h) rfl hHeld (fun w' => ?_) ?_
      · go_simp
      simp only [Act.put, List.setIfInBounds_toArray, List.set_cons_zero, List.set_cons_succ]
      refine one_step 11 (by kernel_rfl) rfl (fun Kq hKq => ?_)
      refine step_store_in 25 _ _ rfl w.heap.size 3 (.slice B1 m1 d1) #[.slice B1 m1 d1] rfl rfl rfl 29 (p.putA A1 p.n c1).arr ((p.putA A1 p.n c1).putB B1 m1 d1).arr k3 (size_ens1 _) (by rw [lp_size (show (p.putA A1 p.n c1).H.length = 32 from HPL.out)]; show 3 + 1 ≤ 36; omega) (one_slice _ _ _) (new_b _ _ _ _) rfl ?_
      intro z2 hg k4 hs4
      have hB4 := hB3.grown hg hB3.size (fun k e => by cases e; exact Nat.le_refl _)
      have r4 := blk_other r3 hg (Nat.succ_ne_self _)
      have hbt := hbt.kept hfa hg (Nat.le_refl _) (by omega)
      have hen := ens_kept hen hfb hg (Nat.le_refl _) (by omega)
      have hown := hown.far hg (ownr_far hown (by omega))
      clear hg hs4
      refine hKq.out _ _ trivial (fun hHeld0 => ?_)
      clear hKq Kq hHeld
      have hHeld := hHeld0
      clear hHeld0
      try simp only [Act.put, List.setIfInBounds_toArray, List.set_cons_zero, List.set_cons_succ]
      refine wpAnyH_done (by kernel_rfl) ?_ _
      have HQL := Lib.hid (show ((p.putA A1 p.n c1).putB B1 m1 d1).H.length = 32 from HPL.out)
      obtain ⟨q, hq⟩ : ∃ q, (p.putA A1 p.n c1).putB B1 m1 d1 = q := ⟨_, rfl⟩
      have HQ := Lib.hid hq
      rw [hq] at k4 HQL
      have HQS := Lib.hid (info_log (lp_size HQL.out))
      have hown0 := ownR_mono hown hB1.size
      clear hHeld hq
      go_wp2_with (first
        | ((with_reducible refine wpList_load_blk 29 _ rfl w.heap.size ?hx1 29 q.arr (0, 0) _ k4 Tryz.underlying29 ?hd1 HQS.out ?_ ?hw1); (case hx1 => rfl); (case hd1 => rfl); (case hw1 => rfl))
        | ((with_reducible refine wpList_store_blk rfl 29 _ _ rfl (w.heap.size + 1) q.arr ?hx3 ?hy3 29 _ r4 HQS.out ?hs3 (lp_one _) ?_); (case hx3 => rfl); (case hy3 => rfl); (case hs3 => exact (lp_size (p := Lp.zero) rfl).trans (lp_size HQL.out).symm)
           intro z3 hg3 hX3 hs3))
      have hbt := hbt.kept hfa hg3 (Nat.le_succ _) (Nat.lt_succ_self _)
      have hen := ens_kept hen hfb hg3 (Nat.le_succ _) (Nat.lt_succ_self _)
      have hown := ownR_mono (hown.far hg3 (ownr_far hown (by omega))) hB1.size
      have hB5 := hB4.grown hg3 hB4.size (fun k e => by cases e; exact Nat.le_succ _)
      refine bodyPost_ret (v := .agg q.arr) ?_ rfl ⟨q, rfl, ?_, ?_, ?_, hB5⟩
      · exact results_cell_row (P := Tryz.prog) Tryz.results21 _ _ (w.heap.size + 1) 29 _ (0, 0) _ rfl hX3 Tryz.underlying29 rfl HQS.out
      · rw [← HQ.out]; exact ⟨HCP.out, HSU.out, HHD.out, hbt, hen, HOK.out, HFT.out⟩
      · rw [← HQ.out]; exact hown
      · rw [← HQ.out]; exact hla
  · skip
    have hq := (dk_cells k0).2.2.2
    refine step_run (.slice p.B p.m p.d) rfl (by go_simp) ?_
    clear hq
    refine hKq.out _ _ trivial (fun hHeld0 => ?_)
    clear hKq Kq hHeld
    have hHeld := hHeld0
    clear hHeld0
    try simp only [Act.put, List.setIfInBounds_toArray, List.set_cons_zero, List.set_cons_succ]
    refine one_step 2 (by kernel_rfl) rfl (fun Kq hKq => ?_)
    have hq := (dk_cells k0).2.1
    refine step_run (.slice p.A p.n p.c) rfl (by go_simp) ?_
    clear hq
    refine hKq.out _ _ trivial (fun hHeld0 => ?_)
    clear hKq Kq hHeld
    have hHeld := hHeld0
    clear hHeld0
    try simp only [Act.put, List.setIfInBounds_toArray, List.set_cons_zero, List.set_cons_succ]
    refine one_step 3 (by kernel_rfl) rfl (fun Kq hKq => ?_)
    go_simp
    go_at_call 48
    refine (HCA.out W0 hB0).mono ?_
    rintro e y1 ⟨A1, c1, rfl, hbt, hlo, hbx⟩
    have hB1 : Below w.heap.size w y1 := hB0.trans (hbx.mono hB0.size)
    have k1 := blk_below k0 hbx
    have r1 := blk_below r0 hbx
    have hfa := blk_far (n := p.n) (lo := w.heap.size) hlo hz0
    have hz1 := Nat.le_trans hz0 hbx.size
    have hla : ∀ a, A1 = some a → w.heap.size ≤ a.block := fun a ha => Nat.le_trans hB0.size (hlo a ha)
    clear hbx hlo
    refine hKq.out _ _ trivial (fun hHeld0 => ?_)
    clear hKq Kq hHeld
    have hHeld := hHeld0
    clear hHeld0
    try simp only [Act.put, List.setIfInBounds_toArray, List.set_cons_zero, List.set_cons_succ]
    refine take_run 7 (.pointer (some ⟨w.heap.size, 0, none⟩)) rfl (by kernel_rfl) (by kernel_rfl) (by kernel_rfl) (fun _ _ _ h => h) rfl hHeld (fun w' => ?_) ?_
    · go_simp
    simp only [Act.put, List.setIfInBounds_toArray, List.set_cons_zero, List.set_cons_succ]
    refine take_run 8 (.pointer (some ⟨w.heap.size, 1, none⟩)) rfl (by kernel_rfl) (by kernel_rfl) (by kernel_rfl) (fun _ _ _ h => h) rfl hHeld (fun w' => ?_) ?_
    · go_simp
    simp only [Act.put, List.setIfInBounds_toArray, List.set_cons_zero, List.set_cons_succ]
    refine one_step 6 (by kernel_rfl) rfl (fun Kq hKq => ?_)
    go_simp
    go_at_call 49
    refine (HCB.out y1 hB1).mono ?_
    rintro e y2 ⟨B1, m1, d1, rfl, hen, hown, hbx⟩
    have hB2 : Below w.heap.size w y2 := hB1.trans (hbx.mono hB1.size)
    have k2 := blk_below k1 hbx
    have r2 := blk_below r1 hbx
    have hbt := hbt.below hbx
    have hfb := own_ens_far (lo := w.heap.size) hown hz1
    clear hbx
    refine hKq.out _ _ trivial (fun hHeld0 => ?_)
    clear hKq Kq hHeld
    have hHeld := hHeld0
    clear hHeld0
    try simp only [Act.put, List.setIfInBounds_toArray, List.set_cons_zero, List.set_cons_succ]
    refine one_step 9 (by kernel_rfl) rfl (fun Kq hKq => ?_)
    refine step_store_in 22 _ _ rfl w.heap.size 1 (.slice A1 p.n c1) #[.slice A1 p.n c1] rfl rfl rfl 29 p.arr (p.putA A1 p.n c1).arr k2 (size_bytes1 _) (by rw [HS.out]; show 1 + 1 ≤ 36; omega) (one_slice _ _ _) (new_a _ _ _ _) rfl ?_
    intro z1 hg k3 hs3
    have hB3 := hB2.grown hg hB2.size (fun k e => by cases e; exact Nat.le_refl _)
    have r3 := blk_other r2 hg (Nat.succ_ne_self _)
    have hbt := hbt.kept hfa hg (Nat.le_refl _) (by omega)
    have hen := ens_kept hen hfb hg (Nat.le_refl _) (by omega)
    have hown := hown.far hg (ownr_far hown (by omega))
    clear hg hs3
    refine hKq.out _ _ trivial (fun hHeld0 => ?_)
    clear hKq Kq hHeld
    have hHeld := hHeld0
    clear hHeld0
    try simp only [Act.put, List.setIfInBounds_toArray, List.set_cons_zero, List.set_cons_succ]
    refine take_run 10 (.pointer (some ⟨w.heap.size, 3, none⟩)) rfl (by kernel_rfl) (by kernel_rfl) (by kernel_rfl) (fun _ _ _ h => h) rfl hHeld (fun w' => ?_) ?_
    · go_simp
    simp only [Act.put, List.setIfInBounds_toArray, List.set_cons_zero, List.set_cons_succ]
    refine one_step 11 (by kernel_rfl) rfl (fun Kq hKq => ?_)
    refine step_store_in 25 _ _ rfl w.heap.size 3 (.slice B1 m1 d1) #[.slice B1 m1 d1] rfl rfl rfl 29 (p.putA A1 p.n c1).arr ((p.putA A1 p.n c1).putB B1 m1 d1).arr k3 (size_ens1 _) (by rw [lp_size (show (p.putA A1 p.n c1).H.length = 32 from HPL.out)]; show 3 + 1 ≤ 36; omega) (one_slice _ _ _) (new_b _ _ _ _) rfl ?_
    intro z2 hg k4 hs4
    have hB4 := hB3.grown hg hB3.size (fun k e => by cases e; exact Nat.le_refl _)
    have r4 := blk_other r3 hg (Nat.succ_ne_self _)
    have hbt := hbt.kept hfa hg (Nat.le_refl _) (by omega)
    have hen := ens_kept hen hfb hg (Nat.le_refl _) (by omega)
    have hown := hown.far hg (ownr_far hown (by omega))
    clear hg hs4
    refine hKq.out _ _ trivial (fun hHeld0 => ?_)
    clear hKq Kq hHeld
    have hHeld := hHeld0
    clear hHeld0
    try simp only [Act.put, List.setIfInBounds_toArray, List.set_cons_zero, List.set_cons_succ]
    refine wpAnyH_done (by kernel_rfl) ?_ _
    have HQL := Lib.hid (show ((p.putA A1 p.n c1).putB B1 m1 d1).H.length = 32 from HPL.out)
    obtain ⟨q, hq⟩ : ∃ q, (p.putA A1 p.n c1).putB B1 m1 d1 = q := ⟨_, rfl⟩
    have HQ := Lib.hid hq
    rw [hq] at k4 HQL
    have HQS := Lib.hid (info_log (lp_size HQL.out))
    have hown0 := ownR_mono hown hB1.size
    clear hHeld hq
    go_wp2_with (first
      | ((with_reducible refine wpList_load_blk 29 _ rfl w.heap.size ?hx1 29 q.arr (0, 0) _ k4 Tryz.underlying29 ?hd1 HQS.out ?_ ?hw1); (case hx1 => rfl); (case hd1 => rfl); (case hw1 => rfl))
      | ((with_reducible refine wpList_store_blk rfl 29 _ _ rfl (w.heap.size + 1) q.arr ?hx3 ?hy3 29 _ r4 HQS.out ?hs3 (lp_one _) ?_); (case hx3 => rfl); (case hy3 => rfl); (case hs3 => exact (lp_size (p := Lp.zero) rfl).trans (lp_size HQL.out).symm)
         intro z3 hg3 hX3 hs3))
    have hbt := hbt.kept hfa hg3 (Nat.le_succ _) (Nat.lt_succ_self _)
    have hen := ens_kept hen hfb hg3 (Nat.le_succ _) (Nat.lt_succ_self _)
    have hown := ownR_mono (hown.far hg3 (ownr_far hown (by omega))) hB1.size
    have hB5 := hB4.grown hg3 hB4.size (fun k e => by cases e; exact Nat.le_succ _)
    refine bodyPost_ret (v := .agg q.arr) ?_ rfl ⟨q, rfl, ?_, ?_, ?_, hB5⟩
    · exact results_cell_row (P := Tryz.prog) Tryz.results21 _ _ (w.heap.size + 1) 29 _ (0, 0) _ rfl hX3 Tryz.underlying29 rfl HQS.out
    · rw [← HQ.out]; exact ⟨HCP.out, HSU.out, HHD.out, hbt, hen, HOK.out, HFT.out⟩
    · rw [← HQ.out]; exact hown
    · rw [← HQ.out]; exact hla
end Go.Proofs.YtafmompplcaadaaGreatDoor
