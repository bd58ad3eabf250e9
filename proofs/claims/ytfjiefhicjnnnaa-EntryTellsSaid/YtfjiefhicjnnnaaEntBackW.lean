/- The walk over the law EntryBack: what is put is got, in 30 bytes; what is got is put as the same bytes; other entries have other bytes. -/
import Derived.Test.YtfjiefhicjnnnaaEntEpochW
import Derived.Test.YtfjiefhicjnnnaaBasTake
namespace Go.Proofs.Ytfjiefhicjnnnaa
set_option linter.unusedVariables false
set_option linter.unusedSimpArgs false
open Go.RowKit

set_option maxHeartbeats 1000000 in
theorem ebackw_big (u v : En) (A : Option Addr) (n c : Nat) (b : List Int) (w : World) (hu : u.ok) (hv : v.ok) (hb : Bts w A n c b) (h : 100 < n) :
    Calls Try.prog 4 #[enV u, enV v, .slice A n c] w fun e w' => e = .returned (.bool true) ∧ Below w.heap.size w w' := by
  have hn := hb.small
  have h1 : (100 : Int) < n := by omega
  unfold enV
  go_enter Try.func4, Try.ntmps4
  go_wp2_with (go_at_call 9; refine (eawake_any _).mono ?_; rintro e w1 ⟨rfl, hb1⟩; have HB1 := Lib.hid (after_two hb1).1; clear hb1)
  go_ret
  exact ⟨rfl, HB1.out⟩
theorem ent_load {w : World} {g : Nat} {u : En} (h : w.heap[g]? = some (.cells (enA u) 25 (0, 0))) {ρ : Operand → Value} {o : Oper} {x : Operand} (ho : o.op = .load 25 x) (hx : ρ x = .pointer (some ⟨g, 0, none⟩)) : (execOp ρ o).run Try.prog w = .ok (.value (.agg (enA u))) w :=
  run_load_en ho hx (ent_range h)
theorem got_nil : gotB [] = false := got_short (by decide)
theorem get_ok {b : List Int} (hb : ∀ x ∈ b, 0 ≤ x ∧ x < 256) : (getE b).ok := by
  cases h : gotB b with
  | false => rw [get_not h]; exact ⟨⟨by decide, by decide⟩, ⟨by decide, by decide⟩⟩
  | true =>
    rw [getE, h, if_pos rfl]
    rw [gotB, Bool.and_eq_true, decide_eq_true_eq] at h
    exact seems_ok hb h.1
theorem get_put {b : List Int} (hb : ∀ x ∈ b, 0 ≤ x ∧ x < 256) (h : gotB b = true) : mayE (getE b) = true ∧ putE (getE b) = b := by
  rw [getE, h, if_pos rfl]
  rw [gotB, Bool.and_eq_true, decide_eq_true_eq] at h
  exact ⟨h.2, put_seems hb h.1⟩
set_option maxRecDepth 100000 in
set_option maxHeartbeats 4000000 in
theorem ebackw_none (u v : En) (A : Option Addr) (n c : Nat) (b : List Int) (w : World) (hu : u.ok) (hv : v.ok) (hb : Bts w A n c b) (h : n ≤ 100) (hmu : mayE u = false) :
    Calls Try.prog 4 #[enV u, enV v, .slice A n c] w fun e w' => e = .returned (.bool true) ∧ Below w.heap.size w w' := by
  have hn := hb.small
  have h1 : (n : Int) ≤ 100 := by omega
  have HDb := Lib.hid hb
  have hbm := bytes_mem hb.ok
  have HPE := Lib.hid (fun W => eput_any u W hu)
  have HPF := Lib.hid (fun W => eput_any v W hv)
  have HPK := Lib.hid (fun W => eput_any (getE b) W (get_ok hbm))
  obtain ⟨N, hmv⟩ : ∃ N, mayE v = N := ⟨_, rfl⟩
  have hPQ : True := trivial
  obtain ⟨P, hP⟩ : ∃ P, (if mayE u = true then putE u else []) = P := ⟨_, rfl⟩
  obtain ⟨Q, hQ⟩ : ∃ Q, (if mayE v = true then putE v else []) = Q := ⟨_, rfl⟩
  obtain ⟨R, hR⟩ : ∃ R, (if mayE (getE b) = true then putE (getE b) else []) = R := ⟨_, rfl⟩
  obtain ⟨F, hF⟩ : ∃ F, mayE (getE b) = F := ⟨_, rfl⟩
  rw [hP] at HPE
  rw [hQ] at HPF
  rw [hR, hF] at HPK
  rw [hmu] at HPE
  rw [hmv] at HPF
  obtain ⟨L, hL⟩ : ∃ L, gotB b = L := ⟨_, rfl⟩
  have HLT := Lib.hid (show L = true → F = true ∧ R = b from fun h => by
    obtain ⟨h1, h2⟩ := get_put hbm (hL.trans h)
    exact ⟨hF.symm.trans h1, by rw [← hR, h1, if_pos rfl, h2]⟩)
  have HLF := Lib.hid (show L = false → getE b = En.zero from fun h => get_not (hL.trans h))
  obtain ⟨K, hK⟩ : ∃ K, getE b = K := ⟨_, rfl⟩
  have HGB := Lib.hid (show ∀ W, Bts W A n c b → Calls Try.prog 12 #[.slice A n c] W (GE K L W) from fun W h => by rw [← hK, ← hL]; exact eget_any A n c b W h)
  rw [hK] at HPK HLF
  have HMU := Lib.hid (show ∀ W, Calls Try.prog 18 #[.agg (enA u)] W (GB false W) from fun W => by rw [← hmu]; exact may_any u W)
  have HPQ := Lib.hid hPQ
  obtain ⟨sp, hsp⟩ : ∃ s, bstr P = s := ⟨_, rfl⟩
  obtain ⟨sq, hsq⟩ : ∃ s, bstr Q = s := ⟨_, rfl⟩
  obtain ⟨sb, hsb⟩ : ∃ s, bstr b = s := ⟨_, rfl⟩
  have HSP := Lib.hid hsp
  have HSQ := Lib.hid hsq
  have HSB := Lib.hid hsb

  unfold GE enV at HGB
  unfold enV at HPE HPF HPK ⊢
  clear hu hv hb hP hQ hR hF hL hK hmu hmv hbm hPQ hsp hsq hsb h
  go_enter Try.func4, Try.ntmps4
  go_wp2_with (first
    | (go_at_call 9
       refine (eawake_any _).mono ?_
       rintro e w1 ⟨rfl, hb1⟩
       obtain ⟨hb0, -, hEe, hEf⟩ := after_two hb1
       have HBw1 := Lib.hid hb0
       have HDb := Lib.hid (HDb.out.below hb0)
       clear hb1 hb0)
    | ((with_reducible refine wpList_load_blk 25 _ rfl w.heap.size ?hx1 25 (enA u) (0, 0) _ hEe Try.underlying25 ?hd1 (info_en (enA_size _)) ?_ ?hw1); (case hx1 => rfl); (case hd1 => rfl); (case hw1 => rfl))
    | (go_at_call 10
       (with_reducible refine (HPE.out _).mono ?_)
       rintro e w2 ⟨A2, m2, c2, rfl, hbt, hbx⟩
       have HDp := Lib.hid hbt
       have HBw2 := Lib.hid (HBw1.out.trans (hbx.mono HBw1.out.size))
       have hEe := (hbx.block _ (Array.getElem?_eq_some_iff.1 hEe).1).trans hEe
       have hEf := (hbx.block _ (Array.getElem?_eq_some_iff.1 hEf).1).trans hEf
       have HDb := Lib.hid (HDb.out.below hbx)
       clear hbx hbt)
    | ((with_reducible refine wpList_load_blk 25 _ rfl (w.heap.size + 1) ?hx2 25 (enA v) (0, 0) _ hEf Try.underlying25 ?hd2 (info_en (enA_size _)) ?_ ?hw2); (case hx2 => rfl); (case hd2 => rfl); (case hw2 => rfl))
    | (go_at_call 10
       (with_reducible refine (HPF.out _).mono ?_)
       rintro e w3 ⟨A3, m3, c3, rfl, hbt, hbx⟩
       have HDq := Lib.hid hbt
       have HBw3 := Lib.hid (HBw2.out.trans (hbx.mono HBw2.out.size))
       have hEe := (hbx.block _ (Array.getElem?_eq_some_iff.1 hEe).1).trans hEe
       have hEf := (hbx.block _ (Array.getElem?_eq_some_iff.1 hEf).1).trans hEf
       have HDb := Lib.hid (HDb.out.below hbx)
       have HDp := Lib.hid (HDp.out.below hbx)
       clear hbx hbt)
    | (go_at_call 12
       (with_reducible refine (eget_any A2 m2 c2 P w3 HDp.out).mono ?_)
       rintro e w4 ⟨he, hbx⟩
       obtain ⟨G, hG⟩ : ∃ G, getE P = G := ⟨_, rfl⟩
       obtain ⟨H, hH⟩ : ∃ H, gotB P = H := ⟨_, rfl⟩
       rw [hG, hH] at he
       unfold enV at he
       subst he
       have HBw4 := Lib.hid (HBw3.out.trans (hbx.mono HBw3.out.size))
       have hEe := (hbx.block _ (Array.getElem?_eq_some_iff.1 hEe).1).trans hEe
       have hEf := (hbx.block _ (Array.getElem?_eq_some_iff.1 hEf).1).trans hEf
       have HDb := Lib.hid (HDb.out.below hbx)
       have HDp := Lib.hid (HDp.out.below hbx)
       have HDq := Lib.hid (HDq.out.below hbx)
       have HGG := Lib.hid hG
       have HHH := Lib.hid hH
       clear hbx hG hH)
    | ((with_reducible refine wpList_store_blk rfl 25 _ _ rfl w4.heap.size (enA G) ?hx4 ?hy4 25 _ (heap_alloc_new w4 _) (info_en (enA_size _)) ?hs4 (enA_one _) ?_); (case hx4 => rfl); (case hy4 => rfl); (case hs4 => rfl)
       intro w5 hg4 hEg hs4
       have hbx : Below w4.heap.size w4 w5 := Below.grows (one_alloc w4 _) hg4 (size_le_alloc _ _) (Nat.le_refl _)
       have HBw5 := Lib.hid (HBw4.out.trans (hbx.mono HBw4.out.size))
       have hEe := (hbx.block _ (Array.getElem?_eq_some_iff.1 hEe).1).trans hEe
       have hEf := (hbx.block _ (Array.getElem?_eq_some_iff.1 hEf).1).trans hEf
       have HDb := Lib.hid (HDb.out.below hbx)
       have HDp := Lib.hid (HDp.out.below hbx)
       have HDq := Lib.hid (HDq.out.below hbx)
       clear hbx hg4 hs4))
  obtain ⟨Y5, hY5⟩ : ∃ Y, w5.drew = Y := ⟨_, rfl⟩
  have hSd : (fun w' => Below w5.heap.size w5 w') Y5 := by rw [← hY5]; exact (Below.refl _ w5).drew
  have KE := Lib.hid (show ∀ w', Below w5.heap.size w5 w' → w'.heap[w.heap.size]? = some (.cells (enA u) 25 (0, 0)) from fun w' h => (h.block _ (Array.getElem?_eq_some_iff.1 hEe).1).trans hEe)
  have KF := Lib.hid (show ∀ w', Below w5.heap.size w5 w' → w'.heap[w.heap.size + 1]? = some (.cells (enA v) 25 (0, 0)) from fun w' h => (h.block _ (Array.getElem?_eq_some_iff.1 hEf).1).trans hEf)
  have KG := Lib.hid (show ∀ w', Below w5.heap.size w5 w' → w'.heap[w4.heap.size]? = some (.cells (enA G) 25 (0, 0)) from fun w' h => (h.block _ (Array.getElem?_eq_some_iff.1 hEg).1).trans hEg)
  have KP := Lib.hid (show ∀ w', Below w5.heap.size w5 w' → (convert 26 9 (.slice A2 m2 c2)).run Try.prog w' = .ok (.string sp) w' from fun w' h => by rw [← HSP.out]; exact conv_bts (HDp.out.below h))
  have KQ := Lib.hid (show ∀ w', Below w5.heap.size w5 w' → (convert 26 9 (.slice A3 m3 c3)).run Try.prog w' = .ok (.string sq) w' from fun w' h => by rw [← HSQ.out]; exact conv_bts (HDq.out.below h))
  clear hEe hEf hEg
  refine wp_region_held_drew (S := (fun w' => Below w5.heap.size w5 w')) (by kernel_rfl) (by rw [hY5]; exact hSd) (fun hHeld => ?_)
  rw [hY5] at hHeld ⊢
  clear hY5
  refine take_move 0 (.tmp 9) (.bool false) rfl rfl rfl (by kernel_rfl) (by kernel_rfl) (by kernel_rfl) (fun _ _ _ h => h) rfl hHeld ?_
  simp only [Act.put, List.setIfInBounds_toArray, List.set_cons_zero, List.set_cons_succ]
  refine take_if 1 (.agg (enA u)) rfl (by kernel_rfl) (by kernel_rfl) (by kernel_rfl) (fun _ _ _ h => h) rfl hHeld (fun w' hw' => ?_) ?_
  · exact ent_load (KE.out _ hw') rfl rfl
  simp only [Act.put, List.setIfInBounds_toArray, List.set_cons_zero, List.set_cons_succ]
  refine one_step 2 (by kernel_rfl) rfl (fun K hK => ?_)
  go_simp
  go_at_call 18
  refine (HMU.out _).mono ?_
  rintro e w6 ⟨rfl, hb6⟩
  have hS6 : Below w5.heap.size w5 w6 := hSd.trans (hb6.mono hSd.size)
  clear hb6
  refine hK.out _ _ hS6 (fun hHeld0 => ?_)
  clear hK K hHeld hSd
  have hHeld := hHeld0
  clear hHeld0
  try simp only [Act.put, List.setIfInBounds_toArray, List.set_cons_zero, List.set_cons_succ]
  refine take_run 3 (.bool false) rfl (by kernel_rfl) (by kernel_rfl) (by kernel_rfl) (fun _ _ _ h => h) rfl hHeld (fun w => ?_) ?_
  · go_simp
  simp only [Act.put, List.setIfInBounds_toArray, List.set_cons_zero, List.set_cons_succ]
  refine take_run 4 (.bool false) rfl (by kernel_rfl) (by kernel_rfl) (by kernel_rfl) (fun _ _ _ h => h) rfl hHeld (fun w => ?_) ?_
  · go_simp
  simp only [Act.put, List.setIfInBounds_toArray, List.set_cons_zero, List.set_cons_succ]
  refine take_move 5 (.tmp 9) (.bool false) rfl rfl rfl (by kernel_rfl) (by kernel_rfl) (by kernel_rfl) (fun _ _ _ h => h) rfl hHeld ?_
  simp only [Act.put, List.setIfInBounds_toArray, List.set_cons_zero, List.set_cons_succ]
  refine take_run 6 (.bool false) rfl (by kernel_rfl) (by kernel_rfl) (by kernel_rfl) (fun _ _ _ h => h) rfl hHeld (fun w => ?_) ?_
  · go_simp
  simp only [Act.put, List.setIfInBounds_toArray, List.set_cons_zero, List.set_cons_succ]
  refine take_off 7 rfl (by kernel_rfl) (by kernel_rfl) (by kernel_rfl) (fun _ _ _ h => h) rfl hHeld ?_
  simp only [Act.put, List.setIfInBounds_toArray, List.set_cons_zero, List.set_cons_succ]
  refine take_off 8 rfl (by kernel_rfl) (by kernel_rfl) (by kernel_rfl) (fun _ _ _ h => h) rfl hHeld ?_
  simp only [Act.put, List.setIfInBounds_toArray, List.set_cons_zero, List.set_cons_succ]
  refine take_off 9 rfl (by kernel_rfl) (by kernel_rfl) (by kernel_rfl) (fun _ _ _ h => h) rfl hHeld ?_
  simp only [Act.put, List.setIfInBounds_toArray, List.set_cons_zero, List.set_cons_succ]
  refine take_off 10 rfl (by kernel_rfl) (by kernel_rfl) (by kernel_rfl) (fun _ _ _ h => h) rfl hHeld ?_
  simp only [Act.put, List.setIfInBounds_toArray, List.set_cons_zero, List.set_cons_succ]
  refine take_off 11 rfl (by kernel_rfl) (by kernel_rfl) (by kernel_rfl) (fun _ _ _ h => h) rfl hHeld ?_
  simp only [Act.put, List.setIfInBounds_toArray, List.set_cons_zero, List.set_cons_succ]
  refine take_off 12 rfl (by kernel_rfl) (by kernel_rfl) (by kernel_rfl) (fun _ _ _ h => h) rfl hHeld ?_
  simp only [Act.put, List.setIfInBounds_toArray, List.set_cons_zero, List.set_cons_succ]
  refine take_off 13 rfl (by kernel_rfl) (by kernel_rfl) (by kernel_rfl) (fun _ _ _ h => h) rfl hHeld ?_
  simp only [Act.put, List.setIfInBounds_toArray, List.set_cons_zero, List.set_cons_succ]
  refine take_off 14 rfl (by kernel_rfl) (by kernel_rfl) (by kernel_rfl) (fun _ _ _ h => h) rfl hHeld ?_
  simp only [Act.put, List.setIfInBounds_toArray, List.set_cons_zero, List.set_cons_succ]
  refine take_off 15 rfl (by kernel_rfl) (by kernel_rfl) (by kernel_rfl) (fun _ _ _ h => h) rfl hHeld ?_
  simp only [Act.put, List.setIfInBounds_toArray, List.set_cons_zero, List.set_cons_succ]
  refine take_off 16 rfl (by kernel_rfl) (by kernel_rfl) (by kernel_rfl) (fun _ _ _ h => h) rfl hHeld ?_
  simp only [Act.put, List.setIfInBounds_toArray, List.set_cons_zero, List.set_cons_succ]
  refine take_off 17 rfl (by kernel_rfl) (by kernel_rfl) (by kernel_rfl) (fun _ _ _ h => h) rfl hHeld ?_
  simp only [Act.put, List.setIfInBounds_toArray, List.set_cons_zero, List.set_cons_succ]
  refine take_off 18 rfl (by kernel_rfl) (by kernel_rfl) (by kernel_rfl) (fun _ _ _ h => h) rfl hHeld ?_
  simp only [Act.put, List.setIfInBounds_toArray, List.set_cons_zero, List.set_cons_succ]
  refine take_run 19 (.bool false) rfl (by kernel_rfl) (by kernel_rfl) (by kernel_rfl) (fun _ _ _ h => h) rfl hHeld (fun w => ?_) ?_
  · go_simp
  simp only [Act.put, List.setIfInBounds_toArray, List.set_cons_zero, List.set_cons_succ]
  refine take_run 20 (.bool false) rfl (by kernel_rfl) (by kernel_rfl) (by kernel_rfl) (fun _ _ _ h => h) rfl hHeld (fun w => ?_) ?_
  · go_simp
  simp only [Act.put, List.setIfInBounds_toArray, List.set_cons_zero, List.set_cons_succ]
  refine take_run 21 (.bool false) rfl (by kernel_rfl) (by kernel_rfl) (by kernel_rfl) (fun _ _ _ h => h) rfl hHeld (fun w => ?_) ?_
  · go_simp
  simp only [Act.put, List.setIfInBounds_toArray, List.set_cons_zero, List.set_cons_succ]
  refine take_move 22 (.tmp 9) (.bool false) rfl rfl rfl (by kernel_rfl) (by kernel_rfl) (by kernel_rfl) (fun _ _ _ h => h) rfl hHeld ?_
  simp only [Act.put, List.setIfInBounds_toArray, List.set_cons_zero, List.set_cons_succ]
  refine take_run 23 (.bool false) rfl (by kernel_rfl) (by kernel_rfl) (by kernel_rfl) (fun _ _ _ h => h) rfl hHeld (fun w => ?_) ?_
  · go_simp
  simp only [Act.put, List.setIfInBounds_toArray, List.set_cons_zero, List.set_cons_succ]
  refine take_off 24 rfl (by kernel_rfl) (by kernel_rfl) (by kernel_rfl) (fun _ _ _ h => h) rfl hHeld ?_
  simp only [Act.put, List.setIfInBounds_toArray, List.set_cons_zero, List.set_cons_succ]
  refine take_run 25 (.bool false) rfl (by kernel_rfl) (by kernel_rfl) (by kernel_rfl) (fun _ _ _ h => h) rfl hHeld (fun w => ?_) ?_
  · go_simp
  simp only [Act.put, List.setIfInBounds_toArray, List.set_cons_zero, List.set_cons_succ]
  refine take_run 26 (.bool false) rfl (by kernel_rfl) (by kernel_rfl) (by kernel_rfl) (fun _ _ _ h => h) rfl hHeld (fun w => ?_) ?_
  · go_simp
  simp only [Act.put, List.setIfInBounds_toArray, List.set_cons_zero, List.set_cons_succ]
  refine take_off 27 rfl (by kernel_rfl) (by kernel_rfl) (by kernel_rfl) (fun _ _ _ h => h) rfl hHeld ?_
  simp only [Act.put, List.setIfInBounds_toArray, List.set_cons_zero, List.set_cons_succ]
  refine take_off 28 rfl (by kernel_rfl) (by kernel_rfl) (by kernel_rfl) (fun _ _ _ h => h) rfl hHeld ?_
  simp only [Act.put, List.setIfInBounds_toArray, List.set_cons_zero, List.set_cons_succ]
  refine take_off 29 rfl (by kernel_rfl) (by kernel_rfl) (by kernel_rfl) (fun _ _ _ h => h) rfl hHeld ?_
  simp only [Act.put, List.setIfInBounds_toArray, List.set_cons_zero, List.set_cons_succ]
  refine take_off 30 rfl (by kernel_rfl) (by kernel_rfl) (by kernel_rfl) (fun _ _ _ h => h) rfl hHeld ?_
  simp only [Act.put, List.setIfInBounds_toArray, List.set_cons_zero, List.set_cons_succ]
  refine take_off 31 rfl (by kernel_rfl) (by kernel_rfl) (by kernel_rfl) (fun _ _ _ h => h) rfl hHeld ?_
  simp only [Act.put, List.setIfInBounds_toArray, List.set_cons_zero, List.set_cons_succ]
  refine take_off 32 rfl (by kernel_rfl) (by kernel_rfl) (by kernel_rfl) (fun _ _ _ h => h) rfl hHeld ?_
  simp only [Act.put, List.setIfInBounds_toArray, List.set_cons_zero, List.set_cons_succ]
  refine take_off 33 rfl (by kernel_rfl) (by kernel_rfl) (by kernel_rfl) (fun _ _ _ h => h) rfl hHeld ?_
  simp only [Act.put, List.setIfInBounds_toArray, List.set_cons_zero, List.set_cons_succ]
  refine take_off 34 rfl (by kernel_rfl) (by kernel_rfl) (by kernel_rfl) (fun _ _ _ h => h) rfl hHeld ?_
  simp only [Act.put, List.setIfInBounds_toArray, List.set_cons_zero, List.set_cons_succ]
  refine take_off 35 rfl (by kernel_rfl) (by kernel_rfl) (by kernel_rfl) (fun _ _ _ h => h) rfl hHeld ?_
  simp only [Act.put, List.setIfInBounds_toArray, List.set_cons_zero, List.set_cons_succ]
  refine take_run 36 (.bool false) rfl (by kernel_rfl) (by kernel_rfl) (by kernel_rfl) (fun _ _ _ h => h) rfl hHeld (fun w => ?_) ?_
  · go_simp
  simp only [Act.put, List.setIfInBounds_toArray, List.set_cons_zero, List.set_cons_succ]
  refine take_run 37 (.bool false) rfl (by kernel_rfl) (by kernel_rfl) (by kernel_rfl) (fun _ _ _ h => h) rfl hHeld (fun w => ?_) ?_
  · go_simp
  simp only [Act.put, List.setIfInBounds_toArray, List.set_cons_zero, List.set_cons_succ]
  refine wpAnyH_done (by kernel_rfl) ?_ _
  have HB6 := Lib.hid (HBw5.out.trans (hS6.mono HBw5.out.size))
  clear hHeld
  cases L
  case false =>
    have HEQ := Lib.hid (show ∀ w, (Op.equalIn 10000 25 (.agg (enA K)) (.agg (enA En.zero))).run Try.prog w = .ok true w from fun w => by rw [eq_ens, HLF.out rfl, decide_eq_true rfl])
    go_wp2_with (first
      | (go_at_call 12
         (with_reducible refine (HGB.out _ (HDb.out.below hS6)).mono ?_)
         rintro e w7 ⟨rfl, hbx⟩
         have HBw7 := Lib.hid (HB6.out.trans (hbx.mono HB6.out.size))
         have HDb := Lib.hid ((HDb.out.below hS6).below hbx)
         clear hbx hS6)
      | ((with_reducible refine wpList_store_blk rfl 25 _ _ rfl w7.heap.size (enA K) ?hx8 ?hy8 25 _ (heap_alloc_new w7 _) (info_en (enA_size _)) ?hs8 (enA_one _) ?_); (case hx8 => rfl); (case hy8 => rfl); (case hs8 => rfl)
         intro w8 hg8 hEk hs8
         have hbx : Below w7.heap.size w7 w8 := Below.grows (one_alloc w7 _) hg8 (size_le_alloc _ _) (Nat.le_refl _)
         have HBw8 := Lib.hid (HBw7.out.trans (hbx.mono HBw7.out.size))
         have HDb := Lib.hid (HDb.out.below hbx)
         clear hbx hg8 hs8)
      | ((with_reducible refine wpList_load_blk 25 _ rfl w7.heap.size ?hx9 25 (enA K) (0, 0) _ hEk Try.underlying25 ?hd9 (info_en (enA_size _)) ?_ ?hw9); (case hx9 => rfl); (case hd9 => rfl); (case hw9 => rfl))
      | (go_at_call 10
         (with_reducible refine (HPK.out _).mono ?_)
         rintro e w9 ⟨A9, m9, c9, rfl, hbt, hbx⟩
         have HBw9 := Lib.hid (HBw8.out.trans (hbx.mono HBw8.out.size))
         have hEk := (hbx.block _ (Array.getElem?_eq_some_iff.1 hEk).1).trans hEk
         have kb : (convert 26 9 (.slice A n c)).run Try.prog w9 = .ok (.string sb) w9 := by rw [← HSB.out]; exact conv_bts (HDb.out.below hbx)
         have kr := conv_bts hbt
         try rw [HRB.out, HSB.out] at kr
         clear hbx hbt)
      | ((with_reducible refine wpList_load_blk 25 _ rfl w7.heap.size ?hx10 25 (enA K) (0, 0) _ hEk Try.underlying25 ?hd10 (info_en (enA_size _)) ?_ ?hw10); (case hx10 => rfl); (case hd10 => rfl); (case hw10 => rfl))
      | ((with_reducible refine wpList_eq_en .eql _ _ rfl (enA K) (enA En.zero) ?hx11 ?hy11 true true (.inl ⟨rfl, rfl⟩) (fun w => HEQ.out w) ?_ ?hw11); (case hx11 => rfl); (case hy11 => rfl); (case hw11 => rfl)))
    go_ret
    exact ⟨rfl, HBw9.out⟩
  case true =>
    have HRB := Lib.hid (HLT.out rfl).2
    have hFt := (HLT.out rfl).1
    subst hFt
    go_wp2_with (first
      | (go_at_call 12
         (with_reducible refine (HGB.out _ (HDb.out.below hS6)).mono ?_)
         rintro e w7 ⟨rfl, hbx⟩
         have HBw7 := Lib.hid (HB6.out.trans (hbx.mono HB6.out.size))
         have HDb := Lib.hid ((HDb.out.below hS6).below hbx)
         clear hbx hS6)
      | ((with_reducible refine wpList_store_blk rfl 25 _ _ rfl w7.heap.size (enA K) ?hx8 ?hy8 25 _ (heap_alloc_new w7 _) (info_en (enA_size _)) ?hs8 (enA_one _) ?_); (case hx8 => rfl); (case hy8 => rfl); (case hs8 => rfl)
         intro w8 hg8 hEk hs8
         have hbx : Below w7.heap.size w7 w8 := Below.grows (one_alloc w7 _) hg8 (size_le_alloc _ _) (Nat.le_refl _)
         have HBw8 := Lib.hid (HBw7.out.trans (hbx.mono HBw7.out.size))
         have HDb := Lib.hid (HDb.out.below hbx)
         clear hbx hg8 hs8)
      | ((with_reducible refine wpList_load_blk 25 _ rfl w7.heap.size ?hx9 25 (enA K) (0, 0) _ hEk Try.underlying25 ?hd9 (info_en (enA_size _)) ?_ ?hw9); (case hx9 => rfl); (case hd9 => rfl); (case hw9 => rfl))
      | (go_at_call 10
         (with_reducible refine (HPK.out _).mono ?_)
         rintro e w9 ⟨A9, m9, c9, rfl, hbt, hbx⟩
         have HBw9 := Lib.hid (HBw8.out.trans (hbx.mono HBw8.out.size))
         have hEk := (hbx.block _ (Array.getElem?_eq_some_iff.1 hEk).1).trans hEk
         have kb : (convert 26 9 (.slice A n c)).run Try.prog w9 = .ok (.string sb) w9 := by rw [← HSB.out]; exact conv_bts (HDb.out.below hbx)
         have kr := conv_bts hbt
         try rw [HRB.out, HSB.out] at kr
         clear hbx hbt)
      | ((with_reducible refine wpList_load_blk 25 _ rfl w7.heap.size ?hx10 25 (enA K) (0, 0) _ hEk Try.underlying25 ?hd10 (info_en (enA_size _)) ?_ ?hw10); (case hx10 => rfl); (case hd10 => rfl); (case hw10 => rfl))
      | ((with_reducible refine wpList_eq_en .eql _ _ rfl (enA K) (enA En.zero) ?hx11 ?hy11 true true (.inl ⟨rfl, rfl⟩) (fun w => HEQ.out w) ?_ ?hw11); (case hx11 => rfl); (case hy11 => rfl); (case hw11 => rfl)))
    go_ret
    exact ⟨by simp, HBw9.out⟩
set_option maxRecDepth 100000 in
set_option maxHeartbeats 4000000 in
theorem ebackw_one (u v : En) (A : Option Addr) (n c : Nat) (b : List Int) (w : World) (hu : u.ok) (hv : v.ok) (hb : Bts w A n c b) (h : n ≤ 100) (hmu : mayE u = true) (hmv : mayE v = false) :
    Calls Try.prog 4 #[enV u, enV v, .slice A n c] w fun e w' => e = .returned (.bool true) ∧ Below w.heap.size w w' := by
  have hn := hb.small
  have h1 : (n : Int) ≤ 100 := by omega
  have HDb := Lib.hid hb
  have hbm := bytes_mem hb.ok
  have HPE := Lib.hid (fun W => eput_any u W hu)
  have HPF := Lib.hid (fun W => eput_any v W hv)
  have HPK := Lib.hid (fun W => eput_any (getE b) W (get_ok hbm))
  have hPQ : (if mayE u = true then putE u else []) = putE u ∧ gotB (putE u) = true ∧ getE (putE u) = u := ⟨by rw [hmu, if_pos rfl], got_put hmu hu, by rw [getE, got_put hmu hu, if_pos rfl, seems_put hmu hu]⟩
  obtain ⟨P, hP⟩ : ∃ P, (if mayE u = true then putE u else []) = P := ⟨_, rfl⟩
  obtain ⟨Q, hQ⟩ : ∃ Q, (if mayE v = true then putE v else []) = Q := ⟨_, rfl⟩
  obtain ⟨R, hR⟩ : ∃ R, (if mayE (getE b) = true then putE (getE b) else []) = R := ⟨_, rfl⟩
  obtain ⟨F, hF⟩ : ∃ F, mayE (getE b) = F := ⟨_, rfl⟩
  rw [hP] at HPE hPQ
  rw [hQ] at HPF
  rw [hR, hF] at HPK
  rw [hmu] at HPE
  rw [hmv] at HPF
  obtain ⟨L, hL⟩ : ∃ L, gotB b = L := ⟨_, rfl⟩
  have HLT := Lib.hid (show L = true → F = true ∧ R = b from fun h => by
    obtain ⟨h1, h2⟩ := get_put hbm (hL.trans h)
    exact ⟨hF.symm.trans h1, by rw [← hR, h1, if_pos rfl, h2]⟩)
  have HLF := Lib.hid (show L = false → getE b = En.zero from fun h => get_not (hL.trans h))
  obtain ⟨K, hK⟩ : ∃ K, getE b = K := ⟨_, rfl⟩
  have HGB := Lib.hid (show ∀ W, Bts W A n c b → Calls Try.prog 12 #[.slice A n c] W (GE K L W) from fun W h => by rw [← hK, ← hL]; exact eget_any A n c b W h)
  rw [hK] at HPK HLF
  have HMU := Lib.hid (show ∀ W, Calls Try.prog 18 #[.agg (enA u)] W (GB true W) from fun W => by rw [← hmu]; exact may_any u W)
  have HPQ := Lib.hid hPQ
  obtain ⟨sp, hsp⟩ : ∃ s, bstr P = s := ⟨_, rfl⟩
  obtain ⟨sq, hsq⟩ : ∃ s, bstr Q = s := ⟨_, rfl⟩
  obtain ⟨sb, hsb⟩ : ∃ s, bstr b = s := ⟨_, rfl⟩
  have HSP := Lib.hid hsp
  have HSQ := Lib.hid hsq
  have HSB := Lib.hid hsb

  unfold GE enV at HGB
  unfold enV at HPE HPF HPK ⊢
  clear hu hv hb hP hQ hR hF hL hK hmu hmv hbm hPQ hsp hsq hsb h
  go_enter Try.func4, Try.ntmps4
  go_wp2_with (first
    | (go_at_call 9
       refine (eawake_any _).mono ?_
       rintro e w1 ⟨rfl, hb1⟩
       obtain ⟨hb0, -, hEe, hEf⟩ := after_two hb1
       have HBw1 := Lib.hid hb0
       have HDb := Lib.hid (HDb.out.below hb0)
       clear hb1 hb0)
    | ((with_reducible refine wpList_load_blk 25 _ rfl w.heap.size ?hx1 25 (enA u) (0, 0) _ hEe Try.underlying25 ?hd1 (info_en (enA_size _)) ?_ ?hw1); (case hx1 => rfl); (case hd1 => rfl); (case hw1 => rfl))
    | (go_at_call 10
       (with_reducible refine (HPE.out _).mono ?_)
       rintro e w2 ⟨A2, m2, c2, rfl, hbt, hbx⟩
       have HDp := Lib.hid hbt
       have HBw2 := Lib.hid (HBw1.out.trans (hbx.mono HBw1.out.size))
       have hEe := (hbx.block _ (Array.getElem?_eq_some_iff.1 hEe).1).trans hEe
       have hEf := (hbx.block _ (Array.getElem?_eq_some_iff.1 hEf).1).trans hEf
       have HDb := Lib.hid (HDb.out.below hbx)
       clear hbx hbt)
    | ((with_reducible refine wpList_load_blk 25 _ rfl (w.heap.size + 1) ?hx2 25 (enA v) (0, 0) _ hEf Try.underlying25 ?hd2 (info_en (enA_size _)) ?_ ?hw2); (case hx2 => rfl); (case hd2 => rfl); (case hw2 => rfl))
    | (go_at_call 10
       (with_reducible refine (HPF.out _).mono ?_)
       rintro e w3 ⟨A3, m3, c3, rfl, hbt, hbx⟩
       have HDq := Lib.hid hbt
       have HBw3 := Lib.hid (HBw2.out.trans (hbx.mono HBw2.out.size))
       have hEe := (hbx.block _ (Array.getElem?_eq_some_iff.1 hEe).1).trans hEe
       have hEf := (hbx.block _ (Array.getElem?_eq_some_iff.1 hEf).1).trans hEf
       have HDb := Lib.hid (HDb.out.below hbx)
       have HDp := Lib.hid (HDp.out.below hbx)
       clear hbx hbt)
    | (go_at_call 12
       (with_reducible refine (eget_any A2 m2 c2 P w3 HDp.out).mono ?_)
       rintro e w4 ⟨he, hbx⟩
       obtain ⟨G, hG⟩ : ∃ G, getE P = G := ⟨_, rfl⟩
       obtain ⟨H, hH⟩ : ∃ H, gotB P = H := ⟨_, rfl⟩
       rw [hG, hH] at he
       unfold enV at he
       subst he
       have HBw4 := Lib.hid (HBw3.out.trans (hbx.mono HBw3.out.size))
       have hEe := (hbx.block _ (Array.getElem?_eq_some_iff.1 hEe).1).trans hEe
       have hEf := (hbx.block _ (Array.getElem?_eq_some_iff.1 hEf).1).trans hEf
       have HDb := Lib.hid (HDb.out.below hbx)
       have HDp := Lib.hid (HDp.out.below hbx)
       have HDq := Lib.hid (HDq.out.below hbx)
       have HGG := Lib.hid hG
       have HHH := Lib.hid hH
       clear hbx hG hH)
    | ((with_reducible refine wpList_store_blk rfl 25 _ _ rfl w4.heap.size (enA G) ?hx4 ?hy4 25 _ (heap_alloc_new w4 _) (info_en (enA_size _)) ?hs4 (enA_one _) ?_); (case hx4 => rfl); (case hy4 => rfl); (case hs4 => rfl)
       intro w5 hg4 hEg hs4
       have hbx : Below w4.heap.size w4 w5 := Below.grows (one_alloc w4 _) hg4 (size_le_alloc _ _) (Nat.le_refl _)
       have HBw5 := Lib.hid (HBw4.out.trans (hbx.mono HBw4.out.size))
       have hEe := (hbx.block _ (Array.getElem?_eq_some_iff.1 hEe).1).trans hEe
       have hEf := (hbx.block _ (Array.getElem?_eq_some_iff.1 hEf).1).trans hEf
       have HDb := Lib.hid (HDb.out.below hbx)
       have HDp := Lib.hid (HDp.out.below hbx)
       have HDq := Lib.hid (HDq.out.below hbx)
       clear hbx hg4 hs4))
  obtain ⟨Y5, hY5⟩ : ∃ Y, w5.drew = Y := ⟨_, rfl⟩
  have hSd : (fun w' => Below w5.heap.size w5 w') Y5 := by rw [← hY5]; exact (Below.refl _ w5).drew
  have KE := Lib.hid (show ∀ w', Below w5.heap.size w5 w' → w'.heap[w.heap.size]? = some (.cells (enA u) 25 (0, 0)) from fun w' h => (h.block _ (Array.getElem?_eq_some_iff.1 hEe).1).trans hEe)
  have KF := Lib.hid (show ∀ w', Below w5.heap.size w5 w' → w'.heap[w.heap.size + 1]? = some (.cells (enA v) 25 (0, 0)) from fun w' h => (h.block _ (Array.getElem?_eq_some_iff.1 hEf).1).trans hEf)
  have KG := Lib.hid (show ∀ w', Below w5.heap.size w5 w' → w'.heap[w4.heap.size]? = some (.cells (enA G) 25 (0, 0)) from fun w' h => (h.block _ (Array.getElem?_eq_some_iff.1 hEg).1).trans hEg)
  have KP := Lib.hid (show ∀ w', Below w5.heap.size w5 w' → (convert 26 9 (.slice A2 m2 c2)).run Try.prog w' = .ok (.string sp) w' from fun w' h => by rw [← HSP.out]; exact conv_bts (HDp.out.below h))
  have KQ := Lib.hid (show ∀ w', Below w5.heap.size w5 w' → (convert 26 9 (.slice A3 m3 c3)).run Try.prog w' = .ok (.string sq) w' from fun w' h => by rw [← HSQ.out]; exact conv_bts (HDq.out.below h))
  have hm2 : m2 = 30 := by rw [← HDp.out.len, HPQ.out.1, put_len]
  subst hm2
  have hHt : H = true := by rw [← HHH.out, HPQ.out.1]; exact HPQ.out.2.1
  subst hHt
  have hGu : G = u := by rw [← HGG.out, HPQ.out.1]; exact HPQ.out.2.2
  have HGU := Lib.hid hGu
  clear hGu
  clear hEe hEf hEg
  refine wp_region_held_drew (S := (fun w' => Below w5.heap.size w5 w')) (by kernel_rfl) (by rw [hY5]; exact hSd) (fun hHeld => ?_)
  rw [hY5] at hHeld ⊢
  clear hY5
  refine take_move 0 (.tmp 9) (.bool true) rfl rfl rfl (by kernel_rfl) (by kernel_rfl) (by kernel_rfl) (fun _ _ _ h => h) rfl hHeld ?_
  simp only [Act.put, List.setIfInBounds_toArray, List.set_cons_zero, List.set_cons_succ]
  refine take_if 1 (.agg (enA u)) rfl (by kernel_rfl) (by kernel_rfl) (by kernel_rfl) (fun _ _ _ h => h) rfl hHeld (fun w' hw' => ?_) ?_
  · exact ent_load (KE.out _ hw') rfl rfl
  simp only [Act.put, List.setIfInBounds_toArray, List.set_cons_zero, List.set_cons_succ]
  refine one_step 2 (by kernel_rfl) rfl (fun K hK => ?_)
  go_simp
  go_at_call 18
  refine (HMU.out _).mono ?_
  rintro e w6 ⟨rfl, hb6⟩
  have hS6 : Below w5.heap.size w5 w6 := hSd.trans (hb6.mono hSd.size)
  clear hb6
  refine hK.out _ _ hS6 (fun hHeld0 => ?_)
  clear hK K hHeld hSd
  have hHeld := hHeld0
  clear hHeld0
  try simp only [Act.put, List.setIfInBounds_toArray, List.set_cons_zero, List.set_cons_succ]
  refine take_run 3 (.bool false) rfl (by kernel_rfl) (by kernel_rfl) (by kernel_rfl) (fun _ _ _ h => h) rfl hHeld (fun w => ?_) ?_
  · go_simp
  simp only [Act.put, List.setIfInBounds_toArray, List.set_cons_zero, List.set_cons_succ]
  refine take_run 4 (.bool false) rfl (by kernel_rfl) (by kernel_rfl) (by kernel_rfl) (fun _ _ _ h => h) rfl hHeld (fun w => ?_) ?_
  · go_simp
  simp only [Act.put, List.setIfInBounds_toArray, List.set_cons_zero, List.set_cons_succ]
  refine take_move 5 (.tmp 9) (.bool true) rfl rfl rfl (by kernel_rfl) (by kernel_rfl) (by kernel_rfl) (fun _ _ _ h => h) rfl hHeld ?_
  simp only [Act.put, List.setIfInBounds_toArray, List.set_cons_zero, List.set_cons_succ]
  refine take_run 6 (.bool true) rfl (by kernel_rfl) (by kernel_rfl) (by kernel_rfl) (fun _ _ _ h => h) rfl hHeld (fun w => ?_) ?_
  · go_simp
  simp only [Act.put, List.setIfInBounds_toArray, List.set_cons_zero, List.set_cons_succ]
  refine take_move 7 (.tmp 13) (.bool true) rfl rfl rfl (by kernel_rfl) (by kernel_rfl) (by kernel_rfl) (fun _ _ _ h => h) rfl hHeld ?_
  simp only [Act.put, List.setIfInBounds_toArray, List.set_cons_zero, List.set_cons_succ]
  refine take_run 8 (.bool false) rfl (by kernel_rfl) (by kernel_rfl) (by kernel_rfl) (fun _ _ _ h => h) rfl hHeld (fun w => ?_) ?_
  · go_simp
  simp only [Act.put, List.setIfInBounds_toArray, List.set_cons_zero, List.set_cons_succ]
  refine take_run 9 (.bool false) rfl (by kernel_rfl) (by kernel_rfl) (by kernel_rfl) (fun _ _ _ h => h) rfl hHeld (fun w => ?_) ?_
  · go_simp
  simp only [Act.put, List.setIfInBounds_toArray, List.set_cons_zero, List.set_cons_succ]
  refine take_if 10 (.agg (enA G)) rfl (by kernel_rfl) (by kernel_rfl) (by kernel_rfl) (fun _ _ _ h => h) rfl hHeld (fun w' hw' => ?_) ?_
  · exact ent_load (KG.out _ hw') rfl rfl
  simp only [Act.put, List.setIfInBounds_toArray, List.set_cons_zero, List.set_cons_succ]
  refine take_if 11 (.agg (enA u)) rfl (by kernel_rfl) (by kernel_rfl) (by kernel_rfl) (fun _ _ _ h => h) rfl hHeld (fun w' hw' => ?_) ?_
  · exact ent_load (KE.out _ hw') rfl rfl
  simp only [Act.put, List.setIfInBounds_toArray, List.set_cons_zero, List.set_cons_succ]
  refine take_run 12 (.bool false) rfl (by kernel_rfl) (by kernel_rfl) (by kernel_rfl) (fun _ _ _ h => h) rfl hHeld (fun w => ?_) ?_
  · exact run_eq_en rfl rfl rfl (.inr ⟨rfl, by rw [HGU.out, decide_eq_true rfl]; rfl⟩) (eq_ens G u w)
  simp only [Act.put, List.setIfInBounds_toArray, List.set_cons_zero, List.set_cons_succ]
  refine take_run 13 (.bool false) rfl (by kernel_rfl) (by kernel_rfl) (by kernel_rfl) (fun _ _ _ h => h) rfl hHeld (fun w => ?_) ?_
  · go_simp
  simp only [Act.put, List.setIfInBounds_toArray, List.set_cons_zero, List.set_cons_succ]
  refine take_run 14 (.bool false) rfl (by kernel_rfl) (by kernel_rfl) (by kernel_rfl) (fun _ _ _ h => h) rfl hHeld (fun w => ?_) ?_
  · go_simp
  simp only [Act.put, List.setIfInBounds_toArray, List.set_cons_zero, List.set_cons_succ]
  refine take_move 15 (.tmp 8) (.slice A2 30 c2) rfl rfl rfl (by kernel_rfl) (by kernel_rfl) (by kernel_rfl) (fun _ _ _ h => h) rfl hHeld ?_
  simp only [Act.put, List.setIfInBounds_toArray, List.set_cons_zero, List.set_cons_succ]
  refine take_run 16 (.int .i64 30) rfl (by kernel_rfl) (by kernel_rfl) (by kernel_rfl) (fun _ _ _ h => h) rfl hHeld (fun w => ?_) ?_
  · go_simp
  simp only [Act.put, List.setIfInBounds_toArray, List.set_cons_zero, List.set_cons_succ]
  refine take_run 17 (.bool false) rfl (by kernel_rfl) (by kernel_rfl) (by kernel_rfl) (fun _ _ _ h => h) rfl hHeld (fun w => ?_) ?_
  · go_simp
  simp only [Act.put, List.setIfInBounds_toArray, List.set_cons_zero, List.set_cons_succ]
  refine take_run 18 (.bool false) rfl (by kernel_rfl) (by kernel_rfl) (by kernel_rfl) (fun _ _ _ h => h) rfl hHeld (fun w => ?_) ?_
  · go_simp
  simp only [Act.put, List.setIfInBounds_toArray, List.set_cons_zero, List.set_cons_succ]
  refine take_run 19 (.bool false) rfl (by kernel_rfl) (by kernel_rfl) (by kernel_rfl) (fun _ _ _ h => h) rfl hHeld (fun w => ?_) ?_
  · go_simp
  simp only [Act.put, List.setIfInBounds_toArray, List.set_cons_zero, List.set_cons_succ]
  refine take_run 20 (.bool false) rfl (by kernel_rfl) (by kernel_rfl) (by kernel_rfl) (fun _ _ _ h => h) rfl hHeld (fun w => ?_) ?_
  · go_simp
  simp only [Act.put, List.setIfInBounds_toArray, List.set_cons_zero, List.set_cons_succ]
  refine take_run 21 (.bool false) rfl (by kernel_rfl) (by kernel_rfl) (by kernel_rfl) (fun _ _ _ h => h) rfl hHeld (fun w => ?_) ?_
  · go_simp
  simp only [Act.put, List.setIfInBounds_toArray, List.set_cons_zero, List.set_cons_succ]
  refine take_move 22 (.tmp 9) (.bool true) rfl rfl rfl (by kernel_rfl) (by kernel_rfl) (by kernel_rfl) (fun _ _ _ h => h) rfl hHeld ?_
  simp only [Act.put, List.setIfInBounds_toArray, List.set_cons_zero, List.set_cons_succ]
  refine take_run 23 (.bool true) rfl (by kernel_rfl) (by kernel_rfl) (by kernel_rfl) (fun _ _ _ h => h) rfl hHeld (fun w => ?_) ?_
  · go_simp
  simp only [Act.put, List.setIfInBounds_toArray, List.set_cons_zero, List.set_cons_succ]
  refine take_move 24 (.tmp 11) (.bool false) rfl rfl rfl (by kernel_rfl) (by kernel_rfl) (by kernel_rfl) (fun _ _ _ h => h) rfl hHeld ?_
  simp only [Act.put, List.setIfInBounds_toArray, List.set_cons_zero, List.set_cons_succ]
  refine take_run 25 (.bool false) rfl (by kernel_rfl) (by kernel_rfl) (by kernel_rfl) (fun _ _ _ h => h) rfl hHeld (fun w => ?_) ?_
  · go_simp
  simp only [Act.put, List.setIfInBounds_toArray, List.set_cons_zero, List.set_cons_succ]
  refine take_run 26 (.bool false) rfl (by kernel_rfl) (by kernel_rfl) (by kernel_rfl) (fun _ _ _ h => h) rfl hHeld (fun w => ?_) ?_
  · go_simp
  simp only [Act.put, List.setIfInBounds_toArray, List.set_cons_zero, List.set_cons_succ]
  refine take_off 27 rfl (by kernel_rfl) (by kernel_rfl) (by kernel_rfl) (fun _ _ _ h => h) rfl hHeld ?_
  simp only [Act.put, List.setIfInBounds_toArray, List.set_cons_zero, List.set_cons_succ]
  refine take_off 28 rfl (by kernel_rfl) (by kernel_rfl) (by kernel_rfl) (fun _ _ _ h => h) rfl hHeld ?_
  simp only [Act.put, List.setIfInBounds_toArray, List.set_cons_zero, List.set_cons_succ]
  refine take_off 29 rfl (by kernel_rfl) (by kernel_rfl) (by kernel_rfl) (fun _ _ _ h => h) rfl hHeld ?_
  simp only [Act.put, List.setIfInBounds_toArray, List.set_cons_zero, List.set_cons_succ]
  refine take_off 30 rfl (by kernel_rfl) (by kernel_rfl) (by kernel_rfl) (fun _ _ _ h => h) rfl hHeld ?_
  simp only [Act.put, List.setIfInBounds_toArray, List.set_cons_zero, List.set_cons_succ]
  refine take_off 31 rfl (by kernel_rfl) (by kernel_rfl) (by kernel_rfl) (fun _ _ _ h => h) rfl hHeld ?_
  simp only [Act.put, List.setIfInBounds_toArray, List.set_cons_zero, List.set_cons_succ]
  refine take_off 32 rfl (by kernel_rfl) (by kernel_rfl) (by kernel_rfl) (fun _ _ _ h => h) rfl hHeld ?_
  simp only [Act.put, List.setIfInBounds_toArray, List.set_cons_zero, List.set_cons_succ]
  refine take_off 33 rfl (by kernel_rfl) (by kernel_rfl) (by kernel_rfl) (fun _ _ _ h => h) rfl hHeld ?_
  simp only [Act.put, List.setIfInBounds_toArray, List.set_cons_zero, List.set_cons_succ]
  refine take_off 34 rfl (by kernel_rfl) (by kernel_rfl) (by kernel_rfl) (fun _ _ _ h => h) rfl hHeld ?_
  simp only [Act.put, List.setIfInBounds_toArray, List.set_cons_zero, List.set_cons_succ]
  refine take_off 35 rfl (by kernel_rfl) (by kernel_rfl) (by kernel_rfl) (fun _ _ _ h => h) rfl hHeld ?_
  simp only [Act.put, List.setIfInBounds_toArray, List.set_cons_zero, List.set_cons_succ]
  refine take_run 36 (.bool false) rfl (by kernel_rfl) (by kernel_rfl) (by kernel_rfl) (fun _ _ _ h => h) rfl hHeld (fun w => ?_) ?_
  · go_simp
  simp only [Act.put, List.setIfInBounds_toArray, List.set_cons_zero, List.set_cons_succ]
  refine take_run 37 (.bool false) rfl (by kernel_rfl) (by kernel_rfl) (by kernel_rfl) (fun _ _ _ h => h) rfl hHeld (fun w => ?_) ?_
  · go_simp
  simp only [Act.put, List.setIfInBounds_toArray, List.set_cons_zero, List.set_cons_succ]
  refine wpAnyH_done (by kernel_rfl) ?_ _
  have HB6 := Lib.hid (HBw5.out.trans (hS6.mono HBw5.out.size))
  clear hHeld
  cases L
  case false =>
    have HEQ := Lib.hid (show ∀ w, (Op.equalIn 10000 25 (.agg (enA K)) (.agg (enA En.zero))).run Try.prog w = .ok true w from fun w => by rw [eq_ens, HLF.out rfl, decide_eq_true rfl])
    go_wp2_with (first
      | (go_at_call 12
         (with_reducible refine (HGB.out _ (HDb.out.below hS6)).mono ?_)
         rintro e w7 ⟨rfl, hbx⟩
         have HBw7 := Lib.hid (HB6.out.trans (hbx.mono HB6.out.size))
         have HDb := Lib.hid ((HDb.out.below hS6).below hbx)
         clear hbx hS6)
      | ((with_reducible refine wpList_store_blk rfl 25 _ _ rfl w7.heap.size (enA K) ?hx8 ?hy8 25 _ (heap_alloc_new w7 _) (info_en (enA_size _)) ?hs8 (enA_one _) ?_); (case hx8 => rfl); (case hy8 => rfl); (case hs8 => rfl)
         intro w8 hg8 hEk hs8
         have hbx : Below w7.heap.size w7 w8 := Below.grows (one_alloc w7 _) hg8 (size_le_alloc _ _) (Nat.le_refl _)
         have HBw8 := Lib.hid (HBw7.out.trans (hbx.mono HBw7.out.size))
         have HDb := Lib.hid (HDb.out.below hbx)
         clear hbx hg8 hs8)
      | ((with_reducible refine wpList_load_blk 25 _ rfl w7.heap.size ?hx9 25 (enA K) (0, 0) _ hEk Try.underlying25 ?hd9 (info_en (enA_size _)) ?_ ?hw9); (case hx9 => rfl); (case hd9 => rfl); (case hw9 => rfl))
      | (go_at_call 10
         (with_reducible refine (HPK.out _).mono ?_)
         rintro e w9 ⟨A9, m9, c9, rfl, hbt, hbx⟩
         have HBw9 := Lib.hid (HBw8.out.trans (hbx.mono HBw8.out.size))
         have hEk := (hbx.block _ (Array.getElem?_eq_some_iff.1 hEk).1).trans hEk
         have kb : (convert 26 9 (.slice A n c)).run Try.prog w9 = .ok (.string sb) w9 := by rw [← HSB.out]; exact conv_bts (HDb.out.below hbx)
         have kr := conv_bts hbt
         try rw [HRB.out, HSB.out] at kr
         clear hbx hbt)
      | ((with_reducible refine wpList_load_blk 25 _ rfl w7.heap.size ?hx10 25 (enA K) (0, 0) _ hEk Try.underlying25 ?hd10 (info_en (enA_size _)) ?_ ?hw10); (case hx10 => rfl); (case hd10 => rfl); (case hw10 => rfl))
      | ((with_reducible refine wpList_eq_en .eql _ _ rfl (enA K) (enA En.zero) ?hx11 ?hy11 true true (.inl ⟨rfl, rfl⟩) (fun w => HEQ.out w) ?_ ?hw11); (case hx11 => rfl); (case hy11 => rfl); (case hw11 => rfl)))
    go_ret
    exact ⟨rfl, HBw9.out⟩
  case true =>
    have HRB := Lib.hid (HLT.out rfl).2
    have hFt := (HLT.out rfl).1
    subst hFt
    go_wp2_with (first
      | (go_at_call 12
         (with_reducible refine (HGB.out _ (HDb.out.below hS6)).mono ?_)
         rintro e w7 ⟨rfl, hbx⟩
         have HBw7 := Lib.hid (HB6.out.trans (hbx.mono HB6.out.size))
         have HDb := Lib.hid ((HDb.out.below hS6).below hbx)
         clear hbx hS6)
      | ((with_reducible refine wpList_store_blk rfl 25 _ _ rfl w7.heap.size (enA K) ?hx8 ?hy8 25 _ (heap_alloc_new w7 _) (info_en (enA_size _)) ?hs8 (enA_one _) ?_); (case hx8 => rfl); (case hy8 => rfl); (case hs8 => rfl)
         intro w8 hg8 hEk hs8
         have hbx : Below w7.heap.size w7 w8 := Below.grows (one_alloc w7 _) hg8 (size_le_alloc _ _) (Nat.le_refl _)
         have HBw8 := Lib.hid (HBw7.out.trans (hbx.mono HBw7.out.size))
         have HDb := Lib.hid (HDb.out.below hbx)
         clear hbx hg8 hs8)
      | ((with_reducible refine wpList_load_blk 25 _ rfl w7.heap.size ?hx9 25 (enA K) (0, 0) _ hEk Try.underlying25 ?hd9 (info_en (enA_size _)) ?_ ?hw9); (case hx9 => rfl); (case hd9 => rfl); (case hw9 => rfl))
      | (go_at_call 10
         (with_reducible refine (HPK.out _).mono ?_)
         rintro e w9 ⟨A9, m9, c9, rfl, hbt, hbx⟩
         have HBw9 := Lib.hid (HBw8.out.trans (hbx.mono HBw8.out.size))
         have hEk := (hbx.block _ (Array.getElem?_eq_some_iff.1 hEk).1).trans hEk
         have kb : (convert 26 9 (.slice A n c)).run Try.prog w9 = .ok (.string sb) w9 := by rw [← HSB.out]; exact conv_bts (HDb.out.below hbx)
         have kr := conv_bts hbt
         try rw [HRB.out, HSB.out] at kr
         clear hbx hbt)
      | ((with_reducible refine wpList_load_blk 25 _ rfl w7.heap.size ?hx10 25 (enA K) (0, 0) _ hEk Try.underlying25 ?hd10 (info_en (enA_size _)) ?_ ?hw10); (case hx10 => rfl); (case hd10 => rfl); (case hw10 => rfl))
      | ((with_reducible refine wpList_eq_en .eql _ _ rfl (enA K) (enA En.zero) ?hx11 ?hy11 true true (.inl ⟨rfl, rfl⟩) (fun w => HEQ.out w) ?_ ?hw11); (case hx11 => rfl); (case hy11 => rfl); (case hw11 => rfl)))
    go_ret
    exact ⟨by simp, HBw9.out⟩
set_option maxRecDepth 100000 in
set_option maxHeartbeats 4000000 in
theorem ebackw_two (u v : En) (A : Option Addr) (n c : Nat) (b : List Int) (w : World) (hu : u.ok) (hv : v.ok) (hb : Bts w A n c b) (h : n ≤ 100) (hmu : mayE u = true) (hmv : mayE v = true) :
    Calls Try.prog 4 #[enV u, enV v, .slice A n c] w fun e w' => e = .returned (.bool true) ∧ Below w.heap.size w w' := by
  have hn := hb.small
  have h1 : (n : Int) ≤ 100 := by omega
  have HDb := Lib.hid hb
  have hbm := bytes_mem hb.ok
  have HPE := Lib.hid (fun W => eput_any u W hu)
  have HPF := Lib.hid (fun W => eput_any v W hv)
  have HPK := Lib.hid (fun W => eput_any (getE b) W (get_ok hbm))
  have hPQ : (if mayE u = true then putE u else []) = putE u ∧ gotB (putE u) = true ∧ getE (putE u) = u := ⟨by rw [hmu, if_pos rfl], got_put hmu hu, by rw [getE, got_put hmu hu, if_pos rfl, seems_put hmu hu]⟩
  obtain ⟨D, hD⟩ : ∃ D, decide (u = v) = D := ⟨_, rfl⟩
  have HD := Lib.hid hD
  have hPs : ((bstr (if mayE u = true then putE u else [])).toList == (bstr (if mayE v = true then putE v else [])).toList) = D := by
    rw [hmu, hmv, if_pos rfl, if_pos rfl, run_eq_bstr _ _ (put_ok u) (put_ok v), ← hD, Bool.eq_iff_iff, beq_iff_eq, decide_eq_true_eq]
    exact ⟨put_inj hmu hu hmv hv, fun h => by rw [h]⟩
  clear hD
  obtain ⟨P, hP⟩ : ∃ P, (if mayE u = true then putE u else []) = P := ⟨_, rfl⟩
  obtain ⟨Q, hQ⟩ : ∃ Q, (if mayE v = true then putE v else []) = Q := ⟨_, rfl⟩
  obtain ⟨R, hR⟩ : ∃ R, (if mayE (getE b) = true then putE (getE b) else []) = R := ⟨_, rfl⟩
  obtain ⟨F, hF⟩ : ∃ F, mayE (getE b) = F := ⟨_, rfl⟩
  rw [hP] at HPE hPQ hPs
  rw [hQ] at HPF hPs
  rw [hR, hF] at HPK
  rw [hmu] at HPE
  rw [hmv] at HPF
  obtain ⟨L, hL⟩ : ∃ L, gotB b = L := ⟨_, rfl⟩
  have HLT := Lib.hid (show L = true → F = true ∧ R = b from fun h => by
    obtain ⟨h1, h2⟩ := get_put hbm (hL.trans h)
    exact ⟨hF.symm.trans h1, by rw [← hR, h1, if_pos rfl, h2]⟩)
  have HLF := Lib.hid (show L = false → getE b = En.zero from fun h => get_not (hL.trans h))
  obtain ⟨K, hK⟩ : ∃ K, getE b = K := ⟨_, rfl⟩
  have HGB := Lib.hid (show ∀ W, Bts W A n c b → Calls Try.prog 12 #[.slice A n c] W (GE K L W) from fun W h => by rw [← hK, ← hL]; exact eget_any A n c b W h)
  rw [hK] at HPK HLF
  have HMU := Lib.hid (show ∀ W, Calls Try.prog 18 #[.agg (enA u)] W (GB true W) from fun W => by rw [← hmu]; exact may_any u W)
  have HPQ := Lib.hid hPQ
  obtain ⟨sp, hsp⟩ : ∃ s, bstr P = s := ⟨_, rfl⟩
  obtain ⟨sq, hsq⟩ : ∃ s, bstr Q = s := ⟨_, rfl⟩
  obtain ⟨sb, hsb⟩ : ∃ s, bstr b = s := ⟨_, rfl⟩
  have HSP := Lib.hid hsp
  have HSQ := Lib.hid hsq
  have HSB := Lib.hid hsb
  have HSE := Lib.hid (show (sp.toList == sq.toList) = D by rw [← hsp, ← hsq]; exact hPs)
  unfold GE enV at HGB
  unfold enV at HPE HPF HPK ⊢
  clear hu hv hb hP hQ hR hF hL hK hmu hmv hbm hPQ hsp hsq hsb h hPs
  go_enter Try.func4, Try.ntmps4
  go_wp2_with (first
    | (go_at_call 9
       refine (eawake_any _).mono ?_
       rintro e w1 ⟨rfl, hb1⟩
       obtain ⟨hb0, -, hEe, hEf⟩ := after_two hb1
       have HBw1 := Lib.hid hb0
       have HDb := Lib.hid (HDb.out.below hb0)
       clear hb1 hb0)
    | ((with_reducible refine wpList_load_blk 25 _ rfl w.heap.size ?hx1 25 (enA u) (0, 0) _ hEe Try.underlying25 ?hd1 (info_en (enA_size _)) ?_ ?hw1); (case hx1 => rfl); (case hd1 => rfl); (case hw1 => rfl))
    | (go_at_call 10
       (with_reducible refine (HPE.out _).mono ?_)
       rintro e w2 ⟨A2, m2, c2, rfl, hbt, hbx⟩
       have HDp := Lib.hid hbt
       have HBw2 := Lib.hid (HBw1.out.trans (hbx.mono HBw1.out.size))
       have hEe := (hbx.block _ (Array.getElem?_eq_some_iff.1 hEe).1).trans hEe
       have hEf := (hbx.block _ (Array.getElem?_eq_some_iff.1 hEf).1).trans hEf
       have HDb := Lib.hid (HDb.out.below hbx)
       clear hbx hbt)
    | ((with_reducible refine wpList_load_blk 25 _ rfl (w.heap.size + 1) ?hx2 25 (enA v) (0, 0) _ hEf Try.underlying25 ?hd2 (info_en (enA_size _)) ?_ ?hw2); (case hx2 => rfl); (case hd2 => rfl); (case hw2 => rfl))
    | (go_at_call 10
       (with_reducible refine (HPF.out _).mono ?_)
       rintro e w3 ⟨A3, m3, c3, rfl, hbt, hbx⟩
       have HDq := Lib.hid hbt
       have HBw3 := Lib.hid (HBw2.out.trans (hbx.mono HBw2.out.size))
       have hEe := (hbx.block _ (Array.getElem?_eq_some_iff.1 hEe).1).trans hEe
       have hEf := (hbx.block _ (Array.getElem?_eq_some_iff.1 hEf).1).trans hEf
       have HDb := Lib.hid (HDb.out.below hbx)
       have HDp := Lib.hid (HDp.out.below hbx)
       clear hbx hbt)
    | (go_at_call 12
       (with_reducible refine (eget_any A2 m2 c2 P w3 HDp.out).mono ?_)
       rintro e w4 ⟨he, hbx⟩
       obtain ⟨G, hG⟩ : ∃ G, getE P = G := ⟨_, rfl⟩
       obtain ⟨H, hH⟩ : ∃ H, gotB P = H := ⟨_, rfl⟩
       rw [hG, hH] at he
       unfold enV at he
       subst he
       have HBw4 := Lib.hid (HBw3.out.trans (hbx.mono HBw3.out.size))
       have hEe := (hbx.block _ (Array.getElem?_eq_some_iff.1 hEe).1).trans hEe
       have hEf := (hbx.block _ (Array.getElem?_eq_some_iff.1 hEf).1).trans hEf
       have HDb := Lib.hid (HDb.out.below hbx)
       have HDp := Lib.hid (HDp.out.below hbx)
       have HDq := Lib.hid (HDq.out.below hbx)
       have HGG := Lib.hid hG
       have HHH := Lib.hid hH
       clear hbx hG hH)
    | ((with_reducible refine wpList_store_blk rfl 25 _ _ rfl w4.heap.size (enA G) ?hx4 ?hy4 25 _ (heap_alloc_new w4 _) (info_en (enA_size _)) ?hs4 (enA_one _) ?_); (case hx4 => rfl); (case hy4 => rfl); (case hs4 => rfl)
       intro w5 hg4 hEg hs4
       have hbx : Below w4.heap.size w4 w5 := Below.grows (one_alloc w4 _) hg4 (size_le_alloc _ _) (Nat.le_refl _)
       have HBw5 := Lib.hid (HBw4.out.trans (hbx.mono HBw4.out.size))
       have hEe := (hbx.block _ (Array.getElem?_eq_some_iff.1 hEe).1).trans hEe
       have hEf := (hbx.block _ (Array.getElem?_eq_some_iff.1 hEf).1).trans hEf
       have HDb := Lib.hid (HDb.out.below hbx)
       have HDp := Lib.hid (HDp.out.below hbx)
       have HDq := Lib.hid (HDq.out.below hbx)
       clear hbx hg4 hs4))
  obtain ⟨Y5, hY5⟩ : ∃ Y, w5.drew = Y := ⟨_, rfl⟩
  have hSd : (fun w' => Below w5.heap.size w5 w') Y5 := by rw [← hY5]; exact (Below.refl _ w5).drew
  have KE := Lib.hid (show ∀ w', Below w5.heap.size w5 w' → w'.heap[w.heap.size]? = some (.cells (enA u) 25 (0, 0)) from fun w' h => (h.block _ (Array.getElem?_eq_some_iff.1 hEe).1).trans hEe)
  have KF := Lib.hid (show ∀ w', Below w5.heap.size w5 w' → w'.heap[w.heap.size + 1]? = some (.cells (enA v) 25 (0, 0)) from fun w' h => (h.block _ (Array.getElem?_eq_some_iff.1 hEf).1).trans hEf)
  have KG := Lib.hid (show ∀ w', Below w5.heap.size w5 w' → w'.heap[w4.heap.size]? = some (.cells (enA G) 25 (0, 0)) from fun w' h => (h.block _ (Array.getElem?_eq_some_iff.1 hEg).1).trans hEg)
  have KP := Lib.hid (show ∀ w', Below w5.heap.size w5 w' → (convert 26 9 (.slice A2 m2 c2)).run Try.prog w' = .ok (.string sp) w' from fun w' h => by rw [← HSP.out]; exact conv_bts (HDp.out.below h))
  have KQ := Lib.hid (show ∀ w', Below w5.heap.size w5 w' → (convert 26 9 (.slice A3 m3 c3)).run Try.prog w' = .ok (.string sq) w' from fun w' h => by rw [← HSQ.out]; exact conv_bts (HDq.out.below h))
  have hm2 : m2 = 30 := by rw [← HDp.out.len, HPQ.out.1, put_len]
  subst hm2
  have hHt : H = true := by rw [← HHH.out, HPQ.out.1]; exact HPQ.out.2.1
  subst hHt
  have hGu : G = u := by rw [← HGG.out, HPQ.out.1]; exact HPQ.out.2.2
  have HGU := Lib.hid hGu
  clear hGu
  clear hEe hEf hEg
  refine wp_region_held_drew (S := (fun w' => Below w5.heap.size w5 w')) (by kernel_rfl) (by rw [hY5]; exact hSd) (fun hHeld => ?_)
  rw [hY5] at hHeld ⊢
  clear hY5
  refine take_move 0 (.tmp 9) (.bool true) rfl rfl rfl (by kernel_rfl) (by kernel_rfl) (by kernel_rfl) (fun _ _ _ h => h) rfl hHeld ?_
  simp only [Act.put, List.setIfInBounds_toArray, List.set_cons_zero, List.set_cons_succ]
  refine take_if 1 (.agg (enA u)) rfl (by kernel_rfl) (by kernel_rfl) (by kernel_rfl) (fun _ _ _ h => h) rfl hHeld (fun w' hw' => ?_) ?_
  · exact ent_load (KE.out _ hw') rfl rfl
  simp only [Act.put, List.setIfInBounds_toArray, List.set_cons_zero, List.set_cons_succ]
  refine one_step 2 (by kernel_rfl) rfl (fun K hK => ?_)
  go_simp
  go_at_call 18
  refine (HMU.out _).mono ?_
  rintro e w6 ⟨rfl, hb6⟩
  have hS6 : Below w5.heap.size w5 w6 := hSd.trans (hb6.mono hSd.size)
  clear hb6
  refine hK.out _ _ hS6 (fun hHeld0 => ?_)
  clear hK K hHeld hSd
  have hHeld := hHeld0
  clear hHeld0
  try simp only [Act.put, List.setIfInBounds_toArray, List.set_cons_zero, List.set_cons_succ]
  refine take_run 3 (.bool false) rfl (by kernel_rfl) (by kernel_rfl) (by kernel_rfl) (fun _ _ _ h => h) rfl hHeld (fun w => ?_) ?_
  · go_simp
  simp only [Act.put, List.setIfInBounds_toArray, List.set_cons_zero, List.set_cons_succ]
  refine take_run 4 (.bool false) rfl (by kernel_rfl) (by kernel_rfl) (by kernel_rfl) (fun _ _ _ h => h) rfl hHeld (fun w => ?_) ?_
  · go_simp
  simp only [Act.put, List.setIfInBounds_toArray, List.set_cons_zero, List.set_cons_succ]
  refine take_move 5 (.tmp 9) (.bool true) rfl rfl rfl (by kernel_rfl) (by kernel_rfl) (by kernel_rfl) (fun _ _ _ h => h) rfl hHeld ?_
  simp only [Act.put, List.setIfInBounds_toArray, List.set_cons_zero, List.set_cons_succ]
  refine take_run 6 (.bool true) rfl (by kernel_rfl) (by kernel_rfl) (by kernel_rfl) (fun _ _ _ h => h) rfl hHeld (fun w => ?_) ?_
  · go_simp
  simp only [Act.put, List.setIfInBounds_toArray, List.set_cons_zero, List.set_cons_succ]
  refine take_move 7 (.tmp 13) (.bool true) rfl rfl rfl (by kernel_rfl) (by kernel_rfl) (by kernel_rfl) (fun _ _ _ h => h) rfl hHeld ?_
  simp only [Act.put, List.setIfInBounds_toArray, List.set_cons_zero, List.set_cons_succ]
  refine take_run 8 (.bool false) rfl (by kernel_rfl) (by kernel_rfl) (by kernel_rfl) (fun _ _ _ h => h) rfl hHeld (fun w => ?_) ?_
  · go_simp
  simp only [Act.put, List.setIfInBounds_toArray, List.set_cons_zero, List.set_cons_succ]
  refine take_run 9 (.bool false) rfl (by kernel_rfl) (by kernel_rfl) (by kernel_rfl) (fun _ _ _ h => h) rfl hHeld (fun w => ?_) ?_
  · go_simp
  simp only [Act.put, List.setIfInBounds_toArray, List.set_cons_zero, List.set_cons_succ]
  refine take_if 10 (.agg (enA G)) rfl (by kernel_rfl) (by kernel_rfl) (by kernel_rfl) (fun _ _ _ h => h) rfl hHeld (fun w' hw' => ?_) ?_
  · exact ent_load (KG.out _ hw') rfl rfl
  simp only [Act.put, List.setIfInBounds_toArray, List.set_cons_zero, List.set_cons_succ]
  refine take_if 11 (.agg (enA u)) rfl (by kernel_rfl) (by kernel_rfl) (by kernel_rfl) (fun _ _ _ h => h) rfl hHeld (fun w' hw' => ?_) ?_
  · exact ent_load (KE.out _ hw') rfl rfl
  simp only [Act.put, List.setIfInBounds_toArray, List.set_cons_zero, List.set_cons_succ]
  refine take_run 12 (.bool false) rfl (by kernel_rfl) (by kernel_rfl) (by kernel_rfl) (fun _ _ _ h => h) rfl hHeld (fun w => ?_) ?_
  · exact run_eq_en rfl rfl rfl (.inr ⟨rfl, by rw [HGU.out, decide_eq_true rfl]; rfl⟩) (eq_ens G u w)
  simp only [Act.put, List.setIfInBounds_toArray, List.set_cons_zero, List.set_cons_succ]
  refine take_run 13 (.bool false) rfl (by kernel_rfl) (by kernel_rfl) (by kernel_rfl) (fun _ _ _ h => h) rfl hHeld (fun w => ?_) ?_
  · go_simp
  simp only [Act.put, List.setIfInBounds_toArray, List.set_cons_zero, List.set_cons_succ]
  refine take_run 14 (.bool false) rfl (by kernel_rfl) (by kernel_rfl) (by kernel_rfl) (fun _ _ _ h => h) rfl hHeld (fun w => ?_) ?_
  · go_simp
  simp only [Act.put, List.setIfInBounds_toArray, List.set_cons_zero, List.set_cons_succ]
  refine take_move 15 (.tmp 8) (.slice A2 30 c2) rfl rfl rfl (by kernel_rfl) (by kernel_rfl) (by kernel_rfl) (fun _ _ _ h => h) rfl hHeld ?_
  simp only [Act.put, List.setIfInBounds_toArray, List.set_cons_zero, List.set_cons_succ]
  refine take_run 16 (.int .i64 30) rfl (by kernel_rfl) (by kernel_rfl) (by kernel_rfl) (fun _ _ _ h => h) rfl hHeld (fun w => ?_) ?_
  · go_simp
  simp only [Act.put, List.setIfInBounds_toArray, List.set_cons_zero, List.set_cons_succ]
  refine take_run 17 (.bool false) rfl (by kernel_rfl) (by kernel_rfl) (by kernel_rfl) (fun _ _ _ h => h) rfl hHeld (fun w => ?_) ?_
  · go_simp
  simp only [Act.put, List.setIfInBounds_toArray, List.set_cons_zero, List.set_cons_succ]
  refine take_run 18 (.bool false) rfl (by kernel_rfl) (by kernel_rfl) (by kernel_rfl) (fun _ _ _ h => h) rfl hHeld (fun w => ?_) ?_
  · go_simp
  simp only [Act.put, List.setIfInBounds_toArray, List.set_cons_zero, List.set_cons_succ]
  refine take_run 19 (.bool false) rfl (by kernel_rfl) (by kernel_rfl) (by kernel_rfl) (fun _ _ _ h => h) rfl hHeld (fun w => ?_) ?_
  · go_simp
  simp only [Act.put, List.setIfInBounds_toArray, List.set_cons_zero, List.set_cons_succ]
  refine take_run 20 (.bool false) rfl (by kernel_rfl) (by kernel_rfl) (by kernel_rfl) (fun _ _ _ h => h) rfl hHeld (fun w => ?_) ?_
  · go_simp
  simp only [Act.put, List.setIfInBounds_toArray, List.set_cons_zero, List.set_cons_succ]
  refine take_run 21 (.bool false) rfl (by kernel_rfl) (by kernel_rfl) (by kernel_rfl) (fun _ _ _ h => h) rfl hHeld (fun w => ?_) ?_
  · go_simp
  simp only [Act.put, List.setIfInBounds_toArray, List.set_cons_zero, List.set_cons_succ]
  refine take_move 22 (.tmp 9) (.bool true) rfl rfl rfl (by kernel_rfl) (by kernel_rfl) (by kernel_rfl) (fun _ _ _ h => h) rfl hHeld ?_
  simp only [Act.put, List.setIfInBounds_toArray, List.set_cons_zero, List.set_cons_succ]
  refine take_run 23 (.bool true) rfl (by kernel_rfl) (by kernel_rfl) (by kernel_rfl) (fun _ _ _ h => h) rfl hHeld (fun w => ?_) ?_
  · go_simp
  simp only [Act.put, List.setIfInBounds_toArray, List.set_cons_zero, List.set_cons_succ]
  refine take_move 24 (.tmp 11) (.bool true) rfl rfl rfl (by kernel_rfl) (by kernel_rfl) (by kernel_rfl) (fun _ _ _ h => h) rfl hHeld ?_
  simp only [Act.put, List.setIfInBounds_toArray, List.set_cons_zero, List.set_cons_succ]
  refine take_run 25 (.bool true) rfl (by kernel_rfl) (by kernel_rfl) (by kernel_rfl) (fun _ _ _ h => h) rfl hHeld (fun w => ?_) ?_
  · go_simp
  simp only [Act.put, List.setIfInBounds_toArray, List.set_cons_zero, List.set_cons_succ]
  refine take_run 26 (.bool true) rfl (by kernel_rfl) (by kernel_rfl) (by kernel_rfl) (fun _ _ _ h => h) rfl hHeld (fun w => ?_) ?_
  · go_simp
  simp only [Act.put, List.setIfInBounds_toArray, List.set_cons_zero, List.set_cons_succ]
  refine take_move 27 (.tmp 8) (.slice A2 30 c2) rfl rfl rfl (by kernel_rfl) (by kernel_rfl) (by kernel_rfl) (fun _ _ _ h => h) rfl hHeld ?_
  simp only [Act.put, List.setIfInBounds_toArray, List.set_cons_zero, List.set_cons_succ]
  refine take_if 28 (.string sp) rfl (by kernel_rfl) (by kernel_rfl) (by kernel_rfl) (fun _ _ _ h => h) rfl hHeld (fun w' hw' => ?_) ?_
  · have hq := KP.out _ hw'
    go_simp
  simp only [Act.put, List.setIfInBounds_toArray, List.set_cons_zero, List.set_cons_succ]
  refine take_move 29 (.tmp 10) (.slice A3 m3 c3) rfl rfl rfl (by kernel_rfl) (by kernel_rfl) (by kernel_rfl) (fun _ _ _ h => h) rfl hHeld ?_
  simp only [Act.put, List.setIfInBounds_toArray, List.set_cons_zero, List.set_cons_succ]
  refine take_if 30 (.string sq) rfl (by kernel_rfl) (by kernel_rfl) (by kernel_rfl) (fun _ _ _ h => h) rfl hHeld (fun w' hw' => ?_) ?_
  · have hq := KQ.out _ hw'
    go_simp
  simp only [Act.put, List.setIfInBounds_toArray, List.set_cons_zero, List.set_cons_succ]
  refine take_run 31 (.bool D) rfl (by kernel_rfl) (by kernel_rfl) (by kernel_rfl) (fun _ _ _ h => h) rfl hHeld (fun w => ?_) ?_
  · have hq := HSE.out; go_simp
  simp only [Act.put, List.setIfInBounds_toArray, List.set_cons_zero, List.set_cons_succ]
  refine take_if 32 (.agg (enA u)) rfl (by kernel_rfl) (by kernel_rfl) (by kernel_rfl) (fun _ _ _ h => h) rfl hHeld (fun w' hw' => ?_) ?_
  · exact ent_load (KE.out _ hw') rfl rfl
  simp only [Act.put, List.setIfInBounds_toArray, List.set_cons_zero, List.set_cons_succ]
  refine take_if 33 (.agg (enA v)) rfl (by kernel_rfl) (by kernel_rfl) (by kernel_rfl) (fun _ _ _ h => h) rfl hHeld (fun w' hw' => ?_) ?_
  · exact ent_load (KF.out _ hw') rfl rfl
  simp only [Act.put, List.setIfInBounds_toArray, List.set_cons_zero, List.set_cons_succ]
  refine take_run 34 (.bool D) rfl (by kernel_rfl) (by kernel_rfl) (by kernel_rfl) (fun _ _ _ h => h) rfl hHeld (fun w => ?_) ?_
  · exact run_eq_en rfl rfl rfl (.inl ⟨rfl, HD.out.symm⟩) (eq_ens u v w)
  simp only [Act.put, List.setIfInBounds_toArray, List.set_cons_zero, List.set_cons_succ]
  refine take_run 35 (.bool false) rfl (by kernel_rfl) (by kernel_rfl) (by kernel_rfl) (fun _ _ _ h => h) rfl hHeld (fun w => ?_) ?_
  · go_simp
  simp only [Act.put, List.setIfInBounds_toArray, List.set_cons_zero, List.set_cons_succ]
  refine take_run 36 (.bool false) rfl (by kernel_rfl) (by kernel_rfl) (by kernel_rfl) (fun _ _ _ h => h) rfl hHeld (fun w => ?_) ?_
  · go_simp
  simp only [Act.put, List.setIfInBounds_toArray, List.set_cons_zero, List.set_cons_succ]
  refine take_run 37 (.bool false) rfl (by kernel_rfl) (by kernel_rfl) (by kernel_rfl) (fun _ _ _ h => h) rfl hHeld (fun w => ?_) ?_
  · go_simp
  simp only [Act.put, List.setIfInBounds_toArray, List.set_cons_zero, List.set_cons_succ]
  refine wpAnyH_done (by kernel_rfl) ?_ _
  have HB6 := Lib.hid (HBw5.out.trans (hS6.mono HBw5.out.size))
  clear hHeld
  cases L
  case false =>
    have HEQ := Lib.hid (show ∀ w, (Op.equalIn 10000 25 (.agg (enA K)) (.agg (enA En.zero))).run Try.prog w = .ok true w from fun w => by rw [eq_ens, HLF.out rfl, decide_eq_true rfl])
    go_wp2_with (first
      | (go_at_call 12
         (with_reducible refine (HGB.out _ (HDb.out.below hS6)).mono ?_)
         rintro e w7 ⟨rfl, hbx⟩
         have HBw7 := Lib.hid (HB6.out.trans (hbx.mono HB6.out.size))
         have HDb := Lib.hid ((HDb.out.below hS6).below hbx)
         clear hbx hS6)
      | ((with_reducible refine wpList_store_blk rfl 25 _ _ rfl w7.heap.size (enA K) ?hx8 ?hy8 25 _ (heap_alloc_new w7 _) (info_en (enA_size _)) ?hs8 (enA_one _) ?_); (case hx8 => rfl); (case hy8 => rfl); (case hs8 => rfl)
         intro w8 hg8 hEk hs8
         have hbx : Below w7.heap.size w7 w8 := Below.grows (one_alloc w7 _) hg8 (size_le_alloc _ _) (Nat.le_refl _)
         have HBw8 := Lib.hid (HBw7.out.trans (hbx.mono HBw7.out.size))
         have HDb := Lib.hid (HDb.out.below hbx)
         clear hbx hg8 hs8)
      | ((with_reducible refine wpList_load_blk 25 _ rfl w7.heap.size ?hx9 25 (enA K) (0, 0) _ hEk Try.underlying25 ?hd9 (info_en (enA_size _)) ?_ ?hw9); (case hx9 => rfl); (case hd9 => rfl); (case hw9 => rfl))
      | (go_at_call 10
         (with_reducible refine (HPK.out _).mono ?_)
         rintro e w9 ⟨A9, m9, c9, rfl, hbt, hbx⟩
         have HBw9 := Lib.hid (HBw8.out.trans (hbx.mono HBw8.out.size))
         have hEk := (hbx.block _ (Array.getElem?_eq_some_iff.1 hEk).1).trans hEk
         have kb : (convert 26 9 (.slice A n c)).run Try.prog w9 = .ok (.string sb) w9 := by rw [← HSB.out]; exact conv_bts (HDb.out.below hbx)
         have kr := conv_bts hbt
         try rw [HRB.out, HSB.out] at kr
         clear hbx hbt)
      | ((with_reducible refine wpList_load_blk 25 _ rfl w7.heap.size ?hx10 25 (enA K) (0, 0) _ hEk Try.underlying25 ?hd10 (info_en (enA_size _)) ?_ ?hw10); (case hx10 => rfl); (case hd10 => rfl); (case hw10 => rfl))
      | ((with_reducible refine wpList_eq_en .eql _ _ rfl (enA K) (enA En.zero) ?hx11 ?hy11 true true (.inl ⟨rfl, rfl⟩) (fun w => HEQ.out w) ?_ ?hw11); (case hx11 => rfl); (case hy11 => rfl); (case hw11 => rfl)))
    go_ret
    exact ⟨rfl, HBw9.out⟩
  case true =>
    have HRB := Lib.hid (HLT.out rfl).2
    have hFt := (HLT.out rfl).1
    subst hFt
    go_wp2_with (first
      | (go_at_call 12
         (with_reducible refine (HGB.out _ (HDb.out.below hS6)).mono ?_)
         rintro e w7 ⟨rfl, hbx⟩
         have HBw7 := Lib.hid (HB6.out.trans (hbx.mono HB6.out.size))
         have HDb := Lib.hid ((HDb.out.below hS6).below hbx)
         clear hbx hS6)
      | ((with_reducible refine wpList_store_blk rfl 25 _ _ rfl w7.heap.size (enA K) ?hx8 ?hy8 25 _ (heap_alloc_new w7 _) (info_en (enA_size _)) ?hs8 (enA_one _) ?_); (case hx8 => rfl); (case hy8 => rfl); (case hs8 => rfl)
         intro w8 hg8 hEk hs8
         have hbx : Below w7.heap.size w7 w8 := Below.grows (one_alloc w7 _) hg8 (size_le_alloc _ _) (Nat.le_refl _)
         have HBw8 := Lib.hid (HBw7.out.trans (hbx.mono HBw7.out.size))
         have HDb := Lib.hid (HDb.out.below hbx)
         clear hbx hg8 hs8)
      | ((with_reducible refine wpList_load_blk 25 _ rfl w7.heap.size ?hx9 25 (enA K) (0, 0) _ hEk Try.underlying25 ?hd9 (info_en (enA_size _)) ?_ ?hw9); (case hx9 => rfl); (case hd9 => rfl); (case hw9 => rfl))
      | (go_at_call 10
         (with_reducible refine (HPK.out _).mono ?_)
         rintro e w9 ⟨A9, m9, c9, rfl, hbt, hbx⟩
         have HBw9 := Lib.hid (HBw8.out.trans (hbx.mono HBw8.out.size))
         have hEk := (hbx.block _ (Array.getElem?_eq_some_iff.1 hEk).1).trans hEk
         have kb : (convert 26 9 (.slice A n c)).run Try.prog w9 = .ok (.string sb) w9 := by rw [← HSB.out]; exact conv_bts (HDb.out.below hbx)
         have kr := conv_bts hbt
         try rw [HRB.out, HSB.out] at kr
         clear hbx hbt)
      | ((with_reducible refine wpList_load_blk 25 _ rfl w7.heap.size ?hx10 25 (enA K) (0, 0) _ hEk Try.underlying25 ?hd10 (info_en (enA_size _)) ?_ ?hw10); (case hx10 => rfl); (case hd10 => rfl); (case hw10 => rfl))
      | ((with_reducible refine wpList_eq_en .eql _ _ rfl (enA K) (enA En.zero) ?hx11 ?hy11 true true (.inl ⟨rfl, rfl⟩) (fun w => HEQ.out w) ?_ ?hw11); (case hx11 => rfl); (case hy11 => rfl); (case hw11 => rfl)))
    go_ret
    exact ⟨by simp, HBw9.out⟩
theorem ebackw_any (u v : En) (A : Option Addr) (n c : Nat) (b : List Int) (w : World) (hu : u.ok) (hv : v.ok) (hb : Bts w A n c b) :
    Calls Try.prog 4 #[enV u, enV v, .slice A n c] w fun e w' => e = .returned (.bool true) ∧ Below w.heap.size w w' := by
  by_cases h : 100 < n
  · exact ebackw_big u v A n c b w hu hv hb h
  · cases hmu : mayE u with
    | false => exact ebackw_none u v A n c b w hu hv hb (by omega) hmu
    | true =>
      cases hmv : mayE v with
      | false => exact ebackw_one u v A n c b w hu hv hb (by omega) hmu hmv
      | true => exact ebackw_two u v A n c b w hu hv hb (by omega) hmu hmv
end Go.Proofs.Ytfjiefhicjnnnaa
