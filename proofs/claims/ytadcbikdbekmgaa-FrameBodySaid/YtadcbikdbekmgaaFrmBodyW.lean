/- The walk over the law FrameBody: the bytes of a frame with a tag are its body, and the tag; two frames of one body are the same but for their tags. -/
import Derived.Test.YtadcbikdbekmgaaFrmBackW
namespace Go.Proofs.Ytadcbikdbekmgaa
set_option linter.unusedVariables false
set_option linter.unusedSimpArgs false
open Go.RowKit

theorem body_facts {f : Fr} (h : bodyF f ≠ []) : plainB f = true ∧ tagK f.kind.toNat = true ∧ bodyF f = frontF f := by
  unfold bodyF at h ⊢
  split at h
  · rename_i hc
    rw [if_pos hc]
    rw [Bool.and_eq_true] at hc
    exact ⟨hc.1, hc.2, rfl⟩
  · exact absurd rfl h
def tagged (f g : Fr) : Fr := { f with tag := g.tag }
theorem tagged_ok {f g : Fr} (hf : f.ok) (hg : g.ok) : (tagged f g).ok := ⟨hf.kind, hf.user, hf.sess, hf.cn, hf.epoch, hf.count, hf.cmd, hf.arg, hg.len, hg.bytes⟩
theorem body_same {f g : Fr} (hf : f.ok) (hg : g.ok) (h1 : bodyF f ≠ []) (h2 : bodyF g ≠ []) : (bodyF f == bodyF g) = eqFr (tagged f g) g := by
  obtain ⟨p1, t1, b1⟩ := body_facts h1
  obtain ⟨p2, t2, b2⟩ := body_facts h2
  rw [b1, b2, Bool.eq_iff_iff, beq_iff_eq, eqFr_iff]
  have hp : plainB (tagged f g) = true := by
    have : plainB (tagged f g) = (kindB f.kind && (rangeB f && (blankB f.nums (szK f.kind.toNat) && (tagK f.kind.toNat || g.tag == noTag)))) := rfl
    rw [this, t1]
    have q := plain_facts p1
    rw [q.1, q.2.1, q.2.2.1]
    rfl
  constructor
  · intro h
    refine put_inj (tagged_ok hf hg) hg hp p2 ?_
    have e1 : putF (tagged f g) = frontF f ++ if tagK f.kind.toNat then g.tag else [] := rfl
    have e2 : putF g = frontF g ++ if tagK g.kind.toNat then g.tag else [] := rfl
    rw [e1, e2, t1, t2, h]
  · intro h
    exact (show frontF f = frontF (tagged f g) from rfl).trans (by rw [h])
theorem Bts.off {w w' : World} {g n c : Nat} {l : List Int} (h : Bts w (some ⟨g, 0, none⟩) n c l) (he : w'.heap[g]? = w.heap[g]?) : Bts w' (some ⟨g, 0, none⟩) n c l := by
  refine ⟨h.len, h.le, h.max, h.ok, h.bare, fun hn => ?_⟩
  obtain ⟨b, off, hA, hc⟩ := h.at_ hn
  refine ⟨b, off, hA, fun j hj => ?_⟩
  simp only [Option.some.injEq, Addr.mk.injEq] at hA
  obtain ⟨rfl, rfl, _⟩ := hA
  rw [World.cell?_of_block (w := w) (a := ⟨g, 0 + j, none⟩) he]
  exact hc j hj

set_option maxHeartbeats 1000000 in
/-- a body, and where it lies -/
theorem body_fresh (f : Fr) (w : World) (hok : f.ok) (hne : bodyF f ≠ []) :
    Calls Try.prog 17 #[frV f] w fun e w' => ∃ g m c, e = .returned (.slice (some ⟨g, 0, none⟩) m c) ∧ w.heap.size < g ∧ Bts w' (some ⟨g, 0, none⟩) m c (bodyF f) ∧ Below w.heap.size w w' := by
  have hh := hasF f
  have hCs : (frA f).size = 40 := frA_size hok.len
  obtain ⟨hp, ht, hbf⟩ := body_facts hne
  obtain ⟨S, t, hS, hSt, hsc⟩ := shape_some f.kind
  have hpc := fun w => put_plain f w hok hp
  have htt : t = true := by rw [(hSt (plain_facts hp).1).2]; exact ht
  subst htt
  have hput : putF f = frontF f ++ f.tag := by rw [putF, ht]; simp
  have hl : (putF f).length = (frontF f).length + 32 := by rw [hput, List.length_append, hok.len]
  have hyes : bodyF f = (putF f).take ((putF f).length - 32) ∧ 32 ≤ (putF f).length := ⟨by rw [hbf, hl, hput]; simp, by omega⟩
  have hpl := putF_small f hok.len
  have hpk := putF_ok hok
  obtain ⟨s0, s1, s2, s3, s4, s5, s6, s7, hl8⟩ := list8 S hS
  rw [shV_lit hl8] at hsc
  rw [(plain_facts hp).1] at hsc
  unfold frV PutPost at hpc
  unfold frV
  obtain ⟨C, hC⟩ : ∃ C, C = frA f := ⟨_, rfl⟩
  rw [← hC] at hh hCs hpc ⊢
  have HSC := Lib.hid hsc
  have HPC := Lib.hid hpc
  have HCS := Lib.hid hCs
  have HCC := Lib.hid hC
  have HB := Lib.hid hyes
  have HPL := Lib.hid hpl
  have HPK := Lib.hid hpk
  obtain ⟨d0, _, _, _, _, _, _, _⟩ := hh
  clear hsc hpc hCs hC hyes hpl hl8 hS hSt hl hput hp ht hbf hne hpk
  go_enter Try.func17, Try.ntmps17
  go_wp2_with (first
    | ((with_reducible refine wpList_load_blk 26 _ rfl w.heap.size ?hx2 26 C (0, 0) _ (heap_alloc_new _ _) Try.underlying26 ?hd2 (info_frame HCS.out) ?_ ?hw2); (case hx2 => rfl); (case hd2 => rfl); (case hw2 => rfl))
    | (go_at_call 10; (with_reducible refine (HPC.out _).mono ?_); rintro e w2 ⟨v2, rfl, hown2, hb2⟩
       obtain ⟨g, cap, rfl, hgb, hgl, hgc, hgm⟩ := hown2.form (by have := HB.out.2; omega)
       have hv2 := hown2.btsAt rfl HPK.out
       have hgs : w.heap.size < g := Nat.lt_of_lt_of_le (by simp) hgb
       have hF2 : RowF w2 w.heap.size f := rowF_of (by rw [← HCC.out]; exact after_alloc hb2)
       have hk2 := hF2.kind
       have hB2 := (after_one hb2).1
       have hm2 : ((putF f).length : Int) ≤ 54 := by have := HPL.out; omega
       have hm3 : (32 : Int) ≤ (putF f).length := by have := HB.out.2; omega
       obtain ⟨m2, hme⟩ : ∃ m2, (putF f).length = m2 := ⟨_, rfl⟩
       rw [hme] at hv2 hm2 hm3 hown2 ⊢
       obtain ⟨hto, hbt⟩ := run_to hv2 ((m2 : Int) - 32) (hi := m2 - 32) (by omega) (by omega)
       have HBT := Lib.hid hbt
       have HME := Lib.hid hme
       clear hb2 hv2 hbt hF2 hown2 hme)
    | (go_at_call 19; (with_reducible refine (HSC.out _).mono ?_); rintro e w3 ⟨rfl, hb3⟩))
  go_ret
  exact ⟨g, m2 - 32, cap, rfl, hgs, by rw [HB.out.1, HME.out]; exact (HBT.out.below hb3).more _, (hB2.trans (hb3.mono hB2.size)).alloc (Nat.le_trans hB2.size hb3.size) _⟩

set_option maxRecDepth 100000 in
set_option maxHeartbeats 4000000 in
theorem fbody_none (f g : Fr) (w : World) (hf : f.ok) (hg : g.ok) (h : bodyF f = []) :
    Calls Try.prog 6 #[frV f, frV g] w fun e w' => e = .returned (.bool true) ∧ Below w.heap.size w w' := by
  obtain ⟨is, his⟩ : ∃ is, plainB f = is := ⟨_, rfl⟩
  have hpc := fun w => put_plain_b f w hf is his
  obtain ⟨X, hX⟩ : ∃ X, (if is then putF f else []) = X := ⟨_, rfl⟩
  rw [hX] at hpc
  have hac := fun w => body_any f w hf
  rw [h] at hac
  have hbc := fun w => body_any g w hg
  obtain ⟨M, hM⟩ : ∃ M, bodyF g = M := ⟨_, rfl⟩
  rw [hM] at hbc
  have hCs := frC_length hf.len
  have hDs := frC_length hg.len
  unfold frV at hpc hac hbc ⊢
  rw [frA_arr] at hpc hac hbc ⊢
  rw [frA_arr]
  obtain ⟨C, hC⟩ : ∃ C, frC f = C := ⟨_, rfl⟩
  obtain ⟨D, hD⟩ : ∃ D, frC g = D := ⟨_, rfl⟩
  rw [hC] at hpc hac hCs ⊢
  rw [hD] at hbc hDs ⊢
  have HP := Lib.hid hpc
  have HA := Lib.hid hac
  have HB := Lib.hid hbc
  have HCS := Lib.hid hCs
  have HDS := Lib.hid hDs
  have HCA : Hid (C.toArray.size = 40) := Lib.hid hCs
  have HDA : Hid (D.toArray.size = 40) := Lib.hid hDs
  clear hpc hac hbc hCs hDs hX hM h his
  go_enter Try.func6, Try.ntmps6
  go_wp2_with (first
    | (go_at_call 9; (with_reducible refine (fawake_any _).mono ?_); rintro e w1 ⟨rfl, hb1⟩
       obtain ⟨hB1, _, hX1, hZ1⟩ := after_two hb1)
    | ((with_reducible refine wpList_load_blk 26 _ rfl w.heap.size ?hx2 26 C.toArray (0, 0) _ hX1 Try.underlying26 ?hd2 (info_frame HCA.out) ?_ ?hw2); (case hx2 => rfl); (case hd2 => rfl); (case hw2 => rfl))
    | (go_at_call 10; (with_reducible refine (HP.out _).mono ?_); rintro e w2 ⟨A2, m2, c2, rfl, hv2, hb2⟩
       have hB2 := hB1.trans (hb2.mono hB1.size)
       have hX2 := (hb2.block _ (Array.getElem?_eq_some_iff.1 hX1).1).trans hX1
       have hZ2 := (hb2.block _ (Array.getElem?_eq_some_iff.1 hZ1).1).trans hZ1)
    | ((with_reducible refine wpList_load_blk 26 _ rfl w.heap.size ?hx3 26 C.toArray (0, 0) _ hX2 Try.underlying26 ?hd3 (info_frame HCA.out) ?_ ?hw3); (case hx3 => rfl); (case hd3 => rfl); (case hw3 => rfl))
    | (go_at_call 17; (with_reducible refine (HA.out _).mono ?_); rintro e w3 ⟨A3, m3, c3, rfl, hv3, hb3⟩
       have hB3 := hB2.trans (hb3.mono hB2.size)
       have hX3 := (hb3.block _ (Array.getElem?_eq_some_iff.1 hX2).1).trans hX2
       have hZ3 := (hb3.block _ (Array.getElem?_eq_some_iff.1 hZ2).1).trans hZ2
       have hv23 := hv2.below hb3)
    | ((with_reducible refine wpList_load_blk 26 _ rfl (w.heap.size + 1) ?hx4 26 D.toArray (0, 0) _ hZ3 Try.underlying26 ?hd4 (info_frame HDA.out) ?_ ?hw4); (case hx4 => rfl); (case hd4 => rfl); (case hw4 => rfl))
    | (go_at_call 17; (with_reducible refine (HB.out _).mono ?_); rintro e w4 ⟨A4, m4, c4, rfl, hv4, hb4⟩
       have hB4 := hB3.trans (hb4.mono hB3.size)
       have hX4 := (hb4.block _ (Array.getElem?_eq_some_iff.1 hX3).1).trans hX3
       have hZ4 := (hb4.block _ (Array.getElem?_eq_some_iff.1 hZ3).1).trans hZ3
       have hv24 := hv23.below hb4
       have hv34 := hv3.below hb4))
  obtain rfl : m3 = 0 := by rw [← hv3.len]; rfl
  have hS4 := Below.refl w4.heap.size w4
  refine wp_region_held_drew (S := (fun w' => Below w4.heap.size w4 w')) (by kernel_rfl) (Below.refl _ _).drew (fun hHeld => ?_)
  refine take_move 0 (.tmp 5) (.bool true) rfl rfl rfl (by kernel_rfl) (by kernel_rfl) (by kernel_rfl) (fun _ _ _ h => h) rfl hHeld ?_
  simp only [Act.put, List.setIfInBounds_toArray, List.set_cons_zero, List.set_cons_succ]
  refine take_run 1 (.bool false) rfl (by kernel_rfl) (by kernel_rfl) (by kernel_rfl) (fun _ _ _ h => h) rfl hHeld (fun w => ?_) ?_
  · go_simp
  simp only [Act.put, List.setIfInBounds_toArray, List.set_cons_zero, List.set_cons_succ]
  refine take_move 2 (.tmp 21) (.bool false) rfl rfl rfl (by kernel_rfl) (by kernel_rfl) (by kernel_rfl) (fun _ _ _ h => h) rfl hHeld ?_
  simp only [Act.put, List.setIfInBounds_toArray, List.set_cons_zero, List.set_cons_succ]
  refine take_move 3 (.tmp 8) (.slice A3 0 c3) rfl rfl rfl (by kernel_rfl) (by kernel_rfl) (by kernel_rfl) (fun _ _ _ h => h) rfl hHeld ?_
  simp only [Act.put, List.setIfInBounds_toArray, List.set_cons_zero, List.set_cons_succ]
  refine take_run 4 (.int .i64 0) rfl (by kernel_rfl) (by kernel_rfl) (by kernel_rfl) (fun _ _ _ h => h) rfl hHeld (fun w => ?_) ?_
  · go_simp
  simp only [Act.put, List.setIfInBounds_toArray, List.set_cons_zero, List.set_cons_succ]
  refine take_run 5 (.bool false) rfl (by kernel_rfl) (by kernel_rfl) (by kernel_rfl) (fun _ _ _ h => h) rfl hHeld (fun w => ?_) ?_
  · go_simp
  simp only [Act.put, List.setIfInBounds_toArray, List.set_cons_zero, List.set_cons_succ]
  refine take_move 6 (.tmp 25) (.bool false) rfl rfl rfl (by kernel_rfl) (by kernel_rfl) (by kernel_rfl) (fun _ _ _ h => h) rfl hHeld ?_
  simp only [Act.put, List.setIfInBounds_toArray, List.set_cons_zero, List.set_cons_succ]
  refine take_off 7 rfl (by kernel_rfl) (by kernel_rfl) (by kernel_rfl) (fun _ _ _ h => h) rfl hHeld ?_
  simp only [Act.put, List.setIfInBounds_toArray, List.set_cons_zero, List.set_cons_succ]
  refine take_off 8 rfl (by kernel_rfl) (by kernel_rfl) (by kernel_rfl) (fun _ _ _ h => h) rfl hHeld ?_
  simp only [Act.put, List.setIfInBounds_toArray, List.set_cons_zero, List.set_cons_succ]
  refine take_off 9 rfl (by kernel_rfl) (by kernel_rfl) (by kernel_rfl) (fun _ _ _ h => h) rfl hHeld ?_
  simp only [Act.put, List.setIfInBounds_toArray, List.set_cons_zero, List.set_cons_succ]
  refine take_off 10 rfl (by kernel_rfl) (by kernel_rfl) (by kernel_rfl) (fun _ _ _ h => h) rfl hHeld ?_
  simp only [Act.put, List.setIfInBounds_toArray, List.set_cons_zero, List.set_cons_succ]
  refine take_off 11 rfl (by kernel_rfl) (by kernel_rfl) (by kernel_rfl) (fun _ _ _ h => h) rfl hHeld ?_
  simp only [Act.put, List.setIfInBounds_toArray, List.set_cons_zero, List.set_cons_succ]
  refine take_off 12 rfl (by kernel_rfl) (by kernel_rfl) (by kernel_rfl) (fun _ _ _ h => h) rfl hHeld ?_
  simp only [Act.put, List.setIfInBounds_toArray, List.set_cons_zero, List.set_cons_succ]
  refine take_off 13 rfl (by kernel_rfl) (by kernel_rfl) (by kernel_rfl) (fun _ _ _ h => h) rfl hHeld ?_
  simp only [Act.put, List.setIfInBounds_toArray, List.set_cons_zero, List.set_cons_succ]
  refine take_off 14 rfl (by kernel_rfl) (by kernel_rfl) (by kernel_rfl) (fun _ _ _ h => h) rfl hHeld ?_
  simp only [Act.put, List.setIfInBounds_toArray, List.set_cons_zero, List.set_cons_succ]
  refine take_off 15 rfl (by kernel_rfl) (by kernel_rfl) (by kernel_rfl) (fun _ _ _ h => h) rfl hHeld ?_
  simp only [Act.put, List.setIfInBounds_toArray, List.set_cons_zero, List.set_cons_succ]
  refine take_off 16 rfl (by kernel_rfl) (by kernel_rfl) (by kernel_rfl) (fun _ _ _ h => h) rfl hHeld ?_
  simp only [Act.put, List.setIfInBounds_toArray, List.set_cons_zero, List.set_cons_succ]
  refine take_off 17 rfl (by kernel_rfl) (by kernel_rfl) (by kernel_rfl) (fun _ _ _ h => h) rfl hHeld ?_
  simp only [Act.put, List.setIfInBounds_toArray, List.set_cons_zero, List.set_cons_succ]
  refine take_off 18 rfl (by kernel_rfl) (by kernel_rfl) (by kernel_rfl) (fun _ _ _ h => h) rfl hHeld ?_
  simp only [Act.put, List.setIfInBounds_toArray, List.set_cons_zero, List.set_cons_succ]
  refine take_off 19 rfl (by kernel_rfl) (by kernel_rfl) (by kernel_rfl) (fun _ _ _ h => h) rfl hHeld ?_
  simp only [Act.put, List.setIfInBounds_toArray, List.set_cons_zero, List.set_cons_succ]
  refine take_run 20 (.bool false) rfl (by kernel_rfl) (by kernel_rfl) (by kernel_rfl) (fun _ _ _ h => h) rfl hHeld (fun w => ?_) ?_
  · go_simp
  simp only [Act.put, List.setIfInBounds_toArray, List.set_cons_zero, List.set_cons_succ]
  refine take_run 21 (.bool false) rfl (by kernel_rfl) (by kernel_rfl) (by kernel_rfl) (fun _ _ _ h => h) rfl hHeld (fun w => ?_) ?_
  · go_simp
  simp only [Act.put, List.setIfInBounds_toArray, List.set_cons_zero, List.set_cons_succ]
  refine wpAnyH_done (by kernel_rfl) ?_ _
  go_wp2
  go_ret
  exact ⟨rfl, hB4.drew⟩

set_option maxRecDepth 100000 in
set_option maxHeartbeats 4000000 in
theorem fbody_one (f g : Fr) (w : World) (hf : f.ok) (hg : g.ok) (h : bodyF f ≠ []) (h2 : bodyF g = []) :
    Calls Try.prog 6 #[frV f, frV g] w fun e w' => e = .returned (.bool true) ∧ Below w.heap.size w w' := by
  obtain ⟨hp, ht, _⟩ := body_facts h
  have hput := (body_put h).2
  have hpc := fun w => put_plain_b f w hf true hp
  rw [if_pos rfl] at hpc
  have hac := fun w => body_fresh f w hf h
  have hpos : 0 < (bodyF f).length := by
    cases hb : bodyF f with
    | nil => exact absurd hb h
    | cons a l => simp
  have hokf := bodyF_ok f
  have hokt : ∀ j, 0 ≤ f.tag.getD j 0 ∧ f.tag.getD j 0 < 256 := hf.bytes
  have hsml : (bodyF f).length ≤ 54 := by
    have h1 := putF_small f hf.len
    rw [hput, List.length_append] at h1
    omega
  have hrow : ∀ w' : World, w'.heap[w.heap.size]? = some (.cells (frC f).toArray 26 (0, 0)) → Bts w' (some ⟨w.heap.size, 8, none⟩) 32 32 f.tag := fun w' hh => (rowF_of hh).bts hf
  rw [hput] at hpc
  have hbc := fun w => body_any g w hg
  rw [h2] at hbc
  obtain ⟨L, hL⟩ : ∃ L, bodyF f = L := ⟨_, rfl⟩
  obtain ⟨T, hT⟩ : ∃ T, f.tag = T := ⟨_, rfl⟩
  rw [hL] at hpc hac hpos hsml
  rw [hT] at hpc hrow
  have hTl : T.length = 32 := by rw [← hT]; exact hf.len
  have hCs := frC_length hf.len
  have hDs := frC_length hg.len
  unfold frV at hpc hac hbc ⊢
  rw [frA_arr] at hpc hac hbc ⊢
  rw [frA_arr]
  obtain ⟨C, hC⟩ : ∃ C, frC f = C := ⟨_, rfl⟩
  obtain ⟨D, hD⟩ : ∃ D, frC g = D := ⟨_, rfl⟩
  rw [hC] at hpc hac hCs hrow ⊢
  rw [hD] at hbc hDs ⊢
  have HP := Lib.hid hpc
  have HA := Lib.hid hac
  have HB := Lib.hid hbc
  have HCS := Lib.hid hCs
  have HDS := Lib.hid hDs
  have HCA : Hid (C.toArray.size = 40) := Lib.hid hCs
  have HDA : Hid (D.toArray.size = 40) := Lib.hid hDs
  have HPOS := Lib.hid hpos
  have HLS := Lib.hid hsml
  have HTL := Lib.hid hTl
  have HROW := Lib.hid hrow
  clear hpc hac hbc hCs hDs hL hT h h2 hpos hsml hTl hrow hokf hokt hput hp ht
  go_enter Try.func6, Try.ntmps6
  go_wp2_with (first
    | (go_at_call 9; (with_reducible refine (fawake_any _).mono ?_); rintro e w1 ⟨rfl, hb1⟩
       obtain ⟨hB1, _, hX1, hZ1⟩ := after_two hb1)
    | ((with_reducible refine wpList_load_blk 26 _ rfl w.heap.size ?hx2 26 C.toArray (0, 0) _ hX1 Try.underlying26 ?hd2 (info_frame HCA.out) ?_ ?hw2); (case hx2 => rfl); (case hd2 => rfl); (case hw2 => rfl))
    | (go_at_call 10; (with_reducible refine (HP.out _).mono ?_); rintro e w2 ⟨A2, m2, c2, rfl, hv2, hb2⟩
       have hB2 := hB1.trans (hb2.mono hB1.size)
       have hX2 := (hb2.block _ (Array.getElem?_eq_some_iff.1 hX1).1).trans hX1
       have hZ2 := (hb2.block _ (Array.getElem?_eq_some_iff.1 hZ1).1).trans hZ1)
    | ((with_reducible refine wpList_load_blk 26 _ rfl w.heap.size ?hx3 26 C.toArray (0, 0) _ hX2 Try.underlying26 ?hd3 (info_frame HCA.out) ?_ ?hw3); (case hx3 => rfl); (case hd3 => rfl); (case hw3 => rfl))
    | (go_at_call 17; (with_reducible refine (HA.out _).mono ?_); rintro e w3 ⟨g3, m3, c3, rfl, hg3, hv3, hb3⟩
       have hB3 := hB2.trans (hb3.mono hB2.size)
       have hX3 := (hb3.block _ (Array.getElem?_eq_some_iff.1 hX2).1).trans hX2
       have hZ3 := (hb3.block _ (Array.getElem?_eq_some_iff.1 hZ2).1).trans hZ2
       have hv23 := hv2.below hb3)
    | ((with_reducible refine wpList_load_blk 26 _ rfl (w.heap.size + 1) ?hx4 26 D.toArray (0, 0) _ hZ3 Try.underlying26 ?hd4 (info_frame HDA.out) ?_ ?hw4); (case hx4 => rfl); (case hd4 => rfl); (case hw4 => rfl))
    | (go_at_call 17; (with_reducible refine (HB.out _).mono ?_); rintro e w4 ⟨A4, m4, c4, rfl, hv4, hb4⟩
       have hB4 := hB3.trans (hb4.mono hB3.size)
       have hX4 := (hb4.block _ (Array.getElem?_eq_some_iff.1 hX3).1).trans hX3
       have hZ4 := (hb4.block _ (Array.getElem?_eq_some_iff.1 hZ3).1).trans hZ3
       have hv24 := hv23.below hb4
       have hv34 := hv3.below hb4))
  obtain rfl : m4 = 0 := by rw [← hv4.len]; rfl
  have hpos3 : (0 : Int) < m3 := by have := hv3.len; have := HPOS.out; omega
  have hpos3n : 0 < m3 := by omega
  have hb5 : ∀ w', Below w4.heap.size w4 w' → w'.heap[w.heap.size]? = some (.cells C.toArray 26 (0, 0)) := fun w' h => (h.block _ (Array.getElem?_eq_some_iff.1 hX4).1).trans hX4
  have HX4 := Lib.hid hX4
  have HZ4 := Lib.hid hZ4
  have HV2 := Lib.hid hv24
  have HV3 := Lib.hid hv34
  have HV4 := Lib.hid hv4
  clear hX1 hX2 hX3 hX4 hZ1 hZ2 hZ3 hZ4 hv2 hv23 hv24 hv3 hv34 hv4
  refine wp_region_held_drew (S := (fun w' => Below w4.heap.size w4 w')) (by kernel_rfl) (Below.refl _ _).drew (fun hHeld => ?_)
  refine take_move 0 (.tmp 5) (.bool true) rfl rfl rfl (by kernel_rfl) (by kernel_rfl) (by kernel_rfl) (fun _ _ _ h => h) rfl hHeld ?_
  simp only [Act.put, List.setIfInBounds_toArray, List.set_cons_zero, List.set_cons_succ]
  refine take_run 1 (.bool false) rfl (by kernel_rfl) (by kernel_rfl) (by kernel_rfl) (fun _ _ _ h => h) rfl hHeld (fun w => ?_) ?_
  · go_simp
  simp only [Act.put, List.setIfInBounds_toArray, List.set_cons_zero, List.set_cons_succ]
  refine take_move 2 (.tmp 21) (.bool false) rfl rfl rfl (by kernel_rfl) (by kernel_rfl) (by kernel_rfl) (fun _ _ _ h => h) rfl hHeld ?_
  simp only [Act.put, List.setIfInBounds_toArray, List.set_cons_zero, List.set_cons_succ]
  refine take_move 3 (.tmp 8) (.slice (some ⟨g3, 0, none⟩) m3 c3) rfl rfl rfl (by kernel_rfl) (by kernel_rfl) (by kernel_rfl) (fun _ _ _ h => h) rfl hHeld ?_
  simp only [Act.put, List.setIfInBounds_toArray, List.set_cons_zero, List.set_cons_succ]
  refine take_run 4 (.int .i64 m3) rfl (by kernel_rfl) (by kernel_rfl) (by kernel_rfl) (fun _ _ _ h => h) rfl hHeld (fun w => ?_) ?_
  · go_simp
  simp only [Act.put, List.setIfInBounds_toArray, List.set_cons_zero, List.set_cons_succ]
  refine take_run 5 (.bool true) rfl (by kernel_rfl) (by kernel_rfl) (by kernel_rfl) (fun _ _ _ h => h) rfl hHeld (fun w => ?_) ?_
  · go_simp
  simp only [Act.put, List.setIfInBounds_toArray, List.set_cons_zero, List.set_cons_succ]
  refine take_move 6 (.tmp 25) (.bool true) rfl rfl rfl (by kernel_rfl) (by kernel_rfl) (by kernel_rfl) (fun _ _ _ h => h) rfl hHeld ?_
  simp only [Act.put, List.setIfInBounds_toArray, List.set_cons_zero, List.set_cons_succ]
  refine take_move 7 (.tmp 7) (.bool true) rfl rfl rfl (by kernel_rfl) (by kernel_rfl) (by kernel_rfl) (fun _ _ _ h => h) rfl hHeld ?_
  simp only [Act.put, List.setIfInBounds_toArray, List.set_cons_zero, List.set_cons_succ]
  refine take_run 8 (.bool false) rfl (by kernel_rfl) (by kernel_rfl) (by kernel_rfl) (fun _ _ _ h => h) rfl hHeld (fun w => ?_) ?_
  · go_simp
  simp only [Act.put, List.setIfInBounds_toArray, List.set_cons_zero, List.set_cons_succ]
  refine take_move 9 (.tmp 28) (.bool false) rfl rfl rfl (by kernel_rfl) (by kernel_rfl) (by kernel_rfl) (fun _ _ _ h => h) rfl hHeld ?_
  simp only [Act.put, List.setIfInBounds_toArray, List.set_cons_zero, List.set_cons_succ]
  refine take_move 10 (.tmp 6) (.slice A2 m2 c2) rfl rfl rfl (by kernel_rfl) (by kernel_rfl) (by kernel_rfl) (fun _ _ _ h => h) rfl hHeld ?_
  simp only [Act.put, List.setIfInBounds_toArray, List.set_cons_zero, List.set_cons_succ]
  refine take_if 11 (.string (bstr (L ++ T))) rfl (by kernel_rfl) (by kernel_rfl) (by kernel_rfl) (fun _ _ _ h => h) rfl hHeld (fun w' hw' => ?_) ?_
  · have hc := conv_bts (HV2.out.below hw')
    go_simp
  simp only [Act.put, List.setIfInBounds_toArray, List.set_cons_zero, List.set_cons_succ]
  refine take_move 12 (.tmp 8) (.slice (some ⟨g3, 0, none⟩) m3 c3) rfl rfl rfl (by kernel_rfl) (by kernel_rfl) (by kernel_rfl) (fun _ _ _ h => h) rfl hHeld ?_
  simp only [Act.put, List.setIfInBounds_toArray, List.set_cons_zero, List.set_cons_succ]
  refine take_if 13 (.string (bstr L)) rfl (by kernel_rfl) (by kernel_rfl) (by kernel_rfl) (fun _ _ _ h => h) rfl hHeld (fun w' hw' => ?_) ?_
  · have hc := conv_bts (HV3.out.below hw')
    go_simp
  simp only [Act.put, List.setIfInBounds_toArray, List.set_cons_zero, List.set_cons_succ]
  refine take_run 14 (.pointer (some ⟨w.heap.size, 8, none⟩)) rfl (by kernel_rfl) (by kernel_rfl) (by kernel_rfl) (fun _ _ _ h => h) rfl hHeld (fun w => ?_) ?_
  · go_simp
  simp only [Act.put, List.setIfInBounds_toArray, List.set_cons_zero, List.set_cons_succ]
  refine take_run 15 (.slice (some ⟨w.heap.size, 8, none⟩) 32 32) rfl (by kernel_rfl) (by kernel_rfl) (by kernel_rfl) (fun _ _ _ h => h) rfl hHeld (fun w => ?_) ?_
  · go_simp
  simp only [Act.put, List.setIfInBounds_toArray, List.set_cons_zero, List.set_cons_succ]
  refine take_if 16 (.string (bstr T)) rfl (by kernel_rfl) (by kernel_rfl) (by kernel_rfl) (fun _ _ _ h => h) rfl hHeld (fun w' hw' => ?_) ?_
  · have hc := conv_bts (HROW.out _ (hb5 _ hw'))
    go_simp
  simp only [Act.put, List.setIfInBounds_toArray, List.set_cons_zero, List.set_cons_succ]
  refine take_run 17 (.string (bstr (L ++ T))) rfl (by kernel_rfl) (by kernel_rfl) (by kernel_rfl) (fun _ _ _ h => h) rfl hHeld (fun w => ?_) ?_
  · have hc := add_bstr L T (by have := HLS.out; omega) (by have := HTL.out; omega) w
    go_simp
  simp only [Act.put, List.setIfInBounds_toArray, List.set_cons_zero, List.set_cons_succ]
  refine take_run 18 (.bool false) rfl (by kernel_rfl) (by kernel_rfl) (by kernel_rfl) (fun _ _ _ h => h) rfl hHeld (fun w => ?_) ?_
  · go_simp
  simp only [Act.put, List.setIfInBounds_toArray, List.set_cons_zero, List.set_cons_succ]
  refine take_run 19 (.bool false) rfl (by kernel_rfl) (by kernel_rfl) (by kernel_rfl) (fun _ _ _ h => h) rfl hHeld (fun w => ?_) ?_
  · go_simp
  simp only [Act.put, List.setIfInBounds_toArray, List.set_cons_zero, List.set_cons_succ]
  refine take_run 20 (.bool false) rfl (by kernel_rfl) (by kernel_rfl) (by kernel_rfl) (fun _ _ _ h => h) rfl hHeld (fun w => ?_) ?_
  · go_simp
  simp only [Act.put, List.setIfInBounds_toArray, List.set_cons_zero, List.set_cons_succ]
  refine take_run 21 (.bool false) rfl (by kernel_rfl) (by kernel_rfl) (by kernel_rfl) (fun _ _ _ h => h) rfl hHeld (fun w => ?_) ?_
  · go_simp
  simp only [Act.put, List.setIfInBounds_toArray, List.set_cons_zero, List.set_cons_succ]
  refine wpAnyH_done (by kernel_rfl) ?_ _
  go_wp2
  go_ret
  exact ⟨rfl, hB4.drew⟩
theorem frC_split (f : Fr) : frC f = (frC f).take 8 ++ byv f.tag := rfl
theorem frC_tagged {f g : Fr} (hf : f.tag.length = 32) (hg : g.tag.length = 32) : (frC f).take 8 ++ byv g.tag ++ (frC f).drop (8 + (byv g.tag).length) = frC (tagged f g) := by
  have h1 : (frC f).drop (8 + (byv g.tag).length) = [] := List.drop_eq_nil_of_le (by rw [frC_length hf, byv_length, hg]; omega)
  rw [h1, List.append_nil]
  rfl
theorem there_mid {w : World} {k : Nat} {t : TypeId} {C : Array Value} {n : Nat} (h : w.heap[k]? = some (.cells C t (0, 0))) (hC : C.size = 40) (hn : n = 32) : w.there k 8 n := by
  subst hn
  intro j hj
  have := there_of h hC (8 + j) (by omega)
  rwa [Nat.zero_add] at this
set_option maxRecDepth 100000 in
set_option maxHeartbeats 4000000 in
theorem fbody_two (f g : Fr) (w : World) (hf : f.ok) (hg : g.ok) (h : bodyF f ≠ []) (h2 : bodyF g ≠ []) :
    Calls Try.prog 6 #[frV f, frV g] w fun e w' => e = .returned (.bool true) ∧ Below w.heap.size w w' := by
  obtain ⟨hp, ht, _⟩ := body_facts h
  have hput := (body_put h).2
  have hpc := fun w => put_plain_b f w hf true hp
  rw [if_pos rfl] at hpc
  have hac := fun w => body_fresh f w hf h
  have hpos : 0 < (bodyF f).length := by
    cases hb : bodyF f with
    | nil => exact absurd hb h
    | cons a l => simp
  have hokf := bodyF_ok f
  have hokt : ∀ j, 0 ≤ f.tag.getD j 0 ∧ f.tag.getD j 0 < 256 := hf.bytes
  have hsml : (bodyF f).length ≤ 54 := by
    have h1 := putF_small f hf.len
    rw [hput, List.length_append] at h1
    omega
  have hrow : ∀ w' : World, w'.heap[w.heap.size]? = some (.cells (frC f).toArray 26 (0, 0)) → Bts w' (some ⟨w.heap.size, 8, none⟩) 32 32 f.tag := fun w' hh => (rowF_of hh).bts hf
  rw [hput] at hpc
  have hbc := fun w => body_fresh g w hg h2
  have hEq := body_same hf hg h h2
  have hfe := fun w => eq_frames (tagged f g) g (tagged_ok hf hg).len hg.len w
  have hokg := bodyF_ok g
  have hpos2 : 0 < (bodyF g).length := by
    cases hb : bodyF g with
    | nil => exact absurd hb h2
    | cons a l => simp
  have hzr : ∀ w' : World, w'.heap[w.heap.size + 1]? = some (.cells (frC g).toArray 26 (0, 0)) → w'.rangeAt (w.heap.size + 1) 8 (byv g.tag) := fun w' hh => (rowF_of hh).range
  have hset : ∀ w' : World, w'.heap[w.heap.size]? = some (.cells (frC f).toArray 26 (0, 0)) → (w'.setCells w.heap.size 8 (byv g.tag)).heap[w.heap.size]? = some (.cells (frC (tagged f g)).toArray 26 (0, 0)) := fun w' hh => by
    rw [setCells_heap w.heap.size 26 (byv g.tag) 8 w' (frC f) hh (by rw [frC_length hf.len, byv_length, hg.len]; omega), frC_tagged hf.len hg.len]
  have hul : (byv g.tag).length = 32 := by rw [byv_length, hg.len]
  have hu1 : (byv g.tag).toArray.all (·.oneCell') = true := all_oneCell_toArray (fun v hv => by
    obtain ⟨x, _, rfl⟩ := List.mem_map.1 hv
    rfl)
  have hC2s := frC_length (f := tagged f g) hg.len
  rw [frA_arr, frA_arr] at hfe
  obtain ⟨C2, hC2⟩ : ∃ C2, frC (tagged f g) = C2 := ⟨_, rfl⟩
  rw [hC2] at hset hfe hC2s
  obtain ⟨U, hU⟩ : ∃ U, byv g.tag = U := ⟨_, rfl⟩
  rw [hU] at hzr hset hul hu1
  obtain ⟨V, hV⟩ : ∃ V, U.toArray = V := ⟨_, rfl⟩
  have hVl : V.toList = U := by rw [← hV]
  have hVs : V.size = 32 := by rw [← hV]; exact hul
  rw [hV] at hu1
  obtain ⟨E, hE⟩ : ∃ E, eqFr (tagged f g) g = E := ⟨_, rfl⟩
  rw [hE] at hEq hfe
  obtain ⟨M, hM⟩ : ∃ M, bodyF g = M := ⟨_, rfl⟩
  rw [hM] at hbc hEq hokg hpos2
  obtain ⟨L, hL⟩ : ∃ L, bodyF f = L := ⟨_, rfl⟩
  obtain ⟨T, hT⟩ : ∃ T, f.tag = T := ⟨_, rfl⟩
  rw [hL] at hpc hac hpos hsml hEq hokf
  rw [hT] at hpc hrow
  have hTl : T.length = 32 := by rw [← hT]; exact hf.len
  have hCs := frC_length hf.len
  have hDs := frC_length hg.len
  unfold frV at hpc hac hbc ⊢
  rw [frA_arr] at hpc hac hbc ⊢
  rw [frA_arr]
  obtain ⟨C, hC⟩ : ∃ C, frC f = C := ⟨_, rfl⟩
  obtain ⟨D, hD⟩ : ∃ D, frC g = D := ⟨_, rfl⟩
  rw [hC] at hpc hac hCs hrow hset ⊢
  rw [hD] at hbc hDs hzr hfe ⊢
  have HP := Lib.hid hpc
  have HA := Lib.hid hac
  have HB := Lib.hid hbc
  have HCS := Lib.hid hCs
  have HDS := Lib.hid hDs
  have HCA : Hid (C.toArray.size = 40) := Lib.hid hCs
  have HDA : Hid (D.toArray.size = 40) := Lib.hid hDs
  have HPOS := Lib.hid hpos
  have HPOS2 := Lib.hid hpos2
  have HLS := Lib.hid hsml
  have HTL := Lib.hid hTl
  have HROW := Lib.hid hrow
  have HEQ := Lib.hid hEq
  have HFE := Lib.hid hfe
  have HOKF := Lib.hid hokf
  have HOKG := Lib.hid hokg
  have HZR := Lib.hid hzr
  have HSET := Lib.hid hset
  have HUL := Lib.hid hul
  have HU1 := Lib.hid hu1
  have HV := Lib.hid hV
  have HVL := Lib.hid hVl
  have HVS := Lib.hid hVs
  have HC2S := Lib.hid hC2s
  have hui : (Try.prog.info? 24).map (·.size) = some U.length := by rw [hul]; kernel_rfl
  have hvi : (Try.prog.info? 24).map (·.size) = some V.size := by rw [hVs]; kernel_rfl
  have HUI := Lib.hid hui
  have HVI := Lib.hid hvi
  clear hpc hac hbc hCs hDs hL hT h h2 hpos hsml hTl hrow hokf hokt hput hp ht hEq hfe hokg hpos2 hzr hset hul hu1 hC2s hC2 hU hV hVl hVs hE hM hC hD hui hvi
  go_enter Try.func6, Try.ntmps6
  go_wp2_with (first
    | (go_at_call 9; (with_reducible refine (fawake_any _).mono ?_); rintro e w1 ⟨rfl, hb1⟩
       obtain ⟨hB1, _, hX1, hZ1⟩ := after_two hb1)
    | ((with_reducible refine wpList_load_blk 26 _ rfl w.heap.size ?hx2 26 C.toArray (0, 0) _ hX1 Try.underlying26 ?hd2 (info_frame HCA.out) ?_ ?hw2); (case hx2 => rfl); (case hd2 => rfl); (case hw2 => rfl))
    | (go_at_call 10; (with_reducible refine (HP.out _).mono ?_); rintro e w2 ⟨A2, m2, c2, rfl, hv2, hb2⟩
       have hB2 := hB1.trans (hb2.mono hB1.size)
       have hX2 := (hb2.block _ (Array.getElem?_eq_some_iff.1 hX1).1).trans hX1
       have hZ2 := (hb2.block _ (Array.getElem?_eq_some_iff.1 hZ1).1).trans hZ1)
    | ((with_reducible refine wpList_load_blk 26 _ rfl w.heap.size ?hx3 26 C.toArray (0, 0) _ hX2 Try.underlying26 ?hd3 (info_frame HCA.out) ?_ ?hw3); (case hx3 => rfl); (case hd3 => rfl); (case hw3 => rfl))
    | (go_at_call 17; (with_reducible refine (HA.out _).mono ?_); rintro e w3 ⟨g3, m3, c3, rfl, hg3, hv3, hb3⟩
       have hB3 := hB2.trans (hb3.mono hB2.size)
       have hX3 := (hb3.block _ (Array.getElem?_eq_some_iff.1 hX2).1).trans hX2
       have hZ3 := (hb3.block _ (Array.getElem?_eq_some_iff.1 hZ2).1).trans hZ2
       have hv23 := hv2.below hb3)
    | ((with_reducible refine wpList_load_blk 26 _ rfl (w.heap.size + 1) ?hx4 26 D.toArray (0, 0) _ hZ3 Try.underlying26 ?hd4 (info_frame HDA.out) ?_ ?hw4); (case hx4 => rfl); (case hd4 => rfl); (case hw4 => rfl))
    | (go_at_call 17; (with_reducible refine (HB.out _).mono ?_); rintro e w4 ⟨g4, m4, c4, rfl, hg4, hv4, hb4⟩
       have hB4 := hB3.trans (hb4.mono hB3.size)
       have hX4 := (hb4.block _ (Array.getElem?_eq_some_iff.1 hX3).1).trans hX3
       have hZ4 := (hb4.block _ (Array.getElem?_eq_some_iff.1 hZ3).1).trans hZ3
       have hv24 := hv23.below hb4
       have hv34 := hv3.below hb4))
  have hpos3 : (0 : Int) < m3 := by have := hv3.len; have := HPOS.out; omega
  have hpos3n : 0 < m3 := by omega
  have hb5 : ∀ w', Below w4.heap.size w4 w' → w'.heap[w.heap.size]? = some (.cells C.toArray 26 (0, 0)) := fun w' h => (h.block _ (Array.getElem?_eq_some_iff.1 hX4).1).trans hX4
  have HX4 := Lib.hid hX4
  have HZ4 := Lib.hid hZ4
  have HV2 := Lib.hid hv24
  have HV3 := Lib.hid hv34
  have HV4 := Lib.hid hv4
  clear hX1 hX2 hX3 hX4 hZ1 hZ2 hZ3 hZ4 hv2 hv23 hv24 hv3 hv34 hv4
  refine wp_region_held_drew (S := (fun w' => Below w4.heap.size w4 w')) (by kernel_rfl) (Below.refl _ _).drew (fun hHeld => ?_)
  refine take_move 0 (.tmp 5) (.bool true) rfl rfl rfl (by kernel_rfl) (by kernel_rfl) (by kernel_rfl) (fun _ _ _ h => h) rfl hHeld ?_
  simp only [Act.put, List.setIfInBounds_toArray, List.set_cons_zero, List.set_cons_succ]
  refine take_run 1 (.bool false) rfl (by kernel_rfl) (by kernel_rfl) (by kernel_rfl) (fun _ _ _ h => h) rfl hHeld (fun w => ?_) ?_
  · go_simp
  simp only [Act.put, List.setIfInBounds_toArray, List.set_cons_zero, List.set_cons_succ]
  refine take_move 2 (.tmp 21) (.bool false) rfl rfl rfl (by kernel_rfl) (by kernel_rfl) (by kernel_rfl) (fun _ _ _ h => h) rfl hHeld ?_
  simp only [Act.put, List.setIfInBounds_toArray, List.set_cons_zero, List.set_cons_succ]
  refine take_move 3 (.tmp 8) (.slice (some ⟨g3, 0, none⟩) m3 c3) rfl rfl rfl (by kernel_rfl) (by kernel_rfl) (by kernel_rfl) (fun _ _ _ h => h) rfl hHeld ?_
  simp only [Act.put, List.setIfInBounds_toArray, List.set_cons_zero, List.set_cons_succ]
  refine take_run 4 (.int .i64 m3) rfl (by kernel_rfl) (by kernel_rfl) (by kernel_rfl) (fun _ _ _ h => h) rfl hHeld (fun w => ?_) ?_
  · go_simp
  simp only [Act.put, List.setIfInBounds_toArray, List.set_cons_zero, List.set_cons_succ]
  refine take_run 5 (.bool true) rfl (by kernel_rfl) (by kernel_rfl) (by kernel_rfl) (fun _ _ _ h => h) rfl hHeld (fun w => ?_) ?_
  · go_simp
  simp only [Act.put, List.setIfInBounds_toArray, List.set_cons_zero, List.set_cons_succ]
  refine take_move 6 (.tmp 25) (.bool true) rfl rfl rfl (by kernel_rfl) (by kernel_rfl) (by kernel_rfl) (fun _ _ _ h => h) rfl hHeld ?_
  simp only [Act.put, List.setIfInBounds_toArray, List.set_cons_zero, List.set_cons_succ]
  refine take_move 7 (.tmp 7) (.bool true) rfl rfl rfl (by kernel_rfl) (by kernel_rfl) (by kernel_rfl) (fun _ _ _ h => h) rfl hHeld ?_
  simp only [Act.put, List.setIfInBounds_toArray, List.set_cons_zero, List.set_cons_succ]
  refine take_run 8 (.bool false) rfl (by kernel_rfl) (by kernel_rfl) (by kernel_rfl) (fun _ _ _ h => h) rfl hHeld (fun w => ?_) ?_
  · go_simp
  simp only [Act.put, List.setIfInBounds_toArray, List.set_cons_zero, List.set_cons_succ]
  refine take_move 9 (.tmp 28) (.bool false) rfl rfl rfl (by kernel_rfl) (by kernel_rfl) (by kernel_rfl) (fun _ _ _ h => h) rfl hHeld ?_
  simp only [Act.put, List.setIfInBounds_toArray, List.set_cons_zero, List.set_cons_succ]
  refine take_move 10 (.tmp 6) (.slice A2 m2 c2) rfl rfl rfl (by kernel_rfl) (by kernel_rfl) (by kernel_rfl) (fun _ _ _ h => h) rfl hHeld ?_
  simp only [Act.put, List.setIfInBounds_toArray, List.set_cons_zero, List.set_cons_succ]
  refine take_if 11 (.string (bstr (L ++ T))) rfl (by kernel_rfl) (by kernel_rfl) (by kernel_rfl) (fun _ _ _ h => h) rfl hHeld (fun w' hw' => ?_) ?_
  · have hc := conv_bts (HV2.out.below hw')
    go_simp
  simp only [Act.put, List.setIfInBounds_toArray, List.set_cons_zero, List.set_cons_succ]
  refine take_move 12 (.tmp 8) (.slice (some ⟨g3, 0, none⟩) m3 c3) rfl rfl rfl (by kernel_rfl) (by kernel_rfl) (by kernel_rfl) (fun _ _ _ h => h) rfl hHeld ?_
  simp only [Act.put, List.setIfInBounds_toArray, List.set_cons_zero, List.set_cons_succ]
  refine take_if 13 (.string (bstr L)) rfl (by kernel_rfl) (by kernel_rfl) (by kernel_rfl) (fun _ _ _ h => h) rfl hHeld (fun w' hw' => ?_) ?_
  · have hc := conv_bts (HV3.out.below hw')
    go_simp
  simp only [Act.put, List.setIfInBounds_toArray, List.set_cons_zero, List.set_cons_succ]
  refine take_run 14 (.pointer (some ⟨w.heap.size, 8, none⟩)) rfl (by kernel_rfl) (by kernel_rfl) (by kernel_rfl) (fun _ _ _ h => h) rfl hHeld (fun w => ?_) ?_
  · go_simp
  simp only [Act.put, List.setIfInBounds_toArray, List.set_cons_zero, List.set_cons_succ]
  refine take_run 15 (.slice (some ⟨w.heap.size, 8, none⟩) 32 32) rfl (by kernel_rfl) (by kernel_rfl) (by kernel_rfl) (fun _ _ _ h => h) rfl hHeld (fun w => ?_) ?_
  · go_simp
  simp only [Act.put, List.setIfInBounds_toArray, List.set_cons_zero, List.set_cons_succ]
  refine take_if 16 (.string (bstr T)) rfl (by kernel_rfl) (by kernel_rfl) (by kernel_rfl) (fun _ _ _ h => h) rfl hHeld (fun w' hw' => ?_) ?_
  · have hc := conv_bts (HROW.out _ (hb5 _ hw'))
    go_simp
  simp only [Act.put, List.setIfInBounds_toArray, List.set_cons_zero, List.set_cons_succ]
  refine take_run 17 (.string (bstr (L ++ T))) rfl (by kernel_rfl) (by kernel_rfl) (by kernel_rfl) (fun _ _ _ h => h) rfl hHeld (fun w => ?_) ?_
  · have hc := add_bstr L T (by have := HLS.out; omega) (by have := HTL.out; omega) w
    go_simp
  simp only [Act.put, List.setIfInBounds_toArray, List.set_cons_zero, List.set_cons_succ]
  refine take_run 18 (.bool false) rfl (by kernel_rfl) (by kernel_rfl) (by kernel_rfl) (fun _ _ _ h => h) rfl hHeld (fun w => ?_) ?_
  · go_simp
  simp only [Act.put, List.setIfInBounds_toArray, List.set_cons_zero, List.set_cons_succ]
  refine take_run 19 (.bool false) rfl (by kernel_rfl) (by kernel_rfl) (by kernel_rfl) (fun _ _ _ h => h) rfl hHeld (fun w => ?_) ?_
  · go_simp
  simp only [Act.put, List.setIfInBounds_toArray, List.set_cons_zero, List.set_cons_succ]
  refine take_run 20 (.bool false) rfl (by kernel_rfl) (by kernel_rfl) (by kernel_rfl) (fun _ _ _ h => h) rfl hHeld (fun w => ?_) ?_
  · go_simp
  simp only [Act.put, List.setIfInBounds_toArray, List.set_cons_zero, List.set_cons_succ]
  refine take_run 21 (.bool false) rfl (by kernel_rfl) (by kernel_rfl) (by kernel_rfl) (fun _ _ _ h => h) rfl hHeld (fun w => ?_) ?_
  · go_simp
  simp only [Act.put, List.setIfInBounds_toArray, List.set_cons_zero, List.set_cons_succ]
  refine wpAnyH_done (by kernel_rfl) ?_ _
  have hpos4 : (0 : Int) < m4 := by have := HV4.out.len; have := HPOS2.out; omega
  have hpos4n : 0 < m4 := by omega
  have hz3 : ((m3 : Int) == 0) = false := by rw [beq_eq_false_iff_ne]; omega
  have hz4 : ((m4 : Int) == 0) = false := by rw [beq_eq_false_iff_ne]; omega
  have hX5 : w4.drew.heap[w.heap.size]? = some (.cells C.toArray 26 (0, 0)) := HX4.out
  have hZ5 : w4.drew.heap[w.heap.size + 1]? = some (.cells D.toArray 26 (0, 0)) := HZ4.out
  have hL5 := HV3.out.draw1
  have hM5 := HV4.out.draw1
  have hB5 := hB4.drew
  have hn3 : g3 ≠ w.heap.size := by have := hB2.size; omega
  have hn4 : g4 ≠ w.heap.size := by have := hB3.size; omega
  clear hHeld hb5 hB1 hB2 hB3 hB4 hb1 hb2 hb3 hb4 hg3 hg4
  go_wp2_with (first
    | ((with_reducible refine wpList_load_on 24 _ rfl (w.heap.size + 1) 8 ?hx7 U V HV.out _ (HZR.out _ hZ5) Try.underlying24 ?hd7 HUI.out ?_ ?hw7); (case hx7 => rfl); (case hd7 => rfl); (case hw7 => rfl))
    | ((with_reducible refine wpList_store_mid rfl 24 _ _ rfl w.heap.size 8 V ?hx8 ?hy8 (there_mid hX5 HCA.out HVS.out) HVI.out HU1.out ?_); (case hx8 => rfl); (case hy8 => rfl)
       rw [HVL.out]
       have hX6 := HSET.out _ hX5
       have hZ6 := (setCells_off (show w.heap.size + 1 ≠ w.heap.size by omega) U 8 w4.drew).trans hZ5
       have hL6 := hL5.off (setCells_off hn3 U 8 w4.drew)
       have hM6 := hM5.off (setCells_off hn4 U 8 w4.drew)
       have hB6 := setCells_below (Nat.le_refl w.heap.size) U 8 _ hB5
       obtain ⟨w6, hw6⟩ : ∃ w6, w6 = w4.drew.setCells w.heap.size 8 U := ⟨_, rfl⟩
       rw [← hw6] at hX6 hZ6 hL6 hM6 hB6 ⊢
       clear hX5 hZ5 hL5 hM5 hB5 hw6))
  have HX6 := Lib.hid hX6
  have HZ6 := Lib.hid hZ6
  have HL6 := Lib.hid hL6
  have HM6 := Lib.hid hM6
  clear hX6 hZ6 hL6 hM6
  have hb : ∀ w', Below w6.heap.size w6 w' → w'.heap[w.heap.size]? = some (.cells C2.toArray 26 (0, 0)) := fun w' h => (h.block _ (Array.getElem?_eq_some_iff.1 HX6.out).1).trans HX6.out
  have hd : ∀ w', Below w6.heap.size w6 w' → w'.heap[w.heap.size + 1]? = some (.cells D.toArray 26 (0, 0)) := fun w' h => (h.block _ (Array.getElem?_eq_some_iff.1 HZ6.out).1).trans HZ6.out
  refine wp_region_held_drew (S := (fun w' => Below w6.heap.size w6 w')) (by kernel_rfl) (Below.refl _ _).drew (fun hHeld => ?_)
  refine take_move 0 (.tmp 8) (.slice (some ⟨g3, 0, none⟩) m3 c3) rfl rfl rfl (by kernel_rfl) (by kernel_rfl) (by kernel_rfl) (fun _ _ _ h => h) rfl hHeld ?_
  simp only [Act.put, List.setIfInBounds_toArray, List.set_cons_zero, List.set_cons_succ]
  refine take_if 1 (.string (bstr L)) rfl (by kernel_rfl) (by kernel_rfl) (by kernel_rfl) (fun _ _ _ h => h) rfl hHeld (fun w' hw' => ?_) ?_
  · have hc := conv_bts (HL6.out.below hw')
    go_simp
  simp only [Act.put, List.setIfInBounds_toArray, List.set_cons_zero, List.set_cons_succ]
  refine take_move 2 (.tmp 9) (.slice (some ⟨g4, 0, none⟩) m4 c4) rfl rfl rfl (by kernel_rfl) (by kernel_rfl) (by kernel_rfl) (fun _ _ _ h => h) rfl hHeld ?_
  simp only [Act.put, List.setIfInBounds_toArray, List.set_cons_zero, List.set_cons_succ]
  refine take_if 3 (.string (bstr M)) rfl (by kernel_rfl) (by kernel_rfl) (by kernel_rfl) (fun _ _ _ h => h) rfl hHeld (fun w' hw' => ?_) ?_
  · have hc := conv_bts (HM6.out.below hw')
    go_simp
  simp only [Act.put, List.setIfInBounds_toArray, List.set_cons_zero, List.set_cons_succ]
  refine take_run 4 (.bool E) rfl (by kernel_rfl) (by kernel_rfl) (by kernel_rfl) (fun _ _ _ h => h) rfl hHeld (fun w => ?_) ?_
  · have hc : ((bstr L).toList == (bstr M).toList) = E := (run_eq_bstr L M HOKF.out HOKG.out).trans HEQ.out
    go_simp
  simp only [Act.put, List.setIfInBounds_toArray, List.set_cons_zero, List.set_cons_succ]
  refine take_long 5 26 (.tmp 2) w.heap.size C2 _ rfl rfl rfl (by kernel_rfl) (by kernel_rfl) (by kernel_rfl) (fun _ _ _ h => h) rfl hHeld (fun w' h => range_of_blk (hb w' h)) Try.underlying26 rfl (info_row HC2S.out) ?_
  simp only [Act.put, List.setIfInBounds_toArray, List.set_cons_zero, List.set_cons_succ]
  refine take_long 6 26 (.tmp 3) (w.heap.size + 1) D _ rfl rfl rfl (by kernel_rfl) (by kernel_rfl) (by kernel_rfl) (fun _ _ _ h => h) rfl hHeld (fun w' h => range_of_blk (hd w' h)) Try.underlying26 rfl (info_row HDS.out) ?_
  simp only [Act.put, List.setIfInBounds_toArray, List.set_cons_zero, List.set_cons_succ]
  refine take_run 7 (.bool E) rfl (by kernel_rfl) (by kernel_rfl) (by kernel_rfl) (fun _ _ _ h => h) rfl hHeld (fun w => ?_) ?_
  · exact run_eq_fr rfl rfl rfl (.inl ⟨rfl, rfl⟩) (HFE.out w)
  simp only [Act.put, List.setIfInBounds_toArray, List.set_cons_zero, List.set_cons_succ]
  refine take_run 8 (.bool true) rfl (by kernel_rfl) (by kernel_rfl) (by kernel_rfl) (fun _ _ _ h => h) rfl hHeld (fun w => ?_) ?_
  · go_simp
  simp only [Act.put, List.setIfInBounds_toArray, List.set_cons_zero, List.set_cons_succ]
  refine take_run 9 (.bool true) rfl (by kernel_rfl) (by kernel_rfl) (by kernel_rfl) (fun _ _ _ h => h) rfl hHeld (fun w => ?_) ?_
  · go_simp
  simp only [Act.put, List.setIfInBounds_toArray, List.set_cons_zero, List.set_cons_succ]
  refine wpAnyH_done (by kernel_rfl) ?_ _
  go_wp2
  go_ret
  exact ⟨rfl, hB6.drew⟩
theorem fbody_all (f g : Fr) (w : World) (hf : f.ok) (hg : g.ok) :
    Calls Try.prog 6 #[frV f, frV g] w fun e w' => e = .returned (.bool true) ∧ Below w.heap.size w w' := by
  by_cases h : bodyF f = []
  · exact fbody_none f g w hf hg h
  · by_cases h2 : bodyF g = []
    · exact fbody_one f g w hf hg h h2
    · exact fbody_two f g w hf hg h h2
end Go.Proofs.Ytadcbikdbekmgaa
