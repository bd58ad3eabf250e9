/- Joined texts: The walk over the document's answer Read, where the bytes have a frame's form and a tag is read. The document's answer Read, for any bytes. The walk over the document's answer Body. The laws' arguments, opened: a frame by value. The laws' arguments, opened: a slice of frames; bytes that are split, as lists. The walk over the law FrameCut: no beginning of a frame but all of it is read; nor is anything longer. -/
import Derived.Test.YtncedbjbooemjaaFtJJ
import Derived.Test.YtncedbjbooemjaaFtJE
import Derived.Test.YtncedbjbooemjaaFtJH
import Derived.Test.YtncedbjbooemjaaFtJB
import Derived.Deep.SlicePairs
import Derived.Deep.Slices
/- The walk over the document's answer Read, where the bytes have a frame's form and a tag is read. -/
namespace Go.Proofs.Ytncedbjbooemjaa
set_option linter.unusedVariables false
set_option linter.unusedSimpArgs false
open Go.RowKit

set_option maxRecDepth 100000 in
set_option maxHeartbeats 8000000 in
theorem rread_tag (bb off n c : Nat) (l : List Int) (w : World) (hb : Bts w (some ⟨bb, off, none⟩) n c l) (h3 : 3 ≤ n) (h64 : n ≤ 64) (k : Nat) (hk7 : k < 7) (hk : l.getD 2 0 = (k : Int))
    (hwh : Calls Try.prog 29 #[.slice (some ⟨bb, off, none⟩) n c] (w.alloc (.cells (frA Fr.zero) 26)) fun e w' => e = .returned (.int .i64 (n : Int)) ∧ ∃ j, w' = (w.alloc (.cells (frA Fr.zero) 26)).drewN j)
    (Z Ck Y V X : Array Value) (E : Int) (hZ : frA Fr.zero = Z) (hzb : Try.prog.built 26 [] = some Z) (hZs : Z.size = 40) (hZ1 : Z.all (·.oneCell') = true) (hkb : Try.prog.built 26 [(0, .int .i64 (k : Int))] = some Ck)
    (F : List (Int × Int)) (t : Bool) (hfd : ∀ w, Calls Try.prog 30 #[.agg Ck] w (GivesNums F t w)) (hFl : F.length ≤ 4) (KS : List Nat) (hks : F.map (·.2) = ints KS) (hok : okSizes KS)
    (A5 : Option Addr) (N3 C3 M : Nat) (hn3 : n = N3 + 3) (hfrom : ∀ w : World, (Instr.slice 27 (.slice (some ⟨bb, off, none⟩) n c) (some (.int .i64 3)) none none).run Try.prog w = .ok (.slice A5 N3 C3) w)
    (T R : List Int) (hmd : KS.sum = M → ∀ (A : Option Addr) (n c : Nat) (w : World), Its .u64 w A n c (ints (cutL KS R)) → Calls Try.prog 32 #[.int .i64 (k : Int), .slice A n c] w fun e w' => e = .returned (.agg Y) ∧ Below w.heap.size w w')
    (hYs : Y.size = 40) (hY1 : Y.all (·.oneCell') = true) (hset : ∀ (w : World) (g : Nat), w.heap[g]? = some (.cells Y 26 (0, 0)) → (w.setCells g 8 (byv T)).heap[g]? = some (.cells V 26 (0, 0)))
    (hVs : V.size = 40) (hV1 : V.all (·.oneCell') = true) (hTl : T.length = 32) (P : List Int) (cb : Bool) (hput : KS.sum = M → ∀ w, Calls Try.prog 11 #[.agg V] w fun e w' => GivesB P cb w e w')
    (ho : (cutB (ints KS) M = false ∧ X = Z ∧ E = 3) ∨ (KS.sum = M ∧ ((cb = false ∧ X = Z ∧ E = 3) ∨ (cb = true ∧ ((bstr P).toList == (bstr l).toList) = false ∧ X = Z ∧ E = 3) ∨ (cb = true ∧ bstr P = bstr l ∧ X = V ∧ E = 0))))
    (hbR : Bts w A5 M C3 R) (ht : t = true) (hN : N3 = M + 32) (A6 : Option Addr) (C6 : Nat) (hfrom2 : ∀ w : World, (Instr.slice 27 (.slice A5 N3 C3) (some (.int .i64 (M : Int))) none none).run Try.prog w = .ok (.slice A6 32 C6) w) (hb6 : Bts w A6 32 C6 T)
    (hto : ∀ w : World, (Instr.slice 27 (.slice A5 N3 C3) none (some (.int .i64 (M : Int))) none).run Try.prog w = .ok (.slice A5 M C3) w) :
    Calls Try.prog 13 #[.slice (some ⟨bb, off, none⟩) n c] w fun e w' => e = .returned (.tuple #[.agg X, .int .i64 E]) ∧ Below w.heap.size w w' := by
  have hcell : ∀ w' : World, Below (w.alloc (.cells (frA Fr.zero) 26)).heap.size (w.alloc (.cells (frA Fr.zero) 26)) w' → w'.cell? ⟨bb, off + 2, none⟩ = some (.int .u8 (k : Int)) := fun w' h => by
    obtain ⟨b0, o0, hA, hc⟩ := hb.at_ (by omega)
    cases hA
    have h2 := hc 2 (by omega)
    rw [hk] at h2
    exact ((after_one h).1.cell (p := ⟨bb, off + 2, none⟩) (block_lt_of_cell h2)).trans h2
  have hbw : ∀ w' : World, Below (w.alloc (.cells (frA Fr.zero) 26)).heap.size (w.alloc (.cells (frA Fr.zero) 26)) w' → Bts w' (some ⟨bb, off, none⟩) n c l := fun w' h => hb.below (after_one h).1
  have hzw : ∀ w' : World, Below (w.alloc (.cells (frA Fr.zero) 26)).heap.size (w.alloc (.cells (frA Fr.zero) 26)) w' → w'.heap[w.heap.size]? = some (.cells Z 26 (0, 0)) := fun w' h => by rw [← hZ]; exact after_alloc h
  have hcv : ∀ w' : World, Below (w.alloc (.cells (frA Fr.zero) 26)).heap.size (w.alloc (.cells (frA Fr.zero) 26)) w' → (convert 27 9 (.slice (some ⟨bb, off, none⟩) n c)).run Try.prog w' = .ok (.string (bstr l)) w' := fun w' h => conv_bts (hb.below (after_one h).1)
  have hb6w : ∀ w' : World, Below (w.alloc (.cells (frA Fr.zero) 26)).heap.size (w.alloc (.cells (frA Fr.zero) 26)) w' → Bts w' A6 32 C6 T := fun w' h => hb6.below (after_one h).1
  have hrw : ∀ w' : World, Below (w.alloc (.cells (frA Fr.zero) 26)).heap.size (w.alloc (.cells (frA Fr.zero) 26)) w' → Bts w' A5 M C3 R := fun w' h => hbR.below (after_one h).1
  have hks4 : KS.length ≤ 40 := by
    have h1 := congrArg List.length hks
    rw [List.length_map, ints_length] at h1
    omega
  have hx0 : 0 ≤ (k : Int) := by omega
  have hx1 : (k : Int) < 256 := by omega
  have hx2 : (k : Int) < 7 := by omega
  have hn64 : (n : Int) ≤ 64 := by omega
  have hn0 : ¬ (n : Int) < 0 := by omega
  have hnn3 : ¬ (n : Int) < 3 := by omega
  have hnn4 : (3 : Int) ≤ n := by omega
  have hnen : ((n : Int) != (n : Int)) = false := by simp
  have hIl : (idv T).size = 32 := by rw [idv_size, hTl]
  have hI1 : (idv T).all (·.oneCell') = true := all_oneCell_toArray (byv_one T)
  have hIT : (idv T).toList = byv T := rfl
  have hIL2 : (byv T).toArray = idv T := rfl
  have hUl : (byv T).length = 32 := by rw [byv_length, hTl]
  obtain ⟨I, hI⟩ : ∃ I, idv T = I := ⟨_, rfl⟩
  have hrow : ∀ (w : World) g, RowB w g 24 T → w.heap[g]? = some (.cells I 24 (0, 0)) := fun w g h => by rw [← hI]; exact h
  rw [hI] at hIl hI1 hIT hIL2
  obtain ⟨U, hU⟩ : ∃ U, byv T = U := ⟨_, rfl⟩
  rw [hU] at hIT hIL2 hset hUl
  obtain ⟨s1, hs1⟩ : ∃ z, bstr P = z := ⟨_, rfl⟩
  obtain ⟨s2, hs2⟩ : ∃ z, bstr l = z := ⟨_, rfl⟩
  have hcp : ∀ (w' : World) A m c, Bts w' A m c P → (convert 27 9 (.slice A m c)).run Try.prog w' = .ok (.string s1) w' := fun w' A m c h => by rw [← hs1]; exact conv_bts h
  rw [hs1, hs2] at ho
  rw [hs2] at hcv
  have HCELL := Lib.hid hcell
  have HBW := Lib.hid hbw
  have HZW := Lib.hid hzw
  have HCV := Lib.hid hcv
  have HRW := Lib.hid hrw
  have HWH := Lib.hid hwh
  have HZB := Lib.hid hzb
  have HZS := Lib.hid hZs
  have HZ1 := Lib.hid hZ1
  have HKB := Lib.hid hkb
  have HFD := Lib.hid hfd
  have HFL := Lib.hid hFl
  have HKSM := Lib.hid hks
  have HOK := Lib.hid hok
  have HMD := Lib.hid hmd
  have HYS := Lib.hid hYs
  have HY1 := Lib.hid hY1
  have HSET := Lib.hid hset
  have HVS := Lib.hid hVs
  have HV1 := Lib.hid hV1
  have HPUT := Lib.hid hput
  have HKS4 := Lib.hid hks4
  have HIS := Lib.hid hIl
  have HI1 := Lib.hid hI1
  have HIT := Lib.hid hIT
  have HROW := Lib.hid hrow
  have HCP := Lib.hid hcp
  have HO := Lib.hid ho
  have HUL := Lib.hid hUl
  have HB6W := Lib.hid hb6w
  have hN1 : (32 : Int) ≤ N3 := by omega
  have hN2 : (N3 : Int) - 32 = (M : Int) := by omega
  have hMw : IntKind.i64.wrap (M : Int) = (M : Int) := by rw [IntKind.wrap_i64]; omega
  have HTT := Lib.hid ht
  clear hcell hbw hzw hcv hrw hwh hzb hZs hZ1 hkb hfd hFl hks hok hmd hYs hY1 hset hVs hV1 hput hks4 hIl hI1 hIT hrow hcp ho hUl hb6w hN ht hn3 hb hk hk7 h3 h64 hZ hI hU hs1 hs2 hIL2 hTl hbR hb6
  go_enter Try.func13, Try.ntmps13
  go_wp2_with (first
    | (go_at_call 29; refine HWH.out.mono ?_; rintro e w1 ⟨rfl, j, hw1⟩
       have hB1 : Below (w.alloc (.cells (frA Fr.zero) 26)).heap.size (w.alloc (.cells (frA Fr.zero) 26)) w1 := by rw [hw1]; exact below_drewN (Below.refl _ _) _
       have hc1 := HCELL.out w1 hB1
       clear hw1)
    | ((with_reducible refine wpList_build_to rfl 26 _ rfl _ Ck ?hb3 HKB.out ?_); (case hb3 => rfl))
    | (go_at_call 30; (with_reducible refine (HFD.out _).mono ?_); rintro e w2 ⟨A2, m2, c2, rfl, hn2, hb2⟩
       have hB2 := hB1.trans (hb2.mono hB1.size)
       clear hb2 hc1))
  obtain rfl : F.length = m2 := hn2.len
  have HN2 := Lib.hid hn2
  have HB2 := Lib.hid hB2
  clear hn2 hB1 hB2
  go_loopw [7, 8] (fun v i wr => ∃ k : Nat, k ≤ F.length ∧ i = .int .i64 k ∧ OwnI .i64 3 wr w2.heap.size v ((F.take k).map (·.2)) ∧ Below w2.heap.size w2 wr) (fun _ i _ => F.length - (intOf i).toNat)
  case atStart => exact ⟨0, by omega, rfl, OwnI.nil _ _ _ _, Below.refl _ _⟩
  case round =>
    obtain ⟨q, hq, rfl, hown, hB⟩ := hrel
    by_cases hlt : q < F.length
    · obtain ⟨b, off, rfl, hc⟩ := HN2.out.cells (by omega)
      have hcell := (hB.cell (p := ⟨b, off + q * 2 + 1, none⟩) (block_lt_of_cell (hc q hlt).2)).trans (hc q hlt).2
      have hsn := snoc_snd F q hlt
      obtain ⟨x, hx⟩ : ∃ x, (F.getD q (0, 0)).2 = x := ⟨_, rfl⟩
      rw [hx] at hcell hsn
      obtain ⟨L, hL⟩ : ∃ L, (F.take q).map (·.2) = L := ⟨_, rfl⟩
      have hLs : L.length ≤ 4 := by rw [← hL, List.length_map, List.length_take]; have := HFL.out; omega
      rw [hL] at hown hsn
      have HSN := Lib.hid hsn
      have hF4 := HFL.out
      have hk0 : (0 : Int) ≤ q := by omega
      have hk1 : (q : Int) < F.length := by omega
      clear hc hx hL hsn
      go_wp2_with (first
        | (at_builtin
           refine wpList_append_i rfl 44 3 .i64 8 _ _ rfl Try.underlying44 (by kernel_rfl) (by omega) w2.heap.size _ L rfl (hown.more _) _ 1 1 [x] rfl (one_its .i64 3 _ x) (by omega) (Nat.le_trans hB.size (size_le_alloc _ _)) ?_
           intro v5 w5 hown5 hg5
           have hB5 : Below w2.heap.size w2 w5 := (hB.alloc hB.size _).grown hg5 (Nat.le_trans hB.size (size_le_alloc _ _)) (fun k hk => (hown.size k hk).1)
           rw [← HSN.out] at hown5
           clear hg5))
      go_roundw
      case rel => exact ⟨q + 1, by omega, by go_num, hown5, hB5⟩
      case measure => simp [intOf]; omega
    · have hkn : q = F.length := by omega
      have htk : (F.take q).map (·.2) = ints KS := by rw [hkn, List.take_length, HKSM.out]
      have hge : ¬ ((q : Int) < F.length) := by omega
      rw [htk] at hown
      obtain ⟨A3, n3, c3, rfl, hits⟩ := hown.its
      have hB3 : Below (w.alloc (.cells (frA Fr.zero) 26)).heap.size (w.alloc (.cells (frA Fr.zero) 26)) wr := HB2.out.trans (hB.mono HB2.out.size)
      have hgt : wr.heap.size < wr.heap.size + 1 := Nat.lt_succ_self _
      have hlo : (w.alloc (.cells (frA Fr.zero) 26)).heap.size ≤ wr.heap.size := hB3.size
      have ht := HTT.out
      clear HTT
      subst ht
      have HITS := Lib.hid hits
      have HB3 := Lib.hid hB3
      have hz4 := (rowb_lit wr 24 _ noTag rfl).draw1
      have hbt4 := ((HB6W.out wr hB3).more (.cells (idv noTag) 24)).draw1
      have hB4 := (one_alloc wr (.cells (idv noTag) 24)).drew
      have HZ4 := Lib.hid hz4
      have HBT4 := Lib.hid hbt4
      have HB4 := Lib.hid hB4
      clear hz4 hbt4 hB4 hown htk hits hB hB3 hlt hq hkn HN2
      go_wp2_with fail
      go_still_tail 6, (by kernel_rfl)
      go_wp2_with (refine wpList_copy_t 24 rfl _ _ rfl wr.heap.size 32 noTag rfl HZ4.out rfl A6 32 _ T rfl HBT4.out (Nat.le_refl _) wr.heap.size wr HB4.out (Nat.le_refl _) ?_
                   intro w4 hX4 hb4)
      have hn0 : noTag.drop 32 = [] := rfl
      rw [hn0, List.append_nil] at hX4
      have hT4 : RowB w4 wr.heap.size 24 T := hX4
      have hits4 := HITS.out.below hb4
      have hB4 := HB3.out.trans (hb4.mono HB3.out.size)
      clear hX4 hb4 hn0 HZ4 HBT4 HB4
      rcases HO.out with ⟨hcut, rfl, rfl⟩ | ⟨hsum, ⟨rfl, rfl, rfl⟩ | ⟨rfl, hne, rfl, rfl⟩ | ⟨rfl, rfl, rfl, rfl⟩⟩
      · clear HO
        go_wp2_with (first
          | (go_at_call 31; (with_reducible refine (rcut_no A5 A3 M C3 n3 c3 R (ints KS) w4 (HRW.out _ hB4) hits4 hcut).mono ?_); rintro e w5 ⟨rfl, rfl⟩
             have hZ9 := HZW.out _ hB4)
          | ((with_reducible refine wpList_build_to rfl 26 _ rfl _ X ?hb14 HZB.out ?_); (case hb14 => rfl))
          | ((with_reducible refine wpList_store_blk rfl 26 _ _ rfl w.heap.size X ?hx16 ?hy16 26 X hZ9 (info_frame HZS.out) rfl HZ1.out ?_); (case hx16 => rfl); (case hy16 => rfl)
             intro w10 hg10 hX10 hs10))
        refine bodyPost_ret (v := .tuple #[.agg X, .int .i64 3]) ?_ ?_ ?_
        · exact results_blk_tmp Try.results13 _ _ _ w.heap.size 26 _ (0, 0) _ rfl hX10 Try.underlying26 rfl (info_frame HZS.out) _ rfl
        · rfl
        · exact ⟨rfl, (after_one hB4).1.grown hg10 (after_one hB4).1.size (fun k e => by cases e; exact Nat.le_refl _)⟩
      · clear HO
        go_wp2_with (first
          | (go_at_call 31; (with_reducible refine (rcut_yes A5 A3 M C3 n3 c3 R KS w4 (HRW.out _ hB4) hits4 HOK.out HKS4.out hsum).mono ?_); rintro e w5 ⟨v5, rfl, hown5, hb5⟩
             obtain ⟨A7, n7, c7, rfl, hits5⟩ := hown5.its
             have hB5 := hB4.trans (hb5.mono hB4.size)
             have hT5 := hT4.keep hb5
             have hc5 := HCELL.out _ hB5
             clear hown5 hb5)
          | (go_at_call 32; (with_reducible refine (HMD.out hsum _ _ _ _ hits5).mono ?_); rintro e w6 ⟨rfl, hb6⟩
             have hB6 := hB5.trans (hb6.mono hB5.size)
             have hT6 := hT5.keep hb6
             clear hb6 hT5)
          | ((with_reducible refine wpList_store_blk rfl 26 _ _ rfl w6.heap.size Y ?hx5 ?hy5 26 _ (heap_alloc_new w6 _) (info_frame HYS.out) ?hs5 HY1.out ?_); (case hx5 => rfl); (case hy5 => rfl); (case hs5 => rw [HYS.out]; rfl)
             intro w7 hg7 hX7 hs7
             have hB7 : Below (w.alloc (.cells (frA Fr.zero) 26)).heap.size (w.alloc (.cells (frA Fr.zero) 26)) w7 := (hB6.alloc hB6.size _).grown hg7 (Nat.le_trans hB6.size (size_le_alloc _ _)) (fun g e => by cases e; exact hB6.size)
             have hlt6 := hT6.lt
             have hT7 := HROW.out _ _ ((hT6.more _).grown hg7 (ne_some (Nat.ne_of_lt hT6.lt)))
             clear hg7 hs7 hT6)
          | ((with_reducible refine wpList_load_blk 24 _ rfl wr.heap.size ?hx11 24 I (0, 0) _ hT7 Try.underlying24 ?hd11 (info_id HIS.out) ?_ ?hw11); (case hx11 => rfl); (case hd11 => rfl); (case hw11 => rfl))
          | ((with_reducible refine wpList_store_mid rfl 24 _ _ rfl w6.heap.size 8 I ?hx12 ?hy12 (there_tag hX7 HYS.out HIS.out) (info_id HIS.out) HI1.out ?_); (case hx12 => rfl); (case hy12 => rfl)
             rw [HIT.out]
             have hX8 := HSET.out _ _ hX7
             have hB8 := setCells_below hB6.size U 8 _ hB7
             obtain ⟨w8, hw8⟩ : ∃ w8, w8 = w7.setCells w6.heap.size 8 U := ⟨_, rfl⟩
             rw [← hw8] at hX8 hB8 ⊢
             clear hX7 hT7 hB7 hw8)
          | ((with_reducible refine wpList_load_blk 26 _ rfl w6.heap.size ?hx13 26 V (0, 0) _ hX8 Try.underlying26 ?hd13 (info_frame HVS.out) ?_ ?hw13); (case hx13 => rfl); (case hd13 => rfl); (case hw13 => rfl))
          | (go_at_call 11; (with_reducible refine (HPUT.out hsum _).mono ?_); rintro e w9 ⟨A9, m9, c9, rfl, hv9, hb9⟩
             have hB9 := hB8.trans (hb9.mono hB8.size)
             have hZ9 := HZW.out _ hB9
             have hX9 := (hb9.block _ (Array.getElem?_eq_some_iff.1 hX8).1).trans hX8
             have hk1 := HCP.out _ _ _ _ hv9
             have hk2 := HCV.out _ hB9
             clear hX8 hv9 hb9)
          | ((with_reducible refine wpList_build_to rfl 26 _ rfl _ X ?hb14 HZB.out ?_); (case hb14 => rfl))
          | ((with_reducible refine wpList_store_blk rfl 26 _ _ rfl w.heap.size X ?hx16 ?hy16 26 X hZ9 (info_frame HZS.out) rfl HZ1.out ?_); (case hx16 => rfl); (case hy16 => rfl)
             intro w10 hg10 hX10 hs10))
        refine bodyPost_ret (v := .tuple #[.agg X, .int .i64 3]) ?_ ?_ ?_
        · exact results_blk_tmp Try.results13 _ _ _ w.heap.size 26 _ (0, 0) _ rfl hX10 Try.underlying26 rfl (info_frame HZS.out) _ rfl
        · rfl
        · exact ⟨rfl, (after_one hB9).1.grown hg10 (after_one hB9).1.size (fun k e => by cases e; exact Nat.le_refl _)⟩
      · have hne2 : (s1.toList != s2.toList) = true := by simp only [bne, hne]; rfl
        clear HO
        go_wp2_with (first
          | (go_at_call 31; (with_reducible refine (rcut_yes A5 A3 M C3 n3 c3 R KS w4 (HRW.out _ hB4) hits4 HOK.out HKS4.out hsum).mono ?_); rintro e w5 ⟨v5, rfl, hown5, hb5⟩
             obtain ⟨A7, n7, c7, rfl, hits5⟩ := hown5.its
             have hB5 := hB4.trans (hb5.mono hB4.size)
             have hT5 := hT4.keep hb5
             have hc5 := HCELL.out _ hB5
             clear hown5 hb5)
          | (go_at_call 32; (with_reducible refine (HMD.out hsum _ _ _ _ hits5).mono ?_); rintro e w6 ⟨rfl, hb6⟩
             have hB6 := hB5.trans (hb6.mono hB5.size)
             have hT6 := hT5.keep hb6
             clear hb6 hT5)
          | ((with_reducible refine wpList_store_blk rfl 26 _ _ rfl w6.heap.size Y ?hx5 ?hy5 26 _ (heap_alloc_new w6 _) (info_frame HYS.out) ?hs5 HY1.out ?_); (case hx5 => rfl); (case hy5 => rfl); (case hs5 => rw [HYS.out]; rfl)
             intro w7 hg7 hX7 hs7
             have hB7 : Below (w.alloc (.cells (frA Fr.zero) 26)).heap.size (w.alloc (.cells (frA Fr.zero) 26)) w7 := (hB6.alloc hB6.size _).grown hg7 (Nat.le_trans hB6.size (size_le_alloc _ _)) (fun g e => by cases e; exact hB6.size)
             have hlt6 := hT6.lt
             have hT7 := HROW.out _ _ ((hT6.more _).grown hg7 (ne_some (Nat.ne_of_lt hT6.lt)))
             clear hg7 hs7 hT6)
          | ((with_reducible refine wpList_load_blk 24 _ rfl wr.heap.size ?hx11 24 I (0, 0) _ hT7 Try.underlying24 ?hd11 (info_id HIS.out) ?_ ?hw11); (case hx11 => rfl); (case hd11 => rfl); (case hw11 => rfl))
          | ((with_reducible refine wpList_store_mid rfl 24 _ _ rfl w6.heap.size 8 I ?hx12 ?hy12 (there_tag hX7 HYS.out HIS.out) (info_id HIS.out) HI1.out ?_); (case hx12 => rfl); (case hy12 => rfl)
             rw [HIT.out]
             have hX8 := HSET.out _ _ hX7
             have hB8 := setCells_below hB6.size U 8 _ hB7
             obtain ⟨w8, hw8⟩ : ∃ w8, w8 = w7.setCells w6.heap.size 8 U := ⟨_, rfl⟩
             rw [← hw8] at hX8 hB8 ⊢
             clear hX7 hT7 hB7 hw8)
          | ((with_reducible refine wpList_load_blk 26 _ rfl w6.heap.size ?hx13 26 V (0, 0) _ hX8 Try.underlying26 ?hd13 (info_frame HVS.out) ?_ ?hw13); (case hx13 => rfl); (case hd13 => rfl); (case hw13 => rfl))
          | (go_at_call 11; (with_reducible refine (HPUT.out hsum _).mono ?_); rintro e w9 ⟨A9, m9, c9, rfl, hv9, hb9⟩
             have hB9 := hB8.trans (hb9.mono hB8.size)
             have hZ9 := HZW.out _ hB9
             have hX9 := (hb9.block _ (Array.getElem?_eq_some_iff.1 hX8).1).trans hX8
             have hk1 := HCP.out _ _ _ _ hv9
             have hk2 := HCV.out _ hB9
             clear hX8 hv9 hb9)
          | ((with_reducible refine wpList_build_to rfl 26 _ rfl _ X ?hb14 HZB.out ?_); (case hb14 => rfl))
          | ((with_reducible refine wpList_store_blk rfl 26 _ _ rfl w.heap.size X ?hx16 ?hy16 26 X hZ9 (info_frame HZS.out) rfl HZ1.out ?_); (case hx16 => rfl); (case hy16 => rfl)
             intro w10 hg10 hX10 hs10))
        refine bodyPost_ret (v := .tuple #[.agg X, .int .i64 3]) ?_ ?_ ?_
        · exact results_blk_tmp Try.results13 _ _ _ w.heap.size 26 _ (0, 0) _ rfl hX10 Try.underlying26 rfl (info_frame HZS.out) _ rfl
        · rfl
        · exact ⟨rfl, (after_one hB9).1.grown hg10 (after_one hB9).1.size (fun k e => by cases e; exact Nat.le_refl _)⟩
      · clear HO
        go_wp2_with (first
          | (go_at_call 31; (with_reducible refine (rcut_yes A5 A3 M C3 n3 c3 R KS w4 (HRW.out _ hB4) hits4 HOK.out HKS4.out hsum).mono ?_); rintro e w5 ⟨v5, rfl, hown5, hb5⟩
             obtain ⟨A7, n7, c7, rfl, hits5⟩ := hown5.its
             have hB5 := hB4.trans (hb5.mono hB4.size)
             have hT5 := hT4.keep hb5
             have hc5 := HCELL.out _ hB5
             clear hown5 hb5)
          | (go_at_call 32; (with_reducible refine (HMD.out hsum _ _ _ _ hits5).mono ?_); rintro e w6 ⟨rfl, hb6⟩
             have hB6 := hB5.trans (hb6.mono hB5.size)
             have hT6 := hT5.keep hb6
             clear hb6 hT5)
          | ((with_reducible refine wpList_store_blk rfl 26 _ _ rfl w6.heap.size Y ?hx5 ?hy5 26 _ (heap_alloc_new w6 _) (info_frame HYS.out) ?hs5 HY1.out ?_); (case hx5 => rfl); (case hy5 => rfl); (case hs5 => rw [HYS.out]; rfl)
             intro w7 hg7 hX7 hs7
             have hB7 : Below (w.alloc (.cells (frA Fr.zero) 26)).heap.size (w.alloc (.cells (frA Fr.zero) 26)) w7 := (hB6.alloc hB6.size _).grown hg7 (Nat.le_trans hB6.size (size_le_alloc _ _)) (fun g e => by cases e; exact hB6.size)
             have hlt6 := hT6.lt
             have hT7 := HROW.out _ _ ((hT6.more _).grown hg7 (ne_some (Nat.ne_of_lt hT6.lt)))
             clear hg7 hs7 hT6)
          | ((with_reducible refine wpList_load_blk 24 _ rfl wr.heap.size ?hx11 24 I (0, 0) _ hT7 Try.underlying24 ?hd11 (info_id HIS.out) ?_ ?hw11); (case hx11 => rfl); (case hd11 => rfl); (case hw11 => rfl))
          | ((with_reducible refine wpList_store_mid rfl 24 _ _ rfl w6.heap.size 8 I ?hx12 ?hy12 (there_tag hX7 HYS.out HIS.out) (info_id HIS.out) HI1.out ?_); (case hx12 => rfl); (case hy12 => rfl)
             rw [HIT.out]
             have hX8 := HSET.out _ _ hX7
             have hB8 := setCells_below hB6.size U 8 _ hB7
             obtain ⟨w8, hw8⟩ : ∃ w8, w8 = w7.setCells w6.heap.size 8 U := ⟨_, rfl⟩
             rw [← hw8] at hX8 hB8 ⊢
             clear hX7 hT7 hB7 hw8)
          | ((with_reducible refine wpList_load_blk 26 _ rfl w6.heap.size ?hx15 26 X (0, 0) _ hX9 Try.underlying26 ?hd15 (info_frame HVS.out) ?_ ?hw15); (case hx15 => rfl); (case hd15 => rfl); (case hw15 => rfl))
          | ((with_reducible refine wpList_load_blk 26 _ rfl w6.heap.size ?hx13 26 X (0, 0) _ hX8 Try.underlying26 ?hd13 (info_frame HVS.out) ?_ ?hw13); (case hx13 => rfl); (case hd13 => rfl); (case hw13 => rfl))
          | (go_at_call 11; (with_reducible refine (HPUT.out hsum _).mono ?_); rintro e w9 ⟨A9, m9, c9, rfl, hv9, hb9⟩
             have hB9 := hB8.trans (hb9.mono hB8.size)
             have hZ9 := HZW.out _ hB9
             have hX9 := (hb9.block _ (Array.getElem?_eq_some_iff.1 hX8).1).trans hX8
             have hk1 := HCP.out _ _ _ _ hv9
             have hk2 := HCV.out _ hB9
             clear hX8 hv9 hb9)
          | ((with_reducible refine wpList_store_blk rfl 26 _ _ rfl w.heap.size X ?hx16 ?hy16 26 Z hZ9 (info_frame HVS.out) ?hs16 HV1.out ?_); (case hx16 => rfl); (case hy16 => rfl); (case hs16 => rw [HZS.out, HVS.out])
             intro w10 hg10 hX10 hs10))
        refine bodyPost_ret (v := .tuple #[.agg X, .int .i64 0]) ?_ ?_ ?_
        · exact results_blk_tmp Try.results13 _ _ _ w.heap.size 26 _ (0, 0) _ rfl hX10 Try.underlying26 rfl (info_frame HVS.out) _ rfl
        · rfl
        · exact ⟨rfl, (after_one hB9).1.grown hg10 (after_one hB9).1.size (fun k e => by cases e; exact Nat.le_refl _)⟩
end Go.Proofs.Ytncedbjbooemjaa

/- The document's answer Read, for any bytes. -/
namespace Go.Proofs.Ytncedbjbooemjaa
set_option linter.unusedVariables false
set_option linter.unusedSimpArgs false
open Go.RowKit

theorem sizes_ok (k : Nat) (hk : k < 7) : okSizes (sizesK k) := by
  have h7 : k = 0 ∨ k = 1 ∨ k = 2 ∨ k = 3 ∨ k = 4 ∨ k = 5 ∨ k = 6 := by omega
  unfold okSizes
  rcases h7 with rfl | rfl | rfl | rfl | rfl | rfl | rfl <;> simp [sizesK]
theorem fieldsF_few (f : Fr) : (fieldsF f).length ≤ 4 := by unfold fieldsF; split <;> simp
/-- what comes of bytes of a frame's form -/
theorem mid_all {l : List Int} (hl : ∀ j, 0 ≤ l.getD j 0 ∧ l.getD j 0 < 256) (h3 : 3 ≤ l.length) (h64 : l.length ≤ 64) (hw : wholeB l = true) (hk : kindL l < 7) :
    (cutB (ints (sizesK (kindL l))) (lenM (kindL l) l.length) = false ∧ frA (readF l) = frA Fr.zero ∧ (errL l : Int) = 3) ∨ ((sizesK (kindL l)).sum = lenM (kindL l) l.length ∧ ((plainB (gotM (kindL l) l) = false ∧ frA (readF l) = frA Fr.zero ∧ (errL l : Int) = 3) ∨
      (plainB (gotM (kindL l) l) = true ∧ ((bstr (if plainB (gotM (kindL l) l) then putF (gotM (kindL l) l) else [])).toList == (bstr l).toList) = false ∧ frA (readF l) = frA Fr.zero ∧ (errL l : Int) = 3) ∨
      (plainB (gotM (kindL l) l) = true ∧ bstr (if plainB (gotM (kindL l) l) then putF (gotM (kindL l) l) else []) = bstr l ∧ frA (readF l) = frA (gotM (kindL l) l) ∧ (errL l : Int) = 0))) := by
  by_cases hs : (sizesK (kindL l)).sum = lenM (kindL l) l.length
  · have hok := gotM_ok hk h3 hl hs
    refine .inr ⟨hs, ?_⟩
    cases hp : plainB (gotM (kindL l) l) with
    | false =>
      have he := mid_other hl h3 h64 hw (by rw [hp]; simp)
      exact .inl ⟨rfl, by rw [readF_no (by rw [he]; omega)], by rw [he]⟩
    | true =>
      simp only [if_true]
      by_cases hq : putF (gotM (kindL l) l) = l
      · obtain ⟨h0, hr⟩ := mid_same hok hp hq
        exact .inr (.inr ⟨trivial, by rw [hq], by rw [hr], by rw [h0]⟩)
      · have he := mid_other hl h3 h64 hw (fun h => hq h.2)
        refine .inr (.inl ⟨trivial, ?_, by rw [readF_no (by rw [he]; omega)], by rw [he]⟩)
        rw [run_eq_bstr _ _ (putF_ok hok) hl]
        simpa using hq
  · have he := mid_no hl h3 h64 hw hs
    refine .inl ⟨?_, by rw [readF_no (by rw [he]; omega)], by rw [he]⟩
    unfold cutB
    rw [ints_sum, Bool.and_eq_false_iff]
    refine .inr ?_
    rw [decide_eq_false_iff_not]
    omega
set_option maxHeartbeats 1000000 in
theorem rread_mid (A : Option Addr) (n c : Nat) (l : List Int) (w : World) (hb : Bts w A n c l) (h64 : n ≤ 64) (hw : wholeB l = true) (h3 : 3 ≤ n) (ht : told l = n) (h7 : l.getD 2 0 < 7) :
    Calls Try.prog 13 #[.slice A n c] w (ReadPost l w) := by
  have hlen := hb.len
  obtain ⟨bb, off, rfl, _⟩ := hb.at_ (by omega)
  have hk2 := kind_two hb.ok (by omega : 3 ≤ l.length)
  have hk : kindL l < 7 := by omega
  have hall := mid_all hb.ok (by omega) (by omega) hw hk
  have hwh := rtold_any (some ⟨bb, off, none⟩) n c l _ (hb.more (.cells (frA Fr.zero) 26))
  rw [toldZ_yes hw, ht] at hwh
  have hok := fun hs => gotM_ok hk (by omega : 3 ≤ l.length) hb.ok hs
  have htl := tagM_length (k := kindL l) (by omega : 3 ≤ l.length)
  have hrl := restM_length (k := kindL l) (by omega : 3 ≤ l.length)
  have hro := restM_ok (k := kindL l) hb.ok
  rw [hlen] at hall hok hrl
  obtain ⟨A5, hfrom, hb5⟩ := run_from hb 3 (lo := 3) rfl h3
  have hM0 : lenM (kindL l) n = if tgM (kindL l) n then n - 35 else n - 3 := rfl
  have hT0 : tagM (kindL l) l = if tgM (kindL l) n then l.drop (n - 32) else noTag := by unfold tagM; rw [hlen]
  have hR0 : restM (kindL l) l = (l.drop 3).take (lenM (kindL l) n) := by unfold restM; rw [hlen]
  have hkc : ((kindL l : Nat) : Int).toNat = kindL l := Int.toNat_natCast _
  have hkb : kindB ((kindL l : Nat) : Int) = true := by unfold kindB; rw [decide_eq_true_eq]; omega
  have hfd := fun w => fields_any (kindF (kindL l)) w (kindF_ok (by omega)) (kindF_pos _) hkb
  have hfk := fields_ks (kindF (kindL l))
  have hfl := fieldsF_few (kindF (kindL l))
  have hkk : (kindF (kindL l)).kind.toNat = kindL l := hkc
  rw [hkk] at hfk
  simp only [hkk] at hfd
  have hmd : (sizesK (kindL l)).sum = lenM (kindL l) n → ∀ (A : Option Addr) (n c : Nat) (w : World), Its .u64 w A n c (ints (cutL (sizesK (kindL l)) (restM (kindL l) l))) →
      Calls Try.prog 32 #[.int .i64 ((kindL l : Nat) : Int), .slice A n c] w fun e w' => e = .returned (.agg (frA (madeF (kindL l) (cutL (sizesK (kindL l)) (restM (kindL l) l))))) ∧ Below w.heap.size w w' :=
    fun hs A n c w hi => made_cut (kindL l) hk (restM (kindL l) l) hro (by rw [hrl]; exact hs) A n c w hi
  have hGl : (madeF (kindL l) (cutL (sizesK (kindL l)) (restM (kindL l) l))).tag.length = 32 := by rw [made_tag]; rfl
  have hset := fun w g => tag_set (w := w) (g := g) (t := 26) (madeF (kindL l) (cutL (sizesK (kindL l)) (restM (kindL l) l))) (tagM (kindL l) l) hGl htl
  have hput := fun hs w => rput_frame (gotM (kindL l) l) w (hok hs) _ rfl
  have hVl : (gotM (kindL l) l).tag.length = 32 := htl
  cases htg : tgM (kindL l) n with
  | false =>
    rw [htg] at hM0 hT0
    simp only [Bool.false_eq_true, if_false] at hM0 hT0
    have hbR : Bts w A5 (lenM (kindL l) n) (c - 3) (restM (kindL l) l) := by
      rw [hR0, hM0, ← hlen, ← List.length_drop, List.take_length, List.length_drop, hlen]
      exact hb5
    have hcase : tagK (kindL l) = false ∨ (tagK (kindL l) = true ∧ n - 3 < 32) := by
      unfold tgM at htg
      cases hq : tagK (kindL l) with
      | false => exact .inl rfl
      | true =>
        rw [hq, Bool.true_and, decide_eq_false_iff_not] at htg
        exact .inr ⟨rfl, by omega⟩
    exact rread_bare bb off n c l w hb h3 h64 (kindL l) hk hk2.symm hwh (frA Fr.zero) (frA (kindF (kindL l))) (frA (madeF (kindL l) (cutL (sizesK (kindL l)) (restM (kindL l) l)))) (frA (gotM (kindL l) l)) (frA (readF l)) (errL l) rfl built_zero rfl (frA_one _) (built_kind _)
      (fieldsF (kindF (kindL l))) (tagK (kindL l)) hfd hfl (sizesK (kindL l)) hfk (sizes_ok _ hk) A5 (n - 3) (c - 3) (lenM (kindL l) n) (by omega) hfrom (tagM (kindL l) l) (restM (kindL l) l) hmd (frA_size hGl) (frA_one _) hset (frA_size hVl) (frA_one _) htl _ _ hput hall hbR hM0 hcase hT0
  | true =>
    have htg2 := htg
    unfold tgM at htg2
    rw [Bool.and_eq_true, decide_eq_true_eq] at htg2
    rw [htg] at hM0 hT0
    simp only [if_true] at hM0 hT0
    have hMn : lenM (kindL l) n ≤ n - 3 := by omega
    have h32 : n - 3 - lenM (kindL l) n = 32 := by omega
    obtain ⟨A6, hfrom2, hb6⟩ := run_from hb5 ((lenM (kindL l) n : Nat) : Int) (lo := lenM (kindL l) n) rfl hMn
    obtain ⟨hto, hbR⟩ := run_to hb5 ((lenM (kindL l) n : Nat) : Int) (hi := lenM (kindL l) n) rfl hMn
    rw [← hR0] at hbR
    rw [h32] at hfrom2 hb6
    have hT1 : (l.drop 3).drop (lenM (kindL l) n) = tagM (kindL l) l := by
      rw [hT0, List.drop_drop]
      congr 1
      omega
    rw [hT1] at hb6
    exact rread_tag bb off n c l w hb h3 h64 (kindL l) hk hk2.symm hwh (frA Fr.zero) (frA (kindF (kindL l))) (frA (madeF (kindL l) (cutL (sizesK (kindL l)) (restM (kindL l) l)))) (frA (gotM (kindL l) l)) (frA (readF l)) (errL l) rfl built_zero rfl (frA_one _) (built_kind _)
      (fieldsF (kindF (kindL l))) (tagK (kindL l)) hfd hfl (sizesK (kindL l)) hfk (sizes_ok _ hk) A5 (n - 3) (c - 3) (lenM (kindL l) n) (by omega) hfrom (tagM (kindL l) l) (restM (kindL l) l) hmd (frA_size hGl) (frA_one _) hset (frA_size hVl) (frA_one _) htl _ _ hput hall hbR htg2.1 (by omega) A6 _ hfrom2 hb6 hto
theorem rread_any (A : Option Addr) (n c : Nat) (l : List Int) (w : World) (hb : Bts w A n c l) : Calls Try.prog 13 #[.slice A n c] w (ReadPost l w) := by
  by_cases h1 : 64 < n ∨ wholeB l = false
  · exact rread_early A n c l w hb h1
  · have h64 : n ≤ 64 := by omega
    have hw : wholeB l = true := by
      cases hq : wholeB l with
      | true => rfl
      | false => exact absurd (.inr hq) h1
    by_cases h2 : told l < 3 ∨ told l ≠ n ∨ 7 ≤ l.getD 2 0
    · exact rread_form A n c l w hb h64 hw h2
    · exact rread_mid A n c l w hb h64 hw (by omega) (by omega) (by omega)
end Go.Proofs.Ytncedbjbooemjaa

/- The walk over the document's answer Body. -/
namespace Go.Proofs.Ytncedbjbooemjaa
set_option linter.unusedVariables false
set_option linter.unusedSimpArgs false
open Go.RowKit

set_option maxRecDepth 100000 in
set_option maxHeartbeats 2000000 in
theorem rbody_any (f : Fr) (w : World) (hok : f.ok) : Calls Try.prog 18 #[frV f] w (GivesS (bodyF f) w) := by
  have hpc := fun w => rplain_any f w hok
  have hCs : (frA f).size = 40 := frA_size hok.len
  cases hp : plainB f with
  | false =>
    have hbd : bodyF f = [] := by unfold bodyF; rw [hp]; rfl
    rw [hbd]
    rw [hp] at hpc
    unfold frV at hpc ⊢
    obtain ⟨C, hC⟩ : ∃ C, frA f = C := ⟨_, rfl⟩
    rw [hC] at hpc hCs ⊢
    have HPC := Lib.hid hpc
    have HCS := Lib.hid hCs
    clear hpc hCs hC hok hp hbd
    go_enter Try.func18, Try.ntmps18
    go_wp2_with (first
      | ((with_reducible refine wpList_load_blk 26 _ rfl w.heap.size ?hx2 26 C (0, 0) _ (heap_alloc_new w _) Try.underlying26 ?hd2 (info_frame HCS.out) ?_ ?hw2); (case hx2 => rfl); (case hd2 => rfl); (case hw2 => rfl))
      | (go_at_call 24; (with_reducible refine (HPC.out _).mono ?_); rintro e w1 ⟨rfl, hb1⟩))
    go_ret
    exact ⟨none, 0, 0, rfl, Bts.nil _, (after_one hb1).1⟩
  | true =>
    have hfc := fun w => front_any f w hok hp
    have hbd : bodyF f = if tagK f.kind.toNat then frontF f else [] := by unfold bodyF; rw [hp, Bool.true_and]
    have hPok := frontF_ok f
    unfold FrontPost at hfc
    rw [hp] at hpc
    obtain ⟨t, ht⟩ : ∃ t, tagK f.kind.toNat = t := ⟨_, rfl⟩
    rw [ht] at hfc hbd
    rw [hbd]
    obtain ⟨L, hL⟩ : ∃ L, frontF f = L := ⟨_, rfl⟩
    rw [hL] at hfc hPok ⊢
    unfold frV at hpc hfc ⊢
    obtain ⟨C, hC⟩ : ∃ C, frA f = C := ⟨_, rfl⟩
    rw [hC] at hpc hCs hfc ⊢
    have HPC := Lib.hid hpc
    have HFC := Lib.hid hfc
    have HCS := Lib.hid hCs
    have HPO := Lib.hid hPok
    clear hpc hCs hC hok hp hfc hPok hL ht hbd
    cases t <;>
    · go_enter Try.func18, Try.ntmps18
      go_wp2_with (first
        | (go_at_call 24; (with_reducible refine (HPC.out _).mono ?_); rintro e w1 ⟨rfl, hb1⟩
           have hC1 := after_alloc hb1)
        | (go_at_call 25; (with_reducible refine (HFC.out _).mono ?_); rintro e w2 ⟨v2, rfl, ho2, hb2⟩
           have hB2 := hb1.trans (hb2.mono hb1.size))
        | ((with_reducible refine wpList_load_blk 26 _ rfl w.heap.size ?hx3 26 C (0, 0) _ hC1 Try.underlying26 ?hd3 (info_frame HCS.out) ?_ ?hw3); (case hx3 => rfl); (case hd3 => rfl); (case hw3 => rfl))
        | ((with_reducible refine wpList_load_blk 26 _ rfl w.heap.size ?hx2 26 C (0, 0) _ (heap_alloc_new w _) Try.underlying26 ?hd2 (info_frame HCS.out) ?_ ?hw2); (case hx2 => rfl); (case hd2 => rfl); (case hw2 => rfl)))
      obtain ⟨A4, m4, c4, rfl, hbt4⟩ := ho2.slice HPO.out
      go_ret
      first
        | exact ⟨none, 0, 0, rfl, Bts.nil _, (after_one hB2).1⟩
        | exact ⟨A4, m4, c4, rfl, hbt4, (after_one hB2).1⟩
end Go.Proofs.Ytncedbjbooemjaa

/- The laws' arguments, opened: a frame by value. -/
namespace Go.Proofs.Ytncedbjbooemjaa
set_option linter.unusedVariables false
set_option linter.unusedSimpArgs false
open Go.ChangeShapes Go.WideShapes Go.ChangeAt Go.RowKit

theorem cellsFrame : Try.prog.cellsOf 26 = 40 := by kernel_rfl
theorem cellsId : Try.prog.cellsOf 24 = 32 := by kernel_rfl
theorem cellsU64' : Try.prog.cellsOf 22 = 1 := by kernel_rfl
theorem at_take {l : List Value} {i : Nat} {v : Value} (h : (l.drop i).take 1 = [v]) : l[i]? = some v := by
  have h1 : ((l.drop i).take 1)[0]? = some v := by rw [h]; rfl
  rw [List.getElem?_take, if_pos (by omega), List.getElem?_drop, Nat.add_zero] at h1
  exact h1
section
variable {H : Type} {enc : TypeId × Value → H} {W : World} {base : Nat} {spare : Nat → Bool} {held : Bool}
/-- the cells of a frame -/
theorem frame_cells {fuel : Nat} {cs : List Value} {x : DataW H × List MemPlace} (hl : cs.length = 40) (h : DataW.trod enc Try.prog W base spare held fuel 26 cs = some x) : ∃ f : Fr, cs = frC f ∧ f.ok := by
  obtain ⟨xs, n, _, hx, _, hlen, hg⟩ := DataW.trod_struct Try.underlying26 h
  match xs, hlen with
  | [y0, y1, y2, y3, y4, y5, y6, y7, y8], _ =>
    have g0 : DataW.trod enc Try.prog W base spare held n 3 ((cs.drop 0).take (Try.prog.cellsOf 3)) = some y0 := hg 0 _ rfl
    have g1 : DataW.trod enc Try.prog W base spare held n 3 ((cs.drop 1).take (Try.prog.cellsOf 3)) = some y1 := hg 1 _ rfl
    have g2 : DataW.trod enc Try.prog W base spare held n 22 ((cs.drop 2).take (Try.prog.cellsOf 22)) = some y2 := hg 2 _ rfl
    have g3 : DataW.trod enc Try.prog W base spare held n 22 ((cs.drop 3).take (Try.prog.cellsOf 22)) = some y3 := hg 3 _ rfl
    have g4 : DataW.trod enc Try.prog W base spare held n 3 ((cs.drop 4).take (Try.prog.cellsOf 3)) = some y4 := hg 4 _ rfl
    have g5 : DataW.trod enc Try.prog W base spare held n 22 ((cs.drop 5).take (Try.prog.cellsOf 22)) = some y5 := hg 5 _ rfl
    have g6 : DataW.trod enc Try.prog W base spare held n 3 ((cs.drop 6).take (Try.prog.cellsOf 3)) = some y6 := hg 6 _ rfl
    have g7 : DataW.trod enc Try.prog W base spare held n 3 ((cs.drop 7).take (Try.prog.cellsOf 3)) = some y7 := hg 7 _ rfl
    have g8 : DataW.trod enc Try.prog W base spare held n 24 ((cs.drop 8).take (Try.prog.cellsOf 24)) = some y8 := hg 8 _ rfl
    rw [cellsInt] at g0 g1 g4 g6 g7
    rw [cellsU64'] at g2 g3 g5
    rw [cellsId] at g8
    obtain ⟨x0, e0, _, w0⟩ := DataW.trod_int Try.underlying3 (x := y0) g0
    obtain ⟨x1, e1, _, w1⟩ := DataW.trod_int Try.underlying3 (x := y1) g1
    obtain ⟨x2, e2, _, w2⟩ := DataW.trod_int Try.underlying22 (x := y2) g2
    obtain ⟨x3, e3, _, w3⟩ := DataW.trod_int Try.underlying22 (x := y3) g3
    obtain ⟨x4, e4, _, w4⟩ := DataW.trod_int Try.underlying3 (x := y4) g4
    obtain ⟨x5, e5, _, w5⟩ := DataW.trod_int Try.underlying22 (x := y5) g5
    obtain ⟨x6, e6, _, w6⟩ := DataW.trod_int Try.underlying3 (x := y6) g6
    obtain ⟨x7, e7, _, w7⟩ := DataW.trod_int Try.underlying3 (x := y7) g7
    have b0 := bounds_i64 w0
    have q0 := at_take e0
    have b1 := bounds_i64 w1
    have q1 := at_take e1
    have b2 := bounds_u64 w2
    have q2 := at_take e2
    have b3 := bounds_u64 w3
    have q3 := at_take e3
    have b4 := bounds_i64 w4
    have q4 := at_take e4
    have b5 := bounds_u64 w5
    have q5 := at_take e5
    have b6 := bounds_i64 w6
    have q6 := at_take e6
    have b7 := bounds_i64 w7
    have q7 := at_take e7
    obtain ⟨zs, m, _, _, _, hzl, hz⟩ := DataW.trod_array Try.underlying24 (x := y8) g8
    have each : ∀ i, i < 32 → ∃ z : Int, cs[8 + i]? = some (.int .u8 z) ∧ (0 ≤ z ∧ z < 256) := by
      intro i hi
      have e := hz i (by omega)
      rw [cellsU8] at e
      obtain ⟨y, hy⟩ : ∃ y, zs[i]? = some y := ⟨_, List.getElem?_eq_getElem (by omega)⟩
      rw [hy] at e
      obtain ⟨z, ez, _, wz⟩ := DataW.trod_int Try.underlying5 e
      have bz := bounds_u8 wz
      have qz := at_take ez
      rw [Nat.mul_one, List.getElem?_take, if_pos (by omega), List.getElem?_drop] at qz
      exact ⟨z, qz, bz.1, by omega⟩
    obtain ⟨q, hq⟩ := Go.Deep.choose_lt each
    refine ⟨⟨x0, x1, x2, x3, x4, x5, x6, x7, (List.range 32).map q⟩, ?_, ⟨b0, b1, ⟨b2.1, Int.lt_of_le_of_lt b2.2 (by decide)⟩, ⟨b3.1, Int.lt_of_le_of_lt b3.2 (by decide)⟩, b4, ⟨b5.1, Int.lt_of_le_of_lt b5.2 (by decide)⟩, b6, b7, by simp, ?_⟩⟩
    · apply List.ext_getElem?
      intro i
      by_cases h8 : i < 8
      · have : i = 0 ∨ i = 1 ∨ i = 2 ∨ i = 3 ∨ i = 4 ∨ i = 5 ∨ i = 6 ∨ i = 7 := by omega
        rcases this with rfl | rfl | rfl | rfl | rfl | rfl | rfl | rfl <;> assumption
      · by_cases h40 : i < 40
        · obtain ⟨j, rfl⟩ : ∃ j, i = 8 + j := ⟨i - 8, by omega⟩
          rw [(hq j (by omega)).1, frC, List.getElem?_append_right (by simp)]
          simp [byv, List.getElem?_range (show j < 32 by omega)]
        · rw [List.getElem?_eq_none (by omega), List.getElem?_eq_none (by rw [frC_length (by simp)]; omega)]
    · intro j
      dsimp only
      by_cases h32 : j < 32
      · simp only [List.getD_eq_getElem?_getD, List.getElem?_map, List.getElem?_range h32, Option.map_some, Option.getD_some]
        exact (hq j h32).2
      · rw [List.getD_eq_getElem?_getD, List.getElem?_eq_none (by simp; omega)]
        simp
theorem open_frame {v : Value} {r : Reach} {b0 : Nat} {d : DataW H} {p : List MemPlace} (hv : Value.okWide Try.prog W r b0 26 v) (h : DataW.Trod enc Try.prog W base spare held 26 v d p) : ∃ f : Fr, v = frV f ∧ f.ok := by
  obtain ⟨cs, rfl, hsz⟩ := okWide_struct Try.underlying26 hv
  obtain ⟨l⟩ := cs
  obtain ⟨fuel, hf⟩ := h
  obtain ⟨f, rfl, hok⟩ := frame_cells (hsz.trans cellsFrame) hf
  exact ⟨f, rfl, hok⟩
end
end Go.Proofs.Ytncedbjbooemjaa

/- The laws' arguments, opened: a slice of frames; bytes that are split, as lists. -/
namespace Go.Proofs.Ytncedbjbooemjaa
set_option linter.unusedVariables false
set_option linter.unusedSimpArgs false
open Go.ChangeShapes Go.WideShapes Go.ChangeAt Go.RowKit

/-- a slice of frames -/
structure Frs (w : World) (A : Option Addr) (n c : Nat) (l : List Fr) : Prop where
  rws : Rws 40 w A n c (l.map frC)
  ok : ∀ f ∈ l, f.ok
theorem Frs.len {w : World} {A : Option Addr} {n c : Nat} {l : List Fr} (h : Frs w A n c l) : l.length = n := by rw [← h.rws.len, List.length_map]
theorem Frs.below {w w' : World} {A : Option Addr} {n c : Nat} {l : List Fr} (h : Frs w A n c l) (hb : Below w.heap.size w w') : Frs w' A n c l := ⟨h.rws.below hb, h.ok⟩
theorem add_addr2 (b o m i : Nat) : (((⟨b, o, none⟩ : Addr).add m).add i) = ⟨b, o + m + i, none⟩ := by rw [Addr.add_mid, Addr.add_mid]
theorem open_frames {H : Type} {enc : TypeId × Value → H} {W : World} {base : Nat} {spare : Nat → Bool} {held : Bool} {fuel : Nat} {cs : List Value} {x : DataW H × List MemPlace} (h : DataW.trod enc Try.prog W base spare held fuel 40 cs = some x) :
    ∃ (A : Option Addr) (n c : Nat) (l : List Fr), cs = [.slice A n c] ∧ Frs W A n c l := by
  rcases Go.Deep.open_slice Try.underlying40 h with ⟨hcs, _⟩ | ⟨a, len, cap, m, n, D, Pl, hcs, _, hl, hm, hz, _, hx⟩
  · exact ⟨none, 0, 0, [], hcs, Rws.nil 40 W, fun p hp => by cases hp⟩
  · have hlm : len ≤ m := by rw [hz]; split <;> omega
    have each : ∀ i, i < len → ∃ f : Fr, (∀ j, j < 40 → W.cell? ((a.add (i * 40)).add j) = (frC f)[j]?) ∧ f.ok := by
      intro i hi
      obtain ⟨cs', h1, h2⟩ := hx i (by omega)
      rw [cellsFrame] at h1
      obtain ⟨_, h3, h4⟩ := World.cells?_some h1
      obtain ⟨f, rfl, hok⟩ := frame_cells h3 h2
      exact ⟨f, h4, hok⟩
    haveI : Inhabited Fr := ⟨Fr.zero⟩
    obtain ⟨q, hq⟩ := Go.Deep.choose_lt each
    refine ⟨some a, len, cap, (List.range len).map q, hcs, ⟨by simp, ?_, ?_, hl, hm, (fun e => by cases e), ?_⟩, ?_⟩
    · intro r hr
      obtain ⟨f, hf, rfl⟩ := List.mem_map.1 hr
      obtain ⟨i, hi, rfl⟩ := List.mem_map.1 hf
      exact frC_length (hq i (List.mem_range.1 hi)).2.len
    · intro r hr u hu
      obtain ⟨f, _, rfl⟩ := List.mem_map.1 hr
      have h1 := frA_one f
      unfold frA at h1
      rw [List.all_toArray, List.all_eq_true] at h1
      exact h1 u hu
    · intro hn
      obtain ⟨ab, ao, am⟩ := a
      have h0 := (hq 0 hn).1 0 (by omega)
      have ham : am = none := by
        have h1 : (frC (q 0))[0]? = some (.int .i64 (q 0).kind) := rfl
        rw [h1] at h0
        simpa [Addr.add] using World.cell?_spot h0
      subst ham
      refine ⟨ab, ao, rfl, fun j hj i hi => ?_⟩
      have h1 := (hq j hj).1 i hi
      rw [add_addr2] at h1
      rw [h1]
      have hl40 : i < (frC (q j)).length := by rw [frC_length (hq j hj).2.len]; exact hi
      simp [List.getD_eq_getElem?_getD, List.getElem?_range hj, hl40]
    · intro f hf
      obtain ⟨i, hi, rfl⟩ := List.mem_map.1 hf
      exact (hq i (List.mem_range.1 hi)).2

theorem framesL_whole {l : List Int} (h : wholeB l = true) : framesL l = l.take (told l) :: framesL (l.drop (told l)) ∧ restL l = restL (l.drop (told l)) := by
  constructor
  · unfold framesL framesTo
    rw [cnt_whole h, Nat.add_comm 1, List.range_succ_eq_map, List.map_cons, List.map_map]
    congr 1
    refine List.map_congr_left fun k _ => ?_
    simp only [Function.comp, Nat.succ_eq_add_one, pos_succ, ← List.drop_drop]
  · unfold restL
    rw [cnt_whole h, Nat.add_comm 1, pos_succ, ← List.drop_drop]
theorem framesL_not {l : List Int} (h : wholeB l = false) : framesL l = [] ∧ restL l = l := by
  unfold framesL framesTo restL
  rw [cnt_not h]
  exact ⟨rfl, rfl⟩
/-- all of it is all the bytes -/
theorem all_back (m : Nat) : ∀ l : List Int, l.length ≤ m → (framesL l).flatten ++ restL l = l := by
  induction m with
  | zero =>
    intro l hl
    obtain ⟨h1, h2⟩ := framesL_not (whole_nil (l := l) (by omega))
    rw [h1, h2]; rfl
  | succ m ih =>
    intro l hl
    cases h : wholeB l with
    | false =>
      obtain ⟨h1, h2⟩ := framesL_not h
      rw [h1, h2]; rfl
    | true =>
      have h3 := whole_len h
      obtain ⟨h1, h2⟩ := framesL_whole h
      rw [h1, h2, List.flatten_cons, List.append_assoc, ih _ (by rw [List.length_drop]; omega), List.take_append_drop]
theorem put_more {f : Fr} (hT : f.tag.length = 32) (m : List Int) : wholeB (putF f ++ m) = true ∧ told (putF f ++ m) = (putF f).length := by
  have h1 := put_whole hT
  have h2 := put_told hT
  have h3 := whole_len h1
  have h4 : (putF f ++ m).take 2 = (putF f).take 2 := List.take_append_of_le_length (by omega)
  unfold told wholeB at *
  rw [h4]
  refine ⟨?_, h2⟩
  rw [decide_eq_true_eq] at h1 ⊢
  rw [List.length_append]
  omega
/-- frames that come one behind the other -/
theorem split_put : ∀ (fs : List Fr) (_ : ∀ f ∈ fs, f.tag.length = 32) (B : List Int), framesL ((fs.map putF).flatten ++ B) = fs.map putF ++ framesL B ∧ restL ((fs.map putF).flatten ++ B) = restL B
  | [], _, _ => ⟨rfl, rfl⟩
  | f :: fs, h, B => by
    obtain ⟨h1, h2⟩ := put_more (h f (by simp)) ((fs.map putF).flatten ++ B)
    obtain ⟨i1, i2⟩ := split_put fs (fun g hg => h g (by simp [hg])) B
    obtain ⟨e1, e2⟩ := framesL_whole h1
    rw [List.map_cons, List.flatten_cons, List.append_assoc, e1, e2, h2, List.take_left' rfl, List.drop_left' rfl, i1, i2]
    exact ⟨rfl, rfl⟩
/-- a beginning of a frame is none -/
theorem begin_not {f : Fr} (hT : f.tag.length = 32) (k : Nat) (hk : k < (putF f).length) : wholeB ((putF f).take k) = false := by
  by_cases h2 : k < 2
  · exact whole_nil (by rw [List.length_take]; omega)
  · have h3 := put_told hT
    have h4 : ((putF f).take k).take 2 = (putF f).take 2 := by rw [List.take_take, Nat.min_eq_left (by omega)]
    unfold told at h3
    unfold wholeB
    rw [decide_eq_false_iff_not, h4, List.length_take]
    omega
end Go.Proofs.Ytncedbjbooemjaa

/- The walk over the law FrameCut: no beginning of a frame but all of it is read; nor is anything longer. -/
namespace Go.Proofs.Ytncedbjbooemjaa
set_option linter.unusedVariables false
set_option linter.unusedSimpArgs false
open Go.RowKit

/-- Read's call, its results under names -/
theorem read_named (l : List Int) (d : Int) (hd : errL l = d) (hl : ∀ j, 0 ≤ l.getD j 0 ∧ l.getD j 0 < 256) : ∃ F : Array Value, F.size = 40 ∧ F.all (·.oneCell') = true ∧
    ∀ (A : Option Addr) (n c : Nat) (w : World), Bts w A n c l → Calls Try.prog 12 #[.slice A n c] w fun e w' => e = .returned (.tuple #[.agg F, .int .i64 d]) ∧ Below w.heap.size w w' :=
  ⟨frA (readF l), frA_size (read_okay l hl).len, frA_one _, fun A n c w hb => (read_any A n c l w hb).mono fun e w' ⟨he, hB⟩ => ⟨by rw [he, hd]; rfl, hB⟩⟩
theorem ok_take {l : List Int} (h : ∀ j, 0 ≤ l.getD j 0 ∧ l.getD j 0 < 256) (k : Nat) : ∀ j, 0 ≤ (l.take k).getD j 0 ∧ (l.take k).getD j 0 < 256 := by
  intro j
  have := h j
  simp only [List.getD_eq_getElem?_getD, List.getElem?_take] at this ⊢
  split
  · exact this
  · simp
set_option maxRecDepth 100000 in
set_option maxHeartbeats 2000000 in
theorem fcut_no (f : Fr) (k : Int) (A : Option Addr) (n c : Nat) (w : World) (hf : f.ok) (hp : plainB f = false) :
    Calls Try.prog 7 #[frV f, .int .i64 k, .slice A n c] w fun e w' => e = .returned (.bool true) ∧ Below w.heap.size w w' := by
  have hpc := fun w => put_plain_b f w hf false hp
  have hCs := frA_size hf.len
  unfold frV at hpc ⊢
  obtain ⟨C, hC⟩ : ∃ C, frA f = C := ⟨_, rfl⟩
  rw [hC] at hpc hCs ⊢
  have HP := Lib.hid hpc
  have HCS := Lib.hid hCs
  clear hpc hCs hC
  go_enter Try.func7, Try.ntmps7
  go_wp2_with (first
    | (go_at_call 9; (with_reducible refine (fawake_any _).mono ?_); rintro e w1 ⟨rfl, hb1⟩
       have hB1 := (after_one hb1).1
       have hX1 := (after_one hb1).2.2)
    | ((with_reducible refine wpList_load_blk 26 _ rfl w.heap.size ?hx2 26 C (0, 0) _ hX1 Try.underlying26 ?hd2 (info_frame HCS.out) ?_ ?hw2); (case hx2 => rfl); (case hd2 => rfl); (case hw2 => rfl))
    | (go_at_call 10; (with_reducible refine (HP.out _).mono ?_); rintro e w2 ⟨A2, m2, c2, rfl, hv2, hb2⟩
       have hB2 := hB1.trans (hb2.mono hB1.size)))
  go_ret
  exact ⟨rfl, hB2⟩
set_option maxRecDepth 100000 in
set_option maxHeartbeats 2000000 in
theorem fcut_big (f : Fr) (k : Int) (A : Option Addr) (n c : Nat) (w : World) (hf : f.ok) (hp : plainB f = true) (hn : 100 < n) :
    Calls Try.prog 7 #[frV f, .int .i64 k, .slice A n c] w fun e w' => e = .returned (.bool true) ∧ Below w.heap.size w w' := by
  have hpc := fun w => put_plain_b f w hf true hp
  have hn' : (100 : Int) < n := by omega
  have hCs := frA_size hf.len
  unfold frV at hpc ⊢
  obtain ⟨C, hC⟩ : ∃ C, frA f = C := ⟨_, rfl⟩
  rw [hC] at hpc hCs ⊢
  have HP := Lib.hid hpc
  have HCS := Lib.hid hCs
  clear hpc hCs hC
  go_enter Try.func7, Try.ntmps7
  go_wp2_with (first
    | (go_at_call 9; (with_reducible refine (fawake_any _).mono ?_); rintro e w1 ⟨rfl, hb1⟩
       have hB1 := (after_one hb1).1
       have hX1 := (after_one hb1).2.2)
    | ((with_reducible refine wpList_load_blk 26 _ rfl w.heap.size ?hx2 26 C (0, 0) _ hX1 Try.underlying26 ?hd2 (info_frame HCS.out) ?_ ?hw2); (case hx2 => rfl); (case hd2 => rfl); (case hw2 => rfl))
    | (go_at_call 10; (with_reducible refine (HP.out _).mono ?_); rintro e w2 ⟨A2, m2, c2, rfl, hv2, hb2⟩
       have hB2 := hB1.trans (hb2.mono hB1.size)))
  go_ret
  exact ⟨rfl, hB2⟩

set_option maxRecDepth 100000 in
set_option maxHeartbeats 4000000 in
theorem fcut_yes (f : Fr) (k : Int) (A : Option Addr) (n c : Nat) (l : List Int) (w : World) (hf : f.ok) (hp : plainB f = true) (hn : n ≤ 100) (hl : Bts w A n c l) :
    Calls Try.prog 7 #[frV f, .int .i64 k, .slice A n c] w fun e w' => e = .returned (.bool true) ∧ Below w.heap.size w w' := by
  have hpc := fun w => put_plain_b f w hf true hp
  rw [if_pos rfl] at hpc
  have hsm := putF_small f hf.len
  have hok1 := putF_ok hf
  have hlen := hl.len
  have hdd : (64 < ((putF f).length : Int) + n ∧ (0 : Int) < n ∧ errL (putF f ++ l) = 2) ∨ ((putF f).length + (n : Int) ≤ 64 ∧ n = 0 ∧ errL (putF f ++ l) = 0) ∨ (((putF f).length : Int) + n ≤ 64 ∧ (0 : Int) < n ∧ errL (putF f ++ l) = 3) := by
    by_cases h0 : n = 0
    · have : l = [] := List.eq_nil_of_length_eq_zero (by omega)
      subst this
      rw [List.append_nil]
      exact .inr (.inl ⟨by omega, h0, (put_read hf hp).1⟩)
    · have h := put_longer hf hp l (by omega)
      rw [hlen] at h
      by_cases h1 : 64 < (putF f).length + n
      · rw [if_pos h1] at h
        exact .inl ⟨by omega, by omega, h⟩
      · rw [if_neg h1] at h
        exact .inr (.inr ⟨by omega, by omega, h⟩)
  have hkk : (k < 0 ∨ ((putF f).length : Int) ≤ k) ∨ ∃ K : Nat, k = K ∧ K < (putF f).length ∧ errL ((putF f).take K) = 4 := by
    by_cases h : k < 0 ∨ ((putF f).length : Int) ≤ k
    · exact .inl h
    · obtain ⟨K, rfl⟩ := Int.eq_ofNat_of_zero_le (show 0 ≤ k by omega)
      exact .inr ⟨K, rfl, by omega, put_begin hf K (by omega)⟩
  have hCs := frA_size hf.len
  unfold frV at hpc ⊢
  obtain ⟨C, hC⟩ : ∃ C, frA f = C := ⟨_, rfl⟩
  rw [hC] at hpc hCs ⊢
  obtain ⟨X, hX⟩ : ∃ X, putF f = X := ⟨_, rfl⟩
  rw [hX] at hpc hsm hok1 hdd hkk
  obtain ⟨p, hpl⟩ : ∃ p, X.length = p := ⟨_, rfl⟩
  rw [hpl] at hsm hdd hkk
  have hp54 : (p : Int) ≤ 54 := by omega
  have hn100 : (n : Int) ≤ 100 := by omega
  have HP := Lib.hid hpc
  have HCS := Lib.hid hCs
  have HOK := Lib.hid hok1
  have HPL := Lib.hid hpl
  have HLN := Lib.hid hlen
  clear hpc hCs hC hX hok1 hpl hsm hlen
  obtain ⟨d, hd⟩ : ∃ d, errL (X ++ l) = d := ⟨_, rfl⟩
  rw [hd] at hdd
  obtain ⟨F, hFs, hF1, hF⟩ := read_named (X ++ l) d hd (ok_append HOK.out hl.ok)
  have HFS := Lib.hid hFs
  have HF1 := Lib.hid hF1
  have HF := Lib.hid hF
  clear hFs hF1 hF hd
  rcases hkk with hko | ⟨K, rfl, hK, hKe⟩
  · rcases hdd with ⟨h1, h2, rfl⟩ | ⟨h1, rfl, rfl⟩ | ⟨h1, h2, rfl⟩
    all_goals
      go_enter Try.func7, Try.ntmps7
      go_wp2_with (first
        | (go_at_call 9; (with_reducible refine (fawake_any _).mono ?_); rintro e w1 ⟨rfl, hb1⟩
           have hB1 := (after_one hb1).1
           have hX1 := (after_one hb1).2.2)
        | ((with_reducible refine wpList_load_blk 26 _ rfl w.heap.size ?hx2 26 C (0, 0) _ hX1 Try.underlying26 ?hd2 (info_frame HCS.out) ?_ ?hw2); (case hx2 => rfl); (case hd2 => rfl); (case hw2 => rfl))
        | (go_at_call 10; (with_reducible refine (HP.out _).mono ?_); rintro e w2 ⟨A2, m2, c2, rfl, hv2, hb2⟩
           obtain rfl : m2 = p := by rw [← hv2.len]; exact HPL.out
           have hB2 := hB1.trans (hb2.mono hB1.size))
        | (at_builtin
           refine wpList_append_b rfl _ _ rfl w2.heap.size (.slice none 0 0) [] rfl (Own.nil _ _) A2 m2 c2 X rfl hv2 (by simp only [List.length_nil]; omega) (Nat.le_refl _) ?_
           intro v3 w3 hown3 hg3
           rw [List.nil_append] at hown3
           have hb3 : Below w2.heap.size w2 w3 := (Below.refl _ _).grown hg3 (Nat.le_refl _) (fun k hk => by cases hk))
        | (at_builtin
           refine wpList_append_b rfl _ _ rfl w2.heap.size v3 X rfl hown3 A _ c l rfl (hl.below (hB2.trans (hb3.mono hB2.size))) (by rw [HPL.out]; omega) hb3.size ?_
           intro v4 w4 hown4 hg4
           have hb4 : Below w2.heap.size w2 w4 := hb3.grown hg4 hb3.size (fun k hk => (hown3.size k hk).1)
           obtain ⟨A4, m4, c4, rfl, hbt4⟩ := hown4.slice (ok_append HOK.out hl.ok)
           have hB4 := hB2.trans (hb4.mono hB2.size)
           have hv4 := hv2.below hb4)
        | (go_at_call 12; (with_reducible refine (HF.out A4 m4 c4 w4 hbt4).mono ?_); rintro e w5 ⟨rfl, hb5⟩
           have hB5 := hB4.trans (hb5.mono hB4.size)
           have hv5 := hv4.below hb5)
        | ((refine wpList_store_blk rfl 26 _ _ rfl w5.heap.size F ?hx3 ?hy3 26 _ (heap_alloc_new w5 _) (info_frame HFS.out) ?hs3 HF1.out ?_); (case hx3 => rfl); (case hy3 => rfl); (case hs3 => rw [HFS.out]; rfl)
           intro w6 hg6 _ _
           have hB6 : Below w.heap.size w w6 := (hB5.alloc hB5.size _).grown hg6 (Nat.le_trans hB5.size (size_le_alloc _ _)) (fun k e => by cases e; exact hB5.size)
           have hb56 : Below w5.heap.size w5 w6 := (one_alloc w5 _).grown hg6 (size_le_alloc _ _) (fun k e => by cases e; exact Nat.le_refl _)
           have hv6 := hv5.below hb56
           clear hg6))
    all_goals
      go_ret
      first | exact ⟨rfl, hB6⟩ | (exfalso; omega) | (exfalso; rename_i h; simp only [Bool.not_eq_true', decide_eq_false_iff_not, beq_iff_eq] at h; omega)
  · obtain ⟨G, hGs, hG1, hG⟩ := read_named (X.take K) 4 hKe (ok_take HOK.out K)
    have HGS := Lib.hid hGs
    have HG1 := Lib.hid hG1
    have HG := Lib.hid hG
    have hK' : (K : Int) < p := by omega
    have hK0 : (0 : Int) ≤ K := by omega
    clear hGs hG1 hG hKe
    rcases hdd with ⟨h1, h2, rfl⟩ | ⟨h1, rfl, rfl⟩ | ⟨h1, h2, rfl⟩
    all_goals
      go_enter Try.func7, Try.ntmps7
      go_wp2_with (first
        | (go_at_call 9; (with_reducible refine (fawake_any _).mono ?_); rintro e w1 ⟨rfl, hb1⟩
           have hB1 := (after_one hb1).1
           have hX1 := (after_one hb1).2.2)
        | ((with_reducible refine wpList_load_blk 26 _ rfl w.heap.size ?hx2 26 C (0, 0) _ hX1 Try.underlying26 ?hd2 (info_frame HCS.out) ?_ ?hw2); (case hx2 => rfl); (case hd2 => rfl); (case hw2 => rfl))
        | (go_at_call 10; (with_reducible refine (HP.out _).mono ?_); rintro e w2 ⟨A2, m2, c2, rfl, hv2, hb2⟩
           obtain rfl : m2 = p := by rw [← hv2.len]; exact HPL.out
           have hB2 := hB1.trans (hb2.mono hB1.size))
        | (at_builtin
           refine wpList_append_b rfl _ _ rfl w2.heap.size (.slice none 0 0) [] rfl (Own.nil _ _) A2 m2 c2 X rfl hv2 (by simp only [List.length_nil]; omega) (Nat.le_refl _) ?_
           intro v3 w3 hown3 hg3
           rw [List.nil_append] at hown3
           have hb3 : Below w2.heap.size w2 w3 := (Below.refl _ _).grown hg3 (Nat.le_refl _) (fun k hk => by cases hk))
        | (at_builtin
           refine wpList_append_b rfl _ _ rfl w2.heap.size v3 X rfl hown3 A _ c l rfl (hl.below (hB2.trans (hb3.mono hB2.size))) (by rw [HPL.out]; omega) hb3.size ?_
           intro v4 w4 hown4 hg4
           have hb4 : Below w2.heap.size w2 w4 := hb3.grown hg4 hb3.size (fun k hk => (hown3.size k hk).1)
           obtain ⟨A4, m4, c4, rfl, hbt4⟩ := hown4.slice (ok_append HOK.out hl.ok)
           have hB4 := hB2.trans (hb4.mono hB2.size)
           have hv4 := hv2.below hb4)
        | (go_at_call 12; (with_reducible refine (HF.out A4 m4 c4 w4 hbt4).mono ?_); rintro e w5 ⟨rfl, hb5⟩
           have hB5 := hB4.trans (hb5.mono hB4.size)
           have hv5 := hv4.below hb5)
        | ((refine wpList_store_blk rfl 26 _ _ rfl w5.heap.size F ?hx3 ?hy3 26 _ (heap_alloc_new w5 _) (info_frame HFS.out) ?hs3 HF1.out ?_); (case hx3 => rfl); (case hy3 => rfl); (case hs3 => rw [HFS.out]; rfl)
           intro w6 hg6 _ _
           have hB6 : Below w.heap.size w w6 := (hB5.alloc hB5.size _).grown hg6 (Nat.le_trans hB5.size (size_le_alloc _ _)) (fun k e => by cases e; exact hB5.size)
           have hb56 : Below w5.heap.size w5 w6 := (one_alloc w5 _).grown hg6 (size_le_alloc _ _) (fun k e => by cases e; exact Nat.le_refl _)
           have hv6 := hv5.below hb56
           have hcut := (run_to hv6 (K : Int) rfl (Nat.le_of_lt hK)).1
           have hbt6 := (run_to hv6 (K : Int) rfl (Nat.le_of_lt hK)).2
           clear hg6)
        | (go_at_call 12; (with_reducible refine (HG.out A2 K c2 w6 hbt6).mono ?_); rintro e w7 ⟨rfl, hb7⟩
           have hB7 := hB6.trans (hb7.mono hB6.size))
        | ((refine wpList_store_blk rfl 26 _ _ rfl w7.heap.size G ?hx4 ?hy4 26 _ (heap_alloc_new w7 _) (info_frame HGS.out) ?hs4 HG1.out ?_); (case hx4 => rfl); (case hy4 => rfl); (case hs4 => rw [HGS.out]; rfl)
           intro w8 hg8 _ _
           have hB8 : Below w.heap.size w w8 := (hB7.alloc hB7.size _).grown hg8 (Nat.le_trans hB7.size (size_le_alloc _ _)) (fun k e => by cases e; exact hB7.size)
           clear hg8))
    all_goals
      go_ret
      first | exact ⟨rfl, hB8⟩ | exact ⟨rfl, hB6⟩ | (exfalso; omega) | (exfalso; rename_i h; simp only [Bool.not_eq_true', decide_eq_false_iff_not, beq_iff_eq] at h; omega)
theorem fcut_all (f : Fr) (k : Int) (A : Option Addr) (n c : Nat) (l : List Int) (w : World) (hf : f.ok) (hl : Bts w A n c l) :
    Calls Try.prog 7 #[frV f, .int .i64 k, .slice A n c] w fun e w' => e = .returned (.bool true) ∧ Below w.heap.size w w' := by
  cases hp : plainB f with
  | false => exact fcut_no f k A n c w hf hp
  | true =>
    by_cases hn : 100 < n
    · exact fcut_big f k A n c w hf hp hn
    · exact fcut_yes f k A n c l w hf hp (by omega) hl
end Go.Proofs.Ytncedbjbooemjaa
