/- Joined texts: The walks over package chain's Start, text, headOf and Link. The walk over package chain's Put: the records of entries, and their head. The walk over package audit's May. The walks over package audit's left and Room. One operation of a drawn region as a step: a value it yields at this very world, a row loaded; parts of a desk set cell by cell. -/
import Derived.Test.YtafmompplcaadaaGreatDoorAuJI
import Derived.Test.YtafmompplcaadaaGreatDoorAuJH
import Derived.Test.YtafmompplcaadaaGreatDoorAuJD
import Derived.Test.YtafmompplcaadaaGreatDoorAuJF
import Derived.Test.YtafmompplcaadaaGreatDoorAuJO
import Derived.Test.YtafmompplcaadaaGreatDoorAuJK
import Derived.Test.YtafmompplcaadaaGreatDoorAuJJ
import Derived.ScopeJumps
import Derived.WalkMore
/- The walks over package chain's Start, text, headOf and Link. -/
namespace Go.Proofs.YtafmompplcaadaaGreatDoor
set_option maxRecDepth 100000
set_option linter.unusedVariables false
set_option linter.unusedSimpArgs false
open Go.RowKit

theorem run_arr32 (A : Option Addr) (c : Nat) (w : World) : (Instr.arrayAt 27 (.slice A 32 c)).run Tryz.prog w = .ok (.pointer A) w := by
  simp [Instr.arrayAt, run_underlying Tryz.underlying27]
theorem cent_range {w : World} {g : Nat} {u : En} (h : w.heap[g]? = some (.cells (enA u) 33 (0, 0))) : w.rangeAt g 0 u.row := fun j v hv => by
  rw [Nat.zero_add, cell_of_row _ _ _ _ _ _ h, enA, List.getElem?_toArray, hv]
theorem lit_next (w : World) (o : Obj) : Bts ((w.alloc o).alloc (.cells #[.int .u8 0] 5)) (some ⟨w.heap.size + 1, 0, none⟩) 1 1 [0] := by
  have h := lit_bts (w.alloc o) #[.int .u8 0] [0] 1 rfl rfl (by unfold maxLen; omega) (by intro j; match j with | 0 => simp | j + 1 => simp)
  rw [size_next] at h
  exact h
set_option maxRecDepth 100000 in
set_option maxHeartbeats 1000000 in
theorem cstart_any (w : World) (hK : KTab w) : Calls Tryz.prog 35 #[] w fun e w' => e = .returned (.agg (idv startC)) ∧ Below w.heap.size w w' := by
  have HS0 := Lib.hid (show ∀ (o : Obj) (g : Nat), w.heap.size + 1 = g → Calls Tryz.prog 60 #[.slice (some ⟨g, 0, none⟩) 1 1] ((w.alloc o).alloc (.cells #[.int .u8 0] 5)) (fun e w' => e = .returned (.agg (idv startC)) ∧ Below ((w.alloc o).alloc (.cells #[.int .u8 0] 5)).heap.size ((w.alloc o).alloc (.cells #[.int .u8 0] 5)) w') from fun o g hg => by
    subst hg
    exact sum_yes _ 1 1 [0] _ (hK.from (two_below w _ _)) (by omega) (lit_next w o))
  have HSL := Lib.hid (show startC.length = 32 from csum_len [0])
  obtain ⟨S, hS⟩ : ∃ S, startC = S := ⟨_, rfl⟩
  rw [hS] at HS0 HSL ⊢
  clear hS hK
  go_enter Tryz.func35, Tryz.ntmps35
  go_wp2_with (first
    | (go_at_call 60; (with_reducible refine (HS0.out _ _ (by simp)).mono ?_); rintro e w1 ⟨rfl, hb1⟩
       obtain ⟨hb0, -, hz1, -⟩ := after_two hb1
       have hz1 : RowB w1 w.heap.size 27 noughtsC := hz1
       have HB1 := Lib.hid hb0
       clear hb1 hb0)
    | ((with_reducible refine wpList_store_blk rfl 27 _ _ rfl w.heap.size (idv S) ?hx7 ?hy7 27 _ hz1.is (info32 HSL.out) ?hs7 (idv_one _) ?_); (case hx7 => rfl); (case hy7 => rfl); (case hs7 => rw [idv_size, idv_size, HSL.out]; rfl)
       intro w6 hg6 hX6 hs6
       clear hz1))
  refine bodyPost_ret (v := .agg (idv S)) ?_ rfl ⟨rfl, ?_⟩
  · exact results_cell_row Tryz.results35 _ _ w.heap.size 27 _ (0, 0) _ rfl hX6 Tryz.underlying27 rfl (info32 HSL.out)
  · exact HB1.out.grown hg6 HB1.out.size (fun k e => by cases e; exact Nat.le_refl _)
theorem ok_text {h b : List Int} (hh : ∀ j, 0 ≤ h.getD j 0 ∧ h.getD j 0 < 256) (hb : ∀ j, 0 ≤ b.getD j 0 ∧ b.getD j 0 < 256) : ∀ j, 0 ≤ (1 :: (h ++ b)).getD j 0 ∧ (1 :: (h ++ b)).getD j 0 < 256 := by
  have e : (1 :: (h ++ b) : List Int) = ([1] ++ h) ++ b := rfl
  rw [e]
  exact ok_append (ok_append (by intro j; match j with | 0 => simp | j + 1 => simp) hh) hb
set_option maxRecDepth 100000 in
set_option maxHeartbeats 1000000 in
theorem ctext_any (h : List Int) (A : Option Addr) (m c : Nat) (b : List Int) (w : World) (hh : h.length = 32) (hhb : ∀ j, 0 ≤ h.getD j 0 ∧ h.getD j 0 < 256) (hb : Bts w A m c b) (hm : m ≤ 1000000) :
    Calls Tryz.prog 68 #[.agg (idv h), .slice A m c] w (GT (1 :: (h ++ b)) w) := by
  have HBT := Lib.hid hb
  have HOK := Lib.hid (ok_text hhb hb.ok)
  have HHB := Lib.hid hhb
  have HHL := Lib.hid hh
  have HM := Lib.hid hm
  have hal := run_all32
  clear hh hhb hb hm
  go_enter Tryz.func68, Tryz.ntmps68
  go_wp2_with (first
    | (at_builtin
       refine wpList_append_b rfl _ _ rfl (w.heap.size + 1) _ [1] rfl (one_own_next w _ 1) (some ⟨w.heap.size, 0, none⟩) 32 32 h rfl (((rowb_lit w 27 _ h rfl).more _).btsAt HHL.out (by unfold maxLen; omega) HHB.out) (by simp) (by simp) ?_
       intro v2 w2 hown2 hg2
       have hb2 : Below w.heap.size w w2 := (two_below w _ _).grown hg2 (by simp; omega) (fun g e => by have e : some (w.heap.size + 1) = some g := e; cases e; omega)
       have hown2 : Own w2 (w.heap.size + 1) v2 ([1] ++ h) := hown2
       have hbt2 := HBT.out.below hb2
       have HB2 := Lib.hid hb2
       have HS2 := Lib.hid (show w.heap.size + 1 ≤ w2.heap.size from Nat.le_trans (by simp) hg2.size)
       clear hg2 hb2)
    | (at_builtin
       refine wpList_append_b rfl _ _ rfl (w.heap.size + 1) v2 ([1] ++ h) rfl hown2 A m c b rfl hbt2 (by have := HM.out; have := HHL.out; simp; omega) HS2.out ?_
       intro v3 w3 hown3 hg3
       have hb3 : Below w.heap.size w2 w3 := (Below.refl _ w2).grown hg3 HB2.out.size (fun g e => by have := (hown2.size g e).1; omega)
       obtain ⟨A3, m3, c3, rfl, hbt3⟩ := (show Own w3 (w.heap.size + 1) v3 (1 :: (h ++ b)) from hown3).slice HOK.out
       have HBT3 := Lib.hid hbt3
       have HB3 := Lib.hid (HB2.out.trans hb3)
       clear hg3 hb3 hbt2 hown2 hown3 hbt3))
  go_ret
  exact ⟨A3, m3, c3, rfl, HBT3.out, HB3.out⟩
theorem bts_range {w : World} {b off n c : Nat} {l : List Int} (h : Bts w (some ⟨b, off, none⟩) n c l) (hn : 0 < n) : w.rangeAt b off (byv l) := fun j v hv => by
  obtain ⟨b', off', e, hc⟩ := h.at_ hn
  cases e
  have hj : j < l.length := by
    have := (List.getElem?_eq_some_iff.1 hv).1
    rwa [byv_length] at this
  rw [byv_get l j hj] at hv
  rw [hc j (by have := h.len; omega), hv]
set_option maxRecDepth 100000 in
set_option maxHeartbeats 1000000 in
theorem cheadof_any (A : Option Addr) (n c : Nat) (b : List Int) (w : World) (hK : KTab w) (hb : Bts w A n c b) (h : n = 0 ∨ 32 ≤ n) :
    Calls Tryz.prog 58 #[.slice A n c] w fun e w' => e = .returned (.agg (idv (headB b))) ∧ Below w.heap.size w w' := by
  have hbl := hb.len
  have hn := hb.small
  have HZL := Lib.hid (headB_len (b := b) (by omega))
  rcases h with h0 | h32
  · have hb0 : b = [] := List.eq_nil_of_length_eq_zero (by omega)
    have HST := Lib.hid (fun (W : World) (hk : KTab W) => cstart_any W hk)
    have HK := Lib.hid hK
    rw [show headB b = startC by rw [headB, if_pos hb0]] at HZL ⊢
    obtain ⟨S, hS⟩ : ∃ S, startC = S := ⟨_, rfl⟩
    rw [hS] at HST HZL ⊢
    clear hS hK hb hb0 hbl hn
    subst h0
    go_enter Tryz.func58, Tryz.ntmps58
    go_wp2_with (first
      | (go_at_call 35; (with_reducible refine (HST.out _ (HK.out.from (one_alloc w _))).mono ?_); rintro e w1 ⟨rfl, hb1⟩
         obtain ⟨hb0, -, hz1⟩ := after_one hb1
         have hz1 : RowB w1 w.heap.size 27 noughtsC := hz1
         have HB1 := Lib.hid hb0
         clear hb1 hb0)
      | ((with_reducible refine wpList_store_blk rfl 27 _ _ rfl w.heap.size (idv S) ?hx7 ?hy7 27 _ hz1.is (info32 HZL.out) ?hs7 (idv_one _) ?_); (case hx7 => rfl); (case hy7 => rfl); (case hs7 => rw [idv_size, idv_size, HZL.out]; rfl)
         intro w6 hg6 hX6 hs6
         clear hz1))
    refine bodyPost_ret (v := .agg (idv S)) ?_ rfl ⟨rfl, ?_⟩
    · exact results_cell_row Tryz.results58 _ _ w.heap.size 27 _ (0, 0) _ rfl hX6 Tryz.underlying27 rfl (info32 HZL.out)
    · exact HB1.out.grown hg6 HB1.out.size (fun k e => by cases e; exact Nat.le_refl _)
  · obtain ⟨A2, hcut, hbt⟩ := run_from hb ((n : Int) - 32) (lo := n - 32) (by omega) (by omega)
    have hne : ¬ b = [] := fun e => by rw [e] at hbl; simp at hbl; omega
    have e32 : n - (n - 32) = 32 := by omega
    rw [e32] at hcut hbt
    rw [show headB b = b.drop (n - 32) by rw [headB, if_neg hne, hbl]] at HZL ⊢
    obtain ⟨Z, hZ⟩ : ∃ Z, b.drop (n - 32) = Z := ⟨_, rfl⟩
    obtain ⟨d, hd⟩ : ∃ d, c - (n - 32) = d := ⟨_, rfl⟩
    rw [hZ] at HZL hbt ⊢
    rw [hd] at hcut hbt
    obtain ⟨bb, oo, rfl, -⟩ := hbt.at_ (by omega)
    have HR := Lib.hid (show ∀ W, Below w.heap.size w W → W.rangeAt bb oo (byv Z) from fun W hW => bts_range (hbt.below hW) (by omega))
    have harr := run_arr32
    have hw0 : IntKind.i64.wrap ((n : Int) - 32) = (n : Int) - 32 := by rw [IntKind.wrap_i64]; omega
    have e0 : ((n : Int) == 0) = false := by rw [beq_eq_false_iff_ne]; omega
    clear hZ hd hb hbt hne hK e32
    go_enter Tryz.func58, Tryz.ntmps58
    go_wp2_with (first
      | ((with_reducible refine wpList_load_on 27 _ rfl bb oo ?hx1 (byv Z) (idv Z) ?ht1 _ (HR.out _ (one_alloc w _)) Tryz.underlying27 ?hd1 ?hi1 ?_ ?hw1); (case hx1 => rfl); (case ht1 => rfl); (case hd1 => rfl); (case hi1 => exact info32 HZL.out); (case hw1 => rfl))
      | ((with_reducible refine wpList_store_blk rfl 27 _ _ rfl w.heap.size (idv Z) ?hx7 ?hy7 27 _ (heap_alloc_new w _) (info32 HZL.out) ?hs7 (idv_one _) ?_); (case hx7 => rfl); (case hy7 => rfl); (case hs7 => rw [idv_size, HZL.out]; rfl)
         intro w6 hg6 hX6 hs6))
    refine bodyPost_ret (v := .agg (idv Z)) ?_ rfl ⟨rfl, ?_⟩
    · exact results_cell_row Tryz.results58 _ _ w.heap.size 27 _ (0, 0) _ rfl hX6 Tryz.underlying27 rfl (info32 HZL.out)
    · exact (one_alloc w (.cells (idv noughtsC) 27)).grown hg6 (size_le_alloc _ _) (fun k e => by cases e; exact Nat.le_refl _)
set_option maxRecDepth 100000 in
set_option maxHeartbeats 2000000 in
theorem clink_yes (h : List Int) (u : En) (w : World) (hK : KTab w) (hh : h.length = 32) (hb : ∀ j, 0 ≤ h.getD j 0 ∧ h.getD j 0 < 256) (hm : mayE u = true) (ho : u.ok) :
    Calls Tryz.prog 51 #[.agg (idv h), enV u] w fun e w' => e = .returned (.tuple #[.agg (idv (linkC h u)), .bool true]) ∧ Below w.heap.size w w' := by
  have HPE := Lib.hid (fun W => eput_any u W ho)
  rw [hm, if_pos rfl] at HPE
  have HK := Lib.hid hK
  have HHB := Lib.hid hb
  have HHL := Lib.hid hh
  unfold enV at HPE ⊢
  obtain ⟨Y, hY⟩ : ∃ Y, linkC h u = Y := ⟨_, rfl⟩
  have HYL := Lib.hid (show Y.length = 32 by rw [← hY]; exact csum_len _)
  have HTX := Lib.hid (fun (A : Option Addr) (m c : Nat) (W : World) (hb1 : Bts W A m c (putE u)) (hm : m ≤ 1000000) => ctext_any h A m c (putE u) W hh hb hb1 hm)
  have HSM := Lib.hid (show ∀ (A : Option Addr) (m d : Nat) (W : World), KTab W → m ≤ 1048576 → Bts W A m d (1 :: (h ++ putE u)) → Calls Tryz.prog 60 #[.slice A m d] W (fun e w' => e = .returned (.agg (idv Y)) ∧ Below W.heap.size W w') from fun A m d W hk h1 h2 => by rw [← hY]; exact sum_yes A m d _ W hk h1 h2)
  rw [hY]
  clear hh hb hm ho hY hK
  go_enter Tryz.func51, Tryz.ntmps51
  go_wp2_with (first
    | ((with_reducible refine wpList_load_blk 33 _ rfl (w.heap.size + 1) ?hx1 33 (enA u) (0, 0) _ (three_of_c _ _ _ _) Tryz.underlying33 ?hd1 (info_en (enA_size _)) ?_ ?hw1); (case hx1 => rfl); (case hd1 => rfl); (case hw1 => rfl))
    | (go_at_call 50; (with_reducible refine (HPE.out _).mono ?_); rintro e w1 ⟨A1, m1, c1, rfl, hbt1, hb1⟩
       obtain ⟨hb0, hH1, -, hZ1⟩ := after_three_c hb1
       have hH1 : RowB w1 w.heap.size 27 h := hH1
       have hZ1 : RowB w1 (w.heap.size + 2) 27 noughtsC := hZ1
       have hm1 : m1 ≤ 1000000 := by have := hbt1.len; rw [put_len] at this; omega
       have HB1 := Lib.hid hb0
       clear hb1 hb0)
    | ((with_reducible refine wpList_load_blk 27 _ rfl w.heap.size ?hx2 27 (idv h) (0, 0) _ hH1.is Tryz.underlying27 ?hd2 (info32 HHL.out) ?_ ?hw2); (case hx2 => rfl); (case hd2 => rfl); (case hw2 => rfl))
    | (go_at_call 68; (with_reducible refine (HTX.out _ _ _ _ hbt1 hm1).mono ?_); rintro e w3 ⟨A3, m3, c3, rfl, hbt3, hb3⟩
       have hZ3 := hZ1.keep hb3
       have HB3 := Lib.hid (HB1.out.trans (hb3.mono HB1.out.size))
       have hm3 : m3 ≤ 1048576 := by
         have h1 := hbt3.len
         have h2 := HHL.out
         rw [List.length_cons, List.length_append, put_len] at h1
         omega
       clear hb3 hZ1 hH1 hbt1 hm1)
    | (go_at_call 60; (with_reducible refine (HSM.out _ _ _ _ (HK.out.from HB3.out) hm3 hbt3).mono ?_); rintro e w4 ⟨rfl, hb4⟩
       have hZ4 := hZ3.keep hb4
       have HB4 := Lib.hid (HB3.out.trans (hb4.mono HB3.out.size))
       clear hb4 hZ3 hbt3 hm3)
    | ((with_reducible refine wpList_store_blk rfl 27 _ _ rfl (w.heap.size + 2) (idv Y) ?hx7 ?hy7 27 _ hZ4.is (info32 HYL.out) ?hs7 (idv_one _) ?_); (case hx7 => rfl); (case hy7 => rfl); (case hs7 => rw [idv_size, idv_size, HYL.out]; rfl)
       intro w6 hg6 hX6 hs6
       clear hZ4))
  refine bodyPost_ret (v := .tuple #[.agg (idv Y), .bool true]) ?_ rfl ⟨rfl, ?_⟩
  · exact results_blk_tmp Tryz.results51 _ _ _ (w.heap.size + 2) 27 _ (0, 0) _ rfl hX6 Tryz.underlying27 rfl (info32 HYL.out) _ rfl
  · exact HB4.out.grown hg6 HB4.out.size (fun k e => by cases e; omega)
set_option maxRecDepth 100000 in
set_option maxHeartbeats 2000000 in
theorem clink_no (h : List Int) (u : En) (w : World) (hm : mayE u = false) (ho : u.ok) :
    Calls Tryz.prog 51 #[.agg (idv h), enV u] w fun e w' => e = .returned (.tuple #[.agg (idv noughtsC), .bool false]) ∧ Below w.heap.size w w' := by
  have HPE := Lib.hid (fun W => eput_any u W ho)
  rw [hm] at HPE
  unfold enV at HPE ⊢
  obtain ⟨P, hP⟩ : ∃ P, (if false = true then putE u else []) = P := ⟨_, rfl⟩
  rw [hP] at HPE
  have hNL : noughtsC.length = 32 := rfl
  have HNL := Lib.hid hNL
  clear hm hNL ho hP
  go_enter Tryz.func51, Tryz.ntmps51
  go_wp2_with (first
    | ((with_reducible refine wpList_load_blk 33 _ rfl (w.heap.size + 1) ?hx1 33 (enA u) (0, 0) _ (three_of_c _ _ _ _) Tryz.underlying33 ?hd1 (info_en (enA_size _)) ?_ ?hw1); (case hx1 => rfl); (case hd1 => rfl); (case hw1 => rfl))
    | (go_at_call 50; (with_reducible refine (HPE.out _).mono ?_); rintro e w1 ⟨A1, m1, c1, rfl, hbt1, hb1⟩
       obtain ⟨hb0, -, -, hZ1⟩ := after_three_c hb1
       have hZ1 : RowB w1 (w.heap.size + 2) 27 noughtsC := hZ1
       have HB1 := Lib.hid hb0
       clear hb1 hb0 hbt1)
    | ((with_reducible refine wpList_store_blk rfl 27 _ _ rfl (w.heap.size + 2) (idv noughtsC) ?hx7 ?hy7 27 _ hZ1.is (info32 HNL.out) ?hs7 (idv_one _) ?_); (case hx7 => rfl); (case hy7 => rfl); (case hs7 => rfl)
       intro w6 hg6 hX6 hs6
       clear hZ1))
  refine bodyPost_ret (v := .tuple #[.agg (idv noughtsC), .bool false]) ?_ rfl ⟨rfl, ?_⟩
  · exact results_blk_tmp Tryz.results51 _ _ _ (w.heap.size + 2) 27 _ (0, 0) _ rfl hX6 Tryz.underlying27 rfl (info32 HNL.out) _ rfl
  · exact HB1.out.grown hg6 HB1.out.size (fun k e => by cases e; omega)
theorem clink_any (h : List Int) (u : En) (w : World) (hK : KTab w) (hh : h.length = 32) (hb : ∀ j, 0 ≤ h.getD j 0 ∧ h.getD j 0 < 256) (ho : u.ok) :
    Calls Tryz.prog 51 #[.agg (idv h), enV u] w fun e w' => e = .returned (.tuple #[.agg (idv (linkP h u)), .bool (mayE u)]) ∧ Below w.heap.size w w' := by
  cases hm : mayE u with
  | false => rw [show linkP h u = noughtsC by rw [linkP, hm]; rfl]; exact clink_no h u w hm ho
  | true => rw [show linkP h u = linkC h u by rw [linkP, hm]; rfl]; exact clink_yes h u w hK hh hb hm ho
end Go.Proofs.YtafmompplcaadaaGreatDoor

/- The walk over package chain's Put: the records of entries, and their head. -/
namespace Go.Proofs.YtafmompplcaadaaGreatDoor
set_option maxRecDepth 100000
set_option linter.unusedVariables false
set_option linter.unusedSimpArgs false
open Go.RowKit

set_option maxRecDepth 100000 in
set_option maxHeartbeats 1000000 in
theorem cput_long (A : Option Addr) (n c : Nat) (l : List En) (w : World) (hl : Ens w A n c l) (h : 264 < n) :
    Calls Tryz.prog 43 #[.slice A n c] w (GP [] noughtsC false w) := by
  have hn := hl.small
  have h1 : (264 : Int) < n := by omega
  have HNL := Lib.hid (show noughtsC.length = 32 from rfl)
  have HB0 := Lib.hid (one_alloc w (.cells (idv noughtsC) 27))
  clear hl
  go_enter Tryz.func43, Tryz.ntmps43
  go_wp2_with ((with_reducible refine wpList_store_blk rfl 27 _ _ rfl w.heap.size (idv noughtsC) ?hx7 ?hy7 27 _ (heap_alloc_new w _) (info32 HNL.out) ?hs7 (idv_one _) ?_); (case hx7 => rfl); (case hy7 => rfl); (case hs7 => rfl)
               intro w6 hg6 hX6 hs6)
  refine bodyPost_ret (v := .tuple #[.slice none 0 0, .agg (idv noughtsC), .bool false]) ?_ rfl ⟨none, 0, 0, rfl, Bts.nil _, ?_⟩
  · exact results_tct Tryz.results43 _ _ _ w.heap.size 27 _ (0, 0) _ rfl hX6 Tryz.underlying27 rfl (info32 HNL.out) _ _ rfl rfl
  · exact HB0.out.grown hg6 HB0.out.size (fun k e => by cases e; exact Nat.le_refl _)
set_option maxRecDepth 100000 in
set_option maxHeartbeats 8000000 in
theorem cput_short (A : Option Addr) (n c : Nat) (l : List En) (w : World) (hK : KTab w) (hl : Ens w A n c l) (ho : ∀ u ∈ l, u.ok) (h264 : n ≤ 264) :
    Calls Tryz.prog 43 #[.slice A n c] w (GP (if mayC l then recsC l else []) (if mayC l then headC l else noughtsC) (mayC l) w) := by
  have hn := hl.small
  have h1 : (n : Int) ≤ 264 := by omega
  have HL := Lib.hid hl
  have HLL := Lib.hid hl.len
  have HO := Lib.hid ho
  have HK := Lib.hid hK
  have hal := run_all32
  have HNL := Lib.hid (show noughtsC.length = 32 from rfl)
  obtain ⟨MC, hMC⟩ : ∃ M, mayC l = M := ⟨_, rfl⟩
  obtain ⟨RC, hRC⟩ : ∃ R, (if mayC l = true then recsC l else []) = R := ⟨_, rfl⟩
  obtain ⟨ZC, hZC⟩ : ∃ Z, (if mayC l = true then headC l else noughtsC) = Z := ⟨_, rfl⟩
  rw [hRC, hZC, hMC]
  rw [hMC] at hRC hZC
  have HMC := Lib.hid hMC
  have HRC := Lib.hid hRC
  have HZC := Lib.hid hZC
  have HB0 := Lib.hid (one_alloc w (.cells (idv noughtsC) 27))
  have HZ0 := Lib.hid (show RowB (w.alloc (.cells (idv noughtsC) 27)) w.heap.size 27 noughtsC from rowb_lit _ _ _ _ rfl)
  clear hl ho hMC hRC hZC hK
  go_enter Tryz.func43, Tryz.ntmps43
  go_wp2

  go_loopw [5, 7, 8, 9, 10, 11, 18] (fun v x y z t s i wr => ∃ k : Nat, k ≤ n ∧ i = .int .i64 k ∧ mayC (l.take k) = true ∧ Own wr (w.heap.size + 1) v (recsC (l.take k)) ∧ RowB wr w.heap.size 27 noughtsC ∧ Below w.heap.size w wr) (fun _ _ _ _ _ _ i _ => n - (intOf i).toNat)
  case atStart => exact ⟨0, by omega, rfl, rfl, Own.nil _ _, HZ0.out, HB0.out⟩
  case round =>
    obtain ⟨k, hk, rfl, hmk, hown, hz, hB⟩ := hrel
    have hrl : (recsC (l.take k)).length = 62 * k := by rw [recsC, recsF_len, List.length_take, HLL.out]; omega
    have hhr := headB_recs (l.take k)
    obtain ⟨A5, n5, c5, rfl, hbt5⟩ := hown.slice (recs_byte _)
    have hn5 : n5 = 62 * k := by have := hbt5.len; omega
    have HHD := Lib.hid (fun (W : World) (hk' : KTab W) (hb' : Bts W A5 n5 c5 (recsC (l.take k))) => cheadof_any A5 n5 c5 _ W hk' hb' (by omega))
    rw [hhr] at HHD
    by_cases hlt : k < n
    · obtain ⟨b, off, u, rfl, hu, hr⟩ := (HL.out.below hB).range k hlt
      have hou := HO.out u (List.mem_of_getElem? hu)
      have hmx := may_take hu hmk
      have hnx := head_take hu
      have hrx := recs_take hu
      obtain ⟨R, hR⟩ : ∃ R, recsC (l.take k) = R := ⟨_, rfl⟩
      obtain ⟨h, hh⟩ : ∃ h, headC (l.take k) = h := ⟨_, rfl⟩
      have hhl : h.length = 32 := by rw [← hh]; exact headC_len _
      have hhb : ∀ j, 0 ≤ h.getD j 0 ∧ h.getD j 0 < 256 := by rw [← hh]; exact headC_byte _
      rw [hR, hh] at HHD
      rw [hR] at hown hbt5 hrl hrx
      rw [hh] at hrx hnx
      have HRL := Lib.hid (show R.length ≤ 62 * 264 by omega)
      obtain ⟨X, hXe⟩ : ∃ X, linkP h u = X := ⟨_, rfl⟩
      have HXL := Lib.hid (show X.length = 32 by rw [← hXe]; exact linkP_len _ _)
      have HXB := Lib.hid (show ∀ j, 0 ≤ X.getD j 0 ∧ X.getD j 0 < 256 by rw [← hXe]; exact linkP_byte _ _)
      have HPE := Lib.hid (fun W => eput_any u W hou)
      have HLK := Lib.hid (fun (W : World) (hk' : KTab W) => clink_any h u W hk' hhl hhb hou)
      have HXE := Lib.hid (show mayE u = true → linkC h u = X from fun e => by rw [← hXe, linkP, if_pos e])
      rw [hXe] at HLK
      obtain ⟨M, hM⟩ : ∃ M, mayE u = M := ⟨_, rfl⟩
      rw [hM] at HPE HLK HXE hmx
      have HMX := Lib.hid hmx
      have HRX := Lib.hid hrx
      unfold enV at HPE HLK
      obtain ⟨P, hP⟩ : ∃ P, (if M = true then putE u else []) = P := ⟨_, rfl⟩
      rw [hP] at HPE
      have HPP := Lib.hid hP
      have HPL := Lib.hid (put_len u)
      have q0 : 0 ≤ (k : Int) := by omega
      have q1 : (k : Int) < n := by omega
      have HBr := Lib.hid hB
      have HMK := Lib.hid hmk
      have HBT5 := Lib.hid hbt5
      clear hu hou hh hhl hhb hXe hM hmx hP hR hB hmk hrl hnx hrx hbt5 hhr hn5
      go_wp2_with (first
        | ((with_reducible refine wpList_load_on 33 _ rfl b (off + k * 9) ?hx1 u.row (enA u) ?ht1 _ hr Tryz.underlying33 ?hd1 ?hi1 ?_ ?hw1); (case hx1 => rfl); (case ht1 => rfl); (case hd1 => rfl); (case hi1 => exact info_en (enA_size u)); (case hw1 => rfl))
        | ((with_reducible refine wpList_store_blk rfl 33 _ _ rfl wr.heap.size (enA u) ?hx2 ?hy2 33 _ (heap_alloc_new wr _) (info_en (enA_size _)) ?hs2 (enA_one _) ?_); (case hx2 => rfl); (case hy2 => rfl); (case hs2 => rfl)
           intro w3 hg3 hE3 hs3
           have hb3 : Below wr.heap.size wr w3 := Below.grows (one_alloc wr _) hg3 (size_le_alloc _ _) (Nat.le_refl _)
           have hz3 := hz.keep hb3
           have hown3 := hown.below hb3
           have HBT3 := Lib.hid (HBT5.out.below hb3)
           have HB3 := Lib.hid (HBr.out.trans (hb3.mono HBr.out.size))
           clear hb3 hg3 hs3 hz hown hr))
      obtain ⟨ge, hge⟩ : ∃ q, wr.heap.size = q := ⟨_, rfl⟩
      rw [hge] at hE3 ⊢
      have HLTz := Lib.hid hz3.lt
      have KE := Lib.hid (show ∀ w', Below w3.heap.size w3 w' → w'.heap[ge]? = some (.cells (enA u) 33 (0, 0)) from fun w' h => (h.block _ (Array.getElem?_eq_some_iff.1 hE3).1).trans hE3)
      have KZ := Lib.hid (show ∀ w', Below w3.heap.size w3 w' → RowB w' w.heap.size 27 noughtsC from fun w' h => hz3.keep h)
      have KO := Lib.hid (show ∀ w', Below w3.heap.size w3 w' → Own w' (w.heap.size + 1) (.slice A5 n5 c5) R from fun w' h => hown3.below h)
      have KT := Lib.hid (show ∀ w', Below w3.heap.size w3 w' → KTab w' from fun w' h => (HK.out.from HB3.out).from h)
      clear hE3 hz3 hown3 hge
      obtain ⟨Y0, hY0⟩ : ∃ Y, w3.drew = Y := ⟨_, rfl⟩
      have hSd : (fun w' => Below w3.heap.size w3 w') Y0 := by rw [← hY0]; exact (Below.refl _ w3).drew
      refine wp_region_held_drew (S := (fun w' => Below w3.heap.size w3 w')) (by kernel_rfl) (by rw [hY0]; exact hSd) (fun hHeld => ?_)
      rw [hY0] at hHeld ⊢
      clear hY0
      refine take_move 0 (.tmp 5) (.slice A5 n5 c5) rfl rfl rfl (by kernel_rfl) (by kernel_rfl) (by kernel_rfl) (fun _ _ _ h => h) rfl hHeld ?_
      simp only [Act.put, List.setIfInBounds_toArray, List.set_cons_zero, List.set_cons_succ]
      refine take_if 2 (.agg (enA u)) rfl (by kernel_rfl) (by kernel_rfl) (by kernel_rfl) (fun _ _ _ h => h) rfl hHeld (fun w' hw' => ?_) ?_
      · exact run_load_en rfl rfl (cent_range (KE.out _ hw'))
      simp only [Act.put, List.setIfInBounds_toArray, List.set_cons_zero, List.set_cons_succ]
      refine two_steps 1 7 (by kernel_rfl) rfl rfl (fun Kq hKq => ?_) (fun Kq hKq => ?_)
      go_simp
      go_at_call 58
      refine (HHD.out _ (KT.out _ hSd) (HBT3.out.below hSd)).mono ?_
      rintro e w4 ⟨rfl, hbx⟩
      have hSw4 : Below w3.heap.size w3 w4 := hSd.trans (hbx.mono hSd.size)
      clear hbx
      refine hKq.out _ _ hSw4 (fun hHeld0 => ?_)
      clear hKq Kq hHeld
      have hHeld := hHeld0
      clear hHeld0
      try simp only [Act.put, List.setIfInBounds_toArray, List.set_cons_zero, List.set_cons_succ]
      refine two_steps 3 7 (by kernel_rfl) rfl rfl (fun Kq hKq => ?_) (fun Kq hKq => ?_)
      go_simp
      go_at_call 51
      refine (HLK.out _ (KT.out _ hSw4)).mono ?_
      rintro e w5 ⟨rfl, hbx⟩
      have hSw5 : Below w3.heap.size w3 w5 := hSw4.trans (hbx.mono hSw4.size)
      clear hbx
      refine hKq.out _ _ hSw5 (fun hHeld0 => ?_)
      clear hKq Kq hHeld
      have hHeld := hHeld0
      clear hHeld0
      try simp only [Act.put, List.setIfInBounds_toArray, List.set_cons_zero, List.set_cons_succ]
      refine take_run 4 (.tuple #[.agg (idv X), .bool M]) rfl (by kernel_rfl) (by kernel_rfl) (by kernel_rfl) (fun _ _ _ h => h) rfl hHeld (fun w => ?_) ?_
      · go_simp
      simp only [Act.put, List.setIfInBounds_toArray, List.set_cons_zero, List.set_cons_succ]
      refine take_run 5 (.agg (idv X)) rfl (by kernel_rfl) (by kernel_rfl) (by kernel_rfl) (fun _ _ _ h => h) rfl hHeld (fun w => ?_) ?_
      · go_simp
      simp only [Act.put, List.setIfInBounds_toArray, List.set_cons_zero, List.set_cons_succ]
      refine take_run 6 (.bool M) rfl (by kernel_rfl) (by kernel_rfl) (by kernel_rfl) (fun _ _ _ h => h) rfl hHeld (fun w => ?_) ?_
      · go_simp
      simp only [Act.put, List.setIfInBounds_toArray, List.set_cons_zero, List.set_cons_succ]
      refine one_step 7 (by kernel_rfl) rfl (fun Kq hKq => ?_)
      have hz7 : RowB (w5.alloc (.cells (idv noughtsC) 27)) w5.heap.size 27 noughtsC := rowb_lit _ _ _ _ rfl
      have hSw6 : Below w3.heap.size w3 (w5.alloc (.cells (idv noughtsC) 27)) := hSw5.alloc hSw5.size _
      have hgx : w3.heap.size ≤ w5.heap.size := hSw5.size
      go_simp
      refine hKq.out _ _ hSw6 (fun hHeld0 => ?_)
      clear hKq Kq hHeld
      have hHeld := hHeld0
      clear hHeld0
      try simp only [Act.put, List.setIfInBounds_toArray, List.set_cons_zero, List.set_cons_succ]
      refine one_step 8 (by kernel_rfl) rfl (fun Kq hKq => ?_)
      refine step_store_b 27 _ _ rfl w5.heap.size X noughtsC rfl rfl 27 hz7 (info32 HXL.out) (by rw [HXL.out]; rfl) rfl ?_
      intro wM hgM hXM hsM
      have hSM : Below w3.heap.size w3 wM := hSw6.grown hgM hSw6.size (fun q e => by cases e; exact hgx)
      refine hKq.out _ _ hSM (fun hHeld0 => ?_)
      clear hKq Kq hHeld
      have hHeld := hHeld0
      clear hHeld0
      try simp only [Act.put, List.setIfInBounds_toArray, List.set_cons_zero, List.set_cons_succ]
      refine take_run 9 (.bool M) rfl (by kernel_rfl) (by kernel_rfl) (by kernel_rfl) (fun _ _ _ h => h) rfl hHeld (fun w => ?_) ?_
      · go_simp
      simp only [Act.put, List.setIfInBounds_toArray, List.set_cons_zero, List.set_cons_succ]
      refine wpAnyH_done (by kernel_rfl) ?_ _
      obtain ⟨gx, hgxe⟩ : ∃ q, w5.heap.size = q := ⟨_, rfl⟩
      rw [hgxe] at hXM hgx ⊢
      clear hgxe hHeld hgM hsM
      rotate_left
      have hz7 : RowB (w4.alloc (.cells (idv noughtsC) 27)) w4.heap.size 27 noughtsC := rowb_lit _ _ _ _ rfl
      have hSw5 : Below w3.heap.size w3 (w4.alloc (.cells (idv noughtsC) 27)) := hSw4.alloc hSw4.size _
      have hgx : w3.heap.size ≤ w4.heap.size := hSw4.size
      go_simp
      refine hKq.out _ _ hSw5 (fun hHeld0 => ?_)
      clear hKq Kq hHeld
      have hHeld := hHeld0
      clear hHeld0
      try simp only [Act.put, List.setIfInBounds_toArray, List.set_cons_zero, List.set_cons_succ]
      refine one_step 3 (by kernel_rfl) rfl (fun Kq hKq => ?_)
      go_simp
      go_at_call 51
      refine (HLK.out _ (KT.out _ hSw5)).mono ?_
      rintro e w6 ⟨rfl, hbx⟩
      have hSw6 : Below w3.heap.size w3 w6 := hSw5.trans (hbx.mono hSw5.size)
      have hz7 := hz7.keep hbx
      clear hbx
      refine hKq.out _ _ hSw6 (fun hHeld0 => ?_)
      clear hKq Kq hHeld
      have hHeld := hHeld0
      clear hHeld0
      try simp only [Act.put, List.setIfInBounds_toArray, List.set_cons_zero, List.set_cons_succ]
      refine take_run 4 (.tuple #[.agg (idv X), .bool M]) rfl (by kernel_rfl) (by kernel_rfl) (by kernel_rfl) (fun _ _ _ h => h) rfl hHeld (fun w => ?_) ?_
      · go_simp
      simp only [Act.put, List.setIfInBounds_toArray, List.set_cons_zero, List.set_cons_succ]
      refine take_run 5 (.agg (idv X)) rfl (by kernel_rfl) (by kernel_rfl) (by kernel_rfl) (fun _ _ _ h => h) rfl hHeld (fun w => ?_) ?_
      · go_simp
      simp only [Act.put, List.setIfInBounds_toArray, List.set_cons_zero, List.set_cons_succ]
      refine take_run 6 (.bool M) rfl (by kernel_rfl) (by kernel_rfl) (by kernel_rfl) (fun _ _ _ h => h) rfl hHeld (fun w => ?_) ?_
      · go_simp
      simp only [Act.put, List.setIfInBounds_toArray, List.set_cons_zero, List.set_cons_succ]
      refine one_step 8 (by kernel_rfl) rfl (fun Kq hKq => ?_)
      refine step_store_b 27 _ _ rfl w4.heap.size X noughtsC rfl rfl 27 hz7 (info32 HXL.out) (by rw [HXL.out]; rfl) rfl ?_
      intro wM hgM hXM hsM
      have hSM : Below w3.heap.size w3 wM := hSw6.grown hgM hSw6.size (fun q e => by cases e; exact hgx)
      refine hKq.out _ _ hSM (fun hHeld0 => ?_)
      clear hKq Kq hHeld
      have hHeld := hHeld0
      clear hHeld0
      try simp only [Act.put, List.setIfInBounds_toArray, List.set_cons_zero, List.set_cons_succ]
      refine take_run 9 (.bool M) rfl (by kernel_rfl) (by kernel_rfl) (by kernel_rfl) (fun _ _ _ h => h) rfl hHeld (fun w => ?_) ?_
      · go_simp
      simp only [Act.put, List.setIfInBounds_toArray, List.set_cons_zero, List.set_cons_succ]
      refine wpAnyH_done (by kernel_rfl) ?_ _
      obtain ⟨gx, hgxe⟩ : ∃ q, w4.heap.size = q := ⟨_, rfl⟩
      rw [hgxe] at hXM hgx ⊢
      clear hgxe hHeld hgM hsM
      rotate_left
      have hz7 : RowB (Y0.alloc (.cells (idv noughtsC) 27)) Y0.heap.size 27 noughtsC := rowb_lit _ _ _ _ rfl
      have hSw4 : Below w3.heap.size w3 (Y0.alloc (.cells (idv noughtsC) 27)) := hSd.alloc hSd.size _
      have hgx : w3.heap.size ≤ Y0.heap.size := hSd.size
      go_simp
      refine hKq.out _ _ hSw4 (fun hHeld0 => ?_)
      clear hKq Kq hHeld
      have hHeld := hHeld0
      clear hHeld0
      try simp only [Act.put, List.setIfInBounds_toArray, List.set_cons_zero, List.set_cons_succ]
      refine one_step 1 (by kernel_rfl) rfl (fun Kq hKq => ?_)
      go_simp
      go_at_call 58
      refine (HHD.out _ (KT.out _ hSw4) (HBT3.out.below hSw4)).mono ?_
      rintro e w5 ⟨rfl, hbx⟩
      have hSw5 : Below w3.heap.size w3 w5 := hSw4.trans (hbx.mono hSw4.size)
      have hz7 := hz7.keep hbx
      clear hbx
      refine hKq.out _ _ hSw5 (fun hHeld0 => ?_)
      clear hKq Kq hHeld
      have hHeld := hHeld0
      clear hHeld0
      try simp only [Act.put, List.setIfInBounds_toArray, List.set_cons_zero, List.set_cons_succ]
      refine one_step 3 (by kernel_rfl) rfl (fun Kq hKq => ?_)
      go_simp
      go_at_call 51
      refine (HLK.out _ (KT.out _ hSw5)).mono ?_
      rintro e w6 ⟨rfl, hbx⟩
      have hSw6 : Below w3.heap.size w3 w6 := hSw5.trans (hbx.mono hSw5.size)
      have hz7 := hz7.keep hbx
      clear hbx
      refine hKq.out _ _ hSw6 (fun hHeld0 => ?_)
      clear hKq Kq hHeld
      have hHeld := hHeld0
      clear hHeld0
      try simp only [Act.put, List.setIfInBounds_toArray, List.set_cons_zero, List.set_cons_succ]
      refine take_run 4 (.tuple #[.agg (idv X), .bool M]) rfl (by kernel_rfl) (by kernel_rfl) (by kernel_rfl) (fun _ _ _ h => h) rfl hHeld (fun w => ?_) ?_
      · go_simp
      simp only [Act.put, List.setIfInBounds_toArray, List.set_cons_zero, List.set_cons_succ]
      refine take_run 5 (.agg (idv X)) rfl (by kernel_rfl) (by kernel_rfl) (by kernel_rfl) (fun _ _ _ h => h) rfl hHeld (fun w => ?_) ?_
      · go_simp
      simp only [Act.put, List.setIfInBounds_toArray, List.set_cons_zero, List.set_cons_succ]
      refine take_run 6 (.bool M) rfl (by kernel_rfl) (by kernel_rfl) (by kernel_rfl) (fun _ _ _ h => h) rfl hHeld (fun w => ?_) ?_
      · go_simp
      simp only [Act.put, List.setIfInBounds_toArray, List.set_cons_zero, List.set_cons_succ]
      refine one_step 8 (by kernel_rfl) rfl (fun Kq hKq => ?_)
      refine step_store_b 27 _ _ rfl Y0.heap.size X noughtsC rfl rfl 27 hz7 (info32 HXL.out) (by rw [HXL.out]; rfl) rfl ?_
      intro wM hgM hXM hsM
      have hSM : Below w3.heap.size w3 wM := hSw6.grown hgM hSw6.size (fun q e => by cases e; exact hgx)
      refine hKq.out _ _ hSM (fun hHeld0 => ?_)
      clear hKq Kq hHeld
      have hHeld := hHeld0
      clear hHeld0
      try simp only [Act.put, List.setIfInBounds_toArray, List.set_cons_zero, List.set_cons_succ]
      refine take_run 9 (.bool M) rfl (by kernel_rfl) (by kernel_rfl) (by kernel_rfl) (fun _ _ _ h => h) rfl hHeld (fun w => ?_) ?_
      · go_simp
      simp only [Act.put, List.setIfInBounds_toArray, List.set_cons_zero, List.set_cons_succ]
      refine wpAnyH_done (by kernel_rfl) ?_ _
      obtain ⟨gx, hgxe⟩ : ∃ q, Y0.heap.size = q := ⟨_, rfl⟩
      rw [hgxe] at hXM hgx ⊢
      clear hgxe hHeld hgM hsM
      all_goals
        cases M with
        | false =>
          have hf : mayC l = false := mayC_part HMX.out
          have hMf : MC = false := HMC.out.symm.trans hf
          have hRf : RC = [] := by have := HRC.out; rw [hMf] at this; simpa using this.symm
          have hZf : ZC = noughtsC := by have := HZC.out; rw [hMf] at this; simpa using this.symm
          subst hMf hRf hZf
          have hzM := KZ.out _ hSM
          have HSMh := Lib.hid (HB3.out.trans (hSM.mono HB3.out.size))
          clear hSM
          go_wp2_with ((with_reducible refine wpList_store_blk rfl 27 _ _ rfl w.heap.size (idv noughtsC) ?hx7 ?hy7 27 _ hzM.is (info32 HNL.out) ?hs7 (idv_one _) ?_); (case hx7 => rfl); (case hy7 => rfl); (case hs7 => rfl)
                       intro w7 hg7 hX7 hs7)
          refine bodyPost_ret (v := .tuple #[.slice none 0 0, .agg (idv noughtsC), .bool false]) ?_ rfl ⟨none, 0, 0, rfl, Bts.nil _, ?_⟩
          · exact results_tct Tryz.results43 _ _ _ w.heap.size 27 _ (0, 0) _ rfl hX7 Tryz.underlying27 rfl (info32 HNL.out) _ _ rfl rfl
          · exact HSMh.out.grown hg7 HSMh.out.size (fun k e => by cases e; exact Nat.le_refl _)
        | true =>
          have hPe : putE u = P := by have := HPP.out; simpa using this
          have HPl := Lib.hid (show P.length = 30 by rw [← hPe]; exact HPL.out)
          have HPe := Lib.hid hPe
          have hEM := KE.out _ hSM
          have hzM := KZ.out _ hSM
          have hoM := KO.out _ hSM
          have HBM := Lib.hid (HB3.out.trans (hSM.mono HB3.out.size))
          have HXl := Lib.hid (show w3.heap.size ≤ gx from hgx)
          have HW3 := Lib.hid (show w.heap.size < w3.heap.size from HLTz.out)
          have HFAR := Lib.hid (show ∀ g, (Value.slice A5 n5 c5).ownBlock = some g → g < gx from fun g e => Nat.lt_of_lt_of_le ((KO.out _ (Below.refl _ w3)).size g e).2 hgx)
          clear hgx hPe
          go_wp2_with (first
            | ((with_reducible refine wpList_load_blk 33 _ rfl ge ?hx9 33 (enA u) (0, 0) _ hEM Tryz.underlying33 ?hd9 (info_en (enA_size _)) ?_ ?hw9); (case hx9 => rfl); (case hd9 => rfl); (case hw9 => rfl))
            | (go_at_call 50; (with_reducible refine (HPE.out _).mono ?_); rintro e w8 ⟨A8, m8, c8, rfl, hbt8, hb8⟩
               have hX8 := hXM.keep hb8
               have hz8 := hzM.keep hb8
               have hown8 := hoM.below hb8
               have HB8 := Lib.hid (HBM.out.trans (hb8.mono HBM.out.size))
               clear hb8 hXM hzM hoM hEM hSM))
          obtain ⟨Y1, hY1⟩ : ∃ Y, w8.drew = Y := ⟨_, rfl⟩
          have hX9 : RowB Y1 gx 27 X := by rw [← hY1]; exact hX8.draw1
          have hz9 : RowB Y1 w.heap.size 27 noughtsC := by rw [← hY1]; exact hz8.draw1
          have hown9 : Own Y1 (w.heap.size + 1) (.slice A5 n5 c5) R := by rw [← hY1]; exact hown8.draw1
          have hbt9 : Bts Y1 A8 m8 c8 P := by rw [← hY1]; exact hbt8.draw1
          have HB9 := Lib.hid (show Below w.heap.size w Y1 by rw [← hY1]; exact HB8.out.drew)
          refine wp_region_held_drew (S := (fun _ => True)) (by kernel_rfl) trivial (fun hHeld => ?_)
          rw [hY1]
          clear hX8 hz8 hown8 hbt8 hY1
          refine take_move 0 (.tmp 5) (.slice A5 n5 c5) rfl rfl rfl (by kernel_rfl) (by kernel_rfl) (by kernel_rfl) (fun _ _ _ h => h) rfl hHeld ?_
          simp only [Act.put, List.setIfInBounds_toArray, List.set_cons_zero, List.set_cons_succ]
          refine take_move 1 (.tmp 10) (.slice A8 m8 c8) rfl rfl rfl (by kernel_rfl) (by kernel_rfl) (by kernel_rfl) (fun _ _ _ h => h) rfl hHeld ?_
          simp only [Act.put, List.setIfInBounds_toArray, List.set_cons_zero, List.set_cons_succ]
          refine take_run 3 (.slice (some ⟨gx, 0, none⟩) 32 32) rfl (by kernel_rfl) (by kernel_rfl) (by kernel_rfl) (fun _ _ _ h => h) rfl hHeld (fun w => ?_) ?_
          · go_simp
          simp only [Act.put, List.setIfInBounds_toArray, List.set_cons_zero, List.set_cons_succ]
          refine one_step 2 (by kernel_rfl) rfl (fun Kq hKq => ?_)
          refine step_append_o _ _ rfl (w.heap.size + 1) (.slice A5 n5 c5) R rfl hown9 A8 m8 c8 P rfl hbt9 (by have := HRL.out; have := HPl.out; have := hbt9.len; omega) hz9.lt rfl ?_
          intro v10 w10 hown10 hg10
          have hX10 : RowB w10 gx 27 X := hX9.grown hg10 (fun e => by have := HFAR.out gx e.symm; omega)
          have hz10 : RowB w10 w.heap.size 27 noughtsC := hz9.grown hg10 (fun e => by have := (hown9.size _ e.symm).1; omega)
          have HB10 := Lib.hid (HB9.out.grown hg10 HB9.out.size (fun q e => by have := (hown9.size q e).1; omega))
          clear hg10 hX9 hz9 hown9 hbt9
          refine hKq.out _ _ trivial (fun hHeld0 => ?_)
          clear hKq Kq hHeld
          have hHeld := hHeld0
          clear hHeld0
          try simp only [Act.put, List.setIfInBounds_toArray, List.set_cons_zero, List.set_cons_succ]
          refine one_step 4 (by kernel_rfl) rfl (fun Kq hKq => ?_)
          have hown10 : Own w10 (w.heap.size + 1) v10 (R ++ P) := hown10
          refine step_append_o _ _ rfl (w.heap.size + 1) v10 (R ++ P) rfl hown10 (some ⟨gx, 0, none⟩) 32 32 X rfl (hX10.btsAt HXL.out (by unfold maxLen; omega) HXB.out) (by have := HRL.out; have := HPl.out; rw [List.length_append]; omega) hz10.lt rfl ?_
          intro v11 w11 hown11 hg11
          have hz11 : RowB w11 w.heap.size 27 noughtsC := hz10.grown hg11 (fun e => by have := (hown10.size _ e.symm).1; omega)
          have HB11 := Lib.hid (HB10.out.grown hg11 HB10.out.size (fun q e => by have := (hown10.size q e).1; omega))
          have hown11 : Own w11 (w.heap.size + 1) v11 ((R ++ P) ++ X) := hown11
          clear hg11 hX10 hz10 hown10
          refine hKq.out _ _ trivial (fun hHeld0 => ?_)
          clear hKq Kq hHeld
          have hHeld := hHeld0
          clear hHeld0
          try simp only [Act.put, List.setIfInBounds_toArray, List.set_cons_zero, List.set_cons_succ]
          refine take_run 5 (v11) rfl (by kernel_rfl) (by kernel_rfl) (by kernel_rfl) (fun _ _ _ h => h) rfl hHeld (fun w => ?_) ?_
          · go_simp
          simp only [Act.put, List.setIfInBounds_toArray, List.set_cons_zero, List.set_cons_succ]
          refine wpAnyH_done (by kernel_rfl) ?_ _
          clear hHeld
          go_wp2
          go_roundw
          case rel => exact ⟨k + 1, by omega, by go_num, HMX.out, by rw [HRX.out, HPe.out, HXE.out (by trivial)]; exact hown11, hz11, HB11.out⟩
          case measure => simp [intOf]; omega
    · have hkn : k = n := by omega
      rw [hkn, List.take_of_length_le (by rw [HLL.out]; exact Nat.le_refl _)] at hmk hown hbt5 HHD
      have hMf : MC = true := HMC.out.symm.trans hmk
      have hRf : RC = recsC l := by have := HRC.out; rw [hMf] at this; simpa using this.symm
      have hZf : ZC = headC l := by have := HZC.out; rw [hMf] at this; simpa using this.symm
      have HZL := Lib.hid (show ZC.length = 32 by rw [hZf]; exact headC_len _)
      have HROK := Lib.hid (show ∀ j, 0 ≤ RC.getD j 0 ∧ RC.getD j 0 < 256 by rw [hRf]; exact recs_byte _)
      rw [← hRf] at hbt5 HHD hown
      rw [← hZf] at HHD
      subst hMf
      have HBT5 := Lib.hid hbt5
      have HBr := Lib.hid hB
      have HKr := Lib.hid (HK.out.from hB)
      clear hB hmk hRf hZf hbt5 hrl hhr hn5
      go_wp2_with (first
        | (go_at_call 58; (with_reducible refine (HHD.out _ HKr.out HBT5.out).mono ?_); rintro e w3 ⟨rfl, hb3⟩
           have hz3 := hz.keep hb3
           have hown3 := hown.below hb3
           have HB3 := Lib.hid (HBr.out.trans (hb3.mono HBr.out.size))
           clear hb3 hz hown)
        | ((with_reducible refine wpList_store_blk rfl 27 _ _ rfl w.heap.size (idv ZC) ?hx7 ?hy7 27 _ hz3.is (info32 HZL.out) ?hs7 (idv_one _) ?_); (case hx7 => rfl); (case hy7 => rfl); (case hs7 => rw [idv_size, idv_size, HZL.out]; rfl)
           intro w7 hg7 hX7 hs7))
      refine bodyPost_ret (v := .tuple #[.slice A5 n5 c5, .agg (idv ZC), .bool true]) ?_ rfl ⟨A5, n5, c5, rfl, ?_, ?_⟩
      · exact results_tct Tryz.results43 _ _ _ w.heap.size 27 _ (0, 0) _ rfl hX7 Tryz.underlying27 rfl (info32 HZL.out) _ _ rfl rfl
      · obtain ⟨A9, n9, c9, he9, hbt9⟩ := (own_off hown3 hg7).slice HROK.out
        cases he9
        exact hbt9
      · exact HB3.out.grown hg7 HB3.out.size (fun k e => by cases e; exact Nat.le_refl _)
theorem cput_any (A : Option Addr) (n c : Nat) (l : List En) (w : World) (hK : KTab w) (hl : Ens w A n c l) (ho : ∀ u ∈ l, u.ok) :
    Calls Tryz.prog 43 #[.slice A n c] w (GP (if putC l then recsC l else []) (if putC l then headC l else noughtsC) (putC l) w) := by
  have hlen := hl.len
  by_cases h : n ≤ 264
  · have e : putC l = mayC l := by rw [putC, decide_eq_true (by omega), Bool.true_and]
    rw [e]
    exact cput_short A n c l w hK hl ho h
  · have e : putC l = false := by rw [putC, decide_eq_false (by omega), Bool.false_and]
    rw [e]
    exact cput_long A n c l w hl (by omega)
end Go.Proofs.YtafmompplcaadaaGreatDoor

/- The walk over package audit's May. -/
namespace Go.Proofs.YtafmompplcaadaaGreatDoor
set_option maxRecDepth 100000
set_option linter.unusedVariables false
set_option linter.unusedSimpArgs false
open Go.RowKit

set_option maxHeartbeats 2000000 in
theorem amay_no (p : Lp) (g : Lg) (w : World) (hK : KTab w) (h : LgAt w p g) (hm : mayP g.st = false) :
    Calls Tryz.prog 17 #[.agg p.arr] w (GBe false w) := by
  have hns := h.data.small
  have hnl := h.data.len
  have hHL := h.hlen
  have HMY := Lib.hid (fun X => stmay_any p.cap p.A p.n p.c p.sure X (by omega))
  rw [h.may] at HMY
  have HPU := Lib.hid (fun (X : World) (hX : Below w.heap.size w X) => cput_any p.B p.m p.d g.l X (hK.from hX) (h.ents.below hX) h.ok.each)
  have HDT := Lib.hid (fun (X : World) (hX : Below w.heap.size w X) => h.data.below hX)
  have hbox := heap_alloc_new w (.cells p.arr 29 (0, 0))
  have HB0 := Lib.hid (one_alloc w (.cells p.arr 29 (0, 0)))
  have hrs := lg_st hbox
  rw [hm] at HMY
  clear HPU HDT
  clear h hK
  go_enter Tryz.func17, Tryz.ntmps17
  go_wp2_with (first
    | ((with_reducible refine wpList_load_on 24 _ rfl w.heap.size 0 ?hx1 [.int .i64 p.cap, .slice p.A p.n p.c, .int .i64 p.sure] _ rfl _ hrs Tryz.underlying24 ?hd1 (by kernel_rfl) ?_ ?hw1); (case hx1 => rfl); (case hd1 => rfl); (case hw1 => rfl))
    | (go_at_call 42
       (with_reducible refine (HMY.out _).mono ?_)
       rintro e w1 ⟨rfl, hb1⟩
       have hbox := blk_below hbox hb1
       obtain ⟨x0, x1, x2, x3⟩ := lg_cells hbox
       have HB1 := Lib.hid (HB0.out.trans (hb1.mono HB0.out.size))
       clear x0 x1 x2 x3
       clear hb1))
  go_ret
  exact ⟨rfl, HB1.out⟩
set_option maxHeartbeats 2000000 in
theorem amay_sure (p : Lp) (g : Lg) (w : World) (hK : KTab w) (h : LgAt w p g) (hm : mayP g.st = true) (hq : ¬ p.sure = (p.n : Int)) :
    Calls Tryz.prog 17 #[.agg p.arr] w (GBe false w) := by
  have hns := h.data.small
  have hnl := h.data.len
  have hHL := h.hlen
  have HMY := Lib.hid (fun X => stmay_any p.cap p.A p.n p.c p.sure X (by omega))
  rw [h.may] at HMY
  have HPU := Lib.hid (fun (X : World) (hX : Below w.heap.size w X) => cput_any p.B p.m p.d g.l X (hK.from hX) (h.ents.below hX) h.ok.each)
  have HDT := Lib.hid (fun (X : World) (hX : Below w.heap.size w X) => h.data.below hX)
  have hbox := heap_alloc_new w (.cells p.arr 29 (0, 0))
  have HB0 := Lib.hid (one_alloc w (.cells p.arr 29 (0, 0)))
  have hrs := lg_st hbox
  rw [hm] at HMY
  clear HPU HDT
  clear h hK
  go_enter Tryz.func17, Tryz.ntmps17
  go_wp2_with (first
    | ((with_reducible refine wpList_load_on 24 _ rfl w.heap.size 0 ?hx1 [.int .i64 p.cap, .slice p.A p.n p.c, .int .i64 p.sure] _ rfl _ hrs Tryz.underlying24 ?hd1 (by kernel_rfl) ?_ ?hw1); (case hx1 => rfl); (case hd1 => rfl); (case hw1 => rfl))
    | (go_at_call 42
       (with_reducible refine (HMY.out _).mono ?_)
       rintro e w1 ⟨rfl, hb1⟩
       have hbox := blk_below hbox hb1
       obtain ⟨x0, x1, x2, x3⟩ := lg_cells hbox
       have HB1 := Lib.hid (HB0.out.trans (hb1.mono HB0.out.size))
       clear hb1))
  go_ret
  exact ⟨rfl, HB1.out⟩
set_option maxHeartbeats 2000000 in
theorem amay_not (p : Lp) (g : Lg) (w : World) (hK : KTab w) (h : LgAt w p g) (hm : mayP g.st = true) (hq : p.sure = (p.n : Int)) (hp : putC g.l = false) :
    Calls Tryz.prog 17 #[.agg p.arr] w (GBe false w) := by
  have hns := h.data.small
  have hnl := h.data.len
  have hHL := h.hlen
  have HMY := Lib.hid (fun X => stmay_any p.cap p.A p.n p.c p.sure X (by omega))
  rw [h.may] at HMY
  have HPU := Lib.hid (fun (X : World) (hX : Below w.heap.size w X) => cput_any p.B p.m p.d g.l X (hK.from hX) (h.ents.below hX) h.ok.each)
  have HDT := Lib.hid (fun (X : World) (hX : Below w.heap.size w X) => h.data.below hX)
  have hbox := heap_alloc_new w (.cells p.arr 29 (0, 0))
  have HB0 := Lib.hid (one_alloc w (.cells p.arr 29 (0, 0)))
  have hrs := lg_st hbox
  rw [hm] at HMY
  have HQ := Lib.hid hq
  rw [hp] at HPU
  simp only [Bool.false_eq_true, if_false] at HPU
  obtain ⟨Z, hZ⟩ : ∃ Z, noughtsC = Z := ⟨_, rfl⟩
  have HZL := Lib.hid (show Z.length = 32 by rw [← hZ]; rfl)
  rw [hZ] at HPU
  clear hq hZ
  clear h hK
  go_enter Tryz.func17, Tryz.ntmps17
  go_wp2_with (first
    | ((with_reducible refine wpList_load_on 24 _ rfl w.heap.size 0 ?hx1 [.int .i64 p.cap, .slice p.A p.n p.c, .int .i64 p.sure] _ rfl _ hrs Tryz.underlying24 ?hd1 (by kernel_rfl) ?_ ?hw1); (case hx1 => rfl); (case hd1 => rfl); (case hw1 => rfl))
    | (go_at_call 42
       (with_reducible refine (HMY.out _).mono ?_)
       rintro e w1 ⟨rfl, hb1⟩
       have hbox := blk_below hbox hb1
       obtain ⟨x0, x1, x2, x3⟩ := lg_cells hbox
       have HB1 := Lib.hid (HB0.out.trans (hb1.mono HB0.out.size))
       have hq := HQ.out
       clear hb1)
    | (go_at_call 43
       (with_reducible refine (HPU.out _ HB1.out).mono ?_)
       rintro e w2 ⟨A6, n6, c6, rfl, hbt, hbx⟩
       have HBT := Lib.hid hbt
       have hbox := blk_below hbox hbx
       clear x0 x1 x2 x3
       have HB2 := Lib.hid (HB1.out.trans (hbx.mono HB1.out.size))
       clear hbt hbx)
    | ((with_reducible refine wpList_store_blk rfl 27 _ _ rfl w2.heap.size (idv Z) ?hx2 ?hy2 27 _ (heap_alloc_new w2 _) (info32 HZL.out) ?hs2 (idv_one _) ?_); (case hx2 => rfl); (case hy2 => rfl); (case hs2 => rw [idv_size, HZL.out]; rfl)
       intro w3 hg2 hH hs2
       have hbx : Below w2.heap.size w2 w3 := Below.grows (one_alloc w2 _) hg2 (size_le_alloc _ _) (Nat.le_refl _)
       have HB3 := Lib.hid (HB2.out.trans (hbx.mono HB2.out.size))
       have hbox := blk_below hbox hbx
       have HBT := Lib.hid (HBT.out.below hbx)
       clear hbx hg2 hs2))
  go_ret
  exact ⟨rfl, HB3.out⟩
set_option maxHeartbeats 2000000 in
theorem amay_data (p : Lp) (g : Lg) (w : World) (hK : KTab w) (h : LgAt w p g) (hm : mayP g.st = true) (hq : p.sure = (p.n : Int)) (hp : putC g.l = true) (hr : ¬ recsC g.l = g.st.data) :
    Calls Tryz.prog 17 #[.agg p.arr] w (GBe false w) := by
  have hns := h.data.small
  have hnl := h.data.len
  have hHL := h.hlen
  have HMY := Lib.hid (fun X => stmay_any p.cap p.A p.n p.c p.sure X (by omega))
  rw [h.may] at HMY
  have HPU := Lib.hid (fun (X : World) (hX : Below w.heap.size w X) => cput_any p.B p.m p.d g.l X (hK.from hX) (h.ents.below hX) h.ok.each)
  have HDT := Lib.hid (fun (X : World) (hX : Below w.heap.size w X) => h.data.below hX)
  have hbox := heap_alloc_new w (.cells p.arr 29 (0, 0))
  have HB0 := Lib.hid (one_alloc w (.cells p.arr 29 (0, 0)))
  have hrs := lg_st hbox
  rw [hm] at HMY
  have HQ := Lib.hid hq
  rw [hp] at HPU
  simp only [if_true] at HPU
  obtain ⟨Z, hZ⟩ : ∃ Z, headC g.l = Z := ⟨_, rfl⟩
  have HZL := Lib.hid (show Z.length = 32 by rw [← hZ]; exact headC_len _)
  rw [hZ] at HPU
  obtain ⟨RC, hRC⟩ : ∃ RC, recsC g.l = RC := ⟨_, rfl⟩
  rw [hRC] at HPU hr
  have HEQ := Lib.hid (show ∀ (A6 : Option Addr) (n6 c6 : Nat) (X : World), Below w.heap.size w X → Bts X A6 n6 c6 RC → Calls Tryz.prog 44 #[.slice p.A p.n p.c, .slice A6 n6 c6] X fun e w' => e = .returned (.bool false) ∧ X = w' from fun A6 n6 c6 X hX hb => by
    have h0 := equal_any p.A A6 p.n p.c n6 c6 g.st.data RC X (h.data.below hX) hb
    rw [show (g.st.data == RC) = false by simp [Ne.symm hr]] at h0
    exact h0)
  clear hq hZ hRC hr
  clear h hK
  go_enter Tryz.func17, Tryz.ntmps17
  go_wp2_with (first
    | ((with_reducible refine wpList_load_on 24 _ rfl w.heap.size 0 ?hx1 [.int .i64 p.cap, .slice p.A p.n p.c, .int .i64 p.sure] _ rfl _ hrs Tryz.underlying24 ?hd1 (by kernel_rfl) ?_ ?hw1); (case hx1 => rfl); (case hd1 => rfl); (case hw1 => rfl))
    | (go_at_call 42
       (with_reducible refine (HMY.out _).mono ?_)
       rintro e w1 ⟨rfl, hb1⟩
       have hbox := blk_below hbox hb1
       obtain ⟨x0, x1, x2, x3⟩ := lg_cells hbox
       have HB1 := Lib.hid (HB0.out.trans (hb1.mono HB0.out.size))
       have hq := HQ.out
       clear hb1)
    | (go_at_call 43
       (with_reducible refine (HPU.out _ HB1.out).mono ?_)
       rintro e w2 ⟨A6, n6, c6, rfl, hbt, hbx⟩
       have HBT := Lib.hid hbt
       have hbox := blk_below hbox hbx
       clear x0 x1 x2 x3
       have HB2 := Lib.hid (HB1.out.trans (hbx.mono HB1.out.size))
       clear hbt hbx)
    | ((with_reducible refine wpList_store_blk rfl 27 _ _ rfl w2.heap.size (idv Z) ?hx2 ?hy2 27 _ (heap_alloc_new w2 _) (info32 HZL.out) ?hs2 (idv_one _) ?_); (case hx2 => rfl); (case hy2 => rfl); (case hs2 => rw [idv_size, HZL.out]; rfl)
       intro w3 hg2 hH hs2
       have hbx : Below w2.heap.size w2 w3 := Below.grows (one_alloc w2 _) hg2 (size_le_alloc _ _) (Nat.le_refl _)
       have HB3 := Lib.hid (HB2.out.trans (hbx.mono HB2.out.size))
       have hbox := blk_below hbox hbx
       have HBT := Lib.hid (HBT.out.below hbx)
       obtain ⟨x0, x1, x2, x3⟩ := lg_cells hbox
       clear hbx hg2 hs2)
    | (go_at_call 44
       (with_reducible refine (HEQ.out A6 n6 c6 w3 HB3.out HBT.out).mono ?_)
       rintro e w4 ⟨rfl, rfl⟩
       skip))
  go_ret
  exact ⟨rfl, HB3.out⟩
set_option maxHeartbeats 2000000 in
theorem amay_head (p : Lp) (g : Lg) (w : World) (hK : KTab w) (h : LgAt w p g) (hm : mayP g.st = true) (hq : p.sure = (p.n : Int)) (hp : putC g.l = true) (hr : recsC g.l = g.st.data) :
    Calls Tryz.prog 17 #[.agg p.arr] w (GBe (decide (headC g.l = g.head)) w) := by
  have hns := h.data.small
  have hnl := h.data.len
  have hHL := h.hlen
  have HMY := Lib.hid (fun X => stmay_any p.cap p.A p.n p.c p.sure X (by omega))
  rw [h.may] at HMY
  have HPU := Lib.hid (fun (X : World) (hX : Below w.heap.size w X) => cput_any p.B p.m p.d g.l X (hK.from hX) (h.ents.below hX) h.ok.each)
  have HDT := Lib.hid (fun (X : World) (hX : Below w.heap.size w X) => h.data.below hX)
  have hbox := heap_alloc_new w (.cells p.arr 29 (0, 0))
  have HB0 := Lib.hid (one_alloc w (.cells p.arr 29 (0, 0)))
  have hrs := lg_st hbox
  rw [hm] at HMY
  have HQ := Lib.hid hq
  rw [hp] at HPU
  simp only [if_true] at HPU
  obtain ⟨Z, hZ⟩ : ∃ Z, headC g.l = Z := ⟨_, rfl⟩
  have HZL := Lib.hid (show Z.length = 32 by rw [← hZ]; exact headC_len _)
  rw [hZ] at HPU
  obtain ⟨RC, hRC⟩ : ∃ RC, recsC g.l = RC := ⟨_, rfl⟩
  rw [hRC] at HPU hr
  have HEQ := Lib.hid (show ∀ (A6 : Option Addr) (n6 c6 : Nat) (X : World), Below w.heap.size w X → Bts X A6 n6 c6 RC → Calls Tryz.prog 44 #[.slice p.A p.n p.c, .slice A6 n6 c6] X fun e w' => e = .returned (.bool true) ∧ X = w' from fun A6 n6 c6 X hX hb => by
    have h0 := equal_any p.A A6 p.n p.c n6 c6 g.st.data RC X (h.data.below hX) hb
    rw [show (g.st.data == RC) = true by simp [hr]] at h0
    exact h0)
  have HE := Lib.hid (show ∀ w, (Op.equalIn 10000 27 (.agg (idv p.H)) (.agg (idv Z))).run Tryz.prog w = .ok (decide (headC g.l = g.head)) w from fun w => by
    rw [eq_ids _ _ hHL HZL.out, h.head, hZ]
    congr 1
    exact decide_eq_decide.2 eq_comm)
  have HHI := Lib.hid h.info
  obtain ⟨E, hE⟩ : ∃ E, decide (headC g.l = g.head) = E := ⟨_, rfl⟩
  rw [hE] at HE ⊢
  clear hE hq hZ hRC hr
  clear h hK
  go_enter Tryz.func17, Tryz.ntmps17
  go_wp2_with (first
    | ((with_reducible refine wpList_load_on 24 _ rfl w.heap.size 0 ?hx1 [.int .i64 p.cap, .slice p.A p.n p.c, .int .i64 p.sure] _ rfl _ hrs Tryz.underlying24 ?hd1 (by kernel_rfl) ?_ ?hw1); (case hx1 => rfl); (case hd1 => rfl); (case hw1 => rfl))
    | (go_at_call 42
       (with_reducible refine (HMY.out _).mono ?_)
       rintro e w1 ⟨rfl, hb1⟩
       have hbox := blk_below hbox hb1
       obtain ⟨x0, x1, x2, x3⟩ := lg_cells hbox
       have HB1 := Lib.hid (HB0.out.trans (hb1.mono HB0.out.size))
       have hq := HQ.out
       clear hb1)
    | (go_at_call 43
       (with_reducible refine (HPU.out _ HB1.out).mono ?_)
       rintro e w2 ⟨A6, n6, c6, rfl, hbt, hbx⟩
       have HBT := Lib.hid hbt
       have hbox := blk_below hbox hbx
       clear x0 x1 x2 x3
       have HB2 := Lib.hid (HB1.out.trans (hbx.mono HB1.out.size))
       clear hbt hbx)
    | ((with_reducible refine wpList_store_blk rfl 27 _ _ rfl w2.heap.size (idv Z) ?hx2 ?hy2 27 _ (heap_alloc_new w2 _) (info32 HZL.out) ?hs2 (idv_one _) ?_); (case hx2 => rfl); (case hy2 => rfl); (case hs2 => rw [idv_size, HZL.out]; rfl)
       intro w3 hg2 hH hs2
       have hbx : Below w2.heap.size w2 w3 := Below.grows (one_alloc w2 _) hg2 (size_le_alloc _ _) (Nat.le_refl _)
       have HB3 := Lib.hid (HB2.out.trans (hbx.mono HB2.out.size))
       have hbox := blk_below hbox hbx
       have HBT := Lib.hid (HBT.out.below hbx)
       have hrh := lg_head hbox
       obtain ⟨x0, x1, x2, x3⟩ := lg_cells hbox
       clear hbx hg2 hs2)
    | (go_at_call 44
       (with_reducible refine (HEQ.out A6 n6 c6 w3 HB3.out HBT.out).mono ?_)
       rintro e w4 ⟨rfl, rfl⟩
       skip)
    | ((with_reducible refine wpList_load_blk 27 _ rfl w2.heap.size ?hx3 27 (idv Z) (0, 0) _ hH Tryz.underlying27 ?hd3 (info32 HZL.out) ?_ ?hw3); (case hx3 => rfl); (case hd3 => rfl); (case hw3 => rfl))
    | ((with_reducible refine wpList_load_on 27 _ rfl w.heap.size 4 ?hx4 (byv p.H) (idv p.H) rfl _ hrh Tryz.underlying27 ?hd4 HHI.out ?_ ?hw4); (case hx4 => rfl); (case hd4 => rfl); (case hw4 => rfl))
    | ((with_reducible refine wpList_eq_id .eql _ _ rfl (idv p.H) (idv Z) ?hx5 ?hy5 E E (.inl ⟨rfl, rfl⟩) (fun w => HE.out w) ?_ ?hw5); (case hx5 => rfl); (case hy5 => rfl); (case hw5 => rfl)))
  go_ret
  exact ⟨rfl, HB3.out⟩
theorem amay_any (p : Lp) (g : Lg) (w : World) (hK : KTab w) (h : LgAt w p g) : Calls Tryz.prog 17 #[.agg p.arr] w (GBe (mayG g) w) := by
  cases hm : mayP g.st with
  | false => rw [show mayG g = false by rw [mayG, hm]; rfl]; exact amay_no p g w hK h hm
  | true =>
    by_cases hq : p.sure = (p.n : Int)
    · have hq' : g.st.sure = (g.st.data.length : Int) := by rw [← h.sure, hq, h.data.len]
      cases hp : putC g.l with
      | false => rw [show mayG g = false by rw [mayG, hp]; simp]; exact amay_not p g w hK h hm hq hp
      | true =>
        by_cases hr : recsC g.l = g.st.data
        · rw [show mayG g = decide (headC g.l = g.head) by rw [mayG, hm, hp, decide_eq_true hq', decide_eq_true hr]; simp]; exact amay_head p g w hK h hm hq hp hr
        · rw [show mayG g = false by rw [mayG, decide_eq_false hr]; simp]; exact amay_data p g w hK h hm hq hp hr
    · have hq' : ¬ g.st.sure = (g.st.data.length : Int) := by rw [← h.sure, h.data.len]; exact hq
      rw [show mayG g = false by rw [mayG, decide_eq_false hq']; simp]
      exact amay_sure p g w hK h hm hq
end Go.Proofs.YtafmompplcaadaaGreatDoor

/- The walks over package audit's left and Room. -/
namespace Go.Proofs.YtafmompplcaadaaGreatDoor
set_option maxRecDepth 100000
set_option linter.unusedVariables false
set_option linter.unusedSimpArgs false
open Go.RowKit

set_option maxHeartbeats 1000000 in
theorem aleft_any (p : Lp) (w : World) (hH : p.H.length = 32) (hf : -9223372036854775808 ≤ p.cap ∧ p.cap ≤ 9223372036854775807) (hm : p.m ≤ 1000000) :
    Calls Tryz.prog 47 #[.agg p.arr] w fun e w' => e = .returned (.int .i64 (p.cap.tdiv 62 - p.m)) ∧ Below w.heap.size w w' := by
  obtain ⟨x0, x1, x2, x3⟩ := dk_cells (heap_alloc_new w (.cells p.arr 48 (0, 0)))
  have HB0 := Lib.hid (one_alloc w (.cells p.arr 48 (0, 0)))
  have hs := slots_at hf
  have hw1 : IntKind.i64.wrap (p.cap.tdiv 62 - (p.m : Int)) = p.cap.tdiv 62 - (p.m : Int) := by rw [IntKind.wrap_i64]; omega
  go_enter Tryz.func47, Tryz.ntmps47
  go_wp2
  go_ret
  exact ⟨rfl, HB0.out⟩
set_option maxHeartbeats 2000000 in
theorem aroom_any (p : Lp) (g : Lg) (w : World) (hK : KTab w) (h : LgAt w p g) (hsm : p.m ≤ 1000000) : Calls Tryz.prog 19 #[.agg p.arr] w fun e w' => e = .returned (.int .i64 (roomG g)) ∧ Below w.heap.size w w' := by
  have hnl := h.ents.len
  have HMY := Lib.hid (fun (X : World) (hX : Below w.heap.size w X) => amay_any p g X (hK.from hX) (h.below hX))
  have hbox := heap_alloc_new w (.cells p.arr 29 (0, 0))
  have HB0 := Lib.hid (one_alloc w (.cells p.arr 29 (0, 0)))
  have HW := Lib.hid h.whole
  have HDK := Lib.hid (built_desk p h.hlen)
  have HLF := Lib.hid (fun X => aleft_any p X h.hlen h.fits hsm)
  have hsl := slots_at h.fits
  have hsq : slotsG g = p.cap.tdiv 62 := by rw [slotsG, h.cap]
  obtain ⟨q, hq⟩ : ∃ q, p.cap.tdiv 62 - (p.m : Int) = q := ⟨_, rfl⟩
  have hqb : -150000000001000000 ≤ q ∧ q ≤ 150000000000000000 := by omega
  simp only [hq] at HLF
  have hw0 : IntKind.i64.wrap (q - 4) = q - 4 := by rw [IntKind.wrap_i64]; omega
  obtain ⟨M, hM⟩ : ∃ M, mayG g = M := ⟨_, rfl⟩
  have HRN := Lib.hid (show M = false → roomG g = 0 from fun e => room_no (hM.trans e))
  have HRY := Lib.hid (show M = true → roomG g = max (q - 4) 0 from fun e => by rw [room_yes (hM.trans e), hsq, hnl, ← hq]; congr 1; omega)
  simp only [hM] at HMY
  clear h hM hsq hq hnl hK hsl
  obtain ⟨R, hR⟩ : ∃ R, roomG g = R := ⟨_, rfl⟩
  rw [hR] at HRN HRY ⊢
  clear hR
  cases M with
  | false =>
    have HR0 := Lib.hid (HRN.out rfl)
    clear HRN HRY HLF HDK
    go_enter Tryz.func19, Tryz.ntmps19
    go_wp2_with (first
      | ((with_reducible refine wpList_load_blk 29 _ rfl w.heap.size ?hx1 29 p.arr (0, 0) _ hbox Tryz.underlying29 ?hd1 HW.out ?_ ?hw1); (case hx1 => rfl); (case hd1 => rfl); (case hw1 => rfl))
      | (go_at_call 17
         (with_reducible refine (HMY.out _ HB0.out).mono ?_)
         rintro e w1 ⟨rfl, hb1⟩
         have hbox := blk_below hbox hb1
         have HB1 := Lib.hid (HB0.out.trans (hb1.mono HB0.out.size))
         clear hb1))
    go_ret
    exact ⟨by rw [HR0.out]; rfl, HB1.out⟩
  | true =>
    have HR0 := Lib.hid (HRY.out rfl)
    clear HRN HRY
    by_cases hn : 0 ≤ q - 4
    all_goals
      go_enter Tryz.func19, Tryz.ntmps19
      go_wp2_with (first
        | ((with_reducible refine wpList_load_blk 29 _ rfl w.heap.size ?hx1 29 p.arr (0, 0) _ hbox Tryz.underlying29 ?hd1 HW.out ?_ ?hw1); (case hx1 => rfl); (case hd1 => rfl); (case hw1 => rfl))
        | (go_at_call 17
           (with_reducible refine (HMY.out _ HB0.out).mono ?_)
           rintro e w1 ⟨rfl, hb1⟩
           have hbox := blk_below hbox hb1
           have HB1 := Lib.hid (HB0.out.trans (hb1.mono HB0.out.size))
           clear hb1)
        | ((with_reducible refine wpList_build_to rfl 48 _ rfl [(0, .agg p.arr)] p.arr ?hl2 ?hb2 ?_); (case hl2 => rfl); (case hb2 => exact HDK.out))
        | (go_at_call 47
           (with_reducible refine (HLF.out _).mono ?_)
           rintro e w2 ⟨rfl, hb1⟩
           have HB2 := Lib.hid (HB1.out.trans (hb1.mono HB1.out.size))
           clear hb1))
      go_ret
      refine ⟨?_, HB2.out⟩
      rw [HR0.out]
      first
        | (rw [Int.max_eq_left hn]; rfl)
        | (rw [Int.max_eq_right (by omega)]; rfl)
        | (simp only [Int.max_def]; split <;> first | rfl | omega)
end Go.Proofs.YtafmompplcaadaaGreatDoor

/- One operation of a drawn region as a step: a value it yields at this very world, a row loaded; parts of a desk set cell by cell. -/
namespace Go.Proofs.YtafmompplcaadaaGreatDoor
set_option maxRecDepth 100000
set_option linter.unusedVariables false
set_option linter.unusedSimpArgs false
open Go.RowKit

section
variable {P : Program} {a : Act} {w : World} {Q : Exit → Act → World → Prop}
theorem wp_weaker {c : Code} {Q' : Exit → Act → World → Prop} (h : c.wp P Q a w) (hq : ∀ e a w, Q e a w → Q' e a w) : c.wp P Q' a w := fun b k cs => by
  obtain ⟨e, a1, w1, h1, h2⟩ := h b k cs
  exact ⟨e, a1, w1, hq _ _ _ h1, h2⟩
/-- a scope out of which the run jumps ahead to a label, once -/
theorem wp_scope_ahead {c rest : Code} (l : Nat) (hf : findLabel c l = some rest) (first : c.wp P (Exit.jump l (fun a w => rest.wp P (Exit.noGoto Q) a w) Q) a w) : (Code.scope c).wp P Q a w :=
  wp_scope_jumps l (fun a w => rest.wp P (Exit.noGoto Q) a w) (fun _ _ => 0) hf first fun a w h => wp_weaker h fun e a w h => by
    cases e <;> first | exact h | exact absurd h id
theorem jump_ret (l : Nat) (J : Act → World → Prop) : Exit.jump l J Q .ret a w = Q .ret a w := rfl
theorem jump_goto {l : Nat} {J : Act → World → Prop} (h : J a w) : Exit.jump l J Q (.goto l) a w := ⟨rfl, h⟩
end
section
variable {P : Program}
theorem step_run {ops : Array Oper} {o : Oper} {a : Act} {w : World} {K : Act → World → Prop} {Q : Exit → Act → World → Prop} {E : Prop} (v : Value) (hw : Region.wanted o (yielded ops a.tmps) = true) (hr : (execOp a.eval o).run P w = .ok (.value v) w)
    (h : K (a.put o.dst v) w) : if Region.wanted o (yielded ops a.tmps) = true then Oper.wp P o a w K Q else E := by
  rw [if_pos hw]
  unfold Oper.wp
  simp only [hr]
  exact h
theorem step_load_mid {ops : Array Oper} {o : Oper} {a : Act} {w : World} {K : Act → World → Prop} {Q : Exit → Act → World → Prop} {E : Prop} (ty : TypeId) (x : Operand) (ho : o.op = .load ty x) (b off : Nat) (hx : a.eval x = .pointer (some ⟨b, off, none⟩)) (cs : List Value) (T : Array Value) (hT : cs.toArray = T) (d : TypeDesc) (hc : w.rangeAt b off cs)
    (hu : P.underlying ty = some d) (hd : d.isRow = true) (hi : (P.info? ty).map (·.size) = some cs.length) (hw : Region.wanted o (yielded ops a.tmps) = true)
    (h : K (a.put o.dst (.agg T)) w) : if Region.wanted o (yielded ops a.tmps) = true then Oper.wp P o a w K Q else E := by
  subst hT
  rw [if_pos hw]
  exact wp_load_mid ty x ho b off hx cs d hc hu hd hi h
end
section
variable {w : World} {g : Nat} {p : Lp} {t : TypeId}
theorem dk_free (h : w.heap[g]? = some (.cells p.arr t (0, 0))) (i : Nat) : w.frozen? ⟨g, i, none⟩ = false := frozen_of_row _ _ i _ _ h
theorem dk_eq3 (h : w.heap[g]? = some (.cells p.arr t (0, 0))) (B : Option Addr) (m d : Nat) : w.setCell ⟨g, 3, none⟩ (.slice B m d) = w.setRow g (p.putB B m d).arr := by
  rw [setCell_eq_setRow w g 3 _ t _ _ h]
  congr 1 <;> simp only [Lp.arr, Lp.cells, Lp.putB, List.setIfInBounds_toArray, List.set_cons_zero, List.set_cons_succ]
theorem dk_set3 (h : w.heap[g]? = some (.cells p.arr t (0, 0))) (B : Option Addr) (m d : Nat) : (w.setCell ⟨g, 3, none⟩ (.slice B m d)).heap[g]? = some (.cells (p.putB B m d).arr t (0, 0)) := by
  rw [dk_eq3 h]; exact setRow_heap _ _ _ _ _ _ h
theorem dk_grown3 (h : w.heap[g]? = some (.cells p.arr t (0, 0))) (B : Option Addr) (m d : Nat) : w.grownBy (w.setCell ⟨g, 3, none⟩ (.slice B m d)) (some g) := by
  rw [dk_eq3 h]; exact grown_setRow _ _ _
theorem dk_eq012 (h : w.heap[g]? = some (.cells p.arr t (0, 0))) (cap : Int) (A : Option Addr) (n c : Nat) (sure : Int) :
    ((w.setCell ⟨g, 0, none⟩ (.int .i64 cap)).setCell ⟨g, 1, none⟩ (.slice A n c)).setCell ⟨g, 2, none⟩ (.int .i64 sure) = w.setRow g (p.putS cap A n c sure).arr := by
  rw [setCell_eq_setRow w g 0 _ t _ _ h]
  have h1 := setRow_heap w g _ (p.arr.setIfInBounds 0 (.int .i64 cap)) t _ h
  rw [setCell_eq_setRow _ g 1 _ t _ _ h1]
  have h2 := setRow_heap _ g _ ((p.arr.setIfInBounds 0 (.int .i64 cap)).setIfInBounds 1 (.slice A n c)) t _ h1
  rw [setCell_eq_setRow _ g 2 _ t _ _ h2, setRow_setRow, setRow_setRow]
  congr 1 <;> simp only [Lp.arr, Lp.cells, Lp.putS, List.setIfInBounds_toArray, List.set_cons_zero, List.set_cons_succ]
theorem dk_set012 (h : w.heap[g]? = some (.cells p.arr t (0, 0))) (cap : Int) (A : Option Addr) (n c : Nat) (sure : Int) :
    (((w.setCell ⟨g, 0, none⟩ (.int .i64 cap)).setCell ⟨g, 1, none⟩ (.slice A n c)).setCell ⟨g, 2, none⟩ (.int .i64 sure)).heap[g]? = some (.cells (p.putS cap A n c sure).arr t (0, 0)) := by
  rw [dk_eq012 h]; exact setRow_heap _ _ _ _ _ _ h
theorem dk_grown012 (h : w.heap[g]? = some (.cells p.arr t (0, 0))) (cap : Int) (A : Option Addr) (n c : Nat) (sure : Int) :
    w.grownBy (((w.setCell ⟨g, 0, none⟩ (.int .i64 cap)).setCell ⟨g, 1, none⟩ (.slice A n c)).setCell ⟨g, 2, none⟩ (.int .i64 sure)) (some g) := by
  rw [dk_eq012 h]; exact grown_setRow _ _ _
end
theorem agg_cells (cs : Array Value) : (Value.agg cs).cells = cs := rfl
theorem putB_len (B : Option Addr) (m d : Nat) : (Lp.zero.putB B m d).H.length = 32 := rfl
theorem one_slice (A : Option Addr) (n c : Nat) : (#[.slice A n c] : Array Value).all (·.oneCell') = true := all_oneCell_toArray (cs := [.slice A n c]) (fun v hv => by rcases List.mem_singleton.1 hv with rfl; rfl)
theorem one_store (x y : Int) (A : Option Addr) (n c : Nat) : (#[.int .i64 x, .slice A n c, .int .i64 y] : Array Value).all (·.oneCell') = true :=
  all_oneCell_toArray (cs := [.int .i64 x, .slice A n c, .int .i64 y]) (fun v hv => by simp only [List.mem_cons, List.mem_nil_iff, or_false] at hv; rcases hv with rfl | rfl | rfl <;> rfl)
theorem size_bytes1 (v : Value) : (Tryz.prog.info? 22).map (·.size) = some (#[v] : Array Value).size := by
  show _ = some 1
  kernel_rfl
theorem size_ens1 (v : Value) : (Tryz.prog.info? 25).map (·.size) = some (#[v] : Array Value).size := by
  show _ = some 1
  kernel_rfl
theorem cut_read {s : Sp} (hm : mayP s = true) (hb : ∀ x ∈ s.data, 0 ≤ x ∧ x < 256) : (cutP s (62 * ((readC s.data).length : Int))).2 = 0 := by
  obtain ⟨r1, r2, r3, r4⟩ := reads_all hb
  rcases cut_cases (k := 62 * ((readC s.data).length : Int)) hm with ⟨-, h⟩ | ⟨i, hi, hil, hcu⟩
  · omega
  · rw [hcu]
theorem cut_no_st {s : Sp} (hm : mayP s = false) (k : Int) : cutP s k = (s, 1) := by rw [cutP, if_neg (by rw [hm]; simp)]
end Go.Proofs.YtafmompplcaadaaGreatDoor
