/- Joined texts: The walks over package chain's Start, text, headOf and Link. A range over a function whose values are known ahead, in order; a round goes on, or leaves the function; between two rounds the iterator turns new blocks, and one of its own. A range over a function whose values are known ahead, in order, where the iterator may itself range over another one: what it turns is no cells, and lies beyond all that lay when it was called. A region that draws its order, inside a fence, walked by hand; what a call that makes new memory alone leaves to an iterator's invariants. Package chain's records: whole records, handed on with the head ahead of each. The walk over the document's Verify of bytes. The walk over the document's own Same of entries. The walk over the document's Clash of two lists: two texts of one sum. -/
import Derived.Test.YtafmompplcaadaaDoorAuJG
import Derived.Test.YtafmompplcaadaaDoorAuJF
import Derived.Test.YtafmompplcaadaaDoorAuJD
import Derived.Test.YtafmompplcaadaaDoorAuJE
import Derived.Test.YtafmompplcaadaaDoorAuJB
import Derived.RangeFuncNested
import Derived.RangeFuncBound
import Derived.RangeFuncCalls
import Derived.RangeFuncLeaves
import Derived.RangeFuncBox
import Derived.Shelf.Abstract
import Derived.OwnWalkIn
import Derived.TacticsInMore
import Derived.LoopNIn
import Derived.LoopIn
import Derived.Shelf.RegionOpen
import Derived.Deep.RegionHeld
import Derived.Laws.EntriesVeiled
/- The walks over package chain's Start, text, headOf and Link. -/
namespace Go.Proofs.YtafmompplcaadaaDoor
set_option maxRecDepth 100000
set_option linter.unusedVariables false
set_option linter.unusedSimpArgs false
open Go.RowKit

theorem run_arr32 (A : Option Addr) (c : Nat) (w : World) : (Instr.arrayAt 27 (.slice A 32 c)).run Tryd.prog w = .ok (.pointer A) w := by
  simp [Instr.arrayAt, run_underlying Tryd.underlying27]
theorem cent_range {w : World} {g : Nat} {u : En} (h : w.heap[g]? = some (.cells (enA u) 33 (0, 0))) : w.rangeAt g 0 u.row := fun j v hv => by
  rw [Nat.zero_add, cell_of_row _ _ _ _ _ _ h, enA, List.getElem?_toArray, hv]
theorem lit_next (w : World) (o : Obj) : Bts ((w.alloc o).alloc (.cells #[.int .u8 0] 5)) (some ⟨w.heap.size + 1, 0, none⟩) 1 1 [0] := by
  have h := lit_bts (w.alloc o) #[.int .u8 0] [0] 1 rfl rfl (by unfold maxLen; omega) (by intro j; match j with | 0 => simp | j + 1 => simp)
  rw [size_next] at h
  exact h
set_option maxRecDepth 100000 in
set_option maxHeartbeats 1000000 in
theorem cstart_any (w : World) (hK : KTab w) : Calls Tryd.prog 35 #[] w fun e w' => e = .returned (.agg (idv startC)) ∧ Below w.heap.size w w' := by
  have HS0 := Lib.hid (show ∀ (o : Obj) (g : Nat), w.heap.size + 1 = g → Calls Tryd.prog 46 #[.slice (some ⟨g, 0, none⟩) 1 1] ((w.alloc o).alloc (.cells #[.int .u8 0] 5)) (fun e w' => e = .returned (.agg (idv startC)) ∧ Below ((w.alloc o).alloc (.cells #[.int .u8 0] 5)).heap.size ((w.alloc o).alloc (.cells #[.int .u8 0] 5)) w') from fun o g hg => by
    subst hg
    exact sum_yes _ 1 1 [0] _ (hK.from (two_below w _ _)) (by omega) (lit_next w o))
  have HSL := Lib.hid (show startC.length = 32 from csum_len [0])
  obtain ⟨S, hS⟩ : ∃ S, startC = S := ⟨_, rfl⟩
  rw [hS] at HS0 HSL ⊢
  clear hS hK
  go_enter Tryd.func35, Tryd.ntmps35
  go_wp2_with (first
    | (go_at_call 46; (with_reducible refine (HS0.out _ _ (by simp)).mono ?_); rintro e w1 ⟨rfl, hb1⟩
       obtain ⟨hb0, -, hz1, -⟩ := after_two hb1
       have hz1 : RowB w1 w.heap.size 27 noughtsC := hz1
       have HB1 := Lib.hid hb0
       clear hb1 hb0)
    | ((with_reducible refine wpList_store_blk rfl 27 _ _ rfl w.heap.size (idv S) ?hx7 ?hy7 27 _ hz1.is (info32 HSL.out) ?hs7 (idv_one _) ?_); (case hx7 => rfl); (case hy7 => rfl); (case hs7 => rw [idv_size, idv_size, HSL.out]; rfl)
       intro w6 hg6 hX6 hs6
       clear hz1))
  refine bodyPost_ret (v := .agg (idv S)) ?_ rfl ⟨rfl, ?_⟩
  · exact results_cell_row Tryd.results35 _ _ w.heap.size 27 _ (0, 0) _ rfl hX6 Tryd.underlying27 rfl (info32 HSL.out)
  · exact HB1.out.grown hg6 HB1.out.size (fun k e => by cases e; exact Nat.le_refl _)
theorem ok_text {h b : List Int} (hh : ∀ j, 0 ≤ h.getD j 0 ∧ h.getD j 0 < 256) (hb : ∀ j, 0 ≤ b.getD j 0 ∧ b.getD j 0 < 256) : ∀ j, 0 ≤ (1 :: (h ++ b)).getD j 0 ∧ (1 :: (h ++ b)).getD j 0 < 256 := by
  have e : (1 :: (h ++ b) : List Int) = ([1] ++ h) ++ b := rfl
  rw [e]
  exact ok_append (ok_append (by intro j; match j with | 0 => simp | j + 1 => simp) hh) hb
set_option maxRecDepth 100000 in
set_option maxHeartbeats 1000000 in
theorem ctext_any (h : List Int) (A : Option Addr) (m c : Nat) (b : List Int) (w : World) (hh : h.length = 32) (hhb : ∀ j, 0 ≤ h.getD j 0 ∧ h.getD j 0 < 256) (hb : Bts w A m c b) (hm : m ≤ 1000000) :
    Calls Tryd.prog 47 #[.agg (idv h), .slice A m c] w (GT (1 :: (h ++ b)) w) := by
  have HBT := Lib.hid hb
  have HOK := Lib.hid (ok_text hhb hb.ok)
  have HHB := Lib.hid hhb
  have HHL := Lib.hid hh
  have HM := Lib.hid hm
  have hal := run_all32
  clear hh hhb hb hm
  go_enter Tryd.func47, Tryd.ntmps47
  go_wp2_with (first
    | (at_builtin
       refine wpList_append_b rfl _ _ rfl (w.heap.size + 1) _ [1] rfl (one_own_next w _ 1) (some ⟨w.heap.size, 0, none⟩) 32 32 h rfl (((rowb_lit w 27 _ h rfl).more _).btsAt HHL.out (by unfold maxLen; omega) HHB.out) (by simp) (by simp) ?_
       intro v2 w2 hown2 hg2
       have hb2 : Below w.heap.size w w2 := (two_below w _ _).grown hg2 (by simp; omega) (fun g e => by have e : some (w.heap.size + 1) = some g := e; cases e; omega)
       have hown2 : Own w2 (w.heap.size + 1) v2 ([1] ++ h) := hown2
       have hbt2 := HBT.out.below hb2
       have HB2 := Lib.hid hb2
       have HS2 := Lib.hid (show w.heap.size + 1 ≤ w2.heap.size from Nat.le_trans (by simp) hg2.size)
       clear hg2 hb2)
    | (at_builtin
       refine wpList_append_b rfl _ _ rfl (w.heap.size + 1) v2 ([1] ++ h) rfl hown2 A m c b rfl hbt2 (by have := HM.out; have := HHL.out; simp; omega) HS2.out ?_
       intro v3 w3 hown3 hg3
       have hb3 : Below w.heap.size w2 w3 := (Below.refl _ w2).grown hg3 HB2.out.size (fun g e => by have := (hown2.size g e).1; omega)
       obtain ⟨A3, m3, c3, rfl, hbt3⟩ := (show Own w3 (w.heap.size + 1) v3 (1 :: (h ++ b)) from hown3).slice HOK.out
       have HBT3 := Lib.hid hbt3
       have HB3 := Lib.hid (HB2.out.trans hb3)
       clear hg3 hb3 hbt2 hown2 hown3 hbt3))
  go_ret
  exact ⟨A3, m3, c3, rfl, HBT3.out, HB3.out⟩
theorem bts_range {w : World} {b off n c : Nat} {l : List Int} (h : Bts w (some ⟨b, off, none⟩) n c l) (hn : 0 < n) : w.rangeAt b off (byv l) := fun j v hv => by
  obtain ⟨b', off', e, hc⟩ := h.at_ hn
  cases e
  have hj : j < l.length := by
    have := (List.getElem?_eq_some_iff.1 hv).1
    rwa [byv_length] at this
  rw [byv_get l j hj] at hv
  rw [hc j (by have := h.len; omega), hv]
set_option maxRecDepth 100000 in
set_option maxHeartbeats 1000000 in
theorem cheadof_any (A : Option Addr) (n c : Nat) (b : List Int) (w : World) (hK : KTab w) (hb : Bts w A n c b) (h : n = 0 ∨ 32 ≤ n) :
    Calls Tryd.prog 31 #[.slice A n c] w fun e w' => e = .returned (.agg (idv (headB b))) ∧ Below w.heap.size w w' := by
  have hbl := hb.len
  have hn := hb.small
  have HZL := Lib.hid (headB_len (b := b) (by omega))
  rcases h with h0 | h32
  · have hb0 : b = [] := List.eq_nil_of_length_eq_zero (by omega)
    have HST := Lib.hid (fun (W : World) (hk : KTab W) => cstart_any W hk)
    have HK := Lib.hid hK
    rw [show headB b = startC by rw [headB, if_pos hb0]] at HZL ⊢
    obtain ⟨S, hS⟩ : ∃ S, startC = S := ⟨_, rfl⟩
    rw [hS] at HST HZL ⊢
    clear hS hK hb hb0 hbl hn
    subst h0
    go_enter Tryd.func31, Tryd.ntmps31
    go_wp2_with (first
      | (go_at_call 35; (with_reducible refine (HST.out _ (HK.out.from (one_alloc w _))).mono ?_); rintro e w1 ⟨rfl, hb1⟩
         obtain ⟨hb0, -, hz1⟩ := after_one hb1
         have hz1 : RowB w1 w.heap.size 27 noughtsC := hz1
         have HB1 := Lib.hid hb0
         clear hb1 hb0)
      | ((with_reducible refine wpList_store_blk rfl 27 _ _ rfl w.heap.size (idv S) ?hx7 ?hy7 27 _ hz1.is (info32 HZL.out) ?hs7 (idv_one _) ?_); (case hx7 => rfl); (case hy7 => rfl); (case hs7 => rw [idv_size, idv_size, HZL.out]; rfl)
         intro w6 hg6 hX6 hs6
         clear hz1))
    refine bodyPost_ret (v := .agg (idv S)) ?_ rfl ⟨rfl, ?_⟩
    · exact results_cell_row Tryd.results31 _ _ w.heap.size 27 _ (0, 0) _ rfl hX6 Tryd.underlying27 rfl (info32 HZL.out)
    · exact HB1.out.grown hg6 HB1.out.size (fun k e => by cases e; exact Nat.le_refl _)
  · obtain ⟨A2, hcut, hbt⟩ := run_from hb ((n : Int) - 32) (lo := n - 32) (by omega) (by omega)
    have hne : ¬ b = [] := fun e => by rw [e] at hbl; simp at hbl; omega
    have e32 : n - (n - 32) = 32 := by omega
    rw [e32] at hcut hbt
    rw [show headB b = b.drop (n - 32) by rw [headB, if_neg hne, hbl]] at HZL ⊢
    obtain ⟨Z, hZ⟩ : ∃ Z, b.drop (n - 32) = Z := ⟨_, rfl⟩
    obtain ⟨d, hd⟩ : ∃ d, c - (n - 32) = d := ⟨_, rfl⟩
    rw [hZ] at HZL hbt ⊢
    rw [hd] at hcut hbt
    obtain ⟨bb, oo, rfl, -⟩ := hbt.at_ (by omega)
    have HR := Lib.hid (show ∀ W, Below w.heap.size w W → W.rangeAt bb oo (byv Z) from fun W hW => bts_range (hbt.below hW) (by omega))
    have harr := run_arr32
    have hw0 : IntKind.i64.wrap ((n : Int) - 32) = (n : Int) - 32 := by rw [IntKind.wrap_i64]; omega
    have e0 : ((n : Int) == 0) = false := by rw [beq_eq_false_iff_ne]; omega
    clear hZ hd hb hbt hne hK e32
    go_enter Tryd.func31, Tryd.ntmps31
    go_wp2_with (first
      | ((with_reducible refine wpList_load_on 27 _ rfl bb oo ?hx1 (byv Z) (idv Z) ?ht1 _ (HR.out _ (one_alloc w _)) Tryd.underlying27 ?hd1 ?hi1 ?_ ?hw1); (case hx1 => rfl); (case ht1 => rfl); (case hd1 => rfl); (case hi1 => exact info32 HZL.out); (case hw1 => rfl))
      | ((with_reducible refine wpList_store_blk rfl 27 _ _ rfl w.heap.size (idv Z) ?hx7 ?hy7 27 _ (heap_alloc_new w _) (info32 HZL.out) ?hs7 (idv_one _) ?_); (case hx7 => rfl); (case hy7 => rfl); (case hs7 => rw [idv_size, HZL.out]; rfl)
         intro w6 hg6 hX6 hs6))
    refine bodyPost_ret (v := .agg (idv Z)) ?_ rfl ⟨rfl, ?_⟩
    · exact results_cell_row Tryd.results31 _ _ w.heap.size 27 _ (0, 0) _ rfl hX6 Tryd.underlying27 rfl (info32 HZL.out)
    · exact (one_alloc w (.cells (idv noughtsC) 27)).grown hg6 (size_le_alloc _ _) (fun k e => by cases e; exact Nat.le_refl _)
set_option maxRecDepth 100000 in
set_option maxHeartbeats 2000000 in
theorem clink_yes (h : List Int) (u : En) (w : World) (hK : KTab w) (hh : h.length = 32) (hb : ∀ j, 0 ≤ h.getD j 0 ∧ h.getD j 0 < 256) (hm : mayE u = true) (ho : u.ok) :
    Calls Tryd.prog 36 #[.agg (idv h), enV u] w fun e w' => e = .returned (.tuple #[.agg (idv (linkC h u)), .bool true]) ∧ Below w.heap.size w w' := by
  have HPE := Lib.hid (fun W => eput_any u W ho)
  rw [hm, if_pos rfl] at HPE
  have HK := Lib.hid hK
  have HHB := Lib.hid hb
  have HHL := Lib.hid hh
  unfold enV at HPE ⊢
  obtain ⟨Y, hY⟩ : ∃ Y, linkC h u = Y := ⟨_, rfl⟩
  have HYL := Lib.hid (show Y.length = 32 by rw [← hY]; exact csum_len _)
  have HTX := Lib.hid (fun (A : Option Addr) (m c : Nat) (W : World) (hb1 : Bts W A m c (putE u)) (hm : m ≤ 1000000) => ctext_any h A m c (putE u) W hh hb hb1 hm)
  have HSM := Lib.hid (show ∀ (A : Option Addr) (m d : Nat) (W : World), KTab W → m ≤ 1048576 → Bts W A m d (1 :: (h ++ putE u)) → Calls Tryd.prog 46 #[.slice A m d] W (fun e w' => e = .returned (.agg (idv Y)) ∧ Below W.heap.size W w') from fun A m d W hk h1 h2 => by rw [← hY]; exact sum_yes A m d _ W hk h1 h2)
  rw [hY]
  clear hh hb hm ho hY hK
  go_enter Tryd.func36, Tryd.ntmps36
  go_wp2_with (first
    | ((with_reducible refine wpList_load_blk 33 _ rfl (w.heap.size + 1) ?hx1 33 (enA u) (0, 0) _ (three_of_c _ _ _ _) Tryd.underlying33 ?hd1 (info_en (enA_size _)) ?_ ?hw1); (case hx1 => rfl); (case hd1 => rfl); (case hw1 => rfl))
    | (go_at_call 37; (with_reducible refine (HPE.out _).mono ?_); rintro e w1 ⟨A1, m1, c1, rfl, hbt1, hb1⟩
       obtain ⟨hb0, hH1, -, hZ1⟩ := after_three_c hb1
       have hH1 : RowB w1 w.heap.size 27 h := hH1
       have hZ1 : RowB w1 (w.heap.size + 2) 27 noughtsC := hZ1
       have hm1 : m1 ≤ 1000000 := by have := hbt1.len; rw [put_len] at this; omega
       have HB1 := Lib.hid hb0
       clear hb1 hb0)
    | ((with_reducible refine wpList_load_blk 27 _ rfl w.heap.size ?hx2 27 (idv h) (0, 0) _ hH1.is Tryd.underlying27 ?hd2 (info32 HHL.out) ?_ ?hw2); (case hx2 => rfl); (case hd2 => rfl); (case hw2 => rfl))
    | (go_at_call 47; (with_reducible refine (HTX.out _ _ _ _ hbt1 hm1).mono ?_); rintro e w3 ⟨A3, m3, c3, rfl, hbt3, hb3⟩
       have hZ3 := hZ1.keep hb3
       have HB3 := Lib.hid (HB1.out.trans (hb3.mono HB1.out.size))
       have hm3 : m3 ≤ 1048576 := by
         have h1 := hbt3.len
         have h2 := HHL.out
         rw [List.length_cons, List.length_append, put_len] at h1
         omega
       clear hb3 hZ1 hH1 hbt1 hm1)
    | (go_at_call 46; (with_reducible refine (HSM.out _ _ _ _ (HK.out.from HB3.out) hm3 hbt3).mono ?_); rintro e w4 ⟨rfl, hb4⟩
       have hZ4 := hZ3.keep hb4
       have HB4 := Lib.hid (HB3.out.trans (hb4.mono HB3.out.size))
       clear hb4 hZ3 hbt3 hm3)
    | ((with_reducible refine wpList_store_blk rfl 27 _ _ rfl (w.heap.size + 2) (idv Y) ?hx7 ?hy7 27 _ hZ4.is (info32 HYL.out) ?hs7 (idv_one _) ?_); (case hx7 => rfl); (case hy7 => rfl); (case hs7 => rw [idv_size, idv_size, HYL.out]; rfl)
       intro w6 hg6 hX6 hs6
       clear hZ4))
  refine bodyPost_ret (v := .tuple #[.agg (idv Y), .bool true]) ?_ rfl ⟨rfl, ?_⟩
  · exact results_blk_tmp Tryd.results36 _ _ _ (w.heap.size + 2) 27 _ (0, 0) _ rfl hX6 Tryd.underlying27 rfl (info32 HYL.out) _ rfl
  · exact HB4.out.grown hg6 HB4.out.size (fun k e => by cases e; omega)
set_option maxRecDepth 100000 in
set_option maxHeartbeats 2000000 in
theorem clink_no (h : List Int) (u : En) (w : World) (hm : mayE u = false) (ho : u.ok) :
    Calls Tryd.prog 36 #[.agg (idv h), enV u] w fun e w' => e = .returned (.tuple #[.agg (idv noughtsC), .bool false]) ∧ Below w.heap.size w w' := by
  have HPE := Lib.hid (fun W => eput_any u W ho)
  rw [hm] at HPE
  unfold enV at HPE ⊢
  obtain ⟨P, hP⟩ : ∃ P, (if false = true then putE u else []) = P := ⟨_, rfl⟩
  rw [hP] at HPE
  have hNL : noughtsC.length = 32 := rfl
  have HNL := Lib.hid hNL
  clear hm hNL ho hP
  go_enter Tryd.func36, Tryd.ntmps36
  go_wp2_with (first
    | ((with_reducible refine wpList_load_blk 33 _ rfl (w.heap.size + 1) ?hx1 33 (enA u) (0, 0) _ (three_of_c _ _ _ _) Tryd.underlying33 ?hd1 (info_en (enA_size _)) ?_ ?hw1); (case hx1 => rfl); (case hd1 => rfl); (case hw1 => rfl))
    | (go_at_call 37; (with_reducible refine (HPE.out _).mono ?_); rintro e w1 ⟨A1, m1, c1, rfl, hbt1, hb1⟩
       obtain ⟨hb0, -, -, hZ1⟩ := after_three_c hb1
       have hZ1 : RowB w1 (w.heap.size + 2) 27 noughtsC := hZ1
       have HB1 := Lib.hid hb0
       clear hb1 hb0 hbt1)
    | ((with_reducible refine wpList_store_blk rfl 27 _ _ rfl (w.heap.size + 2) (idv noughtsC) ?hx7 ?hy7 27 _ hZ1.is (info32 HNL.out) ?hs7 (idv_one _) ?_); (case hx7 => rfl); (case hy7 => rfl); (case hs7 => rfl)
       intro w6 hg6 hX6 hs6
       clear hZ1))
  refine bodyPost_ret (v := .tuple #[.agg (idv noughtsC), .bool false]) ?_ rfl ⟨rfl, ?_⟩
  · exact results_blk_tmp Tryd.results36 _ _ _ (w.heap.size + 2) 27 _ (0, 0) _ rfl hX6 Tryd.underlying27 rfl (info32 HNL.out) _ rfl
  · exact HB1.out.grown hg6 HB1.out.size (fun k e => by cases e; omega)
theorem clink_any (h : List Int) (u : En) (w : World) (hK : KTab w) (hh : h.length = 32) (hb : ∀ j, 0 ≤ h.getD j 0 ∧ h.getD j 0 < 256) (ho : u.ok) :
    Calls Tryd.prog 36 #[.agg (idv h), enV u] w fun e w' => e = .returned (.tuple #[.agg (idv (linkP h u)), .bool (mayE u)]) ∧ Below w.heap.size w w' := by
  cases hm : mayE u with
  | false => rw [show linkP h u = noughtsC by rw [linkP, hm]; rfl]; exact clink_no h u w hm ho
  | true => rw [show linkP h u = linkC h u by rw [linkP, hm]; rfl]; exact clink_yes h u w hK hh hb hm ho
end Go.Proofs.YtafmompplcaadaaDoor

/- A range over a function whose values are known ahead, in order; a round goes on, or leaves the function; between two rounds the iterator turns new blocks, and one of its own. -/
namespace Go.Proofs.YtafmompplcaadaaDoor
set_option linter.unusedVariables false
open Go.RowKit

/-- a world in which nothing has turned but the block g -/
structure But (g : Nat) (w w' : World) : Prop where
  os : w'.os = w.os
  tape : w'.tape = w.tape
  output : w'.output = w.output
  size : w.heap.size ≤ w'.heap.size
  block : ∀ b, b < w.heap.size → b ≠ g → w'.heap[b]? = w.heap[b]?
section
variable {g B : Nat} {w w1 w2 : World}
theorem But.refl (g : Nat) (w : World) : But g w w := ⟨rfl, rfl, rfl, Nat.le_refl _, fun _ _ _ => rfl⟩
theorem But.trans (h : But g w w1) (k : But g w1 w2) : But g w w2 :=
  ⟨k.os.trans h.os, k.tape.trans h.tape, k.output.trans h.output, Nat.le_trans h.size k.size, fun b hb hg => (k.block b (Nat.lt_of_lt_of_le hb h.size) hg).trans (h.block b hb hg)⟩
theorem But.of_below (h : Below w.heap.size w w1) : But g w w1 := ⟨h.os, h.tape, h.output, h.size, fun b hb _ => h.block b hb⟩
theorem But.alloc (h : But g w w1) (o : Obj) : But g w (w1.alloc o) := h.trans (But.of_below ((Below.refl _ _).alloc (Nat.le_refl _) o))
theorem But.drew (h : But g w w1) : But g w w1.drew := ⟨h.os, h.tape, h.output, h.size, h.block⟩
theorem But.drewN (h : But g w w1) (n : Nat) : But g w (w1.drewN n) := ⟨h.os, h.tape, h.output, h.size, h.block⟩
theorem But.set (h : But g w w1) (v : Value) : But g w (w1.setCell ⟨g, 0, none⟩ v) :=
  h.trans ⟨rfl, rfl, rfl, by simp [World.setCell], fun b _ hne => Below.heap_setCell _ _ _ _ hne⟩
theorem But.setAt (h : But g w w1) (o : Nat) (v : Value) : But g w (w1.setCell ⟨g, o, none⟩ v) :=
  h.trans ⟨rfl, rfl, rfl, by simp [World.setCell], fun b _ hne => Below.heap_setCell _ _ _ _ hne⟩
theorem But.new {o : Nat} (h : But g w w1) (v : Value) (a : Addr) (ha : w.heap.size ≤ a.block) : But g w (w1.setCell a v) :=
  ⟨h.os, h.tape, h.output, by simpa [World.setCell] using h.size, fun b hb hne => (Below.heap_setCell _ _ _ _ (by omega)).trans (h.block b hb hne)⟩
theorem But.below (h : But g w w1) (hB : B ≤ g) (hw : B ≤ w.heap.size) : Below B w w1 := ⟨h.os, h.tape, h.output, h.size, fun b hb => h.block b (by omega) (by omega)⟩
theorem But.boxed {f : Nat} {t : TypeId} {v : Value} (h : But g w w1) (hf : Boxed w f t v) (hne : f ≠ g) : Boxed w1 f t v := (h.block f hf.lt hne).trans hf
end

/-- an iterator that hands over vals 0, .., vals (N - 1), till it is told to stop; the block that it turns is the first one that it makes -/
def HandsX (F : Fence) (n : Nat) (P : Program) (gf : Nat) (lb : Array Value) (vals : Nat → Value) (N : Nat) (Kp : Nat → World → World → Prop) (w0 : World) : Prop :=
  ∀ (l : Nat) (J : Nat → World → Prop) (Jx : World → Prop) (W : World), Below w0.heap.size w0 W →
    (∀ k A B, J k A → But W.heap.size A B → J k B) → (∀ A B, Jx A → But W.heap.size A B → Jx B) →
    (∀ k W1, k < N → W.heap.size < W1.heap.size → J k W1 → YieldAt F (n - 1) P l #[vals k] W1 fun e W' => (e = .returned (.bool true) ∧ J (k + 1) W' ∧ Kp W.heap.size W1 W') ∨ (e = .returned (.bool false) ∧ Jx W')) → J 0 W →
    CallsIn F n P gf (#[.func (.yield l) #[] #[]] ++ lb) W fun e W' => (∃ v, e = .returned v) ∧ (J N W' ∨ Jx W')
/-- a round that goes on, or leaves the function -/
def GoesOr (Kp : World → World → Prop) (I : Nat → World → Prop) (Ix : World → Prop) (k : Nat) (W : World) : Exit → Act → World → Prop
  | .normal, _, W' => KeepsOthers W W' ∧ Kp W W' ∧ I (k + 1) W'
  | .ret, _, W' => KeepsOthers W W' ∧ Ix W'
  | _, _, _ => False
theorem range_stops {F : Fence} {n : Nat} {P : Program} {g : Operand} {p : Tmp} {assign body : Code} {Q : Exit → Act → World → Prop} {a : Act} {w w0 : World} (hro : F.round = none) (h1 : 1 ≤ n)
    {gf : Nat} {lb : Array Value} (hg : a.eval g = .func (.func gf) #[] lb) (hF : F.fn gf) (eg : ∀ args w, (callFunc gf args).run P w = .ok (.enter gf args) w)
    {vals : Nat → Value} {N : Nat} {Kp : Nat → World → World → Prop} (hseq : HandsX F (n - 1) P gf lb vals N Kp w0) (hb0 : Below w0.heap.size w0 w)
    (hKt : ∀ {A B C : World}, Kp (w.heap.size + 1 + 1) A B → Kp (w.heap.size + 1 + 1) B C → Kp (w.heap.size + 1 + 1) A C) (hKb : ∀ (W : World) (o o' : Obj), W.heap[w.heap.size + 1]? = some o → o.isCells = false → o.isWalk = false → Kp (w.heap.size + 1 + 1) W (W.putObj (w.heap.size + 1) o'))
    (I : Nat → World → Prop) (hI : ∀ k W l o o', I k W → w.heap.size ≤ l → W.heap[l]? = some o → o.isCells = false → I k (W.putObj l o')) (hIb : ∀ k A B, I k A → But (w.heap.size + 1 + 1) A B → I k B)
    (Ix : World → Prop) (hIx : ∀ W l o o', Ix W → w.heap.size ≤ l → W.heap[l]? = some o → o.isCells = false → Ix (W.putObj l o')) (hIxb : ∀ A B, Ix A → But (w.heap.size + 1 + 1) A B → Ix B)
    (h0 : ∀ o, I 0 ((w.alloc (.deferred (some []))).alloc o)) (Ax : Nat → Act → World → Prop) (hAx : ∀ k a' W l o o', Ax k a' W → w.heap.size ≤ l → W.heap[l]? = some o → o.isCells = false → Ax k a' (W.putObj l o'))
    (hassign : ∀ (l k : Nat) (W : World) (K : Act → World → Prop), k < N → w.heap.size + 1 + 1 < W.heap.size → I k W → (∀ a' W', KeepsOthers W W' → Kp (w.heap.size + 1 + 1) W W' → I k W' → Ax k a' W' → K a' W') →
      assign.wpIn (F.inRound l) (n - 1 - 1) P (Exit.then K (fun _ _ _ => False)) { tmps := (#[p].zip #[vals k]).foldl (fun t (p, v) => t.setIfInBounds p v) a.tmps, defers := [] } W)
    (hbody : ∀ (l k : Nat) (a' : Act) (W : World), k < N → I k W → Ax k a' W → body.wpIn (F.inRound l) (n - 1 - 1) P (GoesOr (Kp (w.heap.size + 1 + 1)) I Ix k W) a' W)
    (hdone : ∀ (D : Nat) (W : World), w.heap.size ≤ D → I N W → W.heap[D]? = some (.deferred (some [])) → Q .normal { a with defers := { target := .collected D, args := #[] } :: a.defers } W)
    (hstop : ∀ (D : Nat) (W : World), w.heap.size ≤ D → Ix W → W.heap[D]? = some (.deferred (some [])) → Code.ret.wpIn F n P Q { a with defers := { target := .collected D, args := #[] } :: a.defers } W) :
    (Code.rangeFunc g #[p] assign body).wpIn F n P Q a w := by
  refine wpIn_rangeFunc fun fn hfn => ?_
  rw [hro]
  let rec_ : LoopState → Option Code → Loop := fun st pe => { state := st, pending := pe, fn := fn, tmps := a.tmps, params := #[p], assign := assign, body := body, defers := w.heap.size }
  let L := w.heap.size + 1
  let W1 := (w.alloc (.deferred (some []))).alloc (.loop (rec_ .ready none))
  have hL1 : W1.heap[L]? = some (.loop (rec_ .ready none)) := heap_alloc2_new w _ _
  have hD1 : W1.heap[w.heap.size]? = some (.deferred (some [])) := heap_alloc2_old w _ _
  have hz1 : W1.heap.size = w.heap.size + 1 + 1 := by
    show ((w.alloc (.deferred (some []))).alloc (.loop (rec_ .ready none))).heap.size = _
    simp
  have hB1 : Below w0.heap.size w0 W1 := hb0.trans ((two_below w _ _).mono hb0.size)
  have keep : ∀ (A B : World) (b : Nat) (o : Obj), But W1.heap.size A B → b < w.heap.size + 1 + 1 → A.heap[b]? = some o → B.heap[b]? = some o := fun A B b o hb hlt ho => by
    rw [hz1] at hb
    exact (hb.block b (Array.getElem?_eq_some_iff.1 ho).1 (by omega)).trans ho
  refine ⟨L, [{ target := .collected w.heap.size, args := #[] }], W1, { target := .fn (.func gf) lb, args := #[.func (.yield L) #[] #[]] }, W1, gf, #[.func (.yield L) #[] #[]] ++ lb, W1, run_enterLoop_outer _ _ _ _ _, ?_, ?_, ?_, fun _ => h1, ?_⟩
  · simp only [resolve, hg]
    simp [go_sem]
  · intro f' hf'
    simp [Target.leads] at hf'
    subst hf'
    exact hF
  · simp [invoke, go_sem, eg]
  refine (hseq L (fun k W => I k W ∧ W.heap[L]? = some (.loop (rec_ .ready none)) ∧ W.heap[w.heap.size]? = some (.deferred (some []))) (fun W => Ix W ∧ W.heap[L]? = some (.loop (rec_ .done (some .ret))) ∧ W.heap[w.heap.size]? = some (.deferred (some []))) W1 hB1
    (fun k A B ⟨hi, hl, hd⟩ hb => ⟨hIb k A B hi (by rw [← hz1]; exact hb), keep A B _ _ hb (by show w.heap.size + 1 < w.heap.size + 1 + 1; omega) hl, keep A B _ _ hb (by omega) hd⟩)
    (fun A B ⟨hi, hl, hd⟩ hb => ⟨hIxb A B hi (by rw [← hz1]; exact hb), keep A B _ _ hb (by show w.heap.size + 1 < w.heap.size + 1 + 1; omega) hl, keep A B _ _ hb (by omega) hd⟩)
    (fun k W hk hsz ⟨hi, hl, hd⟩ => ?_) ⟨h0 _, hL1, hD1⟩).mono ?_
  · refine ⟨fn, _, assign, body, run_yield (args := #[vals k]) hl rfl, roundIn_of_wpIn hfn ?_⟩
    refine hassign L k W _ hk (by rw [hz1] at hsz; exact hsz) hi ?_
    intro a' Wa hka hkpa hia hax
    replace hl := hka.same _ _ hl rfl
    replace hd := hka.same _ _ hd rfl
    have hlt : L < Wa.heap.size := (Array.getElem?_eq_some_iff.1 hl).1
    refine ⟨_, run_beginRound hl rfl, ?_⟩
    have hl2 : (Wa.putObj L (.loop { rec_ .ready none with state := .busy })).heap[L]? = some (.loop { rec_ .ready none with state := .busy }) := World.putObj_heap_same hlt
    have hd2 : (Wa.putObj L (.loop { rec_ .ready none with state := .busy })).heap[w.heap.size]? = some (.deferred (some [])) := (World.putObj_heap_other (by show w.heap.size ≠ w.heap.size + 1; omega)).trans hd
    refine wpIn_mono (hbody L k a' _ hk (hI k _ _ _ _ hia (Nat.le_succ _) hl rfl) (hAx k a' _ _ _ _ hax (Nat.le_succ _) hl rfl)) ?_
    rintro e a3 W3 hp
    rw [hz1]
    cases e with
    | normal =>
      obtain ⟨hk3, hkp3, hi3⟩ := hp
      have hl3 := hk3.same _ _ hl2 rfl
      have hd3 := hk3.same _ _ hd2 rfl
      exact ⟨_, _, run_endRound none hl3, .inl ⟨rfl, ⟨hI _ _ _ _ _ hi3 (Nat.le_succ _) hl3 rfl, World.putObj_heap_same (Array.getElem?_eq_some_iff.1 hl3).1, (World.putObj_heap_other (by show w.heap.size ≠ w.heap.size + 1; omega)).trans hd3⟩, hKt hkpa (hKt (hKt (hKb _ _ _ hl rfl rfl) hkp3) (hKb _ _ _ hl3 rfl rfl))⟩⟩
    | ret =>
      obtain ⟨hk3, hi3⟩ := hp
      have hl3 := hk3.same _ _ hl2 rfl
      have hd3 := hk3.same _ _ hd2 rfl
      exact ⟨_, _, run_endRound (some .ret) hl3, .inr ⟨rfl, hIx _ _ _ _ hi3 (Nat.le_succ _) hl3 rfl, World.putObj_heap_same (Array.getElem?_eq_some_iff.1 hl3).1, (World.putObj_heap_other (by show w.heap.size ≠ w.heap.size + 1; omega)).trans hd3⟩⟩
    | exit id => exact hp.elim
    | goto t => exact hp.elim
    | panic ch => exact hp.elim
    | outgrown => exact hp.elim
  · rintro e W2 ⟨⟨v, rfl⟩, ⟨hi, hl, hd⟩ | ⟨hi, hl, hd⟩⟩
    · exact ⟨none, _, run_endLoop hl (by simp [rec_]), hdone _ _ (Nat.le_refl _) (hI _ _ _ _ _ hi (Nat.le_succ _) hl rfl) ((World.putObj_heap_other (by show w.heap.size ≠ w.heap.size + 1; omega)).trans hd)⟩
    · exact ⟨some .ret, _, run_endLoop hl (by simp [rec_]), hstop _ _ (Nat.le_refl _) (hIx _ _ _ _ hi (Nat.le_succ _) hl rfl) ((World.putObj_heap_other (by show w.heap.size ≠ w.heap.size + 1; omega)).trans hd)⟩

theorem cells_lie {w : World} {a : Addr} {v : Value} (h : w.cell? a = some v) : ∃ o : Obj, w.heap[a.block]? = some o ∧ o.isCells = true := cells_of_cell h
theorem block_ne {w : World} {b l : Nat} {o o2 : Obj} (hb : w.heap[b]? = some o2) (hc : o2.isCells = true) (hl : w.heap[l]? = some o) (hn : o.isCells = false) : b ≠ l := by
  rintro rfl
  rw [hb] at hl
  cases hl
  rw [hc] at hn
  cases hn
theorem boxed_put {w : World} {B l : Nat} {t : TypeId} {v : Value} {o : Obj} (o' : Obj) (h : Boxed w B t v) (hl : w.heap[l]? = some o) (hn : o.isCells = false) : Boxed (w.putObj l o') B t v :=
  h.kept (grownBy_putObj' w l o') (fun e => by injection e with e; exact block_ne h rfl hl hn e)
theorem own_put {K : IntKind} {e : TypeId} {w : World} {base l : Nat} {v : Value} {b : List Int} {o : Obj} (o' : Obj) (h : OwnI K e w base v b) (hl : w.heap[l]? = some o) (hn : o.isCells = false) : OwnI K e (w.putObj l o') base v b := by
  refine h.far (grownBy_putObj' w l o') ?_
  rcases h.2 with ⟨hv, _⟩ | ⟨g, cap, cur, hv, _, hh, _⟩
  · left; rw [hv]; rfl
  · right
    rw [hv]
    intro e
    injection e with e
    exact block_ne hh rfl hl hn e
theorem own_but {K : IntKind} {e : TypeId} {w w' : World} {base g : Nat} {v : Value} {b : List Int} (h : OwnI K e w base v b) (hb : But g w w') (hg : g < base) : OwnI K e w' base v b := by
  refine ⟨h.1, ?_⟩
  rcases h.2 with h0 | ⟨x, cap, cur, hv, hx, hh, rest⟩
  · exact .inl h0
  · exact .inr ⟨x, cap, cur, hv, hx, (hb.block x (Array.getElem?_eq_some_iff.1 hh).1 (by omega)).trans hh, rest⟩
theorem own_set {K : IntKind} {e : TypeId} {w : World} {base b : Nat} {u x : Value} {l : List Int} (h : OwnI K e w base u l) (hb : b < base) : OwnI K e (w.setCell ⟨b, 0, none⟩ x) base u l := by
  refine h.far (grownBy_setCell' w b x) ?_
  cases hu : u.ownBlock with
  | none => exact .inl rfl
  | some g => exact .inr fun e => by injection e with e; have := (h.size g hu).1; omega
theorem others_below {w w' : World} (h : Below w.heap.size w w') : KeepsOthers w w' := ⟨h.size, fun i o hi _ => (h.block i (Array.getElem?_eq_some_iff.1 hi).1).trans hi⟩
theorem others_grown {K : IntKind} {e : TypeId} {w w' : World} {base : Nat} {v : Value} {b : List Int} (h : OwnI K e w base v b) (hg : w.grownBy w' v.ownBlock) : KeepsOthers w w' := by
  refine ⟨hg.size, fun i o hi ho => (hg.block i (Array.getElem?_eq_some_iff.1 hi).1 ?_).trans hi⟩
  rcases h.2 with ⟨hv, _⟩ | ⟨g, cap, cur, hv, _, hh, _⟩
  · rw [hv]; simp [Value.ownBlock]
  · rw [hv]
    intro e
    injection e with e
    exact block_ne hh rfl hi ho e.symm
end Go.Proofs.YtafmompplcaadaaDoor

/- A range over a function whose values are known ahead, in order, where the iterator may itself range over another one: what it turns is no cells, and lies beyond all that lay when it was called. -/
namespace Go.Proofs.YtafmompplcaadaaDoor
set_option linter.unusedVariables false
open Go.RowKit

theorem yield_any {m : Nat} (m' : Nat) {P : Program} {l : Nat} {args : Array Value} {W : World} {R : Ending → World → Prop} (h : YieldAt Fence.wide m P l args W R) : YieldAt Fence.wide m' P l args W R := by
  obtain ⟨fn, tmps, assign, body, hy, hR⟩ := h
  exact ⟨fn, tmps, assign, body, hy, hR.1, fun c cs _ => hR.2 c cs (room_wide _)⟩
theorem calls_depth {m : Nat} (m' : Nat) {P : Program} {f : FuncId} {args : Array Value} {W : World} {R : Ending → World → Prop} (h : CallsIn Fence.wide m P f args W R) : CallsIn Fence.wide m' P f args W R :=
  callsIn_wide.2 (callsIn_wide.1 h)
theorem keepsFrom_lift {B B' : Nat} {W W' : World} (h : KeepsFrom B W W') (hB : B ≤ B') : KeepsFrom B' W W' := ⟨h.size, fun k o hk => h.same k o (by omega)⟩
theorem keepsFrom_put {B l : Nat} {W : World} (o : Obj) (h : l < B) : KeepsFrom B W (W.putObj l o) := KeepsFrom.of_grownBy (grownBy_putObj' W l o) (fun j e => by injection e with e; omega)
theorem ownFrom_lift {β : Type} {B B' : Nat} {I : β → World → Prop} (h : OwnFrom B I) (hB : B ≤ B') : OwnFrom B' I := fun s W W' row hs hg hr => h s W W' row hs hg (fun r e => ⟨by have := (hr r e).1; omega, (hr r e).2⟩)

/-- what lies below n stays as it lay, and so do the blocks bs -/
def KeepB (n : Nat) (bs : List Nat) (X Y : World) : Prop := Below n X Y ∧ ∀ b ∈ bs, ∀ o : Obj, X.heap[b]? = some o → Y.heap[b]? = some o
theorem KeepB.trans {n : Nat} {bs : List Nat} {X Y Z : World} (h : KeepB n bs X Y) (k : KeepB n bs Y Z) : KeepB n bs X Z := ⟨h.1.trans k.1, fun b hb o ho => k.2 b hb o (h.2 b hb o ho)⟩
theorem KeepB.less {n : Nat} {bs cs : List Nat} {X Y : World} (h : KeepB n bs X Y) (hc : ∀ b ∈ cs, b ∈ bs) : KeepB n cs X Y := ⟨h.1, fun b hb => h.2 b (hc b hb)⟩
theorem KeepB.refl (n : Nat) (bs : List Nat) (X : World) : KeepB n bs X X := ⟨Below.refl _ _, fun _ _ _ h => h⟩
theorem KeepB.alloc (n : Nat) (bs : List Nat) (X : World) (o : Obj) (hn : n ≤ X.heap.size) : KeepB n bs X (X.alloc o) := ⟨(Below.refl _ X).alloc hn o, fun b _ o' ho => (Below.heap_alloc X o _ (Array.getElem?_eq_some_iff.1 ho).1).trans ho⟩
theorem KeepB.put {n l : Nat} {bs : List Nat} {X : World} {o : Obj} (o' : Obj) (hl : X.heap[l]? = some o) (hn : n ≤ l) (hb : ∀ b ∈ bs, b ≠ l) : KeepB n bs X (X.putObj l o') :=
  ⟨(Below.refl n X).grown (grownBy_putObj' X l o') (by have := (Array.getElem?_eq_some_iff.1 hl).1; omega) (fun k e => by cases e; omega), fun b hm o2 ho => (World.putObj_heap_other (hb b hm)).trans ho⟩
/-- an iterator that hands over vals 0, .., vals (N - 1), till it is told to stop; Kp: what a round that goes on must keep for it -/
def HandsC (P : Program) (gf : Nat) (lb : Array Value) (vals : Nat → Array Value) (N : Nat) (Kp : Nat → World → World → Prop) (w0 : World) : Prop :=
  ∀ (n l : Nat) (J : Nat → World → Prop) (Jx : World → Prop) (W : World), Below w0.heap.size w0 W → OwnFrom W.heap.size J → OwnFrom W.heap.size (fun (_ : Unit) X => Jx X) →
    (∀ k W1, k < N → J k W1 → YieldAt Fence.wide 0 P l (vals k) W1 fun e W' => (e = .returned (.bool true) ∧ J (k + 1) W' ∧ Kp W.heap.size W1 W' ∧ KeepsFrom W.heap.size W1 W') ∨ (e = .returned (.bool false) ∧ Jx W' ∧ KeepsFrom W.heap.size W1 W')) → J 0 W →
    CallsIn Fence.wide n P gf (#[.func (.yield l) #[] #[]] ++ lb) W fun e W' => (∃ v, e = .returned v) ∧ (J N W' ∨ Jx W')
/-- a round that goes on, or leaves the function -/
def GoesC (B : Nat) (Kp : World → World → Prop) (I : Nat → World → Prop) (Ix : World → Prop) (k : Nat) (W : World) : Exit → Act → World → Prop
  | .normal, _, W' => KeepsFrom B W W' ∧ Kp W W' ∧ I (k + 1) W'
  | .ret, _, W' => KeepsFrom B W W' ∧ Ix W'
  | _, _, _ => False
theorem range_c {n : Nat} {P : Program} {g : Operand} {ps : Array Tmp} {assign body : Code} {Q : Exit → Act → World → Prop} {a : Act} {w w0 : World}
    {gf : Nat} {lb : Array Value} (hg : a.eval g = .func (.func gf) #[] lb) (eg : ∀ args w, (callFunc gf args).run P w = .ok (.enter gf args) w)
    {vals : Nat → Array Value} {N : Nat} {Kp : Nat → World → World → Prop} (hseq : HandsC P gf lb vals N Kp w0) (hb0 : Below w0.heap.size w0 w) (hps : ∀ k, (vals k).size = ps.size)
    (hKt : ∀ {A B C : World}, Kp (w.heap.size + 1 + 1) A B → Kp (w.heap.size + 1 + 1) B C → Kp (w.heap.size + 1 + 1) A C) (hKb : ∀ (W : World) (o o' : Obj), W.heap[w.heap.size + 1]? = some o → o.isCells = false → o.isWalk = false → Kp (w.heap.size + 1 + 1) W (W.putObj (w.heap.size + 1) o'))
    (I : Nat → World → Prop) (hI : OwnFrom w.heap.size I) (Ix : World → Prop) (hIx : OwnFrom w.heap.size (fun (_ : Unit) X => Ix X)) (h0 : I 0 w)
    (Ax : Nat → Act → World → Prop) (hAx : ∀ k a', OwnFrom w.heap.size (fun (_ : Unit) X => Ax k a' X))
    (hassign : ∀ (l k : Nat) (W : World) (K : Act → World → Prop), k < N → w.heap.size + 1 + 1 ≤ W.heap.size → I k W → (∀ a' W', KeepsFrom w.heap.size W W' → Kp (w.heap.size + 1 + 1) W W' → I k W' → Ax k a' W' → K a' W') →
      assign.wpIn (Fence.wide.inRound l) (n - 1 - 1) P (Exit.then K (fun _ _ _ => False)) { tmps := (ps.zip (vals k)).foldl (fun t (p, v) => t.setIfInBounds p v) a.tmps, defers := [] } W)
    (hbody : ∀ (l k : Nat) (a' : Act) (W : World), k < N → w.heap.size + 1 + 1 ≤ W.heap.size → I k W → Ax k a' W → body.wpIn (Fence.wide.inRound l) (n - 1 - 1) P (GoesC w.heap.size (Kp (w.heap.size + 1 + 1)) I Ix k W) a' W)
    (hdone : ∀ (D : Nat) (W : World), w.heap.size ≤ D → I N W → W.heap[D]? = some (.deferred (some [])) → Q .normal { a with defers := { target := .collected D, args := #[] } :: a.defers } W)
    (hstop : ∀ (D : Nat) (W : World), w.heap.size ≤ D → Ix W → W.heap[D]? = some (.deferred (some [])) → Code.ret.wpIn Fence.wide n P Q { a with defers := { target := .collected D, args := #[] } :: a.defers } W) :
    (Code.rangeFunc g ps assign body).wpIn Fence.wide n P Q a w := by
  refine wpIn_rangeFunc fun fn hfn => ?_
  rw [show Fence.wide.round = none from rfl]
  obtain ⟨rec_, hrec⟩ : ∃ rec_ : LoopState → Option Code → Loop, rec_ = fun st pe => { state := st, pending := pe, fn := fn, tmps := a.tmps, params := ps, assign := assign, body := body, defers := w.heap.size } := ⟨_, rfl⟩
  obtain ⟨W1, hW1⟩ : ∃ W1, (w.alloc (.deferred (some []))).alloc (.loop (rec_ .ready none)) = W1 := ⟨_, rfl⟩
  have hL1 : W1.heap[w.heap.size + 1]? = some (.loop (rec_ .ready none)) := by rw [← hW1]; exact heap_alloc2_new w _ _
  have hD1 : W1.heap[w.heap.size]? = some (.deferred (some [])) := by rw [← hW1]; exact heap_alloc2_old w _ _
  have hz1 : W1.heap.size = w.heap.size + 1 + 1 := by rw [← hW1]; simp
  have hI1 : I 0 W1 := by rw [← hW1]; exact hI.alloc _ (hI.alloc _ h0)
  have hB1 : Below w0.heap.size w0 W1 := by rw [← hW1]; exact hb0.trans ((two_below w _ _).mono hb0.size)
  have keep : ∀ (A B : World) (row : Option Nat) (b : Nat) (o : Obj), A.grownBy B row → (∀ r, row = some r → W1.heap.size ≤ r ∧ ∃ o : Obj, A.heap[r]? = some o ∧ o.isCells = false) → b < w.heap.size + 1 + 1 → A.heap[b]? = some o → B.heap[b]? = some o := fun A B row b o hgr hr hlt ho => by
    refine (hgr.block b (Array.getElem?_eq_some_iff.1 ho).1 (fun e => ?_)).trans ho
    have := (hr b e.symm).1
    omega
  have low : ∀ (A : World) (row : Option Nat), (∀ r, row = some r → W1.heap.size ≤ r ∧ ∃ o : Obj, A.heap[r]? = some o ∧ o.isCells = false) → (∀ r, row = some r → w.heap.size ≤ r ∧ ∃ o : Obj, A.heap[r]? = some o ∧ o.isCells = false) := fun A row hr r e => ⟨by have := (hr r e).1; omega, (hr r e).2⟩
  refine ⟨w.heap.size + 1, [{ target := .collected w.heap.size, args := #[] }], W1, { target := .fn (.func gf) lb, args := #[.func (.yield (w.heap.size + 1)) #[] #[]] }, W1, gf, #[.func (.yield (w.heap.size + 1)) #[] #[]] ++ lb, W1, ?_, ?_, ?_, ?_, (fun h => by simp [Fence.wide] at h), ?_⟩
  · rw [← hW1, hrec]; exact run_enterLoop_outer _ _ _ _ _
  · simp only [resolve, hg]
    simp [go_sem]
  · intro f' hf'
    trivial
  · simp [invoke, go_sem, eg]
  rw [← hz1] at hKt hKb hassign hbody
  refine (hseq (n - 1) (w.heap.size + 1) (fun k W => I k W ∧ W.heap[w.heap.size + 1]? = some (.loop (rec_ .ready none)) ∧ W.heap[w.heap.size]? = some (.deferred (some []))) (fun W => Ix W ∧ W.heap[w.heap.size + 1]? = some (.loop (rec_ .done (some .ret))) ∧ W.heap[w.heap.size]? = some (.deferred (some []))) W1 hB1
    (fun k A B row hs hgr hr => ⟨hI k A B row hs.1 hgr (low A row hr), keep A B row _ _ hgr hr (by omega) hs.2.1, keep A B row _ _ hgr hr (by omega) hs.2.2⟩)
    (fun u A B row hs hgr hr => ⟨hIx u A B row hs.1 hgr (low A row hr), keep A B row _ _ hgr hr (by omega) hs.2.1, keep A B row _ _ hgr hr (by omega) hs.2.2⟩)
    (fun k W hk hs => ?_) ⟨hI1, hL1, hD1⟩).mono ?_
  · obtain ⟨hi, hl, hd⟩ := hs
    have hy := run_yield (P := P) (args := vals k) hl (by rw [hrec]; exact hps k)
    rw [hrec] at hy
    refine yield_any 0 (m := n - 1 - 1) ⟨fn, _, assign, body, hy, roundIn_of_wpIn hfn ?_⟩
    refine hassign _ k W _ hk (by have := (Array.getElem?_eq_some_iff.1 hl).1; omega) hi ?_
    intro a' Wa hka hkpa hia hax
    replace hl := hka.same _ _ (by omega) hl rfl
    replace hd := hka.same _ _ (Nat.le_refl _) hd rfl
    have hlt : w.heap.size + 1 < Wa.heap.size := (Array.getElem?_eq_some_iff.1 hl).1
    refine ⟨_, run_beginRound hl (by rw [hrec]), ?_⟩
    have hl2 : (Wa.putObj (w.heap.size + 1) (.loop { rec_ .ready none with state := .busy })).heap[w.heap.size + 1]? = some (.loop { rec_ .ready none with state := .busy }) := World.putObj_heap_same hlt
    have hd2 : (Wa.putObj (w.heap.size + 1) (.loop { rec_ .ready none with state := .busy })).heap[w.heap.size]? = some (.deferred (some [])) := (World.putObj_heap_other (by omega)).trans hd
    have hk2 : KeepsFrom W1.heap.size W (Wa.putObj (w.heap.size + 1) (.loop { rec_ .ready none with state := .busy })) := (keepsFrom_lift hka (by omega)).trans (keepsFrom_put _ (by omega))
    refine wpIn_mono (hbody _ k a' _ hk (by simp; omega) (hI.putObj _ hia (Nat.le_succ _) hl rfl) ((hAx k a').putObj (s := ()) _ hax (Nat.le_succ _) hl rfl)) ?_
    rintro e a3 W3 hp
    cases e with
    | normal =>
      obtain ⟨hk3, hkp3, hi3⟩ := hp
      have hl3 := hk3.same _ _ (by omega) hl2 rfl
      have hd3 := hk3.same _ _ (Nat.le_refl _) hd2 rfl
      have hr := run_endRound (P := P) none hl3
      rw [hrec] at hr hl3
      refine ⟨_, _, hr, .inl ⟨rfl, ⟨hI.putObj _ hi3 (by omega) hl3 rfl, ?_, ?_⟩, ?_, ?_⟩⟩
      · rw [hrec]; exact World.putObj_heap_same (Array.getElem?_eq_some_iff.1 hl3).1
      · exact (World.putObj_heap_other (by omega)).trans hd3
      · exact hKt hkpa (hKt (hKt (hKb _ _ _ hl rfl rfl) hkp3) (hKb _ _ _ hl3 rfl rfl))
      · exact (hk2.trans (keepsFrom_lift hk3 (by omega))).trans (keepsFrom_put _ (by omega))
    | ret =>
      obtain ⟨hk3, hi3⟩ := hp
      have hl3 := hk3.same _ _ (by omega) hl2 rfl
      have hd3 := hk3.same _ _ (Nat.le_refl _) hd2 rfl
      have hr := run_endRound (P := P) (some .ret) hl3
      rw [hrec] at hr hl3
      refine ⟨_, _, hr, .inr ⟨rfl, ⟨hIx.putObj (s := ()) _ hi3 (by omega) hl3 rfl, ?_, ?_⟩, ?_⟩⟩
      · rw [hrec]; exact World.putObj_heap_same (Array.getElem?_eq_some_iff.1 hl3).1
      · exact (World.putObj_heap_other (by omega)).trans hd3
      · exact (hk2.trans (keepsFrom_lift hk3 (by omega))).trans (keepsFrom_put _ (by omega))
    | exit id => exact hp.elim
    | goto t => exact hp.elim
    | panic ch => exact hp.elim
    | outgrown => exact hp.elim
  · rintro e W2 ⟨⟨v, rfl⟩, ⟨hi, hl, hd⟩ | ⟨hi, hl, hd⟩⟩
    · exact ⟨none, _, by have := run_endLoop (P := P) hl (by rw [hrec]; simp); rw [hrec] at this; exact this, hdone _ _ (Nat.le_refl _) (hI.putObj _ hi (by omega) hl rfl) ((World.putObj_heap_other (by omega)).trans hd)⟩
    · exact ⟨some .ret, _, by have := run_endLoop (P := P) hl (by rw [hrec]; simp); rw [hrec] at this; exact this, hstop _ _ (Nat.le_refl _) (hIx.putObj (s := ()) _ hi (by omega) hl rfl) ((World.putObj_heap_other (by omega)).trans hd)⟩
end Go.Proofs.YtafmompplcaadaaDoor

/- A region that draws its order, inside a fence, walked by hand; what a call that makes new memory alone leaves to an iterator's invariants. -/
namespace Go.Proofs.YtafmompplcaadaaDoor
set_option linter.unusedVariables false
open Go.RowKit

section
variable {F : Fence} {n : Nat} {P : Program} {l : List Oper} {Q : Exit → Act → World → Prop} {md : Region.Mode} {oi oj : Oper} {fuel : Nat} {listed : Array Bool} {a : Act} {w : World}
/-- one operation taken first: what it yields hangs on no world, and it calls nobody (of an activation of a function) -/
theorem takeF (hro : F.round = none) (i : Nat) (v : Value) (hi : l[i]? = some oi) (hs : Region.noSelect l.toArray = true) (hf : Region.free md l.toArray listed i = true) (hr : (Region.ready md l.toArray listed).contains i = true)
    (hQ : ∀ c a w, Q (.panic c) (a.put oi.dst v) w → Q (.panic c) a w) (hw : Region.wanted oi (yielded l.toArray a.tmps) = true) (hab : ∀ w, oi.about P w a.eval = none) (hrun : ∀ w, (execOp a.eval oi).run P w = .ok (.value v) w)
    (h : wpAnyIn F n P md l.toArray Q fuel (listed.setIfInBounds i true) (a.put oi.dst v) w) : wpAnyIn F n P md l.toArray Q (fuel + 1) listed a w :=
  wpAnyIn_take hro (by simpa using hi) hs hf hr hQ ⟨.inl ⟨hw, hrun⟩, hab⟩ h
theorem takeF_move (hro : F.round = none) (i : Nat) (x : Operand) (v : Value) (hi : l[i]? = some oi) (ho : oi.op = .move x) (hv : a.eval x = v) (hs : Region.noSelect l.toArray = true) (hf : Region.free md l.toArray listed i = true) (hr : (Region.ready md l.toArray listed).contains i = true)
    (hQ : ∀ c a w, Q (.panic c) (a.put oi.dst v) w → Q (.panic c) a w) (hw : Region.wanted oi (yielded l.toArray a.tmps) = true) (hab : ∀ w, oi.about P w a.eval = none)
    (h : wpAnyIn F n P md l.toArray Q fuel (listed.setIfInBounds i true) (a.put oi.dst v) w) : wpAnyIn F n P md l.toArray Q (fuel + 1) listed a w :=
  takeF hro i v hi hs hf hr hQ hw hab (fun w => by unfold execOp; simp [ho, hv]) h
/-- the only one that may come up; two that may -/
theorem oneF (i : Nat) (hr : Region.ready md l.toArray listed = [i]) (hi : l[i]? = some oi)
    (h : ∀ K' : Act → World → Prop, Shut (∀ a w, wpAnyIn F n P md l.toArray Q fuel (listed.setIfInBounds i true) a w → K' a w) → if Region.wanted oi (yielded l.toArray a.tmps) = true then Oper.wpIn F n P oi a w K' Q else (∀ f, oi.about P w a.eval = some f → F.fn f) ∧ K' (a.put oi.dst undef) w) :
    wpAnyIn F n P md l.toArray Q (fuel + 1) listed a w :=
  wpAnyIn_ready hr (by simp) (AllReadyIn.cons (by simpa using hi) h AllReadyIn.nil)
theorem twoF (i j : Nat) (hr : Region.ready md l.toArray listed = [i, j]) (hi : l[i]? = some oi) (hj : l[j]? = some oj)
    (h1 : ∀ K' : Act → World → Prop, Shut (∀ a w, wpAnyIn F n P md l.toArray Q fuel (listed.setIfInBounds i true) a w → K' a w) → if Region.wanted oi (yielded l.toArray a.tmps) = true then Oper.wpIn F n P oi a w K' Q else (∀ f, oi.about P w a.eval = some f → F.fn f) ∧ K' (a.put oi.dst undef) w)
    (h2 : ∀ K' : Act → World → Prop, Shut (∀ a w, wpAnyIn F n P md l.toArray Q fuel (listed.setIfInBounds j true) a w → K' a w) → if Region.wanted oj (yielded l.toArray a.tmps) = true then Oper.wpIn F n P oj a w K' Q else (∀ f, oj.about P w a.eval = some f → F.fn f) ∧ K' (a.put oj.dst undef) w) :
    wpAnyIn F n P md l.toArray Q (fuel + 1) listed a w :=
  wpAnyIn_ready hr (by simp) (AllReadyIn.cons (by simpa using hi) h1 (AllReadyIn.cons (by simpa using hj) h2 AllReadyIn.nil))
end
theorem below_kept {W W' : World} (h : Below W.heap.size W W') : W.grownBy W' none := ⟨h.os, h.tape, h.output, h.size, fun k hk _ => h.block k hk⟩
theorem ownFrom_below {β : Type} {B : Nat} {I : β → World → Prop} (h : OwnFrom B I) {s : β} {W W' : World} (hs : I s W) (hb : Below W.heap.size W W') : I s W' := h s W W' none hs (below_kept hb) (fun r e => by cases e)
theorem keepB_below {n : Nat} {bs : List Nat} {X Y : World} (h : Below X.heap.size X Y) (hn : n ≤ X.heap.size) : KeepB n bs X Y := ⟨h.mono hn, fun b _ o ho => (h.block b (Array.getElem?_eq_some_iff.1 ho).1).trans ho⟩
theorem keepsFrom_below {B : Nat} {X Y : World} (h : Below X.heap.size X Y) : KeepsFrom B X Y := KeepsFrom.of_grownBy (below_kept h) (fun j e => by cases e)
theorem boxed_below {w w' : World} {g : Nat} {t : TypeId} {v : Value} (h : Boxed w g t v) (hb : Below w.heap.size w w') : Boxed w' g t v := (hb.block g h.lt).trans h
theorem below_drew1 (w : World) : Below w.heap.size w w.drew := (Below.refl _ w).drew
end Go.Proofs.YtafmompplcaadaaDoor

/- Package chain's records: whole records, handed on with the head ahead of each. -/
namespace Go.Proofs.YtafmompplcaadaaDoor
set_option maxRecDepth 100000
set_option linter.unusedVariables false
set_option linter.unusedSimpArgs false
open Go.RowKit Go.Shelf
attribute [local go_sem] Oper.semAt_some

/-- a head, and the record behind it -/
def recV (A : Option Addr) (c : Nat) (b : List Int) (k : Nat) : Array Value := #[.agg (idv (headB (b.take (62 * k)))), .slice (A.map fun a => ⟨a.block, a.off + 62 * k, none⟩) 62 (c - 62 * k)]
def recN (n : Nat) : Nat := min (n / 62) 264
set_option maxRecDepth 100000 in
set_option maxHeartbeats 4000000 in
theorem recs_hands (A : Option Addr) (n c : Nat) (b : List Int) (Bs : Nat) (wb w0 : World) (hK : KTab wb) (hb : Bts wb A n c b) (hb0 : Below wb.heap.size wb w0) (hbox : Boxed w0 Bs 22 (.slice A n c)) :
    HandsC Tryd.prog 53 #[.pointer (some ⟨Bs, 0, none⟩)] (recV A c b) (recN n) (fun _ => KeepB wb.heap.size [Bs]) w0 := by
  intro m L J Jx W hW hJ hJx hY h0
  have hbW : Boxed W Bs 22 (.slice A n c) := (hW.block Bs hbox.lt).trans hbox
  have hboxW := hbW.cell
  have HBW := Lib.hid hbW
  have hn := hb.small
  have HBL := Lib.hid hb.len
  have HD := Lib.hid hb
  have HY := Lib.hid hY
  have HJ := Lib.hid hJ
  have HK := Lib.hid hK
  have HW := Lib.hid (hb0.trans (hW.mono hb0.size))
  have hN : recN n = min (n / 62) 264 := rfl
  obtain ⟨N, hN2⟩ : ∃ N, recN n = N := ⟨_, rfl⟩
  rw [hN2] at HY hN ⊢
  have hN62 : 62 * N ≤ n := by omega
  have hN264 : N ≤ 264 := by omega
  have HN := Lib.hid hN
  have hmin : min ((n : Int) / 62) 264 = N := by omega
  have hmx : Tryd.prog.follows .mixedOrders = true := by kernel_rfl
  clear hY hW hbox hb hJ hJx hb0 hbW hK hN hN2
  refine callsIn_of_wp Tryd.func53 rfl trivial ?_ rfl
  simp only [Tryd.ntmps53, List.size_toArray, List.length_cons, List.length_nil, Nat.reduceAdd, Nat.reduceSub, Array.replicate_succ, Array.replicate_zero, List.push_toArray, List.append_toArray, List.nil_append, List.cons_append]
  rcases (show (n : Int) / 62 ≤ 264 ∧ (n : Int) / 62 = N ∨ ¬ (n : Int) / 62 ≤ 264 ∧ (264 : Int) = N by omega) with ⟨hq, e⟩ | ⟨hq, e⟩
  all_goals
    gi_wp2
    try rw [e]
    clear e hq hmin
    gi_loopw [3, 4, 9] (fun x y i wr => ∃ k : Nat, k ≤ N ∧ i = .int .i64 k ∧ J k wr ∧ Below wb.heap.size wb wr ∧ Boxed wr Bs 22 (.slice A n c)) (fun _ _ i _ => N - (intOf i).toNat)
    case atStart => exact ⟨0, Nat.zero_le _, rfl, h0, HW.out, HBW.out⟩
    case round =>
      obtain ⟨k, hk, rfl, hJk, hB, hbr⟩ := hrel
      by_cases hlt : k < N
      · obtain ⟨hc1, hbt1⟩ := run_to (HD.out.below hB) ((k : Int) * 62) (hi := 62 * k) (by omega) (by omega)
        obtain ⟨bb, oo, rfl, hbt2, hcut2⟩ := cut_any (HD.out.below hB) (62 * k) 62 (by omega) (by omega)
        have hc2 : ∀ W : World, (Instr.slice 22 (.slice (some ⟨bb, oo, none⟩) n c) (some (.int .i64 ((k : Int) * 62))) (some (.int .i64 ((k : Int) * 62 + 62))) none).run Tryd.prog W = .ok (.slice (some ⟨bb, oo + 62 * k, none⟩) 62 (c - 62 * k)) W := fun W => hcut2 _ _ W (by omega) (by omega)
        have q0 : 0 ≤ (k : Int) := by omega
        have q1 : (k : Int) < N := by omega
        have hbx := hbr.cell
        have HB1 := Lib.hid hB
        have HBR := Lib.hid hbr
        have HJk := Lib.hid hJk
        have HHD := Lib.hid (fun (X : World) (hX : Below wr.heap.size wr X) => callsIn_wide (n := m - 1).2 (cheadof_any (some ⟨bb, oo, none⟩) (62 * k) c (b.take (62 * k)) X (HK.out.from (hB.trans (hX.mono hB.size))) (hbt1.below hX) (by omega)))
        have HYY := Lib.hid (fun (X : World) (hX : Below wr.heap.size wr X) => yield_any (m - 1) (HY.out k X hlt (ownFrom_below HJ.out hJk hX)))
        simp only [recV, Option.map_some] at HYY
        clear hB hbr hJk hbt1 hbt2 hcut2
        have hw62 : IntKind.i64.wrap ((k : Int) * 62 + 62) = (k : Int) * 62 + 62 := by rw [IntKind.wrap_i64]; omega
        gi_wp2
        refine wpIn_region_any hmx ?_
        change wpAnyIn _ _ _ _ _ _ _ _ _ (World.drew _)
        obtain ⟨Y0, hY0⟩ : ∃ Y, wr.drew = Y := ⟨_, rfl⟩
        have hS0 : Below wr.heap.size wr Y0 := by rw [← hY0]; exact below_drew1 wr
        rw [hY0]
        have hbx : Y0.cell? ⟨Bs, 0, none⟩ = some (.slice (some ⟨bb, oo, none⟩) n c) := (boxed_below HBR.out hS0).cell
        clear hY0
        refine takeF_move rfl 0 (.tmp 0) (.func (.yield L) #[] #[]) rfl rfl rfl (by kernel_rfl) (by kernel_rfl) (by kernel_rfl) (fun _ _ _ h => h) rfl (fun _ => rfl) ?_
        simp only [Act.put, List.setIfInBounds_toArray, List.set_cons_zero, List.set_cons_succ]
        refine takeF_move rfl 2 (.tmp 4) (.int .i64 ((k : Int) * 62)) rfl rfl rfl (by kernel_rfl) (by kernel_rfl) (by kernel_rfl) (fun _ _ _ h => h) rfl (fun _ => rfl) ?_
        simp only [Act.put, List.setIfInBounds_toArray, List.set_cons_zero, List.set_cons_succ]
        refine takeF_move rfl 6 (.tmp 4) (.int .i64 ((k : Int) * 62)) rfl rfl rfl (by kernel_rfl) (by kernel_rfl) (by kernel_rfl) (fun _ _ _ h => h) rfl (fun _ => rfl) ?_
        simp only [Act.put, List.setIfInBounds_toArray, List.set_cons_zero, List.set_cons_succ]
        refine takeF_move rfl 7 (.tmp 4) (.int .i64 ((k : Int) * 62)) rfl rfl rfl (by kernel_rfl) (by kernel_rfl) (by kernel_rfl) (fun _ _ _ h => h) rfl (fun _ => rfl) ?_
        simp only [Act.put, List.setIfInBounds_toArray, List.set_cons_zero, List.set_cons_succ]
        refine takeF rfl 8 (.int .i64 ((k : Int) * 62 + 62)) rfl (by kernel_rfl) (by kernel_rfl) (by kernel_rfl) (fun _ _ _ h => h) rfl (fun _ => rfl) (fun w => ?_) ?_
        · go_simp
        simp only [Act.put, List.setIfInBounds_toArray, List.set_cons_zero, List.set_cons_succ]
        refine twoF 1 5 (by kernel_rfl) rfl rfl (fun Kq hKq => ?_) (fun Kq hKq => ?_)
        · skip
          go_simp
          refine hKq.out _ _ ?_
          clear hKq Kq
          try simp only [Act.put, List.setIfInBounds_toArray, List.set_cons_zero, List.set_cons_succ]
          refine takeF rfl 3 (.slice (some ⟨bb, oo, none⟩) (62 * k) c) rfl (by kernel_rfl) (by kernel_rfl) (by kernel_rfl) (fun _ _ _ h => h) rfl (fun _ => rfl) (fun w => ?_) ?_
          · go_simp
          simp only [Act.put, List.setIfInBounds_toArray, List.set_cons_zero, List.set_cons_succ]
          refine twoF 4 5 (by kernel_rfl) rfl rfl (fun Kq hKq => ?_) (fun Kq hKq => ?_)
          · skip
            go_simp
            refine ⟨trivial, (fun h => by simp [Fence.wide] at h), ?_⟩
            gi_at_call 31
            refine (HHD.out _ hS0).mono ?_
            rintro e w4 ⟨rfl, hb4⟩
            have hSw4 : Below wr.heap.size wr w4 := hS0.trans (hb4.mono hS0.size)
            have hbx : w4.cell? ⟨Bs, 0, none⟩ = some (.slice (some ⟨bb, oo, none⟩) n c) := (boxed_below HBR.out hSw4).cell
            clear hb4
            simp only []
            refine hKq.out _ _ ?_
            clear hKq Kq
            try simp only [Act.put, List.setIfInBounds_toArray, List.set_cons_zero, List.set_cons_succ]
            refine oneF 5 (by kernel_rfl) rfl (fun Kq hKq => ?_)
            go_simp
            refine hKq.out _ _ ?_
            clear hKq Kq
            try simp only [Act.put, List.setIfInBounds_toArray, List.set_cons_zero, List.set_cons_succ]
            refine takeF rfl 9 (.slice (some ⟨bb, oo + 62 * k, none⟩) 62 (c - 62 * k)) rfl (by kernel_rfl) (by kernel_rfl) (by kernel_rfl) (fun _ _ _ h => h) rfl (fun _ => rfl) (fun w => ?_) ?_
            · go_simp
            simp only [Act.put, List.setIfInBounds_toArray, List.set_cons_zero, List.set_cons_succ]
            obtain ⟨fn, tmps, assign, body, hy, hR⟩ := HYY.out _ hSw4
            have HR := Lib.hid hR
            clear hR
            refine oneF 10 (by kernel_rfl) rfl (fun Kq hKq => ?_)
            go_simp
            refine ⟨(fun h => by simp [Fence.wide] at h), HR.out.mono ?_⟩
            rintro e W3 (⟨rfl, hJ3, hk3, -⟩ | ⟨rfl, hJx3, -⟩)
            · have HJ3 := Lib.hid hJ3
              have HK3 := Lib.hid hk3
              clear hJ3 hk3 hy HR
              simp only []
              refine hKq.out _ _ ?_
              clear hKq Kq
              try simp only [Act.put, List.setIfInBounds_toArray, List.set_cons_zero, List.set_cons_succ]
              refine takeF rfl 11 (.bool false) rfl (by kernel_rfl) (by kernel_rfl) (by kernel_rfl) (fun _ _ _ h => h) rfl (fun _ => rfl) (fun w => ?_) ?_
              · go_simp
              simp only [Act.put, List.setIfInBounds_toArray, List.set_cons_zero, List.set_cons_succ]
              refine wpAnyIn_done (by kernel_rfl) ?_ _
              gi_wp2
              go_roundw
              case rel => exact ⟨k + 1, by omega, by go_num, HJ3.out, (HB1.out.trans (hSw4.mono HB1.out.size)).trans HK3.out.1, HK3.out.2 Bs (by simp) _ (boxed_below HBR.out hSw4)⟩
              case measure => simp [intOf]; omega
            · have HJX := Lib.hid hJx3
              clear hJx3 hy HR
              simp only []
              refine hKq.out _ _ ?_
              clear hKq Kq
              try simp only [Act.put, List.setIfInBounds_toArray, List.set_cons_zero, List.set_cons_succ]
              refine takeF rfl 11 (.bool true) rfl (by kernel_rfl) (by kernel_rfl) (by kernel_rfl) (fun _ _ _ h => h) rfl (fun _ => rfl) (fun w => ?_) ?_
              · go_simp
              simp only [Act.put, List.setIfInBounds_toArray, List.set_cons_zero, List.set_cons_succ]
              refine wpAnyIn_done (by kernel_rfl) ?_ _
              gi_wp2
              refine bodyPost_ret (results_none rfl _ _ _) rfl ?_
              exact ⟨⟨_, rfl⟩, .inr HJX.out⟩
          · skip
            go_simp
            refine hKq.out _ _ ?_
            clear hKq Kq
            try simp only [Act.put, List.setIfInBounds_toArray, List.set_cons_zero, List.set_cons_succ]
            refine takeF rfl 9 (.slice (some ⟨bb, oo + 62 * k, none⟩) 62 (c - 62 * k)) rfl (by kernel_rfl) (by kernel_rfl) (by kernel_rfl) (fun _ _ _ h => h) rfl (fun _ => rfl) (fun w => ?_) ?_
            · go_simp
            simp only [Act.put, List.setIfInBounds_toArray, List.set_cons_zero, List.set_cons_succ]
            refine oneF 4 (by kernel_rfl) rfl (fun Kq hKq => ?_)
            go_simp
            refine ⟨trivial, (fun h => by simp [Fence.wide] at h), ?_⟩
            gi_at_call 31
            refine (HHD.out _ hS0).mono ?_
            rintro e w4 ⟨rfl, hb4⟩
            have hSw4 : Below wr.heap.size wr w4 := hS0.trans (hb4.mono hS0.size)
            have hbx : w4.cell? ⟨Bs, 0, none⟩ = some (.slice (some ⟨bb, oo, none⟩) n c) := (boxed_below HBR.out hSw4).cell
            clear hb4
            simp only []
            refine hKq.out _ _ ?_
            clear hKq Kq
            try simp only [Act.put, List.setIfInBounds_toArray, List.set_cons_zero, List.set_cons_succ]
            obtain ⟨fn, tmps, assign, body, hy, hR⟩ := HYY.out _ hSw4
            have HR := Lib.hid hR
            clear hR
            refine oneF 10 (by kernel_rfl) rfl (fun Kq hKq => ?_)
            go_simp
            refine ⟨(fun h => by simp [Fence.wide] at h), HR.out.mono ?_⟩
            rintro e W3 (⟨rfl, hJ3, hk3, -⟩ | ⟨rfl, hJx3, -⟩)
            · have HJ3 := Lib.hid hJ3
              have HK3 := Lib.hid hk3
              clear hJ3 hk3 hy HR
              simp only []
              refine hKq.out _ _ ?_
              clear hKq Kq
              try simp only [Act.put, List.setIfInBounds_toArray, List.set_cons_zero, List.set_cons_succ]
              refine takeF rfl 11 (.bool false) rfl (by kernel_rfl) (by kernel_rfl) (by kernel_rfl) (fun _ _ _ h => h) rfl (fun _ => rfl) (fun w => ?_) ?_
              · go_simp
              simp only [Act.put, List.setIfInBounds_toArray, List.set_cons_zero, List.set_cons_succ]
              refine wpAnyIn_done (by kernel_rfl) ?_ _
              gi_wp2
              go_roundw
              case rel => exact ⟨k + 1, by omega, by go_num, HJ3.out, (HB1.out.trans (hSw4.mono HB1.out.size)).trans HK3.out.1, HK3.out.2 Bs (by simp) _ (boxed_below HBR.out hSw4)⟩
              case measure => simp [intOf]; omega
            · have HJX := Lib.hid hJx3
              clear hJx3 hy HR
              simp only []
              refine hKq.out _ _ ?_
              clear hKq Kq
              try simp only [Act.put, List.setIfInBounds_toArray, List.set_cons_zero, List.set_cons_succ]
              refine takeF rfl 11 (.bool true) rfl (by kernel_rfl) (by kernel_rfl) (by kernel_rfl) (fun _ _ _ h => h) rfl (fun _ => rfl) (fun w => ?_) ?_
              · go_simp
              simp only [Act.put, List.setIfInBounds_toArray, List.set_cons_zero, List.set_cons_succ]
              refine wpAnyIn_done (by kernel_rfl) ?_ _
              gi_wp2
              refine bodyPost_ret (results_none rfl _ _ _) rfl ?_
              exact ⟨⟨_, rfl⟩, .inr HJX.out⟩
        · skip
          go_simp
          refine hKq.out _ _ ?_
          clear hKq Kq
          try simp only [Act.put, List.setIfInBounds_toArray, List.set_cons_zero, List.set_cons_succ]
          refine takeF rfl 9 (.slice (some ⟨bb, oo + 62 * k, none⟩) 62 (c - 62 * k)) rfl (by kernel_rfl) (by kernel_rfl) (by kernel_rfl) (fun _ _ _ h => h) rfl (fun _ => rfl) (fun w => ?_) ?_
          · go_simp
          simp only [Act.put, List.setIfInBounds_toArray, List.set_cons_zero, List.set_cons_succ]
          refine oneF 1 (by kernel_rfl) rfl (fun Kq hKq => ?_)
          go_simp
          refine hKq.out _ _ ?_
          clear hKq Kq
          try simp only [Act.put, List.setIfInBounds_toArray, List.set_cons_zero, List.set_cons_succ]
          refine takeF rfl 3 (.slice (some ⟨bb, oo, none⟩) (62 * k) c) rfl (by kernel_rfl) (by kernel_rfl) (by kernel_rfl) (fun _ _ _ h => h) rfl (fun _ => rfl) (fun w => ?_) ?_
          · go_simp
          simp only [Act.put, List.setIfInBounds_toArray, List.set_cons_zero, List.set_cons_succ]
          refine oneF 4 (by kernel_rfl) rfl (fun Kq hKq => ?_)
          go_simp
          refine ⟨trivial, (fun h => by simp [Fence.wide] at h), ?_⟩
          gi_at_call 31
          refine (HHD.out _ hS0).mono ?_
          rintro e w4 ⟨rfl, hb4⟩
          have hSw4 : Below wr.heap.size wr w4 := hS0.trans (hb4.mono hS0.size)
          have hbx : w4.cell? ⟨Bs, 0, none⟩ = some (.slice (some ⟨bb, oo, none⟩) n c) := (boxed_below HBR.out hSw4).cell
          clear hb4
          simp only []
          refine hKq.out _ _ ?_
          clear hKq Kq
          try simp only [Act.put, List.setIfInBounds_toArray, List.set_cons_zero, List.set_cons_succ]
          obtain ⟨fn, tmps, assign, body, hy, hR⟩ := HYY.out _ hSw4
          have HR := Lib.hid hR
          clear hR
          refine oneF 10 (by kernel_rfl) rfl (fun Kq hKq => ?_)
          go_simp
          refine ⟨(fun h => by simp [Fence.wide] at h), HR.out.mono ?_⟩
          rintro e W3 (⟨rfl, hJ3, hk3, -⟩ | ⟨rfl, hJx3, -⟩)
          · have HJ3 := Lib.hid hJ3
            have HK3 := Lib.hid hk3
            clear hJ3 hk3 hy HR
            simp only []
            refine hKq.out _ _ ?_
            clear hKq Kq
            try simp only [Act.put, List.setIfInBounds_toArray, List.set_cons_zero, List.set_cons_succ]
            refine takeF rfl 11 (.bool false) rfl (by kernel_rfl) (by kernel_rfl) (by kernel_rfl) (fun _ _ _ h => h) rfl (fun _ => rfl) (fun w => ?_) ?_
            · go_simp
            simp only [Act.put, List.setIfInBounds_toArray, List.set_cons_zero, List.set_cons_succ]
            refine wpAnyIn_done (by kernel_rfl) ?_ _
            gi_wp2
            go_roundw
            case rel => exact ⟨k + 1, by omega, by go_num, HJ3.out, (HB1.out.trans (hSw4.mono HB1.out.size)).trans HK3.out.1, HK3.out.2 Bs (by simp) _ (boxed_below HBR.out hSw4)⟩
            case measure => simp [intOf]; omega
          · have HJX := Lib.hid hJx3
            clear hJx3 hy HR
            simp only []
            refine hKq.out _ _ ?_
            clear hKq Kq
            try simp only [Act.put, List.setIfInBounds_toArray, List.set_cons_zero, List.set_cons_succ]
            refine takeF rfl 11 (.bool true) rfl (by kernel_rfl) (by kernel_rfl) (by kernel_rfl) (fun _ _ _ h => h) rfl (fun _ => rfl) (fun w => ?_) ?_
            · go_simp
            simp only [Act.put, List.setIfInBounds_toArray, List.set_cons_zero, List.set_cons_succ]
            refine wpAnyIn_done (by kernel_rfl) ?_ _
            gi_wp2
            refine bodyPost_ret (results_none rfl _ _ _) rfl ?_
            exact ⟨⟨_, rfl⟩, .inr HJX.out⟩
      · obtain rfl : k = N := by omega
        gi_wp2
        go_end0
        exact ⟨⟨_, rfl⟩, .inl hJk⟩
end Go.Proofs.YtafmompplcaadaaDoor

/- The walk over the document's Verify of bytes. -/
namespace Go.Proofs.YtafmompplcaadaaDoor
set_option maxRecDepth 100000
set_option linter.unusedVariables false
set_option linter.unusedSimpArgs false
open Go.RowKit

/-- gives a head and what is wrong -/
def GV (Z : List Int) (x : Int) (w : World) (e : Ending) (w' : World) : Prop := e = .returned (.tuple #[.agg (idv Z), .int .i64 x]) ∧ Below w.heap.size w w'
end Go.Proofs.YtafmompplcaadaaDoor

/- The walk over the document's own Same of entries. -/
namespace Go.Proofs.YtafmompplcaadaaDoor
set_option linter.unusedVariables false
set_option linter.unusedSimpArgs false
open Go.RowKit

end Go.Proofs.YtafmompplcaadaaDoor

/- The walk over the document's Clash of two lists: two texts of one sum. -/
namespace Go.Proofs.YtafmompplcaadaaDoor
set_option maxRecDepth 100000
set_option linter.unusedVariables false
set_option linter.unusedSimpArgs false
open Go.RowKit

theorem eq_ids (x y : List Int) (hx : x.length = 32) (hy : y.length = 32) (w : World) : (Op.equalIn 10000 27 (.agg (idv x)) (.agg (idv y))).run Tryd.prog w = .ok (decide (x = y)) w := by
  rw [← cbeq_dec]
  exact run_equalIn_ints w 9998 27 5 32 .u8 Tryd.underlying27 Tryd.underlying5 (size_of (by kernel_rfl)) x y hx hy
theorem run_eq_id {op : BinOp} {ρ : Operand → Value} {o : Oper} {x y : Operand} {xs ys : Array Value} {E r : Bool} {w : World} (ho : o.op = .binOp op 27 x y 27) (hx : ρ x = .agg xs) (hy : ρ y = .agg ys) (hr : op = .eql ∧ r = E ∨ op = .neq ∧ r = !E)
    (h : (Op.equalIn 10000 27 (.agg xs) (.agg ys)).run Tryd.prog w = .ok E w) : (execOp ρ o).run Tryd.prog w = .ok (.value (.bool r)) w := by
  unfold execOp
  rw [ho]
  have hm : Tryd.prog.eqGuardType Tryd.prog.depth 27 = false := by kernel_rfl
  rcases hr with ⟨rfl, rfl⟩ | ⟨rfl, rfl⟩
  · simp only [hx, hy, Sem.run_bind, run_eqGuard_agg (hm := hm), run_eql_struct, h, Result.andThen_ok, Sem.run_pure, Sem.run_map]
  · simp only [hx, hy, Sem.run_bind, run_eqGuard_agg (hm := hm), run_neq_struct, h, Result.andThen_ok, Sem.run_pure, Sem.run_map]
theorem wpList_eq_id {ops : Array Oper} {rest : List Oper} {o : Oper} {a : Act} {w : World} {Q : Exit → Act → World → Prop} (op : BinOp) (x y : Operand) (ho : o.op = .binOp op 27 x y 27) (xs ys : Array Value) (hx : a.eval x = .agg xs) (hy : a.eval y = .agg ys) (E r : Bool) (hr : op = .eql ∧ r = E ∨ op = .neq ∧ r = !E)
    (hE : ∀ w, (Op.equalIn 10000 27 (.agg xs) (.agg ys)).run Tryd.prog w = .ok E w) (h : wpList Tryd.prog ops Q rest (a.put o.dst (.bool r)) w) (hw : Region.wanted o (yielded ops a.tmps) = true) : wpList Tryd.prog ops Q (o :: rest) a w :=
  wpList_step fun K hK => by
    rw [if_pos hw]
    unfold Oper.wp
    rw [run_eq_id ho hx hy hr (hE w)]
    exact hK _ _ h
theorem clash_on {a b : List En} {i k : Nat} (h : textC (a.take (i + 1)) = textC (b.take (k + 1))) : clashIx a b (i + 1) (k + 1) = clashIx a b i k := by rw [clashIx, if_pos h]
theorem clash_off {a b : List En} {i k : Nat} (h : ¬ (textC (a.take i) = textC (b.take k) ∧ 0 < i ∧ 0 < k)) : clashIx a b i k = (i, k) := by
  match i, k with
  | 0, 0 => rfl
  | 0, k + 1 => rfl
  | i + 1, 0 => rfl
  | i + 1, k + 1 =>
    rw [clashIx, if_neg (fun e => h ⟨e, Nat.succ_pos _, Nat.succ_pos _⟩)]
theorem results_ttt {fn : Func} {p q r : Tmp} (h : fn.results = #[.tmp p, .tmp q, .tmp r]) (tmps : Array Value) (P : Program) (w : World) (u v z : Value) (hp : tmps.getD p undef = u) (hq : tmps.getD q undef = v) (hr : tmps.getD r undef = z) :
    (results fn tmps).run P w = .ok (.tuple #[u, v, z]) w := by
  have hp' : tmps[p]?.getD undef = u := by simpa using hp
  have hq' : tmps[q]?.getD undef = v := by simpa using hq
  have hr' : tmps[r]?.getD undef = z := by simpa using hr
  simp [results, h, hp', hq', hr']
/-- gives two slices of bytes and a bool -/
def GC (L M : List Int) (b : Bool) (w : World) (e : Ending) (w' : World) : Prop := ∃ A1 n1 c1 A2 n2 c2, e = .returned (.tuple #[.slice A1 n1 c1, .slice A2 n2 c2, .bool b]) ∧ Bts w' A1 n1 c1 L ∧ Bts w' A2 n2 c2 M ∧ Below w.heap.size w w'
end Go.Proofs.YtafmompplcaadaaDoor
