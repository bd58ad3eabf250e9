/- Joined texts: The walk over package entry's Get. Pieces of a slice of bytes; what a step of reading a chain meets. What the laws on chains ask, plainly. The head and the text that stand at the end of records; what a round of reading meets; how two lists go back together. The walks over package chain's Start, text, headOf and Link. A range over a function whose values are known ahead, in order; a round goes on, or leaves the function; between two rounds the iterator turns new blocks, and one of its own. -/
import Derived.Test.YtplfpaclhapldaaDoorCnJD
import Derived.Test.YtplfpaclhapldaaDoorCnJG
import Derived.Test.YtplfpaclhapldaaDoorCnJF
import Derived.Test.YtplfpaclhapldaaDoorCnJB
import Derived.RangeFuncNested
import Derived.RangeFuncBound
import Derived.RangeFuncCalls
import Derived.RangeFuncLeaves
import Derived.RangeFuncBox
import Derived.Shelf.Abstract
import Derived.OwnWalkIn
import Derived.TacticsInMore
import Derived.LoopNIn
import Derived.LoopIn
/- The walk over package entry's Get. -/
namespace Go.Proofs.YtplfpaclhapldaaDoor
set_option maxRecDepth 100000
set_option linter.unusedVariables false
set_option linter.unusedSimpArgs false
open Go.RowKit

theorem build_zero_e (w : World) : (Instr.build 28 #[]).run Tryd.prog w = .ok (.agg (enA En.zero)) w :=
  run_build w _ _ _ (built_of (z := .agg (enA En.zero)) (places := [(0, 1), (1, 1), (2, 1), (3, 1), (4, 1), (5, 1), (6, 1), (7, 1), (8, 1)]) Tryd.underlying28 (by kernel_rfl) (by kernel_rfl) rfl)
theorem run_all9 (a : Addr) (w : World) : (Instr.sliceAt 68 (.pointer (some a)) none none none).run Tryd.prog w = .ok (.slice (some a) 9 9) w := by
  have hs : (sizeOf 3).run Tryd.prog w = .ok 1 w := rfl
  simp [Instr.sliceAt, Instr.sureAddr, Instr.sliceBounds, run_underlying Tryd.underlying68, hs, Addr.add]
theorem run_arr9 (A : Option Addr) (c : Nat) (w : World) : (Instr.arrayAt 71 (.slice A 9 c)).run Tryd.prog w = .ok (.pointer A) w := by
  simp [Instr.arrayAt, run_underlying Tryd.underlying71]
theorem its_sizes {w : World} {g : Nat} (h : RowZ w g) : Its .i64 w (some ⟨g, 0, none⟩) 9 9 szI :=
  ⟨rfl, Nat.le_refl _, by unfold maxLen; omega, (fun e => by cases e), fun _ => ⟨g, 0, rfl, fun j hj => by rw [Nat.zero_add]; exact h.at_ j hj⟩⟩
theorem cut_not {n : Nat} (h : n ≠ 30) : cutB szI n = false := by
  have e : szI.sum = 30 := rfl
  rw [cutB, e, Bool.and_eq_false_iff]
  right
  rw [decide_eq_false_iff_not]
  omega
theorem got_short {b : List Int} (h : b.length ≠ 30) : gotB b = false := by rw [gotB, decide_eq_false h, Bool.false_and]
theorem get_not {b : List Int} (h : gotB b = false) : getE b = En.zero := by rw [getE, h]; rfl
set_option maxRecDepth 100000 in
set_option maxHeartbeats 2000000 in
theorem eget_short (A : Option Addr) (n c : Nat) (b : List Int) (w : World) (hb : Bts w A n c b) (h : n ≠ 30) :
    Calls Tryd.prog 49 #[.slice A n c] w (GE En.zero false w) := by
  have HCUT := Lib.hid (show ∀ (W : World) (g : Nat), Below w.heap.size w W → RowZ W g → Calls Tryd.prog 62 #[.slice A n c, .slice (some ⟨g, 0, none⟩) 9 9] W _ from fun W g hW hg => cut_no A _ n c 9 9 b szI W (hb.below hW) (its_sizes hg) (cut_not h))
  have HSZ := Lib.hid esizes_any
  have hal := run_all9
  have hz : enV En.zero = .agg (enA En.zero) := rfl
  unfold GE
  rw [hz]
  clear hb h hz
  go_enter Tryd.func49, Tryd.ntmps49
  go_wp2_with (first
    | (go_at_call 40; refine (HSZ.out _).mono ?_; rintro e w1 ⟨rfl, hb1⟩
       unfold szV
       have hE1 := after_alloc hb1
       have hB1 := (after_one hb1).1
       clear hb1)
    | (go_at_call 62; refine (HCUT.out _ _ (hB1.alloc hB1.size _) ⟨heap_alloc_new _ _⟩).mono ?_; rintro e w2 ⟨rfl, rfl⟩
       have hE2 := in_alloc hE1 (.cells szC 68)
       have hB2 := hB1.alloc hB1.size (.cells szC 68)
       unfold szC at hE2 hB2)
    | ((with_reducible refine wpList_store_blk rfl 28 _ _ rfl w.heap.size (enA En.zero) ?hx2 ?hy2 28 _ hE2 (info_en rfl) ?hs2 (enA_one _) ?_); (case hx2 => rfl); (case hy2 => rfl); (case hs2 => rfl)
       intro w6 hg6 hX6 hs6
       clear hE2))
  refine bodyPost_ret (v := .tuple #[.agg (enA En.zero), .bool false]) ?_ rfl ⟨rfl, ?_⟩
  · exact results_blk_tmp Tryd.results49 _ _ _ w.heap.size 28 _ (0, 0) _ rfl hX6 Tryd.underlying28 rfl (info_en rfl) _ rfl
  · exact hB2.grown hg6 hB2.size (fun k e => by cases e; exact Nat.le_refl _)
theorem cut_range {b : List Int} {w : World} {A : Option Addr} {m c : Nat} (h : Its .u64 w A m c (ints (cutL szN b))) : ∃ B off, A = some ⟨B, off, none⟩ ∧ m = 9 ∧ w.rangeAt B off ((ints (cutL szN b)).map (Value.int .u64)) := by
  have hl : m = 9 := by rw [← h.len, ints_length, cutL_length]; rfl
  obtain ⟨B, off, hA, hc⟩ := h.at_ (by omega)
  refine ⟨B, off, hA, hl, fun j v hv => ?_⟩
  rw [List.getElem?_map] at hv
  cases he : (ints (cutL szN b))[j]? with
  | none => rw [he] at hv; cases hv
  | some x =>
    rw [he] at hv
    have hj := (List.getElem?_eq_some_iff.1 he).1
    rw [h.len] at hj
    rw [hc j hj, List.getD_eq_getElem?_getD, he]
    exact hv
theorem cut_small {b : List Int} (hb : ∀ x ∈ b, 0 ≤ x ∧ x < 256) (h : b.length = 30) {a0 a1 a2 a3 a4 a5 a6 a7 a8 : Nat} (hc : cutL szN b = [a0, a1, a2, a3, a4, a5, a6, a7, a8]) :
    a0 < 9223372036854775808 ∧ a1 < 9223372036854775808 ∧ a2 < 9223372036854775808 ∧ a3 < 9223372036854775808 ∧ a4 < 18446744073709551616 ∧ a5 < 18446744073709551616 ∧ a6 < 9223372036854775808 ∧ a7 < 9223372036854775808 ∧ a8 < 9223372036854775808 := by
  have h1 := fits_cut szN b hb (by rw [h]; rfl)
  rw [hc] at h1
  have k0 := h1 (a0, 1) (by simp [szN])
  have k1 := h1 (a1, 4) (by simp [szN])
  have k2 := h1 (a2, 4) (by simp [szN])
  have k3 := h1 (a3, 1) (by simp [szN])
  have k4 := h1 (a4, 8) (by simp [szN])
  have k5 := h1 (a5, 8) (by simp [szN])
  have k6 := h1 (a6, 1) (by simp [szN])
  have k7 := h1 (a7, 2) (by simp [szN])
  have k8 := h1 (a8, 1) (by simp [szN])
  simp only [Nat.reducePow] at k0 k1 k2 k3 k4 k5 k6 k7 k8
  omega
theorem bytes_mem {b : List Int} (h : ∀ j, 0 ≤ b.getD j 0 ∧ b.getD j 0 < 256) : ∀ x ∈ b, 0 ≤ x ∧ x < 256 := by
  intro x hx
  obtain ⟨j, hj, rfl⟩ := List.getElem_of_mem hx
  have := h j
  simpa [List.getD_eq_getElem?_getD, hj] using this
set_option maxRecDepth 100000 in
set_option maxHeartbeats 4000000 in
theorem eget_long (A : Option Addr) (c : Nat) (b : List Int) (w : World) (hb : Bts w A 30 c b) :
    Calls Tryd.prog 49 #[.slice A 30 c] w (GE (if mayE (seemsE b) then seemsE b else En.zero) (mayE (seemsE b)) w) := by
  have hbm := bytes_mem hb.ok
  obtain ⟨a0, a1, a2, a3, a4, a5, a6, a7, a8, hc⟩ := cut_nine b
  obtain ⟨k0, k1, k2, k3, k4, k5, k6, k7, k8⟩ := cut_small hbm hb.len hc
  have hse : seemsE b = enOf [a0, a1, a2, a3, a4, a5, a6, a7, a8] := by rw [seemsE, hc]
  have HCUT := Lib.hid (show ∀ (W : World) (g : Nat), Below w.heap.size w W → RowZ W g → Calls Tryd.prog 62 #[.slice A 30 c, .slice (some ⟨g, 0, none⟩) 9 9] W (fun e w' => ∃ B off c2, e = .returned (.tuple #[.slice (some ⟨B, off, none⟩) 9 c2, .bool true]) ∧ w'.rangeAt B off [.int .u64 a0, .int .u64 a1, .int .u64 a2, .int .u64 a3, .int .u64 a4, .int .u64 a5, .int .u64 a6, .int .u64 a7, .int .u64 a8] ∧ Below W.heap.size W w') from fun W g hW hg => by
    refine (cut_yes A _ 30 c 9 9 b szN W (hb.below hW) (its_sizes hg) (by intro k hk; simp [szN] at hk; omega) (by decide) rfl).mono ?_
    rintro e w' ⟨v, rfl, hv, hB⟩
    obtain ⟨A2, m, c2, rfl, hi⟩ := hv.its
    obtain ⟨B, off, rfl, rfl, hr⟩ := cut_range hi
    rw [hc] at hr
    exact ⟨B, off, c2, rfl, hr, hB⟩)
  have HOF := Lib.hid (show ∀ W : World, Calls Tryd.prog 63 #[.agg #[.int .u64 a0, .int .u64 a1, .int .u64 a2, .int .u64 a3, .int .u64 a4, .int .u64 a5, .int .u64 a6, .int .u64 a7, .int .u64 a8]] W _ from fun W => entry_of a0 a1 a2 a3 a4 a5 a6 a7 a8 W k0 k1 k2 k3 k6 k7 k8 k4 k5)
  rw [← hse] at HOF
  have HMC := Lib.hid (fun w => emay_any (seemsE b) w)
  have HSZ := Lib.hid esizes_any
  have hal := run_all9
  have har := run_arr9
  obtain ⟨u, hu⟩ : ∃ u, seemsE b = u := ⟨_, rfl⟩
  rw [hu] at HOF HMC ⊢
  obtain ⟨M, hM⟩ : ∃ M, mayE u = M := ⟨_, rfl⟩
  rw [hM] at HMC ⊢
  unfold GE enV
  unfold enV at HOF HMC
  obtain ⟨X, hX⟩ : ∃ X, X = enA u := ⟨_, rfl⟩
  have hXs : X.size = 9 := by rw [hX]; rfl
  have hX1 : X.all (·.oneCell') = true := by rw [hX]; exact enA_one _
  have hout : enA (if M = true then u else En.zero) = if M then X else enA En.zero := by cases M <;> simp [hX]
  rw [← hX] at HOF HMC
  rw [hout]
  have HS := Lib.hid hXs
  have H1 := Lib.hid hX1
  clear hb hbm hc k0 k1 k2 k3 k4 k5 k6 k7 k8 hse hu hM hX hXs hX1 hout
  cases M
  all_goals
    simp only [if_true, Bool.false_eq_true, if_false]
    go_enter Tryd.func49, Tryd.ntmps49
    go_wp2_with (first
      | (go_at_call 40; refine (HSZ.out _).mono ?_; rintro e w1 ⟨rfl, hb1⟩
         unfold szV
         have hE1 := after_alloc hb1
         have hB1 := (after_one hb1).1
         clear hb1)
      | (go_at_call 62; refine (HCUT.out _ _ (hB1.alloc hB1.size _) ⟨heap_alloc_new _ _⟩).mono ?_; rintro e w2 ⟨B, off, c2, rfl, hr2, hb2⟩
         have hE2 := (hb2.block _ (Nat.lt_succ_of_lt (Array.getElem?_eq_some_iff.1 hE1).1 |> (by simpa using ·))).trans (in_alloc hE1 _)
         have hB2 := hB1.trans ((after_one hb2).1.mono hB1.size)
         clear hb2 hE1 hB1)
      | ((with_reducible refine wpList_load_on 71 _ rfl B off ?hx3 [.int .u64 a0, .int .u64 a1, .int .u64 a2, .int .u64 a3, .int .u64 a4, .int .u64 a5, .int .u64 a6, .int .u64 a7, .int .u64 a8] #[.int .u64 a0, .int .u64 a1, .int .u64 a2, .int .u64 a3, .int .u64 a4, .int .u64 a5, .int .u64 a6, .int .u64 a7, .int .u64 a8] ?ht3 _ hr2 Tryd.underlying71 ?hd3 ?hi3 ?_ ?hw3); (case hx3 => rfl); (case ht3 => rfl); (case hd3 => rfl); (case hi3 => kernel_rfl); (case hw3 => rfl))
      | (go_at_call 63; refine (HOF.out _).mono ?_; rintro e w3 ⟨rfl, hb3⟩
         have hE3 := (hb3.block _ (Array.getElem?_eq_some_iff.1 hE2).1).trans hE2
         have hB3 := hB2.trans (hb3.mono hB2.size)
         clear hb3 hE2 hB2 hr2)
      | ((with_reducible refine wpList_store_blk rfl 28 _ _ rfl w3.heap.size X ?hx4 ?hy4 28 _ (heap_alloc_new w3 _) (info_en HS.out) ?hs4 H1.out ?_); (case hx4 => rfl); (case hy4 => rfl); (case hs4 => rw [HS.out]; rfl)
         intro w4 hg4 hX4 hs4
         have hE4 := (hg4.block w.heap.size (by have := (Array.getElem?_eq_some_iff.1 hE3).1; simp; omega) (fun e => by injection e with e; have := (Array.getElem?_eq_some_iff.1 hE3).1; omega)).trans (in_alloc hE3 _)
         have hB4 := (hB3.alloc hB3.size _).grown hg4 (by have := hB3.size; simp; omega) (fun k e => by cases e; exact hB3.size)
         clear hg4 hE3 hB3 hs4)
      | ((with_reducible refine wpList_load_blk 28 _ rfl w3.heap.size ?hx5 28 X (0, 0) _ hX4 Tryd.underlying28 ?hd5 (info_en HS.out) ?_ ?hw5); (case hx5 => rfl); (case hd5 => rfl); (case hw5 => rfl))
      | (go_at_call 39; refine (HMC.out _).mono ?_; rintro e w5 ⟨rfl, hb5⟩
         have hX5 := (hb5.block _ (Array.getElem?_eq_some_iff.1 hX4).1).trans hX4
         have hE5 := (hb5.block _ (Array.getElem?_eq_some_iff.1 hE4).1).trans hE4
         have hB5 := hB4.trans (hb5.mono hB4.size)
         clear hb5 hX4 hE4 hB4)
      | ((with_reducible refine wpList_load_blk 28 _ rfl w3.heap.size ?hx6 28 X (0, 0) _ hX5 Tryd.underlying28 ?hd6 (info_en HS.out) ?_ ?hw6); (case hx6 => rfl); (case hd6 => rfl); (case hw6 => rfl))
      | ((with_reducible refine wpList_store_blk rfl 28 _ _ rfl w.heap.size X ?hx7 ?hy7 28 _ hE5 (info_en HS.out) ?hs7 H1.out ?_); (case hx7 => rfl); (case hy7 => rfl); (case hs7 => rw [HS.out]; rfl)
         intro w6 hg6 hX6 hs6
         clear hE5)
      | ((with_reducible refine wpList_store_blk rfl 28 _ _ rfl w.heap.size (enA En.zero) ?hx8 ?hy8 28 _ hE5 (info_en rfl) ?hs8 (enA_one _) ?_); (case hx8 => rfl); (case hy8 => rfl); (case hs8 => rfl)
         intro w6 hg6 hX6 hs6
         clear hE5))
  all_goals
    first
    | (refine bodyPost_ret (v := .tuple #[.agg (enA En.zero), .bool false]) ?_ rfl ⟨rfl, ?_⟩
       · exact results_blk_tmp Tryd.results49 _ _ _ w.heap.size 28 _ (0, 0) _ rfl hX6 Tryd.underlying28 rfl (info_en rfl) _ rfl
       · exact hB5.grown hg6 hB5.size (fun k e => by cases e; exact Nat.le_refl _))
    | (refine bodyPost_ret (v := .tuple #[.agg X, .bool true]) ?_ rfl ⟨rfl, ?_⟩
       · exact results_blk_tmp Tryd.results49 _ _ _ w.heap.size 28 _ (0, 0) _ rfl hX6 Tryd.underlying28 rfl (info_en HS.out) _ rfl
       · exact hB5.grown hg6 hB5.size (fun k e => by cases e; exact Nat.le_refl _))
theorem eget_any (A : Option Addr) (n c : Nat) (b : List Int) (w : World) (hb : Bts w A n c b) :
    Calls Tryd.prog 49 #[.slice A n c] w (GE (getE b) (gotB b) w) := by
  by_cases h : n = 30
  · subst h
    have := eget_long A c b w hb
    rw [getE, gotB, hb.len, decide_eq_true rfl, Bool.true_and]
    exact this
  · have h2 : gotB b = false := got_short (by rw [hb.len]; exact h)
    rw [get_not h2, h2]
    exact eget_short A n c b w hb h
end Go.Proofs.YtplfpaclhapldaaDoor

/- Pieces of a slice of bytes; what a step of reading a chain meets. -/
namespace Go.Proofs.YtplfpaclhapldaaDoor
set_option maxRecDepth 100000
set_option linter.unusedVariables false
set_option linter.unusedSimpArgs false
open Go.RowKit

/-- a piece that is not empty -/
theorem cut_any {w : World} {A : Option Addr} {n c : Nat} {l : List Int} (h : Bts w A n c l) (lo k : Nat) (h1 : 0 < k) (h2 : lo + k ≤ n) :
    ∃ b off, A = some ⟨b, off, none⟩ ∧ Bts w (some ⟨b, off + lo, none⟩) k (c - lo) ((l.drop lo).take k) ∧
      ∀ (x y : Int) (w' : World), x = lo → y = lo + k → (Instr.slice 29 (.slice A n c) (some (.int .i64 x)) (some (.int .i64 y)) none).run Tryd.prog w' = .ok (.slice (some ⟨b, off + lo, none⟩) k (c - lo)) w' := by
  have hle := h.le
  have hmx := h.max
  obtain ⟨b, off, rfl, hc⟩ := h.at_ (by omega)
  refine ⟨b, off, rfl, ⟨by rw [List.length_take, List.length_drop, h.len]; omega, by omega, by omega, ok_piece l h.ok lo k, (fun e => by cases e), fun _ => ⟨b, off + lo, rfl, fun j hj => ?_⟩⟩, fun x y w' hx hy => ?_⟩
  · rw [Nat.add_assoc, hc (lo + j) (by omega)]
    simp [List.getD_eq_getElem?_getD, List.getElem?_take, List.getElem?_drop, hj]
  · have := run_cut b off n c lo (lo + k) x y hx (by rw [hy]; omega) (by omega) (by omega) (by omega) w'
    rw [this, Nat.add_sub_cancel_left]
theorem gete_ok {b : List Int} (hb : ∀ x ∈ b, 0 ≤ x ∧ x < 256) : (getE b).ok := by
  cases h : gotB b with
  | false => rw [get_not h]; exact ⟨⟨by decide, by decide⟩, ⟨by decide, by decide⟩⟩
  | true =>
    rw [getE, h, if_pos rfl]
    rw [gotB, Bool.and_eq_true, decide_eq_true_eq] at h
    exact seems_ok hb h.1
theorem cbeq_dec (x y : List Int) : (x == y) = decide (x = y) := by
  by_cases e : x = y
  · rw [e, decide_eq_true rfl, beq_self_eq_true]
  · rw [decide_eq_false e, beq_eq_false_iff_ne]; exact e
/-- whether a whole record lies there, by its parts -/
theorem whole_eq {h b : List Int} {k : Nat} (hr : 62 * k + 62 ≤ b.length) : wholeC h (b.drop (62 * k)) = (gotB ((b.drop (62 * k)).take 30) && decide (linkP h (getE ((b.drop (62 * k)).take 30)) = (b.drop (62 * k + 30)).take 32)) := by
  rw [wholeC, List.drop_drop, decide_eq_true (by rw [List.length_drop]; omega), Bool.true_and]
  cases hg : gotB ((b.drop (62 * k)).take 30) with
  | false => rfl
  | true =>
    have hm := hg
    rw [gotB, Bool.and_eq_true] at hm
    rw [getE, hg, if_pos rfl, linkP, hm.2, if_pos rfl]
    exact cbeq_dec _ _
theorem read_step {b : List Int} {k : Nat} (hk : k ≤ (readC b).length) :
    (k < (readC b).length → wholeC (headC ((readC b).take k)) (b.drop (62 * k)) = true ∧ (readC b)[k]? = some (seemsE ((b.drop (62 * k)).take 30))) ∧
    (k = (readC b).length → k < 264 → wholeC (headC ((readC b).take k)) (b.drop (62 * k)) = false) := readF_at 264 startC b k hk
/-- where a whole record lies, it is read -/
theorem read_on {b : List Int} {k : Nat} {h : List Int} (hk : k ≤ (readC b).length) (h264 : k < 264) (hr : 62 * k + 62 ≤ b.length) (hh : headC ((readC b).take k) = h)
    (hg : gotB ((b.drop (62 * k)).take 30) = true) (hx : linkP h (getE ((b.drop (62 * k)).take 30)) = (b.drop (62 * k + 30)).take 32) :
    k + 1 ≤ (readC b).length ∧ (readC b)[k]? = some (getE ((b.drop (62 * k)).take 30)) ∧ headC ((readC b).take (k + 1)) = linkP h (getE ((b.drop (62 * k)).take 30)) := by
  obtain ⟨h1, h2⟩ := read_step hk
  have hw : wholeC (headC ((readC b).take k)) (b.drop (62 * k)) = true := by rw [hh, whole_eq hr, hg, hx, decide_eq_true rfl]; rfl
  by_cases hlt : k < (readC b).length
  · have h3 := (h1 hlt).2
    have he : getE ((b.drop (62 * k)).take 30) = seemsE ((b.drop (62 * k)).take 30) := by rw [getE, hg, if_pos rfl]
    have hm := hg
    rw [gotB, Bool.and_eq_true] at hm
    refine ⟨hlt, by rw [he]; exact h3, ?_⟩
    rw [(text_take h3).2, hh, he, linkP, hm.2, if_pos rfl]
  · rw [h2 (by omega) h264] at hw
    cases hw
/-- where none lies, all is read -/
theorem read_off {b : List Int} {k : Nat} {h : List Int} (hk : k ≤ (readC b).length) (hr : 62 * k + 62 ≤ b.length) (hh : headC ((readC b).take k) = h)
    (hx : ¬ (gotB ((b.drop (62 * k)).take 30) = true ∧ linkP h (getE ((b.drop (62 * k)).take 30)) = (b.drop (62 * k + 30)).take 32)) : k = (readC b).length := by
  obtain ⟨h1, -⟩ := read_step hk
  by_cases hlt : k < (readC b).length
  · have h3 := (h1 hlt).1
    rw [hh, whole_eq hr, Bool.and_eq_true, decide_eq_true_eq] at h3
    exact absurd h3 hx
  · omega
theorem read_end {b : List Int} {k : Nat} (hk : k ≤ (readC b).length) (h : ¬ (k < 264 ∧ 62 * k + 62 ≤ b.length)) : k = (readC b).length := by
  have h1 := readC_le b
  have h2 := readC_room b
  omega
/-- what the comparing of two pieces of bytes says -/
theorem bstr_same {x y : List Int} (hx : ∀ j, 0 ≤ x.getD j 0 ∧ x.getD j 0 < 256) (hy : ∀ j, 0 ≤ y.getD j 0 ∧ y.getD j 0 < 256) : ((bstr x).toList == (bstr y).toList) = decide (x = y) := by
  by_cases e : x = y
  · rw [e, decide_eq_true rfl, beq_self_eq_true]
  · rw [decide_eq_false e, beq_eq_false_iff_ne]
    exact fun h => e (bstr_inj hx hy h)
end Go.Proofs.YtplfpaclhapldaaDoor

/- What the laws on chains ask, plainly. -/
namespace Go.Proofs.YtplfpaclhapldaaDoor
set_option linter.unusedVariables false
set_option linter.unusedSimpArgs false
open Go

theorem verC_len (b : List Int) : (verC b).length = 32 := by
  unfold verC
  by_cases h : errC b = 0
  · rw [if_pos h]; exact headC_len _
  · rw [if_neg h]; rfl
/-- records cut off anywhere: what is read, its head, what is wrong -/
theorem torn_all {l : List En} (hm : mayC l = true) (ho : ∀ u ∈ l, u.ok) (h264 : l.length ≤ 264) {k : Nat} (hk : k ≤ 62 * l.length) :
    k / 62 ≤ l.length ∧ readC ((recsC l).take k) = l.take (k / 62) ∧ (readC ((recsC l).take k)).length = k / 62 ∧ errC ((recsC l).take k) = (if k % 62 = 0 then 0 else 4) := by
  have hb : k / 62 ≤ l.length := by omega
  have hr := torn_read hm ho h264 k hk
  have hl : (readC ((recsC l).take k)).length = k / 62 := by rw [hr, List.length_take]; omega
  have hbl : ((recsC l).take k).length = k := by rw [List.length_take, recsC, recsF_len]; omega
  refine ⟨hb, hr, hl, ?_⟩
  unfold errC
  rw [hl, hbl]
  by_cases h0 : k % 62 = 0
  · rw [if_pos h0, if_pos (by omega)]
  · rw [if_neg h0, if_neg (by omega), if_pos (by omega)]
theorem torn_ver {l : List En} (hm : mayC l = true) (ho : ∀ u ∈ l, u.ok) (h264 : l.length ≤ 264) {k : Nat} (hk : k ≤ 62 * l.length) (h0 : k % 62 = 0) :
    verC ((recsC l).take k) = headC (l.take (k / 62)) := by
  obtain ⟨_, hr, _, he⟩ := torn_all hm ho h264 hk
  rw [if_pos h0] at he
  rw [verC, if_pos he, hr]
theorem putC_take {l : List En} (h : putC l = true) (k : Nat) : putC (l.take k) = true := by
  rw [putC, Bool.and_eq_true, decide_eq_true_eq] at h ⊢
  refine ⟨by rw [List.length_take]; omega, ?_⟩
  cases e : mayC (l.take k) with
  | true => rfl
  | false => rw [mayC_part e] at h; exact h.2
theorem putC_few {l : List En} (h : l.length ≤ 264) : putC l = mayC l := by rw [putC, decide_eq_true h, Bool.true_and]
/-- what is read is put as what was read -/
theorem reads_all {b : List Int} (hb : ∀ x ∈ b, 0 ≤ x ∧ x < 256) : putC (readC b) = true ∧ recsC (readC b) = b.take (62 * (readC b).length) ∧ 62 * (readC b).length ≤ b.length ∧ (∀ u ∈ readC b, u.ok) := by
  obtain ⟨h1, h2, h3⟩ := readC_put hb
  exact ⟨by rw [putC_few (readC_le b)]; exact h1, h3, readC_room b, h2⟩
theorem reads_ver {b : List Int} : (errC b = 0 ↔ 62 * (readC b).length = b.length) ∧ (errC b = 0 → verC b = headC (readC b)) := ⟨err_ok b, fun h => by rw [verC, if_pos h]⟩
/-- one entry more -/
theorem more_all {l : List En} {e : En} (h : l.length ≤ 263) : putC (l ++ [e]) = (putC l && mayE e) ∧ recsC (l ++ [e]) = recsC l ++ putE e ++ linkC (headC l) e ∧ headC (l ++ [e]) = linkC (headC l) e := by
  refine ⟨?_, by rw [recsC_snoc, List.append_assoc], headC_snoc _ _⟩
  rw [putC_few (by rw [List.length_append]; simp only [List.length_cons, List.length_nil]; omega), putC_few (by omega), mayC_snoc]
/-- a record overwritten: a copy of 30 bytes over its own -/
theorem spoil_at {l : List En} {i : Nat} {u e : En} (h : l[i]? = some u) :
    (recsC l).take (62 * i) ++ putE e ++ (recsC l).drop (62 * i + 30) = recsC (l.take i) ++ (putE e ++ (linkC (headC (l.take i)) u ++ recsF (linkC (headC (l.take i)) u) (l.drop (i + 1)))) := by
  obtain ⟨hi, _⟩ := List.getElem?_eq_some_iff.1 h
  have hl : (recsC (l.take i)).length = 62 * i := by rw [recsC, recsF_len, List.length_take]; omega
  rw [recs_about h, List.take_left' hl, ← List.drop_drop, List.drop_left' hl, List.drop_left' (put_len u), List.append_assoc]
end Go.Proofs.YtplfpaclhapldaaDoor

/- The head and the text that stand at the end of records; what a round of reading meets; how two lists go back together. -/
namespace Go.Proofs.YtplfpaclhapldaaDoor
set_option linter.unusedVariables false
set_option linter.unusedSimpArgs false
open Go

def headB (b : List Int) : List Int := if b = [] then startC else b.drop (b.length - 32)
theorem headB_recs (l : List En) : headB (recsC l) = headC l := by
  rcases List.eq_nil_or_concat l with rfl | ⟨m, u, rfl⟩
  · rfl
  · rw [List.concat_eq_append, recsC_snoc, headC_snoc]
    obtain ⟨X, hX⟩ : ∃ X, recsC m ++ putE u = X := ⟨_, rfl⟩
    have hXl : 30 ≤ X.length := by rw [← hX, List.length_append, put_len]; omega
    rw [← List.append_assoc, hX]
    have hl : (linkC (headC m) u).length = 32 := csum_len _
    have hne : ¬ X ++ linkC (headC m) u = [] := by
      intro e
      have := congrArg List.length e
      rw [List.length_append, List.length_nil] at this
      omega
    rw [headB, if_neg hne, List.length_append, hl, Nat.add_sub_cancel, List.drop_left' rfl]
theorem headB_len {b : List Int} (h : b.length = 0 ∨ 32 ≤ b.length) : (headB b).length = 32 := by
  unfold headB
  split
  · exact csum_len _
  · rename_i hne
    rw [List.length_drop]
    have : b.length ≠ 0 := fun e => hne (List.eq_nil_of_length_eq_zero e)
    omega
theorem headB_byte {b : List Int} (hb : ∀ j, 0 ≤ b.getD j 0 ∧ b.getD j 0 < 256) : ∀ j, 0 ≤ (headB b).getD j 0 ∧ (headB b).getD j 0 < 256 := by
  intro j
  unfold headB
  split
  · exact csum_byte _ j
  · have := hb (b.length - 32 + j)
    simpa [List.getD_eq_getElem?_getD, List.getElem?_drop] using this
def textB (b : List Int) : List Int := if b = [] then [0] else 1 :: (headB (b.take (b.length - 62)) ++ (b.drop (b.length - 62)).take 30)
theorem textB_recs (l : List En) : textB (recsC l) = textC l := by
  rcases List.eq_nil_or_concat l with rfl | ⟨m, u, rfl⟩
  · rfl
  · rw [List.concat_eq_append, recsC_snoc, textC_snoc]
    obtain ⟨X, hX⟩ : ∃ X, putE u ++ linkC (headC m) u = X := ⟨_, rfl⟩
    have hXl : X.length = 62 := by rw [← hX, List.length_append, put_len, linkC, csum_len]
    rw [hX]
    have hne : ¬ recsC m ++ X = [] := by
      intro e
      have := congrArg List.length e
      rw [List.length_append, List.length_nil] at this
      omega
    rw [textB, if_neg hne, List.length_append, hXl, Nat.add_sub_cancel, List.take_left' rfl, List.drop_left' rfl, headB_recs, ← hX, List.take_left' (put_len u)]
    rfl
theorem textB_len {b : List Int} : (textB b).length ≤ 1 + (headB (b.take (b.length - 62))).length + 30 := by
  unfold textB
  split
  · simp only [List.length_cons, List.length_nil]; omega
  · rw [List.length_cons, List.length_append, List.length_take]; omega
theorem recs_upto {l : List En} {k : Nat} (hk : k ≤ l.length) : (recsC l).take (62 * k) = recsC (l.take k) := by
  have e : recsC l = recsC (l.take k) ++ recsF (headF startC (l.take k)) (l.drop k) := by rw [recsC, recsC, ← recsF_app, List.take_append_drop]
  rw [e]
  exact List.take_left' (by rw [recsC, recsF_len, List.length_take]; omega)
/-- the head ahead of a record -/
theorem head_ahead {b : List Int} (hb : ∀ x ∈ b, 0 ≤ x ∧ x < 256) {k : Nat} (hk : k ≤ (readC b).length) : headB (b.take (62 * k)) = headC ((readC b).take k) := by
  obtain ⟨-, h2, h3, -⟩ := reads_all hb
  have e : b.take (62 * k) = recsC ((readC b).take k) := by
    rw [← recs_upto hk, h2, List.take_take]
    congr 1
    omega
  rw [e, headB_recs]
theorem head_of {b : List Int} {k : Nat} (hr : 62 * k + 62 ≤ b.length) : headB ((b.drop (62 * k)).take 62) = (b.drop (62 * k + 30)).take 32 := by
  have hl : ((b.drop (62 * k)).take 62).length = 62 := by rw [List.length_take, List.length_drop]; omega
  have hne : ¬ (b.drop (62 * k)).take 62 = [] := by
    intro e
    rw [e] at hl
    cases hl
  rw [headB, if_neg hne, hl, List.drop_take, List.drop_drop]
theorem err_form {b : List Int} {k : Nat} {h : List Int} (hk : k ≤ (readC b).length) (h264 : k < 264) (hr : 62 * k + 62 ≤ b.length) (hh : headC ((readC b).take k) = h)
    (hg : gotB ((b.drop (62 * k)).take 30) = false) : k = (readC b).length ∧ errC b = 3 := by
  have e := read_off hk hr hh (fun x => by rw [hg] at x; cases x.1)
  refine ⟨e, ?_⟩
  rw [errC, ← e, if_neg (by omega), if_neg (by omega), hg]
  rfl
theorem err_tag {b : List Int} {k : Nat} {h : List Int} (hk : k ≤ (readC b).length) (h264 : k < 264) (hr : 62 * k + 62 ≤ b.length) (hh : headC ((readC b).take k) = h)
    (hg : gotB ((b.drop (62 * k)).take 30) = true) (hx : ¬ linkP h (getE ((b.drop (62 * k)).take 30)) = (b.drop (62 * k + 30)).take 32) : k = (readC b).length ∧ errC b = 7 := by
  have e := read_off hk hr hh (fun x => hx x.2)
  refine ⟨e, ?_⟩
  rw [errC, ← e, if_neg (by omega), if_neg (by omega), hg]
  rfl
theorem err_end {b : List Int} {k : Nat} (hk : k ≤ (readC b).length) (hN : k = min (b.length / 62) 264) : k = (readC b).length ∧ errC b = if 62 * k = b.length then 0 else 4 := by
  have e := read_end hk (by omega)
  refine ⟨e, ?_⟩
  rw [errC, ← e]
  split
  · rfl
  · rw [if_pos (by omega)]
/-- two lists that go back together -/
def Back (a b : List En) (i k : Nat) : Prop := i ≤ a.length ∧ k ≤ b.length ∧ a.drop i = b.drop k ∧ clashIx a b a.length b.length = clashIx a b i k
theorem back_start (a b : List En) : Back a b a.length b.length := ⟨Nat.le_refl _, Nat.le_refl _, by rw [List.drop_length, List.drop_length], rfl⟩
theorem back_same {a b : List En} {i k : Nat} (h : Back a b i k) (e : a = b) : i = k := by
  obtain ⟨h1, h2, h3, -⟩ := h
  have := congrArg List.length h3
  rw [List.length_drop, List.length_drop, e] at this
  rw [e] at h1
  omega
theorem back_off {a b : List En} {i k : Nat} (h : Back a b i k) (hP : putC a = true) (hQ : putC b = true) (hh : headC a = headC b) (ht : ¬ textC (a.take i) = textC (b.take k)) :
    clashB a b = true ∧ clashP a b = (textC (a.take i), textC (b.take k)) := by
  have hne : ¬ a = b := by
    intro e
    have := back_same h e
    subst this
    exact ht (by rw [e])
  have hc : clashB a b = true := by rw [clashB, hP, hQ, decide_eq_true hh, decide_eq_false hne]; rfl
  obtain ⟨-, -, -, h4⟩ := h
  have e2 : clashIx a b i k = (i, k) := by
    cases i with
    | zero => cases k <;> rfl
    | succ i =>
      cases k with
      | zero => rfl
      | succ k => rw [clashIx, if_neg ht]
  refine ⟨hc, ?_⟩
  rw [clashP, if_pos hc, h4, e2]
theorem text_long {l : List En} {i : Nat} (hi : i < l.length) : (textC (l.take (i + 1))).length = 63 := by
  rw [(text_take (List.getElem?_eq_getElem hi)).1, linkT, List.length_cons, List.length_append, headC_len, put_len]
theorem back_none {a b : List En} {k : Nat} (h : Back a b 0 k) (ht : textC (a.take 0) = textC (b.take k)) : clashB a b = false ∧ clashP a b = ([], []) := by
  obtain ⟨h1, h2, h3, -⟩ := h
  have hk : k = 0 := by
    cases k with
    | zero => rfl
    | succ k =>
      have := text_long (l := b) h2
      rw [← ht] at this
      cases this
  subst hk
  rw [List.drop_zero, List.drop_zero] at h3
  have hc : clashB a b = false := by simp [clashB, h3]
  exact ⟨hc, by rw [clashP, hc]; rfl⟩
theorem back_on {a b : List En} {i k : Nat} (h : Back a b (i + 1) k) (ha : mayC a = true) (hb : mayC b = true) (oa : ∀ u ∈ a, u.ok) (ob : ∀ u ∈ b, u.ok) (ht : textC (a.take (i + 1)) = textC (b.take k)) :
    ∃ j, k = j + 1 ∧ Back a b i j := by
  obtain ⟨h1, h2, h3, h4⟩ := h
  cases k with
  | zero =>
    have := text_long (l := a) h1
    rw [ht] at this
    cases this
  | succ j =>
    refine ⟨j, rfl, by omega, by omega, ?_, ?_⟩
    · have e := ht
      rw [(text_take (List.getElem?_eq_getElem h1)).1, (text_take (List.getElem?_eq_getElem h2)).1] at e
      obtain ⟨e1, e2⟩ := linkT_inj (headC_len _) (headC_len _) e
      have mu : mayE a[i] = true := List.all_eq_true.1 ha _ (List.getElem_mem h1)
      have mv : mayE b[j] = true := List.all_eq_true.1 hb _ (List.getElem_mem h2)
      have euv := eput_inj mu (oa _ (List.getElem_mem h1)) mv (ob _ (List.getElem_mem h2)) e2
      rw [List.drop_eq_getElem_cons h1, List.drop_eq_getElem_cons h2, euv, h3]
    · rw [h4, clashIx, if_pos ht]
theorem putC_may {l : List En} (h : putC l = true) : mayC l = true ∧ l.length ≤ 264 := by
  rw [putC, Bool.and_eq_true, decide_eq_true_eq] at h
  exact ⟨h.2, h.1⟩
end Go.Proofs.YtplfpaclhapldaaDoor

/- The walks over package chain's Start, text, headOf and Link. -/
namespace Go.Proofs.YtplfpaclhapldaaDoor
set_option maxRecDepth 100000
set_option linter.unusedVariables false
set_option linter.unusedSimpArgs false
open Go.RowKit

theorem run_arr32 (A : Option Addr) (c : Nat) (w : World) : (Instr.arrayAt 24 (.slice A 32 c)).run Tryd.prog w = .ok (.pointer A) w := by
  simp [Instr.arrayAt, run_underlying Tryd.underlying24]
theorem cent_range {w : World} {g : Nat} {u : En} (h : w.heap[g]? = some (.cells (enA u) 28 (0, 0))) : w.rangeAt g 0 u.row := fun j v hv => by
  rw [Nat.zero_add, cell_of_row _ _ _ _ _ _ h, enA, List.getElem?_toArray, hv]
theorem lit_next (w : World) (o : Obj) : Bts ((w.alloc o).alloc (.cells #[.int .u8 0] 5)) (some ⟨w.heap.size + 1, 0, none⟩) 1 1 [0] := by
  have h := lit_bts (w.alloc o) #[.int .u8 0] [0] 1 rfl rfl (by unfold maxLen; omega) (by intro j; match j with | 0 => simp | j + 1 => simp)
  rw [size_next] at h
  exact h
set_option maxRecDepth 100000 in
set_option maxHeartbeats 1000000 in
theorem cstart_any (w : World) (hK : KTab w) : Calls Tryd.prog 21 #[] w fun e w' => e = .returned (.agg (idv startC)) ∧ Below w.heap.size w w' := by
  have HS0 := Lib.hid (show ∀ (o : Obj) (g : Nat), w.heap.size + 1 = g → Calls Tryd.prog 24 #[.slice (some ⟨g, 0, none⟩) 1 1] ((w.alloc o).alloc (.cells #[.int .u8 0] 5)) (fun e w' => e = .returned (.agg (idv startC)) ∧ Below ((w.alloc o).alloc (.cells #[.int .u8 0] 5)).heap.size ((w.alloc o).alloc (.cells #[.int .u8 0] 5)) w') from fun o g hg => by
    subst hg
    exact sum_yes _ 1 1 [0] _ (hK.from (two_below w _ _)) (by omega) (lit_next w o))
  have HSL := Lib.hid (show startC.length = 32 from csum_len [0])
  obtain ⟨S, hS⟩ : ∃ S, startC = S := ⟨_, rfl⟩
  rw [hS] at HS0 HSL ⊢
  clear hS hK
  go_enter Tryd.func21, Tryd.ntmps21
  go_wp2_with (first
    | (go_at_call 24; (with_reducible refine (HS0.out _ _ (by simp)).mono ?_); rintro e w1 ⟨rfl, hb1⟩
       obtain ⟨hb0, -, hz1, -⟩ := after_two hb1
       have hz1 : RowB w1 w.heap.size 24 noughtsC := hz1
       have HB1 := Lib.hid hb0
       clear hb1 hb0)
    | ((with_reducible refine wpList_store_blk rfl 24 _ _ rfl w.heap.size (idv S) ?hx7 ?hy7 24 _ hz1.is (info32 HSL.out) ?hs7 (idv_one _) ?_); (case hx7 => rfl); (case hy7 => rfl); (case hs7 => rw [idv_size, idv_size, HSL.out]; rfl)
       intro w6 hg6 hX6 hs6
       clear hz1))
  refine bodyPost_ret (v := .agg (idv S)) ?_ rfl ⟨rfl, ?_⟩
  · exact results_cell_row Tryd.results21 _ _ w.heap.size 24 _ (0, 0) _ rfl hX6 Tryd.underlying24 rfl (info32 HSL.out)
  · exact HB1.out.grown hg6 HB1.out.size (fun k e => by cases e; exact Nat.le_refl _)
theorem ok_text {h b : List Int} (hh : ∀ j, 0 ≤ h.getD j 0 ∧ h.getD j 0 < 256) (hb : ∀ j, 0 ≤ b.getD j 0 ∧ b.getD j 0 < 256) : ∀ j, 0 ≤ (1 :: (h ++ b)).getD j 0 ∧ (1 :: (h ++ b)).getD j 0 < 256 := by
  have e : (1 :: (h ++ b) : List Int) = ([1] ++ h) ++ b := rfl
  rw [e]
  exact ok_append (ok_append (by intro j; match j with | 0 => simp | j + 1 => simp) hh) hb
set_option maxRecDepth 100000 in
set_option maxHeartbeats 1000000 in
theorem ctext_any (h : List Int) (A : Option Addr) (m c : Nat) (b : List Int) (w : World) (hh : h.length = 32) (hhb : ∀ j, 0 ≤ h.getD j 0 ∧ h.getD j 0 < 256) (hb : Bts w A m c b) (hm : m ≤ 1000000) :
    Calls Tryd.prog 28 #[.agg (idv h), .slice A m c] w (GT (1 :: (h ++ b)) w) := by
  have HBT := Lib.hid hb
  have HOK := Lib.hid (ok_text hhb hb.ok)
  have HHB := Lib.hid hhb
  have HHL := Lib.hid hh
  have HM := Lib.hid hm
  have hal := run_all32
  clear hh hhb hb hm
  go_enter Tryd.func28, Tryd.ntmps28
  go_wp2_with (first
    | (at_builtin
       refine wpList_append_b rfl _ _ rfl (w.heap.size + 1) _ [1] rfl (one_own_next w _ 1) (some ⟨w.heap.size, 0, none⟩) 32 32 h rfl (((rowb_lit w 24 _ h rfl).more _).btsAt HHL.out (by unfold maxLen; omega) HHB.out) (by simp) (by simp) ?_
       intro v2 w2 hown2 hg2
       have hb2 : Below w.heap.size w w2 := (two_below w _ _).grown hg2 (by simp; omega) (fun g e => by have e : some (w.heap.size + 1) = some g := e; cases e; omega)
       have hown2 : Own w2 (w.heap.size + 1) v2 ([1] ++ h) := hown2
       have hbt2 := HBT.out.below hb2
       have HB2 := Lib.hid hb2
       have HS2 := Lib.hid (show w.heap.size + 1 ≤ w2.heap.size from Nat.le_trans (by simp) hg2.size)
       clear hg2 hb2)
    | (at_builtin
       refine wpList_append_b rfl _ _ rfl (w.heap.size + 1) v2 ([1] ++ h) rfl hown2 A m c b rfl hbt2 (by have := HM.out; have := HHL.out; simp; omega) HS2.out ?_
       intro v3 w3 hown3 hg3
       have hb3 : Below w.heap.size w2 w3 := (Below.refl _ w2).grown hg3 HB2.out.size (fun g e => by have := (hown2.size g e).1; omega)
       obtain ⟨A3, m3, c3, rfl, hbt3⟩ := (show Own w3 (w.heap.size + 1) v3 (1 :: (h ++ b)) from hown3).slice HOK.out
       have HBT3 := Lib.hid hbt3
       have HB3 := Lib.hid (HB2.out.trans hb3)
       clear hg3 hb3 hbt2 hown2 hown3 hbt3))
  go_ret
  exact ⟨A3, m3, c3, rfl, HBT3.out, HB3.out⟩
theorem bts_range {w : World} {b off n c : Nat} {l : List Int} (h : Bts w (some ⟨b, off, none⟩) n c l) (hn : 0 < n) : w.rangeAt b off (byv l) := fun j v hv => by
  obtain ⟨b', off', e, hc⟩ := h.at_ hn
  cases e
  have hj : j < l.length := by
    have := (List.getElem?_eq_some_iff.1 hv).1
    rwa [byv_length] at this
  rw [byv_get l j hj] at hv
  rw [hc j (by have := h.len; omega), hv]
set_option maxRecDepth 100000 in
set_option maxHeartbeats 1000000 in
theorem cheadof_any (A : Option Addr) (n c : Nat) (b : List Int) (w : World) (hK : KTab w) (hb : Bts w A n c b) (h : n = 0 ∨ 32 ≤ n) :
    Calls Tryd.prog 26 #[.slice A n c] w fun e w' => e = .returned (.agg (idv (headB b))) ∧ Below w.heap.size w w' := by
  have hbl := hb.len
  have hn := hb.small
  have HZL := Lib.hid (headB_len (b := b) (by omega))
  rcases h with h0 | h32
  · have hb0 : b = [] := List.eq_nil_of_length_eq_zero (by omega)
    have HST := Lib.hid (fun (W : World) (hk : KTab W) => cstart_any W hk)
    have HK := Lib.hid hK
    rw [show headB b = startC by rw [headB, if_pos hb0]] at HZL ⊢
    obtain ⟨S, hS⟩ : ∃ S, startC = S := ⟨_, rfl⟩
    rw [hS] at HST HZL ⊢
    clear hS hK hb hb0 hbl hn
    subst h0
    go_enter Tryd.func26, Tryd.ntmps26
    go_wp2_with (first
      | (go_at_call 21; (with_reducible refine (HST.out _ (HK.out.from (one_alloc w _))).mono ?_); rintro e w1 ⟨rfl, hb1⟩
         obtain ⟨hb0, -, hz1⟩ := after_one hb1
         have hz1 : RowB w1 w.heap.size 24 noughtsC := hz1
         have HB1 := Lib.hid hb0
         clear hb1 hb0)
      | ((with_reducible refine wpList_store_blk rfl 24 _ _ rfl w.heap.size (idv S) ?hx7 ?hy7 24 _ hz1.is (info32 HZL.out) ?hs7 (idv_one _) ?_); (case hx7 => rfl); (case hy7 => rfl); (case hs7 => rw [idv_size, idv_size, HZL.out]; rfl)
         intro w6 hg6 hX6 hs6
         clear hz1))
    refine bodyPost_ret (v := .agg (idv S)) ?_ rfl ⟨rfl, ?_⟩
    · exact results_cell_row Tryd.results26 _ _ w.heap.size 24 _ (0, 0) _ rfl hX6 Tryd.underlying24 rfl (info32 HZL.out)
    · exact HB1.out.grown hg6 HB1.out.size (fun k e => by cases e; exact Nat.le_refl _)
  · obtain ⟨A2, hcut, hbt⟩ := run_from hb ((n : Int) - 32) (lo := n - 32) (by omega) (by omega)
    have hne : ¬ b = [] := fun e => by rw [e] at hbl; simp at hbl; omega
    have e32 : n - (n - 32) = 32 := by omega
    rw [e32] at hcut hbt
    rw [show headB b = b.drop (n - 32) by rw [headB, if_neg hne, hbl]] at HZL ⊢
    obtain ⟨Z, hZ⟩ : ∃ Z, b.drop (n - 32) = Z := ⟨_, rfl⟩
    obtain ⟨d, hd⟩ : ∃ d, c - (n - 32) = d := ⟨_, rfl⟩
    rw [hZ] at HZL hbt ⊢
    rw [hd] at hcut hbt
    obtain ⟨bb, oo, rfl, -⟩ := hbt.at_ (by omega)
    have HR := Lib.hid (show ∀ W, Below w.heap.size w W → W.rangeAt bb oo (byv Z) from fun W hW => bts_range (hbt.below hW) (by omega))
    have harr := run_arr32
    have hw0 : IntKind.i64.wrap ((n : Int) - 32) = (n : Int) - 32 := by rw [IntKind.wrap_i64]; omega
    have e0 : ((n : Int) == 0) = false := by rw [beq_eq_false_iff_ne]; omega
    clear hZ hd hb hbt hne hK e32
    go_enter Tryd.func26, Tryd.ntmps26
    go_wp2_with (first
      | ((with_reducible refine wpList_load_on 24 _ rfl bb oo ?hx1 (byv Z) (idv Z) ?ht1 _ (HR.out _ (one_alloc w _)) Tryd.underlying24 ?hd1 ?hi1 ?_ ?hw1); (case hx1 => rfl); (case ht1 => rfl); (case hd1 => rfl); (case hi1 => exact info32 HZL.out); (case hw1 => rfl))
      | ((with_reducible refine wpList_store_blk rfl 24 _ _ rfl w.heap.size (idv Z) ?hx7 ?hy7 24 _ (heap_alloc_new w _) (info32 HZL.out) ?hs7 (idv_one _) ?_); (case hx7 => rfl); (case hy7 => rfl); (case hs7 => rw [idv_size, HZL.out]; rfl)
         intro w6 hg6 hX6 hs6))
    refine bodyPost_ret (v := .agg (idv Z)) ?_ rfl ⟨rfl, ?_⟩
    · exact results_cell_row Tryd.results26 _ _ w.heap.size 24 _ (0, 0) _ rfl hX6 Tryd.underlying24 rfl (info32 HZL.out)
    · exact (one_alloc w (.cells (idv noughtsC) 24)).grown hg6 (size_le_alloc _ _) (fun k e => by cases e; exact Nat.le_refl _)
set_option maxRecDepth 100000 in
set_option maxHeartbeats 2000000 in
theorem clink_yes (h : List Int) (u : En) (w : World) (hK : KTab w) (hh : h.length = 32) (hb : ∀ j, 0 ≤ h.getD j 0 ∧ h.getD j 0 < 256) (hm : mayE u = true) (ho : u.ok) :
    Calls Tryd.prog 12 #[.agg (idv h), enV u] w fun e w' => e = .returned (.tuple #[.agg (idv (linkC h u)), .bool true]) ∧ Below w.heap.size w w' := by
  have HPE := Lib.hid (fun W => eput_any u W ho)
  rw [hm, if_pos rfl] at HPE
  have HK := Lib.hid hK
  have HHB := Lib.hid hb
  have HHL := Lib.hid hh
  unfold enV at HPE ⊢
  obtain ⟨Y, hY⟩ : ∃ Y, linkC h u = Y := ⟨_, rfl⟩
  have HYL := Lib.hid (show Y.length = 32 by rw [← hY]; exact csum_len _)
  have HTX := Lib.hid (fun (A : Option Addr) (m c : Nat) (W : World) (hb1 : Bts W A m c (putE u)) (hm : m ≤ 1000000) => ctext_any h A m c (putE u) W hh hb hb1 hm)
  have HSM := Lib.hid (show ∀ (A : Option Addr) (m d : Nat) (W : World), KTab W → m ≤ 1048576 → Bts W A m d (1 :: (h ++ putE u)) → Calls Tryd.prog 24 #[.slice A m d] W (fun e w' => e = .returned (.agg (idv Y)) ∧ Below W.heap.size W w') from fun A m d W hk h1 h2 => by rw [← hY]; exact sum_yes A m d _ W hk h1 h2)
  rw [hY]
  clear hh hb hm ho hY hK
  go_enter Tryd.func12, Tryd.ntmps12
  go_wp2_with (first
    | ((with_reducible refine wpList_load_blk 28 _ rfl (w.heap.size + 1) ?hx1 28 (enA u) (0, 0) _ (three_of_c _ _ _ _) Tryd.underlying28 ?hd1 (info_en (enA_size _)) ?_ ?hw1); (case hx1 => rfl); (case hd1 => rfl); (case hw1 => rfl))
    | (go_at_call 25; (with_reducible refine (HPE.out _).mono ?_); rintro e w1 ⟨A1, m1, c1, rfl, hbt1, hb1⟩
       obtain ⟨hb0, hH1, -, hZ1⟩ := after_three_c hb1
       have hH1 : RowB w1 w.heap.size 24 h := hH1
       have hZ1 : RowB w1 (w.heap.size + 2) 24 noughtsC := hZ1
       have hm1 : m1 ≤ 1000000 := by have := hbt1.len; rw [put_len] at this; omega
       have HB1 := Lib.hid hb0
       clear hb1 hb0)
    | ((with_reducible refine wpList_load_blk 24 _ rfl w.heap.size ?hx2 24 (idv h) (0, 0) _ hH1.is Tryd.underlying24 ?hd2 (info32 HHL.out) ?_ ?hw2); (case hx2 => rfl); (case hd2 => rfl); (case hw2 => rfl))
    | (go_at_call 28; (with_reducible refine (HTX.out _ _ _ _ hbt1 hm1).mono ?_); rintro e w3 ⟨A3, m3, c3, rfl, hbt3, hb3⟩
       have hZ3 := hZ1.keep hb3
       have HB3 := Lib.hid (HB1.out.trans (hb3.mono HB1.out.size))
       have hm3 : m3 ≤ 1048576 := by
         have h1 := hbt3.len
         have h2 := HHL.out
         rw [List.length_cons, List.length_append, put_len] at h1
         omega
       clear hb3 hZ1 hH1 hbt1 hm1)
    | (go_at_call 24; (with_reducible refine (HSM.out _ _ _ _ (HK.out.from HB3.out) hm3 hbt3).mono ?_); rintro e w4 ⟨rfl, hb4⟩
       have hZ4 := hZ3.keep hb4
       have HB4 := Lib.hid (HB3.out.trans (hb4.mono HB3.out.size))
       clear hb4 hZ3 hbt3 hm3)
    | ((with_reducible refine wpList_store_blk rfl 24 _ _ rfl (w.heap.size + 2) (idv Y) ?hx7 ?hy7 24 _ hZ4.is (info32 HYL.out) ?hs7 (idv_one _) ?_); (case hx7 => rfl); (case hy7 => rfl); (case hs7 => rw [idv_size, idv_size, HYL.out]; rfl)
       intro w6 hg6 hX6 hs6
       clear hZ4))
  refine bodyPost_ret (v := .tuple #[.agg (idv Y), .bool true]) ?_ rfl ⟨rfl, ?_⟩
  · exact results_blk_tmp Tryd.results12 _ _ _ (w.heap.size + 2) 24 _ (0, 0) _ rfl hX6 Tryd.underlying24 rfl (info32 HYL.out) _ rfl
  · exact HB4.out.grown hg6 HB4.out.size (fun k e => by cases e; omega)
set_option maxRecDepth 100000 in
set_option maxHeartbeats 2000000 in
theorem clink_no (h : List Int) (u : En) (w : World) (hm : mayE u = false) (ho : u.ok) :
    Calls Tryd.prog 12 #[.agg (idv h), enV u] w fun e w' => e = .returned (.tuple #[.agg (idv noughtsC), .bool false]) ∧ Below w.heap.size w w' := by
  have HPE := Lib.hid (fun W => eput_any u W ho)
  rw [hm] at HPE
  unfold enV at HPE ⊢
  obtain ⟨P, hP⟩ : ∃ P, (if false = true then putE u else []) = P := ⟨_, rfl⟩
  rw [hP] at HPE
  have hNL : noughtsC.length = 32 := rfl
  have HNL := Lib.hid hNL
  clear hm hNL ho hP
  go_enter Tryd.func12, Tryd.ntmps12
  go_wp2_with (first
    | ((with_reducible refine wpList_load_blk 28 _ rfl (w.heap.size + 1) ?hx1 28 (enA u) (0, 0) _ (three_of_c _ _ _ _) Tryd.underlying28 ?hd1 (info_en (enA_size _)) ?_ ?hw1); (case hx1 => rfl); (case hd1 => rfl); (case hw1 => rfl))
    | (go_at_call 25; (with_reducible refine (HPE.out _).mono ?_); rintro e w1 ⟨A1, m1, c1, rfl, hbt1, hb1⟩
       obtain ⟨hb0, -, -, hZ1⟩ := after_three_c hb1
       have hZ1 : RowB w1 (w.heap.size + 2) 24 noughtsC := hZ1
       have HB1 := Lib.hid hb0
       clear hb1 hb0 hbt1)
    | ((with_reducible refine wpList_store_blk rfl 24 _ _ rfl (w.heap.size + 2) (idv noughtsC) ?hx7 ?hy7 24 _ hZ1.is (info32 HNL.out) ?hs7 (idv_one _) ?_); (case hx7 => rfl); (case hy7 => rfl); (case hs7 => rfl)
       intro w6 hg6 hX6 hs6
       clear hZ1))
  refine bodyPost_ret (v := .tuple #[.agg (idv noughtsC), .bool false]) ?_ rfl ⟨rfl, ?_⟩
  · exact results_blk_tmp Tryd.results12 _ _ _ (w.heap.size + 2) 24 _ (0, 0) _ rfl hX6 Tryd.underlying24 rfl (info32 HNL.out) _ rfl
  · exact HB1.out.grown hg6 HB1.out.size (fun k e => by cases e; omega)
theorem clink_any (h : List Int) (u : En) (w : World) (hK : KTab w) (hh : h.length = 32) (hb : ∀ j, 0 ≤ h.getD j 0 ∧ h.getD j 0 < 256) (ho : u.ok) :
    Calls Tryd.prog 12 #[.agg (idv h), enV u] w fun e w' => e = .returned (.tuple #[.agg (idv (linkP h u)), .bool (mayE u)]) ∧ Below w.heap.size w w' := by
  cases hm : mayE u with
  | false => rw [show linkP h u = noughtsC by rw [linkP, hm]; rfl]; exact clink_no h u w hm ho
  | true => rw [show linkP h u = linkC h u by rw [linkP, hm]; rfl]; exact clink_yes h u w hK hh hb hm ho
end Go.Proofs.YtplfpaclhapldaaDoor

/- A range over a function whose values are known ahead, in order; a round goes on, or leaves the function; between two rounds the iterator turns new blocks, and one of its own. -/
namespace Go.Proofs.YtplfpaclhapldaaDoor
set_option linter.unusedVariables false
open Go.RowKit

/-- a world in which nothing has turned but the block g -/
structure But (g : Nat) (w w' : World) : Prop where
  os : w'.os = w.os
  tape : w'.tape = w.tape
  output : w'.output = w.output
  size : w.heap.size ≤ w'.heap.size
  block : ∀ b, b < w.heap.size → b ≠ g → w'.heap[b]? = w.heap[b]?
section
variable {g B : Nat} {w w1 w2 : World}
theorem But.refl (g : Nat) (w : World) : But g w w := ⟨rfl, rfl, rfl, Nat.le_refl _, fun _ _ _ => rfl⟩
theorem But.trans (h : But g w w1) (k : But g w1 w2) : But g w w2 :=
  ⟨k.os.trans h.os, k.tape.trans h.tape, k.output.trans h.output, Nat.le_trans h.size k.size, fun b hb hg => (k.block b (Nat.lt_of_lt_of_le hb h.size) hg).trans (h.block b hb hg)⟩
theorem But.of_below (h : Below w.heap.size w w1) : But g w w1 := ⟨h.os, h.tape, h.output, h.size, fun b hb _ => h.block b hb⟩
theorem But.alloc (h : But g w w1) (o : Obj) : But g w (w1.alloc o) := h.trans (But.of_below ((Below.refl _ _).alloc (Nat.le_refl _) o))
theorem But.drew (h : But g w w1) : But g w w1.drew := ⟨h.os, h.tape, h.output, h.size, h.block⟩
theorem But.drewN (h : But g w w1) (n : Nat) : But g w (w1.drewN n) := ⟨h.os, h.tape, h.output, h.size, h.block⟩
theorem But.set (h : But g w w1) (v : Value) : But g w (w1.setCell ⟨g, 0, none⟩ v) :=
  h.trans ⟨rfl, rfl, rfl, by simp [World.setCell], fun b _ hne => Below.heap_setCell _ _ _ _ hne⟩
theorem But.setAt (h : But g w w1) (o : Nat) (v : Value) : But g w (w1.setCell ⟨g, o, none⟩ v) :=
  h.trans ⟨rfl, rfl, rfl, by simp [World.setCell], fun b _ hne => Below.heap_setCell _ _ _ _ hne⟩
theorem But.new {o : Nat} (h : But g w w1) (v : Value) (a : Addr) (ha : w.heap.size ≤ a.block) : But g w (w1.setCell a v) :=
  ⟨h.os, h.tape, h.output, by simpa [World.setCell] using h.size, fun b hb hne => (Below.heap_setCell _ _ _ _ (by omega)).trans (h.block b hb hne)⟩
theorem But.below (h : But g w w1) (hB : B ≤ g) (hw : B ≤ w.heap.size) : Below B w w1 := ⟨h.os, h.tape, h.output, h.size, fun b hb => h.block b (by omega) (by omega)⟩
theorem But.boxed {f : Nat} {t : TypeId} {v : Value} (h : But g w w1) (hf : Boxed w f t v) (hne : f ≠ g) : Boxed w1 f t v := (h.block f hf.lt hne).trans hf
end

/-- an iterator that hands over vals 0, .., vals (N - 1), till it is told to stop; the block that it turns is the first one that it makes -/
def HandsX (F : Fence) (n : Nat) (P : Program) (gf : Nat) (lb : Array Value) (vals : Nat → Value) (N : Nat) (Kp : Nat → World → World → Prop) (w0 : World) : Prop :=
  ∀ (l : Nat) (J : Nat → World → Prop) (Jx : World → Prop) (W : World), Below w0.heap.size w0 W →
    (∀ k A B, J k A → But W.heap.size A B → J k B) → (∀ A B, Jx A → But W.heap.size A B → Jx B) →
    (∀ k W1, k < N → W.heap.size < W1.heap.size → J k W1 → YieldAt F (n - 1) P l #[vals k] W1 fun e W' => (e = .returned (.bool true) ∧ J (k + 1) W' ∧ Kp W.heap.size W1 W') ∨ (e = .returned (.bool false) ∧ Jx W')) → J 0 W →
    CallsIn F n P gf (#[.func (.yield l) #[] #[]] ++ lb) W fun e W' => (∃ v, e = .returned v) ∧ (J N W' ∨ Jx W')
/-- a round that goes on, or leaves the function -/
def GoesOr (Kp : World → World → Prop) (I : Nat → World → Prop) (Ix : World → Prop) (k : Nat) (W : World) : Exit → Act → World → Prop
  | .normal, _, W' => KeepsOthers W W' ∧ Kp W W' ∧ I (k + 1) W'
  | .ret, _, W' => KeepsOthers W W' ∧ Ix W'
  | _, _, _ => False
theorem range_stops {F : Fence} {n : Nat} {P : Program} {g : Operand} {p : Tmp} {assign body : Code} {Q : Exit → Act → World → Prop} {a : Act} {w w0 : World} (hro : F.round = none) (h1 : 1 ≤ n)
    {gf : Nat} {lb : Array Value} (hg : a.eval g = .func (.func gf) #[] lb) (hF : F.fn gf) (eg : ∀ args w, (callFunc gf args).run P w = .ok (.enter gf args) w)
    {vals : Nat → Value} {N : Nat} {Kp : Nat → World → World → Prop} (hseq : HandsX F (n - 1) P gf lb vals N Kp w0) (hb0 : Below w0.heap.size w0 w)
    (hKt : ∀ {A B C : World}, Kp (w.heap.size + 1 + 1) A B → Kp (w.heap.size + 1 + 1) B C → Kp (w.heap.size + 1 + 1) A C) (hKb : ∀ (W : World) (o o' : Obj), W.heap[w.heap.size + 1]? = some o → o.isCells = false → o.isWalk = false → Kp (w.heap.size + 1 + 1) W (W.putObj (w.heap.size + 1) o'))
    (I : Nat → World → Prop) (hI : ∀ k W l o o', I k W → w.heap.size ≤ l → W.heap[l]? = some o → o.isCells = false → I k (W.putObj l o')) (hIb : ∀ k A B, I k A → But (w.heap.size + 1 + 1) A B → I k B)
    (Ix : World → Prop) (hIx : ∀ W l o o', Ix W → w.heap.size ≤ l → W.heap[l]? = some o → o.isCells = false → Ix (W.putObj l o')) (hIxb : ∀ A B, Ix A → But (w.heap.size + 1 + 1) A B → Ix B)
    (h0 : ∀ o, I 0 ((w.alloc (.deferred (some []))).alloc o)) (Ax : Nat → Act → World → Prop) (hAx : ∀ k a' W l o o', Ax k a' W → w.heap.size ≤ l → W.heap[l]? = some o → o.isCells = false → Ax k a' (W.putObj l o'))
    (hassign : ∀ (l k : Nat) (W : World) (K : Act → World → Prop), k < N → w.heap.size + 1 + 1 < W.heap.size → I k W → (∀ a' W', KeepsOthers W W' → Kp (w.heap.size + 1 + 1) W W' → I k W' → Ax k a' W' → K a' W') →
      assign.wpIn (F.inRound l) (n - 1 - 1) P (Exit.then K (fun _ _ _ => False)) { tmps := (#[p].zip #[vals k]).foldl (fun t (p, v) => t.setIfInBounds p v) a.tmps, defers := [] } W)
    (hbody : ∀ (l k : Nat) (a' : Act) (W : World), k < N → I k W → Ax k a' W → body.wpIn (F.inRound l) (n - 1 - 1) P (GoesOr (Kp (w.heap.size + 1 + 1)) I Ix k W) a' W)
    (hdone : ∀ (D : Nat) (W : World), w.heap.size ≤ D → I N W → W.heap[D]? = some (.deferred (some [])) → Q .normal { a with defers := { target := .collected D, args := #[] } :: a.defers } W)
    (hstop : ∀ (D : Nat) (W : World), w.heap.size ≤ D → Ix W → W.heap[D]? = some (.deferred (some [])) → Code.ret.wpIn F n P Q { a with defers := { target := .collected D, args := #[] } :: a.defers } W) :
    (Code.rangeFunc g #[p] assign body).wpIn F n P Q a w := by
  refine wpIn_rangeFunc fun fn hfn => ?_
  rw [hro]
  let rec_ : LoopState → Option Code → Loop := fun st pe => { state := st, pending := pe, fn := fn, tmps := a.tmps, params := #[p], assign := assign, body := body, defers := w.heap.size }
  let L := w.heap.size + 1
  let W1 := (w.alloc (.deferred (some []))).alloc (.loop (rec_ .ready none))
  have hL1 : W1.heap[L]? = some (.loop (rec_ .ready none)) := heap_alloc2_new w _ _
  have hD1 : W1.heap[w.heap.size]? = some (.deferred (some [])) := heap_alloc2_old w _ _
  have hz1 : W1.heap.size = w.heap.size + 1 + 1 := by
    show ((w.alloc (.deferred (some []))).alloc (.loop (rec_ .ready none))).heap.size = _
    simp
  have hB1 : Below w0.heap.size w0 W1 := hb0.trans ((two_below w _ _).mono hb0.size)
  have keep : ∀ (A B : World) (b : Nat) (o : Obj), But W1.heap.size A B → b < w.heap.size + 1 + 1 → A.heap[b]? = some o → B.heap[b]? = some o := fun A B b o hb hlt ho => by
    rw [hz1] at hb
    exact (hb.block b (Array.getElem?_eq_some_iff.1 ho).1 (by omega)).trans ho
  refine ⟨L, [{ target := .collected w.heap.size, args := #[] }], W1, { target := .fn (.func gf) lb, args := #[.func (.yield L) #[] #[]] }, W1, gf, #[.func (.yield L) #[] #[]] ++ lb, W1, run_enterLoop_outer _ _ _ _ _, ?_, ?_, ?_, fun _ => h1, ?_⟩
  · simp only [resolve, hg]
    simp [go_sem]
  · intro f' hf'
    simp [Target.leads] at hf'
    subst hf'
    exact hF
  · simp [invoke, go_sem, eg]
  refine (hseq L (fun k W => I k W ∧ W.heap[L]? = some (.loop (rec_ .ready none)) ∧ W.heap[w.heap.size]? = some (.deferred (some []))) (fun W => Ix W ∧ W.heap[L]? = some (.loop (rec_ .done (some .ret))) ∧ W.heap[w.heap.size]? = some (.deferred (some []))) W1 hB1
    (fun k A B ⟨hi, hl, hd⟩ hb => ⟨hIb k A B hi (by rw [← hz1]; exact hb), keep A B _ _ hb (by show w.heap.size + 1 < w.heap.size + 1 + 1; omega) hl, keep A B _ _ hb (by omega) hd⟩)
    (fun A B ⟨hi, hl, hd⟩ hb => ⟨hIxb A B hi (by rw [← hz1]; exact hb), keep A B _ _ hb (by show w.heap.size + 1 < w.heap.size + 1 + 1; omega) hl, keep A B _ _ hb (by omega) hd⟩)
    (fun k W hk hsz ⟨hi, hl, hd⟩ => ?_) ⟨h0 _, hL1, hD1⟩).mono ?_
  · refine ⟨fn, _, assign, body, run_yield (args := #[vals k]) hl rfl, roundIn_of_wpIn hfn ?_⟩
    refine hassign L k W _ hk (by rw [hz1] at hsz; exact hsz) hi ?_
    intro a' Wa hka hkpa hia hax
    replace hl := hka.same _ _ hl rfl
    replace hd := hka.same _ _ hd rfl
    have hlt : L < Wa.heap.size := (Array.getElem?_eq_some_iff.1 hl).1
    refine ⟨_, run_beginRound hl rfl, ?_⟩
    have hl2 : (Wa.putObj L (.loop { rec_ .ready none with state := .busy })).heap[L]? = some (.loop { rec_ .ready none with state := .busy }) := World.putObj_heap_same hlt
    have hd2 : (Wa.putObj L (.loop { rec_ .ready none with state := .busy })).heap[w.heap.size]? = some (.deferred (some [])) := (World.putObj_heap_other (by show w.heap.size ≠ w.heap.size + 1; omega)).trans hd
    refine wpIn_mono (hbody L k a' _ hk (hI k _ _ _ _ hia (Nat.le_succ _) hl rfl) (hAx k a' _ _ _ _ hax (Nat.le_succ _) hl rfl)) ?_
    rintro e a3 W3 hp
    rw [hz1]
    cases e with
    | normal =>
      obtain ⟨hk3, hkp3, hi3⟩ := hp
      have hl3 := hk3.same _ _ hl2 rfl
      have hd3 := hk3.same _ _ hd2 rfl
      exact ⟨_, _, run_endRound none hl3, .inl ⟨rfl, ⟨hI _ _ _ _ _ hi3 (Nat.le_succ _) hl3 rfl, World.putObj_heap_same (Array.getElem?_eq_some_iff.1 hl3).1, (World.putObj_heap_other (by show w.heap.size ≠ w.heap.size + 1; omega)).trans hd3⟩, hKt hkpa (hKt (hKt (hKb _ _ _ hl rfl rfl) hkp3) (hKb _ _ _ hl3 rfl rfl))⟩⟩
    | ret =>
      obtain ⟨hk3, hi3⟩ := hp
      have hl3 := hk3.same _ _ hl2 rfl
      have hd3 := hk3.same _ _ hd2 rfl
      exact ⟨_, _, run_endRound (some .ret) hl3, .inr ⟨rfl, hIx _ _ _ _ hi3 (Nat.le_succ _) hl3 rfl, World.putObj_heap_same (Array.getElem?_eq_some_iff.1 hl3).1, (World.putObj_heap_other (by show w.heap.size ≠ w.heap.size + 1; omega)).trans hd3⟩⟩
    | exit id => exact hp.elim
    | goto t => exact hp.elim
    | panic ch => exact hp.elim
    | outgrown => exact hp.elim
  · rintro e W2 ⟨⟨v, rfl⟩, ⟨hi, hl, hd⟩ | ⟨hi, hl, hd⟩⟩
    · exact ⟨none, _, run_endLoop hl (by simp [rec_]), hdone _ _ (Nat.le_refl _) (hI _ _ _ _ _ hi (Nat.le_succ _) hl rfl) ((World.putObj_heap_other (by show w.heap.size ≠ w.heap.size + 1; omega)).trans hd)⟩
    · exact ⟨some .ret, _, run_endLoop hl (by simp [rec_]), hstop _ _ (Nat.le_refl _) (hIx _ _ _ _ hi (Nat.le_succ _) hl rfl) ((World.putObj_heap_other (by show w.heap.size ≠ w.heap.size + 1; omega)).trans hd)⟩

theorem cells_lie {w : World} {a : Addr} {v : Value} (h : w.cell? a = some v) : ∃ o : Obj, w.heap[a.block]? = some o ∧ o.isCells = true := cells_of_cell h
theorem block_ne {w : World} {b l : Nat} {o o2 : Obj} (hb : w.heap[b]? = some o2) (hc : o2.isCells = true) (hl : w.heap[l]? = some o) (hn : o.isCells = false) : b ≠ l := by
  rintro rfl
  rw [hb] at hl
  cases hl
  rw [hc] at hn
  cases hn
theorem boxed_put {w : World} {B l : Nat} {t : TypeId} {v : Value} {o : Obj} (o' : Obj) (h : Boxed w B t v) (hl : w.heap[l]? = some o) (hn : o.isCells = false) : Boxed (w.putObj l o') B t v :=
  h.kept (grownBy_putObj' w l o') (fun e => by injection e with e; exact block_ne h rfl hl hn e)
theorem own_put {K : IntKind} {e : TypeId} {w : World} {base l : Nat} {v : Value} {b : List Int} {o : Obj} (o' : Obj) (h : OwnI K e w base v b) (hl : w.heap[l]? = some o) (hn : o.isCells = false) : OwnI K e (w.putObj l o') base v b := by
  refine h.far (grownBy_putObj' w l o') ?_
  rcases h.2 with ⟨hv, _⟩ | ⟨g, cap, cur, hv, _, hh, _⟩
  · left; rw [hv]; rfl
  · right
    rw [hv]
    intro e
    injection e with e
    exact block_ne hh rfl hl hn e
theorem own_but {K : IntKind} {e : TypeId} {w w' : World} {base g : Nat} {v : Value} {b : List Int} (h : OwnI K e w base v b) (hb : But g w w') (hg : g < base) : OwnI K e w' base v b := by
  refine ⟨h.1, ?_⟩
  rcases h.2 with h0 | ⟨x, cap, cur, hv, hx, hh, rest⟩
  · exact .inl h0
  · exact .inr ⟨x, cap, cur, hv, hx, (hb.block x (Array.getElem?_eq_some_iff.1 hh).1 (by omega)).trans hh, rest⟩
theorem own_set {K : IntKind} {e : TypeId} {w : World} {base b : Nat} {u x : Value} {l : List Int} (h : OwnI K e w base u l) (hb : b < base) : OwnI K e (w.setCell ⟨b, 0, none⟩ x) base u l := by
  refine h.far (grownBy_setCell' w b x) ?_
  cases hu : u.ownBlock with
  | none => exact .inl rfl
  | some g => exact .inr fun e => by injection e with e; have := (h.size g hu).1; omega
theorem others_below {w w' : World} (h : Below w.heap.size w w') : KeepsOthers w w' := ⟨h.size, fun i o hi _ => (h.block i (Array.getElem?_eq_some_iff.1 hi).1).trans hi⟩
theorem others_grown {K : IntKind} {e : TypeId} {w w' : World} {base : Nat} {v : Value} {b : List Int} (h : OwnI K e w base v b) (hg : w.grownBy w' v.ownBlock) : KeepsOthers w w' := by
  refine ⟨hg.size, fun i o hi ho => (hg.block i (Array.getElem?_eq_some_iff.1 hi).1 ?_).trans hi⟩
  rcases h.2 with ⟨hv, _⟩ | ⟨g, cap, cur, hv, _, hh, _⟩
  · rw [hv]; simp [Value.ownBlock]
  · rw [hv]
    intro e
    injection e with e
    exact block_ne hh rfl hi ho e.symm
end Go.Proofs.YtplfpaclhapldaaDoor
