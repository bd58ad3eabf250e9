/- Joined texts: The walk over package entry's Get. Pieces of a slice of bytes; what a step of reading a chain meets. What the laws on chains ask, plainly. The head and the text that stand at the end of records; what a round of reading meets; how two lists go back together. A log, plainly: entries in a chain, in a store; which may be; room, an entry more, a crash meanwhile, a store opened. What the laws on a log ask, plainly. append(v[:n:n], s...) of bytes, whoever's v is; v[:n:n]. A region that draws its order, walked by hand: one operation after another, taken first. -/
import Derived.Test.YtafmompplcaadaaDoorAuJD
import Derived.Test.YtafmompplcaadaaDoorAuJE
import Derived.Test.YtafmompplcaadaaDoorAuJA
import Derived.ArgAppend
/- The walk over package entry's Get. -/
namespace Go.Proofs.YtafmompplcaadaaDoor
set_option maxRecDepth 100000
set_option linter.unusedVariables false
set_option linter.unusedSimpArgs false
open Go.RowKit

theorem build_zero_e (w : World) : (Instr.build 33 #[]).run Tryd.prog w = .ok (.agg (enA En.zero)) w :=
  run_build w _ _ _ (built_of (z := .agg (enA En.zero)) (places := [(0, 1), (1, 1), (2, 1), (3, 1), (4, 1), (5, 1), (6, 1), (7, 1), (8, 1)]) Tryd.underlying33 (by kernel_rfl) (by kernel_rfl) rfl)
theorem run_all9 (a : Addr) (w : World) : (Instr.sliceAt 90 (.pointer (some a)) none none none).run Tryd.prog w = .ok (.slice (some a) 9 9) w := by
  have hs : (sizeOf 3).run Tryd.prog w = .ok 1 w := rfl
  simp [Instr.sliceAt, Instr.sureAddr, Instr.sliceBounds, run_underlying Tryd.underlying90, hs, Addr.add]
theorem run_arr9 (A : Option Addr) (c : Nat) (w : World) : (Instr.arrayAt 93 (.slice A 9 c)).run Tryd.prog w = .ok (.pointer A) w := by
  simp [Instr.arrayAt, run_underlying Tryd.underlying93]
theorem its_sizes {w : World} {g : Nat} (h : RowZ w g) : Its .i64 w (some ⟨g, 0, none⟩) 9 9 szI :=
  ⟨rfl, Nat.le_refl _, by unfold maxLen; omega, (fun e => by cases e), fun _ => ⟨g, 0, rfl, fun j hj => by rw [Nat.zero_add]; exact h.at_ j hj⟩⟩
theorem cut_not {n : Nat} (h : n ≠ 30) : cutB szI n = false := by
  have e : szI.sum = 30 := rfl
  rw [cutB, e, Bool.and_eq_false_iff]
  right
  rw [decide_eq_false_iff_not]
  omega
theorem got_short {b : List Int} (h : b.length ≠ 30) : gotB b = false := by rw [gotB, decide_eq_false h, Bool.false_and]
theorem get_not {b : List Int} (h : gotB b = false) : getE b = En.zero := by rw [getE, h]; rfl
set_option maxRecDepth 100000 in
set_option maxHeartbeats 2000000 in
theorem eget_short (A : Option Addr) (n c : Nat) (b : List Int) (w : World) (hb : Bts w A n c b) (h : n ≠ 30) :
    Calls Tryd.prog 45 #[.slice A n c] w (GE En.zero false w) := by
  have HCUT := Lib.hid (show ∀ (W : World) (g : Nat), Below w.heap.size w W → RowZ W g → Calls Tryd.prog 54 #[.slice A n c, .slice (some ⟨g, 0, none⟩) 9 9] W _ from fun W g hW hg => cut_no A _ n c 9 9 b szI W (hb.below hW) (its_sizes hg) (cut_not h))
  have HSZ := Lib.hid esizes_any
  have hal := run_all9
  have hz : enV En.zero = .agg (enA En.zero) := rfl
  unfold GE
  rw [hz]
  clear hb h hz
  go_enter Tryd.func45, Tryd.ntmps45
  go_wp2_with (first
    | (go_at_call 48; refine (HSZ.out _).mono ?_; rintro e w1 ⟨rfl, hb1⟩
       unfold szV
       have hE1 := after_alloc hb1
       have hB1 := (after_one hb1).1
       clear hb1)
    | (go_at_call 54; refine (HCUT.out _ _ (hB1.alloc hB1.size _) ⟨heap_alloc_new _ _⟩).mono ?_; rintro e w2 ⟨rfl, rfl⟩
       have hE2 := in_alloc hE1 (.cells szC 90)
       have hB2 := hB1.alloc hB1.size (.cells szC 90)
       unfold szC at hE2 hB2)
    | ((with_reducible refine wpList_store_blk rfl 33 _ _ rfl w.heap.size (enA En.zero) ?hx2 ?hy2 33 _ hE2 (info_en rfl) ?hs2 (enA_one _) ?_); (case hx2 => rfl); (case hy2 => rfl); (case hs2 => rfl)
       intro w6 hg6 hX6 hs6
       clear hE2))
  refine bodyPost_ret (v := .tuple #[.agg (enA En.zero), .bool false]) ?_ rfl ⟨rfl, ?_⟩
  · exact results_blk_tmp Tryd.results45 _ _ _ w.heap.size 33 _ (0, 0) _ rfl hX6 Tryd.underlying33 rfl (info_en rfl) _ rfl
  · exact hB2.grown hg6 hB2.size (fun k e => by cases e; exact Nat.le_refl _)
theorem cut_range {b : List Int} {w : World} {A : Option Addr} {m c : Nat} (h : Its .u64 w A m c (ints (cutL szN b))) : ∃ B off, A = some ⟨B, off, none⟩ ∧ m = 9 ∧ w.rangeAt B off ((ints (cutL szN b)).map (Value.int .u64)) := by
  have hl : m = 9 := by rw [← h.len, ints_length, cutL_length]; rfl
  obtain ⟨B, off, hA, hc⟩ := h.at_ (by omega)
  refine ⟨B, off, hA, hl, fun j v hv => ?_⟩
  rw [List.getElem?_map] at hv
  cases he : (ints (cutL szN b))[j]? with
  | none => rw [he] at hv; cases hv
  | some x =>
    rw [he] at hv
    have hj := (List.getElem?_eq_some_iff.1 he).1
    rw [h.len] at hj
    rw [hc j hj, List.getD_eq_getElem?_getD, he]
    exact hv
theorem cut_small {b : List Int} (hb : ∀ x ∈ b, 0 ≤ x ∧ x < 256) (h : b.length = 30) {a0 a1 a2 a3 a4 a5 a6 a7 a8 : Nat} (hc : cutL szN b = [a0, a1, a2, a3, a4, a5, a6, a7, a8]) :
    a0 < 9223372036854775808 ∧ a1 < 9223372036854775808 ∧ a2 < 9223372036854775808 ∧ a3 < 9223372036854775808 ∧ a4 < 18446744073709551616 ∧ a5 < 18446744073709551616 ∧ a6 < 9223372036854775808 ∧ a7 < 9223372036854775808 ∧ a8 < 9223372036854775808 := by
  have h1 := fits_cut szN b hb (by rw [h]; rfl)
  rw [hc] at h1
  have k0 := h1 (a0, 1) (by simp [szN])
  have k1 := h1 (a1, 4) (by simp [szN])
  have k2 := h1 (a2, 4) (by simp [szN])
  have k3 := h1 (a3, 1) (by simp [szN])
  have k4 := h1 (a4, 8) (by simp [szN])
  have k5 := h1 (a5, 8) (by simp [szN])
  have k6 := h1 (a6, 1) (by simp [szN])
  have k7 := h1 (a7, 2) (by simp [szN])
  have k8 := h1 (a8, 1) (by simp [szN])
  simp only [Nat.reducePow] at k0 k1 k2 k3 k4 k5 k6 k7 k8
  omega
theorem bytes_mem {b : List Int} (h : ∀ j, 0 ≤ b.getD j 0 ∧ b.getD j 0 < 256) : ∀ x ∈ b, 0 ≤ x ∧ x < 256 := by
  intro x hx
  obtain ⟨j, hj, rfl⟩ := List.getElem_of_mem hx
  have := h j
  simpa [List.getD_eq_getElem?_getD, hj] using this
set_option maxRecDepth 100000 in
set_option maxHeartbeats 4000000 in
theorem eget_long (A : Option Addr) (c : Nat) (b : List Int) (w : World) (hb : Bts w A 30 c b) :
    Calls Tryd.prog 45 #[.slice A 30 c] w (GE (if mayE (seemsE b) then seemsE b else En.zero) (mayE (seemsE b)) w) := by
  have hbm := bytes_mem hb.ok
  obtain ⟨a0, a1, a2, a3, a4, a5, a6, a7, a8, hc⟩ := cut_nine b
  obtain ⟨k0, k1, k2, k3, k4, k5, k6, k7, k8⟩ := cut_small hbm hb.len hc
  have hse : seemsE b = enOf [a0, a1, a2, a3, a4, a5, a6, a7, a8] := by rw [seemsE, hc]
  have HCUT := Lib.hid (show ∀ (W : World) (g : Nat), Below w.heap.size w W → RowZ W g → Calls Tryd.prog 54 #[.slice A 30 c, .slice (some ⟨g, 0, none⟩) 9 9] W (fun e w' => ∃ B off c2, e = .returned (.tuple #[.slice (some ⟨B, off, none⟩) 9 c2, .bool true]) ∧ w'.rangeAt B off [.int .u64 a0, .int .u64 a1, .int .u64 a2, .int .u64 a3, .int .u64 a4, .int .u64 a5, .int .u64 a6, .int .u64 a7, .int .u64 a8] ∧ Below W.heap.size W w') from fun W g hW hg => by
    refine (cut_yes A _ 30 c 9 9 b szN W (hb.below hW) (its_sizes hg) (by intro k hk; simp [szN] at hk; omega) (by decide) rfl).mono ?_
    rintro e w' ⟨v, rfl, hv, hB⟩
    obtain ⟨A2, m, c2, rfl, hi⟩ := hv.its
    obtain ⟨B, off, rfl, rfl, hr⟩ := cut_range hi
    rw [hc] at hr
    exact ⟨B, off, c2, rfl, hr, hB⟩)
  have HOF := Lib.hid (show ∀ W : World, Calls Tryd.prog 55 #[.agg #[.int .u64 a0, .int .u64 a1, .int .u64 a2, .int .u64 a3, .int .u64 a4, .int .u64 a5, .int .u64 a6, .int .u64 a7, .int .u64 a8]] W _ from fun W => entry_of a0 a1 a2 a3 a4 a5 a6 a7 a8 W k0 k1 k2 k3 k6 k7 k8 k4 k5)
  rw [← hse] at HOF
  have HMC := Lib.hid (fun w => emay_any (seemsE b) w)
  have HSZ := Lib.hid esizes_any
  have hal := run_all9
  have har := run_arr9
  obtain ⟨u, hu⟩ : ∃ u, seemsE b = u := ⟨_, rfl⟩
  rw [hu] at HOF HMC ⊢
  obtain ⟨M, hM⟩ : ∃ M, mayE u = M := ⟨_, rfl⟩
  rw [hM] at HMC ⊢
  unfold GE enV
  unfold enV at HOF HMC
  obtain ⟨X, hX⟩ : ∃ X, X = enA u := ⟨_, rfl⟩
  have hXs : X.size = 9 := by rw [hX]; rfl
  have hX1 : X.all (·.oneCell') = true := by rw [hX]; exact enA_one _
  have hout : enA (if M = true then u else En.zero) = if M then X else enA En.zero := by cases M <;> simp [hX]
  rw [← hX] at HOF HMC
  rw [hout]
  have HS := Lib.hid hXs
  have H1 := Lib.hid hX1
  clear hb hbm hc k0 k1 k2 k3 k4 k5 k6 k7 k8 hse hu hM hX hXs hX1 hout
  cases M
  all_goals
    simp only [if_true, Bool.false_eq_true, if_false]
    go_enter Tryd.func45, Tryd.ntmps45
    go_wp2_with (first
      | (go_at_call 48; refine (HSZ.out _).mono ?_; rintro e w1 ⟨rfl, hb1⟩
         unfold szV
         have hE1 := after_alloc hb1
         have hB1 := (after_one hb1).1
         clear hb1)
      | (go_at_call 54; refine (HCUT.out _ _ (hB1.alloc hB1.size _) ⟨heap_alloc_new _ _⟩).mono ?_; rintro e w2 ⟨B, off, c2, rfl, hr2, hb2⟩
         have hE2 := (hb2.block _ (Nat.lt_succ_of_lt (Array.getElem?_eq_some_iff.1 hE1).1 |> (by simpa using ·))).trans (in_alloc hE1 _)
         have hB2 := hB1.trans ((after_one hb2).1.mono hB1.size)
         clear hb2 hE1 hB1)
      | ((with_reducible refine wpList_load_on 93 _ rfl B off ?hx3 [.int .u64 a0, .int .u64 a1, .int .u64 a2, .int .u64 a3, .int .u64 a4, .int .u64 a5, .int .u64 a6, .int .u64 a7, .int .u64 a8] #[.int .u64 a0, .int .u64 a1, .int .u64 a2, .int .u64 a3, .int .u64 a4, .int .u64 a5, .int .u64 a6, .int .u64 a7, .int .u64 a8] ?ht3 _ hr2 Tryd.underlying93 ?hd3 ?hi3 ?_ ?hw3); (case hx3 => rfl); (case ht3 => rfl); (case hd3 => rfl); (case hi3 => kernel_rfl); (case hw3 => rfl))
      | (go_at_call 55; refine (HOF.out _).mono ?_; rintro e w3 ⟨rfl, hb3⟩
         have hE3 := (hb3.block _ (Array.getElem?_eq_some_iff.1 hE2).1).trans hE2
         have hB3 := hB2.trans (hb3.mono hB2.size)
         clear hb3 hE2 hB2 hr2)
      | ((with_reducible refine wpList_store_blk rfl 33 _ _ rfl w3.heap.size X ?hx4 ?hy4 33 _ (heap_alloc_new w3 _) (info_en HS.out) ?hs4 H1.out ?_); (case hx4 => rfl); (case hy4 => rfl); (case hs4 => rw [HS.out]; rfl)
         intro w4 hg4 hX4 hs4
         have hE4 := (hg4.block w.heap.size (by have := (Array.getElem?_eq_some_iff.1 hE3).1; simp; omega) (fun e => by injection e with e; have := (Array.getElem?_eq_some_iff.1 hE3).1; omega)).trans (in_alloc hE3 _)
         have hB4 := (hB3.alloc hB3.size _).grown hg4 (by have := hB3.size; simp; omega) (fun k e => by cases e; exact hB3.size)
         clear hg4 hE3 hB3 hs4)
      | ((with_reducible refine wpList_load_blk 33 _ rfl w3.heap.size ?hx5 33 X (0, 0) _ hX4 Tryd.underlying33 ?hd5 (info_en HS.out) ?_ ?hw5); (case hx5 => rfl); (case hd5 => rfl); (case hw5 => rfl))
      | (go_at_call 18; refine (HMC.out _).mono ?_; rintro e w5 ⟨rfl, hb5⟩
         have hX5 := (hb5.block _ (Array.getElem?_eq_some_iff.1 hX4).1).trans hX4
         have hE5 := (hb5.block _ (Array.getElem?_eq_some_iff.1 hE4).1).trans hE4
         have hB5 := hB4.trans (hb5.mono hB4.size)
         clear hb5 hX4 hE4 hB4)
      | ((with_reducible refine wpList_load_blk 33 _ rfl w3.heap.size ?hx6 33 X (0, 0) _ hX5 Tryd.underlying33 ?hd6 (info_en HS.out) ?_ ?hw6); (case hx6 => rfl); (case hd6 => rfl); (case hw6 => rfl))
      | ((with_reducible refine wpList_store_blk rfl 33 _ _ rfl w.heap.size X ?hx7 ?hy7 33 _ hE5 (info_en HS.out) ?hs7 H1.out ?_); (case hx7 => rfl); (case hy7 => rfl); (case hs7 => rw [HS.out]; rfl)
         intro w6 hg6 hX6 hs6
         clear hE5)
      | ((with_reducible refine wpList_store_blk rfl 33 _ _ rfl w.heap.size (enA En.zero) ?hx8 ?hy8 33 _ hE5 (info_en rfl) ?hs8 (enA_one _) ?_); (case hx8 => rfl); (case hy8 => rfl); (case hs8 => rfl)
         intro w6 hg6 hX6 hs6
         clear hE5))
  all_goals
    first
    | (refine bodyPost_ret (v := .tuple #[.agg (enA En.zero), .bool false]) ?_ rfl ⟨rfl, ?_⟩
       · exact results_blk_tmp Tryd.results45 _ _ _ w.heap.size 33 _ (0, 0) _ rfl hX6 Tryd.underlying33 rfl (info_en rfl) _ rfl
       · exact hB5.grown hg6 hB5.size (fun k e => by cases e; exact Nat.le_refl _))
    | (refine bodyPost_ret (v := .tuple #[.agg X, .bool true]) ?_ rfl ⟨rfl, ?_⟩
       · exact results_blk_tmp Tryd.results45 _ _ _ w.heap.size 33 _ (0, 0) _ rfl hX6 Tryd.underlying33 rfl (info_en HS.out) _ rfl
       · exact hB5.grown hg6 hB5.size (fun k e => by cases e; exact Nat.le_refl _))
theorem eget_any (A : Option Addr) (n c : Nat) (b : List Int) (w : World) (hb : Bts w A n c b) :
    Calls Tryd.prog 45 #[.slice A n c] w (GE (getE b) (gotB b) w) := by
  by_cases h : n = 30
  · subst h
    have := eget_long A c b w hb
    rw [getE, gotB, hb.len, decide_eq_true rfl, Bool.true_and]
    exact this
  · have h2 : gotB b = false := got_short (by rw [hb.len]; exact h)
    rw [get_not h2, h2]
    exact eget_short A n c b w hb h
end Go.Proofs.YtafmompplcaadaaDoor

/- Pieces of a slice of bytes; what a step of reading a chain meets. -/
namespace Go.Proofs.YtafmompplcaadaaDoor
set_option maxRecDepth 100000
set_option linter.unusedVariables false
set_option linter.unusedSimpArgs false
open Go.RowKit

/-- a piece that is not empty -/
theorem cut_any {w : World} {A : Option Addr} {n c : Nat} {l : List Int} (h : Bts w A n c l) (lo k : Nat) (h1 : 0 < k) (h2 : lo + k ≤ n) :
    ∃ b off, A = some ⟨b, off, none⟩ ∧ Bts w (some ⟨b, off + lo, none⟩) k (c - lo) ((l.drop lo).take k) ∧
      ∀ (x y : Int) (w' : World), x = lo → y = lo + k → (Instr.slice 22 (.slice A n c) (some (.int .i64 x)) (some (.int .i64 y)) none).run Tryd.prog w' = .ok (.slice (some ⟨b, off + lo, none⟩) k (c - lo)) w' := by
  have hle := h.le
  have hmx := h.max
  obtain ⟨b, off, rfl, hc⟩ := h.at_ (by omega)
  refine ⟨b, off, rfl, ⟨by rw [List.length_take, List.length_drop, h.len]; omega, by omega, by omega, ok_piece l h.ok lo k, (fun e => by cases e), fun _ => ⟨b, off + lo, rfl, fun j hj => ?_⟩⟩, fun x y w' hx hy => ?_⟩
  · rw [Nat.add_assoc, hc (lo + j) (by omega)]
    simp [List.getD_eq_getElem?_getD, List.getElem?_take, List.getElem?_drop, hj]
  · have := run_cut b off n c lo (lo + k) x y hx (by rw [hy]; omega) (by omega) (by omega) (by omega) w'
    rw [this, Nat.add_sub_cancel_left]
theorem gete_ok {b : List Int} (hb : ∀ x ∈ b, 0 ≤ x ∧ x < 256) : (getE b).ok := by
  cases h : gotB b with
  | false => rw [get_not h]; exact ⟨⟨by decide, by decide⟩, ⟨by decide, by decide⟩⟩
  | true =>
    rw [getE, h, if_pos rfl]
    rw [gotB, Bool.and_eq_true, decide_eq_true_eq] at h
    exact seems_ok hb h.1
theorem cbeq_dec (x y : List Int) : (x == y) = decide (x = y) := by
  by_cases e : x = y
  · rw [e, decide_eq_true rfl, beq_self_eq_true]
  · rw [decide_eq_false e, beq_eq_false_iff_ne]; exact e
/-- whether a whole record lies there, by its parts -/
theorem whole_eq {h b : List Int} {k : Nat} (hr : 62 * k + 62 ≤ b.length) : wholeC h (b.drop (62 * k)) = (gotB ((b.drop (62 * k)).take 30) && decide (linkP h (getE ((b.drop (62 * k)).take 30)) = (b.drop (62 * k + 30)).take 32)) := by
  rw [wholeC, List.drop_drop, decide_eq_true (by rw [List.length_drop]; omega), Bool.true_and]
  cases hg : gotB ((b.drop (62 * k)).take 30) with
  | false => rfl
  | true =>
    have hm := hg
    rw [gotB, Bool.and_eq_true] at hm
    rw [getE, hg, if_pos rfl, linkP, hm.2, if_pos rfl]
    exact cbeq_dec _ _
theorem read_step {b : List Int} {k : Nat} (hk : k ≤ (readC b).length) :
    (k < (readC b).length → wholeC (headC ((readC b).take k)) (b.drop (62 * k)) = true ∧ (readC b)[k]? = some (seemsE ((b.drop (62 * k)).take 30))) ∧
    (k = (readC b).length → k < 264 → wholeC (headC ((readC b).take k)) (b.drop (62 * k)) = false) := readF_at 264 startC b k hk
/-- where a whole record lies, it is read -/
theorem read_on {b : List Int} {k : Nat} {h : List Int} (hk : k ≤ (readC b).length) (h264 : k < 264) (hr : 62 * k + 62 ≤ b.length) (hh : headC ((readC b).take k) = h)
    (hg : gotB ((b.drop (62 * k)).take 30) = true) (hx : linkP h (getE ((b.drop (62 * k)).take 30)) = (b.drop (62 * k + 30)).take 32) :
    k + 1 ≤ (readC b).length ∧ (readC b)[k]? = some (getE ((b.drop (62 * k)).take 30)) ∧ headC ((readC b).take (k + 1)) = linkP h (getE ((b.drop (62 * k)).take 30)) := by
  obtain ⟨h1, h2⟩ := read_step hk
  have hw : wholeC (headC ((readC b).take k)) (b.drop (62 * k)) = true := by rw [hh, whole_eq hr, hg, hx, decide_eq_true rfl]; rfl
  by_cases hlt : k < (readC b).length
  · have h3 := (h1 hlt).2
    have he : getE ((b.drop (62 * k)).take 30) = seemsE ((b.drop (62 * k)).take 30) := by rw [getE, hg, if_pos rfl]
    have hm := hg
    rw [gotB, Bool.and_eq_true] at hm
    refine ⟨hlt, by rw [he]; exact h3, ?_⟩
    rw [(text_take h3).2, hh, he, linkP, hm.2, if_pos rfl]
  · rw [h2 (by omega) h264] at hw
    cases hw
/-- where none lies, all is read -/
theorem read_off {b : List Int} {k : Nat} {h : List Int} (hk : k ≤ (readC b).length) (hr : 62 * k + 62 ≤ b.length) (hh : headC ((readC b).take k) = h)
    (hx : ¬ (gotB ((b.drop (62 * k)).take 30) = true ∧ linkP h (getE ((b.drop (62 * k)).take 30)) = (b.drop (62 * k + 30)).take 32)) : k = (readC b).length := by
  obtain ⟨h1, -⟩ := read_step hk
  by_cases hlt : k < (readC b).length
  · have h3 := (h1 hlt).1
    rw [hh, whole_eq hr, Bool.and_eq_true, decide_eq_true_eq] at h3
    exact absurd h3 hx
  · omega
theorem read_end {b : List Int} {k : Nat} (hk : k ≤ (readC b).length) (h : ¬ (k < 264 ∧ 62 * k + 62 ≤ b.length)) : k = (readC b).length := by
  have h1 := readC_le b
  have h2 := readC_room b
  omega
/-- what the comparing of two pieces of bytes says -/
theorem bstr_same {x y : List Int} (hx : ∀ j, 0 ≤ x.getD j 0 ∧ x.getD j 0 < 256) (hy : ∀ j, 0 ≤ y.getD j 0 ∧ y.getD j 0 < 256) : ((bstr x).toList == (bstr y).toList) = decide (x = y) := by
  by_cases e : x = y
  · rw [e, decide_eq_true rfl, beq_self_eq_true]
  · rw [decide_eq_false e, beq_eq_false_iff_ne]
    exact fun h => e (bstr_inj hx hy h)
end Go.Proofs.YtafmompplcaadaaDoor

/- What the laws on chains ask, plainly. -/
namespace Go.Proofs.YtafmompplcaadaaDoor
set_option linter.unusedVariables false
set_option linter.unusedSimpArgs false
open Go

theorem verC_len (b : List Int) : (verC b).length = 32 := by
  unfold verC
  by_cases h : errC b = 0
  · rw [if_pos h]; exact headC_len _
  · rw [if_neg h]; rfl
/-- records cut off anywhere: what is read, its head, what is wrong -/
theorem torn_all {l : List En} (hm : mayC l = true) (ho : ∀ u ∈ l, u.ok) (h264 : l.length ≤ 264) {k : Nat} (hk : k ≤ 62 * l.length) :
    k / 62 ≤ l.length ∧ readC ((recsC l).take k) = l.take (k / 62) ∧ (readC ((recsC l).take k)).length = k / 62 ∧ errC ((recsC l).take k) = (if k % 62 = 0 then 0 else 4) := by
  have hb : k / 62 ≤ l.length := by omega
  have hr := torn_read hm ho h264 k hk
  have hl : (readC ((recsC l).take k)).length = k / 62 := by rw [hr, List.length_take]; omega
  have hbl : ((recsC l).take k).length = k := by rw [List.length_take, recsC, recsF_len]; omega
  refine ⟨hb, hr, hl, ?_⟩
  unfold errC
  rw [hl, hbl]
  by_cases h0 : k % 62 = 0
  · rw [if_pos h0, if_pos (by omega)]
  · rw [if_neg h0, if_neg (by omega), if_pos (by omega)]
theorem torn_ver {l : List En} (hm : mayC l = true) (ho : ∀ u ∈ l, u.ok) (h264 : l.length ≤ 264) {k : Nat} (hk : k ≤ 62 * l.length) (h0 : k % 62 = 0) :
    verC ((recsC l).take k) = headC (l.take (k / 62)) := by
  obtain ⟨_, hr, _, he⟩ := torn_all hm ho h264 hk
  rw [if_pos h0] at he
  rw [verC, if_pos he, hr]
theorem putC_take {l : List En} (h : putC l = true) (k : Nat) : putC (l.take k) = true := by
  rw [putC, Bool.and_eq_true, decide_eq_true_eq] at h ⊢
  refine ⟨by rw [List.length_take]; omega, ?_⟩
  cases e : mayC (l.take k) with
  | true => rfl
  | false => rw [mayC_part e] at h; exact h.2
theorem putC_few {l : List En} (h : l.length ≤ 264) : putC l = mayC l := by rw [putC, decide_eq_true h, Bool.true_and]
/-- what is read is put as what was read -/
theorem reads_all {b : List Int} (hb : ∀ x ∈ b, 0 ≤ x ∧ x < 256) : putC (readC b) = true ∧ recsC (readC b) = b.take (62 * (readC b).length) ∧ 62 * (readC b).length ≤ b.length ∧ (∀ u ∈ readC b, u.ok) := by
  obtain ⟨h1, h2, h3⟩ := readC_put hb
  exact ⟨by rw [putC_few (readC_le b)]; exact h1, h3, readC_room b, h2⟩
theorem reads_ver {b : List Int} : (errC b = 0 ↔ 62 * (readC b).length = b.length) ∧ (errC b = 0 → verC b = headC (readC b)) := ⟨err_ok b, fun h => by rw [verC, if_pos h]⟩
/-- one entry more -/
theorem more_all {l : List En} {e : En} (h : l.length ≤ 263) : putC (l ++ [e]) = (putC l && mayE e) ∧ recsC (l ++ [e]) = recsC l ++ putE e ++ linkC (headC l) e ∧ headC (l ++ [e]) = linkC (headC l) e := by
  refine ⟨?_, by rw [recsC_snoc, List.append_assoc], headC_snoc _ _⟩
  rw [putC_few (by rw [List.length_append]; simp only [List.length_cons, List.length_nil]; omega), putC_few (by omega), mayC_snoc]
/-- a record overwritten: a copy of 30 bytes over its own -/
theorem spoil_at {l : List En} {i : Nat} {u e : En} (h : l[i]? = some u) :
    (recsC l).take (62 * i) ++ putE e ++ (recsC l).drop (62 * i + 30) = recsC (l.take i) ++ (putE e ++ (linkC (headC (l.take i)) u ++ recsF (linkC (headC (l.take i)) u) (l.drop (i + 1)))) := by
  obtain ⟨hi, _⟩ := List.getElem?_eq_some_iff.1 h
  have hl : (recsC (l.take i)).length = 62 * i := by rw [recsC, recsF_len, List.length_take]; omega
  rw [recs_about h, List.take_left' hl, ← List.drop_drop, List.drop_left' hl, List.drop_left' (put_len u), List.append_assoc]
end Go.Proofs.YtafmompplcaadaaDoor

/- The head and the text that stand at the end of records; what a round of reading meets; how two lists go back together. -/
namespace Go.Proofs.YtafmompplcaadaaDoor
set_option linter.unusedVariables false
set_option linter.unusedSimpArgs false
open Go

def headB (b : List Int) : List Int := if b = [] then startC else b.drop (b.length - 32)
theorem headB_recs (l : List En) : headB (recsC l) = headC l := by
  rcases List.eq_nil_or_concat l with rfl | ⟨m, u, rfl⟩
  · rfl
  · rw [List.concat_eq_append, recsC_snoc, headC_snoc]
    obtain ⟨X, hX⟩ : ∃ X, recsC m ++ putE u = X := ⟨_, rfl⟩
    have hXl : 30 ≤ X.length := by rw [← hX, List.length_append, put_len]; omega
    rw [← List.append_assoc, hX]
    have hl : (linkC (headC m) u).length = 32 := csum_len _
    have hne : ¬ X ++ linkC (headC m) u = [] := by
      intro e
      have := congrArg List.length e
      rw [List.length_append, List.length_nil] at this
      omega
    rw [headB, if_neg hne, List.length_append, hl, Nat.add_sub_cancel, List.drop_left' rfl]
theorem headB_len {b : List Int} (h : b.length = 0 ∨ 32 ≤ b.length) : (headB b).length = 32 := by
  unfold headB
  split
  · exact csum_len _
  · rename_i hne
    rw [List.length_drop]
    have : b.length ≠ 0 := fun e => hne (List.eq_nil_of_length_eq_zero e)
    omega
theorem headB_byte {b : List Int} (hb : ∀ j, 0 ≤ b.getD j 0 ∧ b.getD j 0 < 256) : ∀ j, 0 ≤ (headB b).getD j 0 ∧ (headB b).getD j 0 < 256 := by
  intro j
  unfold headB
  split
  · exact csum_byte _ j
  · have := hb (b.length - 32 + j)
    simpa [List.getD_eq_getElem?_getD, List.getElem?_drop] using this
def textB (b : List Int) : List Int := if b = [] then [0] else 1 :: (headB (b.take (b.length - 62)) ++ (b.drop (b.length - 62)).take 30)
theorem textB_recs (l : List En) : textB (recsC l) = textC l := by
  rcases List.eq_nil_or_concat l with rfl | ⟨m, u, rfl⟩
  · rfl
  · rw [List.concat_eq_append, recsC_snoc, textC_snoc]
    obtain ⟨X, hX⟩ : ∃ X, putE u ++ linkC (headC m) u = X := ⟨_, rfl⟩
    have hXl : X.length = 62 := by rw [← hX, List.length_append, put_len, linkC, csum_len]
    rw [hX]
    have hne : ¬ recsC m ++ X = [] := by
      intro e
      have := congrArg List.length e
      rw [List.length_append, List.length_nil] at this
      omega
    rw [textB, if_neg hne, List.length_append, hXl, Nat.add_sub_cancel, List.take_left' rfl, List.drop_left' rfl, headB_recs, ← hX, List.take_left' (put_len u)]
    rfl
theorem textB_len {b : List Int} : (textB b).length ≤ 1 + (headB (b.take (b.length - 62))).length + 30 := by
  unfold textB
  split
  · simp only [List.length_cons, List.length_nil]; omega
  · rw [List.length_cons, List.length_append, List.length_take]; omega
theorem recs_upto {l : List En} {k : Nat} (hk : k ≤ l.length) : (recsC l).take (62 * k) = recsC (l.take k) := by
  have e : recsC l = recsC (l.take k) ++ recsF (headF startC (l.take k)) (l.drop k) := by rw [recsC, recsC, ← recsF_app, List.take_append_drop]
  rw [e]
  exact List.take_left' (by rw [recsC, recsF_len, List.length_take]; omega)
/-- the head ahead of a record -/
theorem head_ahead {b : List Int} (hb : ∀ x ∈ b, 0 ≤ x ∧ x < 256) {k : Nat} (hk : k ≤ (readC b).length) : headB (b.take (62 * k)) = headC ((readC b).take k) := by
  obtain ⟨-, h2, h3, -⟩ := reads_all hb
  have e : b.take (62 * k) = recsC ((readC b).take k) := by
    rw [← recs_upto hk, h2, List.take_take]
    congr 1
    omega
  rw [e, headB_recs]
theorem head_of {b : List Int} {k : Nat} (hr : 62 * k + 62 ≤ b.length) : headB ((b.drop (62 * k)).take 62) = (b.drop (62 * k + 30)).take 32 := by
  have hl : ((b.drop (62 * k)).take 62).length = 62 := by rw [List.length_take, List.length_drop]; omega
  have hne : ¬ (b.drop (62 * k)).take 62 = [] := by
    intro e
    rw [e] at hl
    cases hl
  rw [headB, if_neg hne, hl, List.drop_take, List.drop_drop]
theorem err_form {b : List Int} {k : Nat} {h : List Int} (hk : k ≤ (readC b).length) (h264 : k < 264) (hr : 62 * k + 62 ≤ b.length) (hh : headC ((readC b).take k) = h)
    (hg : gotB ((b.drop (62 * k)).take 30) = false) : k = (readC b).length ∧ errC b = 3 := by
  have e := read_off hk hr hh (fun x => by rw [hg] at x; cases x.1)
  refine ⟨e, ?_⟩
  rw [errC, ← e, if_neg (by omega), if_neg (by omega), hg]
  rfl
theorem err_tag {b : List Int} {k : Nat} {h : List Int} (hk : k ≤ (readC b).length) (h264 : k < 264) (hr : 62 * k + 62 ≤ b.length) (hh : headC ((readC b).take k) = h)
    (hg : gotB ((b.drop (62 * k)).take 30) = true) (hx : ¬ linkP h (getE ((b.drop (62 * k)).take 30)) = (b.drop (62 * k + 30)).take 32) : k = (readC b).length ∧ errC b = 7 := by
  have e := read_off hk hr hh (fun x => hx x.2)
  refine ⟨e, ?_⟩
  rw [errC, ← e, if_neg (by omega), if_neg (by omega), hg]
  rfl
theorem err_end {b : List Int} {k : Nat} (hk : k ≤ (readC b).length) (hN : k = min (b.length / 62) 264) : k = (readC b).length ∧ errC b = if 62 * k = b.length then 0 else 4 := by
  have e := read_end hk (by omega)
  refine ⟨e, ?_⟩
  rw [errC, ← e]
  split
  · rfl
  · rw [if_pos (by omega)]
/-- two lists that go back together -/
def Back (a b : List En) (i k : Nat) : Prop := i ≤ a.length ∧ k ≤ b.length ∧ a.drop i = b.drop k ∧ clashIx a b a.length b.length = clashIx a b i k
theorem back_start (a b : List En) : Back a b a.length b.length := ⟨Nat.le_refl _, Nat.le_refl _, by rw [List.drop_length, List.drop_length], rfl⟩
theorem back_same {a b : List En} {i k : Nat} (h : Back a b i k) (e : a = b) : i = k := by
  obtain ⟨h1, h2, h3, -⟩ := h
  have := congrArg List.length h3
  rw [List.length_drop, List.length_drop, e] at this
  rw [e] at h1
  omega
theorem back_off {a b : List En} {i k : Nat} (h : Back a b i k) (hP : putC a = true) (hQ : putC b = true) (hh : headC a = headC b) (ht : ¬ textC (a.take i) = textC (b.take k)) :
    clashB a b = true ∧ clashP a b = (textC (a.take i), textC (b.take k)) := by
  have hne : ¬ a = b := by
    intro e
    have := back_same h e
    subst this
    exact ht (by rw [e])
  have hc : clashB a b = true := by rw [clashB, hP, hQ, decide_eq_true hh, decide_eq_false hne]; rfl
  obtain ⟨-, -, -, h4⟩ := h
  have e2 : clashIx a b i k = (i, k) := by
    cases i with
    | zero => cases k <;> rfl
    | succ i =>
      cases k with
      | zero => rfl
      | succ k => rw [clashIx, if_neg ht]
  refine ⟨hc, ?_⟩
  rw [clashP, if_pos hc, h4, e2]
theorem text_long {l : List En} {i : Nat} (hi : i < l.length) : (textC (l.take (i + 1))).length = 63 := by
  rw [(text_take (List.getElem?_eq_getElem hi)).1, linkT, List.length_cons, List.length_append, headC_len, put_len]
theorem back_none {a b : List En} {k : Nat} (h : Back a b 0 k) (ht : textC (a.take 0) = textC (b.take k)) : clashB a b = false ∧ clashP a b = ([], []) := by
  obtain ⟨h1, h2, h3, -⟩ := h
  have hk : k = 0 := by
    cases k with
    | zero => rfl
    | succ k =>
      have := text_long (l := b) h2
      rw [← ht] at this
      cases this
  subst hk
  rw [List.drop_zero, List.drop_zero] at h3
  have hc : clashB a b = false := by simp [clashB, h3]
  exact ⟨hc, by rw [clashP, hc]; rfl⟩
theorem back_on {a b : List En} {i k : Nat} (h : Back a b (i + 1) k) (ha : mayC a = true) (hb : mayC b = true) (oa : ∀ u ∈ a, u.ok) (ob : ∀ u ∈ b, u.ok) (ht : textC (a.take (i + 1)) = textC (b.take k)) :
    ∃ j, k = j + 1 ∧ Back a b i j := by
  obtain ⟨h1, h2, h3, h4⟩ := h
  cases k with
  | zero =>
    have := text_long (l := a) h1
    rw [ht] at this
    cases this
  | succ j =>
    refine ⟨j, rfl, by omega, by omega, ?_, ?_⟩
    · have e := ht
      rw [(text_take (List.getElem?_eq_getElem h1)).1, (text_take (List.getElem?_eq_getElem h2)).1] at e
      obtain ⟨e1, e2⟩ := linkT_inj (headC_len _) (headC_len _) e
      have mu : mayE a[i] = true := List.all_eq_true.1 ha _ (List.getElem_mem h1)
      have mv : mayE b[j] = true := List.all_eq_true.1 hb _ (List.getElem_mem h2)
      have euv := eput_inj mu (oa _ (List.getElem_mem h1)) mv (ob _ (List.getElem_mem h2)) e2
      rw [List.drop_eq_getElem_cons h1, List.drop_eq_getElem_cons h2, euv, h3]
    · rw [h4, clashIx, if_pos ht]
theorem putC_may {l : List En} (h : putC l = true) : mayC l = true ∧ l.length ≤ 264 := by
  rw [putC, Bool.and_eq_true, decide_eq_true_eq] at h
  exact ⟨h.2, h.1⟩
end Go.Proofs.YtafmompplcaadaaDoor

/- A log, plainly: entries in a chain, in a store; which may be; room, an entry more, a crash meanwhile, a store opened. -/
namespace Go.Proofs.YtafmompplcaadaaDoor
set_option maxRecDepth 100000
set_option linter.unusedVariables false
set_option linter.unusedSimpArgs false
open Go

def nought32 : List Int := noughtsC
structure Lg where
  st : Sp
  l : List En
  head : List Int
/-- what its memory can hold -/
structure Lg.ok (g : Lg) : Prop where
  each : ∀ u ∈ g.l, u.ok
  len : g.head.length = 32
  byte : ∀ j, 0 ≤ g.head.getD j 0 ∧ g.head.getD j 0 < 256
def zeroG : Lg := ⟨⟨0, [], 0⟩, [], noughtsC⟩
def mayG (g : Lg) : Bool := mayP g.st && (putC g.l && (decide (g.st.sure = g.st.data.length) && (decide (recsC g.l = g.st.data) && decide (headC g.l = g.head))))
def sameG (a b : Lg) : Bool := sameP a.st b.st && (sameE a.l b.l && decide (a.head = b.head))
def slotsG (g : Lg) : Int := g.st.cap.tdiv 62
def roomG (g : Lg) : Int := if mayG g then max (slotsG g - 4 - g.l.length) 0 else 0
def recG (g : Lg) (e : En) : List Int := (if mayE e then putE e else []) ++ linkP g.head e
def fullG (g : Lg) (u : Bool) : Bool := decide (slotsG g ≤ g.l.length) || (!u && decide (roomG g = 0))
def addG (g : Lg) (e : En) (u : Bool) : Lg × Int :=
  if mayG g && mayE e then if fullG g u then (g, 12) else (⟨(syncP (writeP g.st (recG g e)).1).1, g.l ++ [e], linkP g.head e⟩, 0) else (g, 1)
def tornG (g : Lg) (e : En) (keep : Int) : Sp := if mayG g && (mayE e && decide ((g.l.length : Int) < slotsG g)) then crashP (writeP g.st (recG g e)).1 keep else g.st
def openG (s : Sp) : Lg × Int := if mayP s then (⟨(cutP s (62 * (readC s.data).length)).1, readC s.data, headC (readC s.data)⟩, 0) else (zeroG, 1)
def newG (room : Int) : Lg × Bool := if 0 ≤ room ∧ room ≤ 16384 then (⟨⟨room, [], 0⟩, [], startC⟩, true) else (zeroG, false)

theorem sameG_self (a : Lg) : sameG a a = true := by simp [sameG, sameP_self, sameE]
theorem sameG_iff {a b : Lg} : sameG a b = true ↔ a = b := by
  obtain ⟨s, l, h⟩ := a
  obtain ⟨s', l', h'⟩ := b
  simp only [sameG, sameE, Bool.and_eq_true, sameP_iff, decide_eq_true_eq, Lg.mk.injEq]
theorem sameG_eq (a b : Lg) : sameG a b = true ∨ sameG a b = false := by cases sameG a b <;> simp
theorem mayG_iff {g : Lg} : mayG g = true ↔ mayP g.st = true ∧ putC g.l = true ∧ g.st.sure = g.st.data.length ∧ recsC g.l = g.st.data ∧ headC g.l = g.head := by
  simp only [mayG, Bool.and_eq_true, decide_eq_true_eq]
theorem mayG_len {g : Lg} (h : mayG g = true) : g.st.data.length = 62 * g.l.length ∧ g.l.length ≤ 264 := by
  obtain ⟨-, h2, -, h4, -⟩ := mayG_iff.1 h
  rw [putC, Bool.and_eq_true, decide_eq_true_eq] at h2
  rw [← h4, recsC, recsF_len]
  exact ⟨rfl, h2.1⟩
/-- a store and its chain, with the numbers as they are -/
theorem log_eta {g : Lg} (h : mayG g = true) : g = ⟨⟨g.st.cap, recsC g.l, 62 * g.l.length⟩, g.l, headC g.l⟩ := by
  obtain ⟨h1, h2, h3, h4, h5⟩ := mayG_iff.1 h
  obtain ⟨hl, -⟩ := mayG_len h
  obtain ⟨⟨c, d, s⟩, l, hd⟩ := g
  simp only at h3 h4 h5 hl ⊢
  rw [h4, h5, h3, hl]
  simp
theorem slots_room {g : Lg} (hc : 0 ≤ g.st.cap) {k : Int} (hk : 0 ≤ k) : k < slotsG g ↔ 62 * (k + 1) ≤ g.st.cap := by
  unfold slotsG
  rw [Int.tdiv_eq_ediv_of_nonneg hc]
  omega
theorem slots_most {g : Lg} (hm : mayP g.st = true) : 0 ≤ slotsG g ∧ slotsG g ≤ 264 := by
  have := may_data hm
  unfold slotsG
  rw [Int.tdiv_eq_ediv_of_nonneg this.1]
  omega
/-- the log with an entry more -/
def moreG (g : Lg) (e : En) : Lg := ⟨⟨g.st.cap, recsC (g.l ++ [e]), 62 * (g.l.length + 1)⟩, g.l ++ [e], headC (g.l ++ [e])⟩
theorem recG_eq {g : Lg} {e : En} (h : mayG g = true) (he : mayE e = true) : g.st.data ++ recG g e = recsC (g.l ++ [e]) ∧ linkP g.head e = headC (g.l ++ [e]) ∧ (recG g e).length = 62 := by
  obtain ⟨-, -, -, h4, h5⟩ := mayG_iff.1 h
  rw [recG, if_pos he, linkP, if_pos he, recsC_snoc, headC_snoc, h4, h5]
  exact ⟨rfl, rfl, by rw [List.length_append, put_len, linkC, csum_len]⟩
theorem write_rec {g : Lg} {e : En} (h : mayG g = true) (he : mayE e = true) (hr : (g.l.length : Int) < slotsG g) : writeP g.st (recG g e) = (⟨g.st.cap, recsC (g.l ++ [e]), 62 * g.l.length⟩, 0) := by
  obtain ⟨h1, h2, h3, h4, h5⟩ := mayG_iff.1 h
  obtain ⟨hl, -⟩ := mayG_len h
  obtain ⟨r1, r2, r3⟩ := recG_eq h he
  have hc := may_data h1
  have hs := (slots_room (g := g) hc.1 (k := g.l.length) (by omega)).1 hr
  rcases write_cases (b := recG g e) h1 with ⟨-, h⟩ | ⟨h, -⟩
  · rw [r3, hl] at h
    omega
  · rw [h, r1, h3, hl]
    simp
theorem more_len (g : Lg) (e : En) : (recsC (g.l ++ [e])).length = 62 * (g.l.length + 1) := by rw [recsC, recsF_len, List.length_append]; rfl
theorem more_may {g : Lg} {e : En} (h : mayG g = true) (he : mayE e = true) (hr : (g.l.length : Int) < slotsG g) : mayG (moreG g e) = true := by
  obtain ⟨h1, h2, h3, h4, h5⟩ := mayG_iff.1 h
  have hc := may_data h1
  have hs := (slots_room (g := g) hc.1 (k := g.l.length) (by omega)).1 hr
  have hml := more_len g e
  rw [putC, Bool.and_eq_true, decide_eq_true_eq] at h2
  rw [mayG_iff]
  refine ⟨may_of ⟨hc.1, hc.2.1, ?_, ?_, ?_⟩, ?_, ?_, rfl, rfl⟩
  · show ((recsC (g.l ++ [e])).length : Int) ≤ g.st.cap
    rw [hml]; omega
  · show (0 : Int) ≤ 62 * (g.l.length + 1)
    omega
  · show (62 * (g.l.length + 1) : Int) ≤ ((recsC (g.l ++ [e])).length : Int)
    rw [hml]; omega
  · show putC (g.l ++ [e]) = true
    rw [putC, mayC_snoc, h2.2, he, Bool.and_self, Bool.and_true, decide_eq_true_eq, List.length_append]
    simp only [List.length_cons, List.length_nil]
    omega
  · show (62 * (g.l.length + 1) : Int) = ((recsC (g.l ++ [e])).length : Int)
    rw [hml]; omega
theorem add_ok {g : Lg} {e : En} {u : Bool} (h : mayG g = true) (he : mayE e = true) (hf : fullG g u = false) : addG g e u = (moreG g e, 0) := by
  have hr : (g.l.length : Int) < slotsG g := by
    rw [fullG, Bool.or_eq_false_iff, decide_eq_false_iff_not] at hf
    omega
  obtain ⟨r1, r2, r3⟩ := recG_eq h he
  have hm := more_may h he hr
  have hw := write_rec h he hr
  have hwm := (write_may (mayG_iff.1 h).1 hw).1
  rw [addG, h, he, hf, hw, sync_ok hwm, r2]
  simp only [Bool.and_self, if_true, moreG, Bool.false_eq_true, if_false]
  rw [more_len]
  simp
theorem add_full {g : Lg} {e : En} {u : Bool} (h : mayG g = true) (he : mayE e = true) (hf : fullG g u = true) : addG g e u = (g, 12) := by rw [addG, h, he, hf]; rfl
theorem add_bad {g : Lg} {e : En} {u : Bool} (h : mayG g = false ∨ mayE e = false) : addG g e u = (g, 1) := by
  rw [addG]
  rcases h with h | h <;> simp [h]
theorem open_log {g : Lg} (h : mayG g = true) (ho : ∀ u ∈ g.l, u.ok) : openG g.st = (g, 0) := by
  obtain ⟨h1, h2, h3, h4, h5⟩ := mayG_iff.1 h
  obtain ⟨hl, hl2⟩ := mayG_len h
  have hr : readC g.st.data = g.l := by
    rw [← h4]
    rw [putC, Bool.and_eq_true] at h2
    exact put_read h2.2 ho hl2
  rw [openG, if_pos h1, hr]
  rcases cut_cases (k := 62 * (g.l.length : Int)) h1 with ⟨-, h⟩ | ⟨j, hj, hjl, hc⟩
  · omega
  · rw [hc]
    have : j = g.st.data.length := by omega
    subst this
    rw [List.take_length, ← h3, h5]
/-- behind a crash in the midst -/
theorem torn_cases {g : Lg} {e : En} (keep : Int) (h : mayG g = true) (he : mayE e = true) (hr : (g.l.length : Int) < slotsG g) :
    ∃ j : Nat, tornG g e keep = ⟨g.st.cap, (recsC (g.l ++ [e])).take j, j⟩ ∧ 62 * g.l.length ≤ j ∧ j ≤ 62 * (g.l.length + 1) ∧ (keep < 62 → j < 62 * (g.l.length + 1)) ∧ (62 ≤ keep → j = 62 * (g.l.length + 1)) := by
  have hw := write_rec h he hr
  have hwm := (write_may (mayG_iff.1 h).1 hw).1
  have hml := more_len g e
  obtain ⟨j, hj, h1, h2, h3⟩ := kept_at (keep := keep) hwm
  rw [tornG, h, he, decide_eq_true hr, Bool.and_self, Bool.and_self, if_pos rfl, hw]
  rw [keptP] at hj
  simp only at hj h1 h2
  rw [hml] at hj h2
  refine ⟨j, h3, by omega, by omega, fun hk => ?_, fun hk => ?_⟩
  · omega
  · omega
theorem open_torn {g : Lg} {e : En} {j : Nat} (h : mayG g = true) (he : mayE e = true) (hr : (g.l.length : Int) < slotsG g) (ho : ∀ u ∈ g.l, u.ok) (hoe : e.ok) (h1 : 62 * g.l.length ≤ j) (h2 : j < 62 * (g.l.length + 1)) :
    openG ⟨g.st.cap, (recsC (g.l ++ [e])).take j, j⟩ = (g, 0) := by
  obtain ⟨m1, m2, m3, m4, m5⟩ := mayG_iff.1 h
  obtain ⟨hl, hl2⟩ := mayG_len h
  have hc := may_data m1
  have hs := (slots_room (g := g) hc.1 (k := g.l.length) (by omega)).1 hr
  have hml := more_len g e
  have hmm := more_may h he hr
  have hpm := (mayG_iff.1 hmm).2.1
  have hpm : putC (g.l ++ [e]) = true := hpm
  rw [putC, Bool.and_eq_true, decide_eq_true_eq] at hpm
  have hoa : ∀ v ∈ g.l ++ [e], v.ok := fun v hv => by
    rcases List.mem_append.1 hv with hv | hv
    · exact ho v hv
    · rw [List.mem_singleton] at hv; rw [hv]; exact hoe
  have hlen : (g.l ++ [e]).length = g.l.length + 1 := by rw [List.length_append]; rfl
  have hrd := torn_read hpm.2 hoa hpm.1 j (by rw [hlen]; omega)
  have hq : j / 62 = g.l.length := by omega
  rw [hq, List.take_left' rfl] at hrd
  have hjl : ((recsC (g.l ++ [e])).take j).length = j := by rw [List.length_take, hml]; omega
  have hmay : mayP ⟨g.st.cap, (recsC (g.l ++ [e])).take j, j⟩ = true := may_of ⟨hc.1, hc.2.1, by simp only [hjl]; omega, by simp, by simp only [hjl]; omega⟩
  rw [openG, if_pos hmay, hrd]
  rcases cut_cases (k := 62 * (g.l.length : Int)) hmay with ⟨-, h⟩ | ⟨i, hi, hil, hcu⟩
  · simp only [hjl] at h
    omega
  · have hi2 : i = 62 * g.l.length := by omega
    have e1 : ((recsC (g.l ++ [e])).take j).take (62 * g.l.length) = recsC g.l := by
      rw [List.take_take, Nat.min_eq_left h1, recsC_snoc]
      exact List.take_left' (by rw [recsC, recsF_len])
    rw [hcu, hi2]
    simp only [e1]
    conv => rhs; rw [log_eta h]
    simp
/-- what is opened of any store -/
theorem open_any {s : Sp} (hm : mayP s = true) (hb : ∀ x ∈ s.data, 0 ≤ x ∧ x < 256) :
    openG s = (⟨⟨s.cap, s.data.take (62 * (readC s.data).length), 62 * (readC s.data).length⟩, readC s.data, headC (readC s.data)⟩, 0) ∧ mayG (openG s).1 = true ∧ ∀ u ∈ (openG s).1.l, u.ok := by
  obtain ⟨r1, r2, r3, r4⟩ := reads_all hb
  have hd := may_data hm
  have e : openG s = (⟨⟨s.cap, s.data.take (62 * (readC s.data).length), 62 * (readC s.data).length⟩, readC s.data, headC (readC s.data)⟩, 0) := by
    rw [openG, if_pos hm]
    rcases cut_cases (k := 62 * ((readC s.data).length : Int)) hm with ⟨-, h⟩ | ⟨i, hi, hil, hcu⟩
    · omega
    · have hi2 : i = 62 * (readC s.data).length := by omega
      rw [hcu, hi2]
      simp
  have hl : (s.data.take (62 * (readC s.data).length)).length = 62 * (readC s.data).length := by rw [List.length_take]; omega
  refine ⟨e, ?_, ?_⟩
  · rw [e, mayG_iff]
    refine ⟨may_of ⟨hd.1, hd.2.1, ?_, ?_, ?_⟩, r1, ?_, r2, rfl⟩
    · show ((s.data.take (62 * (readC s.data).length)).length : Int) ≤ s.cap
      rw [hl]; omega
    · show (0 : Int) ≤ 62 * ((readC s.data).length : Int)
      omega
    · show (62 * ((readC s.data).length : Int)) ≤ ((s.data.take (62 * (readC s.data).length)).length : Int)
      rw [hl]; omega
    · show (62 * ((readC s.data).length : Int)) = ((s.data.take (62 * (readC s.data).length)).length : Int)
      rw [hl]; omega
  · rw [e]
    exact r4
end Go.Proofs.YtafmompplcaadaaDoor

/- What the laws on a log ask, plainly. -/
namespace Go.Proofs.YtafmompplcaadaaDoor
set_option maxRecDepth 100000
set_option linter.unusedVariables false
set_option linter.unusedSimpArgs false
open Go

theorem add_cases {g : Lg} {e : En} {u : Bool} (h : mayG g = true) :
    (mayE e = false ∧ addG g e u = (g, 1)) ∨ (mayE e = true ∧ fullG g u = true ∧ addG g e u = (g, 12)) ∨ (mayE e = true ∧ fullG g u = false ∧ (g.l.length : Int) < slotsG g ∧ addG g e u = (moreG g e, 0)) := by
  cases he : mayE e with
  | false => exact .inl ⟨rfl, add_bad (.inr he)⟩
  | true =>
    cases hf : fullG g u with
    | true => exact .inr (.inl ⟨rfl, rfl, add_full h he hf⟩)
    | false =>
      refine .inr (.inr ⟨rfl, rfl, ?_, add_ok h he hf⟩)
      rw [fullG, Bool.or_eq_false_iff, decide_eq_false_iff_not] at hf
      omega
theorem more_ok {g : Lg} {e : En} (ho : ∀ u ∈ g.l, u.ok) (hoe : e.ok) : ∀ u ∈ (moreG g e).l, u.ok := fun v hv => by
  rcases List.mem_append.1 hv with hv | hv
  · exact ho v hv
  · rw [List.mem_singleton] at hv; rw [hv]; exact hoe
theorem moreG_parts (g : Lg) (e : En) : (moreG g e).l.length = g.l.length + 1 ∧ (moreG g e).l[g.l.length]? = some e ∧ (moreG g e).l.take g.l.length = g.l ∧ (moreG g e).st.sure = ((moreG g e).st.data.length : Int) ∧ (moreG g e).st.data.length = 62 * (g.l.length + 1) ∧ (moreG g e).st.cap = g.st.cap := by
  have hml := more_len g e
  refine ⟨by show (g.l ++ [e]).length = _; rw [List.length_append]; rfl, by show (g.l ++ [e])[g.l.length]? = _; rw [List.getElem?_append_right (Nat.le_refl _), Nat.sub_self]; rfl, List.take_left' rfl, ?_, hml, rfl⟩
  show (62 * (g.l.length + 1) : Int) = ((recsC (g.l ++ [e])).length : Int)
  rw [hml]; omega
/-- what is added -/
theorem adds_all {g : Lg} {e : En} {u : Bool} (h : mayG g = true) (ho : ∀ u ∈ g.l, u.ok) (hoe : e.ok) :
    ((addG g e u).2 ≠ 0 ∧ (addG g e u).1 = g) ∨ (addG g e u = (moreG g e, 0) ∧ openG (moreG g e).st = (moreG g e, 0) ∧ mayG (moreG g e) = true) := by
  rcases add_cases (e := e) (u := u) h with ⟨-, h2⟩ | ⟨-, -, h2⟩ | ⟨he, -, hr, h2⟩
  · rw [h2]; exact .inl ⟨by simp, rfl⟩
  · rw [h2]; exact .inl ⟨by simp, rfl⟩
  · have hm := more_may h he hr
    exact .inr ⟨h2, open_log hm (more_ok ho hoe), hm⟩
/-- a crash in the midst of adding -/
theorem torn_all_g {g : Lg} {e : En} {keep : Int} (h : mayG g = true) (ho : ∀ u ∈ g.l, u.ok) (hoe : e.ok) :
    ((addG g e true).2 ≠ 0 ∨ keep < 62 → openG (tornG g e keep) = (g, 0)) ∧ ((addG g e true).2 = 0 → 62 ≤ keep → openG (tornG g e keep) = ((addG g e true).1, 0)) := by
  rcases add_cases (e := e) (u := true) h with ⟨he, h2⟩ | ⟨he, hf, h2⟩ | ⟨he, -, hr, h2⟩
  · have ht : tornG g e keep = g.st := by rw [tornG, he]; simp
    rw [h2, ht]
    exact ⟨fun _ => open_log h ho, fun h3 => by simp at h3⟩
  · have hr : ¬ (g.l.length : Int) < slotsG g := by
      rw [fullG, Bool.not_true, Bool.false_and, Bool.or_false, decide_eq_true_eq] at hf
      omega
    have ht : tornG g e keep = g.st := by rw [tornG, he, decide_eq_false hr]; simp
    rw [h2, ht]
    exact ⟨fun _ => open_log h ho, fun h3 => by simp at h3⟩
  · obtain ⟨j, hj, h1, h3, h4, h5⟩ := torn_cases keep h he hr
    rw [h2, hj]
    refine ⟨fun hk => ?_, fun _ hk => ?_⟩
    · have hk : keep < 62 := by
        rcases hk with hk | hk
        · exact absurd rfl hk
        · exact hk
      exact open_torn h he hr ho hoe h1 (h4 hk)
    · have hj2 := h5 hk
      have hm := more_may h he hr
      have := open_log hm (more_ok ho hoe)
      rw [hj2, List.take_of_length_le (by rw [more_len]; exact Nat.le_refl _)]
      have e1 : (moreG g e).st = ⟨g.st.cap, recsC (g.l ++ [e]), ((62 * (g.l.length + 1) : Nat) : Int)⟩ := by
        show (⟨g.st.cap, recsC (g.l ++ [e]), 62 * ((g.l.length : Int) + 1)⟩ : Sp) = _
        congr 1
      rw [e1] at this
      exact this
/-- what is opened -/
theorem opens_all {s : Sp} (hb : ∀ x ∈ s.data, 0 ≤ x ∧ x < 256) :
    (mayP s = false ∧ openG s = (zeroG, 1)) ∨ (mayP s = true ∧ (openG s).2 = 0 ∧ mayG (openG s).1 = true ∧ openG (openG s).1.st = ((openG s).1, 0) ∧ (openG s).1.l = readC s.data ∧ (openG s).1.head = headC (readC s.data) ∧
      (openG s).1.st.data = s.data.take (62 * (readC s.data).length) ∧ (openG s).1.st.cap = s.cap) := by
  cases hm : mayP s with
  | false => exact .inl ⟨rfl, by rw [openG, hm]; rfl⟩
  | true =>
    obtain ⟨h1, h2, h3⟩ := open_any hm hb
    refine .inr ⟨rfl, by rw [h1], h2, open_log h2 h3, ?_, ?_, ?_, ?_⟩ <;> rw [h1]
theorem room_in {g : Lg} (h : mayG g = true) : roomG g = max (slotsG g - 4 - g.l.length) 0 := by rw [roomG, h]; rfl
theorem more_slots (g : Lg) (e : En) : slotsG (moreG g e) = slotsG g := rfl
theorem more_room {g : Lg} {e : En} (h : mayG g = true) (he : mayE e = true) (hr : (g.l.length : Int) < slotsG g) : roomG (moreG g e) = max (slotsG g - 4 - g.l.length - 1) 0 := by
  rw [room_in (more_may h he hr), more_slots, (moreG_parts g e).1]
  congr 1
  omega
/-- as long as there is room -/
theorem full_all {g : Lg} {e : En} (h : mayG g = true) (he : mayE e = true) :
    ((addG g e false).2 = 0 ↔ 0 < roomG g) ∧ ((addG g e true).2 = 0 ↔ (g.l.length : Int) < slotsG g) ∧ ((addG g e false).2 = 0 ∨ (addG g e false).2 = 12) ∧ ((addG g e true).2 = 0 ∨ (addG g e true).2 = 12) ∧
    ((addG g e false).2 = 0 → (addG g e false).1 = (addG g e true).1 ∧ roomG (addG g e false).1 = roomG g - 1) ∧ 0 ≤ roomG g ∧ roomG g ≤ 264 ∧ (roomG g = 0 ∨ roomG g = slotsG g - 4 - g.l.length) := by
  have hs := slots_most (mayG_iff.1 h).1
  have hrm := room_in h
  have key : 0 < roomG g → (g.l.length : Int) < slotsG g := fun h => by rw [hrm] at h; omega
  have hF : fullG g false = (decide (roomG g = 0) || decide (slotsG g ≤ g.l.length)) := by rw [fullG, Bool.not_false, Bool.true_and, Bool.or_comm]
  have hT : fullG g true = decide (slotsG g ≤ g.l.length) := by rw [fullG, Bool.not_true, Bool.false_and, Bool.or_false]
  have hnn : 0 ≤ roomG g := by rw [hrm]; omega
  have a1 : (addG g e false).2 = 0 ↔ 0 < roomG g := by
    rcases add_cases (e := e) (u := false) h with ⟨h1, -⟩ | ⟨-, h1, h2⟩ | ⟨-, h1, h2, h3⟩
    · rw [he] at h1; cases h1
    · rw [h2]
      rw [hF, Bool.or_eq_true, decide_eq_true_eq, decide_eq_true_eq] at h1
      simp only [show (12 : Int) ≠ 0 by decide, false_iff]
      omega
    · rw [h3]
      rw [hF, Bool.or_eq_false_iff, decide_eq_false_iff_not, decide_eq_false_iff_not] at h1
      simp only [true_iff]
      omega
  have a2 : (addG g e true).2 = 0 ↔ (g.l.length : Int) < slotsG g := by
    rcases add_cases (e := e) (u := true) h with ⟨h1, -⟩ | ⟨-, h1, h2⟩ | ⟨-, h1, h2, h3⟩
    · rw [he] at h1; cases h1
    · rw [h2]
      rw [hT, decide_eq_true_eq] at h1
      simp only [show (12 : Int) ≠ 0 by decide, false_iff]
      omega
    · rw [h3]
      simp only [true_iff]
      exact h2
  refine ⟨a1, a2, ?_, ?_, ?_, hnn, by rw [hrm]; omega, by rw [hrm]; omega⟩
  · rcases add_cases (e := e) (u := false) h with ⟨h1, -⟩ | ⟨-, h1, h2⟩ | ⟨-, h1, h2, h3⟩
    · rw [he] at h1; cases h1
    · rw [h2]; exact .inr rfl
    · rw [h3]; exact .inl rfl
  · rcases add_cases (e := e) (u := true) h with ⟨h1, -⟩ | ⟨-, h1, h2⟩ | ⟨-, h1, h2, h3⟩
    · rw [he] at h1; cases h1
    · rw [h2]; exact .inr rfl
    · rw [h3]; exact .inl rfl
  · intro h0
    have hpos := a1.1 h0
    have hlt := key hpos
    have e1 : addG g e false = (moreG g e, 0) := by
      rcases add_cases (e := e) (u := false) h with ⟨h1, h2⟩ | ⟨-, h1, h2⟩ | ⟨-, h1, h2, h3⟩
      · rw [h2] at h0; simp at h0
      · rw [h2] at h0; simp at h0
      · exact h3
    have e2 : addG g e true = (moreG g e, 0) := add_ok h he (by rw [hT, decide_eq_false_iff_not]; omega)
    rw [e1, e2]
    exact ⟨rfl, by rw [more_room h he hlt, hrm]; rw [hrm] at hpos; omega⟩
/-- urgent ones, one behind the other -/
def waitG (g : Lg) (e : En) : Nat → Lg
  | 0 => g
  | i + 1 => (addG (waitG g e i) e true).1
theorem wait_at {g : Lg} {e : En} (h : mayG g = true) (he : mayE e = true) (hr : roomG g = 0) (ho : ∀ u ∈ g.l, u.ok) (hoe : e.ok) (i : Nat) :
    mayG (waitG g e i) = true ∧ slotsG (waitG g e i) = slotsG g ∧ ((waitG g e i).l.length : Int) = g.l.length + min (i : Int) (max (slotsG g - g.l.length) 0) ∧ (∀ u ∈ (waitG g e i).l, u.ok) := by
  induction i with
  | zero => exact ⟨h, rfl, by show (g.l.length : Int) = _; simp only [Int.natCast_zero]; omega, ho⟩
  | succ i ih =>
    obtain ⟨i1, i2, i3, i4⟩ := ih
    rcases add_cases (e := e) (u := true) i1 with ⟨h1, -⟩ | ⟨-, h1, h2⟩ | ⟨-, h1, h2, h3⟩
    · rw [he] at h1; cases h1
    · have hT : slotsG (waitG g e i) ≤ (waitG g e i).l.length := by
        rw [fullG, Bool.not_true, Bool.false_and, Bool.or_false, decide_eq_true_eq] at h1
        exact h1
      rw [waitG, h2]
      refine ⟨i1, i2, ?_, i4⟩
      show ((waitG g e i).l.length : Int) = _
      rw [i2] at hT
      push_cast
      omega
    · rw [waitG, h3]
      refine ⟨more_may i1 he h2, by rw [more_slots]; exact i2, ?_, more_ok i4 hoe⟩
      show ((moreG (waitG g e i) e).l.length : Int) = _
      rw [(moreG_parts _ _).1]
      rw [i2] at h2
      push_cast
      omega
theorem wait_all {g : Lg} {e : En} (h : mayG g = true) (he : mayE e = true) (hr : roomG g = 0) (ho : ∀ u ∈ g.l, u.ok) (hoe : e.ok) (i : Nat) :
    ((addG (waitG g e i) e true).2 = 0 ↔ (i : Int) < slotsG g - g.l.length) ∧ roomG (waitG g e (i + 1)) = 0 ∧ slotsG g - g.l.length ≤ 4 := by
  obtain ⟨i1, i2, i3, -⟩ := wait_at h he hr ho hoe i
  obtain ⟨j1, j2, j3, -⟩ := wait_at h he hr ho hoe (i + 1)
  have hrm := room_in h
  rw [hr] at hrm
  refine ⟨?_, ?_, by omega⟩
  · rw [(full_all i1 he).2.1, i2]
    omega
  · rw [room_in j1, j2]
    push_cast at j3
    omega
end Go.Proofs.YtafmompplcaadaaDoor

/- append(v[:n:n], s...) of bytes, whoever's v is; v[:n:n]. -/
namespace Go.Proofs.YtafmompplcaadaaDoor
set_option maxRecDepth 100000
set_option linter.unusedVariables false
set_option linter.unusedSimpArgs false
open Go.RowKit

/-- the whole of it, without room behind -/
theorem run_full {w0 : World} {A : Option Addr} {n cap : Nat} {l : List Int} (hb : Bts w0 A n cap l) :
    (∀ w : World, (Instr.slice 22 (.slice A n cap) none (some (.int .i64 n)) (some (.int .i64 n))).run Tryd.prog w = .ok (.slice A n n) w) ∧ Bts w0 A n n l := by
  have hle := hb.le
  refine ⟨fun w => ?_, hb.len, Nat.le_refl _, Nat.le_trans hb.le hb.max, hb.ok, fun h => ?_, hb.at_⟩
  · rw [run_slice_hm (P := Tryd.prog) w 22 A n cap (by kernel_rfl) .i64 .i64 n n (by omega) (by omega) (by omega), size_u8]
    simp only [Result.andThen_ok, sliced, Int.toNat_natCast, Nat.zero_mul, Nat.sub_zero]
    have e : A.map (fun x => x.add 0) = A := by
      cases A with
      | none => rfl
      | some a => simp [Addr.add]
    rw [e]
    simp
  · have := hb.bare h
    omega
theorem run_append_zero (ty : TypeId) (A B : Option Addr) (n c : Nat) (w : World) : (Builtin.append_ #[22, 22] ty #[.slice A n n, .slice B 0 c]).run Tryd.prog w = .ok (.slice A n n) w := by
  obtain ⟨i, hi, hz, h1, h2⟩ := info_parts info_u8
  cases B with
  | none => cases A <;> simp [Builtin.append_, run_underlying Tryd.underlying22, sizeOf, typeInfo, hi, h1, Builtin.lenOf, run_firstCells_none, storeCells, Addr.add]
  | some b =>
    have hf := fun w => run_firstCells_some (P := Tryd.prog) w 1 0 b 0 c [] rfl (fun j v h => by simp at h)
    cases A <;> simp [Builtin.append_, run_underlying Tryd.underlying22, sizeOf, typeInfo, hi, h1, Builtin.lenOf, hf, storeCells, Addr.add]
/-- append(v, s...): v whoever's, without room behind -/
theorem wpList_append_full {w : World} {ops : Array Oper} {rest : List Oper} {o : Oper} {a : Act} {Q : Exit → Act → World → Prop} (hgd : o.guard = none) (s x : Operand)
    (ho : o.op = .call { callee := .builtin .append, args := #[s, x], argTypes := #[22, 22] })
    (A : Option Addr) (n : Nat) (l : List Int) (hs : a.eval s = .slice A n n) (hb : Bts w A n n l) (B : Option Addr) (m c : Nat) (l2 : List Int) (hx : a.eval x = .slice B m c) (hr : Bts w B m c l2)
    (hsmall : n + m ≤ 140737488355328)
    (h : ∀ A' k c' w', k = n + m → Bts w' A' k c' (l ++ l2) → ((A' = A ∧ k = n) ∨ ∀ a, A' = some a → w.heap.size ≤ a.block) → Below w.heap.size w w' → wpList Tryd.prog ops Q rest (a.put o.dst (.slice A' k c')) w') : wpList Tryd.prog ops Q (o :: rest) a w := by
  obtain ⟨i, hi, hz, h1, h2⟩ := info_parts info_u8
  by_cases hm : m = 0
  · subst hm
    obtain rfl : l2 = [] := List.eq_nil_of_length_eq_zero hr.len
    have hrun := run_append_zero o.type A B n c w
    refine wpList_plain hgd fun K hK => ?_
    unfold Oper.wp
    simp [execOp, ho, resolve, invoke, builtin, hs, hx, hrun, Result.andThen]
    exact hK _ _ (h A n n w rfl (by rw [List.append_nil]; exact hb) (.inl ⟨rfl, rfl⟩) (Below.refl _ _))
  · have hl2 : (byv l2).length = m * 1 := by rw [byv_length, hr.len, Nat.mul_one]
    have hl1 : (byv l).length = n * 1 := by rw [byv_length, hb.len, Nat.mul_one]
    obtain ⟨b, off, rfl, hc⟩ := hr.at_ (by omega)
    refine wpList_append_grows (P := Tryd.prog) w hgd s x 22 ho 5 i (.int .u8 0) 1 1 Tryd.underlying22 hi hz h1 h2 rfl (by omega) A n n (byv l) hs (fun e => by have := hb.bare e; omega) hl1 ?_ ⟨b, off, none⟩ m c (byv l2) hx hl2 ?_ (byv_one l2) (by omega) (by unfold maxLen; omega) (by omega) ?_
    · intro ad had j u hu
      have hj : j < l.length := by
        have := (List.getElem?_eq_some_iff.1 hu).1
        rwa [byv_length] at this
      rw [byv_get l j hj] at hu
      obtain ⟨b2, off2, hA, hc2⟩ := hb.at_ (by have := hb.len; omega)
      rw [hA] at had
      injection had with had
      subst had
      rw [add_addr, hc2 j (by have := hb.len; omega), hu]
    · intro j u hu
      have hj : j < l2.length := by
        have := (List.getElem?_eq_some_iff.1 hu).1
        rwa [byv_length] at this
      rw [byv_get l2 j hj] at hu
      rw [add_addr, hc j (by have := hr.len; omega), hu]
    · intro v' w' hown hg
      have ho2 : Own w' w.heap.size v' (l ++ l2) := by
        unfold Own
        rw [byv_append, List.length_append, hr.len, hb.len]
        exact hown
      obtain ⟨A', c', rfl, hb'⟩ := ho2.bts (ok_append hb.ok hr.ok)
      have e : (l ++ l2).length = n + m := by rw [List.length_append, hr.len, hb.len]
      rw [e] at hb'
      rw [show Value.slice A' (l ++ l2).length c' = .slice A' (n + m) c' from by rw [e]]
      exact h A' (n + m) c' w' rfl hb' (.inr fun a ha => by subst ha; exact (ho2.size _ rfl).1) ((Below.refl _ _).grown hg (Nat.le_refl _) (fun k hk => by cases hk))
/-- the bytes lie in none of these blocks -/
def Far (A : Option Addr) (n lo hi : Nat) : Prop := ∀ a, A = some a → 0 < n → a.block < lo ∨ hi ≤ a.block
theorem Bts.far {w : World} {A : Option Addr} {n c : Nat} {l : List Int} (h : Bts w A n c l) (hi : Nat) : Far A n w.heap.size hi := fun a ha hn => by
  obtain ⟨b, off, hA, hc⟩ := h.at_ hn
  rw [ha] at hA
  injection hA with hA
  subst hA
  exact .inl (block_lt_of_cell (hc 0 hn))
theorem Far.part {A : Option Addr} {n k lo hi : Nat} (h : Far A n lo hi) (hk : k ≤ n) : Far A k lo hi := fun a ha hn => h a ha (by omega)
theorem far_full {w : World} {A A' : Option Addr} {n k c hi : Nat} {l : List Int} (hb : Bts w A n c l) (h : (A' = A ∧ k = n) ∨ ∀ a, A' = some a → hi ≤ a.block) : Far A' k w.heap.size hi := fun a ha hn => by
  rcases h with ⟨rfl, rfl⟩ | h
  · exact hb.far hi a ha hn
  · exact .inr (h a ha)
theorem Bts.set {w : World} {A : Option Addr} {n c : Nat} {l : List Int} (h : Bts w A n c l) {lo hi g i : Nat} (hf : Far A n lo hi) (h1 : lo ≤ g) (h2 : g < hi) (v : Value) : Bts (w.setCell ⟨g, i, none⟩ v) A n c l :=
  ⟨h.len, h.le, h.max, h.ok, h.bare, fun hn => by
    obtain ⟨b, off, hA, hc⟩ := h.at_ hn
    refine ⟨b, off, hA, fun j hj => ?_⟩
    have hne : b ≠ g := by have := hf _ hA hn; simp only at this; omega
    rw [World.cell?_setCell_far _ _ _ _ (fun e => hne e.symm)]
    exact hc j hj⟩
theorem Far.two {w : World} {o1 o2 : Obj} {A : Option Addr} {n lo : Nat} (h : Far A n lo ((w.alloc o1).alloc o2).heap.size) : Far A n lo (w.heap.size + 2) := by
  have e : ((w.alloc o1).alloc o2).heap.size = w.heap.size + 2 := by simp
  rw [e] at h
  exact h
/-- three cells, overwritten -/
theorem set3_heap {w : World} {g : Nat} {t : TypeId} {a b c : Value} (x y z : Value) (h : w.heap[g]? = some (.cells #[a, b, c] t (0, 0))) :
    (((w.setCell ⟨g, 0, none⟩ x).setCell ⟨g, 1, none⟩ y).setCell ⟨g, 2, none⟩ z).heap[g]? = some (.cells #[x, y, z] t (0, 0)) :=
  heap_setCell_same _ _ _ _ _ _ (heap_setCell_same _ _ _ _ _ _ (heap_setCell_same _ _ _ _ _ _ h))
theorem set3_below {B : Nat} {w0 w : World} (h : Below B w0 w) {g : Nat} (hg : B ≤ g) (x y z : Value) : Below B w0 (((w.setCell ⟨g, 0, none⟩ x).setCell ⟨g, 1, none⟩ y).setCell ⟨g, 2, none⟩ z) := ((h.setCell hg x).setCell hg y).setCell hg z
theorem Bts.set3 {w : World} {A : Option Addr} {n c : Nat} {l : List Int} (h : Bts w A n c l) {lo hi g : Nat} (hf : Far A n lo hi) (h1 : lo ≤ g) (h2 : g < hi) (x y z : Value) : Bts (((w.setCell ⟨g, 0, none⟩ x).setCell ⟨g, 1, none⟩ y).setCell ⟨g, 2, none⟩ z) A n c l :=
  ((h.set hf h1 h2 x).set hf h1 h2 y).set hf h1 h2 z
end Go.Proofs.YtafmompplcaadaaDoor

/- A region that draws its order, walked by hand: one operation after another, taken first. -/
namespace Go.Proofs.YtafmompplcaadaaDoor
open Go.RowKit

section
variable {P : Program} {l : List Oper} {Q : Exit → Act → World → Prop} {md : Region.Mode} {S : World → Prop} {oi : Oper} {fuel : Nat} {listed : Array Bool} {a : Act} {w : World}
/-- one operation of a region that draws its order, taken first: what it yields hangs on no world -/
theorem take_run (i : Nat) (v : Value) (hi : l[i]? = some oi) (hs : Region.noSelect l.toArray = true) (hf : Region.free md l.toArray listed i = true) (hr : (Region.ready md l.toArray listed).contains i = true)
    (hQ : ∀ c a w, Q (.panic c) (a.put oi.dst v) w → Q (.panic c) a w) (hw : Region.wanted oi (yielded l.toArray a.tmps) = true) (hS : S w) (hrun : ∀ w, (execOp a.eval oi).run P w = .ok (.value v) w)
    (h : wpAnyH P md l.toArray Q S fuel (listed.setIfInBounds i true) (a.put oi.dst v) w) : wpAnyH P md l.toArray Q S (fuel + 1) listed a w :=
  wpAnyH_take (by simpa using hi) hs hf hr hQ (.inl ⟨hw, fun w _ => hrun w⟩) hS h
theorem take_move (i : Nat) (x : Operand) (v : Value) (hi : l[i]? = some oi) (ho : oi.op = .move x) (hv : a.eval x = v) (hs : Region.noSelect l.toArray = true) (hf : Region.free md l.toArray listed i = true) (hr : (Region.ready md l.toArray listed).contains i = true)
    (hQ : ∀ c a w, Q (.panic c) (a.put oi.dst v) w → Q (.panic c) a w) (hw : Region.wanted oi (yielded l.toArray a.tmps) = true) (hS : S w)
    (h : wpAnyH P md l.toArray Q S fuel (listed.setIfInBounds i true) (a.put oi.dst v) w) : wpAnyH P md l.toArray Q S (fuel + 1) listed a w :=
  take_run i v hi hs hf hr hQ hw hS (fun w => by unfold execOp; simp [ho, hv]) h
/-- one that a guard leaves out -/
theorem take_off (i : Nat) (hi : l[i]? = some oi) (hs : Region.noSelect l.toArray = true) (hf : Region.free md l.toArray listed i = true) (hr : (Region.ready md l.toArray listed).contains i = true)
    (hQ : ∀ c a w, Q (.panic c) (a.put oi.dst undef) w → Q (.panic c) a w) (hw : Region.wanted oi (yielded l.toArray a.tmps) = false) (hS : S w)
    (h : wpAnyH P md l.toArray Q S fuel (listed.setIfInBounds i true) (a.put oi.dst undef) w) : wpAnyH P md l.toArray Q S (fuel + 1) listed a w :=
  wpAnyH_take (by simpa using hi) hs hf hr hQ (.inr ⟨hw, rfl⟩) hS h
/-- a load of a long array -/
theorem take_long (i : Nat) (ty : TypeId) (x : Operand) (g : Nat) (cs : List Value) (d : TypeDesc) (hi : l[i]? = some oi) (ho : oi.op = .load ty x) (hx : a.eval x = .pointer (some ⟨g, 0, none⟩)) (hs : Region.noSelect l.toArray = true) (hf : Region.free md l.toArray listed i = true) (hr : (Region.ready md l.toArray listed).contains i = true)
    (hQ : ∀ c a w, Q (.panic c) (a.put oi.dst (.agg cs.toArray)) w → Q (.panic c) a w) (hw : Region.wanted oi (yielded l.toArray a.tmps) = true) (hS : S w) (hat : ∀ w, S w → w.rangeAt g 0 cs)
    (hu : P.underlying ty = some d) (hd : d.isRow = true) (hsz : (P.info? ty).map (·.size) = some cs.length)
    (h : wpAnyH P md l.toArray Q S fuel (listed.setIfInBounds i true) (a.put oi.dst (.agg cs.toArray)) w) : wpAnyH P md l.toArray Q S (fuel + 1) listed a w :=
  wpAnyH_take (by simpa using hi) hs hf hr hQ (yieldsIf_load_mid hw ty x ho g 0 hx cs d hat hu hd hsz) hS h
/-- the only one that may come up -/
theorem one_step (i : Nat) (hr : Region.ready md l.toArray listed = [i]) (hi : l[i]? = some oi)
    (h : ∀ K' : Act → World → Prop, Shut (∀ a w, S w → (S w → wpAnyH P md l.toArray Q S fuel (listed.setIfInBounds i true) a w) → K' a w) → if Region.wanted oi (yielded l.toArray a.tmps) = true then Oper.wp P oi a w K' Q else K' (a.put oi.dst undef) w) :
    wpAnyH P md l.toArray Q S (fuel + 1) listed a w :=
  wpAnyH_ready hr (by simp) (AllReadyH.cons (by simpa using hi) h AllReadyH.nil)
end
section
variable {P : Program} {l : List Oper} {Q : Exit → Act → World → Prop} {md : Region.Mode} {S S' : World → Prop} {oi : Oper} {fuel : Nat} {listed : Array Bool} {a : Act} {w : World}
theorem take_if (i : Nat) (v : Value) (hi : l[i]? = some oi) (hs : Region.noSelect l.toArray = true) (hf : Region.free md l.toArray listed i = true) (hr : (Region.ready md l.toArray listed).contains i = true)
    (hQ : ∀ c a w, Q (.panic c) (a.put oi.dst v) w → Q (.panic c) a w) (hw : Region.wanted oi (yielded l.toArray a.tmps) = true) (hS : S w) (hrun : ∀ w, S w → (execOp a.eval oi).run P w = .ok (.value v) w)
    (h : wpAnyH P md l.toArray Q S fuel (listed.setIfInBounds i true) (a.put oi.dst v) w) : wpAnyH P md l.toArray Q S (fuel + 1) listed a w :=
  wpAnyH_take (by simpa using hi) hs hf hr hQ (.inl ⟨hw, hrun⟩) hS h
theorem wpAnyH_mono {ops : Array Oper} (hSS : ∀ w, S' w → S w) : ∀ (fuel : Nat) {listed : Array Bool} {a : Act} {w : World}, wpAnyH P md ops Q S' fuel listed a w → wpAnyH P md ops Q S fuel listed a w
  | 0, _, _, _, h => h
  | fuel + 1, _, _, _, h => ⟨h.1, fun i hi => wpOp_mono (fun _ _ h' => ⟨hSS _ h'.1, wpAnyH_mono hSS fuel h'.2⟩) (h.2 i hi)⟩
end
section
variable {P : Program} {l : List Oper} {Q : Exit → Act → World → Prop} {md : Region.Mode} {S : World → Prop} {oi oj ok : Oper} {fuel : Nat} {listed : Array Bool} {a : Act} {w : World}
/-- two, or three, that may come up -/
theorem two_steps (i j : Nat) (hr : Region.ready md l.toArray listed = [i, j]) (hi : l[i]? = some oi) (hj : l[j]? = some oj)
    (h1 : ∀ K' : Act → World → Prop, Shut (∀ a w, S w → (S w → wpAnyH P md l.toArray Q S fuel (listed.setIfInBounds i true) a w) → K' a w) → if Region.wanted oi (yielded l.toArray a.tmps) = true then Oper.wp P oi a w K' Q else K' (a.put oi.dst undef) w)
    (h2 : ∀ K' : Act → World → Prop, Shut (∀ a w, S w → (S w → wpAnyH P md l.toArray Q S fuel (listed.setIfInBounds j true) a w) → K' a w) → if Region.wanted oj (yielded l.toArray a.tmps) = true then Oper.wp P oj a w K' Q else K' (a.put oj.dst undef) w) :
    wpAnyH P md l.toArray Q S (fuel + 1) listed a w :=
  wpAnyH_ready hr (by simp) (AllReadyH.cons (by simpa using hi) h1 (AllReadyH.cons (by simpa using hj) h2 AllReadyH.nil))
theorem three_steps (i j k : Nat) (hr : Region.ready md l.toArray listed = [i, j, k]) (hi : l[i]? = some oi) (hj : l[j]? = some oj) (hk : l[k]? = some ok)
    (h1 : ∀ K' : Act → World → Prop, Shut (∀ a w, S w → (S w → wpAnyH P md l.toArray Q S fuel (listed.setIfInBounds i true) a w) → K' a w) → if Region.wanted oi (yielded l.toArray a.tmps) = true then Oper.wp P oi a w K' Q else K' (a.put oi.dst undef) w)
    (h2 : ∀ K' : Act → World → Prop, Shut (∀ a w, S w → (S w → wpAnyH P md l.toArray Q S fuel (listed.setIfInBounds j true) a w) → K' a w) → if Region.wanted oj (yielded l.toArray a.tmps) = true then Oper.wp P oj a w K' Q else K' (a.put oj.dst undef) w)
    (h3 : ∀ K' : Act → World → Prop, Shut (∀ a w, S w → (S w → wpAnyH P md l.toArray Q S fuel (listed.setIfInBounds k true) a w) → K' a w) → if Region.wanted ok (yielded l.toArray a.tmps) = true then Oper.wp P ok a w K' Q else K' (a.put ok.dst undef) w) :
    wpAnyH P md l.toArray Q S (fuel + 1) listed a w :=
  wpAnyH_ready hr (by simp) (AllReadyH.cons (by simpa using hi) h1 (AllReadyH.cons (by simpa using hj) h2 (AllReadyH.cons (by simpa using hk) h3 AllReadyH.nil)))
end
end Go.Proofs.YtafmompplcaadaaDoor
