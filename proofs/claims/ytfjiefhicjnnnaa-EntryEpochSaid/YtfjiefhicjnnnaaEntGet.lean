/- The walk over package entry's Get. -/
import Derived.Test.YtfjiefhicjnnnaaEntPut
namespace Go.Proofs.Ytfjiefhicjnnnaa
set_option linter.unusedVariables false
set_option linter.unusedSimpArgs false
open Go.RowKit

theorem build_zero_e (w : World) : (Instr.build 25 #[]).run Try.prog w = .ok (.agg (enA En.zero)) w :=
  run_build w _ _ _ (built_of (z := .agg (enA En.zero)) (places := [(0, 1), (1, 1), (2, 1), (3, 1), (4, 1), (5, 1), (6, 1), (7, 1), (8, 1)]) Try.underlying25 (by kernel_rfl) (by kernel_rfl) rfl)
theorem run_all9 (a : Addr) (w : World) : (Instr.sliceAt 43 (.pointer (some a)) none none none).run Try.prog w = .ok (.slice (some a) 9 9) w := by
  have hs : (sizeOf 3).run Try.prog w = .ok 1 w := rfl
  simp [Instr.sliceAt, Instr.sureAddr, Instr.sliceBounds, run_underlying Try.underlying43, hs, Addr.add]
theorem run_arr9 (A : Option Addr) (c : Nat) (w : World) : (Instr.arrayAt 46 (.slice A 9 c)).run Try.prog w = .ok (.pointer A) w := by
  simp [Instr.arrayAt, run_underlying Try.underlying46]
theorem its_sizes {w : World} {g : Nat} (h : RowZ w g) : Its .i64 w (some ⟨g, 0, none⟩) 9 9 szI :=
  ⟨rfl, Nat.le_refl _, by unfold maxLen; omega, (fun e => by cases e), fun _ => ⟨g, 0, rfl, fun j hj => by rw [Nat.zero_add]; exact h.at_ j hj⟩⟩
theorem cut_not {n : Nat} (h : n ≠ 30) : cutB szI n = false := by
  have e : szI.sum = 30 := rfl
  rw [cutB, e, Bool.and_eq_false_iff]
  right
  rw [decide_eq_false_iff_not]
  omega
theorem got_short {b : List Int} (h : b.length ≠ 30) : gotB b = false := by rw [gotB, decide_eq_false h, Bool.false_and]
theorem get_not {b : List Int} (h : gotB b = false) : getE b = En.zero := by rw [getE, h]; rfl
set_option maxRecDepth 100000 in
set_option maxHeartbeats 2000000 in
theorem eget_short (A : Option Addr) (n c : Nat) (b : List Int) (w : World) (hb : Bts w A n c b) (h : n ≠ 30) :
    Calls Try.prog 12 #[.slice A n c] w (GE En.zero false w) := by
  have HCUT := Lib.hid (show ∀ (W : World) (g : Nat), Below w.heap.size w W → RowZ W g → Calls Try.prog 26 #[.slice A n c, .slice (some ⟨g, 0, none⟩) 9 9] W _ from fun W g hW hg => cut_no A _ n c 9 9 b szI W (hb.below hW) (its_sizes hg) (cut_not h))
  have HSZ := Lib.hid sizes_any
  have hal := run_all9
  have hz : enV En.zero = .agg (enA En.zero) := rfl
  unfold GE
  rw [hz]
  clear hb h hz
  go_enter Try.func12, Try.ntmps12
  go_wp2_with (first
    | (go_at_call 22; refine (HSZ.out _).mono ?_; rintro e w1 ⟨rfl, hb1⟩
       unfold szV
       have hE1 := after_alloc hb1
       have hB1 := (after_one hb1).1
       clear hb1)
    | (go_at_call 26; refine (HCUT.out _ _ (hB1.alloc hB1.size _) ⟨heap_alloc_new _ _⟩).mono ?_; rintro e w2 ⟨rfl, rfl⟩
       have hE2 := in_alloc hE1 (.cells szC 43)
       have hB2 := hB1.alloc hB1.size (.cells szC 43)
       unfold szC at hE2 hB2)
    | ((with_reducible refine wpList_store_blk rfl 25 _ _ rfl w.heap.size (enA En.zero) ?hx2 ?hy2 25 _ hE2 (info_en rfl) ?hs2 (enA_one _) ?_); (case hx2 => rfl); (case hy2 => rfl); (case hs2 => rfl)
       intro w6 hg6 hX6 hs6
       clear hE2))
  refine bodyPost_ret (v := .tuple #[.agg (enA En.zero), .bool false]) ?_ rfl ⟨rfl, ?_⟩
  · exact results_blk_tmp Try.results12 _ _ _ w.heap.size 25 _ (0, 0) _ rfl hX6 Try.underlying25 rfl (info_en rfl) _ rfl
  · exact hB2.grown hg6 hB2.size (fun k e => by cases e; exact Nat.le_refl _)
theorem cut_range {b : List Int} {w : World} {A : Option Addr} {m c : Nat} (h : Its .u64 w A m c (ints (cutL szN b))) : ∃ B off, A = some ⟨B, off, none⟩ ∧ m = 9 ∧ w.rangeAt B off ((ints (cutL szN b)).map (Value.int .u64)) := by
  have hl : m = 9 := by rw [← h.len, ints_length, cutL_length]; rfl
  obtain ⟨B, off, hA, hc⟩ := h.at_ (by omega)
  refine ⟨B, off, hA, hl, fun j v hv => ?_⟩
  rw [List.getElem?_map] at hv
  cases he : (ints (cutL szN b))[j]? with
  | none => rw [he] at hv; cases hv
  | some x =>
    rw [he] at hv
    have hj := (List.getElem?_eq_some_iff.1 he).1
    rw [h.len] at hj
    rw [hc j hj, List.getD_eq_getElem?_getD, he]
    exact hv
theorem cut_small {b : List Int} (hb : ∀ x ∈ b, 0 ≤ x ∧ x < 256) (h : b.length = 30) {a0 a1 a2 a3 a4 a5 a6 a7 a8 : Nat} (hc : cutL szN b = [a0, a1, a2, a3, a4, a5, a6, a7, a8]) :
    a0 < 9223372036854775808 ∧ a1 < 9223372036854775808 ∧ a2 < 9223372036854775808 ∧ a3 < 9223372036854775808 ∧ a4 < 18446744073709551616 ∧ a5 < 18446744073709551616 ∧ a6 < 9223372036854775808 ∧ a7 < 9223372036854775808 ∧ a8 < 9223372036854775808 := by
  have h1 := fits_cut szN b hb (by rw [h]; rfl)
  rw [hc] at h1
  have k0 := h1 (a0, 1) (by simp [szN])
  have k1 := h1 (a1, 4) (by simp [szN])
  have k2 := h1 (a2, 4) (by simp [szN])
  have k3 := h1 (a3, 1) (by simp [szN])
  have k4 := h1 (a4, 8) (by simp [szN])
  have k5 := h1 (a5, 8) (by simp [szN])
  have k6 := h1 (a6, 1) (by simp [szN])
  have k7 := h1 (a7, 2) (by simp [szN])
  have k8 := h1 (a8, 1) (by simp [szN])
  simp only [Nat.reducePow] at k0 k1 k2 k3 k4 k5 k6 k7 k8
  omega
theorem bytes_mem {b : List Int} (h : ∀ j, 0 ≤ b.getD j 0 ∧ b.getD j 0 < 256) : ∀ x ∈ b, 0 ≤ x ∧ x < 256 := by
  intro x hx
  obtain ⟨j, hj, rfl⟩ := List.getElem_of_mem hx
  have := h j
  simpa [List.getD_eq_getElem?_getD, hj] using this
set_option maxRecDepth 100000 in
set_option maxHeartbeats 4000000 in
theorem eget_long (A : Option Addr) (c : Nat) (b : List Int) (w : World) (hb : Bts w A 30 c b) :
    Calls Try.prog 12 #[.slice A 30 c] w (GE (if mayE (seemsE b) then seemsE b else En.zero) (mayE (seemsE b)) w) := by
  have hbm := bytes_mem hb.ok
  obtain ⟨a0, a1, a2, a3, a4, a5, a6, a7, a8, hc⟩ := cut_nine b
  obtain ⟨k0, k1, k2, k3, k4, k5, k6, k7, k8⟩ := cut_small hbm hb.len hc
  have hse : seemsE b = enOf [a0, a1, a2, a3, a4, a5, a6, a7, a8] := by rw [seemsE, hc]
  have HCUT := Lib.hid (show ∀ (W : World) (g : Nat), Below w.heap.size w W → RowZ W g → Calls Try.prog 26 #[.slice A 30 c, .slice (some ⟨g, 0, none⟩) 9 9] W (fun e w' => ∃ B off c2, e = .returned (.tuple #[.slice (some ⟨B, off, none⟩) 9 c2, .bool true]) ∧ w'.rangeAt B off [.int .u64 a0, .int .u64 a1, .int .u64 a2, .int .u64 a3, .int .u64 a4, .int .u64 a5, .int .u64 a6, .int .u64 a7, .int .u64 a8] ∧ Below W.heap.size W w') from fun W g hW hg => by
    refine (cut_yes A _ 30 c 9 9 b szN W (hb.below hW) (its_sizes hg) (by intro k hk; simp [szN] at hk; omega) (by decide) rfl).mono ?_
    rintro e w' ⟨v, rfl, hv, hB⟩
    obtain ⟨A2, m, c2, rfl, hi⟩ := hv.its
    obtain ⟨B, off, rfl, rfl, hr⟩ := cut_range hi
    rw [hc] at hr
    exact ⟨B, off, c2, rfl, hr, hB⟩)
  have HOF := Lib.hid (show ∀ W : World, Calls Try.prog 27 #[.agg #[.int .u64 a0, .int .u64 a1, .int .u64 a2, .int .u64 a3, .int .u64 a4, .int .u64 a5, .int .u64 a6, .int .u64 a7, .int .u64 a8]] W _ from fun W => entry_of a0 a1 a2 a3 a4 a5 a6 a7 a8 W k0 k1 k2 k3 k6 k7 k8 k4 k5)
  rw [← hse] at HOF
  have HMC := Lib.hid (fun w => may_any (seemsE b) w)
  have HSZ := Lib.hid sizes_any
  have hal := run_all9
  have har := run_arr9
  obtain ⟨u, hu⟩ : ∃ u, seemsE b = u := ⟨_, rfl⟩
  rw [hu] at HOF HMC ⊢
  obtain ⟨M, hM⟩ : ∃ M, mayE u = M := ⟨_, rfl⟩
  rw [hM] at HMC ⊢
  unfold GE enV
  unfold enV at HOF HMC
  obtain ⟨X, hX⟩ : ∃ X, X = enA u := ⟨_, rfl⟩
  have hXs : X.size = 9 := by rw [hX]; rfl
  have hX1 : X.all (·.oneCell') = true := by rw [hX]; exact enA_one _
  have hout : enA (if M = true then u else En.zero) = if M then X else enA En.zero := by cases M <;> simp [hX]
  rw [← hX] at HOF HMC
  rw [hout]
  have HS := Lib.hid hXs
  have H1 := Lib.hid hX1
  clear hb hbm hc k0 k1 k2 k3 k4 k5 k6 k7 k8 hse hu hM hX hXs hX1 hout
  cases M
  all_goals
    simp only [if_true, Bool.false_eq_true, if_false]
    go_enter Try.func12, Try.ntmps12
    go_wp2_with (first
      | (go_at_call 22; refine (HSZ.out _).mono ?_; rintro e w1 ⟨rfl, hb1⟩
         unfold szV
         have hE1 := after_alloc hb1
         have hB1 := (after_one hb1).1
         clear hb1)
      | (go_at_call 26; refine (HCUT.out _ _ (hB1.alloc hB1.size _) ⟨heap_alloc_new _ _⟩).mono ?_; rintro e w2 ⟨B, off, c2, rfl, hr2, hb2⟩
         have hE2 := (hb2.block _ (Nat.lt_succ_of_lt (Array.getElem?_eq_some_iff.1 hE1).1 |> (by simpa using ·))).trans (in_alloc hE1 _)
         have hB2 := hB1.trans ((after_one hb2).1.mono hB1.size)
         clear hb2 hE1 hB1)
      | ((with_reducible refine wpList_load_on 46 _ rfl B off ?hx3 [.int .u64 a0, .int .u64 a1, .int .u64 a2, .int .u64 a3, .int .u64 a4, .int .u64 a5, .int .u64 a6, .int .u64 a7, .int .u64 a8] #[.int .u64 a0, .int .u64 a1, .int .u64 a2, .int .u64 a3, .int .u64 a4, .int .u64 a5, .int .u64 a6, .int .u64 a7, .int .u64 a8] ?ht3 _ hr2 Try.underlying46 ?hd3 ?hi3 ?_ ?hw3); (case hx3 => rfl); (case ht3 => rfl); (case hd3 => rfl); (case hi3 => kernel_rfl); (case hw3 => rfl))
      | (go_at_call 27; refine (HOF.out _).mono ?_; rintro e w3 ⟨rfl, hb3⟩
         have hE3 := (hb3.block _ (Array.getElem?_eq_some_iff.1 hE2).1).trans hE2
         have hB3 := hB2.trans (hb3.mono hB2.size)
         clear hb3 hE2 hB2 hr2)
      | ((with_reducible refine wpList_store_blk rfl 25 _ _ rfl w3.heap.size X ?hx4 ?hy4 25 _ (heap_alloc_new w3 _) (info_en HS.out) ?hs4 H1.out ?_); (case hx4 => rfl); (case hy4 => rfl); (case hs4 => rw [HS.out]; rfl)
         intro w4 hg4 hX4 hs4
         have hE4 := (hg4.block w.heap.size (by have := (Array.getElem?_eq_some_iff.1 hE3).1; simp; omega) (fun e => by injection e with e; have := (Array.getElem?_eq_some_iff.1 hE3).1; omega)).trans (in_alloc hE3 _)
         have hB4 := (hB3.alloc hB3.size _).grown hg4 (by have := hB3.size; simp; omega) (fun k e => by cases e; exact hB3.size)
         clear hg4 hE3 hB3 hs4)
      | ((with_reducible refine wpList_load_blk 25 _ rfl w3.heap.size ?hx5 25 X (0, 0) _ hX4 Try.underlying25 ?hd5 (info_en HS.out) ?_ ?hw5); (case hx5 => rfl); (case hd5 => rfl); (case hw5 => rfl))
      | (go_at_call 18; refine (HMC.out _).mono ?_; rintro e w5 ⟨rfl, hb5⟩
         have hX5 := (hb5.block _ (Array.getElem?_eq_some_iff.1 hX4).1).trans hX4
         have hE5 := (hb5.block _ (Array.getElem?_eq_some_iff.1 hE4).1).trans hE4
         have hB5 := hB4.trans (hb5.mono hB4.size)
         clear hb5 hX4 hE4 hB4)
      | ((with_reducible refine wpList_load_blk 25 _ rfl w3.heap.size ?hx6 25 X (0, 0) _ hX5 Try.underlying25 ?hd6 (info_en HS.out) ?_ ?hw6); (case hx6 => rfl); (case hd6 => rfl); (case hw6 => rfl))
      | ((with_reducible refine wpList_store_blk rfl 25 _ _ rfl w.heap.size X ?hx7 ?hy7 25 _ hE5 (info_en HS.out) ?hs7 H1.out ?_); (case hx7 => rfl); (case hy7 => rfl); (case hs7 => rw [HS.out]; rfl)
         intro w6 hg6 hX6 hs6
         clear hE5)
      | ((with_reducible refine wpList_store_blk rfl 25 _ _ rfl w.heap.size (enA En.zero) ?hx8 ?hy8 25 _ hE5 (info_en rfl) ?hs8 (enA_one _) ?_); (case hx8 => rfl); (case hy8 => rfl); (case hs8 => rfl)
         intro w6 hg6 hX6 hs6
         clear hE5))
  all_goals
    first
    | (refine bodyPost_ret (v := .tuple #[.agg (enA En.zero), .bool false]) ?_ rfl ⟨rfl, ?_⟩
       · exact results_blk_tmp Try.results12 _ _ _ w.heap.size 25 _ (0, 0) _ rfl hX6 Try.underlying25 rfl (info_en rfl) _ rfl
       · exact hB5.grown hg6 hB5.size (fun k e => by cases e; exact Nat.le_refl _))
    | (refine bodyPost_ret (v := .tuple #[.agg X, .bool true]) ?_ rfl ⟨rfl, ?_⟩
       · exact results_blk_tmp Try.results12 _ _ _ w.heap.size 25 _ (0, 0) _ rfl hX6 Try.underlying25 rfl (info_en HS.out) _ rfl
       · exact hB5.grown hg6 hB5.size (fun k e => by cases e; exact Nat.le_refl _))
theorem eget_any (A : Option Addr) (n c : Nat) (b : List Int) (w : World) (hb : Bts w A n c b) :
    Calls Try.prog 12 #[.slice A n c] w (GE (getE b) (gotB b) w) := by
  by_cases h : n = 30
  · subst h
    have := eget_long A c b w hb
    rw [getE, gotB, hb.len, decide_eq_true rfl, Bool.true_and]
    exact this
  · have h2 : gotB b = false := got_short (by rw [hb.len]; exact h)
    rw [get_not h2, h2]
    exact eget_short A n c b w hb h
end Go.Proofs.Ytfjiefhicjnnnaa
