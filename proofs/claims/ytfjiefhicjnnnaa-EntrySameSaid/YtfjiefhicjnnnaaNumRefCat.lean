/- The walk over the plain answers' Cat of numbers. -/
import Derived.Test.YtfjiefhicjnnnaaNumCat
import Derived.Test.YtfjiefhicjnnnaaNumRef
namespace Go.Proofs.Ytfjiefhicjnnnaa
set_option linter.unusedVariables false
set_option linter.unusedSimpArgs false
open Go.RowKit

theorem rput_yes (N K : Nat) (w : World) (h1 : 1 ≤ K) (h2 : K ≤ 8) (h3 : N < 256 ^ K) :
    Calls Try.prog 35 #[.int .u64 N, .int .i64 K] w fun e w' => e = .returned (.tuple #[.slice (some ⟨w.heap.size, 0, none⟩) K K, .bool true]) ∧ RowB w' w.heap.size 5 (putL N K) ∧ Below w.heap.size w w' :=
  (rput_any N K w h1 h2 (Nat.lt_of_lt_of_le h3 (Nat.pow_le_pow_right (by omega) h2))).mono fun e w' ⟨he, hX, hB⟩ => ⟨by rw [he, putV, if_pos h3], hX, hB⟩
theorem rput_no (n k : Int) (w : World) (h0 : 0 ≤ n) (h1 : n < 18446744073709551616) (h : fitB n k = false) :
    Calls Try.prog 35 #[.int .u64 n, .int .i64 k] w fun e w' => e = .returned (.tuple #[.slice none 0 0, .bool false]) ∧ Below w.heap.size w w' := by
  by_cases hk : k < 1 ∨ 8 < k
  · exact rput_out n k w hk
  · obtain ⟨N, rfl⟩ := Int.eq_ofNat_of_zero_le h0
    obtain ⟨K, rfl⟩ := Int.eq_ofNat_of_zero_le (show 0 ≤ k by omega)
    have h3 : ¬ N < 256 ^ K := fun h2 => by
      rw [fit_of N K (by omega) (by omega) h2] at h
      exact Bool.noConfusion h
    exact (rput_any N K w (by omega) (by omega) (by omega)).mono fun e w' ⟨he, _, hB⟩ => ⟨by rw [he, putV, if_neg h3], hB⟩

theorem rcat_long (A : Option Addr) (n c : Nat) (l : List (Int × Int)) (w : World) (hl : Nms w A n c l) (h : 40 < n) :
    Calls Try.prog 25 #[.slice A n c] w fun e w' => CatPost l w e w' := by
  have hn := hl.rws.small
  have h1 : (40 : Int) < n := by omega
  have h2 : catB l = false := by rw [catB, hl.len, decide_eq_false (by omega), Bool.false_and]
  have H2 := Lib.hid h2
  clear h2
  go_enter Try.func25, Try.ntmps25
  go_wp2
  go_ret2
  exact catPost_no H2.out (Below.refl _ _)
set_option maxHeartbeats 2000000 in
theorem rcat_short (A : Option Addr) (n c : Nat) (l : List (Int × Int)) (w : World) (hl : Nms w A n c l) (h : n ≤ 40) :
    Calls Try.prog 25 #[.slice A n c] w fun e w' => CatPost l w e w' := by
  have h1 : (n : Int) ≤ 40 := by omega
  have hll : l.length = n := hl.len
  have HLL := Lib.hid hll
  clear hll
  go_enter Try.func25, Try.ntmps25
  go_wp2
  go_loopw [4, 5] (fun v i wr => ∃ k : Nat, k ≤ n ∧ i = .int .i64 k ∧ fitsB (l.take k) = true ∧ Own wr w.heap.size v (catL (toN (l.take k))) ∧ Below w.heap.size w wr) (fun _ i _ => n - (intOf i).toNat)
  case atStart => exact ⟨0, Nat.zero_le _, rfl, rfl, Own.nil _ _, Below.refl _ _⟩
  case round =>
    obtain ⟨k, hk, rfl, hfit, hown, hB⟩ := hrel
    have HF := Lib.hid hfit
    clear hfit
    by_cases hlt : k < n
    · obtain ⟨b, off, rfl, hcs⟩ := (hl.below hB).cells (by omega)
      obtain ⟨hc0, hc1⟩ := hcs k hlt
      obtain ⟨p, hp⟩ : ∃ p, p = l.getD k (0, 0) := ⟨_, rfl⟩
      rw [← hp] at hc0 hc1
      obtain ⟨x, y⟩ := p
      simp only at hc0 hc1
      have hb4 := hl.at_ k hlt
      rw [← hp] at hb4
      simp only at hb4
      have HB4 := Lib.hid hb4
      have HP := Lib.hid hp
      clear hp hb4 hcs
      have hlk : k < l.length := by rw [HLL.out]; exact hlt
      have hlk0 : (0 : Int) ≤ k := by omega
      have hlk1 : (k : Int) < n := by omega
      have hd0 : wr.drew.cell? ⟨b, off + k * 2, none⟩ = some (.int .u64 x) := hc0
      have hd1 : wr.drew.cell? ⟨b, off + k * 2 + 1, none⟩ = some (.int .i64 y) := hc1
      cases hf : fitB x y with
      | false =>
        have HNF := Lib.hid hf
        have hcb : catB l = false := by
          have h3 := fitsB_snoc l k hlk
          rw [← HP.out, HNF.out, Bool.and_false] at h3
          rw [catB, fitsB_part l (k + 1) h3, Bool.and_false]
        have HCB := Lib.hid hcb
        clear hf hcb
        go_wp2
        go_region_held3 (fun w' => w'.cell? ⟨b, off + k * 2, none⟩ = some (.int .u64 x) ∧ w'.cell? ⟨b, off + k * 2 + 1, none⟩ = some (.int .i64 y)) (first | with_reducible exact ⟨hd0, hd1⟩ | with_reducible exact ⟨k0, k1⟩)
          ((go_at_call 35; (with_reducible refine (rput_no x y _ HB4.out.1 HB4.out.2.1 HNF.out).mono ?_); rintro e w2 ⟨rfl, hb2⟩
            have hS2 := below_draw hb2
            have k0 := (hS2.cell (p := ⟨b, off + k * 2, none⟩) (block_lt_of_cell hc0)).trans hc0
            have k1 := (hS2.cell (p := ⟨b, off + k * 2 + 1, none⟩) (block_lt_of_cell hc1)).trans hc1
            clear hb2))
        clear k0 k1 hd0 hd1 hc0 hc1
        go_wp2
        go_ret2
        exact catPost_no HCB.out (then_below hB hS2)
      | true =>
        obtain ⟨N, K, rfl, rfl, h2, h3, h4⟩ := fit_nat HB4.out.1 hf
        obtain ⟨Z, hZ⟩ : ∃ Z, putL N K = Z := ⟨_, rfl⟩
        have hZl : Z.length = K := by rw [← hZ]; exact putL_length N K
        have hZo : ∀ j, 0 ≤ Z.getD j 0 ∧ Z.getD j 0 < 256 := by rw [← hZ]; exact ok_map _ (fun i => putAt_ok N K i) K
        have hnext : catL (toN (l.take (k + 1))) = catL (toN (l.take k)) ++ Z := by
          rw [catL_snoc l k hlk, ← HP.out, ← hZ]
          rfl
        have hfit2 : fitsB (l.take (k + 1)) = true := by
          rw [fitsB_snoc l k hlk, HF.out, ← HP.out, hf]
          rfl
        obtain ⟨L, hL⟩ : ∃ L, L = catL (toN (l.take k)) := ⟨_, rfl⟩
        have hLs : L.length ≤ 320 := by
          have := catL_small (l.take k) HF.out
          rw [List.length_take] at this
          rw [hL]
          omega
        rw [← hL] at hown hnext
        have HZ := Lib.hid hZ
        have HZL := Lib.hid hZl
        have HZO := Lib.hid hZo
        have H4 := Lib.hid h4
        have HNX := Lib.hid hnext
        have HF2 := Lib.hid hfit2
        clear hZ hZl hZo h4 hnext hfit2 hL hf hlk
        go_wp2
        go_region_held3 (fun w' => w'.cell? ⟨b, off + k * 2, none⟩ = some (.int .u64 N) ∧ w'.cell? ⟨b, off + k * 2 + 1, none⟩ = some (.int .i64 K)) (first | with_reducible exact ⟨hd0, hd1⟩ | with_reducible exact ⟨k0, k1⟩)
          ((go_at_call 35; (with_reducible refine (rput_yes N K _ h2 h3 H4.out).mono ?_); rintro e w2 ⟨rfl, hX2, hb2⟩
            have hS2 := below_draw hb2
            have hX2 : RowB w2 wr.heap.size 5 (putL N K) := hX2
            have k0 := (hS2.cell (p := ⟨b, off + k * 2, none⟩) (block_lt_of_cell hc0)).trans hc0
            have k1 := (hS2.cell (p := ⟨b, off + k * 2 + 1, none⟩) (block_lt_of_cell hc1)).trans hc1
            clear hb2))
        clear k0 k1 hd0 hd1 hc0 hc1
        rw [HZ.out] at hX2
        have hB2 := then_below hB hS2
        have hown2 := hown.below hS2
        go_wp2_with (first
          | (at_builtin
             refine wpList_append_b rfl _ _ rfl w.heap.size u4 L rfl hown2 _ K K Z rfl (hX2.bts HZL.out (by unfold maxLen; omega) HZO.out) (by omega) hB2.size ?_
             intro v5 w5 hown5 hg5
             have hB5 : Below w.heap.size w w5 := hB2.grown hg5 hB2.size (fun k hk => (hown2.size k hk).1)
             rw [← HNX.out] at hown5
             clear hg5))
        go_roundw
        case rel => exact ⟨k + 1, by omega, by go_num, HF2.out, hown5, hB5⟩
        case measure => simp [intOf]; omega
    · have hkn : k = n := by omega
      have htk : l.take k = l := by rw [hkn, ← HLL.out, List.take_length]
      rw [htk] at hown
      have hcb : catB l = true := by
        have h3 := HF.out
        rw [htk] at h3
        rw [catB, h3, HLL.out, decide_eq_true h]
        rfl
      have HCB := Lib.hid hcb
      have HO := Lib.hid hown
      clear hcb hown htk hkn
      go_wp2
      go_ret2
      exact catPost_yes HCB.out HO.out hB
theorem rcat_any (A : Option Addr) (n c : Nat) (l : List (Int × Int)) (w : World) (hl : Nms w A n c l) :
    Calls Try.prog 25 #[.slice A n c] w fun e w' => CatPost l w e w' := by
  by_cases h : 40 < n
  · exact rcat_long A n c l w hl h
  · exact rcat_short A n c l w hl (by omega)
end Go.Proofs.Ytfjiefhicjnnnaa
