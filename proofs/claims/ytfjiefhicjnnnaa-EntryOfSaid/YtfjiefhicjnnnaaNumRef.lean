/- The walks over the plain answers' Put and Get of numbers. -/
import Derived.Test.YtfjiefhicjnnnaaNumGet
namespace Go.Proofs.Ytfjiefhicjnnnaa
set_option linter.unusedVariables false
set_option linter.unusedSimpArgs false
open Go.RowKit

theorem rput_out (n k : Int) (w : World) (h : k < 1 ∨ 8 < k) :
    Calls Try.prog 35 #[.int .u64 n, .int .i64 k] w fun e w' => e = .returned (.tuple #[.slice none 0 0, .bool false]) ∧ Below w.heap.size w w' := by
  by_cases h1 : k < 1
  · clear h
    go_enter Try.func35, Try.ntmps35
    go_wp2
    go_ret2
    exact ⟨rfl, Below.refl _ _⟩
  · have h2 : 1 ≤ k := by omega
    have h3 : 8 < k := by omega
    clear h h1
    go_enter Try.func35, Try.ntmps35
    go_wp2
    go_ret2
    exact ⟨rfl, Below.refl _ _⟩
def putV (N K g : Nat) : Value := if N < 256 ^ K then .tuple #[.slice (some ⟨g, 0, none⟩) K K, .bool true] else .tuple #[.slice none 0 0, .bool false]
theorem putV_yes {N K g : Nat} (h : N < 256 ^ K) : Ending.returned (.tuple #[.slice (some ⟨g, 0, none⟩) K K, .bool true]) = Ending.returned (putV N K g) := by rw [putV, if_pos h]
theorem putV_no {N K g : Nat} (h : ¬ N < 256 ^ K) : Ending.returned (.tuple #[.slice none 0 0, .bool false]) = Ending.returned (putV N K g) := by rw [putV, if_neg h]
set_option maxHeartbeats 1000000 in
theorem rput_any (N K : Nat) (w : World) (h1 : 1 ≤ K) (h2 : K ≤ 8) (h3 : N < 256 ^ 8) :
    Calls Try.prog 35 #[.int .u64 N, .int .i64 K] w fun e w' => e = .returned (putV N K w.heap.size) ∧ RowB w' w.heap.size 5 (putL N K) ∧ Below w.heap.size w w' := by
  have HN := Lib.hid h3
  clear h3
  go_enter Try.func35, Try.ntmps35
  go_wp2_with (at_make
               refine wpList_make_n rfl _ _ rfl K K K rfl rfl rfl rfl (by omega) ?_
               intro w1 hX1 hg1 hs1
               have hB1 : Below w.heap.size w w1 := (Below.refl _ _).grown hg1 (Nat.le_refl _) (fun k hk => by cases hk))
  go_loopw [0, 7] (fun n i wr => ∃ M x : Nat, M ≤ K ∧ n = .int .u64 x ∧ x = N / 256 ^ (K - M) ∧ i = .int .i64 ((M : Int) - 1) ∧ RowB wr w.heap.size 5 (fillBack N K (K - M)) ∧ Below w.heap.size w wr) (fun _ i _ => (intOf i + 1).toNat)
  case atStart => exact ⟨K, N, Nat.le_refl _, rfl, by simp, rfl, by rw [Nat.sub_self]; exact hX1, hB1⟩
  case round =>
    clear hX1 hg1 hs1 hB1
    obtain ⟨M, x, hM, rfl, hx, rfl, hX, hB⟩ := hrel
    have hxb : x < 256 ^ 8 := by rw [hx]; exact Nat.lt_of_le_of_lt (Nat.div_le_self _ _) HN.out
    have HX := Lib.hid hx
    clear hx
    rcases M with _ | m
    · rw [Nat.sub_zero, fillBack_all] at hX
      have hx0 : (x = 0) ↔ N < 256 ^ K := by
        rw [HX.out, Nat.sub_zero, Nat.div_eq_zero_iff]
        have := Nat.pow_pos (n := K) (show 0 < 256 by omega)
        omega
      by_cases hz : x = 0
      · have hlt := hx0.1 hz
        have hne : ((x : Int) != 0) = false := by subst hz; rfl
        have HLT := Lib.hid hlt
        clear hx0 hz hlt
        go_wp2
        go_ret2
        exact ⟨putV_yes HLT.out, hX, hB⟩
      · have hlt : ¬ N < 256 ^ K := fun h => hz (hx0.2 h)
        have hne : ((x : Int) != 0) = true := by rw [bne_iff_ne]; omega
        have HLT := Lib.hid hlt
        clear hx0 hz hlt
        go_wp2
        go_ret2
        exact ⟨putV_no HLT.out, hX, hB⟩
    · have e : (((m + 1 : Nat) : Int) - 1) = m := by omega
      rw [e]
      have hl : (fillBack N K (K - (m + 1))).length = K := fillBack_length _ _ _
      have hcell := hX.cell m (by omega)
      have hfr := hX.free m
      have hnext : fillBack N K (K - m) = (fillBack N K (K - (m + 1))).set m ((x : Int) % 256) := by
        rw [show K - m = (K - (m + 1)) + 1 by omega, fillBack, HX.out, show K - 1 - (K - (m + 1)) = m by omega]
        rfl
      have hx2 : x / 256 = N / 256 ^ (K - m) := by
        rw [HX.out, show K - m = (K - (m + 1)) + 1 by omega, Nat.div_div_eq_div_mul, Nat.pow_succ]
      have HP := Lib.hid (hX.put m ((x : Int) % 256))
      have HNX := Lib.hid hnext
      have HX2 := Lib.hid hx2
      have HBB := Lib.hid hB
      obtain ⟨c, hc⟩ : ∃ c, c = (fillBack N K (K - (m + 1))).getD m 0 := ⟨_, rfl⟩
      rw [← hc] at hcell
      clear hc e hl hnext hx2 hX hB
      go_wp2
      go_roundw
      case rel =>
        exact ⟨m, x / 256, by omega, by go_num, HX2.out, rfl, by rw [HNX.out]; exact HP.out, HBB.out.setCell (p := ⟨_, m, none⟩) (Nat.le_refl _) _⟩
      case measure => simp [intOf]

set_option maxHeartbeats 1000000 in
theorem rget_no (A : Option Addr) (n c : Nat) (l : List Int) (at_ k : Int) (w : World) (hb : Bts w A n c l) (ha0 : -9223372036854775808 ≤ at_) (ha1 : at_ ≤ 9223372036854775807) (h : mayGet n at_ k = false) :
    Calls Try.prog 38 #[.slice A n c, .int .i64 at_, .int .i64 k] w fun e w' => e = .returned (.tuple #[.int .u64 0, .int .i64 (-1)]) ∧ w = w' := by
  have hn := hb.small
  have h' : ¬ (1 ≤ k ∧ k ≤ 8 ∧ 0 ≤ at_ ∧ at_ + k ≤ n) := by
    unfold mayGet at h; simpa using h
  clear h
  by_cases h1 : k < 1
  · clear h'
    go_enter Try.func38, Try.ntmps38
    go_wp2
    go_ret2
    exact ⟨rfl, rfl⟩
  · by_cases h2 : 8 < k
    · have h1' : 1 ≤ k := by omega
      clear h' h1
      go_enter Try.func38, Try.ntmps38
      go_wp2
      go_ret2
      exact ⟨rfl, rfl⟩
    · have h1' : 1 ≤ k := by omega
      have h2' : k ≤ 8 := by omega
      by_cases h3 : at_ < 0
      · clear h' h1 h2
        go_enter Try.func38, Try.ntmps38
        go_wp2
        go_ret2
        exact ⟨rfl, rfl⟩
      · have h3' : 0 ≤ at_ := by omega
        by_cases h4 : (n : Int) < at_
        · clear h' h1 h2 h3
          go_enter Try.func38, Try.ntmps38
          go_wp2
          go_ret2
          exact ⟨rfl, rfl⟩
        · have h4' : at_ ≤ (n : Int) := by omega
          have h5 : n - at_ < k := by omega
          clear h' h1 h2 h3 h4
          go_enter Try.func38, Try.ntmps38
          go_wp2
          go_ret2
          exact ⟨rfl, rfl⟩

theorem mulStep (y : Nat) (z : Int) (hy : y < 256 ^ 7) (h0 : 0 ≤ z) (h1 : z < 256) : IntKind.u64.wrap (IntKind.u64.wrap (256 * (y : Int)) + z) = ((256 * y + z.toNat : Nat) : Int) := by
  rw [IntKind.wrap_u64, IntKind.wrap_u64]
  omega
set_option maxHeartbeats 1000000 in
theorem rget_yes (A : Option Addr) (n c : Nat) (l : List Int) (at_ k : Nat) (w : World) (hb : Bts w A n c l) (h1 : 1 ≤ k) (h2 : k ≤ 8) (h3 : at_ + k ≤ n) :
    Calls Try.prog 38 #[.slice A n c, .int .i64 at_, .int .i64 k] w fun e w' => e = .returned (.tuple #[.int .u64 (numL ((l.drop at_).take k)), .int .i64 ((at_ + k : Nat) : Int)]) ∧ w = w' := by
  have hn := hb.small
  obtain ⟨b, off, rfl, hc⟩ := hb.at_ (by omega)
  have h4 : (at_ : Int) + k ≤ n := by omega
  have HC := Lib.hid hc
  have HO := Lib.hid hb.ok
  have HL := Lib.hid hb.len
  clear hc hb
  go_enter Try.func38, Try.ntmps38
  go_wp2
  go_loop [8, 9] (fun v i => ∃ j y : Nat, j ≤ k ∧ v = .int .u64 y ∧ y = numL ((l.drop at_).take j) ∧ i = .int .i64 ((at_ + j : Nat) : Int)) (fun _ i => at_ + k - (intOf i).toNat)
  case atStart => exact ⟨0, 0, by omega, rfl, by simp [numL, numOf], rfl⟩
  case round =>
    obtain ⟨j, y, hj, rfl, hy, rfl⟩ := hrel
    by_cases hlt : j < k
    · have hcj := HC.out (at_ + j) (by omega)
      obtain ⟨z, hz⟩ : ∃ z, z = l.getD (at_ + j) 0 := ⟨_, rfl⟩
      rw [← hz] at hcj
      obtain ⟨hz0, hz1⟩ := HO.out (at_ + j)
      rw [← hz] at hz0 hz1
      have hy8 : y < 256 ^ 7 := by
        have hb := numL_bound ((l.drop at_).take j) (fun x hx => mem_ok HO.out x (List.mem_of_mem_drop (List.mem_of_mem_take hx)))
        rw [← hy] at hb
        refine Nat.lt_of_lt_of_le hb (Nat.pow_le_pow_right (by omega) ?_)
        rw [List.length_take]
        omega
      have hst := mulStep y z hy8 hz0 hz1
      have hnx : 256 * y + z.toNat = numL ((l.drop at_).take (j + 1)) := by
        rw [num_next l at_ j (by rw [HL.out]; omega), hy, hz]
      have HST := Lib.hid hst
      have HNX := Lib.hid hnx
      clear hy hz hy8 hst hnx
      go_wp2
      go_round
      case rel => exact ⟨j + 1, 256 * y + z.toNat, by omega, by rw [HST.out], HNX.out, by go_num⟩
      case measure => simp [intOf]; omega
    · obtain rfl : j = k := by omega
      have HY := Lib.hid hy
      clear hy
      go_wp2
      go_ret2
      rw [← HY.out]
      exact ⟨rfl, rfl⟩
end Go.Proofs.Ytfjiefhicjnnnaa
