/- The walks over the plain answers' Cut and Nums. -/
import Derived.Test.YtfjiefhicjnnnaaNumCut
import Derived.Test.YtfjiefhicjnnnaaNumRefCat
namespace Go.Proofs.Ytfjiefhicjnnnaa
set_option linter.unusedVariables false
set_option linter.unusedSimpArgs false
open Go.RowKit

set_option maxHeartbeats 2000000 in
theorem rcut_no (A D : Option Addr) (n c m d : Nat) (b l : List Int) (w : World) (hb : Bts w A n c b) (hl : Its .i64 w D m d l) (h : cutB l n = false) :
    Calls Try.prog 28 #[.slice A n c, .slice D m d] w fun e w' => e = .returned (.tuple #[.slice none 0 0, .bool false]) ∧ w = w' := by
  have hn := hb.small
  have hm := hl.small
  have HLL := Lib.hid hl.len
  have HC := Lib.hid h
  clear h
  go_enter Try.func28, Try.ntmps28
  go_wp2
  go_loop [6, 7] (fun s i => ∃ (k : Nat) (z : Int), k ≤ m ∧ k ≤ 40 ∧ i = .int .i64 k ∧ sizesB (l.take k) = true ∧ s = .int .i64 z ∧ z = (l.take k).sum) (fun _ i => m - (intOf i).toNat)
  case atStart => exact ⟨0, 0, Nat.zero_le _, Nat.zero_le _, rfl, rfl, rfl, rfl⟩
  case round =>
    obtain ⟨k, z, hk, hk40, rfl, hfit, rfl, hz⟩ := hrel
    have hr := sum_range (l.take k) hfit
    rw [← hz, List.length_take, HLL.out] at hr
    obtain ⟨hr0, hr1⟩ := hr
    have hr2 : z ≤ 320 := by omega
    have HF := Lib.hid hfit
    have HZ := Lib.hid hz
    clear hfit hz hr1
    by_cases hlt : k < m
    · obtain ⟨bb, off, rfl, hcs⟩ := hl.at_ (by omega)
      have hc0 := hcs k hlt
      obtain ⟨x, hx⟩ : ∃ x, x = l.getD k 0 := ⟨_, rfl⟩
      rw [← hx] at hc0
      have hlk : k < l.length := by rw [HLL.out]; exact hlt
      have HX := Lib.hid hx
      clear hx hcs
      by_cases hs1 : x < 1
      · go_wp2
        go_ret2
        exact ⟨rfl, rfl⟩
      · by_cases hs2 : 8 < x
        · have hs1' : 1 ≤ x := by omega
          go_wp2
          go_ret2
          exact ⟨rfl, rfl⟩
        · have hs1' : 1 ≤ x := by omega
          have hs2' : x ≤ 8 := by omega
          by_cases h40 : 40 ≤ k
          · have h40' : (40 : Int) ≤ k := by omega
            go_wp2
            go_ret2
            exact ⟨rfl, rfl⟩
          · have h40' : (k : Int) < 40 := by omega
            have hfit2 : sizesB (l.take (k + 1)) = true := by
              rw [sizesB_snoc l k hlk, HF.out, ← HX.out]
              unfold sizeB; simp; omega
            have hsum : z + x = (l.take (k + 1)).sum := by rw [sum_snoc l k hlk, ← HX.out, HZ.out]
            have HF2 := Lib.hid hfit2
            have HS := Lib.hid hsum
            clear hfit2 hsum hlk
            go_wp2
            go_round
            case rel => exact ⟨k + 1, z + x, by omega, by omega, by go_num, HF2.out, rfl, HS.out⟩
            case measure => simp [intOf]; omega
    · have hkn : k = m := by omega
      have htk : l.take k = l := by rw [hkn, ← HLL.out, List.take_length]
      have hne : z ≠ (n : Int) := by
        have h3 := HF.out
        have h4 := HC.out
        rw [htk] at h3
        have hll := HLL.out
        rw [cutB, togB, h3, decide_eq_true (show l.length ≤ 40 by omega), Bool.true_and, Bool.true_and, decide_eq_false_iff_not] at h4
        rw [HZ.out, htk]
        exact h4
      have hne2 : (z != (n : Int)) = true := by rw [bne_iff_ne]; exact hne
      clear htk hkn hne
      go_wp2
      go_ret2
      exact ⟨rfl, rfl⟩

set_option maxHeartbeats 4000000 in
theorem rcut_yes (A D : Option Addr) (n c m d : Nat) (b : List Int) (ks : List Nat) (w : World) (hb : Bts w A n c b) (hl : Its .i64 w D m d (ints ks)) (hk : okSizes ks) (hk40 : ks.length ≤ 40) (hsum : ks.sum = n) :
    Calls Try.prog 28 #[.slice A n c, .slice D m d] w fun e w' => ∃ v, e = .returned (.tuple #[v, .bool true]) ∧ OwnI .u64 22 w' w.heap.size v (ints (cutL ks b)) ∧ Below w.heap.size w w' := by
  have hn := hb.small
  have hm := hl.small
  have hks : ks.length = m := by have := hl.len; rwa [ints_length] at this
  have hm40 : (m : Int) ≤ 40 := by omega
  have hne : ((n : Int) != (n : Int)) = false := by simp
  have hn320 : (n : Int) ≤ 320 := by
    have h1 : ∀ l : List Nat, okSizes l → l.sum ≤ 8 * l.length := by
      intro l
      induction l with
      | nil => intro _; simp
      | cons x l ih =>
        intro h
        have h2 := h x (by simp)
        have h3 := ih (fun y hy => h y (by simp [hy]))
        rw [List.sum_cons, List.length_cons]
        omega
    have := h1 ks hk
    omega
  have HKS := Lib.hid hks
  have HSUM := Lib.hid hsum
  have HK := Lib.hid hk
  clear hks hsum hk
  go_enter Try.func28, Try.ntmps28
  go_wp2
  go_loop [6, 7] (fun s i => ∃ (k z : Nat), k ≤ m ∧ i = .int .i64 k ∧ s = .int .i64 z ∧ z = (ks.take k).sum) (fun _ i => m - (intOf i).toNat)
  case atStart => exact ⟨0, 0, Nat.zero_le _, rfl, rfl, rfl⟩
  case round =>
    obtain ⟨k, z, hk, rfl, rfl, hz⟩ := hrel
    have hzb : (z : Int) ≤ 320 := by
      have h2 := sumN_le ks k
      rw [← hz, HSUM.out] at h2
      omega
    have HZ := Lib.hid hz
    clear hz
    by_cases hlt : k < m
    · have hkk : k < ks.length := by rw [HKS.out]; exact hlt
      obtain ⟨bd, od, rfl, hcs⟩ := hl.at_ (by omega)
      have hck := hcs k hlt
      rw [ints_get ks k hkk] at hck
      obtain ⟨K, hK⟩ : ∃ K, ks.getD k 0 = K := ⟨_, rfl⟩
      have hK18 : 1 ≤ K ∧ K ≤ 8 := by
        rw [← hK, List.getD_eq_getElem?_getD, List.getElem?_eq_getElem hkk]
        exact HK.out _ (List.getElem_mem hkk)
      obtain ⟨hK1, hK8⟩ := hK18
      rw [hK] at hck
      have hz2 : z + K = (ks.take (k + 1)).sum := by rw [sumN_snoc ks k hkk, hK, HZ.out]
      have h40 : (k : Int) < 40 := by omega
      have hK1' : (1 : Int) ≤ K := by omega
      have hK8' : (K : Int) ≤ 8 := by omega
      have HZ2 := Lib.hid hz2
      clear hK hz2 hcs hkk
      go_wp2
      go_round
      case rel => exact ⟨k + 1, z + K, by omega, by go_num, by go_num, HZ2.out⟩
      case measure => simp [intOf]; omega
    · have hkn : k = m := by omega
      have hzn : z = n := by
        rw [HZ.out, hkn, ← HKS.out, List.take_length, HSUM.out]
      subst hzn
      clear hk hkn hzb
      go_wp2
      go_loopw [8, 9, 10] (fun v q i wr => ∃ (k a : Nat) (L : List Nat), k ≤ m ∧ i = .int .i64 k ∧ q = .int .i64 a ∧ a = (ks.take k).sum ∧ L = (cutL ks b).take k ∧ OwnI .u64 22 wr w.heap.size v (ints L) ∧ Below w.heap.size w wr) (fun _ _ i _ => m - (intOf i).toNat)
      case atStart => exact ⟨0, 0, [], Nat.zero_le _, rfl, rfl, rfl, rfl, OwnI.nil _ _ _ _, Below.refl _ _⟩
      case round =>
        obtain ⟨k, a, L, hkm, rfl, rfl, ha, hL, hown, hB⟩ := hrel
        have HA := Lib.hid ha
        have HL := Lib.hid hL
        clear ha hL
        by_cases hlt : k < m
        · have hkk : k < ks.length := by rw [HKS.out]; exact hlt
          obtain ⟨bd, od, rfl, hcs⟩ := (hl.below hB).at_ (by omega)
          have hck := hcs k hlt
          rw [ints_get ks k hkk] at hck
          obtain ⟨K, hK⟩ : ∃ K, ks.getD k 0 = K := ⟨_, rfl⟩
          have hK18 : 1 ≤ K ∧ K ≤ 8 := by
            rw [← hK, List.getD_eq_getElem?_getD, List.getElem?_eq_getElem hkk]
            exact HK.out _ (List.getElem_mem hkk)
          obtain ⟨hK1, hK8⟩ := hK18
          have hak : a + K ≤ z := by
            have h1 := sumN_snoc ks k hkk
            have h2 := sumN_le ks (k + 1)
            rw [hK, ← HA.out] at h1
            rw [HSUM.out] at h2
            omega
          rw [hK] at hck
          obtain ⟨x, hx⟩ : ∃ x, numL ((b.drop a).take K) = x := ⟨_, rfl⟩
          have hL2 : L ++ [x] = (cutL ks b).take (k + 1) := by rw [cutL_snoc ks b k hkk, HL.out, ← HA.out, hK, hx]
          have ha2 : a + K = (ks.take (k + 1)).sum := by rw [sumN_snoc ks k hkk, hK, HA.out]
          have hLl : (ints L).length ≤ 40 := by
            rw [ints_length, HL.out, List.length_take]
            omega
          have HX := Lib.hid hx
          have HL2 := Lib.hid hL2
          have HA2 := Lib.hid ha2
          clear hx hK hL2 ha2 hcs hkk
          go_wp2_with (first
            | (go_at_call 38; (with_reducible refine (rget_yes A z c b a K wr (hb.below hB) hK1 hK8 hak).mono ?_); rintro e w6 ⟨he, rfl⟩
               rw [HX.out] at he
               subst he)
            | (at_builtin
               refine wpList_append_i rfl 51 22 .u64 8 _ _ rfl Try.underlying51 (by kernel_rfl) (by omega) w.heap.size u8 (ints L) rfl (hown.more _) _ 1 1 [(x : Int)] rfl (one_its .u64 22 _ (x : Int)) (by omega) (Nat.le_trans hB.size (size_le_alloc _ _)) ?_
               intro v5 w5 hown5 hg5
               have hB5 : Below w.heap.size w w5 := (hB.alloc hB.size _).grown hg5 (Nat.le_trans hB.size (size_le_alloc _ _)) (fun k hk => (hown.size k hk).1)
               have hown5 : OwnI .u64 22 w5 w.heap.size v5 (ints (L ++ [x])) := by rw [ints_append]; exact hown5
               clear hg5))
          go_roundw
          case rel => exact ⟨k + 1, a + K, L ++ [x], by omega, by go_num, by go_num, HA2.out, HL2.out, hown5, hB5⟩
          case measure => simp [intOf]; omega
        · have hkn : k = m := by omega
          have htk : L = cutL ks b := by
            have h5 := cutL_length ks b
            rw [HL.out, hkn, ← HKS.out, ← h5, List.take_length]
          rw [htk] at hown
          have HO := Lib.hid hown
          clear hown htk hkn
          go_wp2
          go_ret2
          exact ⟨_, rfl, HO.out, hB⟩
end Go.Proofs.Ytfjiefhicjnnnaa
