/- The walk over package mac's Block: a key, made as long as a block. -/
import Derived.Test.YtcfkpepohnjdfaaDoorMacRow
import Derived.Test.YtcfkpepohnjdfaaDoorShaSum
namespace Go.Proofs.YtcfkpepohnjdfaaDoor
open Go.RowKit

set_option maxHeartbeats 1000000 in
theorem block_short (A : Option Addr) (n c : Nat) (key : List Int) (w : World) (hn : n ≤ 64) (hb : Bts w A n c key) :
    Calls Tryd.prog 38 #[.slice A n c] w fun e w' => e = .returned (.slice (some ⟨w.heap.size, 0, none⟩) 64 64) ∧ RowB w' w.heap.size 5 (blockL key) ∧ Below w.heap.size w w' := by
  have hkl := hb.len
  have hres : key ++ (List.replicate 64 (0 : Int)).drop n = blockL key := by
    rw [blockL, keyL, if_neg (by omega), padK, List.drop_replicate, hkl]
  have HR := Lib.hid hres
  clear hkl hres
  go_enter Tryd.func38, Tryd.ntmps38
  go_wp2_with (first
    | (at_make
       refine wpList_make_n rfl _ _ rfl 64 64 64 rfl rfl rfl rfl (by omega) ?_
       intro w1 hX1 hg1 hs1
       have hB1 : Below w.heap.size w w1 := (Below.refl _ _).grown hg1 (Nat.le_refl _) (fun k hk => by cases hk))
    | (refine wpList_copy_b rfl (.tmp 12) (.tmp 13) rfl w.heap.size 64 (List.replicate 64 0) rfl hX1 (by simp) A n c key rfl (hb.below hB1) hn w.heap.size w hB1 (Nat.le_refl _) ?_
       intro w2 hX2 hB2
       rw [HR.out] at hX2))
  go_ret
  exact ⟨rfl, hX2, hB2⟩

set_option maxHeartbeats 1000000 in
theorem block_long (A : Option Addr) (n c : Nat) (key : List Int) (w : World) (hK : KTab w) (hn : 64 < n) (hm : n ≤ 1048576) (hb : Bts w A n c key) :
    Calls Tryd.prog 38 #[.slice A n c] w fun e w' => e = .returned (.slice (some ⟨w.heap.size, 0, none⟩) 64 64) ∧ RowB w' w.heap.size 5 (blockL key) ∧ Below w.heap.size w w' := by
  obtain ⟨Z, hZ⟩ : ∃ Z, Z = sumL key := ⟨_, rfl⟩
  have hZl : Z.length = 32 := by rw [hZ]; exact sumL_length _
  have hZo : ∀ j, 0 ≤ Z.getD j 0 ∧ Z.getD j 0 < 256 := by rw [hZ]; exact ok_sum _
  have hkl := hb.len
  have hres : Z ++ (List.replicate 64 (0 : Int)).drop 32 = blockL key := by
    rw [blockL, keyL, if_pos (by omega), ← hZ, padK, List.drop_replicate, hZl]
  have HR := Lib.hid hres
  have HZ := Lib.hid hZ
  have HZL := Lib.hid hZl
  have HZO := Lib.hid hZo
  clear hkl hres hZ hZl hZo
  go_enter Tryd.func38, Tryd.ntmps38
  go_wp2_with (first
    | (at_make
       refine wpList_make_n rfl _ _ rfl 64 64 64 rfl rfl rfl rfl (by omega) ?_
       intro w1 hX1 hg1 hs1
       have hB1 : Below w.heap.size w w1 := (Below.refl _ _).grown hg1 (Nat.le_refl _) (fun k hk => by cases hk))
    | (go_at_call 40; refine (sum_yes A n c key w1 (hK.from hB1) hm (hb.below hB1)).mono ?_; rintro e w3 ⟨he, hb3⟩
       rw [← HZ.out] at he
       subst he
       have hX3 := hX1.below hb3 hX1.lt
       have hB3 := hB1.trans (hb3.mono hB1.size)
       clear hb3)
    | ((with_reducible refine wpList_store_b rfl 30 _ _ rfl w3.heap.size Z ?hx ?hy 30 (List.replicate 32 0) (rowb_lit w3 30 _ _ ?hz) (info32 HZL.out) ?hl ?hm); (case hx => rfl); (case hy => rfl); (case hz => rfl); (case hl => rw [HZL.out]; rfl)
       intro w4 hg4 hA4 hs4
       have hX4 : RowB w4 w.heap.size 5 (List.replicate 64 0) := (hX3.more _).grown hg4 (ne_some (Nat.ne_of_lt hX3.lt))
       have hB4 : Below w.heap.size w w4 := Below.grows (hB3.alloc hB3.size _) hg4 (Nat.le_trans hB3.size (size_le_alloc _ _)) hB3.size
       clear hg4 hs4)
    | (refine wpList_copy_b rfl (.tmp 12) (.tmp 13) rfl w.heap.size 64 (List.replicate 64 0) rfl hX4 (by simp) (some ⟨w3.heap.size, 0, none⟩) 32 32 Z rfl (hA4.btsAt HZL.out (by unfold maxLen; omega) HZO.out) (by omega) w.heap.size w hB4 (Nat.le_refl _) ?_
       intro w5 hX5 hB5
       rw [HR.out] at hX5))
  go_ret
  exact ⟨rfl, hX5, hB5⟩

theorem block_any (A : Option Addr) (n c : Nat) (key : List Int) (w : World) (hK : KTab w) (hm : n ≤ 1048576) (hb : Bts w A n c key) :
    Calls Tryd.prog 38 #[.slice A n c] w fun e w' => e = .returned (.slice (some ⟨w.heap.size, 0, none⟩) 64 64) ∧ RowB w' w.heap.size 5 (blockL key) ∧ Below w.heap.size w w' := by
  by_cases h : 64 < n
  · exact block_long A n c key w hK h hm hb
  · exact block_short A n c key w (by omega) hb
end Go.Proofs.YtcfkpepohnjdfaaDoor
