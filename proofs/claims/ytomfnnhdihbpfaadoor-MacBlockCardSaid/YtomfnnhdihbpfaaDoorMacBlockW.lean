/- The walk over the law MacBlock: a key has the tags that it has with noughts behind, and a longer one those of its sum. -/
import Derived.Test.YtomfnnhdihbpfaaDoorMacZeros
import Derived.Test.YtomfnnhdihbpfaaDoorMacAwake
namespace Go.Proofs.YtomfnnhdihbpfaaDoor
open Go.RowKit

theorem tag_of_sum (key b : List Int) (h : 64 < key.length) : tagL (sumL key) b = tagL key b := by
  have e : blockL (sumL key) = blockL key := by
    rw [blockL, blockL, keyL, keyL, if_pos h, if_neg (by rw [sumL_length]; omega)]
  rw [tagL, tagL, innerL, innerL, e]
theorem tag_of_noughts (key b : List Int) (k : Nat) (h : key.length + k ≤ 64) : tagL (key ++ List.replicate k 0) b = tagL key b := by
  have e : blockL (key ++ List.replicate k 0) = blockL key := by
    rw [blockL, blockL, keyL, keyL, if_neg (by simp; omega), if_neg (by omega), padK, padK, List.append_assoc, List.replicate_append_replicate]
    congr 2
    simp
    omega
  rw [tagL, tagL, innerL, innerL, e]

set_option maxHeartbeats 400000 in
theorem mblo_not (A B : Option Addr) (n c m d : Nat) (i : Int) (w : World) (hK : KTab w) (hn : n ≤ 9223372036854775807) (hm : m ≤ 9223372036854775807) (h : 200 < n ∨ 200 < m) :
    Calls Tryd.prog 11 #[.slice A n c, .slice B m d, .int .i64 i] w fun e w' => e = .returned (.bool true) ∧ Below w.heap.size w w' := by
  by_cases h1 : 200 < n
  · have h2 : (200 : Int) < n := by omega
    clear h h1
    go_enter Tryd.func11, Tryd.ntmps11
    go_wp2_with (go_at_call 28; refine (mawake_any _ hK).mono ?_; rintro e w1 ⟨rfl, hb1⟩)
    go_ret
    exact ⟨rfl, hb1⟩
  · have h2 : (n : Int) ≤ 200 := by omega
    have h3 : (200 : Int) < m := by omega
    clear h h1
    go_enter Tryd.func11, Tryd.ntmps11
    go_wp2_with (go_at_call 28; refine (mawake_any _ hK).mono ?_; rintro e w1 ⟨rfl, hb1⟩)
    go_ret
    exact ⟨rfl, hb1⟩

set_option maxRecDepth 100000 in
set_option maxHeartbeats 2000000 in
theorem mblo_long (A B : Option Addr) (n c m d : Nat) (key b : List Int) (i : Int) (w : World) (hK : KTab w) (hn : n ≤ 200) (hm : m ≤ 200) (hl : 64 < n) (hk : Bts w A n c key) (hb : Bts w B m d b) :
    Calls Tryd.prog 11 #[.slice A n c, .slice B m d, .int .i64 i] w fun e w' => e = .returned (.bool true) ∧ Below w.heap.size w w' := by
  obtain ⟨Z, hZ⟩ : ∃ Z, Z = sumL key := ⟨_, rfl⟩
  have hZl : Z.length = 32 := by rw [hZ]; exact sumL_length _
  have hZo : ∀ j, 0 ≤ Z.getD j 0 ∧ Z.getD j 0 < 256 := by rw [hZ]; exact ok_sum _
  obtain ⟨T, hT⟩ : ∃ T, T = tagL key b := ⟨_, rfl⟩
  have hTl : T.length = 32 := by rw [hT, tagL]; exact sumL_length _
  have htz : tagL Z b = T := by rw [hT, hZ]; exact tag_of_sum key b (by rw [hk.len]; exact hl)
  have heq : ∀ w, (Op.equalIn 10000 33 (.agg (idv T)) (.agg (idv T))).run Tryd.prog w = .ok true w := fun w => (eq32 T T hTl hTl w).trans (by rw [beq_self_eq_true])
  have h1 : (n : Int) ≤ 200 := by omega
  have h2 : (m : Int) ≤ 200 := by omega
  have h3 : (64 : Int) < n := by omega
  have HZ := Lib.hid hZ
  have HZL := Lib.hid hZl
  have HZO := Lib.hid hZo
  have HT := Lib.hid hT
  have HTZ := Lib.hid htz
  clear hZ hZl hZo hT hTl htz
  go_enter Tryd.func11, Tryd.ntmps11
  go_wp2_with (first
    | (go_at_call 28; refine (mawake_any _ hK).mono ?_; rintro e w1 ⟨rfl, hB1⟩)
    | (go_at_call 31; refine (block_any A n c key w1 (hK.from hB1) (by omega) (hk.below hB1)).mono ?_; rintro e w2 ⟨rfl, _, hb2⟩
       have hB2 : Below w.heap.size w w2 := hB1.trans (hb2.mono hB1.size)
       clear hb2)
    | (go_at_call 26; refine (sum_yes A n c key w2 (hK.from hB2) (by omega) (hk.below hB2)).mono ?_; rintro e w3 ⟨he, hb3⟩
       rw [← HZ.out] at he
       subst he
       have hB3 : Below w.heap.size w w3 := hB2.trans (hb3.mono hB2.size)
       clear hb3)
    | ((with_reducible refine wpList_store_b rfl 33 _ _ rfl w3.heap.size Z ?hx ?hy 33 (List.replicate 32 0) (rowb_lit w3 33 _ _ ?hz) (info32 HZL.out) ?hl ?_); (case hx => rfl); (case hy => rfl); (case hz => rfl); (case hl => rw [HZL.out]; rfl)
       intro w4 hg4 hZ4 hs4
       have hB4 : Below w.heap.size w w4 := Below.grows (hB3.alloc hB3.size _) hg4 (Nat.le_trans hB3.size (size_le_alloc _ _)) hB3.size
       clear hg4 hs4))
  go_region_held3 (fun _ => True) (first | trivial)
    (first
    | (go_at_call 33; (with_reducible refine (tag_any A B n c m d key b w4.drew (hK.from hB4.drew) (by omega) (by omega) (hk.below hB4.drew) (hb.below hB4.drew)).mono ?_); rintro e w5 ⟨he, hb5⟩
       rw [← HT.out] at he
       subst he
       have hb5 := below_draw hb5
       have hZ5 := hZ4.keep hb5
       have hB5 : Below w.heap.size w w5 := hB4.trans (hb5.mono hB4.size)
       clear hb5)
    | (go_at_call 33; (with_reducible refine (tag_any (some ⟨w3.heap.size, 0, none⟩) B 32 32 m d Z b w5 (hK.from hB5) (by omega) (by omega) (hZ5.btsAt HZL.out (by unfold maxLen; omega) HZO.out) (hb.below hB5)).mono ?_); rintro e w6 ⟨he, hb6⟩
       rw [HTZ.out] at he
       subst he
       have hB6 : Below w.heap.size w w6 := hB5.trans (hb6.mono hB5.size)
       clear hb6))
  go_wp2
  go_ret
  exact ⟨rfl, hB6⟩

set_option maxHeartbeats 1000000 in
theorem mblo_out (A B : Option Addr) (n c m d : Nat) (key : List Int) (i : Int) (w : World) (hK : KTab w) (hm : m ≤ 200) (hl : n ≤ 64) (hi : i < 0 ∨ 64 - (n : Int) < i) (hk : Bts w A n c key) :
    Calls Tryd.prog 11 #[.slice A n c, .slice B m d, .int .i64 i] w fun e w' => e = .returned (.bool true) ∧ Below w.heap.size w w' := by
  have h1 : (n : Int) ≤ 200 := by omega
  have h2 : (m : Int) ≤ 200 := by omega
  have h3 : (n : Int) ≤ 64 := by omega
  rcases hi with hi | hi
  · go_enter Tryd.func11, Tryd.ntmps11
    go_wp2_with (first
      | (go_at_call 28; refine (mawake_any _ hK).mono ?_; rintro e w1 ⟨rfl, hB1⟩)
      | (go_at_call 31; refine (block_any A n c key w1 (hK.from hB1) (by omega) (hk.below hB1)).mono ?_; rintro e w2 ⟨rfl, _, hb2⟩
         have hB2 : Below w.heap.size w w2 := hB1.trans (hb2.mono hB1.size)
         clear hb2))
    go_ret
    exact ⟨rfl, hB2⟩
  · by_cases h0 : i < 0
    · omega
    · have h0' : 0 ≤ i := by omega
      clear h0
      go_enter Tryd.func11, Tryd.ntmps11
      go_wp2_with (first
        | (go_at_call 28; refine (mawake_any _ hK).mono ?_; rintro e w1 ⟨rfl, hB1⟩)
        | (go_at_call 31; refine (block_any A n c key w1 (hK.from hB1) (by omega) (hk.below hB1)).mono ?_; rintro e w2 ⟨rfl, _, hb2⟩
           have hB2 : Below w.heap.size w w2 := hB1.trans (hb2.mono hB1.size)
           clear hb2))
      go_ret
      exact ⟨rfl, hB2⟩

set_option maxRecDepth 100000 in
set_option maxHeartbeats 2000000 in
theorem mblo_short (A B : Option Addr) (n c m d k : Nat) (key b : List Int) (w : World) (hK : KTab w) (hm : m ≤ 200) (hl : n + k ≤ 64) (hk : Bts w A n c key) (hb : Bts w B m d b) :
    Calls Tryd.prog 11 #[.slice A n c, .slice B m d, .int .i64 k] w fun e w' => e = .returned (.bool true) ∧ Below w.heap.size w w' := by
  obtain ⟨T, hT⟩ : ∃ T, T = tagL key b := ⟨_, rfl⟩
  have hTl : T.length = 32 := by rw [hT, tagL]; exact sumL_length _
  have htz : tagL (key ++ List.replicate k 0) b = T := by rw [hT]; exact tag_of_noughts key b k (by rw [hk.len]; exact hl)
  obtain ⟨L, hL⟩ : ∃ L, L = key ++ List.replicate k (0 : Int) := ⟨_, rfl⟩
  have hLl : L.length = n + k := by rw [hL, List.length_append, hk.len, List.length_replicate]
  have hLo : ∀ j, 0 ≤ L.getD j 0 ∧ L.getD j 0 < 256 := by rw [hL]; exact ok_zeros hk.ok k
  have heq : ∀ w, (Op.equalIn 10000 33 (.agg (idv T)) (.agg (idv T))).run Tryd.prog w = .ok true w := fun w => (eq32 T T hTl hTl w).trans (by rw [beq_self_eq_true])
  have h1 : (n : Int) ≤ 200 := by omega
  have h2 : (m : Int) ≤ 200 := by omega
  have h3 : (n : Int) ≤ 64 := by omega
  have h4 : 0 ≤ (k : Int) := by omega
  have h5 : (k : Int) ≤ 64 - n := by omega
  have hkl := hk.len
  rw [← hL] at htz
  have HL := Lib.hid hL
  have HLL := Lib.hid hLl
  have HLO := Lib.hid hLo
  have HT := Lib.hid hT
  have HTZ := Lib.hid htz
  have HKL := Lib.hid hkl
  clear hT hTl htz hL hLl hLo hkl
  go_enter Tryd.func11, Tryd.ntmps11
  go_wp2_with (first
    | (go_at_call 28; refine (mawake_any _ hK).mono ?_; rintro e w1 ⟨rfl, hB1⟩)
    | (go_at_call 31; refine (block_any A n c key w1 (hK.from hB1) (by omega) (hk.below hB1)).mono ?_; rintro e w2 ⟨rfl, _, hb2⟩
       have hB2 : Below w.heap.size w w2 := hB1.trans (hb2.mono hB1.size)
       clear hb2)
    | (at_builtin
       refine wpList_append_b rfl (.const (.slice none 0 0)) (.tmp 49) rfl w.heap.size (.slice none 0 0) [] rfl (Own.nil _ _) A n c key rfl (hk.below hB2) (by simp only [List.length_nil]; omega) hB2.size ?_
       intro v3 w3 hown3 hg3
       rw [List.nil_append] at hown3
       have hB3 : Below w.heap.size w w3 := hB2.grown hg3 hB2.size (fun k hk => by cases hk)
       have hv3 := hown3.size
       clear hg3)
    | (at_builtin
       refine wpList_append_zeros rfl (.tmp 50) (.tmp 51) rfl w.heap.size v3 key rfl hown3 k rfl (by omega) (by rw [HKL.out]; omega) hB3.size ?_
       intro v4 w4 hown4 hg4
       have hB4 : Below w.heap.size w w4 := hB3.grown hg4 hB3.size (fun k hk => (hv3 k hk).1)
       rw [← HL.out] at hown4
       obtain ⟨A4, n4, c4, rfl, hbt4⟩ := hown4.slice HLO.out
       have hn4 : n4 ≤ 64 := by have h1 := hbt4.len; rw [HLL.out] at h1; omega
       clear hg4 hown4 hown3)
    | (go_at_call 33; (with_reducible refine (tag_any A4 B n4 c4 m d L b w4 (hK.from hB4) (by omega) (by omega) hbt4 (hb.below hB4)).mono ?_); rintro e w5 ⟨he, hb5⟩
       rw [HTZ.out] at he
       subst he
       have hB5 : Below w.heap.size w w5 := hB4.trans (hb5.mono hB4.size)
       clear hb5)
    | (go_at_call 33; (with_reducible refine (tag_any A B n c m d key b w5 (hK.from hB5) (by omega) (by omega) (hk.below hB5) (hb.below hB5)).mono ?_); rintro e w6 ⟨he, hb6⟩
       rw [← HT.out] at he
       subst he
       have hB6 : Below w.heap.size w w6 := hB5.trans (hb6.mono hB5.size)
       clear hb6))
  go_ret
  exact ⟨rfl, hB6⟩

theorem mblo_all (A B : Option Addr) (n c m d : Nat) (key b : List Int) (i : Int) (w : World) (hK : KTab w) (hk : Bts w A n c key) (hb : Bts w B m d b) :
    Calls Tryd.prog 11 #[.slice A n c, .slice B m d, .int .i64 i] w fun e w' => e = .returned (.bool true) ∧ Below w.heap.size w w' := by
  by_cases h : 200 < n ∨ 200 < m
  · exact mblo_not A B n c m d i w hK hk.small hb.small h
  · by_cases hl : 64 < n
    · exact mblo_long A B n c m d key b i w hK (by omega) (by omega) hl hk hb
    · by_cases hi : i < 0 ∨ 64 - (n : Int) < i
      · exact mblo_out A B n c m d key i w hK (by omega) (by omega) hi hk
      · obtain ⟨k, rfl⟩ := Int.eq_ofNat_of_zero_le (show 0 ≤ i by omega)
        exact mblo_short A B n c m d k key b w hK (by omega) (by omega) hk hb
end Go.Proofs.YtomfnnhdihbpfaaDoor
