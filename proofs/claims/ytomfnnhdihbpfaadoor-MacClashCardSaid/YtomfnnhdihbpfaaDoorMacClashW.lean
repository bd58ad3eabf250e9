/- The walk over the law MacClash: two texts of one tag by one key. -/
import Derived.Test.YtomfnnhdihbpfaaDoorMacStep
import Derived.Test.YtomfnnhdihbpfaaDoorMacPad
import Derived.Test.YtomfnnhdihbpfaaDoorMacAwake
import Derived.Test.YtomfnnhdihbpfaaDoorMacSameW
namespace Go.Proofs.YtomfnnhdihbpfaaDoor
open Go.RowKit

set_option maxHeartbeats 400000 in
theorem mcla_not (A B D : Option Addr) (n c m d p q : Nat) (w : World) (hK : KTab w) (hn : n ≤ 9223372036854775807) (hm : m ≤ 9223372036854775807) (hp : p ≤ 9223372036854775807) (h : 200 < n ∨ 200 < m ∨ 200 < p) :
    Calls Tryd.prog 13 #[.slice A n c, .slice B m d, .slice D p q] w fun e w' => e = .returned (.bool true) ∧ Below w.heap.size w w' := by
  by_cases h1 : 200 < n
  · have h2 : (200 : Int) < n := by omega
    clear h h1
    go_enter Tryd.func13, Tryd.ntmps13
    go_wp2_with (go_at_call 28; refine (mawake_any _ hK).mono ?_; rintro e w1 ⟨rfl, hB1⟩)
    go_ret
    exact ⟨rfl, hB1⟩
  · have h2 : (n : Int) ≤ 200 := by omega
    by_cases h3 : 200 < m
    · have h4 : (200 : Int) < m := by omega
      clear h h1 h3
      go_enter Tryd.func13, Tryd.ntmps13
      go_wp2_with (go_at_call 28; refine (mawake_any _ hK).mono ?_; rintro e w1 ⟨rfl, hB1⟩)
      go_ret
      exact ⟨rfl, hB1⟩
    · have h4 : (m : Int) ≤ 200 := by omega
      have h5 : (200 : Int) < p := by omega
      clear h h1 h3
      go_enter Tryd.func13, Tryd.ntmps13
      go_wp2_with (go_at_call 28; refine (mawake_any _ hK).mono ?_; rintro e w1 ⟨rfl, hB1⟩)
      go_ret
      exact ⟨rfl, hB1⟩

set_option maxHeartbeats 1000000 in
theorem mcla_same (A B D : Option Addr) (n c m d p q : Nat) (key a b : List Int) (w : World) (hK : KTab w) (hn : n ≤ 200) (hm : m ≤ 200) (hp : p ≤ 200) (_hk : Bts w A n c key) (ha : Bts w B m d a) (hb : Bts w D p q b) (hab : a = b) :
    Calls Tryd.prog 13 #[.slice A n c, .slice B m d, .slice D p q] w fun e w' => e = .returned (.bool true) ∧ Below w.heap.size w w' := by
  obtain ⟨s1, hs1⟩ : ∃ s, s = bstr a := ⟨_, rfl⟩
  obtain ⟨s2, hs2⟩ : ∃ s, s = bstr b := ⟨_, rfl⟩
  have k1 : ∀ w', Below w.heap.size w w' → (convert 24 9 (.slice B m d)).run Tryd.prog w' = .ok (.string s1) w' := fun w' h => by rw [hs1]; exact conv_bts (ha.below h)
  have k2 : ∀ w', Below w.heap.size w w' → (convert 24 9 (.slice D p q)).run Tryd.prog w' = .ok (.string s2) w' := fun w' h => by rw [hs2]; exact conv_bts (hb.below h)
  have h1 : (n : Int) ≤ 200 := by omega
  have h2 : (m : Int) ≤ 200 := by omega
  have h3 : (p : Int) ≤ 200 := by omega
  have hstr : (s1.toList == s2.toList) = true := by rw [hs1, hs2, run_eq_bstr a b ha.ok hb.ok, beq_iff_eq]; exact hab
  clear hs1 hs2 hab
  go_enter Tryd.func13, Tryd.ntmps13
  go_wp2_with (go_at_call 28; refine (mawake_any _ hK).mono ?_; rintro e w1 ⟨rfl, hB1⟩; have c1 := k1 w1 hB1; have c2 := k2 w1 hB1)
  go_ret
  exact ⟨rfl, hB1⟩

set_option maxHeartbeats 1000000 in
theorem mcla_diff (A B D : Option Addr) (n c m d p q : Nat) (key a b : List Int) (w : World) (hK : KTab w) (hn : n ≤ 200) (hm : m ≤ 200) (hp : p ≤ 200) (hk : Bts w A n c key) (ha : Bts w B m d a) (hb : Bts w D p q b) (hab : a ≠ b) (ht : tagL key a ≠ tagL key b) :
    Calls Tryd.prog 13 #[.slice A n c, .slice B m d, .slice D p q] w fun e w' => e = .returned (.bool true) ∧ Below w.heap.size w w' := by
  obtain ⟨s1, hs1⟩ : ∃ s, s = bstr a := ⟨_, rfl⟩
  obtain ⟨s2, hs2⟩ : ∃ s, s = bstr b := ⟨_, rfl⟩
  have k1 : ∀ w', Below w.heap.size w w' → (convert 24 9 (.slice B m d)).run Tryd.prog w' = .ok (.string s1) w' := fun w' h => by rw [hs1]; exact conv_bts (ha.below h)
  have k2 : ∀ w', Below w.heap.size w w' → (convert 24 9 (.slice D p q)).run Tryd.prog w' = .ok (.string s2) w' := fun w' h => by rw [hs2]; exact conv_bts (hb.below h)
  have h1 : (n : Int) ≤ 200 := by omega
  have h2 : (m : Int) ≤ 200 := by omega
  have h3 : (p : Int) ≤ 200 := by omega
  have hstr : (s1.toList == s2.toList) = false := by rw [hs1, hs2, run_eq_bstr a b ha.ok hb.ok, beq_eq_false_iff_ne]; exact hab
  obtain ⟨T1, hT1⟩ : ∃ T, T = tagL key a := ⟨_, rfl⟩
  obtain ⟨T2, hT2⟩ : ∃ T, T = tagL key b := ⟨_, rfl⟩
  have hT : (T1 == T2) = false := by rw [beq_eq_false_iff_ne, hT1, hT2]; exact ht
  have heq := eq32 T1 T2 (by rw [hT1, tagL]; exact sumL_length _) (by rw [hT2, tagL]; exact sumL_length _)
  rw [hT] at heq
  have HT1 := Lib.hid hT1
  have HT2 := Lib.hid hT2
  clear hs1 hs2 hab ht hT hT1 hT2
  go_enter Tryd.func13, Tryd.ntmps13
  go_wp2_with (first
    | (go_at_call 28; refine (mawake_any _ hK).mono ?_; rintro e w1 ⟨rfl, hB1⟩; have c1 := k1 w1 hB1; have c2 := k2 w1 hB1)
    | (go_at_call 33; (with_reducible refine (tag_any A B n c m d key a w1 (hK.from hB1) (by omega) (by omega) (hk.below hB1) (ha.below hB1)).mono ?_); rintro e w2 ⟨he, hb2⟩
       rw [← HT1.out] at he
       subst he
       have hB2 : Below w.heap.size w w2 := hB1.trans (hb2.mono hB1.size)
       clear hb2)
    | (go_at_call 33; (with_reducible refine (tag_any A D n c p q key b w2 (hK.from hB2) (by omega) (by omega) (hk.below hB2) (hb.below hB2)).mono ?_); rintro e w3 ⟨he, hb3⟩
       rw [← HT2.out] at he
       subst he
       have hB3 : Below w.heap.size w w3 := hB2.trans (hb3.mono hB2.size)
       clear hb3)
    | fail)
  go_ret
  exact ⟨rfl, hB3⟩

set_option maxRecDepth 100000 in
set_option maxHeartbeats 4000000 in
theorem mcla_x (A B D : Option Addr) (n c m d p q : Nat) (key a b : List Int) (w : World) (hK : KTab w) (hn : n ≤ 200) (hm : m ≤ 200) (hp : p ≤ 200) (hk : Bts w A n c key) (ha : Bts w B m d a) (hb : Bts w D p q b) (hab : a ≠ b) (ht : tagL key a = tagL key b) (hxy : sumL (xorL 54 (blockL key) ++ a) = sumL (xorL 54 (blockL key) ++ b)) :
    Calls Tryd.prog 13 #[.slice A n c, .slice B m d, .slice D p q] w fun e w' => e = .returned (.bool true) ∧ Below w.heap.size w w' := by
  obtain ⟨s1, hs1⟩ : ∃ s, s = bstr a := ⟨_, rfl⟩
  obtain ⟨s2, hs2⟩ : ∃ s, s = bstr b := ⟨_, rfl⟩
  have k1 : ∀ w', Below w.heap.size w w' → (convert 24 9 (.slice B m d)).run Tryd.prog w' = .ok (.string s1) w' := fun w' h => by rw [hs1]; exact conv_bts (ha.below h)
  have k2 : ∀ w', Below w.heap.size w w' → (convert 24 9 (.slice D p q)).run Tryd.prog w' = .ok (.string s2) w' := fun w' h => by rw [hs2]; exact conv_bts (hb.below h)
  have h1 : (n : Int) ≤ 200 := by omega
  have h2 : (m : Int) ≤ 200 := by omega
  have h3 : (p : Int) ≤ 200 := by omega
  have hstr : (s1.toList == s2.toList) = false := by rw [hs1, hs2, run_eq_bstr a b ha.ok hb.ok, beq_eq_false_iff_ne]; exact hab
  obtain ⟨U, hU⟩ : ∃ U, U = xorL 54 (blockL key) := ⟨_, rfl⟩
  obtain ⟨V, hV⟩ : ∃ V, V = xorL 92 (blockL key) := ⟨_, rfl⟩
  have hUl : U.length = 64 := by rw [hU]; exact xorL_length _ _
  have hVl : V.length = 64 := by rw [hV]; exact xorL_length _ _
  have hUo : ∀ j, 0 ≤ U.getD j 0 ∧ U.getD j 0 < 256 := by rw [hU]; exact ok_xor _ _
  have hVo : ∀ j, 0 ≤ V.getD j 0 ∧ V.getD j 0 < 256 := by rw [hV]; exact ok_xor _ _
  obtain ⟨X, hX⟩ : ∃ I, I = sumL (U ++ a) := ⟨_, rfl⟩
  have hXl : X.length = 32 := by rw [hX]; exact sumL_length _
  have hXo : ∀ j, 0 ≤ X.getD j 0 ∧ X.getD j 0 < 256 := by rw [hX]; exact ok_sum _
  obtain ⟨Y, hY⟩ : ∃ I, I = sumL (U ++ b) := ⟨_, rfl⟩
  have hYl : Y.length = 32 := by rw [hY]; exact sumL_length _
  have hYo : ∀ j, 0 ≤ Y.getD j 0 ∧ Y.getD j 0 < 256 := by rw [hY]; exact ok_sum _
  obtain ⟨T, hT⟩ : ∃ I, I = sumL (V ++ X) := ⟨_, rfl⟩
  have hTl : T.length = 32 := by rw [hT]; exact sumL_length _
  have hta : tagL key a = T := by rw [hT, hX, hU, hV, tagL, innerL]
  have htb : tagL key b = T := by rw [← ht, hta]
  have htc : sumL (V ++ Y) = T := by rw [← htb, hY, hU, hV, tagL, innerL]
  have heqT : ∀ w, (Op.equalIn 10000 33 (.agg (idv T)) (.agg (idv T))).run Tryd.prog w = .ok true w := fun w => (eq32 T T hTl hTl w).trans (by rw [beq_self_eq_true])
  have hX32 : (byv X).length = 32 := by rw [byv_length, hXl]
  have hY32 : (byv Y).length = 32 := by rw [byv_length, hYl]
  have hu33 := Tryd.underlying33
  have hi33 : (Tryd.prog.info? 33).map (·.size) = some 32 := by kernel_rfl
  have heqX : ∀ w, (Op.equalIn 10000 33 (.agg (byv X).toArray) (.agg (byv Y).toArray)).run Tryd.prog w = .ok true w := fun w => (eq32 X Y hXl hYl w).trans (by rw [hX, hY, hU, hxy, beq_self_eq_true])
  have HU := Lib.hid hU
  have HV := Lib.hid hV
  have HUL := Lib.hid hUl
  have HVL := Lib.hid hVl
  have HUO := Lib.hid hUo
  have HVO := Lib.hid hVo
  have HX := Lib.hid hX
  have HXL := Lib.hid hXl
  have HXO := Lib.hid hXo
  have HY := Lib.hid hY
  have HYL := Lib.hid hYl
  have HYO := Lib.hid hYo
  have HT := Lib.hid hT
  have HTA := Lib.hid hta
  have HTB := Lib.hid htb
  have HTC := Lib.hid htc
  clear hs1 hs2 hab ht hU hV hUl hVl hUo hVo hX hXl hXo hY hYl hYo hT hTl hta htb htc
  go_enter Tryd.func13, Tryd.ntmps13
  go_wp2_with (first
    | (go_at_call 28; refine (mawake_any _ hK).mono ?_; rintro e w1 ⟨rfl, hB1⟩; have c1 := k1 w1 hB1; have c2 := k2 w1 hB1)
    | (go_at_call 33; (with_reducible refine (tag_any A B n c m d key a w1 (hK.from hB1) (by omega) (by omega) (hk.below hB1) (ha.below hB1)).mono ?_); rintro e w2 ⟨he, hb2⟩
       rw [HTA.out] at he
       subst he
       have hB2 : Below w.heap.size w w2 := hB1.trans (hb2.mono hB1.size)
       clear hb2)
    | (go_at_call 33; (with_reducible refine (tag_any A D n c p q key b w2 (hK.from hB2) (by omega) (by omega) (hk.below hB2) (hb.below hB2)).mono ?_); rintro e w3 ⟨he, hb3⟩
       rw [HTB.out] at he
       subst he
       have hB3 : Below w.heap.size w w3 := hB2.trans (hb3.mono hB2.size)
       clear hb3)
    | (go_at_call 36; (with_reducible refine (padded_any A n c 54 key w3 (hK.from hB3) (by omega) (hk.below hB3)).mono ?_); rintro e w4 ⟨v4, rfl, hown4, hb4⟩
       rw [← HU.out] at hown4
       have hB4 : Below w.heap.size w w4 := hB3.trans (hb4.mono hB3.size)
       have hown4 : Own w4 w.heap.size v4 U := hown4.mono hB3.size
       have hv4 := hown4.size
       clear hb4)
    | (at_builtin
       refine wpList_append_b rfl (.tmp 46) (.tmp 47) rfl w.heap.size v4 U rfl hown4 B m d a rfl (ha.below hB4) (by rw [HUL.out]; omega) hB4.size ?_
       intro v5 w5 hown5 hg5
       have hB5 : Below w.heap.size w w5 := hB4.grown hg5 hB4.size (fun k hk => (hv4 k hk).1)
       obtain ⟨A5, n5, c5, rfl, hbt5⟩ := hown5.slice (ok_append HUO.out ha.ok)
       have hn5 : n5 ≤ 1048576 := by have h1 := hbt5.len; rw [List.length_append, HUL.out, ha.len] at h1; omega
       clear hg5 hown5 hown4 hv4)
    | (go_at_call 26; (with_reducible refine (sum_yes A5 n5 c5 (U ++ a) w5 (hK.from hB5) hn5 hbt5).mono ?_); rintro e w6 ⟨he, hb6⟩
       rw [← HX.out] at he
       subst he
       have hB6 : Below w.heap.size w w6 := hB5.trans (hb6.mono hB5.size)
       clear hb6 hbt5)
    | ((with_reducible refine wpList_store_b rfl 33 _ _ rfl w6.heap.size X ?hx ?hy 33 (List.replicate 32 0) (rowb_lit w6 33 _ _ ?hz) (info32 HXL.out) ?hl ?_); (case hx => rfl); (case hy => rfl); (case hz => rfl); (case hl => rw [HXL.out]; rfl)
       intro w7 hg7 hX7 hs7
       have hB7 : Below w.heap.size w w7 := Below.grows (hB6.alloc hB6.size _) hg7 (Nat.le_trans hB6.size (size_le_alloc _ _)) hB6.size
       clear hg7 hs7)
    | (go_at_call 36; (with_reducible refine (padded_any A n c 54 key w7 (hK.from hB7) (by omega) (hk.below hB7)).mono ?_); rintro e w8 ⟨v8, rfl, hown8, hb8⟩
       rw [← HU.out] at hown8
       have hB8 : Below w.heap.size w w8 := hB7.trans (hb8.mono hB7.size)
       have hX8 := hX7.keep hb8
       have hX7l := hX7.lt
       have hv8 := hown8.size
       have hz8 := hb8.size
       have hz7 := hB7.size
       clear hb8)
    | (at_builtin
       refine wpList_append_b rfl (.tmp 51) (.tmp 52) rfl w7.heap.size v8 U rfl hown8 D p q b rfl (hb.below hB8) (by rw [HUL.out]; omega) hz8 ?_
       intro v9 w9 hown9 hg9
       have hB9 : Below w.heap.size w w9 := hB8.grown hg9 hB8.size (fun k hk => by have := (hv8 k hk).1; omega)
       have hX9 : RowB w9 w6.heap.size 33 X := hX8.grown hg9 (fun e => by have := (hv8 _ e.symm).1; omega)
       obtain ⟨A9, n9, c9, rfl, hbt9⟩ := hown9.slice (ok_append HUO.out hb.ok)
       have hn9 : n9 ≤ 1048576 := by have h1 := hbt9.len; rw [List.length_append, HUL.out, hb.len] at h1; omega
       clear hg9 hown9 hown8 hv8)
    | (go_at_call 26; (with_reducible refine (sum_yes A9 n9 c9 (U ++ b) w9 (hK.from hB9) hn9 hbt9).mono ?_); rintro e w10 ⟨he, hb10⟩
       rw [← HY.out] at he
       subst he
       have hB10 : Below w.heap.size w w10 := hB9.trans (hb10.mono hB9.size)
       have hX10 := hX9.keep hb10
       have hX10l := hX10.lt
       clear hb10 hbt9)
    | ((with_reducible refine wpList_store_b rfl 33 _ _ rfl w10.heap.size Y ?dx ?dy 33 (List.replicate 32 0) (rowb_lit w10 33 _ _ ?dz) (info32 HYL.out) ?dl ?_); (case dx => rfl); (case dy => rfl); (case dz => rfl); (case dl => rw [HYL.out]; rfl)
       intro w11 hg11 hY11 hs11
       have hX11 : RowB w11 w6.heap.size 33 X := (hX10.more _).grown hg11 (ne_some (Nat.ne_of_lt hX10l))
       have hB11 : Below w.heap.size w w11 := Below.grows (hB10.alloc hB10.size _) hg11 (Nat.le_trans hB10.size (size_le_alloc _ _)) hB10.size
       clear hg11 hs11)
    | fail)
  clear k1 k2 hX7 hX8 hX9 hX10
  refine wp_region_held_drew (S := (fun w' => w'.rangeAt w6.heap.size 0 (byv X) ∧ w'.rangeAt w10.heap.size 0 (byv Y))) (by kernel_rfl) ⟨hX11.range, hY11.range⟩ (fun hHeld => ?_)
  refine take_long 0 33 (.tmp 8) w6.heap.size (byv X) _ rfl rfl rfl (by kernel_rfl) (by kernel_rfl) (by kernel_rfl) (fun _ _ _ h => h) rfl hHeld (fun _ h => h.1) hu33 rfl (by rw [hX32]; exact hi33) ?_
  simp only [Act.put, List.setIfInBounds_toArray, List.set_cons_zero, List.set_cons_succ]
  refine take_long 1 33 (.tmp 9) w10.heap.size (byv Y) _ rfl rfl rfl (by kernel_rfl) (by kernel_rfl) (by kernel_rfl) (fun _ _ _ h => h) rfl hHeld (fun _ h => h.2) hu33 rfl (by rw [hY32]; exact hi33) ?_
  simp only [Act.put, List.setIfInBounds_toArray, List.set_cons_zero, List.set_cons_succ]
  refine take_run 2 (.bool true) rfl (by kernel_rfl) (by kernel_rfl) (by kernel_rfl) (fun _ _ _ h => h) rfl hHeld (fun w => ?_) ?_
  · go_simp
  simp only [Act.put, List.setIfInBounds_toArray, List.set_cons_zero, List.set_cons_succ]
  refine take_move 3 (.tmp 57) (.bool true) rfl rfl rfl (by kernel_rfl) (by kernel_rfl) (by kernel_rfl) (fun _ _ _ h => h) rfl hHeld ?_
  simp only [Act.put, List.setIfInBounds_toArray, List.set_cons_zero, List.set_cons_succ]
  refine take_off 4 rfl (by kernel_rfl) (by kernel_rfl) (by kernel_rfl) (fun _ _ _ h => h) rfl hHeld ?_
  simp only [Act.put, List.setIfInBounds_toArray, List.set_cons_zero, List.set_cons_succ]
  refine take_off 5 rfl (by kernel_rfl) (by kernel_rfl) (by kernel_rfl) (fun _ _ _ h => h) rfl hHeld ?_
  simp only [Act.put, List.setIfInBounds_toArray, List.set_cons_zero, List.set_cons_succ]
  refine take_off 6 rfl (by kernel_rfl) (by kernel_rfl) (by kernel_rfl) (fun _ _ _ h => h) rfl hHeld ?_
  simp only [Act.put, List.setIfInBounds_toArray, List.set_cons_zero, List.set_cons_succ]
  refine take_off 7 rfl (by kernel_rfl) (by kernel_rfl) (by kernel_rfl) (fun _ _ _ h => h) rfl hHeld ?_
  simp only [Act.put, List.setIfInBounds_toArray, List.set_cons_zero, List.set_cons_succ]
  refine take_off 8 rfl (by kernel_rfl) (by kernel_rfl) (by kernel_rfl) (fun _ _ _ h => h) rfl hHeld ?_
  simp only [Act.put, List.setIfInBounds_toArray, List.set_cons_zero, List.set_cons_succ]
  refine take_off 9 rfl (by kernel_rfl) (by kernel_rfl) (by kernel_rfl) (fun _ _ _ h => h) rfl hHeld ?_
  simp only [Act.put, List.setIfInBounds_toArray, List.set_cons_zero, List.set_cons_succ]
  refine take_off 10 rfl (by kernel_rfl) (by kernel_rfl) (by kernel_rfl) (fun _ _ _ h => h) rfl hHeld ?_
  simp only [Act.put, List.setIfInBounds_toArray, List.set_cons_zero, List.set_cons_succ]
  refine take_off 11 rfl (by kernel_rfl) (by kernel_rfl) (by kernel_rfl) (fun _ _ _ h => h) rfl hHeld ?_
  simp only [Act.put, List.setIfInBounds_toArray, List.set_cons_zero, List.set_cons_succ]
  refine take_off 12 rfl (by kernel_rfl) (by kernel_rfl) (by kernel_rfl) (fun _ _ _ h => h) rfl hHeld ?_
  simp only [Act.put, List.setIfInBounds_toArray, List.set_cons_zero, List.set_cons_succ]
  refine take_off 13 rfl (by kernel_rfl) (by kernel_rfl) (by kernel_rfl) (fun _ _ _ h => h) rfl hHeld ?_
  simp only [Act.put, List.setIfInBounds_toArray, List.set_cons_zero, List.set_cons_succ]
  refine take_off 14 rfl (by kernel_rfl) (by kernel_rfl) (by kernel_rfl) (fun _ _ _ h => h) rfl hHeld ?_
  simp only [Act.put, List.setIfInBounds_toArray, List.set_cons_zero, List.set_cons_succ]
  refine take_run 15 (.bool true) rfl (by kernel_rfl) (by kernel_rfl) (by kernel_rfl) (fun _ _ _ h => h) rfl hHeld (fun w => ?_) ?_
  · go_simp
  simp only [Act.put, List.setIfInBounds_toArray, List.set_cons_zero, List.set_cons_succ]
  refine take_run 16 (.bool true) rfl (by kernel_rfl) (by kernel_rfl) (by kernel_rfl) (fun _ _ _ h => h) rfl hHeld (fun w => ?_) ?_
  · go_simp
  simp only [Act.put, List.setIfInBounds_toArray, List.set_cons_zero, List.set_cons_succ]
  refine wpAnyH_done (by kernel_rfl) ?_ _
  go_wp2
  go_ret
  exact ⟨rfl, hB11.drew⟩

set_option maxRecDepth 100000 in
set_option maxHeartbeats 4000000 in
theorem mcla_y (A B D : Option Addr) (n c m d p q : Nat) (key a b : List Int) (w : World) (hK : KTab w) (hn : n ≤ 200) (hm : m ≤ 200) (hp : p ≤ 200) (hk : Bts w A n c key) (ha : Bts w B m d a) (hb : Bts w D p q b) (hab : a ≠ b) (ht : tagL key a = tagL key b) (hxy : sumL (xorL 54 (blockL key) ++ a) ≠ sumL (xorL 54 (blockL key) ++ b)) :
    Calls Tryd.prog 13 #[.slice A n c, .slice B m d, .slice D p q] w fun e w' => e = .returned (.bool true) ∧ Below w.heap.size w w' := by
  obtain ⟨s1, hs1⟩ : ∃ s, s = bstr a := ⟨_, rfl⟩
  obtain ⟨s2, hs2⟩ : ∃ s, s = bstr b := ⟨_, rfl⟩
  have k1 : ∀ w', Below w.heap.size w w' → (convert 24 9 (.slice B m d)).run Tryd.prog w' = .ok (.string s1) w' := fun w' h => by rw [hs1]; exact conv_bts (ha.below h)
  have k2 : ∀ w', Below w.heap.size w w' → (convert 24 9 (.slice D p q)).run Tryd.prog w' = .ok (.string s2) w' := fun w' h => by rw [hs2]; exact conv_bts (hb.below h)
  have h1 : (n : Int) ≤ 200 := by omega
  have h2 : (m : Int) ≤ 200 := by omega
  have h3 : (p : Int) ≤ 200 := by omega
  have hstr : (s1.toList == s2.toList) = false := by rw [hs1, hs2, run_eq_bstr a b ha.ok hb.ok, beq_eq_false_iff_ne]; exact hab
  obtain ⟨U, hU⟩ : ∃ U, U = xorL 54 (blockL key) := ⟨_, rfl⟩
  obtain ⟨V, hV⟩ : ∃ V, V = xorL 92 (blockL key) := ⟨_, rfl⟩
  have hUl : U.length = 64 := by rw [hU]; exact xorL_length _ _
  have hVl : V.length = 64 := by rw [hV]; exact xorL_length _ _
  have hUo : ∀ j, 0 ≤ U.getD j 0 ∧ U.getD j 0 < 256 := by rw [hU]; exact ok_xor _ _
  have hVo : ∀ j, 0 ≤ V.getD j 0 ∧ V.getD j 0 < 256 := by rw [hV]; exact ok_xor _ _
  obtain ⟨X, hX⟩ : ∃ I, I = sumL (U ++ a) := ⟨_, rfl⟩
  have hXl : X.length = 32 := by rw [hX]; exact sumL_length _
  have hXo : ∀ j, 0 ≤ X.getD j 0 ∧ X.getD j 0 < 256 := by rw [hX]; exact ok_sum _
  obtain ⟨Y, hY⟩ : ∃ I, I = sumL (U ++ b) := ⟨_, rfl⟩
  have hYl : Y.length = 32 := by rw [hY]; exact sumL_length _
  have hYo : ∀ j, 0 ≤ Y.getD j 0 ∧ Y.getD j 0 < 256 := by rw [hY]; exact ok_sum _
  obtain ⟨T, hT⟩ : ∃ I, I = sumL (V ++ X) := ⟨_, rfl⟩
  have hTl : T.length = 32 := by rw [hT]; exact sumL_length _
  have hta : tagL key a = T := by rw [hT, hX, hU, hV, tagL, innerL]
  have htb : tagL key b = T := by rw [← ht, hta]
  have htc : sumL (V ++ Y) = T := by rw [← htb, hY, hU, hV, tagL, innerL]
  have heqT : ∀ w, (Op.equalIn 10000 33 (.agg (idv T)) (.agg (idv T))).run Tryd.prog w = .ok true w := fun w => (eq32 T T hTl hTl w).trans (by rw [beq_self_eq_true])
  have hX32 : (byv X).length = 32 := by rw [byv_length, hXl]
  have hY32 : (byv Y).length = 32 := by rw [byv_length, hYl]
  have hu33 := Tryd.underlying33
  have hi33 : (Tryd.prog.info? 33).map (·.size) = some 32 := by kernel_rfl
  have heqX : ∀ w, (Op.equalIn 10000 33 (.agg (byv X).toArray) (.agg (byv Y).toArray)).run Tryd.prog w = .ok false w := fun w => (eq32 X Y hXl hYl w).trans (by rw [hX, hY, hU, beq_eq_false_iff_ne.2 hxy])
  have HU := Lib.hid hU
  have HV := Lib.hid hV
  have HUL := Lib.hid hUl
  have HVL := Lib.hid hVl
  have HUO := Lib.hid hUo
  have HVO := Lib.hid hVo
  have HX := Lib.hid hX
  have HXL := Lib.hid hXl
  have HXO := Lib.hid hXo
  have HY := Lib.hid hY
  have HYL := Lib.hid hYl
  have HYO := Lib.hid hYo
  have HT := Lib.hid hT
  have HTA := Lib.hid hta
  have HTB := Lib.hid htb
  have HTC := Lib.hid htc
  clear hs1 hs2 hab ht hU hV hUl hVl hUo hVo hX hXl hXo hY hYl hYo hT hTl hta htb htc
  go_enter Tryd.func13, Tryd.ntmps13
  go_wp2_with (first
    | (go_at_call 28; refine (mawake_any _ hK).mono ?_; rintro e w1 ⟨rfl, hB1⟩; have c1 := k1 w1 hB1; have c2 := k2 w1 hB1)
    | (go_at_call 33; (with_reducible refine (tag_any A B n c m d key a w1 (hK.from hB1) (by omega) (by omega) (hk.below hB1) (ha.below hB1)).mono ?_); rintro e w2 ⟨he, hb2⟩
       rw [HTA.out] at he
       subst he
       have hB2 : Below w.heap.size w w2 := hB1.trans (hb2.mono hB1.size)
       clear hb2)
    | (go_at_call 33; (with_reducible refine (tag_any A D n c p q key b w2 (hK.from hB2) (by omega) (by omega) (hk.below hB2) (hb.below hB2)).mono ?_); rintro e w3 ⟨he, hb3⟩
       rw [HTB.out] at he
       subst he
       have hB3 : Below w.heap.size w w3 := hB2.trans (hb3.mono hB2.size)
       clear hb3)
    | (go_at_call 36; (with_reducible refine (padded_any A n c 54 key w3 (hK.from hB3) (by omega) (hk.below hB3)).mono ?_); rintro e w4 ⟨v4, rfl, hown4, hb4⟩
       rw [← HU.out] at hown4
       have hB4 : Below w.heap.size w w4 := hB3.trans (hb4.mono hB3.size)
       have hown4 : Own w4 w.heap.size v4 U := hown4.mono hB3.size
       have hv4 := hown4.size
       clear hb4)
    | (at_builtin
       refine wpList_append_b rfl (.tmp 46) (.tmp 47) rfl w.heap.size v4 U rfl hown4 B m d a rfl (ha.below hB4) (by rw [HUL.out]; omega) hB4.size ?_
       intro v5 w5 hown5 hg5
       have hB5 : Below w.heap.size w w5 := hB4.grown hg5 hB4.size (fun k hk => (hv4 k hk).1)
       obtain ⟨A5, n5, c5, rfl, hbt5⟩ := hown5.slice (ok_append HUO.out ha.ok)
       have hn5 : n5 ≤ 1048576 := by have h1 := hbt5.len; rw [List.length_append, HUL.out, ha.len] at h1; omega
       clear hg5 hown5 hown4 hv4)
    | (go_at_call 26; (with_reducible refine (sum_yes A5 n5 c5 (U ++ a) w5 (hK.from hB5) hn5 hbt5).mono ?_); rintro e w6 ⟨he, hb6⟩
       rw [← HX.out] at he
       subst he
       have hB6 : Below w.heap.size w w6 := hB5.trans (hb6.mono hB5.size)
       clear hb6 hbt5)
    | ((with_reducible refine wpList_store_b rfl 33 _ _ rfl w6.heap.size X ?hx ?hy 33 (List.replicate 32 0) (rowb_lit w6 33 _ _ ?hz) (info32 HXL.out) ?hl ?_); (case hx => rfl); (case hy => rfl); (case hz => rfl); (case hl => rw [HXL.out]; rfl)
       intro w7 hg7 hX7 hs7
       have hB7 : Below w.heap.size w w7 := Below.grows (hB6.alloc hB6.size _) hg7 (Nat.le_trans hB6.size (size_le_alloc _ _)) hB6.size
       clear hg7 hs7)
    | (go_at_call 36; (with_reducible refine (padded_any A n c 54 key w7 (hK.from hB7) (by omega) (hk.below hB7)).mono ?_); rintro e w8 ⟨v8, rfl, hown8, hb8⟩
       rw [← HU.out] at hown8
       have hB8 : Below w.heap.size w w8 := hB7.trans (hb8.mono hB7.size)
       have hX8 := hX7.keep hb8
       have hX7l := hX7.lt
       have hv8 := hown8.size
       have hz8 := hb8.size
       have hz7 := hB7.size
       clear hb8)
    | (at_builtin
       refine wpList_append_b rfl (.tmp 51) (.tmp 52) rfl w7.heap.size v8 U rfl hown8 D p q b rfl (hb.below hB8) (by rw [HUL.out]; omega) hz8 ?_
       intro v9 w9 hown9 hg9
       have hB9 : Below w.heap.size w w9 := hB8.grown hg9 hB8.size (fun k hk => by have := (hv8 k hk).1; omega)
       have hX9 : RowB w9 w6.heap.size 33 X := hX8.grown hg9 (fun e => by have := (hv8 _ e.symm).1; omega)
       obtain ⟨A9, n9, c9, rfl, hbt9⟩ := hown9.slice (ok_append HUO.out hb.ok)
       have hn9 : n9 ≤ 1048576 := by have h1 := hbt9.len; rw [List.length_append, HUL.out, hb.len] at h1; omega
       clear hg9 hown9 hown8 hv8)
    | (go_at_call 26; (with_reducible refine (sum_yes A9 n9 c9 (U ++ b) w9 (hK.from hB9) hn9 hbt9).mono ?_); rintro e w10 ⟨he, hb10⟩
       rw [← HY.out] at he
       subst he
       have hB10 : Below w.heap.size w w10 := hB9.trans (hb10.mono hB9.size)
       have hX10 := hX9.keep hb10
       have hX10l := hX10.lt
       clear hb10 hbt9)
    | ((with_reducible refine wpList_store_b rfl 33 _ _ rfl w10.heap.size Y ?dx ?dy 33 (List.replicate 32 0) (rowb_lit w10 33 _ _ ?dz) (info32 HYL.out) ?dl ?_); (case dx => rfl); (case dy => rfl); (case dz => rfl); (case dl => rw [HYL.out]; rfl)
       intro w11 hg11 hY11 hs11
       have hX11 : RowB w11 w6.heap.size 33 X := (hX10.more _).grown hg11 (ne_some (Nat.ne_of_lt hX10l))
       have hB11 : Below w.heap.size w w11 := Below.grows (hB10.alloc hB10.size _) hg11 (Nat.le_trans hB10.size (size_le_alloc _ _)) hB10.size
       clear hg11 hs11)
    | fail)
  clear k1 k2 hX7 hX8 hX9 hX10
  have hY11l := hY11.lt
  have hX11l := hX11.lt
  have hKT := hK
  refine wp_region_held_drew (S := (fun w' => w'.rangeAt w6.heap.size 0 (byv X) ∧ w'.rangeAt w10.heap.size 0 (byv Y))) (by kernel_rfl) ⟨hX11.range, hY11.range⟩ (fun hHeld => ?_)
  refine take_long 0 33 (.tmp 8) w6.heap.size (byv X) _ rfl rfl rfl (by kernel_rfl) (by kernel_rfl) (by kernel_rfl) (fun _ _ _ h => h) rfl hHeld (fun _ h => h.1) hu33 rfl (by rw [hX32]; exact hi33) ?_
  simp only [Act.put, List.setIfInBounds_toArray, List.set_cons_zero, List.set_cons_succ]
  refine take_long 1 33 (.tmp 9) w10.heap.size (byv Y) _ rfl rfl rfl (by kernel_rfl) (by kernel_rfl) (by kernel_rfl) (fun _ _ _ h => h) rfl hHeld (fun _ h => h.2) hu33 rfl (by rw [hY32]; exact hi33) ?_
  simp only [Act.put, List.setIfInBounds_toArray, List.set_cons_zero, List.set_cons_succ]
  refine take_run 2 (.bool false) rfl (by kernel_rfl) (by kernel_rfl) (by kernel_rfl) (fun _ _ _ h => h) rfl hHeld (fun w => ?_) ?_
  · go_simp
  simp only [Act.put, List.setIfInBounds_toArray, List.set_cons_zero, List.set_cons_succ]
  refine take_move 3 (.tmp 57) (.bool false) rfl rfl rfl (by kernel_rfl) (by kernel_rfl) (by kernel_rfl) (fun _ _ _ h => h) rfl hHeld ?_
  simp only [Act.put, List.setIfInBounds_toArray, List.set_cons_zero, List.set_cons_succ]
  refine take_move 4 (.tmp 0) (.slice A n c) rfl rfl rfl (by kernel_rfl) (by kernel_rfl) (by kernel_rfl) (fun _ _ _ h => h) rfl hHeld ?_
  simp only [Act.put, List.setIfInBounds_toArray, List.set_cons_zero, List.set_cons_succ]
  refine take_run 6 (.slice (some ⟨w6.heap.size, 0, none⟩) 32 32) rfl (by kernel_rfl) (by kernel_rfl) (by kernel_rfl) (fun _ _ _ h => h) rfl hHeld (fun w => ?_) ?_
  · go_simp
  simp only [Act.put, List.setIfInBounds_toArray, List.set_cons_zero, List.set_cons_succ]
  refine take_move 9 (.tmp 0) (.slice A n c) rfl rfl rfl (by kernel_rfl) (by kernel_rfl) (by kernel_rfl) (fun _ _ _ h => h) rfl hHeld ?_
  simp only [Act.put, List.setIfInBounds_toArray, List.set_cons_zero, List.set_cons_succ]
  refine take_run 11 (.slice (some ⟨w10.heap.size, 0, none⟩) 32 32) rfl (by kernel_rfl) (by kernel_rfl) (by kernel_rfl) (fun _ _ _ h => h) rfl hHeld (fun w => ?_) ?_
  · go_simp
  simp only [Act.put, List.setIfInBounds_toArray, List.set_cons_zero, List.set_cons_succ]
  refine one_step 5 (by kernel_rfl) rfl (fun K hK => ?_)
  go_simp
  go_at_call 36
  refine (padded_any A n c 92 key w11.drew (hKT.from hB11.drew) (by omega) (hk.below hB11.drew)).mono ?_
  rintro e w12 ⟨v12, rfl, hown12, hb12⟩
  rw [← HV.out] at hown12
  have hb12 := below_draw hb12
  have hown12 : Own w12 w11.heap.size v12 V := hown12
  have hB12 : Below w.heap.size w w12 := hB11.trans (hb12.mono hB11.size)
  have hX12 := hX11.keep hb12
  have hY12 := hY11.keep hb12
  have hv12 := hown12.size
  have hz12 := hb12.size
  have hz11 := hB11.size
  refine hK.out _ _ ⟨hX12.range, hY12.range⟩ (fun hHeld => ?_)
  clear hb12 hK K
  try simp only [Act.put, List.setIfInBounds_toArray, List.set_cons_zero, List.set_cons_succ]
  refine one_step 7 (by kernel_rfl) rfl (fun K hK => ?_)
  refine step_append_o (.tmp 60) (.tmp 61) rfl w11.heap.size v12 V rfl hown12 (some ⟨w6.heap.size, 0, none⟩) 32 32 X rfl (hX12.btsAt HXL.out (by unfold maxLen; omega) HXO.out) (by rw [HVL.out]; omega) hz12 rfl ?_
  intro v13 w13 hown13 hg13
  have hB13 : Below w.heap.size w w13 := hB12.grown hg13 hB12.size (fun k hk => by have := (hv12 k hk).1; omega)
  have hX13 : RowB w13 w6.heap.size 33 X := hX12.grown hg13 (fun e => by have := (hv12 _ e.symm).1; omega)
  have hY13 : RowB w13 w10.heap.size 33 Y := hY12.grown hg13 (fun e => by have := (hv12 _ e.symm).1; omega)
  obtain ⟨A13, n13, c13, rfl, hbt13⟩ := hown13.slice (ok_append HVO.out HXO.out)
  have hn13 : n13 ≤ 1048576 := by have h1 := hbt13.len; rw [List.length_append, HVL.out, HXL.out] at h1; omega
  refine hK.out _ _ ⟨hX13.range, hY13.range⟩ (fun hHeld => ?_)
  clear hg13 hown13 hown12 hv12 hK K
  try simp only [Act.put, List.setIfInBounds_toArray, List.set_cons_zero, List.set_cons_succ]
  refine one_step 8 (by kernel_rfl) rfl (fun K hK => ?_)
  go_simp
  go_at_call 26
  refine (sum_yes A13 n13 c13 (V ++ X) w13 (hKT.from hB13) hn13 hbt13).mono ?_
  rintro e w14 ⟨he, hb14⟩
  rw [← HT.out] at he
  subst he
  have hB14 : Below w.heap.size w w14 := hB13.trans (hb14.mono hB13.size)
  have hX14 := hX13.keep hb14
  have hY14 := hY13.keep hb14
  refine hK.out _ _ ⟨hX14.range, hY14.range⟩ (fun hHeld => ?_)
  clear hb14 hbt13 hK K
  try simp only [Act.put, List.setIfInBounds_toArray, List.set_cons_zero, List.set_cons_succ]
  refine one_step 10 (by kernel_rfl) rfl (fun K hK => ?_)
  go_simp
  go_at_call 36
  refine (padded_any A n c 92 key w14 (hKT.from hB14) (by omega) (hk.below hB14)).mono ?_
  rintro e w15 ⟨v15, rfl, hown15, hb15⟩
  rw [← HV.out] at hown15
  have hB15 : Below w.heap.size w w15 := hB14.trans (hb15.mono hB14.size)
  have hX15 := hX14.keep hb15
  have hY15 := hY14.keep hb15
  have hX14l := hX14.lt
  have hY14l := hY14.lt
  have hv15 := hown15.size
  have hz15 := hb15.size
  have hz14 := hB14.size
  refine hK.out _ _ ⟨hX15.range, hY15.range⟩ (fun hHeld => ?_)
  clear hb15 hK K
  try simp only [Act.put, List.setIfInBounds_toArray, List.set_cons_zero, List.set_cons_succ]
  refine one_step 12 (by kernel_rfl) rfl (fun K hK => ?_)
  refine step_append_o (.tmp 65) (.tmp 66) rfl w14.heap.size v15 V rfl hown15 (some ⟨w10.heap.size, 0, none⟩) 32 32 Y rfl (hY15.btsAt HYL.out (by unfold maxLen; omega) HYO.out) (by rw [HVL.out]; omega) hz15 rfl ?_
  intro v16 w16 hown16 hg16
  have hB16 : Below w.heap.size w w16 := hB15.grown hg16 hB15.size (fun k hk => by have := (hv15 k hk).1; omega)
  have hX16 : RowB w16 w6.heap.size 33 X := hX15.grown hg16 (fun e => by have := (hv15 _ e.symm).1; omega)
  have hY16 : RowB w16 w10.heap.size 33 Y := hY15.grown hg16 (fun e => by have := (hv15 _ e.symm).1; omega)
  obtain ⟨A16, n16, c16, rfl, hbt16⟩ := hown16.slice (ok_append HVO.out HYO.out)
  have hn16 : n16 ≤ 1048576 := by have h1 := hbt16.len; rw [List.length_append, HVL.out, HYL.out] at h1; omega
  refine hK.out _ _ ⟨hX16.range, hY16.range⟩ (fun hHeld => ?_)
  clear hg16 hown16 hown15 hv15 hK K
  try simp only [Act.put, List.setIfInBounds_toArray, List.set_cons_zero, List.set_cons_succ]
  refine one_step 13 (by kernel_rfl) rfl (fun K hK => ?_)
  go_simp
  go_at_call 26
  refine (sum_yes A16 n16 c16 (V ++ Y) w16 (hKT.from hB16) hn16 hbt16).mono ?_
  rintro e w17 ⟨he, hb17⟩
  rw [HTC.out] at he
  subst he
  have hB17 : Below w.heap.size w w17 := hB16.trans (hb17.mono hB16.size)
  have hX17 := hX16.keep hb17
  have hY17 := hY16.keep hb17
  refine hK.out _ _ ⟨hX17.range, hY17.range⟩ (fun hHeld => ?_)
  clear hb17 hbt16 hK K
  try simp only [Act.put, List.setIfInBounds_toArray, List.set_cons_zero, List.set_cons_succ]
  refine take_run 14 (.bool true) rfl (by kernel_rfl) (by kernel_rfl) (by kernel_rfl) (fun _ _ _ h => h) rfl hHeld (fun w => ?_) ?_
  · go_simp
  simp only [Act.put, List.setIfInBounds_toArray, List.set_cons_zero, List.set_cons_succ]
  refine take_run 15 (.bool true) rfl (by kernel_rfl) (by kernel_rfl) (by kernel_rfl) (fun _ _ _ h => h) rfl hHeld (fun w => ?_) ?_
  · go_simp
  simp only [Act.put, List.setIfInBounds_toArray, List.set_cons_zero, List.set_cons_succ]
  refine take_run 16 (.bool true) rfl (by kernel_rfl) (by kernel_rfl) (by kernel_rfl) (fun _ _ _ h => h) rfl hHeld (fun w => ?_) ?_
  · go_simp
  simp only [Act.put, List.setIfInBounds_toArray, List.set_cons_zero, List.set_cons_succ]
  refine wpAnyH_done (by kernel_rfl) ?_ _
  go_wp2
  go_ret
  exact ⟨rfl, hB17⟩


theorem mcla_all (A B D : Option Addr) (n c m d p q : Nat) (key a b : List Int) (w : World) (hK : KTab w) (hk : Bts w A n c key) (ha : Bts w B m d a) (hb : Bts w D p q b) :
    Calls Tryd.prog 13 #[.slice A n c, .slice B m d, .slice D p q] w fun e w' => e = .returned (.bool true) ∧ Below w.heap.size w w' := by
  by_cases h : 200 < n ∨ 200 < m ∨ 200 < p
  · exact mcla_not A B D n c m d p q w hK hk.small ha.small hb.small h
  · by_cases hab : a = b
    · exact mcla_same A B D n c m d p q key a b w hK (by omega) (by omega) (by omega) hk ha hb hab
    · by_cases ht : tagL key a = tagL key b
      · by_cases hxy : sumL (xorL 54 (blockL key) ++ a) = sumL (xorL 54 (blockL key) ++ b)
        · exact mcla_x A B D n c m d p q key a b w hK (by omega) (by omega) (by omega) hk ha hb hab ht hxy
        · exact mcla_y A B D n c m d p q key a b w hK (by omega) (by omega) (by omega) hk ha hb hab ht hxy
      · exact mcla_diff A B D n c m d p q key a b w hK (by omega) (by omega) (by omega) hk ha hb hab ht
end Go.Proofs.YtomfnnhdihbpfaaDoor
