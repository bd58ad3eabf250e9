/- The walk over the law MacDerive: a key is made just for a label of 1 to 32 bytes. -/
import Derived.Test.YtomfnnhdihbpfaaDoorMacStep
import Derived.Test.YtomfnnhdihbpfaaDoorMacDer
import Derived.Test.YtomfnnhdihbpfaaDoorMacAwake
import Derived.Test.YtomfnnhdihbpfaaDoorShaEq
import Derived.BigQuiet
namespace Go.Proofs.YtomfnnhdihbpfaaDoor
open Go.RowKit

set_option maxHeartbeats 400000 in
theorem mder_not (A B : Option Addr) (n c m d : Nat) (s : ByteArray) (w : World) (hK : KTab w) (hn : n ≤ 9223372036854775807) (hm : m ≤ 9223372036854775807) (hs : s.size ≤ 9223372036854775807) (h : 200 < n ∨ 200 < s.size ∨ 200 < m) :
    Calls Tryd.prog 14 #[.slice A n c, .string s, .slice B m d] w fun e w' => e = .returned (.bool true) ∧ Below w.heap.size w w' := by
  by_cases h1 : 200 < n
  · have h2 : (200 : Int) < n := by omega
    clear h h1
    go_enter Tryd.func14, Tryd.ntmps14
    go_wp2_with (go_at_call 28; refine (mawake_any _ hK).mono ?_; rintro e w1 ⟨rfl, hb1⟩)
    go_ret
    exact ⟨rfl, hb1⟩
  · have h2 : (n : Int) ≤ 200 := by omega
    by_cases h3 : 200 < s.size
    · have h4 : (200 : Int) < s.size := by omega
      clear h h1 h3
      go_enter Tryd.func14, Tryd.ntmps14
      go_wp2_with (go_at_call 28; refine (mawake_any _ hK).mono ?_; rintro e w1 ⟨rfl, hb1⟩)
      go_ret
      exact ⟨rfl, hb1⟩
    · have h4 : (s.size : Int) ≤ 200 := by omega
      have h5 : (200 : Int) < m := by omega
      clear h h1 h3
      go_enter Tryd.func14, Tryd.ntmps14
      go_wp2_with (go_at_call 28; refine (mawake_any _ hK).mono ?_; rintro e w1 ⟨rfl, hb1⟩)
      go_ret
      exact ⟨rfl, hb1⟩

set_option maxRecDepth 100000 in
set_option maxHeartbeats 2000000 in
theorem mder_good (A B : Option Addr) (n c m d : Nat) (key b : List Int) (s : ByteArray) (w : World) (hK : KTab w) (hn : n ≤ 200) (hm : m ≤ 200) (h0 : 0 < s.size) (h32 : s.size ≤ 32) (hk : Bts w A n c key) (hb : Bts w B m d b) :
    Calls Tryd.prog 14 #[.slice A n c, .string s, .slice B m d] w fun e w' => e = .returned (.bool true) ∧ Below w.heap.size w w' := by
  obtain ⟨L, hL⟩ : ∃ L, L = [(s.size : Int)] ++ strL s := ⟨_, rfl⟩
  have hLl : L.length = 1 + s.size := by rw [hL, List.length_append, strL_length]; simp
  have hLo : ∀ j, 0 ≤ L.getD j 0 ∧ L.getD j 0 < 256 := by rw [hL]; exact ok_append (ok_one1 _ (by omega) (by omega)) (strL_ok s)
  obtain ⟨Z, hZ⟩ : ∃ Z, Z = tagL key (L ++ b) := ⟨_, rfl⟩
  have hZl : Z.length = 32 := by rw [hZ, tagL]; exact sumL_length _
  have hfin : tagL key (labelL (strL s) b) = Z := by rw [hZ, labelL, strL_length, hL]
  have heq : ∀ w, (Op.equalIn 10000 33 (.agg (byv Z).toArray) (.agg (idv Z))).run Tryd.prog w = .ok true w := fun w => (eq32 Z Z hZl hZl w).trans (by rw [beq_self_eq_true])
  have hKT := hK
  have hu33 := Tryd.underlying33
  have hi33 : (Tryd.prog.info? 33).map (·.size) = some 32 := by kernel_rfl
  have hZ32 : (byv Z).length = 32 := by rw [byv_length, hZl]
  have h1 : (n : Int) ≤ 200 := by omega
  have h2 : (m : Int) ≤ 200 := by omega
  have h3 : (s.size : Int) ≤ 32 := by omega
  have h4 : (1 : Int) ≤ s.size := by omega
  have HL := Lib.hid hL
  have HLL := Lib.hid hLl
  have HLO := Lib.hid hLo
  have HZ := Lib.hid hZ
  have HZL := Lib.hid hZl
  have HF := Lib.hid hfin
  clear hL hLl hLo hZ hZl hfin
  go_enter Tryd.func14, Tryd.ntmps14
  go_wp2_with (first
    | (go_at_call 28; refine (mawake_any _ hK).mono ?_; rintro e w1 ⟨rfl, hB1⟩)
    | (go_at_call 29; refine (derive_yes A B n c m d key b s w1 (hK.from hB1) (by omega) (by omega) (hk.below hB1) (hb.below hB1) h0 h32).mono ?_; rintro e w2 ⟨he, hb2⟩
       rw [HF.out] at he
       subst he
       have hB2 : Below w.heap.size w w2 := hB1.trans (hb2.mono hB1.size)
       clear hb2)
    | ((with_reducible refine wpList_store_b rfl 33 _ _ rfl w2.heap.size Z ?hx ?hy 33 (List.replicate 32 0) (rowb_lit w2 33 _ _ ?hz) (info32 HZL.out) ?hl ?_); (case hx => rfl); (case hy => rfl); (case hz => rfl); (case hl => rw [HZL.out]; rfl)
       intro w3 hg3 hZ3 hs3
       have hB3 : Below w.heap.size w w3 := Below.grows (hB2.alloc hB2.size _) hg3 (Nat.le_trans hB2.size (size_le_alloc _ _)) hB2.size
       clear hg3 hs3)
    | (at_builtin
       refine wpList_append_str rfl (.tmp 50) (.tmp 51) rfl w3.heap.size _ [(s.size : Int)] rfl (one_own w3 _) s rfl (by simp only [List.length_cons, List.length_nil]; omega) (size_le_alloc _ _) ?_
       intro v4 w4 hown4 hg4
       have hg4 : (w3.alloc _).grownBy w4 (some w3.heap.size) := hg4
       rw [← HL.out] at hown4
       have hB4 : Below w.heap.size w w4 := (hB3.alloc hB3.size _).grown hg4 (Nat.le_trans hB3.size (size_le_alloc _ _)) (fun k hk => by injection hk with hk; have := hB3.size; omega)
       have hZ4 : RowB w4 w2.heap.size 33 Z := (hZ3.more _).grown hg4 (ne_some (Nat.ne_of_lt hZ3.lt))
       have hv4 := hown4.size
       have hw34 : w3.heap.size ≤ w4.drew.heap.size := Nat.le_trans (size_le_alloc _ _) hg4.size
       clear hg4))
  have hZ3l := hZ3.lt
  clear hZ3
  have hR4 := hZ4.range
  refine wp_region_held_drew (S := fun w' => w'.rangeAt w2.heap.size 0 (byv Z)) (by kernel_rfl) hR4 (fun hHeld => ?_)
  refine take_move 0 (.tmp 9) (.bool true) rfl rfl rfl (by kernel_rfl) (by kernel_rfl) (by kernel_rfl) (fun _ _ _ h => h) rfl hHeld ?_
  simp only [Act.put, List.setIfInBounds_toArray, List.set_cons_zero, List.set_cons_succ]
  refine take_run 1 (.bool false) rfl (by kernel_rfl) (by kernel_rfl) (by kernel_rfl) (fun _ _ _ h => h) rfl hHeld (fun w => ?_) ?_
  · go_simp
  simp only [Act.put, List.setIfInBounds_toArray, List.set_cons_zero, List.set_cons_succ]
  refine take_move 2 (.tmp 54) (.bool false) rfl rfl rfl (by kernel_rfl) (by kernel_rfl) (by kernel_rfl) (fun _ _ _ h => h) rfl hHeld ?_
  simp only [Act.put, List.setIfInBounds_toArray, List.set_cons_zero, List.set_cons_succ]
  refine take_off 3 rfl (by kernel_rfl) (by kernel_rfl) (by kernel_rfl) (fun _ _ _ h => h) rfl hHeld ?_
  simp only [Act.put, List.setIfInBounds_toArray, List.set_cons_zero, List.set_cons_succ]
  refine take_off 4 rfl (by kernel_rfl) (by kernel_rfl) (by kernel_rfl) (fun _ _ _ h => h) rfl hHeld ?_
  simp only [Act.put, List.setIfInBounds_toArray, List.set_cons_zero, List.set_cons_succ]
  refine take_off 5 rfl (by kernel_rfl) (by kernel_rfl) (by kernel_rfl) (fun _ _ _ h => h) rfl hHeld ?_
  simp only [Act.put, List.setIfInBounds_toArray, List.set_cons_zero, List.set_cons_succ]
  refine take_run 6 (.bool false) rfl (by kernel_rfl) (by kernel_rfl) (by kernel_rfl) (fun _ _ _ h => h) rfl hHeld (fun w => ?_) ?_
  · go_simp
  simp only [Act.put, List.setIfInBounds_toArray, List.set_cons_zero, List.set_cons_succ]
  refine take_move 7 (.tmp 59) (.bool false) rfl rfl rfl (by kernel_rfl) (by kernel_rfl) (by kernel_rfl) (fun _ _ _ h => h) rfl hHeld ?_
  simp only [Act.put, List.setIfInBounds_toArray, List.set_cons_zero, List.set_cons_succ]
  refine take_move 8 (.tmp 9) (.bool true) rfl rfl rfl (by kernel_rfl) (by kernel_rfl) (by kernel_rfl) (fun _ _ _ h => h) rfl hHeld ?_
  simp only [Act.put, List.setIfInBounds_toArray, List.set_cons_zero, List.set_cons_succ]
  refine take_move 9 (.tmp 61) (.bool true) rfl rfl rfl (by kernel_rfl) (by kernel_rfl) (by kernel_rfl) (fun _ _ _ h => h) rfl hHeld ?_
  simp only [Act.put, List.setIfInBounds_toArray, List.set_cons_zero, List.set_cons_succ]
  refine take_long 10 33 (.tmp 8) w2.heap.size (byv Z) _ rfl rfl rfl (by kernel_rfl) (by kernel_rfl) (by kernel_rfl) (fun _ _ _ h => h) rfl hHeld (fun _ h => h) hu33 rfl (by rw [hZ32]; exact hi33) ?_
  simp only [Act.put, List.setIfInBounds_toArray, List.set_cons_zero, List.set_cons_succ]
  refine take_move 11 (.tmp 0) (.slice A n c) rfl rfl rfl (by kernel_rfl) (by kernel_rfl) (by kernel_rfl) (fun _ _ _ h => h) rfl hHeld ?_
  simp only [Act.put, List.setIfInBounds_toArray, List.set_cons_zero, List.set_cons_succ]
  refine take_move 12 (.tmp 10) v4 rfl rfl rfl (by kernel_rfl) (by kernel_rfl) (by kernel_rfl) (fun _ _ _ h => h) rfl hHeld ?_
  simp only [Act.put, List.setIfInBounds_toArray, List.set_cons_zero, List.set_cons_succ]
  refine take_move 13 (.tmp 2) (.slice B m d) rfl rfl rfl (by kernel_rfl) (by kernel_rfl) (by kernel_rfl) (fun _ _ _ h => h) rfl hHeld ?_
  simp only [Act.put, List.setIfInBounds_toArray, List.set_cons_zero, List.set_cons_succ]
  refine one_step 14 (by kernel_rfl) rfl (fun K hK => ?_)
  refine step_append_o (.tmp 65) (.tmp 66) rfl w3.heap.size v4 L rfl hown4.draw1 B m d b rfl (hb.below hB4).draw1 (by rw [HLL.out]; omega) hw34 rfl ?_
  intro v5 w5 hown5 hg5
  have hB5 : Below w.heap.size w w5 := hB4.drew.grown hg5 hB4.size (fun k hk => by have := (hv4 k hk).1; have := hB3.size; omega)
  have hZ5 : RowB w5 w2.heap.size 33 Z := hZ4.draw1.grown hg5 (fun e => by have := (hv4 _ e.symm).1; omega)
  obtain ⟨A5, n5, c5, rfl, hbt5⟩ := hown5.slice (ok_append HLO.out hb.ok)
  have hn5 : n5 ≤ 1048512 := by have h1 := hbt5.len; rw [List.length_append, HLL.out, hb.len] at h1; omega
  refine hK.out _ _ hZ5.range (fun hHeld => ?_)
  clear hg5 hown5 hK K
  try simp only [Act.put, List.setIfInBounds_toArray, List.set_cons_zero, List.set_cons_succ]
  refine one_step 15 (by kernel_rfl) rfl (fun K hK => ?_)
  go_simp
  go_at_call 33
  refine (tag_any A A5 n c n5 c5 key (L ++ b) w5 (hKT.from hB5) (by omega) (by omega) (hk.below hB5) hbt5).mono ?_
  rintro e w6 ⟨he, hb6⟩
  rw [← HZ.out] at he
  subst he
  have hB6 : Below w.heap.size w w6 := hB5.trans (hb6.mono hB5.size)
  refine hK.out _ _ (hZ5.keep hb6).range (fun hHeld => ?_)
  clear hb6 hK K
  try simp only [Act.put, List.setIfInBounds_toArray, List.set_cons_zero, List.set_cons_succ]
  refine take_run 16 (.bool true) rfl (by kernel_rfl) (by kernel_rfl) (by kernel_rfl) (fun _ _ _ h => h) rfl hHeld (fun w => ?_) ?_
  · go_simp
  simp only [Act.put, List.setIfInBounds_toArray, List.set_cons_zero, List.set_cons_succ]
  refine take_run 17 (.bool true) rfl (by kernel_rfl) (by kernel_rfl) (by kernel_rfl) (fun _ _ _ h => h) rfl hHeld (fun w => ?_) ?_
  · go_simp
  simp only [Act.put, List.setIfInBounds_toArray, List.set_cons_zero, List.set_cons_succ]
  refine take_run 18 (.bool true) rfl (by kernel_rfl) (by kernel_rfl) (by kernel_rfl) (fun _ _ _ h => h) rfl hHeld (fun w => ?_) ?_
  · go_simp
  simp only [Act.put, List.setIfInBounds_toArray, List.set_cons_zero, List.set_cons_succ]
  refine take_run 19 (.bool true) rfl (by kernel_rfl) (by kernel_rfl) (by kernel_rfl) (fun _ _ _ h => h) rfl hHeld (fun w => ?_) ?_
  · go_simp
  simp only [Act.put, List.setIfInBounds_toArray, List.set_cons_zero, List.set_cons_succ]
  refine wpAnyH_done (by kernel_rfl) ?_ _
  go_wp2
  go_ret
  exact ⟨rfl, hB6⟩

set_option maxRecDepth 100000 in
set_option maxHeartbeats 2000000 in
theorem mder_bad (A B : Option Addr) (n c m d : Nat) (s : ByteArray) (w : World) (hK : KTab w) (hn : n ≤ 200) (hm : m ≤ 200) (hs : s.size ≤ 200) (h : s.size = 0 ∨ 32 < s.size) :
    Calls Tryd.prog 14 #[.slice A n c, .string s, .slice B m d] w fun e w' => e = .returned (.bool true) ∧ Below w.heap.size w w' := by
  obtain ⟨Z, hZ⟩ : ∃ Z, Z = List.replicate 32 (0 : Int) := ⟨_, rfl⟩
  have hZl : Z.length = 32 := by rw [hZ]; rfl
  have heq : ∀ w, (Op.equalIn 10000 33 (.agg (byv Z).toArray) (.agg #[.int .u8 0, .int .u8 0, .int .u8 0, .int .u8 0, .int .u8 0, .int .u8 0, .int .u8 0, .int .u8 0, .int .u8 0, .int .u8 0, .int .u8 0, .int .u8 0, .int .u8 0, .int .u8 0, .int .u8 0, .int .u8 0, .int .u8 0, .int .u8 0, .int .u8 0, .int .u8 0, .int .u8 0, .int .u8 0, .int .u8 0, .int .u8 0, .int .u8 0, .int .u8 0, .int .u8 0, .int .u8 0, .int .u8 0, .int .u8 0, .int .u8 0, .int .u8 0])).run Tryd.prog w = .ok true w := fun w => by rw [hZ]; exact eq32z w
  have hu33 := Tryd.underlying33
  have hi33 : (Tryd.prog.info? 33).map (·.size) = some 32 := by kernel_rfl
  have hZ32 : (byv Z).length = 32 := by rw [byv_length, hZl]
  have HZ := Lib.hid hZ
  have HZL := Lib.hid hZl
  clear hZ hZl
  have h1 : (n : Int) ≤ 200 := by omega
  have h2 : (m : Int) ≤ 200 := by omega
  have h3 : (s.size : Int) ≤ 200 := by omega
  have hge : (decide ((1 : Int) ≤ s.size) && decide ((s.size : Int) ≤ 32)) = false := by
    rw [Bool.and_eq_false_iff, decide_eq_false_iff_not, decide_eq_false_iff_not]; omega
  go_enter Tryd.func14, Tryd.ntmps14
  go_wp2_with (first
    | (go_at_call 28; refine (mawake_any _ hK).mono ?_; rintro e w1 ⟨rfl, hB1⟩)
    | (go_at_call 29; refine (derive_no A B n c m d s w1 (by omega) h).mono ?_; rintro e w2 ⟨he, hb2⟩
       rw [← HZ.out] at he
       subst he
       have hB2 : Below w.heap.size w w2 := hB1.trans (hb2.mono hB1.size)
       clear hb2)
    | ((with_reducible refine wpList_store_b rfl 33 _ _ rfl w2.heap.size Z ?hx ?hy 33 (List.replicate 32 0) (rowb_lit w2 33 _ _ ?hz) (info32 HZL.out) ?hl ?_); (case hx => rfl); (case hy => rfl); (case hz => rfl); (case hl => rw [HZL.out]; rfl)
       intro w3 hg3 hZ3 hs3
       have hB3 : Below w.heap.size w w3 := Below.grows (hB2.alloc hB2.size _) hg3 (Nat.le_trans hB2.size (size_le_alloc _ _)) hB2.size
       clear hg3 hs3)
    | (at_builtin
       refine wpList_append_str rfl (.tmp 50) (.tmp 51) rfl w3.heap.size _ [(s.size : Int)] rfl (one_own w3 _) s rfl (by simp only [List.length_cons, List.length_nil]; omega) (size_le_alloc _ _) ?_
       intro v4 w4 hown4 hg4
       have hg4 : (w3.alloc _).grownBy w4 (some w3.heap.size) := hg4
       have hB4 : Below w.heap.size w w4 := (hB3.alloc hB3.size _).grown hg4 (Nat.le_trans hB3.size (size_le_alloc _ _)) (fun k hk => by injection hk with hk; have := hB3.size; omega)
       have hZ4 : RowB w4 w2.heap.size 33 Z := (hZ3.more _).grown hg4 (ne_some (Nat.ne_of_lt hZ3.lt))
       clear hg4 hown4))
  all_goals
    have hR4 := hZ4.range
    refine wp_region_held_drew (S := fun w' => w'.rangeAt w2.heap.size 0 (byv Z)) (by kernel_rfl) hR4 (fun hHeld => ?_)
    refine take_move 0 (.tmp 9) (.bool false) rfl rfl rfl (by kernel_rfl) (by kernel_rfl) (by kernel_rfl) (fun _ _ _ h => h) rfl hHeld ?_
    simp only [Act.put, List.setIfInBounds_toArray, List.set_cons_zero, List.set_cons_succ]
    refine take_run 1 (.bool true) rfl (by kernel_rfl) (by kernel_rfl) (by kernel_rfl) (fun _ _ _ h => h) rfl hHeld (fun w => ?_) ?_
    · go_simp
    simp only [Act.put, List.setIfInBounds_toArray, List.set_cons_zero, List.set_cons_succ]
    refine take_move 2 (.tmp 54) (.bool true) rfl rfl rfl (by kernel_rfl) (by kernel_rfl) (by kernel_rfl) (fun _ _ _ h => h) rfl hHeld ?_
    simp only [Act.put, List.setIfInBounds_toArray, List.set_cons_zero, List.set_cons_succ]
    refine take_long 3 33 (.tmp 8) w2.heap.size (byv Z) _ rfl rfl rfl (by kernel_rfl) (by kernel_rfl) (by kernel_rfl) (fun _ _ _ h => h) rfl hHeld (fun _ h => h) hu33 rfl (by rw [hZ32]; exact hi33) ?_
    simp only [Act.put, List.setIfInBounds_toArray, List.set_cons_zero, List.set_cons_succ]
    refine take_run 4 (.agg #[.int .u8 0, .int .u8 0, .int .u8 0, .int .u8 0, .int .u8 0, .int .u8 0, .int .u8 0, .int .u8 0, .int .u8 0, .int .u8 0, .int .u8 0, .int .u8 0, .int .u8 0, .int .u8 0, .int .u8 0, .int .u8 0, .int .u8 0, .int .u8 0, .int .u8 0, .int .u8 0, .int .u8 0, .int .u8 0, .int .u8 0, .int .u8 0, .int .u8 0, .int .u8 0, .int .u8 0, .int .u8 0, .int .u8 0, .int .u8 0, .int .u8 0, .int .u8 0]) rfl (by kernel_rfl) (by kernel_rfl) (by kernel_rfl) (fun _ _ _ h => h) rfl hHeld (fun w => ?_) ?_
    · go_simp
    simp only [Act.put, List.setIfInBounds_toArray, List.set_cons_zero, List.set_cons_succ]
    refine take_run 5 (.bool true) rfl (by kernel_rfl) (by kernel_rfl) (by kernel_rfl) (fun _ _ _ h => h) rfl hHeld (fun w => ?_) ?_
    · go_simp
    simp only [Act.put, List.setIfInBounds_toArray, List.set_cons_zero, List.set_cons_succ]
    refine take_run 6 (.bool true) rfl (by kernel_rfl) (by kernel_rfl) (by kernel_rfl) (fun _ _ _ h => h) rfl hHeld (fun w => ?_) ?_
    · go_simp
    simp only [Act.put, List.setIfInBounds_toArray, List.set_cons_zero, List.set_cons_succ]
    refine take_move 7 (.tmp 59) (.bool true) rfl rfl rfl (by kernel_rfl) (by kernel_rfl) (by kernel_rfl) (fun _ _ _ h => h) rfl hHeld ?_
    simp only [Act.put, List.setIfInBounds_toArray, List.set_cons_zero, List.set_cons_succ]
    refine take_off 8 rfl (by kernel_rfl) (by kernel_rfl) (by kernel_rfl) (fun _ _ _ h => h) rfl hHeld ?_
    simp only [Act.put, List.setIfInBounds_toArray, List.set_cons_zero, List.set_cons_succ]
    refine take_off 9 rfl (by kernel_rfl) (by kernel_rfl) (by kernel_rfl) (fun _ _ _ h => h) rfl hHeld ?_
    simp only [Act.put, List.setIfInBounds_toArray, List.set_cons_zero, List.set_cons_succ]
    refine take_off 10 rfl (by kernel_rfl) (by kernel_rfl) (by kernel_rfl) (fun _ _ _ h => h) rfl hHeld ?_
    simp only [Act.put, List.setIfInBounds_toArray, List.set_cons_zero, List.set_cons_succ]
    refine take_off 11 rfl (by kernel_rfl) (by kernel_rfl) (by kernel_rfl) (fun _ _ _ h => h) rfl hHeld ?_
    simp only [Act.put, List.setIfInBounds_toArray, List.set_cons_zero, List.set_cons_succ]
    refine take_off 12 rfl (by kernel_rfl) (by kernel_rfl) (by kernel_rfl) (fun _ _ _ h => h) rfl hHeld ?_
    simp only [Act.put, List.setIfInBounds_toArray, List.set_cons_zero, List.set_cons_succ]
    refine take_off 13 rfl (by kernel_rfl) (by kernel_rfl) (by kernel_rfl) (fun _ _ _ h => h) rfl hHeld ?_
    simp only [Act.put, List.setIfInBounds_toArray, List.set_cons_zero, List.set_cons_succ]
    refine take_off 14 rfl (by kernel_rfl) (by kernel_rfl) (by kernel_rfl) (fun _ _ _ h => h) rfl hHeld ?_
    simp only [Act.put, List.setIfInBounds_toArray, List.set_cons_zero, List.set_cons_succ]
    refine take_off 15 rfl (by kernel_rfl) (by kernel_rfl) (by kernel_rfl) (fun _ _ _ h => h) rfl hHeld ?_
    simp only [Act.put, List.setIfInBounds_toArray, List.set_cons_zero, List.set_cons_succ]
    refine take_off 16 rfl (by kernel_rfl) (by kernel_rfl) (by kernel_rfl) (fun _ _ _ h => h) rfl hHeld ?_
    simp only [Act.put, List.setIfInBounds_toArray, List.set_cons_zero, List.set_cons_succ]
    refine take_off 17 rfl (by kernel_rfl) (by kernel_rfl) (by kernel_rfl) (fun _ _ _ h => h) rfl hHeld ?_
    simp only [Act.put, List.setIfInBounds_toArray, List.set_cons_zero, List.set_cons_succ]
    refine take_run 18 (.bool true) rfl (by kernel_rfl) (by kernel_rfl) (by kernel_rfl) (fun _ _ _ h => h) rfl hHeld (fun w => ?_) ?_
    · go_simp
    simp only [Act.put, List.setIfInBounds_toArray, List.set_cons_zero, List.set_cons_succ]
    refine take_run 19 (.bool true) rfl (by kernel_rfl) (by kernel_rfl) (by kernel_rfl) (fun _ _ _ h => h) rfl hHeld (fun w => ?_) ?_
    · go_simp
    simp only [Act.put, List.setIfInBounds_toArray, List.set_cons_zero, List.set_cons_succ]
    refine wpAnyH_done (by kernel_rfl) ?_ _
    go_wp2
    go_ret
    exact ⟨rfl, hB4.drew⟩

theorem mder_all (A B : Option Addr) (n c m d : Nat) (key b : List Int) (s : ByteArray) (w : World) (hK : KTab w) (hk : Bts w A n c key) (hb : Bts w B m d b) (hs : s.size ≤ maxLen) :
    Calls Tryd.prog 14 #[.slice A n c, .string s, .slice B m d] w fun e w' => e = .returned (.bool true) ∧ Below w.heap.size w w' := by
  by_cases h : 200 < n ∨ 200 < s.size ∨ 200 < m
  · exact mder_not A B n c m d s w hK hk.small hb.small (by unfold maxLen at hs; omega) h
  · by_cases h2 : s.size = 0 ∨ 32 < s.size
    · exact mder_bad A B n c m d s w hK (by omega) (by omega) (by omega) h2
    · exact mder_good A B n c m d key b s w hK (by omega) (by omega) (by omega) (by omega) hk hb
end Go.Proofs.YtomfnnhdihbpfaaDoor
