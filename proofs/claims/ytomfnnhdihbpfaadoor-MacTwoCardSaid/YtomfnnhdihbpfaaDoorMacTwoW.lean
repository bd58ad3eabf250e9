/- The walk over the law MacTwo: a tag is the sum of what it is of. -/
import Derived.Test.YtomfnnhdihbpfaaDoorMacPad
import Derived.Test.YtomfnnhdihbpfaaDoorMacAwake
import Derived.Test.YtomfnnhdihbpfaaDoorShaEq
namespace Go.Proofs.YtomfnnhdihbpfaaDoor
open Go.RowKit

set_option maxHeartbeats 400000 in
theorem mtwo_not (A B : Option Addr) (n c m d : Nat) (w : World) (hK : KTab w) (hn : n ≤ 9223372036854775807) (hm : m ≤ 9223372036854775807) (h : 200 < n ∨ 200 < m) :
    Calls Tryd.prog 10 #[.slice A n c, .slice B m d] w fun e w' => e = .returned (.bool true) ∧ Below w.heap.size w w' := by
  by_cases h1 : 200 < n
  · have h2 : (200 : Int) < n := by omega
    clear h h1
    go_enter Tryd.func10, Tryd.ntmps10
    go_wp2_with (go_at_call 28; refine (mawake_any _ hK).mono ?_; rintro e w1 ⟨rfl, hb1⟩)
    go_ret
    exact ⟨rfl, hb1⟩
  · have h2 : (n : Int) ≤ 200 := by omega
    have h3 : (200 : Int) < m := by omega
    clear h h1
    go_enter Tryd.func10, Tryd.ntmps10
    go_wp2_with (go_at_call 28; refine (mawake_any _ hK).mono ?_; rintro e w1 ⟨rfl, hb1⟩)
    go_ret
    exact ⟨rfl, hb1⟩

set_option maxRecDepth 100000 in
set_option maxHeartbeats 2000000 in
theorem mtwo_good (A B : Option Addr) (n c m d : Nat) (key b : List Int) (w : World) (hK : KTab w) (hn : n ≤ 200) (hm : m ≤ 200) (hk : Bts w A n c key) (hb : Bts w B m d b) :
    Calls Tryd.prog 10 #[.slice A n c, .slice B m d] w fun e w' => e = .returned (.bool true) ∧ Below w.heap.size w w' := by
  obtain ⟨U, hU⟩ : ∃ U, U = xorL 54 (blockL key) := ⟨_, rfl⟩
  obtain ⟨V, hV⟩ : ∃ V, V = xorL 92 (blockL key) := ⟨_, rfl⟩
  have hUl : U.length = 64 := by rw [hU]; exact xorL_length _ _
  have hVl : V.length = 64 := by rw [hV]; exact xorL_length _ _
  have hUo : ∀ j, 0 ≤ U.getD j 0 ∧ U.getD j 0 < 256 := by rw [hU]; exact ok_xor _ _
  have hVo : ∀ j, 0 ≤ V.getD j 0 ∧ V.getD j 0 < 256 := by rw [hV]; exact ok_xor _ _
  obtain ⟨I, hI⟩ : ∃ I, I = sumL (U ++ b) := ⟨_, rfl⟩
  have hIl : I.length = 32 := by rw [hI]; exact sumL_length _
  have hIo : ∀ j, 0 ≤ I.getD j 0 ∧ I.getD j 0 < 256 := by rw [hI]; exact ok_sum _
  obtain ⟨Z, hZ⟩ : ∃ Z, Z = sumL (V ++ I) := ⟨_, rfl⟩
  have hZl : Z.length = 32 := by rw [hZ]; exact sumL_length _
  have hfin : tagL key b = Z := by rw [hZ, hI, hU, hV, tagL, innerL]
  have heq := eq32 Z Z hZl hZl
  have h1 : (n : Int) ≤ 200 := by omega
  have h2 : (m : Int) ≤ 200 := by omega
  have HU := Lib.hid hU
  have HV := Lib.hid hV
  have HUL := Lib.hid hUl
  have HVL := Lib.hid hVl
  have HUO := Lib.hid hUo
  have HVO := Lib.hid hVo
  have HI := Lib.hid hI
  have HIL := Lib.hid hIl
  have HIO := Lib.hid hIo
  have HZ := Lib.hid hZ
  have HF := Lib.hid hfin
  clear hU hV hUl hVl hUo hVo hI hIl hIo hZ hZl hfin
  go_enter Tryd.func10, Tryd.ntmps10
  go_wp2_with (first
    | (go_at_call 28; refine (mawake_any _ hK).mono ?_; rintro e w1 ⟨rfl, hB1⟩)
    | (go_at_call 36; refine (padded_any A n c 54 key w1 (hK.from hB1) (by omega) (hk.below hB1)).mono ?_; rintro e w2 ⟨v2, rfl, hown2, hb2⟩
       rw [← HU.out] at hown2
       have hB2 : Below w.heap.size w w2 := hB1.trans (hb2.mono hB1.size)
       have hown2 : Own w2 w.heap.size v2 U := hown2.mono hB1.size
       clear hb2)
    | (at_builtin
       refine wpList_append_b rfl (.tmp 22) (.tmp 23) rfl w.heap.size v2 U rfl hown2 B m d b rfl (hb.below hB2) (by rw [HUL.out]; omega) hB2.size ?_
       intro v3 w3 hown3 hg3
       have hB3 : Below w.heap.size w w3 := hB2.grown hg3 hB2.size (fun k hk => (hown2.size k hk).1)
       obtain ⟨A3, n3, c3, rfl, hbt3⟩ := hown3.slice (ok_append HUO.out hb.ok)
       have hn3 : n3 ≤ 1048576 := by have h1 := hbt3.len; rw [List.length_append, HUL.out, hb.len] at h1; omega
       clear hg3 hown3 hown2)
    | (go_at_call 26; refine (sum_yes A3 n3 c3 (U ++ b) w3 (hK.from hB3) hn3 hbt3).mono ?_; rintro e w4 ⟨he, hb4⟩
       rw [← HI.out] at he
       subst he
       have hB4 : Below w.heap.size w w4 := hB3.trans (hb4.mono hB3.size)
       clear hb4 hbt3)
    | ((with_reducible refine wpList_store_b rfl 33 _ _ rfl w4.heap.size I ?hx ?hy 33 (List.replicate 32 0) (rowb_lit w4 33 _ _ ?hz) (info32 HIL.out) ?hl ?_); (case hx => rfl); (case hy => rfl); (case hz => rfl); (case hl => rw [HIL.out]; rfl)
       intro w5 hg5 hI5 hs5
       have hB5 : Below w.heap.size w w5 := Below.grows (hB4.alloc hB4.size _) hg5 (Nat.le_trans hB4.size (size_le_alloc _ _)) hB4.size
       clear hg5))
  go_region_held3 (fun _ => True) (first | trivial)
    (first
    | (go_at_call 33; refine (tag_any A B n c m d key b _ (hK.from hB5.drew) (by omega) (by omega) (hk.below hB5.drew) (hb.below hB5.drew)).mono ?_; rintro e w6 ⟨he, hb6⟩
       rw [HF.out] at he
       subst he
       have hb6 := below_draw hb6
       have hI6 := hI5.keep hb6
       have hB6 : Below w.heap.size w w6 := hB5.trans (hb6.mono hB5.size)
       clear hb6)
    | (go_at_call 36; refine (padded_any A n c 92 key w6 (hK.from hB6) (by omega) (hk.below hB6)).mono ?_; rintro e w7 ⟨v7, rfl, hown7, hb7⟩
       rw [← HV.out] at hown7
       have hI7 := hI6.keep hb7
       have hI6l := hI6.lt
       have hB7 : Below w.heap.size w w7 := hB6.trans (hb7.mono hB6.size)
       have hs7 := hown7.size
       clear hb7)
    | (go_at_call 26; refine (sum_yes A8 n8 c8 (V ++ I) w8 (hK.from hB8) hn8 hbt8).mono ?_; rintro e w9 ⟨he, hb9⟩
       rw [← HZ.out] at he
       subst he
       have hB9 : Below w.heap.size w w9 := hB8.trans (hb9.mono hB8.size)
       clear hb9 hbt8)
    | (refine step_append_b rfl (.tmp 30) (.tmp 31) rfl w.heap.size v7 V rfl (hown7.mono hB6.size) ⟨w4.heap.size, 0, none⟩ 32 32 I rfl (hI7.btsAt HIL.out (by unfold maxLen; omega) HIO.out) (by rw [HVL.out]; omega) hB7.size ?_
       intro v8 w8 hown8 hg8
       have hB8 : Below w.heap.size w w8 := hB7.grown hg8 hB7.size (fun k hk => by have := (hs7 k hk).1; have := hB6.size; omega)
       obtain ⟨A8, n8, c8, rfl, hbt8⟩ := hown8.slice (ok_append HVO.out HIO.out)
       have hn8 : n8 ≤ 1048576 := by have h1 := hbt8.len; rw [List.length_append, HVL.out, HIL.out] at h1; omega
       clear hg8 hown8))
  go_wp2
  go_ret
  exact ⟨by simp, hB9⟩

theorem mtwo_all (A B : Option Addr) (n c m d : Nat) (key b : List Int) (w : World) (hK : KTab w) (hk : Bts w A n c key) (hb : Bts w B m d b) :
    Calls Tryd.prog 10 #[.slice A n c, .slice B m d] w fun e w' => e = .returned (.bool true) ∧ Below w.heap.size w w' := by
  by_cases h : 200 < n ∨ 200 < m
  · exact mtwo_not A B n c m d w hK hk.small hb.small h
  · exact mtwo_good A B n c m d key b w hK (by omega) (by omega) hk hb
end Go.Proofs.YtomfnnhdihbpfaaDoor
