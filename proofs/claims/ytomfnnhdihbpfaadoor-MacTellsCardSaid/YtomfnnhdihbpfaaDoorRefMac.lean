/- The walks over the plain answers' Block, With, Tag and Derive of layer 2. -/
import Derived.Test.YtomfnnhdihbpfaaDoorRefSum
import Derived.Test.YtomfnnhdihbpfaaDoorMacDer
import Derived.Test.YtomfnnhdihbpfaaDoorMacPad
import Derived.Test.YtomfnnhdihbpfaaDoorMacStep
namespace Go.Proofs.YtomfnnhdihbpfaaDoor
open Go.RowKit

theorem size_next1 (w : World) (o : Obj) : (w.alloc o).heap.size = w.heap.size + 1 := by simp
theorem ok_zeros2 {l : List Int} (h : ∀ j, 0 ≤ l.getD j 0 ∧ l.getD j 0 < 256) (k : Nat) : ∀ j, 0 ≤ (l ++ List.replicate k 0).getD j 0 ∧ (l ++ List.replicate k 0).getD j 0 < 256 := ok_append h (ok_rep k)

set_option maxHeartbeats 1000000 in
theorem r2block_short (A : Option Addr) (n c : Nat) (key : List Int) (w : World) (hn : n ≤ 64) (hk : Bts w A n c key) :
    Calls Tryd.prog 32 #[.slice A n c] w fun e w' => ∃ v, e = .returned v ∧ Own w' w.heap.size v (blockL key) ∧ Below w.heap.size w w' := by
  obtain ⟨K, hK⟩ : ∃ K, K = key := ⟨_, rfl⟩
  have hKl : K.length ≤ 64 := by rw [hK, hk.len]; exact hn
  obtain ⟨X, hXb⟩ : ∃ X, X = blockL key := ⟨_, rfl⟩
  have hX : X = padK K := by rw [hXb, blockL, keyL, if_neg (by rw [hk.len]; omega), hK]
  have hKo : ∀ j, 0 ≤ K.getD j 0 ∧ K.getD j 0 < 256 := by rw [hK]; exact hk.ok
  rw [← hXb]
  have hn' : (n : Int) ≤ 64 := by omega
  have HX := Lib.hid hX
  have HKL := Lib.hid hKl
  have HKO := Lib.hid hKo
  have HKE := Lib.hid hK
  clear hX hXb hKl hKo hK
  go_enter Tryd.func32, Tryd.ntmps32
  go_wp2_with (first
    | (at_builtin
       refine wpList_append_b rfl (.const (.slice none 0 0)) (.tmp 5) rfl w.heap.size (.slice none 0 0) [] rfl (Own.nil _ _) A n c key rfl hk (by simp only [List.length_nil]; omega) (Nat.le_refl _) ?_
       intro v1 w1 hownK hg1
       rw [List.nil_append, ← HKE.out] at hownK
       have hBK : Below w.heap.size w w1 := (Below.refl _ _).grown hg1 (Nat.le_refl _) (fun k hk => by cases hk)
       clear hg1))
  go_loopw [3] (fun v wr => ∃ k : Nat, K.length + k ≤ 64 ∧ Own wr w.heap.size v (K ++ List.replicate k 0) ∧ Below w.heap.size w wr) (fun v _ => 65 - lenV v)
  case atStart => exact ⟨0, by rw [Nat.add_zero]; exact HKL.out, by simpa using hownK, hBK⟩
  case round =>
    clear hownK hBK
    obtain ⟨k, hk64, hown, hB⟩ := hrel
    obtain ⟨A', cap, rfl, hbt⟩ := hown.bts (ok_zeros2 HKO.out k)
    have hlen : (K ++ List.replicate k (0 : Int)).length = K.length + k := by simp
    obtain ⟨N, hN⟩ : ∃ N, N = K.length + k := ⟨_, rfl⟩
    obtain ⟨L, hL⟩ : ∃ L, L = K ++ List.replicate k (0 : Int) := ⟨_, rfl⟩
    rw [← hL, ← hN] at hlen
    rw [← hL] at hown hbt
    rw [← hL, hlen]
    rw [hlen] at hown hbt
    have HL := Lib.hid hL
    have HLN := Lib.hid hlen
    have HN := Lib.hid hN
    clear hL hlen
    by_cases hlt : N < 64
    · have ht : (N : Int) < 64 := by omega
      have hsm : L.length + 1 ≤ 140737488355328 := by rw [HLN.out]; omega
      clear hN
      go_wp2_with (first
        | (at_builtin
           refine wpList_append_b rfl (.tmp 17) (.tmp 18) rfl w.heap.size (.slice A' N cap) L rfl (hown.more _) (some ⟨wr.heap.size, 0, none⟩) 1 1 [0] rfl (one_bts wr 0 (by omega) (by omega)) hsm (Nat.le_trans hB.size (size_le_alloc _ _)) ?_
           intro v' w' hown' hg'))
      go_roundw
      case rel =>
        refine ⟨k + 1, by have := HN.out; omega, ?_, (hB.alloc hB.size _).grown hg' (Nat.le_trans hB.size (size_le_alloc _ _)) (fun g hg => (hown.size g hg).1)⟩
        rw [HL.out, List.append_assoc, ← List.replicate_succ'] at hown'
        exact hown'
      case measure =>
        obtain ⟨A'', c', hv, _⟩ := hown'.bts (HL.out ▸ ok_append (ok_zeros2 HKO.out k) (ok_one1 0 (by omega) (by omega)))
        rw [hv]
        simp only [lenV, List.length_append, HLN.out, List.length_cons, List.length_nil]
        omega
    · have ht : ¬ ((N : Int) < 64) := by omega
      have hk' : k = 64 - K.length := by omega
      have hres : L = X := by rw [HL.out, HX.out, hk', padK]
      have HR := Lib.hid hres
      clear hres hk' hN
      go_wp2
      go_ret
      exact ⟨_, rfl, HR.out ▸ hown, hB⟩

set_option maxHeartbeats 1000000 in
theorem r2block_long (A : Option Addr) (n c : Nat) (key : List Int) (w : World) (hn : 64 < n) (hm : n ≤ 1048576) (hk : Bts w A n c key) :
    Calls Tryd.prog 32 #[.slice A n c] w fun e w' => ∃ v, e = .returned v ∧ Own w' w.heap.size v (blockL key) ∧ Below w.heap.size w w' := by
  obtain ⟨K, hK⟩ : ∃ K, K = sumL key := ⟨_, rfl⟩
  have hK32 : K.length = 32 := by rw [hK]; exact sumL_length _
  have hKl : K.length ≤ 64 := by omega
  obtain ⟨X, hXb⟩ : ∃ X, X = blockL key := ⟨_, rfl⟩
  have hX : X = padK K := by rw [hXb, blockL, keyL, if_pos (by rw [hk.len]; exact hn), hK]
  have hKo : ∀ j, 0 ≤ K.getD j 0 ∧ K.getD j 0 < 256 := by rw [hK]; exact ok_sum _
  rw [← hXb]
  have hn' : (64 : Int) < n := by omega
  have HX := Lib.hid hX
  have HKL := Lib.hid hKl
  have HK32 := Lib.hid hK32
  have HKO := Lib.hid hKo
  have HKE := Lib.hid hK
  clear hX hXb hKl hKo hK hK32
  go_enter Tryd.func32, Tryd.ntmps32
  go_wp2_with (first
    | (at_builtin
       refine wpList_append_b rfl (.const (.slice none 0 0)) (.tmp 5) rfl w.heap.size (.slice none 0 0) [] rfl (Own.nil _ _) A n c key rfl hk (by simp only [List.length_nil]; omega) (Nat.le_refl _) ?_
       intro v1 w1 hown1 hg1
       have hB1 : Below w.heap.size w w1 := (Below.refl _ _).grown hg1 (Nat.le_refl _) (fun k hk => by cases hk)
       clear hg1 hown1)
    | (go_at_call 27; refine (rsum_yes A n c key w1 hm (hk.below hB1)).mono ?_; rintro e w2 ⟨he, hb2⟩
       rw [← HKE.out] at he
       subst he
       have hB2 : Below w.heap.size w w2 := hB1.trans (hb2.mono hB1.size)
       clear hb2)
    | ((with_reducible refine wpList_store_b rfl 33 _ _ rfl w2.heap.size K ?hx ?hy 33 (List.replicate 32 0) (rowb_lit w2 33 _ _ ?hz) (info32 HK32.out) ?hl ?_); (case hx => rfl); (case hy => rfl); (case hz => rfl); (case hl => rw [HK32.out]; rfl)
       intro w3 hg3 hK3 hs3
       have hB3 : Below w.heap.size w w3 := Below.grows (hB2.alloc hB2.size _) hg3 (Nat.le_trans hB2.size (size_le_alloc _ _)) hB2.size
       clear hg3 hs3)
    | (at_builtin
       refine wpList_append_b rfl (.const (.slice none 0 0)) (.tmp 12) rfl w.heap.size (.slice none 0 0) [] rfl (Own.nil _ _) (some ⟨w2.heap.size, 0, none⟩) 32 32 K rfl (hK3.btsAt HK32.out (by unfold maxLen; omega) HKO.out) (by simp only [List.length_nil]; omega) hB3.size ?_
       intro v4 w4 hownK hg4
       rw [List.nil_append] at hownK
       have hBK : Below w.heap.size w w4 := hB3.grown hg4 hB3.size (fun k hk => by cases hk)
       clear hg4))
  go_loopw [3] (fun v wr => ∃ k : Nat, K.length + k ≤ 64 ∧ Own wr w.heap.size v (K ++ List.replicate k 0) ∧ Below w.heap.size w wr) (fun v _ => 65 - lenV v)
  case atStart => exact ⟨0, by rw [Nat.add_zero]; exact HKL.out, by simpa using hownK, hBK⟩
  case round =>
    clear hownK hBK
    obtain ⟨k, hk64, hown, hB⟩ := hrel
    obtain ⟨A', cap, rfl, hbt⟩ := hown.bts (ok_zeros2 HKO.out k)
    have hlen : (K ++ List.replicate k (0 : Int)).length = K.length + k := by simp
    obtain ⟨N, hN⟩ : ∃ N, N = K.length + k := ⟨_, rfl⟩
    obtain ⟨L, hL⟩ : ∃ L, L = K ++ List.replicate k (0 : Int) := ⟨_, rfl⟩
    rw [← hL, ← hN] at hlen
    rw [← hL] at hown hbt
    rw [← hL, hlen]
    rw [hlen] at hown hbt
    have HL := Lib.hid hL
    have HLN := Lib.hid hlen
    have HN := Lib.hid hN
    clear hL hlen
    by_cases hlt : N < 64
    · have ht : (N : Int) < 64 := by omega
      have hsm : L.length + 1 ≤ 140737488355328 := by rw [HLN.out]; omega
      clear hN
      go_wp2_with (first
        | (at_builtin
           refine wpList_append_b rfl (.tmp 17) (.tmp 18) rfl w.heap.size (.slice A' N cap) L rfl (hown.more _) (some ⟨wr.heap.size, 0, none⟩) 1 1 [0] rfl (one_bts wr 0 (by omega) (by omega)) hsm (Nat.le_trans hB.size (size_le_alloc _ _)) ?_
           intro v' w' hown' hg'))
      go_roundw
      case rel =>
        refine ⟨k + 1, by have := HN.out; omega, ?_, (hB.alloc hB.size _).grown hg' (Nat.le_trans hB.size (size_le_alloc _ _)) (fun g hg => (hown.size g hg).1)⟩
        rw [HL.out, List.append_assoc, ← List.replicate_succ'] at hown'
        exact hown'
      case measure =>
        obtain ⟨A'', c', hv, _⟩ := hown'.bts (HL.out ▸ ok_append (ok_zeros2 HKO.out k) (ok_one1 0 (by omega) (by omega)))
        rw [hv]
        simp only [lenV, List.length_append, HLN.out, List.length_cons, List.length_nil]
        omega
    · have ht : ¬ ((N : Int) < 64) := by omega
      have hk' : k = 64 - K.length := by omega
      have hres : L = X := by rw [HL.out, HX.out, hk', padK]
      have HR := Lib.hid hres
      clear hres hk' hN
      go_wp2
      go_ret
      exact ⟨_, rfl, HR.out ▸ hown, hB⟩

theorem r2block_any (A : Option Addr) (n c : Nat) (key : List Int) (w : World) (hm : n ≤ 1048576) (hk : Bts w A n c key) :
    Calls Tryd.prog 32 #[.slice A n c] w fun e w' => ∃ v, e = .returned v ∧ Own w' w.heap.size v (blockL key) ∧ Below w.heap.size w w' := by
  by_cases h : 64 < n
  · exact r2block_long A n c key w h hm hk
  · exact r2block_short A n c key w (by omega) hk

set_option maxHeartbeats 1000000 in
theorem r2with_any (A : Option Addr) (n c : Nat) (x : Int) (key : List Int) (w : World) (hn : n ≤ 1048576) (hk : Bts w A n c key) :
    Calls Tryd.prog 43 #[.slice A n c, .int .u8 x] w fun e w' => ∃ v, e = .returned v ∧ Own w' w.heap.size v (xorL x (blockL key)) ∧ Below w.heap.size w w' := by
  obtain ⟨X, hX⟩ : ∃ X, X = blockL key := ⟨_, rfl⟩
  have hXl : X.length = 64 := by rw [hX]; exact blockL_length _
  have hXo : ∀ j, 0 ≤ X.getD j 0 ∧ X.getD j 0 < 256 := by rw [hX]; exact ok_block key hk.ok
  rw [← hX]
  have HX := Lib.hid hX
  have HXL := Lib.hid hXl
  have HXO := Lib.hid hXo
  clear hX hXl hXo
  go_enter Tryd.func43, Tryd.ntmps43
  go_wp2_with (first
    | (go_at_call 32; refine (r2block_any A n c key _ hn hk).mono ?_; rintro e w2 ⟨v2, rfl, hown2, hB2⟩
       rw [← HX.out] at hown2
       obtain ⟨g, cap, rfl, hgb, hgl, hgc, hgm⟩ := hown2.form (by rw [HXL.out]; omega)
       rw [HXL.out] at hown2 hgc ⊢))
  go_loopw [6] (fun i wr => ∃ k : Nat, k ≤ 64 ∧ i = .int .i64 k ∧ Own wr w.heap.size (.slice (some ⟨g, 0, none⟩) 64 cap) (mixL x X k) ∧ g < wr.heap.size ∧ Below w.heap.size w wr) (fun i _ => 64 - (intOf i).toNat)
  case atStart => exact ⟨0, by omega, rfl, hown2, hgl, hB2⟩
  case round =>
    clear hown2 hB2 hgl
    obtain ⟨k, hk, rfl, hown, hgl, hB⟩ := hrel
    have hml := mixL_length x X k
    rw [HXL.out] at hml
    by_cases hlt : k < 64
    · have hcell := hown.cell k (by omega) hml
      have hfr := hown.free k hml
      rw [mixL_at x X k (by rw [HXL.out]; exact hlt)] at hcell
      obtain ⟨y, hy⟩ : ∃ y, y = X.getD k 0 := ⟨_, rfl⟩
      have hnext : mixL x X (k + 1) = (mixL x X k).set k (bits .xor .u8 y x) := by rw [mixL, xorAt, hy]
      rw [← hy] at hcell
      have HN := Lib.hid hnext
      have hput := hown.put k (bits .xor .u8 y x) hml
      have HP := Lib.hid hput
      have HB := Lib.hid hB
      clear hy hnext hml hput hown hB
      go_wp2
      go_roundw
      case rel =>
        refine ⟨k + 1, by omega, by go_num, by rw [HN.out]; exact HP.out.1, by simpa using hgl, HB.out.setCell (p := ⟨g, k, none⟩) hgb _⟩
      case measure => simp [intOf]; omega
    · have hge : 64 ≤ k := by omega
      have h64 : k = 64 := by omega
      rw [h64, mixL_all x X HXL.out] at hown
      have HO := Lib.hid hown
      clear hown h64 hml hk hlt
      go_wp2
      go_ret
      exact ⟨_, rfl, HO.out, hB⟩

set_option maxRecDepth 100000 in
set_option maxHeartbeats 2000000 in
theorem r2tag_any (A B : Option Addr) (n c m d : Nat) (key b : List Int) (w : World) (hn : n ≤ 1048576) (hm : m ≤ 1048512) (hk : Bts w A n c key) (hb : Bts w B m d b) :
    Calls Tryd.prog 34 #[.slice A n c, .slice B m d] w fun e w' => e = .returned (.agg (idv (tagL key b))) ∧ Below w.heap.size w w' := by
  obtain ⟨U, hU⟩ : ∃ U, U = xorL 54 (blockL key) := ⟨_, rfl⟩
  obtain ⟨V, hV⟩ : ∃ V, V = xorL 92 (blockL key) := ⟨_, rfl⟩
  have hUl : U.length = 64 := by rw [hU]; exact xorL_length _ _
  have hVl : V.length = 64 := by rw [hV]; exact xorL_length _ _
  have hUo : ∀ j, 0 ≤ U.getD j 0 ∧ U.getD j 0 < 256 := by rw [hU]; exact ok_xor _ _
  have hVo : ∀ j, 0 ≤ V.getD j 0 ∧ V.getD j 0 < 256 := by rw [hV]; exact ok_xor _ _
  obtain ⟨I, hI⟩ : ∃ I, I = sumL (U ++ b) := ⟨_, rfl⟩
  have hIl : I.length = 32 := by rw [hI]; exact sumL_length _
  have hIo : ∀ j, 0 ≤ I.getD j 0 ∧ I.getD j 0 < 256 := by rw [hI]; exact ok_sum _
  obtain ⟨Z, hZ⟩ : ∃ Z, Z = sumL (V ++ I) := ⟨_, rfl⟩
  have hZl : Z.length = 32 := by rw [hZ]; exact sumL_length _
  have hfin : tagL key b = Z := by rw [hZ, hI, hU, hV, tagL, innerL]
  have hZ32 : (byv Z).length = 32 := by rw [byv_length, hZl]
  have hone := byv_one Z
  have hi32 : (Tryd.prog.info? 33).map (·.size) = some 32 := by kernel_rfl
  rw [hfin]
  have HU := Lib.hid hU
  have HV := Lib.hid hV
  have HUL := Lib.hid hUl
  have HVL := Lib.hid hVl
  have HUO := Lib.hid hUo
  have HVO := Lib.hid hVo
  have HI := Lib.hid hI
  have HIL := Lib.hid hIl
  have HIO := Lib.hid hIo
  have HZ := Lib.hid hZ
  have HZL := Lib.hid hZl
  clear hU hV hUl hVl hUo hVo hI hIl hIo hZ hZl hfin
  go_enter Tryd.func34, Tryd.ntmps34
  go_wp2_with (first
    | (go_at_call 43; refine (r2with_any A n c 54 key _ hn (hk.more _)).mono ?_; rintro e w2 ⟨v2, rfl, hown2, hb2⟩
       rw [← HU.out] at hown2
       have hown2 : Own w2 (w.heap.size + 1) v2 U := by rw [← size_next1 w _]; exact hown2
       obtain ⟨hB2, hz2, hO2⟩ := after_one hb2
       have hO2 : RowB w2 w.heap.size 33 (List.replicate 32 0) := hO2
       have hv2 := hown2.size
       clear hb2)
    | (at_builtin
       refine wpList_append_b rfl (.tmp 7) (.tmp 8) rfl (w.heap.size + 1) v2 U rfl hown2 B m d b rfl (hb.below hB2) (by rw [HUL.out]; omega) hz2 ?_
       intro v3 w3 hown3 hg3
       have hB3 : Below w.heap.size w w3 := hB2.grown hg3 hB2.size (fun k hk => by have := (hv2 k hk).1; omega)
       have hO3 : RowB w3 w.heap.size 33 (List.replicate 32 0) := hO2.grown hg3 (fun e => by have := (hv2 _ e.symm).1; omega)
       obtain ⟨A3, n3, c3, rfl, hbt3⟩ := hown3.slice (ok_append HUO.out hb.ok)
       have hn3 : n3 ≤ 1048576 := by have h1 := hbt3.len; rw [List.length_append, HUL.out, hb.len] at h1; omega
       clear hg3 hown3 hown2 hv2)
    | (go_at_call 27; refine (rsum_yes A3 n3 c3 (U ++ b) w3 hn3 hbt3).mono ?_; rintro e w4 ⟨he, hb4⟩
       rw [← HI.out] at he
       subst he
       have hB4 : Below w.heap.size w w4 := hB3.trans (hb4.mono hB3.size)
       have hO4 := hO3.keep hb4
       have hO4l := hO4.lt
       clear hb4 hbt3)
    | ((with_reducible refine wpList_store_b rfl 33 _ _ rfl w4.heap.size I ?hx ?hy 33 (List.replicate 32 0) (rowb_lit w4 33 _ _ ?hz) (info32 HIL.out) ?hl ?_); (case hx => rfl); (case hy => rfl); (case hz => rfl); (case hl => rw [HIL.out]; rfl)
       intro w5 hg5 hI5 hs5
       have hO5 : RowB w5 w.heap.size 33 (List.replicate 32 0) := (hO4.more _).grown hg5 (ne_some (Nat.ne_of_lt hO4l))
       have hB5 : Below w.heap.size w w5 := Below.grows (hB4.alloc hB4.size _) hg5 (Nat.le_trans hB4.size (size_le_alloc _ _)) hB4.size
       clear hg5 hs5))
  clear hO2 hO3 hO4
  have hI5l := hI5.lt
  have hO5l := hO5.lt
  go_region_held3 (fun _ => True) (first | trivial)
    (first
    | (go_at_call 43; refine (r2with_any A n c 92 key w5.drew hn (hk.below hB5.drew)).mono ?_; rintro e w6 ⟨v6, rfl, hown6, hb6⟩
       have hb6 := below_draw hb6
       have hown6 : Own w6 w5.heap.size v6 (xorL 92 (blockL key)) := hown6
       rw [← HV.out] at hown6
       have hI6 := hI5.keep hb6
       have hO6 := hO5.keep hb6
       have hB6 : Below w.heap.size w w6 := hB5.trans (hb6.mono hB5.size)
       have hv6 := hown6.size
       have hz6 := hb6.size
       have hz5 := hB5.size
       clear hb6)
    | (go_at_call 27; refine (rsum_yes A7 n7 c7 (V ++ I) w7 hn7 hbt7).mono ?_; rintro e w8 ⟨he, hb8⟩
       rw [← HZ.out] at he
       subst he
       have hB8 : Below w.heap.size w w8 := hB7.trans (hb8.mono hB7.size)
       have hO8 := hO7.keep hb8
       have hT8 : w8.there w.heap.size 0 32 := there_of hO8 (by rw [idv_size]; rfl)
       clear hb8 hbt7)
    | (refine step_append_o (.tmp 12) (.tmp 13) rfl w5.heap.size v6 V rfl hown6 (some ⟨w4.heap.size, 0, none⟩) 32 32 I rfl (hI6.btsAt HIL.out (by unfold maxLen; omega) HIO.out) (by rw [HVL.out]; omega) hz6 rfl ?_
       intro v7 w7 hown7 hg7
       have hB7 : Below w.heap.size w w7 := hB6.grown hg7 hB6.size (fun k hk => by have := (hv6 k hk).1; omega)
       have hO7 : RowB w7 w.heap.size 33 (List.replicate 32 0) := hO6.grown hg7 (fun e => by have := (hv6 _ e.symm).1; omega)
       obtain ⟨A7, n7, c7, rfl, hbt7⟩ := hown7.slice (ok_append HVO.out HIO.out)
       have hn7 : n7 ≤ 1048576 := by have h1 := hbt7.len; rw [List.length_append, HVL.out, HIL.out] at h1; omega
       clear hg7 hown7 hown6 hv6))
  go_wp2
  refine bodyPost_ret (v := .agg (idv Z)) ?_ ?_ ?_
  · exact results_cell_row Tryd.results34 _ _ w.heap.size 33 (idv Z) (0, 0) _ rfl (setCells_all hO8 (by rw [hZ32, byv_length]; rfl)) Tryd.underlying33 rfl (info32 HZL.out)
  · rfl
  · exact ⟨rfl, setCells_below (Nat.le_refl _) _ _ _ hB8⟩
end Go.Proofs.YtomfnnhdihbpfaaDoor
