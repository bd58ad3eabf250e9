/- Joined texts: The walks over the plain answers' Block, With, Tag and Derive of layer 2. The walk over the plain answer's Derive of layer 2; both packages' Derive answer the same. The walk over the document's own Secret, where there is no key. The walk over the document's own Secret. The walk over package user's Secret, where there is no key. What both Secrets answer, for every user and session. The walk over the law UserTells: any users may be, or not, have the places, and the roles, and any user the keys, that the document says. -/
import Derived.Test.YtcfkpepohnjdfaaDoorUtJH
import Derived.Test.YtcfkpepohnjdfaaDoorUtJE
import Derived.Test.YtcfkpepohnjdfaaDoorUtJF
import Derived.Test.YtcfkpepohnjdfaaDoorUtJG
/- The walks over the plain answers' Block, With, Tag and Derive of layer 2. -/
namespace Go.Proofs.YtcfkpepohnjdfaaDoor
open Go.RowKit

theorem ok_zeros2 {l : List Int} (h : ∀ j, 0 ≤ l.getD j 0 ∧ l.getD j 0 < 256) (k : Nat) : ∀ j, 0 ≤ (l ++ List.replicate k 0).getD j 0 ∧ (l ++ List.replicate k 0).getD j 0 < 256 := ok_append h (ok_rep k)

set_option maxHeartbeats 1000000 in
theorem r2block_short (A : Option Addr) (n c : Nat) (key : List Int) (w : World) (hn : n ≤ 64) (hk : Bts w A n c key) :
    Calls Tryd.prog 50 #[.slice A n c] w fun e w' => ∃ v, e = .returned v ∧ Own w' w.heap.size v (blockL key) ∧ Below w.heap.size w w' := by
  obtain ⟨K, hK⟩ : ∃ K, K = key := ⟨_, rfl⟩
  have hKl : K.length ≤ 64 := by rw [hK, hk.len]; exact hn
  obtain ⟨X, hXb⟩ : ∃ X, X = blockL key := ⟨_, rfl⟩
  have hX : X = padK K := by rw [hXb, blockL, keyL, if_neg (by rw [hk.len]; omega), hK]
  have hKo : ∀ j, 0 ≤ K.getD j 0 ∧ K.getD j 0 < 256 := by rw [hK]; exact hk.ok
  rw [← hXb]
  have hn' : (n : Int) ≤ 64 := by omega
  have HX := Lib.hid hX
  have HKL := Lib.hid hKl
  have HKO := Lib.hid hKo
  have HKE := Lib.hid hK
  clear hX hXb hKl hKo hK
  go_enter Tryd.func50, Tryd.ntmps50
  go_wp2_with (first
    | (at_builtin
       refine wpList_append_b rfl (.const (.slice none 0 0)) (.tmp 5) rfl w.heap.size (.slice none 0 0) [] rfl (Own.nil _ _) A n c key rfl hk (by simp only [List.length_nil]; omega) (Nat.le_refl _) ?_
       intro v1 w1 hownK hg1
       rw [List.nil_append, ← HKE.out] at hownK
       have hBK : Below w.heap.size w w1 := (Below.refl _ _).grown hg1 (Nat.le_refl _) (fun k hk => by cases hk)
       clear hg1))
  go_loopw [3] (fun v wr => ∃ k : Nat, K.length + k ≤ 64 ∧ Own wr w.heap.size v (K ++ List.replicate k 0) ∧ Below w.heap.size w wr) (fun v _ => 65 - lenV v)
  case atStart => exact ⟨0, by rw [Nat.add_zero]; exact HKL.out, by simpa using hownK, hBK⟩
  case round =>
    clear hownK hBK
    obtain ⟨k, hk64, hown, hB⟩ := hrel
    obtain ⟨A', cap, rfl, hbt⟩ := hown.bts (ok_zeros2 HKO.out k)
    have hlen : (K ++ List.replicate k (0 : Int)).length = K.length + k := by simp
    obtain ⟨N, hN⟩ : ∃ N, N = K.length + k := ⟨_, rfl⟩
    obtain ⟨L, hL⟩ : ∃ L, L = K ++ List.replicate k (0 : Int) := ⟨_, rfl⟩
    rw [← hL, ← hN] at hlen
    rw [← hL] at hown hbt
    rw [← hL, hlen]
    rw [hlen] at hown hbt
    have HL := Lib.hid hL
    have HLN := Lib.hid hlen
    have HN := Lib.hid hN
    clear hL hlen
    by_cases hlt : N < 64
    · have ht : (N : Int) < 64 := by omega
      have hsm : L.length + 1 ≤ 140737488355328 := by rw [HLN.out]; omega
      clear hN
      go_wp2_with (first
        | (at_builtin
           refine wpList_append_b rfl (.tmp 17) (.tmp 18) rfl w.heap.size (.slice A' N cap) L rfl (hown.more _) (some ⟨wr.heap.size, 0, none⟩) 1 1 [0] rfl (one_bts wr 0 (by omega) (by omega)) hsm (Nat.le_trans hB.size (size_le_alloc _ _)) ?_
           intro v' w' hown' hg'))
      go_roundw
      case rel =>
        refine ⟨k + 1, by have := HN.out; omega, ?_, (hB.alloc hB.size _).grown hg' (Nat.le_trans hB.size (size_le_alloc _ _)) (fun g hg => (hown.size g hg).1)⟩
        rw [HL.out, List.append_assoc, ← List.replicate_succ'] at hown'
        exact hown'
      case measure =>
        obtain ⟨A'', c', hv, _⟩ := hown'.bts (HL.out ▸ ok_append (ok_zeros2 HKO.out k) (ok_one1 0 (by omega) (by omega)))
        rw [hv]
        simp only [lenV, List.length_append, HLN.out, List.length_cons, List.length_nil]
        omega
    · have ht : ¬ ((N : Int) < 64) := by omega
      have hk' : k = 64 - K.length := by omega
      have hres : L = X := by rw [HL.out, HX.out, hk', padK]
      have HR := Lib.hid hres
      clear hres hk' hN
      go_wp2
      go_ret
      exact ⟨_, rfl, HR.out ▸ hown, hB⟩

set_option maxHeartbeats 1000000 in
theorem r2block_long (A : Option Addr) (n c : Nat) (key : List Int) (w : World) (hn : 64 < n) (hm : n ≤ 1048576) (hk : Bts w A n c key) :
    Calls Tryd.prog 50 #[.slice A n c] w fun e w' => ∃ v, e = .returned v ∧ Own w' w.heap.size v (blockL key) ∧ Below w.heap.size w w' := by
  obtain ⟨K, hK⟩ : ∃ K, K = sumL key := ⟨_, rfl⟩
  have hK32 : K.length = 32 := by rw [hK]; exact sumL_length _
  have hKl : K.length ≤ 64 := by omega
  obtain ⟨X, hXb⟩ : ∃ X, X = blockL key := ⟨_, rfl⟩
  have hX : X = padK K := by rw [hXb, blockL, keyL, if_pos (by rw [hk.len]; exact hn), hK]
  have hKo : ∀ j, 0 ≤ K.getD j 0 ∧ K.getD j 0 < 256 := by rw [hK]; exact ok_sum _
  rw [← hXb]
  have hn' : (64 : Int) < n := by omega
  have HX := Lib.hid hX
  have HKL := Lib.hid hKl
  have HK32 := Lib.hid hK32
  have HKO := Lib.hid hKo
  have HKE := Lib.hid hK
  clear hX hXb hKl hKo hK hK32
  go_enter Tryd.func50, Tryd.ntmps50
  go_wp2_with (first
    | (at_builtin
       refine wpList_append_b rfl (.const (.slice none 0 0)) (.tmp 5) rfl w.heap.size (.slice none 0 0) [] rfl (Own.nil _ _) A n c key rfl hk (by simp only [List.length_nil]; omega) (Nat.le_refl _) ?_
       intro v1 w1 hown1 hg1
       have hB1 : Below w.heap.size w w1 := (Below.refl _ _).grown hg1 (Nat.le_refl _) (fun k hk => by cases hk)
       clear hg1 hown1)
    | (go_at_call 41; refine (rsum_yes A n c key w1 hm (hk.below hB1)).mono ?_; rintro e w2 ⟨he, hb2⟩
       rw [← HKE.out] at he
       subst he
       have hB2 : Below w.heap.size w w2 := hB1.trans (hb2.mono hB1.size)
       clear hb2)
    | ((with_reducible refine wpList_store_b rfl 30 _ _ rfl w2.heap.size K ?hx ?hy 30 (List.replicate 32 0) (rowb_lit w2 30 _ _ ?hz) (info32 HK32.out) ?hl ?_); (case hx => rfl); (case hy => rfl); (case hz => rfl); (case hl => rw [HK32.out]; rfl)
       intro w3 hg3 hK3 hs3
       have hB3 : Below w.heap.size w w3 := Below.grows (hB2.alloc hB2.size _) hg3 (Nat.le_trans hB2.size (size_le_alloc _ _)) hB2.size
       clear hg3 hs3)
    | (at_builtin
       refine wpList_append_b rfl (.const (.slice none 0 0)) (.tmp 12) rfl w.heap.size (.slice none 0 0) [] rfl (Own.nil _ _) (some ⟨w2.heap.size, 0, none⟩) 32 32 K rfl (hK3.btsAt HK32.out (by unfold maxLen; omega) HKO.out) (by simp only [List.length_nil]; omega) hB3.size ?_
       intro v4 w4 hownK hg4
       rw [List.nil_append] at hownK
       have hBK : Below w.heap.size w w4 := hB3.grown hg4 hB3.size (fun k hk => by cases hk)
       clear hg4))
  go_loopw [3] (fun v wr => ∃ k : Nat, K.length + k ≤ 64 ∧ Own wr w.heap.size v (K ++ List.replicate k 0) ∧ Below w.heap.size w wr) (fun v _ => 65 - lenV v)
  case atStart => exact ⟨0, by rw [Nat.add_zero]; exact HKL.out, by simpa using hownK, hBK⟩
  case round =>
    clear hownK hBK
    obtain ⟨k, hk64, hown, hB⟩ := hrel
    obtain ⟨A', cap, rfl, hbt⟩ := hown.bts (ok_zeros2 HKO.out k)
    have hlen : (K ++ List.replicate k (0 : Int)).length = K.length + k := by simp
    obtain ⟨N, hN⟩ : ∃ N, N = K.length + k := ⟨_, rfl⟩
    obtain ⟨L, hL⟩ : ∃ L, L = K ++ List.replicate k (0 : Int) := ⟨_, rfl⟩
    rw [← hL, ← hN] at hlen
    rw [← hL] at hown hbt
    rw [← hL, hlen]
    rw [hlen] at hown hbt
    have HL := Lib.hid hL
    have HLN := Lib.hid hlen
    have HN := Lib.hid hN
    clear hL hlen
    by_cases hlt : N < 64
    · have ht : (N : Int) < 64 := by omega
      have hsm : L.length + 1 ≤ 140737488355328 := by rw [HLN.out]; omega
      clear hN
      go_wp2_with (first
        | (at_builtin
           refine wpList_append_b rfl (.tmp 17) (.tmp 18) rfl w.heap.size (.slice A' N cap) L rfl (hown.more _) (some ⟨wr.heap.size, 0, none⟩) 1 1 [0] rfl (one_bts wr 0 (by omega) (by omega)) hsm (Nat.le_trans hB.size (size_le_alloc _ _)) ?_
           intro v' w' hown' hg'))
      go_roundw
      case rel =>
        refine ⟨k + 1, by have := HN.out; omega, ?_, (hB.alloc hB.size _).grown hg' (Nat.le_trans hB.size (size_le_alloc _ _)) (fun g hg => (hown.size g hg).1)⟩
        rw [HL.out, List.append_assoc, ← List.replicate_succ'] at hown'
        exact hown'
      case measure =>
        obtain ⟨A'', c', hv, _⟩ := hown'.bts (HL.out ▸ ok_append (ok_zeros2 HKO.out k) (ok_one1 0 (by omega) (by omega)))
        rw [hv]
        simp only [lenV, List.length_append, HLN.out, List.length_cons, List.length_nil]
        omega
    · have ht : ¬ ((N : Int) < 64) := by omega
      have hk' : k = 64 - K.length := by omega
      have hres : L = X := by rw [HL.out, HX.out, hk', padK]
      have HR := Lib.hid hres
      clear hres hk' hN
      go_wp2
      go_ret
      exact ⟨_, rfl, HR.out ▸ hown, hB⟩

theorem r2block_any (A : Option Addr) (n c : Nat) (key : List Int) (w : World) (hm : n ≤ 1048576) (hk : Bts w A n c key) :
    Calls Tryd.prog 50 #[.slice A n c] w fun e w' => ∃ v, e = .returned v ∧ Own w' w.heap.size v (blockL key) ∧ Below w.heap.size w w' := by
  by_cases h : 64 < n
  · exact r2block_long A n c key w h hm hk
  · exact r2block_short A n c key w (by omega) hk

set_option maxHeartbeats 1000000 in
theorem r2with_any (A : Option Addr) (n c : Nat) (x : Int) (key : List Int) (w : World) (hn : n ≤ 1048576) (hk : Bts w A n c key) :
    Calls Tryd.prog 42 #[.slice A n c, .int .u8 x] w fun e w' => ∃ v, e = .returned v ∧ Own w' w.heap.size v (xorL x (blockL key)) ∧ Below w.heap.size w w' := by
  obtain ⟨X, hX⟩ : ∃ X, X = blockL key := ⟨_, rfl⟩
  have hXl : X.length = 64 := by rw [hX]; exact blockL_length _
  have hXo : ∀ j, 0 ≤ X.getD j 0 ∧ X.getD j 0 < 256 := by rw [hX]; exact ok_block key hk.ok
  rw [← hX]
  have HX := Lib.hid hX
  have HXL := Lib.hid hXl
  have HXO := Lib.hid hXo
  clear hX hXl hXo
  go_enter Tryd.func42, Tryd.ntmps42
  go_wp2_with (first
    | (go_at_call 50; refine (r2block_any A n c key _ hn hk).mono ?_; rintro e w2 ⟨v2, rfl, hown2, hB2⟩
       rw [← HX.out] at hown2
       obtain ⟨g, cap, rfl, hgb, hgl, hgc, hgm⟩ := hown2.form (by rw [HXL.out]; omega)
       rw [HXL.out] at hown2 hgc ⊢))
  go_loopw [6] (fun i wr => ∃ k : Nat, k ≤ 64 ∧ i = .int .i64 k ∧ Own wr w.heap.size (.slice (some ⟨g, 0, none⟩) 64 cap) (mixL x X k) ∧ g < wr.heap.size ∧ Below w.heap.size w wr) (fun i _ => 64 - (intOf i).toNat)
  case atStart => exact ⟨0, by omega, rfl, hown2, hgl, hB2⟩
  case round =>
    clear hown2 hB2 hgl
    obtain ⟨k, hk, rfl, hown, hgl, hB⟩ := hrel
    have hml := mixL_length x X k
    rw [HXL.out] at hml
    by_cases hlt : k < 64
    · have hcell := hown.cell k (by omega) hml
      have hfr := hown.free k hml
      rw [mixL_at x X k (by rw [HXL.out]; exact hlt)] at hcell
      obtain ⟨y, hy⟩ : ∃ y, y = X.getD k 0 := ⟨_, rfl⟩
      have hnext : mixL x X (k + 1) = (mixL x X k).set k (bits .xor .u8 y x) := by rw [mixL, xorAt, hy]
      rw [← hy] at hcell
      have HN := Lib.hid hnext
      have hput := hown.put k (bits .xor .u8 y x) hml
      have HP := Lib.hid hput
      have HB := Lib.hid hB
      clear hy hnext hml hput hown hB
      go_wp2
      go_roundw
      case rel =>
        refine ⟨k + 1, by omega, by go_num, by rw [HN.out]; exact HP.out.1, by simpa using hgl, HB.out.setCell (p := ⟨g, k, none⟩) hgb _⟩
      case measure => simp [intOf]; omega
    · have hge : 64 ≤ k := by omega
      have h64 : k = 64 := by omega
      rw [h64, mixL_all x X HXL.out] at hown
      have HO := Lib.hid hown
      clear hown h64 hml hk hlt
      go_wp2
      go_ret
      exact ⟨_, rfl, HO.out, hB⟩

set_option maxRecDepth 100000 in
set_option maxHeartbeats 2000000 in
theorem r2tag_any (A B : Option Addr) (n c m d : Nat) (key b : List Int) (w : World) (hn : n ≤ 1048576) (hm : m ≤ 1048512) (hk : Bts w A n c key) (hb : Bts w B m d b) :
    Calls Tryd.prog 36 #[.slice A n c, .slice B m d] w fun e w' => e = .returned (.agg (idv (tagL key b))) ∧ Below w.heap.size w w' := by
  obtain ⟨U, hU⟩ : ∃ U, U = xorL 54 (blockL key) := ⟨_, rfl⟩
  obtain ⟨V, hV⟩ : ∃ V, V = xorL 92 (blockL key) := ⟨_, rfl⟩
  have hUl : U.length = 64 := by rw [hU]; exact xorL_length _ _
  have hVl : V.length = 64 := by rw [hV]; exact xorL_length _ _
  have hUo : ∀ j, 0 ≤ U.getD j 0 ∧ U.getD j 0 < 256 := by rw [hU]; exact ok_xor _ _
  have hVo : ∀ j, 0 ≤ V.getD j 0 ∧ V.getD j 0 < 256 := by rw [hV]; exact ok_xor _ _
  obtain ⟨I, hI⟩ : ∃ I, I = sumL (U ++ b) := ⟨_, rfl⟩
  have hIl : I.length = 32 := by rw [hI]; exact sumL_length _
  have hIo : ∀ j, 0 ≤ I.getD j 0 ∧ I.getD j 0 < 256 := by rw [hI]; exact ok_sum _
  obtain ⟨Z, hZ⟩ : ∃ Z, Z = sumL (V ++ I) := ⟨_, rfl⟩
  have hZl : Z.length = 32 := by rw [hZ]; exact sumL_length _
  have hfin : tagL key b = Z := by rw [hZ, hI, hU, hV, tagL, innerL]
  have hZ32 : (byv Z).length = 32 := by rw [byv_length, hZl]
  have hone := byv_one Z
  have hi32 : (Tryd.prog.info? 30).map (·.size) = some 32 := by kernel_rfl
  rw [hfin]
  have HU := Lib.hid hU
  have HV := Lib.hid hV
  have HUL := Lib.hid hUl
  have HVL := Lib.hid hVl
  have HUO := Lib.hid hUo
  have HVO := Lib.hid hVo
  have HI := Lib.hid hI
  have HIL := Lib.hid hIl
  have HIO := Lib.hid hIo
  have HZ := Lib.hid hZ
  have HZL := Lib.hid hZl
  clear hU hV hUl hVl hUo hVo hI hIl hIo hZ hZl hfin
  go_enter Tryd.func36, Tryd.ntmps36
  go_wp2_with (first
    | (go_at_call 42; refine (r2with_any A n c 54 key _ hn (hk.more _)).mono ?_; rintro e w2 ⟨v2, rfl, hown2, hb2⟩
       rw [← HU.out] at hown2
       have hown2 : Own w2 (w.heap.size + 1) v2 U := by rw [← size_next1 w _]; exact hown2
       obtain ⟨hB2, hz2, hO2⟩ := after_one hb2
       have hO2 : RowB w2 w.heap.size 30 (List.replicate 32 0) := hO2
       have hv2 := hown2.size
       clear hb2)
    | (at_builtin
       refine wpList_append_b rfl (.tmp 7) (.tmp 8) rfl (w.heap.size + 1) v2 U rfl hown2 B m d b rfl (hb.below hB2) (by rw [HUL.out]; omega) hz2 ?_
       intro v3 w3 hown3 hg3
       have hB3 : Below w.heap.size w w3 := hB2.grown hg3 hB2.size (fun k hk => by have := (hv2 k hk).1; omega)
       have hO3 : RowB w3 w.heap.size 30 (List.replicate 32 0) := hO2.grown hg3 (fun e => by have := (hv2 _ e.symm).1; omega)
       obtain ⟨A3, n3, c3, rfl, hbt3⟩ := hown3.slice (ok_append HUO.out hb.ok)
       have hn3 : n3 ≤ 1048576 := by have h1 := hbt3.len; rw [List.length_append, HUL.out, hb.len] at h1; omega
       clear hg3 hown3 hown2 hv2)
    | (go_at_call 41; refine (rsum_yes A3 n3 c3 (U ++ b) w3 hn3 hbt3).mono ?_; rintro e w4 ⟨he, hb4⟩
       rw [← HI.out] at he
       subst he
       have hB4 : Below w.heap.size w w4 := hB3.trans (hb4.mono hB3.size)
       have hO4 := hO3.keep hb4
       have hO4l := hO4.lt
       clear hb4 hbt3)
    | ((with_reducible refine wpList_store_b rfl 30 _ _ rfl w4.heap.size I ?hx ?hy 30 (List.replicate 32 0) (rowb_lit w4 30 _ _ ?hz) (info32 HIL.out) ?hl ?_); (case hx => rfl); (case hy => rfl); (case hz => rfl); (case hl => rw [HIL.out]; rfl)
       intro w5 hg5 hI5 hs5
       have hO5 : RowB w5 w.heap.size 30 (List.replicate 32 0) := (hO4.more _).grown hg5 (ne_some (Nat.ne_of_lt hO4l))
       have hB5 : Below w.heap.size w w5 := Below.grows (hB4.alloc hB4.size _) hg5 (Nat.le_trans hB4.size (size_le_alloc _ _)) hB4.size
       clear hg5 hs5))
  clear hO2 hO3 hO4
  have hI5l := hI5.lt
  have hO5l := hO5.lt
  go_region_held3 (fun _ => True) (first | trivial)
    (first
    | (go_at_call 42; refine (r2with_any A n c 92 key w5.drew hn (hk.below hB5.drew)).mono ?_; rintro e w6 ⟨v6, rfl, hown6, hb6⟩
       have hb6 := below_draw hb6
       have hown6 : Own w6 w5.heap.size v6 (xorL 92 (blockL key)) := hown6
       rw [← HV.out] at hown6
       have hI6 := hI5.keep hb6
       have hO6 := hO5.keep hb6
       have hB6 : Below w.heap.size w w6 := hB5.trans (hb6.mono hB5.size)
       have hv6 := hown6.size
       have hz6 := hb6.size
       have hz5 := hB5.size
       clear hb6)
    | (go_at_call 41; refine (rsum_yes A7 n7 c7 (V ++ I) w7 hn7 hbt7).mono ?_; rintro e w8 ⟨he, hb8⟩
       rw [← HZ.out] at he
       subst he
       have hB8 : Below w.heap.size w w8 := hB7.trans (hb8.mono hB7.size)
       have hO8 := hO7.keep hb8
       have hT8 : w8.there w.heap.size 0 32 := there_of hO8 (by rw [idv_size]; rfl)
       clear hb8 hbt7)
    | (refine step_append_o (.tmp 12) (.tmp 13) rfl w5.heap.size v6 V rfl hown6 (some ⟨w4.heap.size, 0, none⟩) 32 32 I rfl (hI6.btsAt HIL.out (by unfold maxLen; omega) HIO.out) (by rw [HVL.out]; omega) hz6 rfl ?_
       intro v7 w7 hown7 hg7
       have hB7 : Below w.heap.size w w7 := hB6.grown hg7 hB6.size (fun k hk => by have := (hv6 k hk).1; omega)
       have hO7 : RowB w7 w.heap.size 30 (List.replicate 32 0) := hO6.grown hg7 (fun e => by have := (hv6 _ e.symm).1; omega)
       obtain ⟨A7, n7, c7, rfl, hbt7⟩ := hown7.slice (ok_append HVO.out HIO.out)
       have hn7 : n7 ≤ 1048576 := by have h1 := hbt7.len; rw [List.length_append, HVL.out, HIL.out] at h1; omega
       clear hg7 hown7 hown6 hv6))
  go_wp2
  refine bodyPost_ret (v := .agg (idv Z)) ?_ ?_ ?_
  · exact results_cell_row Tryd.results36 _ _ w.heap.size 30 (idv Z) (0, 0) _ rfl (setCells_all hO8 (by rw [hZ32, byv_length]; rfl)) Tryd.underlying30 rfl (info32 HZL.out)
  · rfl
  · exact ⟨rfl, setCells_below (Nat.le_refl _) _ _ _ hB8⟩
end Go.Proofs.YtcfkpepohnjdfaaDoor

/- The walk over the plain answer's Derive of layer 2; both packages' Derive answer the same. -/
namespace Go.Proofs.YtcfkpepohnjdfaaDoor
open Go.RowKit

set_option maxRecDepth 100000 in
set_option maxHeartbeats 1000000 in
theorem r2derive_yes (A B : Option Addr) (n c m d : Nat) (key b : List Int) (s : ByteArray) (w : World) (hn : n ≤ 1048576) (hm : m ≤ 1048000) (hk : Bts w A n c key) (hb : Bts w B m d b) (h0 : 0 < s.size) (h1 : s.size ≤ 32) :
    Calls Tryd.prog 26 #[.slice A n c, .string s, .slice B m d] w fun e w' => e = .returned (.tuple #[.agg (idv (tagL key (labelL (strL s) b))), .bool true]) ∧ Below w.heap.size w w' := by
  obtain ⟨L, hL⟩ : ∃ L, L = [(s.size : Int)] ++ strL s := ⟨_, rfl⟩
  have hLl : L.length = 1 + s.size := by rw [hL, List.length_append, strL_length]; simp
  have hLo : ∀ j, 0 ≤ L.getD j 0 ∧ L.getD j 0 < 256 := by rw [hL]; exact ok_append (ok_one1 _ (by omega) (by omega)) (strL_ok s)
  obtain ⟨Z, hZ⟩ : ∃ Z, Z = tagL key (L ++ b) := ⟨_, rfl⟩
  have hZl : Z.length = 32 := by rw [hZ, tagL]; exact sumL_length _
  have hfin : tagL key (labelL (strL s) b) = Z := by rw [hZ, labelL, strL_length, hL]
  have h4 : (1 : Int) ≤ s.size := by omega
  have h2 : (s.size : Int) ≤ 32 := by omega
  have h3 : decide (32 < (s.size : Int)) = false := by rw [decide_eq_false_iff_not]; omega
  rw [hfin]
  have HL := Lib.hid hL
  have HLL := Lib.hid hLl
  have HLO := Lib.hid hLo
  have HZ := Lib.hid hZ
  have HZL := Lib.hid hZl
  clear hL hLl hLo hZ hZl hfin
  go_enter Tryd.func26, Tryd.ntmps26
  go_wp2_with (first
    | (at_builtin
       refine wpList_append_str rfl (.tmp 21) (.tmp 22) rfl (w.heap.size + 1) _ [(s.size : Int)] rfl (one_own_next w _ _) s rfl (by simp only [List.length_cons, List.length_nil]; omega) (size_two w _ _).1 ?_
       intro v1 w1 hown1 hg1
       have hg1 : ((w.alloc _).alloc _).grownBy w1 (some (w.heap.size + 1)) := hg1
       rw [← HL.out] at hown1
       have hB1 : Below w.heap.size w w1 := (two_below w _ _).grown hg1 (Nat.le_of_lt (size_two w _ _).2) (fun k hk => by injection hk with hk; omega)
       have hO1 : RowB w1 w.heap.size 30 (List.replicate 32 0) := (hg1.block w.heap.size (size_two w _ _).2 (ne_some (by omega))).trans (heap_alloc2_old w _ _)
       have hv1 := hown1.size
       clear hg1)
    | (at_builtin
       refine wpList_append_b rfl (.tmp 24) (.tmp 25) rfl (w.heap.size + 1) _ L rfl hown1 B m d b rfl (hb.below hB1) (by rw [HLL.out]; omega) hO1.lt ?_
       intro v2 w2 hown2 hg2
       have hB2 : Below w.heap.size w w2 := hB1.grown hg2 hB1.size (fun k hk => by have := (hv1 k hk).1; omega)
       have hO2 : RowB w2 w.heap.size 30 (List.replicate 32 0) := hO1.grown hg2 (fun e => by have := (hv1 _ e.symm).1; omega)
       obtain ⟨A2, n2, c2, rfl, hbt2⟩ := hown2.slice (ok_append HLO.out hb.ok)
       have hn2 : n2 ≤ 1048512 := by have h1 := hbt2.len; rw [List.length_append, HLL.out, hb.len] at h1; omega
       clear hg2 hown2 hown1 hv1)
    | (go_at_call 36; refine (r2tag_any A A2 n c n2 c2 key (L ++ b) w2 hn hn2 (hk.below hB2) hbt2).mono ?_; rintro e w3 ⟨he, hb3⟩
       rw [← HZ.out] at he
       subst he
       have hO3 := hO2.keep hb3
       have hB3 : Below w.heap.size w w3 := hB2.trans (hb3.mono hB2.size)
       clear hb3)
    | ((with_reducible refine wpList_store_b rfl 30 _ _ rfl w.heap.size Z ?hx ?hy 30 (List.replicate 32 0) hO3 (info32 HZL.out) ?hl ?hm); (case hx => rfl); (case hy => rfl); (case hl => rw [HZL.out]; rfl)
       intro w6 hg6 hX6 hs6
       have hB6 : Below w.heap.size w w6 := Below.grows hB3 hg6 hB3.size (Nat.le_refl _)))
  refine bodyPost_ret (v := .tuple #[.agg (idv Z), .bool true]) ?_ ?_ ?_
  · exact results_row_tmp Tryd.results26 _ _ _ w.heap.size 30 _ (0, 0) rfl hX6.is Tryd.underlying30 (info32 HZL.out) _ rfl
  · rfl
  · exact ⟨rfl, hB6⟩

set_option maxHeartbeats 1000000 in
theorem r2derive_no (A B : Option Addr) (n c m d : Nat) (s : ByteArray) (w : World) (hs : s.size ≤ 9223372036854775807) (h1 : s.size = 0 ∨ 32 < s.size) :
    Calls Tryd.prog 26 #[.slice A n c, .string s, .slice B m d] w fun e w' => e = .returned (.tuple #[.agg (idv (List.replicate 32 0)), .bool false]) ∧ Below w.heap.size w w' := by
  rcases h1 with h0 | h0
  · have h4 : (s.size : Int) < 1 := by omega
    go_enter Tryd.func26, Tryd.ntmps26
    go_wp2_with (first | ((with_reducible refine wpList_store_b rfl 30 _ _ rfl w.heap.size (List.replicate 32 0) ?hx7 ?hy7 30 (List.replicate 32 0) (rowb_lit w 30 _ _ ?hz7) (info32 rfl) ?hl7 ?_); (case hx7 => rfl); (case hy7 => rfl); (case hz7 => rfl); (case hl7 => rfl); intro w6 hg6 hX6 hs6; have hB6 : Below w.heap.size w w6 := Below.grows (mac_alloc _ _) hg6 (size_le_alloc _ _) (Nat.le_refl _)))
    refine bodyPost_ret (v := .tuple #[.agg (idv (List.replicate 32 0)), .bool false]) ?_ ?_ ?_
    · exact results_row_tmp Tryd.results26 _ _ _ w.heap.size 30 _ (0, 0) rfl hX6.is Tryd.underlying30 (info32 rfl) _ rfl
    · rfl
    · exact ⟨rfl, hB6⟩
  · have h4 : (1 : Int) ≤ s.size := by omega
    have h2 : (32 : Int) < s.size := by omega
    go_enter Tryd.func26, Tryd.ntmps26
    go_wp2_with (first | ((with_reducible refine wpList_store_b rfl 30 _ _ rfl w.heap.size (List.replicate 32 0) ?ghx8 ?ghy8 30 (List.replicate 32 0) (rowb_lit w 30 _ _ ?ghz8) (info32 rfl) ?ghl8 ?_); (case ghx8 => rfl); (case ghy8 => rfl); (case ghz8 => rfl); (case ghl8 => rfl); intro w6 hg6 hX6 hs6; have hB6 : Below w.heap.size w w6 := Below.grows (mac_alloc _ _) hg6 (size_le_alloc _ _) (Nat.le_refl _)))
    refine bodyPost_ret (v := .tuple #[.agg (idv (List.replicate 32 0)), .bool false]) ?_ ?_ ?_
    · exact results_row_tmp Tryd.results26 _ _ _ w.heap.size 30 _ (0, 0) rfl hX6.is Tryd.underlying30 (info32 rfl) _ rfl
    · rfl
    · exact ⟨rfl, hB6⟩

/-- both packages' Derive answer the same -/
theorem derive_both (A B : Option Addr) (n c m d : Nat) (key b : List Int) (s : ByteArray) (w : World) (hK : KTab w) (hn : n ≤ 200) (hm : m ≤ 200) (hs : s.size ≤ 200) (hk : Bts w A n c key) (hb : Bts w B m d b) :
    ∃ (Z : List Int) (G : Bool), Z.length = 32 ∧ (∀ W, Below w.heap.size w W → Calls Tryd.prog 23 #[.slice A n c, .string s, .slice B m d] W fun e w' => e = .returned (.tuple #[.agg (idv Z), .bool G]) ∧ Below W.heap.size W w') ∧
      (∀ W, Below w.heap.size w W → Calls Tryd.prog 26 #[.slice A n c, .string s, .slice B m d] W fun e w' => e = .returned (.tuple #[.agg (idv Z), .bool G]) ∧ Below W.heap.size W w') := by
  by_cases h : s.size = 0 ∨ 32 < s.size
  · exact ⟨List.replicate 32 0, false, rfl, fun W _ => derive_no A B n c m d s W (by omega) h, fun W _ => r2derive_no A B n c m d s W (by omega) h⟩
  · exact ⟨tagL key (labelL (strL s) b), true, by rw [tagL]; exact sumL_length _, fun W hW => derive_yes A B n c m d key b s W (hK.from hW) (by omega) (by omega) (hk.below hW) (hb.below hW) (by omega) (by omega), fun W hW => r2derive_yes A B n c m d key b s W (by omega) (by omega) (hk.below hW) (hb.below hW) (by omega) (by omega)⟩
end Go.Proofs.YtcfkpepohnjdfaaDoor

/- The walk over the document's own Secret, where there is no key. -/
namespace Go.Proofs.YtcfkpepohnjdfaaDoor
set_option linter.unusedVariables false
set_option linter.unusedSimpArgs false
open Go.RowKit

set_option maxRecDepth 100000 in
set_option maxHeartbeats 2000000 in
theorem rusecret_no (u : Us) (e d c : Int) (w : World) (hk : Bts w u.A u.n u.c u.key) (h : mayU [u] = false ∨ e < 0 ∨ 1073741824 < e) :
    Calls Tryd.prog 12 #[.agg #[.int .i64 u.no, .int .i64 u.role, .slice u.A u.n u.c], .int .i64 e, .int .u64 d, .int .u64 c] w fun x w' => x = .returned (.tuple #[.agg (idv (List.replicate 32 0)), .bool false]) ∧ Below w.heap.size w w' := by
  obtain ⟨no, role, A, n, c', key⟩ := u
  simp only at hk
  have HKB := Lib.hid hk
  clear hk
  cases hm : mayU [⟨no, role, A, n, c', key⟩] with
  | false =>
    have HM := Lib.hid hm
    clear hm h
    go_enter Tryd.func12, Tryd.ntmps12
    go_wp2_with (first
        | (go_at_call 13
           refine (rumay_any _ _ _ _ _ (one_user_at ⟨no, role, A, n, c', key⟩ (size_two1 _ _ _) (HKB.out.below (two_below _ _ _)))).mono ?_
           rintro x w4 ⟨hx, hb4⟩
           rw [HM.out] at hx
           subst hx
           obtain ⟨hb5, hs5, h6, h7⟩ := after_three hb4
           have hO4 : RowB w4 (w.heap.size + 1) 30 (List.replicate 32 0) := h7
           have HB5 := Lib.hid hb5
           clear hb4 hb5 h6 h7)
        | ((with_reducible refine wpList_store_b rfl 30 _ _ rfl (w.heap.size + 1) (List.replicate 32 0) ?hx4 ?hy4 30 (List.replicate 32 0) hO4 (info32 rfl) ?hl4 ?hm4); (case hx4 => rfl); (case hy4 => rfl); (case hl4 => rfl)
           intro w7 hg7 hX7 hs7
           have hB8 : Below w.heap.size w w7 := Below.grows HB5.out hg7 HB5.out.size (Nat.le_succ _)))
    refine bodyPost_ret (v := .tuple #[.agg (idv (List.replicate 32 0)), .bool false]) ?_ ?_ ?_
    · exact results_row_tmp Tryd.results12 _ _ _ (w.heap.size + 1) 30 _ (0, 0) rfl hX7.is Tryd.underlying30 (info32 rfl) _ rfl
    · rfl
    · exact ⟨rfl, hB8⟩
  | true =>
    have HM := Lib.hid hm
    by_cases h1 : e < 0
    · clear hm h
      go_enter Tryd.func12, Tryd.ntmps12
      go_wp2_with (first
          | (go_at_call 13
             refine (rumay_any _ _ _ _ _ (one_user_at ⟨no, role, A, n, c', key⟩ (size_two1 _ _ _) (HKB.out.below (two_below _ _ _)))).mono ?_
             rintro x w4 ⟨hx, hb4⟩
             rw [HM.out] at hx
             subst hx
             obtain ⟨hb5, hs5, h6, h7⟩ := after_three hb4
             have hO4 : RowB w4 (w.heap.size + 1) 30 (List.replicate 32 0) := h7
             have HB5 := Lib.hid hb5
             clear hb4 hb5 h6 h7)
          | ((with_reducible refine wpList_store_b rfl 30 _ _ rfl (w.heap.size + 1) (List.replicate 32 0) ?hx5 ?hy5 30 (List.replicate 32 0) hO4 (info32 rfl) ?hl5 ?hm5); (case hx5 => rfl); (case hy5 => rfl); (case hl5 => rfl)
             intro w7 hg7 hX7 hs7
             have hB8 : Below w.heap.size w w7 := Below.grows HB5.out hg7 HB5.out.size (Nat.le_succ _)))
      refine bodyPost_ret (v := .tuple #[.agg (idv (List.replicate 32 0)), .bool false]) ?_ ?_ ?_
      · exact results_row_tmp Tryd.results12 _ _ _ (w.heap.size + 1) 30 _ (0, 0) rfl hX7.is Tryd.underlying30 (info32 rfl) _ rfl
      · rfl
      · exact ⟨rfl, hB8⟩
    · have h2 : 1073741824 < e := by
        rcases h with h | h | h
        · rw [hm] at h; cases h
        · omega
        · exact h
      have h3 : 0 ≤ e := by omega
      clear hm h h1
      go_enter Tryd.func12, Tryd.ntmps12
      go_wp2_with (first
          | (go_at_call 13
             refine (rumay_any _ _ _ _ _ (one_user_at ⟨no, role, A, n, c', key⟩ (size_two1 _ _ _) (HKB.out.below (two_below _ _ _)))).mono ?_
             rintro x w4 ⟨hx, hb4⟩
             rw [HM.out] at hx
             subst hx
             obtain ⟨hb5, hs5, h6, h7⟩ := after_three hb4
             have hO4 : RowB w4 (w.heap.size + 1) 30 (List.replicate 32 0) := h7
             have HB5 := Lib.hid hb5
             clear hb4 hb5 h6 h7)
          | ((with_reducible refine wpList_store_b rfl 30 _ _ rfl (w.heap.size + 1) (List.replicate 32 0) ?hx6 ?hy6 30 (List.replicate 32 0) hO4 (info32 rfl) ?hl6 ?hm6); (case hx6 => rfl); (case hy6 => rfl); (case hl6 => rfl)
             intro w7 hg7 hX7 hs7
             have hB8 : Below w.heap.size w w7 := Below.grows HB5.out hg7 HB5.out.size (Nat.le_succ _)))
      refine bodyPost_ret (v := .tuple #[.agg (idv (List.replicate 32 0)), .bool false]) ?_ ?_ ?_
      · exact results_row_tmp Tryd.results12 _ _ _ (w.heap.size + 1) 30 _ (0, 0) rfl hX7.is Tryd.underlying30 (info32 rfl) _ rfl
      · rfl
      · exact ⟨rfl, hB8⟩
end Go.Proofs.YtcfkpepohnjdfaaDoor

/- The walk over the document's own Secret. -/
namespace Go.Proofs.YtcfkpepohnjdfaaDoor
set_option linter.unusedVariables false
set_option linter.unusedSimpArgs false
open Go.RowKit

theorem rcat_four (w : World) (e d c no : Nat) (he : e ≤ 1073741824) (hd : d < 18446744073709551616) (hc : c < 18446744073709551616) (hno : (no : Int) ≤ 255) :
    Calls Tryd.prog 25 #[.slice (some ⟨w.heap.size, 0, none⟩) 4 4] (w.alloc (.cells #[.int .u64 e, .int .i64 4, .int .u64 d, .int .i64 8, .int .u64 c, .int .i64 8, .int .u64 no, .int .i64 1] 41)) fun x w' => ∃ A n k, x = .returned (.tuple #[.slice A n k, .bool true]) ∧ n = 21 ∧ Bts w' A n k (ctxL no e d c) ∧ Below w.heap.size w w' := by
  obtain ⟨h1, h2⟩ := four_cat e d c no he hd hc hno
  refine (rcat_any _ _ _ _ _ (four_nums w e d c no (by omega) hd hc (by omega))).mono fun x w' ⟨h3, _, h4⟩ => ?_
  obtain ⟨v, hv, ho⟩ := h3 h1
  rw [h2] at ho
  obtain ⟨A, n, k, rfl, hb⟩ := ho.slice (catL_ok _)
  exact ⟨A, n, k, hv, by rw [← hb.len]; exact ctx_length no e d c, hb, (one_alloc _ _).trans (h4.mono (size_le_alloc _ _))⟩
set_option maxRecDepth 100000 in
set_option maxHeartbeats 2000000 in
theorem rusecret_yes (u : Us) (no e d c : Nat) (hno : u.no = no) (w : World) (hk : Bts w u.A u.n u.c u.key) (hm : mayU [u] = true) (he : e ≤ 1073741824) (hd : d < 18446744073709551616) (hc : c < 18446744073709551616) :
    Calls Tryd.prog 12 #[.agg #[.int .i64 u.no, .int .i64 u.role, .slice u.A u.n u.c], .int .i64 e, .int .u64 d, .int .u64 c] w fun x w' => x = .returned (.tuple #[.agg (idv (secZ u.key no e d c)), .bool true]) ∧ Below w.heap.size w w' := by
  have hgood : u.no ≤ 255 ∧ 16 ≤ u.n ∧ u.n ≤ 64 := by
    rw [mayU, Bool.and_eq_true] at hm
    have := may_all hm.2 u (by simp)
    exact ⟨this.2.1, this.2.2.2.1, this.2.2.2.2⟩
  obtain ⟨hg1, hg2, hg3⟩ := hgood
  obtain ⟨no', role, A, n, c', key⟩ := u
  simp only at hno hk hg1 hg2 hg3
  subst hno
  obtain ⟨Z, hZ⟩ : ∃ Z, Z = secZ key no e d c := ⟨_, rfl⟩
  have hZl : Z.length = 32 := by rw [hZ]; exact secZ_length _ _ _ _ _
  rw [← hZ]
  have HKB := Lib.hid hk
  have HZ := Lib.hid hZ
  have HZL := Lib.hid hZl
  have HM := Lib.hid hm
  clear hk hZ hZl hm
  go_enter Tryd.func12, Tryd.ntmps12
  go_wp2_with (first
    | (go_at_call 13
       refine (rumay_any _ _ _ _ _ (one_user_at ⟨no, role, A, n, c', key⟩ (size_two1 _ _ _) (HKB.out.below (two_below _ _ _)))).mono ?_
       rintro x w4 ⟨hx, hb4⟩
       rw [HM.out] at hx
       subst hx
       obtain ⟨hb5, hs5, h6, h7⟩ := after_three hb4
       have hO4 : RowB w4 (w.heap.size + 1) 30 (List.replicate 32 0) := h7
       have hU4 : BoxU w4 w.heap.size ⟨no, role, A, n, c', key⟩ := h6
       obtain ⟨y0, y1, y2⟩ := hU4.cells
       simp only at y0 y1 y2
       have HB5 := Lib.hid hb5
       have HO4 := Lib.hid hO4
       have HU4 := Lib.hid hU4
       clear hb4 hb5 h6 h7 hO4 hU4)
    | (go_at_call 25
       refine (rcat_four w4 e d c no he hd hc hg1).mono ?_
       rintro x w5 ⟨B, m, k, rfl, hm21, hctx, hb6⟩
       obtain ⟨z0, z1, z2⟩ := (HU4.out.below hb6).cells
       simp only at z0 z1 z2
       have HO5 := Lib.hid (HO4.out.keep hb6)
       have HB6 := Lib.hid (HB5.out.trans (hb6.mono HB5.out.size))
       have HCTX := Lib.hid hctx
       have HM21 := Lib.hid hm21
       clear hb6 hctx hm21 y0 y1 y2)
    | (go_at_call 26
       refine (r2derive_yes A B n c' m k key _ sessS w5 (by omega) (by rw [HM21.out]; omega) (HKB.out.below HB6.out) HCTX.out (by decide) (by decide)).mono ?_
       rintro x w6 ⟨hx, hb7⟩
       rw [show tagL key (labelL (strL sessS) (ctxL no e d c)) = Z from HZ.out.symm] at hx
       subst hx
       have hO6 := HO5.out.keep hb7
       have hB7 := HB6.out.trans (hb7.mono HB6.out.size)
       clear hb7)
    | ((with_reducible refine wpList_store_b rfl 30 _ _ rfl w6.heap.size Z ?hx1 ?hy1 30 (List.replicate 32 0) (rowb_lit w6 30 _ _ ?hz1) (info32 HZL.out) ?hl1 ?hm1); (case hx1 => rfl); (case hy1 => rfl); (case hz1 => rfl); (case hl1 => rw [HZL.out]; rfl)
       intro w7 hg7 hX7 hs7
       have hB7' : Below w.heap.size w w7 := Below.grows (hB7.alloc hB7.size _) hg7 (Nat.le_trans hB7.size (size_le_alloc _ _)) hB7.size
       have hO7 : RowB w7 (w.heap.size + 1) 30 (List.replicate 32 0) := (hO6.more _).grown hg7 (ne_some (Nat.ne_of_lt hO6.lt))
       clear hg7 hs7)
    | ((with_reducible refine wpList_load_b rfl 30 _ _ rfl w6.heap.size ?hx2 30 Z hX7 Tryd.underlying30 ?hd2 (info32 HZL.out) ?hm2); (case hx2 => rfl); (case hd2 => rfl))
    | ((with_reducible refine wpList_store_b rfl 30 _ _ rfl (w.heap.size + 1) Z ?hx3 ?hy3 30 (List.replicate 32 0) hO7 (info32 HZL.out) ?hl3 ?hm3); (case hx3 => rfl); (case hy3 => rfl); (case hl3 => rw [HZL.out]; rfl)
       intro w8 hg8 hX8 hs8
       have hB8 : Below w.heap.size w w8 := Below.grows hB7' hg8 hB7'.size (Nat.le_succ _)))
  refine bodyPost_ret (v := .tuple #[.agg (idv Z), .bool true]) ?_ ?_ ?_
  · exact results_row_tmp Tryd.results12 _ _ _ (w.heap.size + 1) 30 _ (0, 0) rfl hX8.is Tryd.underlying30 (info32 HZL.out) _ rfl
  · rfl
  · exact ⟨rfl, hB8⟩
end Go.Proofs.YtcfkpepohnjdfaaDoor

/- The walk over package user's Secret, where there is no key. -/
namespace Go.Proofs.YtcfkpepohnjdfaaDoor
set_option linter.unusedVariables false
set_option linter.unusedSimpArgs false
open Go.RowKit

set_option maxRecDepth 100000 in
set_option maxHeartbeats 2000000 in
theorem usecret_no (u : Us) (e d c : Int) (w : World) (hk : Bts w u.A u.n u.c u.key) (h : mayU [u] = false ∨ e < 0 ∨ 1073741824 < e) :
    Calls Tryd.prog 11 #[.agg #[.int .i64 u.no, .int .i64 u.role, .slice u.A u.n u.c], .int .i64 e, .int .u64 d, .int .u64 c] w fun x w' => x = .returned (.tuple #[.agg (idv (List.replicate 32 0)), .bool false]) ∧ Below w.heap.size w w' := by
  obtain ⟨no, role, A, n, c', key⟩ := u
  simp only at hk
  have HKB := Lib.hid hk
  clear hk
  cases hm : mayU [⟨no, role, A, n, c', key⟩] with
  | false =>
    have HM := Lib.hid hm
    clear hm h
    go_enter Tryd.func11, Tryd.ntmps11
    go_wp2_with (first
        | (go_at_call 15
           refine (umay_any _ _ _ _ _ (one_user_at ⟨no, role, A, n, c', key⟩ (size_two1 _ _ _) (HKB.out.below (two_below _ _ _)))).mono ?_
           rintro x w4 ⟨hx, hb4⟩
           rw [HM.out] at hx
           subst hx
           obtain ⟨hb5, hs5, h6, h7⟩ := after_three hb4
           have hO4 : RowB w4 (w.heap.size + 1) 30 (List.replicate 32 0) := h7
           have HB5 := Lib.hid hb5
           clear hb4 hb5 h6 h7)
        | ((with_reducible refine wpList_store_b rfl 30 _ _ rfl (w.heap.size + 1) (List.replicate 32 0) ?hx1 ?hy1 30 (List.replicate 32 0) hO4 (info32 rfl) ?hl1 ?hm1); (case hx1 => rfl); (case hy1 => rfl); (case hl1 => rfl)
           intro w7 hg7 hX7 hs7
           have hB8 : Below w.heap.size w w7 := Below.grows HB5.out hg7 HB5.out.size (Nat.le_succ _)))
    refine bodyPost_ret (v := .tuple #[.agg (idv (List.replicate 32 0)), .bool false]) ?_ ?_ ?_
    · exact results_row_tmp Tryd.results11 _ _ _ (w.heap.size + 1) 30 _ (0, 0) rfl hX7.is Tryd.underlying30 (info32 rfl) _ rfl
    · rfl
    · exact ⟨rfl, hB8⟩
  | true =>
    have HM := Lib.hid hm
    by_cases h1 : e < 0
    · clear hm h
      go_enter Tryd.func11, Tryd.ntmps11
      go_wp2_with (first
          | (go_at_call 15
             refine (umay_any _ _ _ _ _ (one_user_at ⟨no, role, A, n, c', key⟩ (size_two1 _ _ _) (HKB.out.below (two_below _ _ _)))).mono ?_
             rintro x w4 ⟨hx, hb4⟩
             rw [HM.out] at hx
             subst hx
             obtain ⟨hb5, hs5, h6, h7⟩ := after_three hb4
             have hO4 : RowB w4 (w.heap.size + 1) 30 (List.replicate 32 0) := h7
             have HB5 := Lib.hid hb5
             clear hb4 hb5 h6 h7)
          | ((with_reducible refine wpList_store_b rfl 30 _ _ rfl (w.heap.size + 1) (List.replicate 32 0) ?hx2 ?hy2 30 (List.replicate 32 0) hO4 (info32 rfl) ?hl2 ?hm2); (case hx2 => rfl); (case hy2 => rfl); (case hl2 => rfl)
             intro w7 hg7 hX7 hs7
             have hB8 : Below w.heap.size w w7 := Below.grows HB5.out hg7 HB5.out.size (Nat.le_succ _)))
      refine bodyPost_ret (v := .tuple #[.agg (idv (List.replicate 32 0)), .bool false]) ?_ ?_ ?_
      · exact results_row_tmp Tryd.results11 _ _ _ (w.heap.size + 1) 30 _ (0, 0) rfl hX7.is Tryd.underlying30 (info32 rfl) _ rfl
      · rfl
      · exact ⟨rfl, hB8⟩
    · have h2 : 1073741824 < e := by
        rcases h with h | h | h
        · rw [hm] at h; cases h
        · omega
        · exact h
      have h3 : 0 ≤ e := by omega
      clear hm h h1
      go_enter Tryd.func11, Tryd.ntmps11
      go_wp2_with (first
          | (go_at_call 15
             refine (umay_any _ _ _ _ _ (one_user_at ⟨no, role, A, n, c', key⟩ (size_two1 _ _ _) (HKB.out.below (two_below _ _ _)))).mono ?_
             rintro x w4 ⟨hx, hb4⟩
             rw [HM.out] at hx
             subst hx
             obtain ⟨hb5, hs5, h6, h7⟩ := after_three hb4
             have hO4 : RowB w4 (w.heap.size + 1) 30 (List.replicate 32 0) := h7
             have HB5 := Lib.hid hb5
             clear hb4 hb5 h6 h7)
          | ((with_reducible refine wpList_store_b rfl 30 _ _ rfl (w.heap.size + 1) (List.replicate 32 0) ?hx3 ?hy3 30 (List.replicate 32 0) hO4 (info32 rfl) ?hl3 ?hm3); (case hx3 => rfl); (case hy3 => rfl); (case hl3 => rfl)
             intro w7 hg7 hX7 hs7
             have hB8 : Below w.heap.size w w7 := Below.grows HB5.out hg7 HB5.out.size (Nat.le_succ _)))
      refine bodyPost_ret (v := .tuple #[.agg (idv (List.replicate 32 0)), .bool false]) ?_ ?_ ?_
      · exact results_row_tmp Tryd.results11 _ _ _ (w.heap.size + 1) 30 _ (0, 0) rfl hX7.is Tryd.underlying30 (info32 rfl) _ rfl
      · rfl
      · exact ⟨rfl, hB8⟩
end Go.Proofs.YtcfkpepohnjdfaaDoor

/- What both Secrets answer, for every user and session. -/
namespace Go.Proofs.YtcfkpepohnjdfaaDoor
set_option linter.unusedVariables false
set_option linter.unusedSimpArgs false
open Go.RowKit

def mayS (u : Us) (e : Int) : Bool := mayU [u] && decide (0 ≤ e) && decide (e ≤ 1073741824)
def secU (u : Us) (e d c : Int) : List Int := if mayS u e = true then secZ u.key u.no.toNat e.toNat d.toNat c.toNat else List.replicate 32 0
theorem secU_length (u : Us) (e d c : Int) : (secU u e d c).length = 32 := by
  unfold secU
  split
  · exact secZ_length _ _ _ _ _
  · simp
theorem mayS_no {u : Us} {e : Int} (h : mayS u e = false) : mayU [u] = false ∨ e < 0 ∨ 1073741824 < e := by
  unfold mayS at h
  cases h1 : mayU [u] with
  | false => exact .inl rfl
  | true =>
    rw [h1, Bool.true_and, Bool.and_eq_false_iff, decide_eq_false_iff_not, decide_eq_false_iff_not] at h
    exact .inr (by omega)
theorem mayS_yes {u : Us} {e : Int} (h : mayS u e = true) : mayU [u] = true ∧ 0 ≤ e ∧ e ≤ 1073741824 ∧ 0 < u.no ∧ u.no ≤ 255 := by
  unfold mayS at h
  simp only [Bool.and_eq_true, decide_eq_true_eq] at h
  have h2 := h.1.1
  rw [mayU, Bool.and_eq_true] at h2
  have := may_all h2.2 u (by simp)
  exact ⟨h.1.1, h.1.2, h.2, this.1, this.2.1⟩
theorem usecret_any (u : Us) (e d c : Int) (w : World) (hK : KTab w) (hk : Bts w u.A u.n u.c u.key) (hd0 : 0 ≤ d) (hd : d < 18446744073709551616) (hc0 : 0 ≤ c) (hc : c < 18446744073709551616) :
    Calls Tryd.prog 11 #[.agg #[.int .i64 u.no, .int .i64 u.role, .slice u.A u.n u.c], .int .i64 e, .int .u64 d, .int .u64 c] w fun x w' => x = .returned (.tuple #[.agg (idv (secU u e d c)), .bool (mayS u e)]) ∧ Below w.heap.size w w' := by
  cases h : mayS u e with
  | false =>
    rw [secU, h, if_neg (by simp)]
    exact usecret_no u e d c w hk (mayS_no h)
  | true =>
    obtain ⟨h1, h2, h3, h4, h5⟩ := mayS_yes h
    rw [secU, h, if_pos rfl]
    obtain ⟨e', rfl⟩ := Int.eq_ofNat_of_zero_le h2
    obtain ⟨d', rfl⟩ := Int.eq_ofNat_of_zero_le hd0
    obtain ⟨c', rfl⟩ := Int.eq_ofNat_of_zero_le hc0
    exact usecret_yes u u.no.toNat e' d' c' (by omega) w hK hk h1 (by omega) (by omega) (by omega)
theorem secret_role {u : Us} {r : Int} {e d c : Int} (h1 : isB u.role = true) (h2 : isB r = true) : secU { u with role := r } e d c = secU u e d c ∧ mayS { u with role := r } e = mayS u e := by
  have hm : mayU [{ u with role := r }] = mayU [u] := by simp [mayU, mayFrom, goodU, h1, h2]
  have hs : mayS { u with role := r } e = mayS u e := by rw [mayS, mayS, hm]
  exact ⟨by rw [secU, secU, hs], hs⟩
end Go.Proofs.YtcfkpepohnjdfaaDoor

/- The walk over the law UserTells: any users may be, or not, have the places, and the roles, and any user the keys, that the document says. -/
namespace Go.Proofs.YtcfkpepohnjdfaaDoor
set_option linter.unusedVariables false
set_option linter.unusedSimpArgs false
open Go.RowKit

theorem rusecret_any (u : Us) (e d c : Int) (w : World) (hk : Bts w u.A u.n u.c u.key) (hd0 : 0 ≤ d) (hd : d < 18446744073709551616) (hc0 : 0 ≤ c) (hc : c < 18446744073709551616) :
    Calls Tryd.prog 12 #[.agg #[.int .i64 u.no, .int .i64 u.role, .slice u.A u.n u.c], .int .i64 e, .int .u64 d, .int .u64 c] w fun x w' => x = .returned (.tuple #[.agg (idv (secU u e d c)), .bool (mayS u e)]) ∧ Below w.heap.size w w' := by
  cases h : mayS u e with
  | false =>
    rw [secU, h, if_neg (by simp)]
    exact rusecret_no u e d c w hk (mayS_no h)
  | true =>
    obtain ⟨h1, h2, h3, h4, h5⟩ := mayS_yes h
    rw [secU, h, if_pos rfl]
    obtain ⟨e', rfl⟩ := Int.eq_ofNat_of_zero_le h2
    obtain ⟨d', rfl⟩ := Int.eq_ofNat_of_zero_le hd0
    obtain ⟨c', rfl⟩ := Int.eq_ofNat_of_zero_le hc0
    exact rusecret_yes u u.no.toNat e' d' c' (by omega) w hk h1 (by omega) (by omega) (by omega)
theorem box_new (w w1 : World) (u : Us) (h : Below (w.alloc (.cells #[.int .i64 u.no, .int .i64 u.role, .slice u.A u.n u.c] 25)).heap.size (w.alloc (.cells #[.int .i64 u.no, .int .i64 u.role, .slice u.A u.n u.c] 25)) w1) : BoxU w1 w.heap.size u ∧ Below w.heap.size w w1 := by
  obtain ⟨h1, h2, h3⟩ := after_one h
  exact ⟨h3, h1⟩
set_option maxHeartbeats 1000000 in
theorem utells_no (A B : Option Addr) (n c m d : Nat) (l k : List Us) (no : Int) (u : Us) (e dr cn : Int) (w : World) (hK : KTab w) (hl : Uss w A n c l) (hm : Uss w B m d k) (hu : Bts w u.A u.n u.c u.key) (h : fewU l = false ∨ fewU k = false ∨ 100 < u.n) :
    Calls Tryd.prog 3 #[.slice A n c, .slice B m d, .int .i64 no, .agg #[.int .i64 u.no, .int .i64 u.role, .slice u.A u.n u.c], .int .i64 e, .int .u64 dr, .int .u64 cn] w fun e w' => e = .returned (.bool true) ∧ Below w.heap.size w w' := by
  obtain ⟨un, ur, uA, uk, uc, key⟩ := u
  simp only at hu h
  have HK := Lib.hid (hK.from (one_alloc w (.cells #[.int .i64 un, .int .i64 ur, .slice uA uk uc] 25)))
  obtain ⟨f1, hf1⟩ : ∃ b, fewU l = b := ⟨_, rfl⟩
  obtain ⟨f2, hf2⟩ : ∃ b, fewU k = b := ⟨_, rfl⟩
  rw [hf1, hf2] at h
  have HL := Lib.hid hl
  have HM := Lib.hid hm
  have F1 := Lib.hid hf1
  have F2 := Lib.hid hf2
  clear hl hm hf1 hf2 hu hK
  cases f1
  case' true => cases f2
  case' true.true => have h3 : (100 : Int) < uk := (by rcases h with h | h | h; (cases h); (cases h); omega)
  all_goals
    clear h
    go_enter Tryd.func3, Tryd.ntmps3
    go_wp2_with (first
      | (go_at_call 9
         refine (uawake_any _ HK.out).mono ?_
         rintro e w1 ⟨rfl, hb1⟩
         obtain ⟨hbox, hb1⟩ := box_new w w1 ⟨un, ur, uA, uk, uc, key⟩ hb1
         obtain ⟨y0, y1, y2⟩ := hbox.cells
         simp only at y0 y1 y2
         have HB1 := Lib.hid hb1
         clear hb1 hbox)
      | (go_at_call 10
         (with_reducible refine (few_any A n c l w1 (HL.out.below HB1.out)).mono ?_)
         rintro e w2 ⟨he, rfl⟩
         rw [F1.out] at he
         subst he)
      | (go_at_call 10
         (with_reducible refine (few_any B m d k _ (HM.out.below HB1.out)).mono ?_)
         rintro e w3 ⟨he, rfl⟩
         rw [F2.out] at he
         subst he))
    go_ret
    exact ⟨rfl, HB1.out⟩
set_option maxRecDepth 100000 in
set_option maxHeartbeats 2000000 in
theorem utells_yes (A B : Option Addr) (n c m d : Nat) (l k : List Us) (no : Int) (u : Us) (e dr cn : Int) (w : World) (hK : KTab w) (hl : Uss w A n c l) (hm : Uss w B m d k) (hu : Bts w u.A u.n u.c u.key) (hd0 : 0 ≤ dr) (hd : dr < 18446744073709551616) (hc0 : 0 ≤ cn) (hc : cn < 18446744073709551616) (hf1 : fewU l = true) (hf2 : fewU k = true) (h3 : u.n ≤ 100) :
    Calls Tryd.prog 3 #[.slice A n c, .slice B m d, .int .i64 no, .agg #[.int .i64 u.no, .int .i64 u.role, .slice u.A u.n u.c], .int .i64 e, .int .u64 dr, .int .u64 cn] w fun e w' => e = .returned (.bool true) ∧ Below w.heap.size w w' := by
  obtain ⟨Z, hZ⟩ : ∃ Z, secU u e dr cn = Z := ⟨_, rfl⟩
  have hZl : Z.length = 32 := by rw [← hZ]; exact secU_length _ _ _ _
  obtain ⟨G, hG⟩ : ∃ G, mayS u e = G := ⟨_, rfl⟩
  obtain ⟨un, ur, uA, uk, uc, key⟩ := u
  simp only at hu h3
  have h3' : (uk : Int) ≤ 100 := by omega
  have HK := Lib.hid (hK.from (one_alloc w (.cells #[.int .i64 un, .int .i64 ur, .slice uA uk uc] 25)))
  have heqZ : ∀ w, (Op.equalIn 10000 30 (.agg (idv Z)) (.agg (idv Z))).run Tryd.prog w = .ok true w := fun w => (eq32 Z Z hZl hZl w).trans (by rw [beq_self_eq_true])
  obtain ⟨fm, hfm⟩ : ∃ b, mayU l = b := ⟨_, rfl⟩
  obtain ⟨fs, hfs⟩ : ∃ b, sameU l k = b := ⟨_, rfl⟩
  obtain ⟨ff, hff⟩ : ∃ b, findU l no = b := ⟨_, rfl⟩
  obtain ⟨fr, hfr⟩ : ∃ b, roleU l no = b := ⟨_, rfl⟩
  have HKW := Lib.hid hK
  have HL := Lib.hid hl
  have HM := Lib.hid hm
  have HU := Lib.hid hu
  have F1 := Lib.hid hf1
  have F2 := Lib.hid hf2
  have FM := Lib.hid hfm
  have FS := Lib.hid hfs
  have FF := Lib.hid hff
  have FR := Lib.hid hfr
  have HZ := Lib.hid hZ
  have HG := Lib.hid hG
  have HZL := Lib.hid hZl
  clear hK hl hm hu hf1 hf2 hfm hfs hff hfr hZ hG hZl h3
  go_enter Tryd.func3, Tryd.ntmps3
  go_wp2_with (first
    | (go_at_call 9
       refine (uawake_any _ HK.out).mono ?_
       rintro e w1 ⟨rfl, hb1⟩
       obtain ⟨hbox, hb1⟩ := box_new w w1 ⟨un, ur, uA, uk, uc, key⟩ hb1
       obtain ⟨y0, y1, y2⟩ := hbox.cells
       simp only at y0 y1 y2
       have HBw1 := Lib.hid hb1
       have HBOX := Lib.hid hbox
       clear hb1 hbox)
    | (go_at_call 10
       (with_reducible refine (few_any A n c l w1 (HL.out.below HBw1.out)).mono ?_)
       rintro e w2 ⟨he, rfl⟩
       rw [F1.out] at he
       subst he)
    | (go_at_call 10
       (with_reducible refine (few_any B m d k _ (HM.out.below HBw1.out)).mono ?_)
       rintro e w3 ⟨he, rfl⟩
       rw [F2.out] at he
       subst he)
    | (go_at_call 11
       (refine (usecret_any ⟨un, ur, uA, uk, uc, key⟩ e dr cn _ (HKW.out.from HBw1.out) (HU.out.below HBw1.out) hd0 hd hc0 hc).mono ?_)
       rintro e w4 ⟨he, hbx⟩
       rw [HZ.out, HG.out] at he
       subst he
       have HBw4 := Lib.hid (HBw1.out.trans (hbx.mono HBw1.out.size))
       obtain ⟨z0, z1, z2⟩ := (HBOX.out.below hbx).cells
       simp only at z0 z1 z2
       have HBOX4 := Lib.hid (HBOX.out.below hbx)
       clear y0 y1 y2 HBOX
       clear hbx)
    | ((with_reducible refine wpList_store_b rfl 30 _ _ rfl w4.heap.size Z ?hx1 ?hy1 30 (List.replicate 32 0) (rowb_lit w4 30 _ _ ?hz1) (info32 HZL.out) ?hl1 ?hm1); (case hx1 => rfl); (case hy1 => rfl); (case hz1 => rfl); (case hl1 => rw [HZL.out]; rfl)
       intro w5 hg hX hs
       have hbx : Below w4.heap.size w4 w5 := Below.grows (one_alloc w4 _) hg (size_le_alloc _ _) (Nat.le_refl _)
       have HX5 := Lib.hid hX
       have HBw5 := Lib.hid (HBw4.out.trans (hbx.mono HBw4.out.size))
       obtain ⟨x0, x1, x2⟩ := (HBOX4.out.below hbx).cells
       simp only at x0 x1 x2
       clear z0 z1 z2 HBOX4
       clear hbx hg hX hs)
    | (go_at_call 12
       (refine (rusecret_any ⟨un, ur, uA, uk, uc, key⟩ e dr cn _ (HU.out.below HBw5.out) hd0 hd hc0 hc).mono ?_)
       rintro e w6 ⟨he, hbx⟩
       rw [HZ.out, HG.out] at he
       subst he
       have HBw6 := Lib.hid (HBw5.out.trans (hbx.mono HBw5.out.size))
       have HX6 := Lib.hid (HX5.out.keep hbx)
       clear x0 x1 x2 HX5
       clear hbx)
    | ((with_reducible refine wpList_store_b rfl 30 _ _ rfl w6.heap.size Z ?hx2 ?hy2 30 (List.replicate 32 0) (rowb_lit w6 30 _ _ ?hz2) (info32 HZL.out) ?hl2 ?hm2); (case hx2 => rfl); (case hy2 => rfl); (case hz2 => rfl); (case hl2 => rw [HZL.out]; rfl)
       intro w7 hg hX hs
       have hbx : Below w6.heap.size w6 w7 := Below.grows (one_alloc w6 _) hg (size_le_alloc _ _) (Nat.le_refl _)
       have HY7 := Lib.hid hX
       have HBw7 := Lib.hid (HBw6.out.trans (hbx.mono HBw6.out.size))
       have HX7 := Lib.hid (HX6.out.keep hbx)
       clear HX6
       clear hbx hg hX hs)
    | (go_at_call 13
       (with_reducible refine (rumay_any A n c l w7 (HL.out.below HBw7.out)).mono ?_)
       rintro e w8 ⟨he, hbx⟩
       rw [FM.out] at he
       subst he
       have HBw8 := Lib.hid (HBw7.out.trans (hbx.mono HBw7.out.size))
       have HX8 := Lib.hid (HX7.out.keep hbx)
       have HY8 := Lib.hid (HY7.out.keep hbx)
       clear HX7 HY7
       clear hbx)
    | (go_at_call 14
       (with_reducible refine (rusame_any A n c l B m d k w8 (HL.out.below HBw8.out) (HM.out.below HBw8.out)).mono ?_)
       rintro e w9 ⟨he, hbx⟩
       rw [FS.out] at he
       subst he
       have HBw9 := Lib.hid (HBw8.out.trans (hbx.mono HBw8.out.size))
       have HX9 := Lib.hid (HX8.out.keep hbx)
       have HY9 := Lib.hid (HY8.out.keep hbx)
       clear HX8 HY8
       clear hbx)
    | ((with_reducible refine wpList_load_b rfl 30 _ _ rfl w4.heap.size ?hx3 30 Z HX9.out Tryd.underlying30 ?hd3 (info32 HZL.out) ?hm3); (case hx3 => rfl); (case hd3 => rfl))
    | ((with_reducible refine wpList_load_b rfl 30 _ _ rfl w6.heap.size ?hx4 30 Z HY9.out Tryd.underlying30 ?hd4 (info32 HZL.out) ?hm4); (case hx4 => rfl); (case hd4 => rfl))
    | (go_at_call 15
       (with_reducible refine (umay_any A n c l w9 (HL.out.below HBw9.out)).mono ?_)
       rintro e w10 ⟨he, hbx⟩
       rw [FM.out] at he
       subst he
       have HBw10 := Lib.hid (HBw9.out.trans (hbx.mono HBw9.out.size))
       
       clear hbx)
    | (go_at_call 16
       (with_reducible refine (usame_any A n c l B m d k w10 (HL.out.below HBw10.out) (HM.out.below HBw10.out)).mono ?_)
       rintro e w11 ⟨he, hbx⟩
       rw [FS.out] at he
       subst he
       have HBw11 := Lib.hid (HBw10.out.trans (hbx.mono HBw10.out.size))
       
       clear hbx)
    | (go_at_call 17
       (with_reducible refine (ufind_any A n c l no w11 (HL.out.below HBw11.out)).mono ?_)
       rintro e w12 ⟨he, hbx⟩
       rw [FF.out] at he
       subst he
       have HBw12 := Lib.hid (HBw11.out.trans (hbx.mono HBw11.out.size))
       
       clear hbx)
    | (go_at_call 18
       (with_reducible refine (rufind_any A n c l no w12 (HL.out.below HBw12.out)).mono ?_)
       rintro e w13 ⟨he, hbx⟩
       rw [FF.out] at he
       subst he
       have HBw13 := Lib.hid (HBw12.out.trans (hbx.mono HBw12.out.size))
       
       clear hbx)
    | (go_at_call 19
       (with_reducible refine (urole_any A n c l no w13 (HL.out.below HBw13.out)).mono ?_)
       rintro e w14 ⟨he, hbx⟩
       rw [FR.out] at he
       subst he
       have HBw14 := Lib.hid (HBw13.out.trans (hbx.mono HBw13.out.size))
       
       clear hbx)
    | (go_at_call 20
       (with_reducible refine (rurole_any A n c l no w14 (HL.out.below HBw14.out)).mono ?_)
       rintro e w15 ⟨he, hbx⟩
       rw [FR.out] at he
       subst he
       have HBw15 := Lib.hid (HBw14.out.trans (hbx.mono HBw14.out.size))
       
       clear hbx))
  go_ret
  exact ⟨by simp, HBw15.out⟩
theorem utells_any (A B : Option Addr) (n c m d : Nat) (l k : List Us) (no : Int) (u : Us) (e dr cn : Int) (w : World) (hK : KTab w) (hl : Uss w A n c l) (hm : Uss w B m d k) (hu : Bts w u.A u.n u.c u.key) (hd : (Lit.int .u64 dr).wf = true) (hc : (Lit.int .u64 cn).wf = true) :
    Calls Tryd.prog 3 #[.slice A n c, .slice B m d, .int .i64 no, .agg #[.int .i64 u.no, .int .i64 u.role, .slice u.A u.n u.c], .int .i64 e, .int .u64 dr, .int .u64 cn] w fun e w' => e = .returned (.bool true) ∧ Below w.heap.size w w' := by
  have b1 := bounds_u64 hd
  have b2 := bounds_u64 hc
  cases h1 : fewU l with
  | false => exact utells_no A B n c m d l k no u e dr cn w hK hl hm hu (.inl h1)
  | true =>
    cases h2 : fewU k with
    | false => exact utells_no A B n c m d l k no u e dr cn w hK hl hm hu (.inr (.inl h2))
    | true =>
      by_cases h3 : u.n ≤ 100
      · exact utells_yes A B n c m d l k no u e dr cn w hK hl hm hu b1.1 (by omega) b2.1 (by omega) h1 h2 h3
      · exact utells_no A B n c m d l k no u e dr cn w hK hl hm hu (.inr (.inr (by omega)))
end Go.Proofs.YtcfkpepohnjdfaaDoor
