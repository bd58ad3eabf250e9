/- The walk over the law NumCut: what is cut is put together as the same bytes. -/
import Derived.Test.YtocmhmjjjkamhaaNumRefCut
import Derived.Deep.RegionLaw
namespace Go.Proofs.Ytocmhmjjjkamhaa
set_option linter.unusedVariables false
set_option linter.unusedSimpArgs false
open Go.RowKit

theorem ncut_not (A D : Option Addr) (n c m d : Nat) (x : Int) (w : World) (hn : n ≤ 9223372036854775807) (hm : m ≤ 9223372036854775807) (h : 400 < n ∨ 50 < m) :
    Calls Try.prog 8 #[.slice A n c, .slice D m d, .int .u8 x] w fun e w' => e = .returned (.bool true) ∧ Below w.heap.size w w' := by
  by_cases h1 : 400 < n
  · have h2 : (400 : Int) < n := by omega
    clear h h1
    go_enter Try.func8, Try.ntmps8
    go_wp2_with (go_at_call 9; refine (nawake_any _).mono ?_; rintro e w1 ⟨rfl, hB1⟩)
    go_ret
    exact ⟨rfl, hB1⟩
  · have h2 : (n : Int) ≤ 400 := by omega
    have h3 : (50 : Int) < m := by omega
    clear h h1
    go_enter Try.func8, Try.ntmps8
    go_wp2_with (go_at_call 9; refine (nawake_any _).mono ?_; rintro e w1 ⟨rfl, hB1⟩)
    go_ret
    exact ⟨rfl, hB1⟩
theorem ncut_no (A D : Option Addr) (n c m d : Nat) (b l : List Int) (x : Int) (w : World) (hn : n ≤ 400) (hm : m ≤ 50) (hb : Bts w A n c b) (hl : Its .i64 w D m d l) (h : cutB l n = false) :
    Calls Try.prog 8 #[.slice A n c, .slice D m d, .int .u8 x] w fun e w' => e = .returned (.bool true) ∧ Below w.heap.size w w' := by
  have h2 : (n : Int) ≤ 400 := by omega
  have h3 : (m : Int) ≤ 50 := by omega
  have H := Lib.hid h
  clear h
  go_enter Try.func8, Try.ntmps8
  go_wp2_with (first
    | (go_at_call 9; refine (nawake_any _).mono ?_; rintro e w1 ⟨rfl, hB1⟩)
    | (go_at_call 16; (with_reducible refine (cut_no A D n c m d b l w1 (hb.below hB1) (hl.below hB1) H.out).mono ?_); rintro e w2 ⟨rfl, rfl⟩))
  go_ret
  exact ⟨rfl, hB1⟩

/-- numbers with their sizes -/
def pairsL (xs ks : List Nat) : List (Int × Int) := (xs.zip ks).map fun p => ((p.1 : Int), (p.2 : Int))
theorem pairsL_toN (xs ks : List Nat) : toN (pairsL xs ks) = xs.zip ks := by
  rw [toN, pairsL, List.map_map]
  have : (xs.zip ks).map ((fun p : Int × Int => (p.1.toNat, p.2.toNat)) ∘ fun p : Nat × Nat => ((p.1 : Int), (p.2 : Int))) = (xs.zip ks).map id := List.map_congr_left fun p _ => by simp
  rw [this, List.map_id]
theorem pairsL_length (xs ks : List Nat) (h : xs.length = ks.length) : (pairsL xs ks).length = ks.length := by simp [pairsL, h]
theorem pairsL_snoc (xs ks : List Nat) (h : xs.length = ks.length) (k : Nat) (hk : k < ks.length) : (pairsL xs ks).take (k + 1) = (pairsL xs ks).take k ++ [(((xs.getD k 0 : Nat) : Int), ((ks.getD k 0 : Nat) : Int))] := by
  rw [List.take_succ_eq_append_getElem (by rw [pairsL_length xs ks h]; exact hk)]
  congr 2
  simp [pairsL, List.getD_eq_getElem?_getD, hk, h]
theorem pairsL_fits (xs ks : List Nat) (h : fitsL (xs.zip ks)) (hk : okSizes ks) : fitsB (pairsL xs ks) = true := by
  rw [fitsB, List.all_eq_true]
  intro p hp
  obtain ⟨q, hq, rfl⟩ := List.mem_map.1 hp
  have h1 := hk q.2 (List.of_mem_zip hq).2
  exact fit_of q.1 q.2 h1.1 h1.2 (h q hq)
theorem pairsL_num (xs ks : List Nat) (h : fitsL (xs.zip ks)) (hk : okSizes ks) : ∀ p ∈ pairsL xs ks, 0 ≤ p.1 ∧ p.1 < 18446744073709551616 ∧ -9223372036854775808 ≤ p.2 ∧ p.2 ≤ 9223372036854775807 := by
  intro p hp
  obtain ⟨q, hq, rfl⟩ := List.mem_map.1 hp
  have h1 := hk q.2 (List.of_mem_zip hq).2
  have h2 := h q hq
  have h3 : q.1 < 256 ^ 8 := Nat.lt_of_lt_of_le h2 (Nat.pow_le_pow_right (by omega) h1.2)
  refine ⟨by omega, by omega, by omega, by omega⟩
theorem numInfo : (Try.prog.info? 41).map (fun i => (i.zero.map (·.cells.size), i.size, i.bytes)) = some (some 2, 2, 16) := by kernel_rfl

set_option maxRecDepth 100000 in
set_option maxHeartbeats 4000000 in
theorem ncut_yes (A D : Option Addr) (n c m d : Nat) (b : List Int) (ks : List Nat) (x : Int) (w : World) (hn : n ≤ 400) (hx0 : 0 ≤ x) (hx1 : x < 256) (hb : Bts w A n c b) (hl : Its .i64 w D m d (ints ks)) (hk : okSizes ks) (hk40 : ks.length ≤ 40) (hsum : ks.sum = n) :
    Calls Try.prog 8 #[.slice A n c, .slice D m d, .int .u8 x] w fun e w' => e = .returned (.bool true) ∧ Below w.heap.size w w' := by
  have h2 : (n : Int) ≤ 400 := by omega
  have hks : ks.length = m := by have := hl.len; rwa [ints_length] at this
  have h3 : (m : Int) ≤ 40 := by omega
  obtain ⟨xs, hxs⟩ : ∃ xs, cutL ks b = xs := ⟨_, rfl⟩
  have hxl : xs.length = ks.length := by rw [← hxs, cutL_length]
  have hbm : ∀ y ∈ b, 0 ≤ y ∧ y < 256 := mem_ok hb.ok
  have hcat : catL (toN (pairsL xs ks)) = b := by rw [pairsL_toN, ← hxs]; exact cat_cut ks b hbm (hsum.trans hb.len.symm)
  have hfl : fitsL (xs.zip ks) := by rw [← hxs]; exact fits_cut ks b hbm (hsum.trans hb.len.symm)
  have hcb : catB (pairsL xs ks) = true := by rw [catB, pairsL_length xs ks hxl, decide_eq_true hk40, pairsL_fits xs ks hfl hk]; rfl
  have hnum := pairsL_num xs ks hfl hk
  have hpl := pairsL_length xs ks hxl
  have hsn := pairsL_snoc xs ks hxl
  obtain ⟨ps, hps⟩ : ∃ ps, pairsL xs ks = ps := ⟨_, rfl⟩
  rw [hps] at hcat hcb hnum hpl
  have hsn2 : ∀ k, k < ks.length → ps.take (k + 1) = ps.take k ++ [(((xs.getD k 0 : Nat) : Int), ((ks.getD k 0 : Nat) : Int))] := by rw [← hps]; exact hsn
  have hno : cutB (ints ks) (n + 1) = false := by
    rw [cutB, ints_sum, hsum, decide_eq_false (by omega), Bool.and_false]
  obtain ⟨s, hs⟩ : ∃ s, bstr b = s := ⟨_, rfl⟩
  have k2 : ∀ w', Below w.heap.size w w' → (convert 23 9 (.slice A n c)).run Try.prog w' = .ok (.string s) w' := fun w' h => by rw [← hs]; exact conv_bts (hb.below h)
  have HXS := Lib.hid hxs
  have HXL := Lib.hid hxl
  have HKS := Lib.hid hks
  have HK := Lib.hid hk
  have HSUM := Lib.hid hsum
  have HCAT := Lib.hid hcat
  have HCB := Lib.hid hcb
  have HNUM := Lib.hid hnum
  have HPL := Lib.hid hpl
  have HSN := Lib.hid hsn2
  have HNO := Lib.hid hno
  have HS := Lib.hid hs
  have HBL := Lib.hid hb.len
  have K2 := Lib.hid k2
  clear hxs hxl hks hk hsum hcat hcb hnum hpl hsn hsn2 hno hs hbm hfl hps k2
  go_enter Try.func8, Try.ntmps8
  go_wp2_with (first
    | (go_at_call 9; refine (nawake_any _).mono ?_; rintro e w1 ⟨rfl, hB1⟩)
    | (go_at_call 16; (with_reducible refine (cut_yes A D n c m d b ks w1 (hb.below hB1) (hl.below hB1) HK.out hk40 HSUM.out).mono ?_); rintro e w2 ⟨v2, rfl, hown2, hb2⟩
       rw [HXS.out] at hown2
       have hB2 := then_below hB1 hb2
       obtain ⟨A2, n2, c2, rfl, hits2⟩ := hown2.its
       have hn2 := hits2.len
       rw [ints_length, HXL.out, HKS.out] at hn2
       subst hn2
       clear hown2 hb2))
  go_loopw [10, 11] (fun v i wr => ∃ k : Nat, k ≤ m ∧ i = .int .i64 k ∧ OwnR 41 2 wr w2.heap.size v ((ps.take k).map numR) ∧ Below w2.heap.size w2 wr) (fun _ i _ => m - (intOf i).toNat)
  case atStart => exact ⟨0, Nat.zero_le _, rfl, OwnR.nil _ _ _ _, Below.refl _ _⟩
  case round =>
    obtain ⟨k, hkm, rfl, hown, hB⟩ := hrel
    by_cases hlt : k < m
    · have hkk : k < ks.length := by rw [HKS.out]; exact hlt
      obtain ⟨bl, ol, hAl, hcl⟩ := (hits2.below hB).at_ (by omega)
      obtain ⟨bs, os, hAs, hcs⟩ := (hl.below (then_below hB2 hB)).at_ (by omega)
      subst hAl hAs
      have hc0 := hcl k hlt
      have hc1 := hcs k hlt
      rw [ints_get xs k (by rw [HXL.out]; exact hkk)] at hc0
      rw [ints_get ks k hkk] at hc1
      obtain ⟨y, hy⟩ : ∃ y, xs.getD k 0 = y := ⟨_, rfl⟩
      obtain ⟨K, hK⟩ : ∃ K, ks.getD k 0 = K := ⟨_, rfl⟩
      have hnext : (ps.take (k + 1)).map numR = (ps.take k).map numR ++ [[.int .u64 y, .int .i64 K]] := by
        rw [HSN.out k hkk, hy, hK, List.map_append]
        rfl
      rw [hy] at hc0
      rw [hK] at hc1
      have hlen : ((ps.take k).map numR).length ≤ 40 := by
        rw [List.length_map, List.length_take]
        omega
      have HNX := Lib.hid hnext
      have p0 : 0 ≤ (k : Int) := by omega
      have p1 : (k : Int) < m := by omega
      clear hy hK hnext hcl hcs hkk
      go_wp2
      go_region_law (first
        | (refine step_append_r 24 41 2 16 (.tmp 52) (.tmp 62) rfl Try.underlying24 numInfo (by omega) w2.heap.size u10 ((ps.take k).map numR) ?_ ?_ (some ⟨wr.heap.size, 0, none⟩) 1 1 [[.int .u64 y, .int .i64 K]] ?_ ?_ (by omega) (by omega) ?_ rfl ?_
           · rfl
           · first | exact hown.draw1.more _ | exact hown.more _
           · rfl
           · exact (one_rws 2 41 _ [.int .u64 y, .int .i64 K] rfl (by simp [Value.oneCell'])).draw1
           · exact Nat.le_trans hB.size (by simp)
           intro v' w' hown' hg'
           have hbel : Below w2.heap.size w2 w' := by first | exact ((hB.drew).alloc hB.size _).grown hg' (Nat.le_trans hB.size (by simp)) (fun g hg => (hown.size g hg).1) | exact (hB.alloc hB.size _).grown hg' (Nat.le_trans hB.size (by simp)) (fun g hg => (hown.size g hg).1)
           rw [← HNX.out] at hown'))
      all_goals
        clear hc0 hc1
        go_wp2
        go_roundw
        case rel => exact ⟨k + 1, by omega, by go_num, hown', hbel⟩
        case measure => simp [intOf]; omega
    · have hkn : k = m := by omega
      have htk : ps.take k = ps := by rw [hkn, ← HKS.out, ← HPL.out, List.take_length]
      rw [htk] at hown
      obtain ⟨A3, n3, c3, rfl, hr3⟩ := hown.rws
      have hN3 : Nms wr A3 n3 c3 ps := ⟨hr3, HNUM.out⟩
      have hB3 := then_below hB2 hB
      have HB2 := Lib.hid hB2
      clear hown htk hkn hr3 hits2 hB hB2
      go_wp2_with (first
        | (go_at_call 14; (with_reducible refine (cat_any A3 n3 c3 ps wr hN3).mono ?_); rintro e w4 ⟨hy4, _, hb4⟩
           obtain ⟨v4, he4, hown4⟩ := hy4 HCB.out
           subst he4
           rw [HCAT.out] at hown4
           have hB4 := then_below hB3 hb4
           obtain ⟨A4, n4, c4, rfl, hbt4⟩ := hown4.slice hb.ok
           clear hy4 hb4 hown4)
        | (at_builtin
           refine wpList_append_b rfl (.const (.slice none 0 0)) (.tmp 70) rfl w4.heap.size (.slice none 0 0) [] rfl (Own.nil _ _) A n c b rfl (hb.below hB4) (by simp only [List.length_nil]; omega) (Nat.le_refl _) ?_
           intro v5 w5 hown5 hg5
           rw [List.nil_append] at hown5
           have hG5 : Below w4.heap.size w4 w5 := (Below.refl _ _).grown hg5 (Nat.le_refl _) (fun k hk => by cases hk)
           clear hg5)
        | (at_builtin
           refine wpList_append_b rfl (.tmp 71) (.tmp 73) rfl w4.heap.size v5 b rfl (hown5.more _) _ 1 1 [x] rfl (one_bts _ x hx0 hx1) (by rw [HBL.out]; omega) (Nat.le_trans hG5.size (size_le_alloc _ _)) ?_
           intro v6 w6 hown6 hg6
           have hv5 := hown5.size
           have hG6 : Below w4.heap.size w4 w6 := (hG5.alloc hG5.size _).grown hg6 (Nat.le_trans hG5.size (size_le_alloc _ _)) (fun k hk => (hv5 k hk).1)
           have hB6 := then_below hB4 hG6
           obtain ⟨A6, n6, c6, rfl, hbt6⟩ := hown6.slice (ok_append hb.ok (ok_one1 x hx0 hx1))
           have hn6 : n6 = n + 1 := by rw [← hbt6.len, List.length_append, HBL.out]; rfl
           subst hn6
           clear hown6 hg6 hv5)
        | (go_at_call 16; (with_reducible refine (cut_no A6 D (n + 1) c6 m d (b ++ [x]) (ints ks) w6 hbt6 (hl.below hB6) HNO.out).mono ?_); rintro e w7 ⟨rfl, rfl⟩
           have kx := conv_bts (hbt4.below hG6)
           have kb := K2.out w6 hB6
           rw [HS.out] at kx))
      go_ret
      exact ⟨by simp, hB6⟩
theorem ncut_all (A D : Option Addr) (n c m d : Nat) (b l : List Int) (x : Int) (w : World) (hx0 : 0 ≤ x) (hx1 : x < 256) (hb : Bts w A n c b) (hl : Its .i64 w D m d l) :
    Calls Try.prog 8 #[.slice A n c, .slice D m d, .int .u8 x] w fun e w' => e = .returned (.bool true) ∧ Below w.heap.size w w' := by
  by_cases h : 400 < n ∨ 50 < m
  · exact ncut_not A D n c m d x w hb.small hl.small h
  · cases hc : cutB l n with
    | false => exact ncut_no A D n c m d b l x w (by omega) (by omega) hb hl hc
    | true =>
      rw [cutB, Bool.and_eq_true, decide_eq_true_eq] at hc
      obtain ⟨ks, rfl, hk, hk40⟩ := tog_nat hc.1
      have hs := hc.2
      rw [ints_sum] at hs
      exact ncut_yes A D n c m d b ks x w (by omega) hx0 hx1 hb hl hk hk40 (by omega)
end Go.Proofs.Ytocmhmjjjkamhaa
