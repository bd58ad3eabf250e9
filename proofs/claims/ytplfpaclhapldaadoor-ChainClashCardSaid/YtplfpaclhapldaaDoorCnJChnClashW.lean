/- The walk over the law ChainClash: two lists that have one head, and are not the same, tell two texts that are not the same, and have one sum; all others tell none. -/
import Derived.Test.YtplfpaclhapldaaDoorCnJO
import Derived.Test.YtplfpaclhapldaaDoorCnJG
namespace Go.Proofs.YtplfpaclhapldaaDoor
set_option maxRecDepth 100000
set_option linter.unusedVariables false
set_option linter.unusedSimpArgs false
open Go.RowKit

set_option maxHeartbeats 1000000 in
theorem cclashw_a (A : Option Addr) (n c : Nat) (a : List En) (B : Option Addr) (m d : Nat) (b : List En) (w : World) (hK : KTab w) (ha : Ens w A n c a) (hb : Ens w B m d b) (oa : ∀ u ∈ a, u.ok) (ob : ∀ u ∈ b, u.ok) (h : 20 < n) :
    Calls Tryd.prog 6 #[.slice A n c, .slice B m d] w fun e w' => e = .returned (.bool true) ∧ Below w.heap.size w w' := by
  have hn := ha.small
  have hm := hb.small
  have e1 : (20 : Int) < n := by omega
  have HK := Lib.hid hK
  clear ha hb hK oa ob
  go_enter Tryd.func6, Tryd.ntmps6
  go_wp2_with (go_at_call 9; refine (cawake_any _ HK.out).mono ?_; rintro e w1 ⟨rfl, hb1⟩; have HBw1 := Lib.hid hb1; clear hb1)
  go_ret
  exact ⟨rfl, HBw1.out⟩
set_option maxHeartbeats 1000000 in
theorem cclashw_b (A : Option Addr) (n c : Nat) (a : List En) (B : Option Addr) (m d : Nat) (b : List En) (w : World) (hK : KTab w) (ha : Ens w A n c a) (hb : Ens w B m d b) (oa : ∀ u ∈ a, u.ok) (ob : ∀ u ∈ b, u.ok) (h : n ≤ 20) (h2 : 20 < m) :
    Calls Tryd.prog 6 #[.slice A n c, .slice B m d] w fun e w' => e = .returned (.bool true) ∧ Below w.heap.size w w' := by
  have hn := ha.small
  have hm := hb.small
  have e1 : (n : Int) ≤ 20 := by omega
  have e2 : (20 : Int) < m := by omega
  have HK := Lib.hid hK
  clear ha hb hK oa ob
  go_enter Tryd.func6, Tryd.ntmps6
  go_wp2_with (go_at_call 9; refine (cawake_any _ HK.out).mono ?_; rintro e w1 ⟨rfl, hb1⟩; have HBw1 := Lib.hid hb1; clear hb1)
  go_ret
  exact ⟨rfl, HBw1.out⟩
set_option maxHeartbeats 4000000 in
theorem cclashw_1 (A : Option Addr) (n c : Nat) (a : List En) (B : Option Addr) (m d : Nat) (b : List En) (w : World) (hK : KTab w) (ha : Ens w A n c a) (hb : Ens w B m d b) (oa : ∀ u ∈ a, u.ok) (ob : ∀ u ∈ b, u.ok) (h1 : n ≤ 20) (h2 : m ≤ 20) (hi : putC a = false) :
    Calls Tryd.prog 6 #[.slice A n c, .slice B m d] w fun e w' => e = .returned (.bool true) ∧ Below w.heap.size w w' := by
  have hn := ha.small
  have hm := hb.small
  have e1 : (n : Int) ≤ 20 := by omega
  have e2 : (m : Int) ≤ 20 := by omega
  have HK := Lib.hid hK
  have HA := Lib.hid ha
  have HB := Lib.hid hb
  have HPA := Lib.hid (fun (X : World) (hk : KTab X) (h : Ens X A n c a) => cput_any A n c a X hk h oa)
  have HPB := Lib.hid (fun (X : World) (hk : KTab X) (h : Ens X B m d b) => cput_any B m d b X hk h ob)
  have hsame : sameE a b = decide (a = b) := rfl
  have hc : clashB a b = false := by rw [clashB, hi]; rfl
  have hp : clashP a b = ([], []) := by rw [clashP, hc]; rfl
  have HCC := Lib.hid (show ∀ (X : World), KTab X → Ens X A n c a → Ens X B m d b → Calls Tryd.prog 19 #[.slice A n c, .slice B m d] X (GC [] [] false X) from fun X hk h1 h2 => by
    have := cclash_any A n c a B m d b X hk h1 h2 oa ob
    rw [hc, hp] at this
    exact this)
  clear hp hc
  rw [hi] at HPA
  obtain ⟨J, hj⟩ : ∃ J, putC b = J := ⟨_, rfl⟩
  rw [hj] at HPB
  obtain ⟨R1, hR1⟩ : ∃ R, (if false = true then recsC a else []) = R := ⟨_, rfl⟩
  obtain ⟨Z1, hZ1⟩ : ∃ R, (if false = true then headC a else noughtsC) = R := ⟨_, rfl⟩
  obtain ⟨R2, hR2⟩ : ∃ R, (if J = true then recsC b else []) = R := ⟨_, rfl⟩
  obtain ⟨Z2, hZ2⟩ : ∃ R, (if J = true then headC b else noughtsC) = R := ⟨_, rfl⟩
  have HZ1 := Lib.hid (show Z1.length = 32 by rw [← hZ1]; split; exact headC_len _; rfl)
  have HZ2 := Lib.hid (show Z2.length = 32 by rw [← hZ2]; split; exact headC_len _; rfl)
  rw [hR1, hZ1] at HPA
  rw [hR2, hZ2] at HPB
  clear ha hb hK oa ob hi hj hR1 hZ1 hR2 hZ2 hsame h1 h2 
  go_enter Tryd.func6, Tryd.ntmps6
  go_wp2_with (first
    | (go_at_call 9; refine (cawake_any _ HK.out).mono ?_; rintro e w1 ⟨rfl, hb1⟩; have HBw1 := Lib.hid hb1; clear hb1)
    | (go_at_call 10
       (with_reducible refine (HPA.out _ (HK.out.from HBw1.out) (HA.out.below HBw1.out)).mono ?_)
       rintro e w2 ⟨A2, n2, c2, rfl, -, hbx⟩
       have HBw2 := Lib.hid (HBw1.out.trans (hbx.mono HBw1.out.size))
       clear hbx)
    | ((with_reducible refine wpList_store_blk rfl 24 _ _ rfl w2.heap.size (idv Z1) ?hx2 ?hy2 24 _ (heap_alloc_new w2 _) (info32 HZ1.out) ?hs2 (idv_one _) ?_); (case hx2 => rfl); (case hy2 => rfl); (case hs2 => rw [idv_size, HZ1.out]; rfl)
       intro w3 hg2 hZ hs2
       have hZ : RowB w3 w2.heap.size 24 Z1 := hZ
       have hbx : Below w2.heap.size w2 w3 := Below.grows (one_alloc w2 _) hg2 (size_le_alloc _ _) (Nat.le_refl _)
       have HBw3 := Lib.hid (HBw2.out.trans (hbx.mono HBw2.out.size))
       clear hbx hg2 hs2)
    | (go_at_call 10
       (with_reducible refine (HPB.out _ (HK.out.from HBw3.out) (HB.out.below HBw3.out)).mono ?_)
       rintro e w4 ⟨A4, n4, c4, rfl, -, hbx⟩
       have HBw4 := Lib.hid (HBw3.out.trans (hbx.mono HBw3.out.size))
       have hZ := hZ.keep hbx
       clear hbx)
    | ((with_reducible refine wpList_store_blk rfl 24 _ _ rfl w4.heap.size (idv Z2) ?hx3 ?hy3 24 _ (heap_alloc_new w4 _) (info32 HZ2.out) ?hs3 (idv_one _) ?_); (case hx3 => rfl); (case hy3 => rfl); (case hs3 => rw [idv_size, HZ2.out]; rfl)
       intro w5 hg3 hY hs3
       have hY : RowB w5 w4.heap.size 24 Z2 := hY
       have hbx : Below w4.heap.size w4 w5 := Below.grows (one_alloc w4 _) hg3 (size_le_alloc _ _) (Nat.le_refl _)
       have HBw5 := Lib.hid (HBw4.out.trans (hbx.mono HBw4.out.size))
       have hZ := hZ.keep hbx
       clear hbx hg3 hs3)
    | (go_at_call 19
       (with_reducible refine (HCC.out _ (HK.out.from HBw5.out) (HA.out.below HBw5.out) (HB.out.below HBw5.out)).mono ?_)
       rintro e w6 ⟨A6, n6, c6, A7, n7, c7, rfl, hbt, hbu, hbx⟩
       have hl6 : n6 = 0 := hbt.len.symm
       have hl7 : n7 = 0 := hbu.len.symm
       subst hl6 hl7
       clear hbt hbu
       have HBw6 := Lib.hid (HBw5.out.trans (hbx.mono HBw5.out.size))
       have hZ := hZ.keep hbx
       have hY := hY.keep hbx
       clear hbx))
  go_ret
  exact ⟨rfl, HBw6.out⟩
set_option maxHeartbeats 4000000 in
theorem cclashw_2 (A : Option Addr) (n c : Nat) (a : List En) (B : Option Addr) (m d : Nat) (b : List En) (w : World) (hK : KTab w) (ha : Ens w A n c a) (hb : Ens w B m d b) (oa : ∀ u ∈ a, u.ok) (ob : ∀ u ∈ b, u.ok) (h1 : n ≤ 20) (h2 : m ≤ 20) (hi : putC a = true) (hj : putC b = false) :
    Calls Tryd.prog 6 #[.slice A n c, .slice B m d] w fun e w' => e = .returned (.bool true) ∧ Below w.heap.size w w' := by
  have hn := ha.small
  have hm := hb.small
  have e1 : (n : Int) ≤ 20 := by omega
  have e2 : (m : Int) ≤ 20 := by omega
  have HK := Lib.hid hK
  have HA := Lib.hid ha
  have HB := Lib.hid hb
  have HPA := Lib.hid (fun (X : World) (hk : KTab X) (h : Ens X A n c a) => cput_any A n c a X hk h oa)
  have HPB := Lib.hid (fun (X : World) (hk : KTab X) (h : Ens X B m d b) => cput_any B m d b X hk h ob)
  have hsame : sameE a b = decide (a = b) := rfl
  have hc : clashB a b = false := by rw [clashB, hi, hj]; rfl
  have hp : clashP a b = ([], []) := by rw [clashP, hc]; rfl
  have HCC := Lib.hid (show ∀ (X : World), KTab X → Ens X A n c a → Ens X B m d b → Calls Tryd.prog 19 #[.slice A n c, .slice B m d] X (GC [] [] false X) from fun X hk h1 h2 => by
    have := cclash_any A n c a B m d b X hk h1 h2 oa ob
    rw [hc, hp] at this
    exact this)
  clear hp hc
  rw [hi] at HPA
  rw [hj] at HPB
  obtain ⟨R1, hR1⟩ : ∃ R, (if true = true then recsC a else []) = R := ⟨_, rfl⟩
  obtain ⟨Z1, hZ1⟩ : ∃ R, (if true = true then headC a else noughtsC) = R := ⟨_, rfl⟩
  obtain ⟨R2, hR2⟩ : ∃ R, (if false = true then recsC b else []) = R := ⟨_, rfl⟩
  obtain ⟨Z2, hZ2⟩ : ∃ R, (if false = true then headC b else noughtsC) = R := ⟨_, rfl⟩
  have HZ1 := Lib.hid (show Z1.length = 32 by rw [← hZ1]; split; exact headC_len _; rfl)
  have HZ2 := Lib.hid (show Z2.length = 32 by rw [← hZ2]; split; exact headC_len _; rfl)
  rw [hR1, hZ1] at HPA
  rw [hR2, hZ2] at HPB
  clear ha hb hK oa ob hi hj hR1 hZ1 hR2 hZ2 hsame h1 h2 
  go_enter Tryd.func6, Tryd.ntmps6
  go_wp2_with (first
    | (go_at_call 9; refine (cawake_any _ HK.out).mono ?_; rintro e w1 ⟨rfl, hb1⟩; have HBw1 := Lib.hid hb1; clear hb1)
    | (go_at_call 10
       (with_reducible refine (HPA.out _ (HK.out.from HBw1.out) (HA.out.below HBw1.out)).mono ?_)
       rintro e w2 ⟨A2, n2, c2, rfl, -, hbx⟩
       have HBw2 := Lib.hid (HBw1.out.trans (hbx.mono HBw1.out.size))
       clear hbx)
    | ((with_reducible refine wpList_store_blk rfl 24 _ _ rfl w2.heap.size (idv Z1) ?hx2 ?hy2 24 _ (heap_alloc_new w2 _) (info32 HZ1.out) ?hs2 (idv_one _) ?_); (case hx2 => rfl); (case hy2 => rfl); (case hs2 => rw [idv_size, HZ1.out]; rfl)
       intro w3 hg2 hZ hs2
       have hZ : RowB w3 w2.heap.size 24 Z1 := hZ
       have hbx : Below w2.heap.size w2 w3 := Below.grows (one_alloc w2 _) hg2 (size_le_alloc _ _) (Nat.le_refl _)
       have HBw3 := Lib.hid (HBw2.out.trans (hbx.mono HBw2.out.size))
       clear hbx hg2 hs2)
    | (go_at_call 10
       (with_reducible refine (HPB.out _ (HK.out.from HBw3.out) (HB.out.below HBw3.out)).mono ?_)
       rintro e w4 ⟨A4, n4, c4, rfl, -, hbx⟩
       have HBw4 := Lib.hid (HBw3.out.trans (hbx.mono HBw3.out.size))
       have hZ := hZ.keep hbx
       clear hbx)
    | ((with_reducible refine wpList_store_blk rfl 24 _ _ rfl w4.heap.size (idv Z2) ?hx3 ?hy3 24 _ (heap_alloc_new w4 _) (info32 HZ2.out) ?hs3 (idv_one _) ?_); (case hx3 => rfl); (case hy3 => rfl); (case hs3 => rw [idv_size, HZ2.out]; rfl)
       intro w5 hg3 hY hs3
       have hY : RowB w5 w4.heap.size 24 Z2 := hY
       have hbx : Below w4.heap.size w4 w5 := Below.grows (one_alloc w4 _) hg3 (size_le_alloc _ _) (Nat.le_refl _)
       have HBw5 := Lib.hid (HBw4.out.trans (hbx.mono HBw4.out.size))
       have hZ := hZ.keep hbx
       clear hbx hg3 hs3)
    | (go_at_call 19
       (with_reducible refine (HCC.out _ (HK.out.from HBw5.out) (HA.out.below HBw5.out) (HB.out.below HBw5.out)).mono ?_)
       rintro e w6 ⟨A6, n6, c6, A7, n7, c7, rfl, hbt, hbu, hbx⟩
       have hl6 : n6 = 0 := hbt.len.symm
       have hl7 : n7 = 0 := hbu.len.symm
       subst hl6 hl7
       clear hbt hbu
       have HBw6 := Lib.hid (HBw5.out.trans (hbx.mono HBw5.out.size))
       have hZ := hZ.keep hbx
       have hY := hY.keep hbx
       clear hbx))
  go_ret
  exact ⟨rfl, HBw6.out⟩
set_option maxHeartbeats 4000000 in
theorem cclashw_3 (A : Option Addr) (n c : Nat) (a : List En) (B : Option Addr) (m d : Nat) (b : List En) (w : World) (hK : KTab w) (ha : Ens w A n c a) (hb : Ens w B m d b) (oa : ∀ u ∈ a, u.ok) (ob : ∀ u ∈ b, u.ok) (h1 : n ≤ 20) (h2 : m ≤ 20) (hi : putC a = true) (hj : putC b = true) (hd : decide (headC a = headC b) = false) :
    Calls Tryd.prog 6 #[.slice A n c, .slice B m d] w fun e w' => e = .returned (.bool true) ∧ Below w.heap.size w w' := by
  have hn := ha.small
  have hm := hb.small
  have e1 : (n : Int) ≤ 20 := by omega
  have e2 : (m : Int) ≤ 20 := by omega
  have HK := Lib.hid hK
  have HA := Lib.hid ha
  have HB := Lib.hid hb
  have HPA := Lib.hid (fun (X : World) (hk : KTab X) (h : Ens X A n c a) => cput_any A n c a X hk h oa)
  have HPB := Lib.hid (fun (X : World) (hk : KTab X) (h : Ens X B m d b) => cput_any B m d b X hk h ob)
  have hsame : sameE a b = decide (a = b) := rfl
  have hc : clashB a b = false := by rw [clashB, hi, hj, hd]; rfl
  have hp : clashP a b = ([], []) := by rw [clashP, hc]; rfl
  have HCC := Lib.hid (show ∀ (X : World), KTab X → Ens X A n c a → Ens X B m d b → Calls Tryd.prog 19 #[.slice A n c, .slice B m d] X (GC [] [] false X) from fun X hk h1 h2 => by
    have := cclash_any A n c a B m d b X hk h1 h2 oa ob
    rw [hc, hp] at this
    exact this)
  clear hp hc
  rw [hi] at HPA
  rw [hj] at HPB
  obtain ⟨R1, hR1⟩ : ∃ R, (if true = true then recsC a else []) = R := ⟨_, rfl⟩
  obtain ⟨Z1, hZ1⟩ : ∃ R, (if true = true then headC a else noughtsC) = R := ⟨_, rfl⟩
  obtain ⟨R2, hR2⟩ : ∃ R, (if true = true then recsC b else []) = R := ⟨_, rfl⟩
  obtain ⟨Z2, hZ2⟩ : ∃ R, (if true = true then headC b else noughtsC) = R := ⟨_, rfl⟩
  have HZ1 := Lib.hid (show Z1.length = 32 by rw [← hZ1]; split; exact headC_len _; rfl)
  have HZ2 := Lib.hid (show Z2.length = 32 by rw [← hZ2]; split; exact headC_len _; rfl)
  rw [hR1, hZ1] at HPA
  rw [hR2, hZ2] at HPB
  have HQ := Lib.hid (show ∀ w, (Op.equalIn 10000 24 (.agg (idv Z1)) (.agg (idv Z2))).run Tryd.prog w = .ok false w from fun w => by
    rw [eq_ids _ _ HZ1.out HZ2.out, ← hZ1, ← hZ2, if_pos rfl, if_pos rfl, hd])
  clear ha hb hK oa ob hi hj hR1 hZ1 hR2 hZ2 hsame h1 h2 hd
  go_enter Tryd.func6, Tryd.ntmps6
  go_wp2_with (first
    | (go_at_call 9; refine (cawake_any _ HK.out).mono ?_; rintro e w1 ⟨rfl, hb1⟩; have HBw1 := Lib.hid hb1; clear hb1)
    | (go_at_call 10
       (with_reducible refine (HPA.out _ (HK.out.from HBw1.out) (HA.out.below HBw1.out)).mono ?_)
       rintro e w2 ⟨A2, n2, c2, rfl, -, hbx⟩
       have HBw2 := Lib.hid (HBw1.out.trans (hbx.mono HBw1.out.size))
       clear hbx)
    | ((with_reducible refine wpList_store_blk rfl 24 _ _ rfl w2.heap.size (idv Z1) ?hx2 ?hy2 24 _ (heap_alloc_new w2 _) (info32 HZ1.out) ?hs2 (idv_one _) ?_); (case hx2 => rfl); (case hy2 => rfl); (case hs2 => rw [idv_size, HZ1.out]; rfl)
       intro w3 hg2 hZ hs2
       have hZ : RowB w3 w2.heap.size 24 Z1 := hZ
       have hbx : Below w2.heap.size w2 w3 := Below.grows (one_alloc w2 _) hg2 (size_le_alloc _ _) (Nat.le_refl _)
       have HBw3 := Lib.hid (HBw2.out.trans (hbx.mono HBw2.out.size))
       clear hbx hg2 hs2)
    | (go_at_call 10
       (with_reducible refine (HPB.out _ (HK.out.from HBw3.out) (HB.out.below HBw3.out)).mono ?_)
       rintro e w4 ⟨A4, n4, c4, rfl, -, hbx⟩
       have HBw4 := Lib.hid (HBw3.out.trans (hbx.mono HBw3.out.size))
       have hZ := hZ.keep hbx
       clear hbx)
    | ((with_reducible refine wpList_store_blk rfl 24 _ _ rfl w4.heap.size (idv Z2) ?hx3 ?hy3 24 _ (heap_alloc_new w4 _) (info32 HZ2.out) ?hs3 (idv_one _) ?_); (case hx3 => rfl); (case hy3 => rfl); (case hs3 => rw [idv_size, HZ2.out]; rfl)
       intro w5 hg3 hY hs3
       have hY : RowB w5 w4.heap.size 24 Z2 := hY
       have hbx : Below w4.heap.size w4 w5 := Below.grows (one_alloc w4 _) hg3 (size_le_alloc _ _) (Nat.le_refl _)
       have HBw5 := Lib.hid (HBw4.out.trans (hbx.mono HBw4.out.size))
       have hZ := hZ.keep hbx
       clear hbx hg3 hs3)
    | (go_at_call 19
       (with_reducible refine (HCC.out _ (HK.out.from HBw5.out) (HA.out.below HBw5.out) (HB.out.below HBw5.out)).mono ?_)
       rintro e w6 ⟨A6, n6, c6, A7, n7, c7, rfl, hbt, hbu, hbx⟩
       have hl6 : n6 = 0 := hbt.len.symm
       have hl7 : n7 = 0 := hbu.len.symm
       subst hl6 hl7
       clear hbt hbu
       have HBw6 := Lib.hid (HBw5.out.trans (hbx.mono HBw5.out.size))
       have hZ := hZ.keep hbx
       have hY := hY.keep hbx
       clear hbx)
    | ((with_reducible refine wpList_load_blk 24 _ rfl w2.heap.size ?hx8 24 (idv Z1) (0, 0) _ hZ.is Tryd.underlying24 ?hd8 (info32 HZ1.out) ?_ ?hw8); (case hx8 => rfl); (case hd8 => rfl); (case hw8 => rfl))
    | ((with_reducible refine wpList_load_blk 24 _ rfl w4.heap.size ?hx9 24 (idv Z2) (0, 0) _ hY.is Tryd.underlying24 ?hd9 (info32 HZ2.out) ?_ ?hw9); (case hx9 => rfl); (case hd9 => rfl); (case hw9 => rfl))
    | ((with_reducible refine wpList_eq_id .eql _ _ rfl (idv Z1) (idv Z2) ?hx10 ?hy10 false false (.inl ⟨rfl, rfl⟩) (fun w => HQ.out w) ?_ ?hw10); (case hx10 => rfl); (case hy10 => rfl); (case hw10 => rfl)))
  go_ret
  exact ⟨rfl, HBw6.out⟩
set_option maxHeartbeats 4000000 in
theorem cclashw_4 (A : Option Addr) (n c : Nat) (a : List En) (B : Option Addr) (m d : Nat) (b : List En) (w : World) (hK : KTab w) (ha : Ens w A n c a) (hb : Ens w B m d b) (oa : ∀ u ∈ a, u.ok) (ob : ∀ u ∈ b, u.ok) (h1 : n ≤ 20) (h2 : m ≤ 20) (hi : putC a = true) (hj : putC b = true) (hd : decide (headC a = headC b) = true) (hs : sameE a b = true) :
    Calls Tryd.prog 6 #[.slice A n c, .slice B m d] w fun e w' => e = .returned (.bool true) ∧ Below w.heap.size w w' := by
  have hn := ha.small
  have hm := hb.small
  have e1 : (n : Int) ≤ 20 := by omega
  have e2 : (m : Int) ≤ 20 := by omega
  have HK := Lib.hid hK
  have HA := Lib.hid ha
  have HB := Lib.hid hb
  have HPA := Lib.hid (fun (X : World) (hk : KTab X) (h : Ens X A n c a) => cput_any A n c a X hk h oa)
  have HPB := Lib.hid (fun (X : World) (hk : KTab X) (h : Ens X B m d b) => cput_any B m d b X hk h ob)
  have hsame : sameE a b = decide (a = b) := rfl
  have hc : clashB a b = false := by rw [clashB, hi, hj, hd, ← hsame, hs]; rfl
  have hp : clashP a b = ([], []) := by rw [clashP, hc]; rfl
  have HCC := Lib.hid (show ∀ (X : World), KTab X → Ens X A n c a → Ens X B m d b → Calls Tryd.prog 19 #[.slice A n c, .slice B m d] X (GC [] [] false X) from fun X hk h1 h2 => by
    have := cclash_any A n c a B m d b X hk h1 h2 oa ob
    rw [hc, hp] at this
    exact this)
  clear hp hc
  rw [hi] at HPA
  rw [hj] at HPB
  obtain ⟨R1, hR1⟩ : ∃ R, (if true = true then recsC a else []) = R := ⟨_, rfl⟩
  obtain ⟨Z1, hZ1⟩ : ∃ R, (if true = true then headC a else noughtsC) = R := ⟨_, rfl⟩
  obtain ⟨R2, hR2⟩ : ∃ R, (if true = true then recsC b else []) = R := ⟨_, rfl⟩
  obtain ⟨Z2, hZ2⟩ : ∃ R, (if true = true then headC b else noughtsC) = R := ⟨_, rfl⟩
  have HZ1 := Lib.hid (show Z1.length = 32 by rw [← hZ1]; split; exact headC_len _; rfl)
  have HZ2 := Lib.hid (show Z2.length = 32 by rw [← hZ2]; split; exact headC_len _; rfl)
  rw [hR1, hZ1] at HPA
  rw [hR2, hZ2] at HPB
  have HQ := Lib.hid (show ∀ w, (Op.equalIn 10000 24 (.agg (idv Z1)) (.agg (idv Z2))).run Tryd.prog w = .ok true w from fun w => by
    rw [eq_ids _ _ HZ1.out HZ2.out, ← hZ1, ← hZ2, if_pos rfl, if_pos rfl, hd])
  have HSM := Lib.hid (fun (X : World) (h1 : Ens X A n c a) (h2 : Ens X B m d b) => esame_any A n c a B m d b X h1 h2)
  rw [hs] at HSM
  unfold GBe at HSM
  clear ha hb hK oa ob hi hj hR1 hZ1 hR2 hZ2 hsame h1 h2 hd hs
  go_enter Tryd.func6, Tryd.ntmps6
  go_wp2_with (first
    | (go_at_call 9; refine (cawake_any _ HK.out).mono ?_; rintro e w1 ⟨rfl, hb1⟩; have HBw1 := Lib.hid hb1; clear hb1)
    | (go_at_call 10
       (with_reducible refine (HPA.out _ (HK.out.from HBw1.out) (HA.out.below HBw1.out)).mono ?_)
       rintro e w2 ⟨A2, n2, c2, rfl, -, hbx⟩
       have HBw2 := Lib.hid (HBw1.out.trans (hbx.mono HBw1.out.size))
       clear hbx)
    | ((with_reducible refine wpList_store_blk rfl 24 _ _ rfl w2.heap.size (idv Z1) ?hx2 ?hy2 24 _ (heap_alloc_new w2 _) (info32 HZ1.out) ?hs2 (idv_one _) ?_); (case hx2 => rfl); (case hy2 => rfl); (case hs2 => rw [idv_size, HZ1.out]; rfl)
       intro w3 hg2 hZ hs2
       have hZ : RowB w3 w2.heap.size 24 Z1 := hZ
       have hbx : Below w2.heap.size w2 w3 := Below.grows (one_alloc w2 _) hg2 (size_le_alloc _ _) (Nat.le_refl _)
       have HBw3 := Lib.hid (HBw2.out.trans (hbx.mono HBw2.out.size))
       clear hbx hg2 hs2)
    | (go_at_call 10
       (with_reducible refine (HPB.out _ (HK.out.from HBw3.out) (HB.out.below HBw3.out)).mono ?_)
       rintro e w4 ⟨A4, n4, c4, rfl, -, hbx⟩
       have HBw4 := Lib.hid (HBw3.out.trans (hbx.mono HBw3.out.size))
       have hZ := hZ.keep hbx
       clear hbx)
    | ((with_reducible refine wpList_store_blk rfl 24 _ _ rfl w4.heap.size (idv Z2) ?hx3 ?hy3 24 _ (heap_alloc_new w4 _) (info32 HZ2.out) ?hs3 (idv_one _) ?_); (case hx3 => rfl); (case hy3 => rfl); (case hs3 => rw [idv_size, HZ2.out]; rfl)
       intro w5 hg3 hY hs3
       have hY : RowB w5 w4.heap.size 24 Z2 := hY
       have hbx : Below w4.heap.size w4 w5 := Below.grows (one_alloc w4 _) hg3 (size_le_alloc _ _) (Nat.le_refl _)
       have HBw5 := Lib.hid (HBw4.out.trans (hbx.mono HBw4.out.size))
       have hZ := hZ.keep hbx
       clear hbx hg3 hs3)
    | (go_at_call 19
       (with_reducible refine (HCC.out _ (HK.out.from HBw5.out) (HA.out.below HBw5.out) (HB.out.below HBw5.out)).mono ?_)
       rintro e w6 ⟨A6, n6, c6, A7, n7, c7, rfl, hbt, hbu, hbx⟩
       have hl6 : n6 = 0 := hbt.len.symm
       have hl7 : n7 = 0 := hbu.len.symm
       subst hl6 hl7
       clear hbt hbu
       have HBw6 := Lib.hid (HBw5.out.trans (hbx.mono HBw5.out.size))
       have hZ := hZ.keep hbx
       have hY := hY.keep hbx
       clear hbx)
    | ((with_reducible refine wpList_load_blk 24 _ rfl w2.heap.size ?hx8 24 (idv Z1) (0, 0) _ hZ.is Tryd.underlying24 ?hd8 (info32 HZ1.out) ?_ ?hw8); (case hx8 => rfl); (case hd8 => rfl); (case hw8 => rfl))
    | ((with_reducible refine wpList_load_blk 24 _ rfl w4.heap.size ?hx9 24 (idv Z2) (0, 0) _ hY.is Tryd.underlying24 ?hd9 (info32 HZ2.out) ?_ ?hw9); (case hx9 => rfl); (case hd9 => rfl); (case hw9 => rfl))
    | ((with_reducible refine wpList_eq_id .eql _ _ rfl (idv Z1) (idv Z2) ?hx10 ?hy10 true true (.inl ⟨rfl, rfl⟩) (fun w => HQ.out w) ?_ ?hw10); (case hx10 => rfl); (case hy10 => rfl); (case hw10 => rfl))
    | (go_at_call 23
       (with_reducible refine (HSM.out _ (HA.out.below HBw6.out) (HB.out.below HBw6.out)).mono ?_)
       rintro e w7 ⟨rfl, hbx⟩
       have HBw7 := Lib.hid (HBw6.out.trans (hbx.mono HBw6.out.size))
       clear hbx))
  go_ret
  exact ⟨rfl, HBw7.out⟩
set_option maxHeartbeats 4000000 in
theorem cclashw_5 (A : Option Addr) (n c : Nat) (a : List En) (B : Option Addr) (m d : Nat) (b : List En) (w : World) (hK : KTab w) (ha : Ens w A n c a) (hb : Ens w B m d b) (oa : ∀ u ∈ a, u.ok) (ob : ∀ u ∈ b, u.ok) (h1 : n ≤ 20) (h2 : m ≤ 20) (hi : putC a = true) (hj : putC b = true) (hd : decide (headC a = headC b) = true) (hs : sameE a b = false) :
    Calls Tryd.prog 6 #[.slice A n c, .slice B m d] w fun e w' => e = .returned (.bool true) ∧ Below w.heap.size w w' := by
  have hn := ha.small
  have hm := hb.small
  have e1 : (n : Int) ≤ 20 := by omega
  have e2 : (m : Int) ≤ 20 := by omega
  have HK := Lib.hid hK
  have HA := Lib.hid ha
  have HB := Lib.hid hb
  have HPA := Lib.hid (fun (X : World) (hk : KTab X) (h : Ens X A n c a) => cput_any A n c a X hk h oa)
  have HPB := Lib.hid (fun (X : World) (hk : KTab X) (h : Ens X B m d b) => cput_any B m d b X hk h ob)
  have hsame : sameE a b = decide (a = b) := rfl
  have hc : clashB a b = true := by rw [clashB, hi, hj, hd, ← hsame, hs]; rfl
  obtain ⟨hne, hsum⟩ := clash_two hc oa ob
  have hbd : (clashP a b).1.length ≤ 63 ∧ (clashP a b).2.length ≤ 63 ∧ (∀ j, 0 ≤ (clashP a b).1.getD j 0 ∧ (clashP a b).1.getD j 0 < 256) ∧ ∀ j, 0 ≤ (clashP a b).2.getD j 0 ∧ (clashP a b).2.getD j 0 < 256 := by
    rw [clashP, if_pos hc]
    exact ⟨text_len _, text_len _, text_byte _, text_byte _⟩
  have HCC := Lib.hid (fun (X : World) (hk : KTab X) (h1 : Ens X A n c a) (h2 : Ens X B m d b) => cclash_any A n c a B m d b X hk h1 h2 oa ob)
  rw [hc] at HCC
  obtain ⟨C1, hC1⟩ : ∃ X, (clashP a b).1 = X := ⟨_, rfl⟩
  obtain ⟨C2, hC2⟩ : ∃ X, (clashP a b).2 = X := ⟨_, rfl⟩
  rw [hC1, hC2] at HCC hne hsum hbd
  obtain ⟨s1, hs1⟩ : ∃ s, bstr C1 = s := ⟨_, rfl⟩
  obtain ⟨s2, hs2⟩ : ∃ s, bstr C2 = s := ⟨_, rfl⟩
  have HSE := Lib.hid (show (s1.toList == s2.toList) = false by rw [← hs1, ← hs2, bstr_same hbd.2.2.1 hbd.2.2.2, decide_eq_false hne])
  have HS1 := Lib.hid hs1
  have HS2 := Lib.hid hs2
  have HBD := Lib.hid hbd
  obtain ⟨Y, hY⟩ : ∃ Y, sumL C1 = Y := ⟨_, rfl⟩
  have HYL := Lib.hid (show Y.length = 32 by rw [← hY]; exact csum_len _)
  have HU1 := Lib.hid (show ∀ (A : Option Addr) (m d : Nat) (W : World), KTab W → Bts W A m d C1 → Calls Tryd.prog 24 #[.slice A m d] W (fun e w' => e = .returned (.agg (idv Y)) ∧ Below W.heap.size W w') from fun A m d W hk h2 => by rw [← hY]; exact sum_yes A m d _ W hk (by have := h2.len; omega) h2)
  have HU2 := Lib.hid (show ∀ (A : Option Addr) (m d : Nat) (W : World), KTab W → Bts W A m d C2 → Calls Tryd.prog 24 #[.slice A m d] W (fun e w' => e = .returned (.agg (idv Y)) ∧ Below W.heap.size W w') from fun A m d W hk h2 => by rw [← hY, hsum]; exact sum_yes A m d _ W hk (by have := h2.len; omega) h2)
  have HQY := Lib.hid (show ∀ w, (Op.equalIn 10000 24 (.agg (idv Y)) (.agg (idv Y))).run Tryd.prog w = .ok true w from fun w => by rw [eq_ids _ _ HYL.out HYL.out, decide_eq_true rfl])
  clear hne hsum hbd hC1 hC2 hs1 hs2 hY hc
  rw [hi] at HPA
  rw [hj] at HPB
  obtain ⟨R1, hR1⟩ : ∃ R, (if true = true then recsC a else []) = R := ⟨_, rfl⟩
  obtain ⟨Z1, hZ1⟩ : ∃ R, (if true = true then headC a else noughtsC) = R := ⟨_, rfl⟩
  obtain ⟨R2, hR2⟩ : ∃ R, (if true = true then recsC b else []) = R := ⟨_, rfl⟩
  obtain ⟨Z2, hZ2⟩ : ∃ R, (if true = true then headC b else noughtsC) = R := ⟨_, rfl⟩
  have HZ1 := Lib.hid (show Z1.length = 32 by rw [← hZ1]; split; exact headC_len _; rfl)
  have HZ2 := Lib.hid (show Z2.length = 32 by rw [← hZ2]; split; exact headC_len _; rfl)
  rw [hR1, hZ1] at HPA
  rw [hR2, hZ2] at HPB
  have HQ := Lib.hid (show ∀ w, (Op.equalIn 10000 24 (.agg (idv Z1)) (.agg (idv Z2))).run Tryd.prog w = .ok true w from fun w => by
    rw [eq_ids _ _ HZ1.out HZ2.out, ← hZ1, ← hZ2, if_pos rfl, if_pos rfl, hd])
  have HSM := Lib.hid (fun (X : World) (h1 : Ens X A n c a) (h2 : Ens X B m d b) => esame_any A n c a B m d b X h1 h2)
  rw [hs] at HSM
  unfold GBe at HSM
  clear ha hb hK oa ob hi hj hR1 hZ1 hR2 hZ2 hsame h1 h2 hd hs
  go_enter Tryd.func6, Tryd.ntmps6
  have hse := HSE.out
  go_wp2_with (first
    | (go_at_call 9; refine (cawake_any _ HK.out).mono ?_; rintro e w1 ⟨rfl, hb1⟩; have HBw1 := Lib.hid hb1; clear hb1)
    | (go_at_call 10
       (with_reducible refine (HPA.out _ (HK.out.from HBw1.out) (HA.out.below HBw1.out)).mono ?_)
       rintro e w2 ⟨A2, n2, c2, rfl, -, hbx⟩
       have HBw2 := Lib.hid (HBw1.out.trans (hbx.mono HBw1.out.size))
       clear hbx)
    | ((with_reducible refine wpList_store_blk rfl 24 _ _ rfl w2.heap.size (idv Z1) ?hx2 ?hy2 24 _ (heap_alloc_new w2 _) (info32 HZ1.out) ?hs2 (idv_one _) ?_); (case hx2 => rfl); (case hy2 => rfl); (case hs2 => rw [idv_size, HZ1.out]; rfl)
       intro w3 hg2 hZ hs2
       have hZ : RowB w3 w2.heap.size 24 Z1 := hZ
       have hbx : Below w2.heap.size w2 w3 := Below.grows (one_alloc w2 _) hg2 (size_le_alloc _ _) (Nat.le_refl _)
       have HBw3 := Lib.hid (HBw2.out.trans (hbx.mono HBw2.out.size))
       clear hbx hg2 hs2)
    | (go_at_call 10
       (with_reducible refine (HPB.out _ (HK.out.from HBw3.out) (HB.out.below HBw3.out)).mono ?_)
       rintro e w4 ⟨A4, n4, c4, rfl, -, hbx⟩
       have HBw4 := Lib.hid (HBw3.out.trans (hbx.mono HBw3.out.size))
       have hZ := hZ.keep hbx
       clear hbx)
    | ((with_reducible refine wpList_store_blk rfl 24 _ _ rfl w4.heap.size (idv Z2) ?hx3 ?hy3 24 _ (heap_alloc_new w4 _) (info32 HZ2.out) ?hs3 (idv_one _) ?_); (case hx3 => rfl); (case hy3 => rfl); (case hs3 => rw [idv_size, HZ2.out]; rfl)
       intro w5 hg3 hY hs3
       have hY : RowB w5 w4.heap.size 24 Z2 := hY
       have hbx : Below w4.heap.size w4 w5 := Below.grows (one_alloc w4 _) hg3 (size_le_alloc _ _) (Nat.le_refl _)
       have HBw5 := Lib.hid (HBw4.out.trans (hbx.mono HBw4.out.size))
       have hZ := hZ.keep hbx
       clear hbx hg3 hs3)
    | (go_at_call 19
       (with_reducible refine (HCC.out _ (HK.out.from HBw5.out) (HA.out.below HBw5.out) (HB.out.below HBw5.out)).mono ?_)
       rintro e w6 ⟨A6, n6, c6, A7, n7, c7, rfl, hbt, hbu, hbx⟩
       have HX6 := Lib.hid hbt
       have HY6 := Lib.hid hbu
       have k1 := conv_bts hbt
       have k2 := conv_bts hbu
       rw [HS1.out] at k1
       rw [HS2.out] at k2
       clear hbt hbu
       have HBw6 := Lib.hid (HBw5.out.trans (hbx.mono HBw5.out.size))
       have hZ := hZ.keep hbx
       have hY := hY.keep hbx
       clear hbx)
    | ((with_reducible refine wpList_load_blk 24 _ rfl w2.heap.size ?hx8 24 (idv Z1) (0, 0) _ hZ.is Tryd.underlying24 ?hd8 (info32 HZ1.out) ?_ ?hw8); (case hx8 => rfl); (case hd8 => rfl); (case hw8 => rfl))
    | ((with_reducible refine wpList_load_blk 24 _ rfl w4.heap.size ?hx9 24 (idv Z2) (0, 0) _ hY.is Tryd.underlying24 ?hd9 (info32 HZ2.out) ?_ ?hw9); (case hx9 => rfl); (case hd9 => rfl); (case hw9 => rfl))
    | ((with_reducible refine wpList_eq_id .eql _ _ rfl (idv Z1) (idv Z2) ?hx10 ?hy10 true true (.inl ⟨rfl, rfl⟩) (fun w => HQ.out w) ?_ ?hw10); (case hx10 => rfl); (case hy10 => rfl); (case hw10 => rfl))
    | (go_at_call 23
       (with_reducible refine (HSM.out _ (HA.out.below HBw6.out) (HB.out.below HBw6.out)).mono ?_)
       rintro e w7 ⟨rfl, hbx⟩
       have k1 := conv_bts (HX6.out.below hbx)
       have k2 := conv_bts (HY6.out.below hbx)
       rw [HS1.out] at k1
       rw [HS2.out] at k2
       have HX7 := Lib.hid (HX6.out.below hbx)
       have HY7 := Lib.hid (HY6.out.below hbx)
       have HBw7 := Lib.hid (HBw6.out.trans (hbx.mono HBw6.out.size))
       clear hbx)
    | (go_at_call 24
       (with_reducible refine (HU1.out _ _ _ _ (HK.out.from HBw7.out) HX7.out).mono ?_)
       rintro e w8 ⟨rfl, hbx⟩
       have HY8 := Lib.hid (HY7.out.below hbx)
       have HBw8 := Lib.hid (HBw7.out.trans (hbx.mono HBw7.out.size))
       clear hbx)
    | (go_at_call 24
       (with_reducible refine (HU2.out _ _ _ _ (HK.out.from HBw8.out) HY8.out).mono ?_)
       rintro e w9 ⟨rfl, hbx⟩
       have HBw9 := Lib.hid (HBw8.out.trans (hbx.mono HBw8.out.size))
       clear hbx)
    | ((with_reducible refine wpList_eq_id .eql _ _ rfl (idv Y) (idv Y) ?hx11 ?hy11 true true (.inl ⟨rfl, rfl⟩) (fun w => HQY.out w) ?_ ?hw11); (case hx11 => rfl); (case hy11 => rfl); (case hw11 => rfl)))
  go_ret
  exact ⟨rfl, HBw9.out⟩
theorem cclashw_any (A : Option Addr) (n c : Nat) (a : List En) (B : Option Addr) (m d : Nat) (b : List En) (w : World) (hK : KTab w) (ha : Ens w A n c a) (hb : Ens w B m d b) (oa : ∀ u ∈ a, u.ok) (ob : ∀ u ∈ b, u.ok) : Calls Tryd.prog 6 #[.slice A n c, .slice B m d] w fun e w' => e = .returned (.bool true) ∧ Below w.heap.size w w' := by
  by_cases h1 : n ≤ 20
  · by_cases h2 : m ≤ 20
    · cases hi : putC a with
      | false => exact cclashw_1 A n c a B m d b w hK ha hb oa ob h1 h2 hi
      | true =>
        cases hj : putC b with
        | false => exact cclashw_2 A n c a B m d b w hK ha hb oa ob h1 h2 hi hj
        | true =>
          cases hd : decide (headC a = headC b) with
          | false => exact cclashw_3 A n c a B m d b w hK ha hb oa ob h1 h2 hi hj hd
          | true =>
            cases hs : sameE a b with
            | true => exact cclashw_4 A n c a B m d b w hK ha hb oa ob h1 h2 hi hj hd hs
            | false => exact cclashw_5 A n c a B m d b w hK ha hb oa ob h1 h2 hi hj hd hs
    · exact cclashw_b A n c a B m d b w hK ha hb oa ob h1 (by omega)
  · exact cclashw_a A n c a B m d b w hK ha hb oa ob (by omega)
end Go.Proofs.YtplfpaclhapldaaDoor
