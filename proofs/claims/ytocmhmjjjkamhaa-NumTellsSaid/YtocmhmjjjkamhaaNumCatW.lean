/- The walk over the law NumCat: the bytes of numbers are those of the first ones, and of the others. -/
import Derived.Test.YtocmhmjjjkamhaaNumCutW
namespace Go.Proofs.Ytocmhmjjjkamhaa
set_option linter.unusedVariables false
set_option linter.unusedSimpArgs false
open Go.RowKit

def castP (q : List (Nat × Nat)) : List (Int × Int) := q.map fun p => ((p.1 : Int), (p.2 : Int))
theorem fits_nat (ps : List (Int × Int)) (h0 : ∀ p ∈ ps, 0 ≤ p.1 ∧ p.1 < 18446744073709551616 ∧ -9223372036854775808 ≤ p.2 ∧ p.2 ≤ 9223372036854775807) (h : fitsB ps = true) : ps = castP (toN ps) ∧ fitsL (toN ps) ∧ okSizes ((toN ps).map (·.2)) := by
  rw [fitsB, List.all_eq_true] at h
  have hp : ∀ p ∈ ps, 1 ≤ p.2 ∧ p.2 ≤ 8 ∧ p.1.toNat < 256 ^ p.2.toNat := fun p hp => by
    have := h p hp
    unfold fitB at this
    simpa using this
  refine ⟨?_, ?_, ?_⟩
  · rw [castP, toN, List.map_map]
    have : ps.map ((fun p : Nat × Nat => ((p.1 : Int), (p.2 : Int))) ∘ fun p : Int × Int => (p.1.toNat, p.2.toNat)) = ps.map id := List.map_congr_left fun p hp1 => by
      have h1 := hp p hp1
      have h2 := h0 p hp1
      simp only [Function.comp, id]
      rw [Int.toNat_of_nonneg h2.1, Int.toNat_of_nonneg (by omega)]
    rw [this, List.map_id]
  · intro q hq
    obtain ⟨p, hp1, rfl⟩ := List.mem_map.1 hq
    exact (hp p hp1).2.2
  · intro k hk
    obtain ⟨q, hq, rfl⟩ := List.mem_map.1 hk
    obtain ⟨p, hp1, rfl⟩ := List.mem_map.1 hq
    have := hp p hp1
    simp only
    omega
theorem fitsB_append (l m : List (Int × Int)) : fitsB (l ++ m) = (fitsB l && fitsB m) := by rw [fitsB, fitsB, fitsB, List.all_append]
theorem toN_append (l m : List (Int × Int)) : toN (l ++ m) = toN l ++ toN m := by simp [toN]

theorem ncat_not (A B : Option Addr) (n c m d : Nat) (w : World) (hn : n ≤ 9223372036854775807) (hm : m ≤ 9223372036854775807) (h : 20 < n ∨ 20 < m) :
    Calls Try.prog 7 #[.slice A n c, .slice B m d] w fun e w' => e = .returned (.bool true) ∧ Below w.heap.size w w' := by
  by_cases h1 : 20 < n
  · have h2 : (20 : Int) < n := by omega
    clear h h1
    go_enter Try.func7, Try.ntmps7
    go_wp2_with (go_at_call 9; refine (nawake_any _).mono ?_; rintro e w1 ⟨rfl, hB1⟩)
    go_ret
    exact ⟨rfl, hB1⟩
  · have h2 : (n : Int) ≤ 20 := by omega
    have h3 : (20 : Int) < m := by omega
    clear h h1
    go_enter Try.func7, Try.ntmps7
    go_wp2_with (go_at_call 9; refine (nawake_any _).mono ?_; rintro e w1 ⟨rfl, hB1⟩)
    go_ret
    exact ⟨rfl, hB1⟩

/-- what a call of Cat gives, where its result is known -/
theorem cat_val (A : Option Addr) (n c : Nat) (l : List (Int × Int)) (w : World) (hl : Nms w A n c l) (b : Bool) (h : catB l = b) :
    Calls Try.prog 14 #[.slice A n c] w fun e w' => ∃ v, e = .returned (.tuple #[v, .bool b]) ∧ (b = true → Own w' w.heap.size v (catL (toN l))) ∧ (b = false → v = .slice none 0 0) ∧ Below w.heap.size w w' := by
  refine (cat_any A n c l w hl).mono fun e w' ⟨h1, h2, h3⟩ => ?_
  cases b with
  | true =>
    obtain ⟨v, he, ho⟩ := h1 h
    exact ⟨v, he, fun _ => ho, (fun e => by cases e), h3⟩
  | false => exact ⟨_, h2 h, (fun e => by cases e), fun _ => rfl, h3⟩

set_option maxRecDepth 100000 in
set_option maxHeartbeats 4000000 in
theorem ncat_no (A B : Option Addr) (n c m d : Nat) (l k : List (Int × Int)) (w : World) (hn : n ≤ 20) (hm : m ≤ 20) (hl : Nms w A n c l) (hk : Nms w B m d k) (a b : Bool) (ha : fitsB l = a) (hb : fitsB k = b) (hab : (a && b) = false) :
    Calls Try.prog 7 #[.slice A n c, .slice B m d] w fun e w' => e = .returned (.bool true) ∧ Below w.heap.size w w' := by
  have h2 : (n : Int) ≤ 20 := by omega
  have h3 : (m : Int) ≤ 20 := by omega
  have h4 : catB l = a := by rw [catB, hl.len, decide_eq_true (show n ≤ 40 by omega), ha, Bool.true_and]
  have h5 : catB k = b := by rw [catB, hk.len, decide_eq_true (show m ≤ 40 by omega), hb, Bool.true_and]
  have h6 : catB (l ++ k) = false := by rw [catB, fitsB_append, ha, hb, hab, Bool.and_false]
  have HA := Lib.hid h4
  have HB := Lib.hid h5
  have HAB := Lib.hid h6
  have HL := Lib.hid hl.len
  have HK := Lib.hid hk.len
  clear h4 h5 h6 ha hb
  cases a <;> cases b
  case true.true => simp at hab
  all_goals
    clear hab
    go_enter Try.func7, Try.ntmps7
    go_wp2_with (first
      | (go_at_call 9; refine (nawake_any _).mono ?_; rintro e w1 ⟨rfl, hB1⟩)
      | (at_builtin
         refine wpList_append_r rfl 24 41 2 16 (.const (.slice none 0 0)) (.tmp 33) rfl Try.underlying24 numInfo (by omega) w.heap.size (.slice none 0 0) [] rfl (OwnR.nil _ _ _ _) A n c (l.map numR) rfl (hl.below hB1).rws (by simp only [List.length_nil]; omega) (by simp only [List.length_nil]; omega) hB1.size ?_
         intro v2 w2 hown2 hg2
         rw [List.nil_append] at hown2
         have hB2 : Below w.heap.size w w2 := hB1.grown hg2 hB1.size (fun k hk => by cases hk)
         have hv2 := hown2.size
         clear hg2)
      | (at_builtin
         refine wpList_append_r rfl 24 41 2 16 (.tmp 34) (.tmp 35) rfl Try.underlying24 numInfo (by omega) w.heap.size v2 (l.map numR) rfl hown2 B m d (k.map numR) rfl (hk.below hB2).rws (by rw [List.length_map, HL.out]; omega) (by rw [List.length_map, HL.out]; omega) hB2.size ?_
         intro v3 w3 hown3 hg3
         rw [← List.map_append] at hown3
         have hB3 : Below w.heap.size w w3 := hB2.grown hg3 hB2.size (fun k hk => (hv2 k hk).1)
         obtain ⟨A3, n3, c3, rfl, hr3⟩ := hown3.rws
         have hN3 : Nms w3 A3 n3 c3 (l ++ k) := ⟨hr3, mem_app hl.num hk.num⟩
         clear hg3 hown3 hr3)
      | (go_at_call 14; (with_reducible refine (cat_val A n c l w3 (hl.below hB3) _ HA.out).mono ?_); rintro e w4 ⟨v4, rfl, _, _, hb4⟩
         have hB4 := then_below hB3 hb4)
      | (go_at_call 14; (with_reducible refine (cat_val B m d k w4 (hk.below hB4) _ HB.out).mono ?_); rintro e w5 ⟨v5, rfl, _, _, hb5⟩
         have hB5 := then_below hB4 hb5)
      | (go_at_call 14; (with_reducible refine (cat_val A3 n3 c3 (l ++ k) w5 ((hN3.below hb4).below hb5) _ HAB.out).mono ?_); rintro e w6 ⟨v6, rfl, _, _, hb6⟩
         have hB6 := then_below hB5 hb6))
    go_ret
    exact ⟨rfl, hB6⟩
theorem castP_get (q : List (Nat × Nat)) (t : Nat) (h : t < q.length) : (castP q).getD t (0, 0) = (((q.getD t (0, 0)).1 : Int), ((q.getD t (0, 0)).2 : Int)) := by
  simp [castP, List.getD_eq_getElem?_getD, h]
theorem snds_snoc (q : List (Nat × Nat)) (t : Nat) (h : t < q.length) : ints ((q.take (t + 1)).map (·.2)) = ints ((q.take t).map (·.2)) ++ [((q.getD t (0, 0)).2 : Int)] := by
  rw [List.take_succ_eq_append_getElem h, List.map_append, ints_append]
  simp [ints, List.getD_eq_getElem?_getD, h]
theorem fsts_snoc (q : List (Nat × Nat)) (t : Nat) (h : t < q.length) : ints ((q.take (t + 1)).map (·.1)) = ints ((q.take t).map (·.1)) ++ [((q.getD t (0, 0)).1 : Int)] := by
  rw [List.take_succ_eq_append_getElem h, List.map_append, ints_append]
  simp [ints, List.getD_eq_getElem?_getD, h]

set_option maxRecDepth 100000 in
set_option maxHeartbeats 4000000 in
theorem ncat_yes (A B : Option Addr) (n c m d : Nat) (l k : List (Int × Int)) (w : World) (hn : n ≤ 20) (hm : m ≤ 20) (hl : Nms w A n c l) (hk : Nms w B m d k) (ha : fitsB l = true) (hb : fitsB k = true) :
    Calls Try.prog 7 #[.slice A n c, .slice B m d] w fun e w' => e = .returned (.bool true) ∧ Below w.heap.size w w' := by
  have h2 : (n : Int) ≤ 20 := by omega
  have h3 : (m : Int) ≤ 20 := by omega
  have h4 : catB l = true := by rw [catB, hl.len, decide_eq_true (show n ≤ 40 by omega), ha]; rfl
  have h5 : catB k = true := by rw [catB, hk.len, decide_eq_true (show m ≤ 40 by omega), hb]; rfl
  have hfit : fitsB (l ++ k) = true := by rw [fitsB_append, ha, hb]; rfl
  have hlk : (l ++ k).length = n + m := by rw [List.length_append, hl.len, hk.len]
  have h6 : catB (l ++ k) = true := by rw [catB, hlk, decide_eq_true (show n + m ≤ 40 by omega), hfit]; rfl
  obtain ⟨e1, e2, e3⟩ := fits_nat (l ++ k) (mem_app hl.num hk.num) hfit
  have e4 : toN (l ++ k) = toN l ++ toN k := toN_append l k
  obtain ⟨q, hq⟩ : ∃ q, toN (l ++ k) = q := ⟨_, rfl⟩
  rw [hq] at e1 e2 e3 e4
  have hql : q.length = n + m := by rw [← hq, toN, List.length_map, hlk]
  have hcl : catL q = catL (toN l) ++ catL (toN k) := by rw [e4, catL_append]
  have hcut : cutL (q.map (·.2)) (catL q) = q.map (·.1) := cut_cat q e2
  have hsum : (q.map (·.2)).sum = (catL q).length := (catL_length q).symm
  have hs1 : (catL (toN l)).length ≤ 160 := by have := catL_small l ha; rw [hl.len] at this; omega
  have hs2 : (catL (toN k)).length ≤ 160 := by have := catL_small k hb; rw [hk.len] at this; omega
  obtain ⟨L1, hL1⟩ : ∃ L, catL (toN l) = L := ⟨_, rfl⟩
  obtain ⟨L2, hL2⟩ : ∃ L, catL (toN k) = L := ⟨_, rfl⟩
  have ho1 : ∀ j, 0 ≤ L1.getD j 0 ∧ L1.getD j 0 < 256 := by rw [← hL1]; exact catL_ok _
  have ho2 : ∀ j, 0 ≤ L2.getD j 0 ∧ L2.getD j 0 < 256 := by rw [← hL2]; exact catL_ok _
  have hC : catL (toN (l ++ k)) = L1 ++ L2 := by rw [hq, hcl, hL1, hL2]
  rw [hL1, hL2] at hcl
  rw [hcl] at hcut hsum
  rw [hL1] at hs1
  rw [hL2] at hs2
  obtain ⟨s1, hs1e⟩ : ∃ s, bstr L1 = s := ⟨_, rfl⟩
  obtain ⟨s2, hs2e⟩ : ∃ s, bstr L2 = s := ⟨_, rfl⟩
  obtain ⟨s3, hs3e⟩ : ∃ s, bstr (L1 ++ L2) = s := ⟨_, rfl⟩
  have hadd : ∀ w, (Op.stringOp .add s1 s2).run Try.prog w = .ok (.string s3) w := fun w => by
    rw [← hs1e, ← hs2e, ← hs3e]
    exact add_bstr L1 L2 (by omega) (by omega) w
  have HA := Lib.hid h4
  have HB := Lib.hid h5
  have HAB := Lib.hid h6
  have HL := Lib.hid hl.len
  have HK := Lib.hid hk.len
  have HL1 := Lib.hid hL1
  have HL2 := Lib.hid hL2
  have HC := Lib.hid hC
  have HO1 := Lib.hid ho1
  have HO2 := Lib.hid ho2
  have HQL := Lib.hid hql
  have HE1 := Lib.hid e1
  have HE3 := Lib.hid e3
  have HCUT := Lib.hid hcut
  have HSUM := Lib.hid hsum
  have S1 := Lib.hid hs1e
  have S2 := Lib.hid hs2e
  have S3 := Lib.hid hs3e
  clear h4 h5 h6 ha hb hfit hlk e1 e2 e3 e4 hq hql hcl hcut hsum hL1 hL2 ho1 ho2 hC hs1e hs2e hs3e
  go_enter Try.func7, Try.ntmps7
  go_wp2_with (first
    | (go_at_call 9; refine (nawake_any _).mono ?_; rintro e w1 ⟨rfl, hB1⟩)
    | (at_builtin
       refine wpList_append_r rfl 24 41 2 16 (.const (.slice none 0 0)) (.tmp 33) rfl Try.underlying24 numInfo (by omega) w.heap.size (.slice none 0 0) [] rfl (OwnR.nil _ _ _ _) A n c (l.map numR) rfl (hl.below hB1).rws (by simp only [List.length_nil]; omega) (by simp only [List.length_nil]; omega) hB1.size ?_
       intro v2 w2 hown2 hg2
       rw [List.nil_append] at hown2
       have hB2 : Below w.heap.size w w2 := hB1.grown hg2 hB1.size (fun k hk => by cases hk)
       have hv2 := hown2.size
       clear hg2)
    | (at_builtin
       refine wpList_append_r rfl 24 41 2 16 (.tmp 34) (.tmp 35) rfl Try.underlying24 numInfo (by omega) w.heap.size v2 (l.map numR) rfl hown2 B m d (k.map numR) rfl (hk.below hB2).rws (by rw [List.length_map, HL.out]; omega) (by rw [List.length_map, HL.out]; omega) hB2.size ?_
       intro v3 w3 hown3 hg3
       rw [← List.map_append] at hown3
       have hB3 : Below w.heap.size w w3 := hB2.grown hg3 hB2.size (fun k hk => (hv2 k hk).1)
       obtain ⟨A3, n3, c3, rfl, hr3⟩ := hown3.rws
       have hN3 : Nms w3 A3 n3 c3 (l ++ k) := ⟨hr3, mem_app hl.num hk.num⟩
       have hn3 : n3 = n + m := by rw [← hN3.len, List.length_append, HL.out, HK.out]
       subst hn3
       clear hg3 hown3 hr3)
    | (go_at_call 14; (with_reducible refine (cat_val A n c l w3 (hl.below hB3) _ HA.out).mono ?_); rintro e w4 ⟨v4, rfl, hy4, _, hb4⟩
       have hB4 := then_below hB3 hb4
       have ho4 := hy4 rfl
       rw [HL1.out] at ho4
       obtain ⟨A4, n4, c4, rfl, hbt4⟩ := ho4.slice HO1.out
       clear hy4 ho4)
    | (go_at_call 14; (with_reducible refine (cat_val B m d k w4 (hk.below hB4) _ HB.out).mono ?_); rintro e w5 ⟨v5, rfl, hy5, _, hb5⟩
       have hB5 := then_below hB4 hb5
       have ho5 := hy5 rfl
       rw [HL2.out] at ho5
       obtain ⟨A5, n5, c5, rfl, hbt5⟩ := ho5.slice HO2.out
       clear hy5 ho5)
    | (go_at_call 14; (with_reducible refine (cat_val A3 (n + m) c3 (l ++ k) w5 ((hN3.below hb4).below hb5) _ HAB.out).mono ?_); rintro e w6 ⟨v6, rfl, hy6, _, hb6⟩
       have hB6 := then_below hB5 hb6
       have ho6 := hy6 rfl
       rw [HC.out] at ho6
       obtain ⟨A6, n6, c6, rfl, hbt6⟩ := ho6.slice (ok_append HO1.out HO2.out)
       have hN6 := ((hN3.below hb4).below hb5).below hb6
       have k4 := conv_bts ((hbt4.below hb5).below hb6)
       have k5 := conv_bts (hbt5.below hb6)
       have k6 := conv_bts hbt6
       rw [S1.out] at k4
       rw [S2.out] at k5
       rw [S3.out] at k6
       clear hy6 ho6 hN3 hb4 hb5 hb6 hbt4 hbt5))
  rw [HE1.out] at hN6
  clear k4 k5 k6
  go_loopw [13, 14, 15] (fun vs vw i wr => ∃ t : Nat, t ≤ n + m ∧ i = .int .i64 t ∧ OwnI .i64 3 wr w6.heap.size vs (ints ((q.take t).map (·.2))) ∧ OwnI .u64 22 wr w6.heap.size vw (ints ((q.take t).map (·.1))) ∧ Sep vs vw ∧ Below w6.heap.size w6 wr) (fun _ _ i _ => n + m - (intOf i).toNat)
  case atStart => exact ⟨0, Nat.zero_le _, rfl, OwnI.nil _ _ _ _, OwnI.nil _ _ _ _, Sep.nil _, Below.refl _ _⟩
  case round =>
    obtain ⟨t, htm, rfl, howns, hownw, hsep, hB⟩ := hrel
    by_cases hlt : t < n + m
    · have hqt : t < q.length := by rw [HQL.out]; exact hlt
      obtain ⟨bb, off, hA3, hcs6⟩ := hN6.cells (by omega)
      subst hA3
      obtain ⟨hc6, hc6b⟩ := hcs6 t hlt
      have hc0 := (hB.cell (p := ⟨bb, off + t * 2, none⟩) (block_lt_of_cell hc6)).trans hc6
      have hc1 := (hB.cell (p := ⟨bb, off + t * 2 + 1, none⟩) (block_lt_of_cell hc6b)).trans hc6b
      rw [castP_get q t hqt] at hc0 hc1 hc6
      have hnx2 := snds_snoc q t hqt
      have hnx1 := fsts_snoc q t hqt
      obtain ⟨p, hp⟩ : ∃ p, q.getD t (0, 0) = p := ⟨_, rfl⟩
      rw [hp] at hc0 hc1 hc6 hnx1 hnx2
      obtain ⟨x, K⟩ := p
      simp only at hc0 hc1 hc6 hnx1 hnx2
      have hl1 : (ints ((q.take t).map (·.2))).length ≤ 40 := by rw [ints_length, List.length_map, List.length_take]; omega
      have hl2 : (ints ((q.take t).map (·.1))).length ≤ 40 := by rw [ints_length, List.length_map, List.length_take]; omega
      have htm' : (t : Int) < (n : Int) + m := by omega
      have HNX1 := Lib.hid hnx1
      have HNX2 := Lib.hid hnx2
      clear hp hcs6 hc6b hqt hnx1 hnx2
      go_wp2_with (first
        | (at_builtin
           refine wpList_append_i_at rfl 25 3 .i64 8 _ _ rfl Try.underlying25 (by kernel_rfl) (by omega) w6.heap.size u13 (ints ((q.take t).map (·.2))) rfl (howns.more _) _ 1 1 [(K : Int)] rfl (one_its .i64 3 _ (K : Int)) (by omega) (Nat.le_trans hB.size (size_le_alloc _ _)) ?_
           intro v7 w7 hown7 hg7 hat7
           have hB7 : Below w6.heap.size w6 w7 := (hB.alloc hB.size _).grown hg7 (Nat.le_trans hB.size (size_le_alloc _ _)) (fun k hk => (howns.size k hk).1)
           have howw7 := (hownw.more _).far hg7 hsep.symm.row
           have hsep7 : Sep v7 u14 := hsep.step (fun g hg => Nat.lt_of_lt_of_le (hownw.size g hg).2 (size_le_alloc _ _)) hat7
           have hc7 := (hB7.cell (p := ⟨bb, off + t * 2, none⟩) (Nat.lt_of_lt_of_le (block_lt_of_cell hc6) (Nat.le_refl _))).trans hc6
           clear hg7 hat7)
        | (at_builtin
           refine wpList_append_i_at rfl 32 22 .u64 8 _ _ rfl Try.underlying32 (by kernel_rfl) (by omega) w6.heap.size u14 (ints ((q.take t).map (·.1))) rfl (howw7.more _) _ 1 1 [(x : Int)] rfl (one_its .u64 22 _ (x : Int)) (by omega) (Nat.le_trans hB7.size (size_le_alloc _ _)) ?_
           intro v8 w8 hown8 hg8 hat8
           have hB8 : Below w6.heap.size w6 w8 := (hB7.alloc hB7.size _).grown hg8 (Nat.le_trans hB7.size (size_le_alloc _ _)) (fun k hk => (howw7.size k hk).1)
           have howns8 := (hown7.more _).far hg8 hsep7.row
           have hsep8 : Sep v7 v8 := (hsep7.symm.step (fun g hg => Nat.lt_of_lt_of_le (hown7.size g hg).2 (size_le_alloc _ _)) hat8).symm
           rw [← HNX2.out] at howns8
           rw [← HNX1.out] at hown8
           clear hg8 hat8))
      go_roundw
      case rel => exact ⟨t + 1, by omega, by go_num, howns8, hown8, hsep8, hB8⟩
      case measure => simp [intOf]; omega
    · have htn : t = n + m := by omega
      have htk : q.take t = q := by rw [htn, ← HQL.out, List.take_length]
      rw [htk] at howns hownw
      obtain ⟨A7, n7, c7, rfl, hi7⟩ := howns.its
      obtain ⟨A8, n8, c8, rfl, hi8⟩ := hownw.its
      have hbt := hbt6.below hB
      have hB9 := then_below hB6 hB
      have hn6 : (q.map (·.2)).sum = n6 := by rw [HSUM.out, hbt6.len]
      have h40 : (q.map (·.2)).length ≤ 40 := by rw [List.length_map, HQL.out]; omega
      have HN6 := Lib.hid hn6
      clear howns hownw htk htn hn6 hbt6 hB hN6 hsep hB6
      go_wp2_with (first
        | (go_at_call 16; (with_reducible refine (cut_yes A6 A7 n6 c6 n7 c7 (L1 ++ L2) (q.map (·.2)) wr hbt hi7 HE3.out h40 HN6.out).mono ?_); rintro e w9 ⟨v9, rfl, hown9, hb9⟩
           rw [HCUT.out] at hown9
           have hB10 := then_below hB9 hb9
           obtain ⟨A9, n9, c9, rfl, hi9⟩ := hown9.its
           have hi8' := hi8.below hb9
           clear hown9 hb9)
        | (go_at_call 18; (with_reducible refine (nums_any A9 A8 n9 c9 n8 c8 (ints (q.map (·.1))) (ints (q.map (·.1))) w9 hi9 hi8').mono ?_); rintro e w11 ⟨he, j, hw11⟩
           rw [beq_self_eq_true] at he
           subst he
           have hB11 : Below w.heap.size w w11 := by rw [hw11]; exact below_drewN hB10 _
           clear hw11))
      go_ret
      exact ⟨rfl, hB11⟩
theorem ncat_all (A B : Option Addr) (n c m d : Nat) (l k : List (Int × Int)) (w : World) (hl : Nms w A n c l) (hk : Nms w B m d k) :
    Calls Try.prog 7 #[.slice A n c, .slice B m d] w fun e w' => e = .returned (.bool true) ∧ Below w.heap.size w w' := by
  by_cases h : 20 < n ∨ 20 < m
  · exact ncat_not A B n c m d w hl.rws.small hk.rws.small h
  · cases ha : fitsB l with
    | false => exact ncat_no A B n c m d l k w (by omega) (by omega) hl hk _ _ ha rfl rfl
    | true =>
      cases hb : fitsB k with
      | false => exact ncat_no A B n c m d l k w (by omega) (by omega) hl hk _ _ ha hb rfl
      | true => exact ncat_yes A B n c m d l k w (by omega) (by omega) hl hk ha hb
end Go.Proofs.Ytocmhmjjjkamhaa
