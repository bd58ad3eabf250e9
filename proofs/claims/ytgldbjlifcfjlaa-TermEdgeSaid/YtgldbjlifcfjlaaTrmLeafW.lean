/- The walk over the law TermLeaf. -/
import Derived.Test.YtgldbjlifcfjlaaTrmAwake
namespace Go.Proofs.Ytgldbjlifcfjlaa
set_option linter.unusedVariables false
set_option linter.unusedSimpArgs false
open Go.RowKit

/-- what Unrow tells of what is no row -/
theorem un_none {t : Te} (ht : ∀ l, rowB l = true → t ≠ rowT l) {w : World} {e : Ending} {w' : World} (h : UnPost t w e w') : ∃ A m c, e = .returned (.tuple #[.slice A m c, .bool false]) ∧ Its .i64 w' A m c [] ∧ Below w.heap.size w w' := by
  obtain ⟨b, l2, A, m, c, he, hi, hb, h1, h2⟩ := h
  cases b with
  | true =>
    obtain ⟨h3, h4⟩ := h1 rfl
    exact absurd h4 (ht l2 h3)
  | false =>
    obtain ⟨rfl, _⟩ := h2 rfl
    exact ⟨A, m, c, he, hi, hb⟩
theorem leaf_row {n : Int} (h : 0 ≤ n) : rowB [n] = true ∧ Te.node 0 n [] = rowT [n] := ⟨(rowB_is _).2 ⟨by simp, by simp, fun x hx => by simp at hx; omega⟩, rfl⟩
theorem leaf_no {n : Int} (h : n < 0) : ∀ l, rowB l = true → Te.node 0 n [] ≠ rowT l := by
  intro l hl he
  obtain ⟨h1, _, h3⟩ := (rowB_is l).1 hl
  match l, h1 with
  | [x], _ => rw [rowT] at he; injection he with _ e _; have := h3 x (by simp); omega
  | x :: y :: l, _ => rw [rowT] at he; injection he with e _ _; omega
theorem key_no {n : Int} : ∀ l, rowB l = true → Te.node 1 n [] ≠ rowT l := by
  intro l hl he
  obtain ⟨h1, _, h3⟩ := (rowB_is l).1 hl
  match l, h1 with
  | [x], _ => rw [rowT] at he; injection he with e _ _; omega
  | x :: y :: l, _ => rw [rowT] at he; injection he with e _ _; omega
theorem leaf_is (P : Nat → Prop) (k n : Int) (w : World) : Is P w (.node k n []) k n none 0 0 := ⟨.mk (Rws.nil 3 w) (fun h => by omega) rfl (fun i hi => by simp at hi)⟩
theorem leaf_may (k n : Int) (hk : k = 0 ∨ k = 1) : (Te.node k n []).may = decide (0 ≤ n) := by
  unfold Te.may Te.good
  have h1 : nodeB k n ([] : List Te).length = decide (0 ≤ n) := by
    unfold nodeB
    rw [decide_eq_decide, List.length_nil]
    omega
  rw [h1]
  simp [Te.size, Te.depth, Te.sizes, Te.depths, Te.goods]
theorem leaf_same (n m : Int) : (Te.node 0 n []).same (Te.node 1 m []) = false := by simp [Te.same]

set_option maxRecDepth 100000 in
set_option maxHeartbeats 4000000 in
theorem leaf_yes (n m : Int) (w : World) (hn : 0 ≤ n) : Calls Try.prog 7 #[.int .i64 n, .int .i64 m] w (GivesB true w) := by
  cases hmd : decide (0 ≤ m)
  all_goals
    have hnd : decide (0 ≤ n) = true := decide_eq_true hn
    have hmn : (Te.node 0 n []).may = decide (0 ≤ n) := leaf_may 0 n (.inl rfl)
    have hmm : (Te.node 1 m []).may = decide (0 ≤ m) := leaf_may 1 m (.inr rfl)
    have hsm := leaf_same n m
    have hs1 : ((Te.node 0 n []).size : Int) = 1 := rfl
    have hd1 : ((Te.node 1 m []).depth : Int) = 1 := rfl
    rw [hnd] at hmn
    rw [hmd] at hmm
    have hun : ∀ (w e w'), UnPost (.node 0 n []) w e w' → ∃ (b o c : Nat), e = .returned (.tuple #[.slice (some ⟨b, o, none⟩) 1 c, .bool true]) ∧ w'.cell? ⟨b, o, none⟩ = some (.int .i64 n) ∧ Below w.heap.size w w' := by
      intro w e w' h
      rw [(leaf_row hn).2] at h
      obtain ⟨A, m, c, h1, h2, h3⟩ := un_row (leaf_row hn).1 h
      obtain rfl : m = 1 := h2.len.symm
      obtain ⟨b, o, rfl, hc⟩ := h2.at_ (by omega)
      exact ⟨b, o, c, h1, hc 0 (by omega), h3⟩
    obtain ⟨T, hT⟩ : ∃ T, Te.node 0 n [] = T := ⟨_, rfl⟩
    obtain ⟨U, hU⟩ : ∃ U, Te.node 1 m [] = U := ⟨_, rfl⟩
    have hTi : ∀ w, Is (fun _ => True) w T 0 n none 0 0 := fun w => by rw [← hT]; exact leaf_is _ 0 n w
    have hUi : ∀ w, Is (fun _ => True) w U 1 m none 0 0 := fun w => by rw [← hU]; exact leaf_is _ 1 m w
    have hkn : ∀ l, rowB l = true → U ≠ rowT l := by rw [← hU]; exact key_no
    rw [hT] at hmn hsm hs1 hun
    rw [hU] at hmm hsm hd1
    have HMN := Lib.hid hmn
    have HMM := Lib.hid hmm
    have HSM := Lib.hid hsm
    have HS1 := Lib.hid hs1
    have HD1 := Lib.hid hd1
    have HUN := Lib.hid hun
    have HTI := Lib.hid hTi
    have HUI := Lib.hid hUi
    have HKN := Lib.hid hkn
    clear hmn hmm hsm hs1 hd1 hun hTi hUi hkn hT hU
    go_enter Try.func7, Try.ntmps7
    go_wp2_with (first
      | (go_at_call 9; refine (tawake_any _).mono ?_; rintro e w1 ⟨rfl, hb1⟩
         have hx := (Box3.new w1 0 n none 0 0).keep (one_alloc _ (.cells #[.int .i64 1, .int .i64 m, .slice none 0 0] 24))
         have hy := Box3.new (w1.alloc (.cells #[.int .i64 0, .int .i64 n, .slice none 0 0] 24)) 1 m none 0 0
         rw [size_next] at hy
         have htw := hb1.trans ((two_below w1 (.cells #[.int .i64 0, .int .i64 n, .slice none 0 0] 24) (.cells #[.int .i64 1, .int .i64 m, .slice none 0 0] 24)).mono hb1.size)
         obtain ⟨Wb, hWb⟩ : ∃ Wb, (w1.alloc (.cells #[.int .i64 0, .int .i64 n, .slice none 0 0] 24)).alloc (.cells #[.int .i64 1, .int .i64 m, .slice none 0 0] 24) = Wb := ⟨_, rfl⟩
         rw [hWb] at hx hy htw
         have HX := Lib.hid hx
         have HY := Lib.hid hy
         have HTW := Lib.hid htw
         have HWB := Lib.hid hWb
         clear hb1 hx hy htw hWb)
      | (go_at_call 13; rw [HWB.out]; (with_reducible refine (unrow_any _ T 0 n none 0 0 Wb (HTI.out _)).mono ?_); intro e w2 hup
         obtain ⟨b2, o2, c2, rfl, hc2, hB2⟩ := HUN.out _ _ _ hup
         obtain ⟨x0, x1, x2⟩ := (HX.out.below hB2 HX.out.lt).cells
         obtain ⟨y0, y1, y2⟩ := (HY.out.below hB2 HY.out.lt).cells
         have HC2 := Lib.hid hc2
         clear hup hc2)
      | (go_at_call 13; (with_reducible refine (unrow_any _ U 1 m none 0 0 w2 (HUI.out _)).mono ?_); intro e w3 hup
         obtain ⟨A3, m3, c3, rfl, hi3, hb3⟩ := un_none HKN.out hup
         have hB3 : Below Wb.heap.size Wb w3 := hB2.trans (hb3.mono hB2.size)
         have hQ3 := hb3
         obtain ⟨x30, x31, x32⟩ := (HX.out.below hB3 HX.out.lt).cells
         obtain ⟨y30, y31, y32⟩ := (HY.out.below hB3 HY.out.lt).cells
         clear hup hi3 hb3)
      | (go_at_call 23
         have hc4 := may_any _ T 0 n none 0 0 w3 (HTI.out _)
         rw [HMN.out] at hc4
         (with_reducible refine hc4.mono ?_)
         rintro e w4 ⟨rfl, hb4⟩
         have hB4 : Below Wb.heap.size Wb w4 := hB3.trans (hb4.mono hB3.size)
         have hQ4 := hQ3.trans (hb4.mono hQ3.size)
         obtain ⟨x40, x41, x42⟩ := (HX.out.below hB4 HX.out.lt).cells
         obtain ⟨y40, y41, y42⟩ := (HY.out.below hB4 HY.out.lt).cells
         clear hc4 hb4)
      | (go_at_call 23
         have hc5 := may_any _ U 1 m none 0 0 w4 (HUI.out _)
         rw [HMM.out] at hc5
         (with_reducible refine hc5.mono ?_)
         rintro e w5 ⟨rfl, hb5⟩
         have hB5 : Below Wb.heap.size Wb w5 := hB4.trans (hb5.mono hB4.size)
         have hQ5 := hQ4.trans (hb5.mono hQ4.size)
         obtain ⟨x50, x51, x52⟩ := (HX.out.below hB5 HX.out.lt).cells
         obtain ⟨y50, y51, y52⟩ := (HY.out.below hB5 HY.out.lt).cells
         clear hc5 hb5)
      | (go_at_call 24
         have hc6 := psame_any _ _ T U 0 n 1 m none none 0 0 0 0 w5 (HTI.out _) (HUI.out _)
         rw [HSM.out] at hc6
         (with_reducible refine hc6.mono ?_)
         rintro e w6 ⟨rfl, hb6⟩
         have hB6 : Below Wb.heap.size Wb w6 := hB5.trans (hb6.mono hB5.size)
         have hQ6 := hQ5.trans (hb6.mono hQ5.size)
         obtain ⟨x60, x61, x62⟩ := (HX.out.below hB6 HX.out.lt).cells
         obtain ⟨y60, y61, y62⟩ := (HY.out.below hB6 HY.out.lt).cells
         clear hc6 hb6)
      | (go_at_call 19
         have hc7 := size_any _ T 0 n none 0 0 w6 (HTI.out _) (by rw [HS1.out]; omega)
         rw [HS1.out] at hc7
         (with_reducible refine hc7.mono ?_)
         rintro e w7 ⟨rfl, hb7⟩
         have hB7 : Below Wb.heap.size Wb w7 := hB6.trans (hb7.mono hB6.size)
         have hQ7 := hQ6.trans (hb7.mono hQ6.size)
         obtain ⟨x70, x71, x72⟩ := (HX.out.below hB7 HX.out.lt).cells
         obtain ⟨y70, y71, y72⟩ := (HY.out.below hB7 HY.out.lt).cells
         clear hc7 hb7)
      | (go_at_call 21
         have hc8 := depth_any _ U 1 m none 0 0 w7 (HUI.out _) (by rw [HD1.out]; omega)
         rw [HD1.out] at hc8
         (with_reducible refine hc8.mono ?_)
         rintro e w8 ⟨rfl, hb8⟩
         have hB8 : Below Wb.heap.size Wb w8 := hB7.trans (hb8.mono hB7.size)
         have z8 := (hQ7.trans (hb8.mono hQ7.size)).cell (p := ⟨b2, o2, none⟩) (block_lt_of_cell HC2.out) |>.trans HC2.out
         obtain ⟨x80, x81, x82⟩ := (HX.out.below hB8 HX.out.lt).cells
         obtain ⟨y80, y81, y82⟩ := (HY.out.below hB8 HY.out.lt).cells
         clear hc8 hb8))
    go_ret
    exact ⟨rfl, HTW.out.trans (hB8.mono HTW.out.size)⟩

set_option maxRecDepth 100000 in
set_option maxHeartbeats 4000000 in
theorem leaf_not (n m : Int) (w : World) (hn : ¬ 0 ≤ n) : Calls Try.prog 7 #[.int .i64 n, .int .i64 m] w (GivesB true w) := by
  cases hmd : decide (0 ≤ m)
  all_goals
    have hnd : decide (0 ≤ n) = false := decide_eq_false hn
    have hmn : (Te.node 0 n []).may = decide (0 ≤ n) := leaf_may 0 n (.inl rfl)
    have hmm : (Te.node 1 m []).may = decide (0 ≤ m) := leaf_may 1 m (.inr rfl)
    have hsm := leaf_same n m
    have hs1 : ((Te.node 0 n []).size : Int) = 1 := rfl
    have hd1 : ((Te.node 1 m []).depth : Int) = 1 := rfl
    rw [hnd] at hmn
    rw [hmd] at hmm
    have hun : ∀ (w e w'), UnPost (.node 0 n []) w e w' → ∃ (A : Option Addr) (m' c : Nat), e = .returned (.tuple #[.slice A m' c, .bool false]) ∧ Below w.heap.size w w' := by
      intro w e w' h
      obtain ⟨A, m, c, h1, h2, h3⟩ := un_none (leaf_no (by omega)) h
      exact ⟨A, m, c, h1, h3⟩
    obtain ⟨T, hT⟩ : ∃ T, Te.node 0 n [] = T := ⟨_, rfl⟩
    obtain ⟨U, hU⟩ : ∃ U, Te.node 1 m [] = U := ⟨_, rfl⟩
    have hTi : ∀ w, Is (fun _ => True) w T 0 n none 0 0 := fun w => by rw [← hT]; exact leaf_is _ 0 n w
    have hUi : ∀ w, Is (fun _ => True) w U 1 m none 0 0 := fun w => by rw [← hU]; exact leaf_is _ 1 m w
    have hkn : ∀ l, rowB l = true → U ≠ rowT l := by rw [← hU]; exact key_no
    rw [hT] at hmn hsm hs1 hun
    rw [hU] at hmm hsm hd1
    have HMN := Lib.hid hmn
    have HMM := Lib.hid hmm
    have HSM := Lib.hid hsm
    have HS1 := Lib.hid hs1
    have HD1 := Lib.hid hd1
    have HUN := Lib.hid hun
    have HTI := Lib.hid hTi
    have HUI := Lib.hid hUi
    have HKN := Lib.hid hkn
    clear hmn hmm hsm hs1 hd1 hun hTi hUi hkn hT hU
    go_enter Try.func7, Try.ntmps7
    go_wp2_with (first
      | (go_at_call 9; refine (tawake_any _).mono ?_; rintro e w1 ⟨rfl, hb1⟩
         have hx := (Box3.new w1 0 n none 0 0).keep (one_alloc _ (.cells #[.int .i64 1, .int .i64 m, .slice none 0 0] 24))
         have hy := Box3.new (w1.alloc (.cells #[.int .i64 0, .int .i64 n, .slice none 0 0] 24)) 1 m none 0 0
         rw [size_next] at hy
         have htw := hb1.trans ((two_below w1 (.cells #[.int .i64 0, .int .i64 n, .slice none 0 0] 24) (.cells #[.int .i64 1, .int .i64 m, .slice none 0 0] 24)).mono hb1.size)
         obtain ⟨Wb, hWb⟩ : ∃ Wb, (w1.alloc (.cells #[.int .i64 0, .int .i64 n, .slice none 0 0] 24)).alloc (.cells #[.int .i64 1, .int .i64 m, .slice none 0 0] 24) = Wb := ⟨_, rfl⟩
         rw [hWb] at hx hy htw
         have HX := Lib.hid hx
         have HY := Lib.hid hy
         have HTW := Lib.hid htw
         have HWB := Lib.hid hWb
         clear hb1 hx hy htw hWb)
      | (go_at_call 13; rw [HWB.out]; (with_reducible refine (unrow_any _ T 0 n none 0 0 Wb (HTI.out _)).mono ?_); intro e w2 hup
         obtain ⟨A2, m2, c2, rfl, hB2⟩ := HUN.out _ _ _ hup
         obtain ⟨x0, x1, x2⟩ := (HX.out.below hB2 HX.out.lt).cells
         obtain ⟨y0, y1, y2⟩ := (HY.out.below hB2 HY.out.lt).cells
         clear hup)
      | (go_at_call 13; (with_reducible refine (unrow_any _ U 1 m none 0 0 w2 (HUI.out _)).mono ?_); intro e w3 hup
         obtain ⟨A3, m3, c3, rfl, hi3, hb3⟩ := un_none HKN.out hup
         have hB3 : Below Wb.heap.size Wb w3 := hB2.trans (hb3.mono hB2.size)
         obtain ⟨x30, x31, x32⟩ := (HX.out.below hB3 HX.out.lt).cells
         obtain ⟨y30, y31, y32⟩ := (HY.out.below hB3 HY.out.lt).cells
         clear hup hi3 hb3)
      | (go_at_call 23
         have hc4 := may_any _ T 0 n none 0 0 w3 (HTI.out _)
         rw [HMN.out] at hc4
         (with_reducible refine hc4.mono ?_)
         rintro e w4 ⟨rfl, hb4⟩
         have hB4 : Below Wb.heap.size Wb w4 := hB3.trans (hb4.mono hB3.size)
         obtain ⟨x40, x41, x42⟩ := (HX.out.below hB4 HX.out.lt).cells
         obtain ⟨y40, y41, y42⟩ := (HY.out.below hB4 HY.out.lt).cells
         clear hc4 hb4)
      | (go_at_call 23
         have hc5 := may_any _ U 1 m none 0 0 w4 (HUI.out _)
         rw [HMM.out] at hc5
         (with_reducible refine hc5.mono ?_)
         rintro e w5 ⟨rfl, hb5⟩
         have hB5 : Below Wb.heap.size Wb w5 := hB4.trans (hb5.mono hB4.size)
         obtain ⟨x50, x51, x52⟩ := (HX.out.below hB5 HX.out.lt).cells
         obtain ⟨y50, y51, y52⟩ := (HY.out.below hB5 HY.out.lt).cells
         clear hc5 hb5)
      | (go_at_call 24
         have hc6 := psame_any _ _ T U 0 n 1 m none none 0 0 0 0 w5 (HTI.out _) (HUI.out _)
         rw [HSM.out] at hc6
         (with_reducible refine hc6.mono ?_)
         rintro e w6 ⟨rfl, hb6⟩
         have hB6 : Below Wb.heap.size Wb w6 := hB5.trans (hb6.mono hB5.size)
         obtain ⟨x60, x61, x62⟩ := (HX.out.below hB6 HX.out.lt).cells
         obtain ⟨y60, y61, y62⟩ := (HY.out.below hB6 HY.out.lt).cells
         clear hc6 hb6)
      | (go_at_call 19
         have hc7 := size_any _ T 0 n none 0 0 w6 (HTI.out _) (by rw [HS1.out]; omega)
         rw [HS1.out] at hc7
         (with_reducible refine hc7.mono ?_)
         rintro e w7 ⟨rfl, hb7⟩
         have hB7 : Below Wb.heap.size Wb w7 := hB6.trans (hb7.mono hB6.size)
         obtain ⟨x70, x71, x72⟩ := (HX.out.below hB7 HX.out.lt).cells
         obtain ⟨y70, y71, y72⟩ := (HY.out.below hB7 HY.out.lt).cells
         clear hc7 hb7)
      | (go_at_call 21
         have hc8 := depth_any _ U 1 m none 0 0 w7 (HUI.out _) (by rw [HD1.out]; omega)
         rw [HD1.out] at hc8
         (with_reducible refine hc8.mono ?_)
         rintro e w8 ⟨rfl, hb8⟩
         have hB8 : Below Wb.heap.size Wb w8 := hB7.trans (hb8.mono hB7.size)
         obtain ⟨x80, x81, x82⟩ := (HX.out.below hB8 HX.out.lt).cells
         obtain ⟨y80, y81, y82⟩ := (HY.out.below hB8 HY.out.lt).cells
         clear hc8 hb8))
    go_ret
    exact ⟨rfl, HTW.out.trans (hB8.mono HTW.out.size)⟩

theorem leaf_any (n m : Int) (w : World) : Calls Try.prog 7 #[.int .i64 n, .int .i64 m] w (GivesB true w) := by
  by_cases hn : 0 ≤ n
  · exact leaf_yes n m w hn
  · exact leaf_not n m w hn
end Go.Proofs.Ytgldbjlifcfjlaa
