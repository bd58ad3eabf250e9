/- The walk over the law TermEdge: what is too many, and the loop. -/
import Derived.Test.YtgldbjlifcfjlaaTrmEdgeW
import Derived.Test.YtgldbjlifcfjlaaTrmPairF
import Derived.Test.YtgldbjlifcfjlaaBasTake
namespace Go.Proofs.Ytgldbjlifcfjlaa
set_option linter.unusedVariables false
set_option linter.unusedSimpArgs false
open Go.RowKit

theorem row_set {w : World} {g : Nat} {k n : Int} {A A2 : Option Addr} {m c m2 c2 : Nat} (h : Box3 w g k n A m c) : Box3 (w.setCell ⟨g, 2, none⟩ (.slice A2 m2 c2)) g k n A2 m2 c2 := by
  have h3 := heap_setCell_same w g 2 _ _ (.slice A2 m2 c2) h
  exact h3
theorem ownr_set {e k : Nat} {w : World} {base b i : Nat} {u x : Value} {rows : List (List Value)} (h : OwnR e k w base u rows) (hb : b < base) : OwnR e k (w.setCell ⟨b, i, none⟩ x) base u rows := by
  refine ⟨⟨h.row.1, ?_⟩, h.wid, h.one⟩
  rcases h.row.2 with h0 | ⟨g, cap, cur, hv, hg, hh, rest⟩
  · exact .inl h0
  · exact .inr ⟨g, cap, cur, hv, hg, (Below.heap_setCell _ _ _ _ (show g ≠ b by omega)).trans hh, rest⟩

/-- what the comparisons of the law tell, as far as they are made -/
theorem edge_cases (kind nn many : Int) (j : Nat) (h : (j : Int) = many) :
    (nodeB kind nn j = false ∧ ((decide (0 ≤ kind) = false ∧ decide (2 ≤ kind) = false) ∨ (decide (0 ≤ kind) = true ∧ decide (kind ≤ 1) = true ∧ decide (0 ≤ nn) = false ∧ decide (2 ≤ kind) = false)
      ∨ (decide (0 ≤ kind) = true ∧ decide (kind ≤ 1) = true ∧ decide (0 ≤ nn) = true ∧ (many == 0) = false ∧ decide (2 ≤ kind) = false)
      ∨ (decide (0 ≤ kind) = true ∧ decide (kind ≤ 1) = false ∧ decide (2 ≤ kind) = true ∧ decide (kind ≤ 3) = false)
      ∨ (decide (0 ≤ kind) = true ∧ decide (kind ≤ 1) = false ∧ decide (2 ≤ kind) = true ∧ decide (kind ≤ 3) = true ∧ (nn == 0) = false)
      ∨ (decide (0 ≤ kind) = true ∧ decide (kind ≤ 1) = false ∧ decide (2 ≤ kind) = true ∧ decide (kind ≤ 3) = true ∧ (nn == 0) = true ∧ (many == 2) = false)))
    ∨ (nodeB kind nn j = true ∧ ((decide (0 ≤ kind) = true ∧ decide (kind ≤ 1) = true ∧ decide (0 ≤ nn) = true ∧ (many == 0) = true)
      ∨ (decide (0 ≤ kind) = true ∧ decide (kind ≤ 1) = false ∧ decide (2 ≤ kind) = true ∧ decide (kind ≤ 3) = true ∧ (nn == 0) = true ∧ (many == 2) = true))) := by
  by_cases h0 : 0 ≤ kind
  · by_cases h1 : kind ≤ 1
    · by_cases hn : 0 ≤ nn
      · by_cases he : many = 0
        · exact .inr ⟨nodeB_yes (by omega), .inl ⟨decide_eq_true h0, decide_eq_true h1, decide_eq_true hn, beq_iff_eq.2 he⟩⟩
        · exact .inl ⟨nodeB_no (by omega), .inr (.inr (.inl ⟨decide_eq_true h0, decide_eq_true h1, decide_eq_true hn, beq_eq_false_iff_ne.2 he, decide_eq_false (by omega)⟩))⟩
      · exact .inl ⟨nodeB_no (by omega), .inr (.inl ⟨decide_eq_true h0, decide_eq_true h1, decide_eq_false hn, decide_eq_false (by omega)⟩)⟩
    · have h2 : 2 ≤ kind := by omega
      by_cases h3 : kind ≤ 3
      · by_cases hn : nn = 0
        · by_cases he : many = 2
          · exact .inr ⟨nodeB_yes (by omega), .inr ⟨decide_eq_true h0, decide_eq_false h1, decide_eq_true h2, decide_eq_true h3, beq_iff_eq.2 hn, beq_iff_eq.2 he⟩⟩
          · exact .inl ⟨nodeB_no (by omega), .inr (.inr (.inr (.inr (.inr ⟨decide_eq_true h0, decide_eq_false h1, decide_eq_true h2, decide_eq_true h3, beq_iff_eq.2 hn, beq_eq_false_iff_ne.2 he⟩))))⟩
        · exact .inl ⟨nodeB_no (by omega), .inr (.inr (.inr (.inr (.inl ⟨decide_eq_true h0, decide_eq_false h1, decide_eq_true h2, decide_eq_true h3, beq_eq_false_iff_ne.2 hn⟩))))⟩
      · exact .inl ⟨nodeB_no (by omega), .inr (.inr (.inr (.inl ⟨decide_eq_true h0, decide_eq_false h1, decide_eq_true h2, decide_eq_false h3⟩)))⟩
  · exact .inl ⟨nodeB_no (by omega), .inl ⟨decide_eq_false h0, decide_eq_false (by omega)⟩⟩

set_option maxRecDepth 100000 in
set_option maxHeartbeats 4000000 in
theorem edge_in (t : Te) (k n kind nn many : Int) (A : Option Addr) (m c M : Nat) (w : World) (hI : Is (· < w.heap.size) w t k n A m c) (hlt : lightB t 20 10 = true) (hmay : t.may = true) (hM : (M : Int) = many) (hM3 : M ≤ 3) :
    Calls Try.prog 8 #[.agg #[.int .i64 k, .int .i64 n, .slice A m c], .int .i64 kind, .int .i64 nn, .int .i64 many] w (GivesB true w) := by
  have two := one_alloc w (.cells #[.int .i64 k, .int .i64 n, .slice A m c] 24)
  have hbx := Box3.new w k n A m c
  obtain ⟨W1, hW1⟩ : ∃ W1, w.alloc (.cells #[.int .i64 k, .int .i64 n, .slice A m c] 24) = W1 := ⟨_, rfl⟩
  rw [hW1] at two hbx
  have hv := light_val hlt
  have hs := (light_small hlt).1
  obtain ⟨x, hx⟩ : ∃ x : Int, (t.size : Int) = x := ⟨_, rfl⟩
  rw [hx] at hv
  have hx20 : decide (20 < x) = false := decide_eq_false (by omega)
  have hm0 : decide (many < 0) = false := decide_eq_false (by omega)
  have hm3 : decide (3 < many) = false := decide_eq_false (by omega)
  have HV := Lib.hid hv
  have HS := Lib.hid hs
  have TWO := Lib.hid two
  have HW1 := Lib.hid hW1
  have HBX := Lib.hid hbx
  have HT := Lib.hid hI
  have HMAY := Lib.hid hmay
  have HM := Lib.hid hM
  have HM3 := Lib.hid hM3
  clear two hbx hW1 hI hlt hmay hv hs hx hM hM3
  go_enter Try.func8, Try.ntmps8
  go_wp2_with (first
    | (go_at_call 9
       rw [HW1.out]
       refine (tawake_any W1).mono ?_
       rintro e w3 ⟨rfl, hb3⟩
       have hB3 : Below W1.heap.size W1 w3 := hb3
       obtain ⟨x30, x31, x32⟩ := (HBX.out.keep hB3).cells
       clear hb3)
    | (go_at_call 25
       have hc4 := nodes_any _ t k n A m c w3 (HT.out.below (TWO.out.trans (hB3.mono TWO.out.size))) 20 10 (by omega) (by omega) (by omega) (by omega)
       rw [show lightN t 20 10 = x from HV.out] at hc4
       (with_reducible refine hc4.mono ?_)
       rintro e w4 ⟨rfl, hb4⟩
       have hB4 : Below W1.heap.size W1 w4 := hB3.trans (hb4.mono hB3.size)
       obtain ⟨x40, x41, x42⟩ := (HBX.out.keep hB4).cells
       clear hb4 hc4)
    | (go_at_call 23
       have hc5 := may_any _ t k n A m c w4 (HT.out.below (TWO.out.trans (hB4.mono TWO.out.size)))
       rw [HMAY.out] at hc5
       (with_reducible refine hc5.mono ?_)
       rintro e w5 ⟨rfl, hb5⟩
       have hB5 : Below W1.heap.size W1 w5 := hB4.trans (hb5.mono hB4.size)
       obtain ⟨x50, x51, x52⟩ := (HBX.out.keep hB5).cells
       clear hb5 hc5))
  have HB5 := Lib.hid hB5
  clear hB3 hB4 hB5 x30 x31 x32 x40 x41 x42 x50 x51 x52
  have hX5 := Box3.new w5 kind nn none 0 0
  have ho5 := one_alloc w5 (.cells #[.int .i64 kind, .int .i64 nn, .slice none 0 0] 24)
  obtain ⟨W6, hW6⟩ : ∃ W6, w5.alloc (.cells #[.int .i64 kind, .int .i64 nn, .slice none 0 0] 24) = W6 := ⟨_, rfl⟩
  have hz6 : W6.heap.size = w5.heap.size + 1 := by rw [← hW6]; simp
  rw [hW6] at hX5 ho5
  try rw [hW6]
  have HX5 := Lib.hid hX5
  have HO5 := Lib.hid ho5
  have HZ6 := Lib.hid hz6
  clear hX5 ho5 hW6 hz6
  go_loopw [11] (fun i wr => ∃ (j m' c' : Nat) (A' : Option Addr), j ≤ M ∧ i = .int .i64 j ∧ Box3 wr w5.heap.size kind nn A' m' c' ∧ OwnR 24 3 wr W6.heap.size (.slice A' m' c') (List.replicate j [.int .i64 k, .int .i64 n, .slice A m c]) ∧ Below w5.heap.size w5 wr) (fun i _ => M - (intOf i).toNat)
  case atStart => exact ⟨0, 0, 0, none, Nat.zero_le _, rfl, HX5.out, OwnR.nil _ _ _ _, HO5.out⟩
  case round =>
    obtain ⟨j, m', c', A', hj, rfl, hx, hown, hbw⟩ := hrel
    by_cases hlt : j < M
    · have hjm : (j : Int) < many := by have := HM.out; omega
      obtain ⟨y0, y1, y2⟩ := hx.cells
      have hbt := HB5.out.trans (hbw.mono HB5.out.size)
      obtain ⟨z0, z1, z2⟩ := (HBX.out.keep hbt).cells
      have HX := Lib.hid hx
      have HOWN := Lib.hid hown
      have HBW := Lib.hid hbw
      have hj3 : j + 1 ≤ 140737488355328 := by have := HM3.out; omega
      clear hx hown hbw hbt
      go_wp2_with (first
        | (at_builtin
           refine wpList_append_r rfl 22 24 3 40 _ _ rfl Try.underlying22 info_term (by omega) W6.heap.size (.slice A' m' c') (List.replicate j [.int .i64 k, .int .i64 n, .slice A m c]) rfl (HOWN.out.more _) _ 1 1 [[.int .i64 k, .int .i64 n, .slice A m c]] rfl (one_rws 3 24 _ [.int .i64 k, .int .i64 n, .slice A m c] rfl (row_one k n A m c)) (by rw [List.length_replicate]; have := HM3.out; omega) (by rw [List.length_replicate]; omega) (by have := HZ6.out; have := HX.out.lt; have := size_le_alloc wr (.cells #[.int .i64 k, .int .i64 n, .slice A m c] 24); omega) ?_
           intro v4 w4 hown4 hg4
           obtain ⟨A4, m4, c4, rfl, hr4⟩ := hown4.rws
           have hone := one_alloc wr (.cells #[.int .i64 k, .int .i64 n, .slice A m c] 24)
           have hk4 := (Below.refl W6.heap.size _).grown hg4 (by have := HZ6.out; have := HX.out.lt; have := size_le_alloc wr (.cells #[.int .i64 k, .int .i64 n, .slice A m c] 24); omega) (fun g hg => (HOWN.out.size g hg).1)
           have hx4 := (HX.out.keep hone).below hk4 (by have := HZ6.out; omega)
           have hB4 := (HBW.out.trans (hone.mono HBW.out.size)).trans (hk4.mono (by have := HZ6.out; omega))
           obtain ⟨v40, v41, v42⟩ := hx4.cells
           obtain ⟨f40, f41, f42⟩ := hx4.free
           rw [← List.replicate_succ'] at hown4
           have HX4 := Lib.hid hx4
           have HB4 := Lib.hid hB4
           have HOWN4 := Lib.hid hown4
           clear hown4 hg4 hr4 hone hk4 hx4 hB4 y0 y1 y2 z0 z1 z2))
      go_roundw
      case rel => exact ⟨j + 1, m4, c4, A4, by omega, by go_num, row_set HX4.out, ownr_set HOWN4.out (by have := HZ6.out; omega), HB4.out.setCell (p := ⟨w5.heap.size, 2, none⟩) (Nat.le_refl _) _⟩
      case measure => simp [intOf]; omega
    · obtain rfl : j = M := by omega
      have hjm : (j : Int) = many := HM.out
      have hjf : decide ((j : Int) < many) = false := decide_eq_false (by omega)
      have hbt := HB5.out.trans (hbw.mono HB5.out.size)
      have ht := (HT.out.below (TWO.out.trans (hbt.mono TWO.out.size))).mono (P' := fun _ => True) fun _ _ => trivial
      obtain ⟨A2, m2, c2, he, hXi⟩ := many_is (kind := kind) (nn := nn) hown ht
      injection he with e1 e2 e3
      subst e1 e2 e3
      have hsm := many_small (kind := kind) (n := nn) HM3.out HS.out
      have hcs := edge_cases kind nn many j hjm
      obtain ⟨X, hXe⟩ : ∃ X, manyT kind nn j t = X := ⟨_, rfl⟩
      have hno : nodeB kind nn j = false → X.may = false ∧ (Te.node 2 0 [t, X]).may = false := by rw [← hXe]; exact many_no
      have hyes : nodeB kind nn j = true → X.may = (decide ((X.size : Int) ≤ 60) && decide ((X.depth : Int) ≤ 12)) := by rw [← hXe]; exact fun h => many_yes h HMAY.out
      rw [hXe] at hXi hsm
      have hpi := pair_is ht hXi (kk := 2) (nn := 0) rfl trivial
      have hone := one_alloc wr (.cells #[.int .i64 k, .int .i64 n, .slice A m c, .int .i64 kind, .int .i64 nn, .slice A' m' c'] 24)
      obtain ⟨Wa, hWa⟩ : ∃ Wa, wr.alloc (.cells #[.int .i64 k, .int .i64 n, .slice A m c, .int .i64 kind, .int .i64 nn, .slice A' m' c'] 24) = Wa := ⟨_, rfl⟩
      have hza : Wa.heap.size = wr.heap.size + 1 := by rw [← hWa]; simp
      rw [hWa] at hpi hone
      have hob := one_alloc Wa (.cells #[.int .i64 2, .int .i64 0, .slice (some ⟨wr.heap.size, 0, none⟩) 2 2] 24)
      have hY := Box3.new Wa 2 0 (some ⟨wr.heap.size, 0, none⟩) 2 2
      obtain ⟨WY, hWY⟩ : ∃ WY, Wa.alloc (.cells #[.int .i64 2, .int .i64 0, .slice (some ⟨wr.heap.size, 0, none⟩) 2 2] 24) = WY := ⟨_, rfl⟩
      rw [hWY] at hob hY
      rw [hza] at hY
      have HALL := Lib.hid hWY
      rw [← hWa] at HALL
      have HXI := Lib.hid ((hXi.later hone).later hob)
      have HPI := Lib.hid (hpi.later hob)
      have HXB := Lib.hid ((hx.keep hone).keep hob)
      have HYB := Lib.hid hY
      have HBY := Lib.hid ((hbt.trans (hone.mono hbt.size)).trans (hob.mono (Nat.le_trans hbt.size hone.size)))
      obtain ⟨y0, y1, y2⟩ := hx.cells
      obtain ⟨z0, z1, z2⟩ := (HBX.out.keep hbt).cells
      have hpx := HXB.out
      rw [← HALL.out] at hpx
      obtain ⟨p0, p1, p2⟩ := hpx.cells
      obtain ⟨q0, q1, q2⟩ := HYB.out.cells
      clear hbt ht hXi hXe hpi hone hWa hza hob hY hWY hx hown hbw hpx
      rcases hcs with ⟨hnb, hcs⟩ | ⟨hnb, hcs⟩
      · have HM1 := Lib.hid (hno hnb).1
        have HM2 := Lib.hid (hno hnb).2
        clear hno hyes hnb hsm
        rcases hcs with ⟨g1, g2⟩ | ⟨g1, g2, g3, g4⟩ | ⟨g1, g2, g3, g4, g5⟩ | ⟨g1, g2, g3, g4⟩ | ⟨g1, g2, g3, g4, g5⟩ | ⟨g1, g2, g3, g4, g5, g6⟩
        all_goals
          go_wp2_with (first
            | (go_at_call 23
               rw [HALL.out]
               have hc6 := may_any _ X kind nn A' m' c' WY HXI.out
               rw [HM1.out] at hc6
               (with_reducible refine hc6.mono ?_)
               rintro e w6 ⟨rfl, hb6⟩
               obtain ⟨q60, q61, q62⟩ := (HYB.out.keep hb6).cells
               have HB6 := Lib.hid hb6
               clear hb6 hc6)
            | (go_at_call 23
               have hc7 := may_any _ (Te.node 2 0 [t, X]) 2 0 _ 2 2 w6 (HPI.out.later HB6.out)
               rw [HM2.out] at hc7
               (with_reducible refine hc7.mono ?_)
               rintro e w7 ⟨rfl, hb7⟩
               have HB7 := Lib.hid (HBY.out.trans ((HB6.out.trans (hb7.mono HB6.out.size)).mono HBY.out.size))
               clear hb7 hc7))
          go_ret
          exact ⟨rfl, TWO.out.trans (HB7.out.mono TWO.out.size)⟩
      · have hx1 := hyes hnb
        clear hno hyes hnb
        obtain ⟨sx, hsx⟩ : ∃ y : Int, (X.size : Int) = y := ⟨_, rfl⟩
        obtain ⟨dx, hdx⟩ : ∃ y : Int, (X.depth : Int) = y := ⟨_, rfl⟩
        rw [hsx, hdx] at hx1
        have HSX := Lib.hid hsx
        have HDX := Lib.hid hdx
        have HSM := Lib.hid hsm
        clear hsx hdx hsm
        rcases hcs with ⟨g1, g2, g3, g4⟩ | ⟨g1, g2, g3, g4, g5, g6⟩
        all_goals
          go_wp2
          rw [HALL.out]
          cases hN : decide (sx ≤ 60) with
          | false =>
            rw [hN] at hx1
            have HXM := Lib.hid (show X.may = false by rw [hx1]; rfl)
            clear hx1
            have hV0 : Below WY.heap.size WY WY.drew := (Below.refl _ _).drew
            have V0 := (HXB.out.keep hV0).cells
            refine wp_region_held_drew (S := (fun w' => w'.cell? ⟨w5.heap.size, 0, none⟩ = some (.int .i64 kind) ∧ w'.cell? ⟨w5.heap.size, 1, none⟩ = some (.int .i64 nn) ∧ w'.cell? ⟨w5.heap.size, 2, none⟩ = some (.slice A' m' c'))) (by kernel_rfl) V0 (fun hHeld => ?_)
            refine take_if 0 (.agg #[.int .i64 kind, .int .i64 nn, .slice A' m' c']) rfl (by kernel_rfl) (by kernel_rfl) (by kernel_rfl) (fun _ _ _ h => h) rfl hHeld (fun w' hw' => ?_) ?_
            · obtain ⟨q0, q1, q2⟩ := hw'
              go_simp
            simp only [Act.put, List.setIfInBounds_toArray, List.set_cons_zero, List.set_cons_succ]
            refine take_if 2 (.agg #[.int .i64 kind, .int .i64 nn, .slice A' m' c']) rfl (by kernel_rfl) (by kernel_rfl) (by kernel_rfl) (fun _ _ _ h => h) rfl hHeld (fun w' hw' => ?_) ?_
            · obtain ⟨q0, q1, q2⟩ := hw'
              go_simp
            simp only [Act.put, List.setIfInBounds_toArray, List.set_cons_zero, List.set_cons_succ]
            refine one_step 1 (by kernel_rfl) rfl (fun K hK => ?_)
            go_simp
            go_at_call 23
            have hc1 := may_any _ X kind nn A' m' c' WY.drew (HXI.out.later hV0)
            rw [HXM.out] at hc1
            (with_reducible refine hc1.mono ?_)
            rintro e v1 ⟨rfl, hb1⟩
            have hV1 : Below WY.heap.size WY v1 := hV0.trans (hb1.mono hV0.size)
            have V1 := (HXB.out.keep hV1).cells
            refine hK.out _ _ V1 (fun hHeld0 => ?_)
            clear hK K hHeld hc1 hb1 V0
            have hHeld := hHeld0
            clear hHeld0
            try simp only [Act.put, List.setIfInBounds_toArray, List.set_cons_zero, List.set_cons_succ]
            refine one_step 3 (by kernel_rfl) rfl (fun K hK => ?_)
            go_simp
            go_at_call 19
            have hc2 := size_any _ X kind nn A' m' c' v1 (HXI.out.later hV1) (by rw [HSX.out]; have := HSM.out.1; have := HSX.out; omega)
            rw [HSX.out] at hc2
            (with_reducible refine hc2.mono ?_)
            rintro e v2 ⟨rfl, hb2⟩
            have hV2 : Below WY.heap.size WY v2 := hV1.trans (hb2.mono hV1.size)
            have V2 := (HXB.out.keep hV2).cells
            refine hK.out _ _ V2 (fun hHeld0 => ?_)
            clear hK K hHeld hc2 hb2 V1
            have hHeld := hHeld0
            clear hHeld0
            try simp only [Act.put, List.setIfInBounds_toArray, List.set_cons_zero, List.set_cons_succ]
            refine take_run 4 (.bool false) rfl (by kernel_rfl) (by kernel_rfl) (by kernel_rfl) (fun _ _ _ h => h) rfl hHeld (fun w => ?_) ?_
            · go_simp
            simp only [Act.put, List.setIfInBounds_toArray, List.set_cons_zero, List.set_cons_succ]
            refine take_move 5 (.tmp 98) (.bool false) rfl rfl rfl (by kernel_rfl) (by kernel_rfl) (by kernel_rfl) (fun _ _ _ h => h) rfl hHeld ?_
            simp only [Act.put, List.setIfInBounds_toArray, List.set_cons_zero, List.set_cons_succ]
            refine take_off 6 rfl (by kernel_rfl) (by kernel_rfl) (by kernel_rfl) (fun _ _ _ h => h) rfl hHeld ?_
            simp only [Act.put, List.setIfInBounds_toArray, List.set_cons_zero, List.set_cons_succ]
            refine take_off 7 rfl (by kernel_rfl) (by kernel_rfl) (by kernel_rfl) (fun _ _ _ h => h) rfl hHeld ?_
            simp only [Act.put, List.setIfInBounds_toArray, List.set_cons_zero, List.set_cons_succ]
            refine take_off 8 rfl (by kernel_rfl) (by kernel_rfl) (by kernel_rfl) (fun _ _ _ h => h) rfl hHeld ?_
            simp only [Act.put, List.setIfInBounds_toArray, List.set_cons_zero, List.set_cons_succ]
            refine take_run 9 (.bool false) rfl (by kernel_rfl) (by kernel_rfl) (by kernel_rfl) (fun _ _ _ h => h) rfl hHeld (fun w => ?_) ?_
            · go_simp
            simp only [Act.put, List.setIfInBounds_toArray, List.set_cons_zero, List.set_cons_succ]
            refine take_run 10 (.bool true) rfl (by kernel_rfl) (by kernel_rfl) (by kernel_rfl) (fun _ _ _ h => h) rfl hHeld (fun w => ?_) ?_
            · go_simp
            simp only [Act.put, List.setIfInBounds_toArray, List.set_cons_zero, List.set_cons_succ]
            refine take_run 11 (.bool true) rfl (by kernel_rfl) (by kernel_rfl) (by kernel_rfl) (fun _ _ _ h => h) rfl hHeld (fun w => ?_) ?_
            · go_simp
            simp only [Act.put, List.setIfInBounds_toArray, List.set_cons_zero, List.set_cons_succ]
            refine wpAnyH_done (by kernel_rfl) ?_ _
            go_wp2
            go_ret
            exact ⟨rfl, TWO.out.trans ((HBY.out.trans (hV2.mono HBY.out.size)).mono TWO.out.size)⟩
          | true =>
            cases hE : decide (dx ≤ 12) with
            | false =>
              rw [hN, hE] at hx1
              have HXM := Lib.hid (show X.may = false by rw [hx1]; rfl)
              clear hx1
              have hV0 : Below WY.heap.size WY WY.drew := (Below.refl _ _).drew
              have V0 := (HXB.out.keep hV0).cells
              refine wp_region_held_drew (S := (fun w' => w'.cell? ⟨w5.heap.size, 0, none⟩ = some (.int .i64 kind) ∧ w'.cell? ⟨w5.heap.size, 1, none⟩ = some (.int .i64 nn) ∧ w'.cell? ⟨w5.heap.size, 2, none⟩ = some (.slice A' m' c'))) (by kernel_rfl) V0 (fun hHeld => ?_)
              refine take_if 0 (.agg #[.int .i64 kind, .int .i64 nn, .slice A' m' c']) rfl (by kernel_rfl) (by kernel_rfl) (by kernel_rfl) (fun _ _ _ h => h) rfl hHeld (fun w' hw' => ?_) ?_
              · obtain ⟨q0, q1, q2⟩ := hw'
                go_simp
              simp only [Act.put, List.setIfInBounds_toArray, List.set_cons_zero, List.set_cons_succ]
              refine take_if 2 (.agg #[.int .i64 kind, .int .i64 nn, .slice A' m' c']) rfl (by kernel_rfl) (by kernel_rfl) (by kernel_rfl) (fun _ _ _ h => h) rfl hHeld (fun w' hw' => ?_) ?_
              · obtain ⟨q0, q1, q2⟩ := hw'
                go_simp
              simp only [Act.put, List.setIfInBounds_toArray, List.set_cons_zero, List.set_cons_succ]
              refine one_step 1 (by kernel_rfl) rfl (fun K hK => ?_)
              go_simp
              go_at_call 23
              have hc1 := may_any _ X kind nn A' m' c' WY.drew (HXI.out.later hV0)
              rw [HXM.out] at hc1
              (with_reducible refine hc1.mono ?_)
              rintro e v1 ⟨rfl, hb1⟩
              have hV1 : Below WY.heap.size WY v1 := hV0.trans (hb1.mono hV0.size)
              have V1 := (HXB.out.keep hV1).cells
              refine hK.out _ _ V1 (fun hHeld0 => ?_)
              clear hK K hHeld hc1 hb1 V0
              have hHeld := hHeld0
              clear hHeld0
              try simp only [Act.put, List.setIfInBounds_toArray, List.set_cons_zero, List.set_cons_succ]
              refine one_step 3 (by kernel_rfl) rfl (fun K hK => ?_)
              go_simp
              go_at_call 19
              have hc2 := size_any _ X kind nn A' m' c' v1 (HXI.out.later hV1) (by rw [HSX.out]; have := HSM.out.1; have := HSX.out; omega)
              rw [HSX.out] at hc2
              (with_reducible refine hc2.mono ?_)
              rintro e v2 ⟨rfl, hb2⟩
              have hV2 : Below WY.heap.size WY v2 := hV1.trans (hb2.mono hV1.size)
              have V2 := (HXB.out.keep hV2).cells
              refine hK.out _ _ V2 (fun hHeld0 => ?_)
              clear hK K hHeld hc2 hb2 V1
              have hHeld := hHeld0
              clear hHeld0
              try simp only [Act.put, List.setIfInBounds_toArray, List.set_cons_zero, List.set_cons_succ]
              refine take_run 4 (.bool true) rfl (by kernel_rfl) (by kernel_rfl) (by kernel_rfl) (fun _ _ _ h => h) rfl hHeld (fun w => ?_) ?_
              · go_simp
              simp only [Act.put, List.setIfInBounds_toArray, List.set_cons_zero, List.set_cons_succ]
              refine take_move 5 (.tmp 98) (.bool true) rfl rfl rfl (by kernel_rfl) (by kernel_rfl) (by kernel_rfl) (fun _ _ _ h => h) rfl hHeld ?_
              simp only [Act.put, List.setIfInBounds_toArray, List.set_cons_zero, List.set_cons_succ]
              refine take_if 6 (.agg #[.int .i64 kind, .int .i64 nn, .slice A' m' c']) rfl (by kernel_rfl) (by kernel_rfl) (by kernel_rfl) (fun _ _ _ h => h) rfl hHeld (fun w' hw' => ?_) ?_
              · obtain ⟨q0, q1, q2⟩ := hw'
                go_simp
              simp only [Act.put, List.setIfInBounds_toArray, List.set_cons_zero, List.set_cons_succ]
              refine one_step 7 (by kernel_rfl) rfl (fun K hK => ?_)
              go_simp
              go_at_call 21
              have hc3 := depth_any _ X kind nn A' m' c' v2 (HXI.out.later hV2) (by rw [HDX.out]; have := HSM.out.2; have := HDX.out; omega)
              rw [HDX.out] at hc3
              (with_reducible refine hc3.mono ?_)
              rintro e v3 ⟨rfl, hb3⟩
              have hV3 : Below WY.heap.size WY v3 := hV2.trans (hb3.mono hV2.size)
              have V3 := (HXB.out.keep hV3).cells
              refine hK.out _ _ V3 (fun hHeld0 => ?_)
              clear hK K hHeld hc3 hb3 V2
              have hHeld := hHeld0
              clear hHeld0
              try simp only [Act.put, List.setIfInBounds_toArray, List.set_cons_zero, List.set_cons_succ]
              refine take_run 8 (.bool false) rfl (by kernel_rfl) (by kernel_rfl) (by kernel_rfl) (fun _ _ _ h => h) rfl hHeld (fun w => ?_) ?_
              · go_simp
              simp only [Act.put, List.setIfInBounds_toArray, List.set_cons_zero, List.set_cons_succ]
              refine take_run 9 (.bool false) rfl (by kernel_rfl) (by kernel_rfl) (by kernel_rfl) (fun _ _ _ h => h) rfl hHeld (fun w => ?_) ?_
              · go_simp
              simp only [Act.put, List.setIfInBounds_toArray, List.set_cons_zero, List.set_cons_succ]
              refine take_run 10 (.bool true) rfl (by kernel_rfl) (by kernel_rfl) (by kernel_rfl) (fun _ _ _ h => h) rfl hHeld (fun w => ?_) ?_
              · go_simp
              simp only [Act.put, List.setIfInBounds_toArray, List.set_cons_zero, List.set_cons_succ]
              refine take_run 11 (.bool true) rfl (by kernel_rfl) (by kernel_rfl) (by kernel_rfl) (fun _ _ _ h => h) rfl hHeld (fun w => ?_) ?_
              · go_simp
              simp only [Act.put, List.setIfInBounds_toArray, List.set_cons_zero, List.set_cons_succ]
              refine wpAnyH_done (by kernel_rfl) ?_ _
              go_wp2
              go_ret
              exact ⟨rfl, TWO.out.trans ((HBY.out.trans (hV3.mono HBY.out.size)).mono TWO.out.size)⟩
            | true =>
              rw [hN, hE] at hx1
              have HXM := Lib.hid (show X.may = true by rw [hx1]; rfl)
              clear hx1
              have hV0 : Below WY.heap.size WY WY.drew := (Below.refl _ _).drew
              have V0 := (HXB.out.keep hV0).cells
              refine wp_region_held_drew (S := (fun w' => w'.cell? ⟨w5.heap.size, 0, none⟩ = some (.int .i64 kind) ∧ w'.cell? ⟨w5.heap.size, 1, none⟩ = some (.int .i64 nn) ∧ w'.cell? ⟨w5.heap.size, 2, none⟩ = some (.slice A' m' c'))) (by kernel_rfl) V0 (fun hHeld => ?_)
              refine take_if 0 (.agg #[.int .i64 kind, .int .i64 nn, .slice A' m' c']) rfl (by kernel_rfl) (by kernel_rfl) (by kernel_rfl) (fun _ _ _ h => h) rfl hHeld (fun w' hw' => ?_) ?_
              · obtain ⟨q0, q1, q2⟩ := hw'
                go_simp
              simp only [Act.put, List.setIfInBounds_toArray, List.set_cons_zero, List.set_cons_succ]
              refine take_if 2 (.agg #[.int .i64 kind, .int .i64 nn, .slice A' m' c']) rfl (by kernel_rfl) (by kernel_rfl) (by kernel_rfl) (fun _ _ _ h => h) rfl hHeld (fun w' hw' => ?_) ?_
              · obtain ⟨q0, q1, q2⟩ := hw'
                go_simp
              simp only [Act.put, List.setIfInBounds_toArray, List.set_cons_zero, List.set_cons_succ]
              refine one_step 1 (by kernel_rfl) rfl (fun K hK => ?_)
              go_simp
              go_at_call 23
              have hc1 := may_any _ X kind nn A' m' c' WY.drew (HXI.out.later hV0)
              rw [HXM.out] at hc1
              (with_reducible refine hc1.mono ?_)
              rintro e v1 ⟨rfl, hb1⟩
              have hV1 : Below WY.heap.size WY v1 := hV0.trans (hb1.mono hV0.size)
              have V1 := (HXB.out.keep hV1).cells
              refine hK.out _ _ V1 (fun hHeld0 => ?_)
              clear hK K hHeld hc1 hb1 V0
              have hHeld := hHeld0
              clear hHeld0
              try simp only [Act.put, List.setIfInBounds_toArray, List.set_cons_zero, List.set_cons_succ]
              refine one_step 3 (by kernel_rfl) rfl (fun K hK => ?_)
              go_simp
              go_at_call 19
              have hc2 := size_any _ X kind nn A' m' c' v1 (HXI.out.later hV1) (by rw [HSX.out]; have := HSM.out.1; have := HSX.out; omega)
              rw [HSX.out] at hc2
              (with_reducible refine hc2.mono ?_)
              rintro e v2 ⟨rfl, hb2⟩
              have hV2 : Below WY.heap.size WY v2 := hV1.trans (hb2.mono hV1.size)
              have V2 := (HXB.out.keep hV2).cells
              refine hK.out _ _ V2 (fun hHeld0 => ?_)
              clear hK K hHeld hc2 hb2 V1
              have hHeld := hHeld0
              clear hHeld0
              try simp only [Act.put, List.setIfInBounds_toArray, List.set_cons_zero, List.set_cons_succ]
              refine take_run 4 (.bool true) rfl (by kernel_rfl) (by kernel_rfl) (by kernel_rfl) (fun _ _ _ h => h) rfl hHeld (fun w => ?_) ?_
              · go_simp
              simp only [Act.put, List.setIfInBounds_toArray, List.set_cons_zero, List.set_cons_succ]
              refine take_move 5 (.tmp 98) (.bool true) rfl rfl rfl (by kernel_rfl) (by kernel_rfl) (by kernel_rfl) (fun _ _ _ h => h) rfl hHeld ?_
              simp only [Act.put, List.setIfInBounds_toArray, List.set_cons_zero, List.set_cons_succ]
              refine take_if 6 (.agg #[.int .i64 kind, .int .i64 nn, .slice A' m' c']) rfl (by kernel_rfl) (by kernel_rfl) (by kernel_rfl) (fun _ _ _ h => h) rfl hHeld (fun w' hw' => ?_) ?_
              · obtain ⟨q0, q1, q2⟩ := hw'
                go_simp
              simp only [Act.put, List.setIfInBounds_toArray, List.set_cons_zero, List.set_cons_succ]
              refine one_step 7 (by kernel_rfl) rfl (fun K hK => ?_)
              go_simp
              go_at_call 21
              have hc3 := depth_any _ X kind nn A' m' c' v2 (HXI.out.later hV2) (by rw [HDX.out]; have := HSM.out.2; have := HDX.out; omega)
              rw [HDX.out] at hc3
              (with_reducible refine hc3.mono ?_)
              rintro e v3 ⟨rfl, hb3⟩
              have hV3 : Below WY.heap.size WY v3 := hV2.trans (hb3.mono hV2.size)
              have V3 := (HXB.out.keep hV3).cells
              refine hK.out _ _ V3 (fun hHeld0 => ?_)
              clear hK K hHeld hc3 hb3 V2
              have hHeld := hHeld0
              clear hHeld0
              try simp only [Act.put, List.setIfInBounds_toArray, List.set_cons_zero, List.set_cons_succ]
              refine take_run 8 (.bool true) rfl (by kernel_rfl) (by kernel_rfl) (by kernel_rfl) (fun _ _ _ h => h) rfl hHeld (fun w => ?_) ?_
              · go_simp
              simp only [Act.put, List.setIfInBounds_toArray, List.set_cons_zero, List.set_cons_succ]
              refine take_run 9 (.bool true) rfl (by kernel_rfl) (by kernel_rfl) (by kernel_rfl) (fun _ _ _ h => h) rfl hHeld (fun w => ?_) ?_
              · go_simp
              simp only [Act.put, List.setIfInBounds_toArray, List.set_cons_zero, List.set_cons_succ]
              refine take_run 10 (.bool true) rfl (by kernel_rfl) (by kernel_rfl) (by kernel_rfl) (fun _ _ _ h => h) rfl hHeld (fun w => ?_) ?_
              · go_simp
              simp only [Act.put, List.setIfInBounds_toArray, List.set_cons_zero, List.set_cons_succ]
              refine take_run 11 (.bool true) rfl (by kernel_rfl) (by kernel_rfl) (by kernel_rfl) (fun _ _ _ h => h) rfl hHeld (fun w => ?_) ?_
              · go_simp
              simp only [Act.put, List.setIfInBounds_toArray, List.set_cons_zero, List.set_cons_succ]
              refine wpAnyH_done (by kernel_rfl) ?_ _
              go_wp2
              go_ret
              exact ⟨rfl, TWO.out.trans ((HBY.out.trans (hV3.mono HBY.out.size)).mono TWO.out.size)⟩
end Go.Proofs.Ytgldbjlifcfjlaa
