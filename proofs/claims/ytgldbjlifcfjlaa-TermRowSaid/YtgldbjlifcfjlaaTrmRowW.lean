/- The walk over the law TermRow. -/
import Derived.Test.YtgldbjlifcfjlaaTrmSameW
namespace Go.Proofs.Ytgldbjlifcfjlaa
set_option linter.unusedVariables false
set_option linter.unusedSimpArgs false
open Go.RowKit

theorem rowT_shape : ∀ l : List Int, 0 < l.length → (∀ x ∈ l, 0 ≤ x) → (rowT l).good = true ∧ (rowT l).size + 1 = 2 * l.length ∧ (rowT l).depth = l.length
  | [x], _, h => by
    rw [rowT]
    refine ⟨?_, by simp [Te.size, Te.sizes], by simp [Te.depth, Te.depths]⟩
    simp only [Te.good, Te.goods, List.length_nil, Bool.and_true]
    exact nodeB_yes (.inl ⟨.inl rfl, h x (by simp), rfl⟩)
  | x :: y :: l, _, h => by
    obtain ⟨h1, h2, h3⟩ := rowT_shape (y :: l) (by simp) (fun z hz => h z (by simp at hz ⊢; right; exact hz))
    rw [rowT]
    refine ⟨?_, ?_, ?_⟩
    · simp only [Te.good, Te.goods, List.length_cons, List.length_nil, Bool.and_true, h1]
      rw [show nodeB 2 0 (0 + 1 + 1) = true from nodeB_yes (by omega), show nodeB 0 x 0 = true from nodeB_yes (.inl ⟨.inl rfl, h x (by simp), rfl⟩)]
      rfl
    · simp only [Te.size, Te.sizes, List.length_cons] at h2 ⊢; omega
    · simp only [Te.depth, Te.depths, List.length_cons] at h3 ⊢; omega
theorem row_may {l : List Int} (h : rowB l = true) : (rowT l).may = true := by
  obtain ⟨h1, h2, h3⟩ := (rowB_is l).1 h
  obtain ⟨h4, h5, h6⟩ := rowT_shape l h1 h3
  unfold Te.may
  rw [h4, decide_eq_true (by omega), decide_eq_true (by omega)]
  rfl
theorem row_same {l k : List Int} (hl : rowB l = true) (hk : rowB k = true) : (rowT l).same (rowT k) = (l == k) := by
  rw [Bool.eq_iff_iff, Te.same_iff, beq_iff_eq]
  exact ⟨fun h => rowT_inj l k ((rowB_is l).1 hl).1 ((rowB_is k).1 hk).1 h, fun h => by rw [h]⟩

set_option maxRecDepth 100000 in
set_option maxHeartbeats 8000000 in
theorem rowl_tth (t : Te) (k n : Int) (A : Option Addr) (m c : Nat) (B D : Option Addr) (N d M e' : Nat) (l q : List Int) (w : World) (hI : Is (· < w.heap.size) w t k n A m c) (hl : Its .i64 w B N d l) (hq : Its .i64 w D M e' q) (hlt : lightB t 150 20 = true) (hN : N ≤ 20) (hM : M ≤ 20) (his : rowB l = true) (hcan : rowB q = true) (l0 : List Int) (hh : rowB l0 = true) (he : t = rowT l0) :
    Calls Try.prog 5 #[.slice B N d, .slice D M e', .agg #[.int .i64 k, .int .i64 n, .slice A m c]] w (GivesB true w) := by
  have two := one_alloc w (.cells #[.int .i64 k, .int .i64 n, .slice A m c] 24)
  have hbx := Box3.new w k n A m c
  obtain ⟨W1, hW1⟩ : ∃ W1, w.alloc (.cells #[.int .i64 k, .int .i64 n, .slice A m c] 24) = W1 := ⟨_, rfl⟩
  rw [hW1] at two hbx
  have hN20 : decide ((20 : Int) < N) = false := decide_eq_false (by omega)
  have hM20 : decide ((20 : Int) < M) = false := decide_eq_false (by omega)
  have hlW := hl.below two
  have hqW := hq.below two
  have TWO := Lib.hid two
  have HW1 := Lib.hid hW1
  have HBX := Lib.hid hbx
  have HT := Lib.hid hI
  have HL := Lib.hid hlW
  have HQ := Lib.hid hqW
  have HLT := Lib.hid hlt
  have HIS := Lib.hid his
  have HCAN := Lib.hid hcan
  have HH := Lib.hid hh
  have HE := Lib.hid he
  have hB1 := Below.refl W1.heap.size W1
  clear two hbx hW1 hI hl hq hlW hqW hlt his hh hcan he
  go_enter Try.func5, Try.ntmps5
  go_wp2_with (first
    | (go_at_call 9
       rw [HW1.out]
       have hc3 := tawake_any W1
       (with_reducible refine hc3.mono ?_)
       rintro e w3 ⟨rfl, hb3⟩
       have hB3 : Below W1.heap.size W1 w3 := hB1.trans (hb3.mono hB1.size)
       obtain ⟨x30, x31, x32⟩ := (HBX.out.keep hB3).cells
       clear hc3 hb3)
    | (go_at_call 10
       have hc4 := light_any _ t k n A m c w3 (HT.out.below (TWO.out.trans (hB3.mono TWO.out.size)))
       rw [HLT.out] at hc4
       (with_reducible refine hc4.mono ?_)
       rintro e w4 ⟨rfl, hb4⟩
       have hB4 : Below W1.heap.size W1 w4 := hB3.trans (hb4.mono hB3.size)
       obtain ⟨x40, x41, x42⟩ := (HBX.out.keep hB4).cells
       clear hc4 hb4)
    | (go_at_call 11
       have hc5 := row_any B N d l w4 (HL.out.below hB4)
       rw [rowR, HIS.out, if_pos rfl] at hc5
       (with_reducible refine hc5.mono ?_)
       rintro e w5 ⟨k5, n5, A5, m5, c5, rfl, hI5, hb5⟩
       have hB5 : Below W1.heap.size W1 w5 := hB4.trans (hb5.mono hB4.size)
       obtain ⟨x50, x51, x52⟩ := (HBX.out.keep hB5).cells
       have ho5 := one_alloc w5 (.cells #[.int .i64 k5, .int .i64 n5, .slice A5 m5 c5] 24)
       have hB5a : Below W1.heap.size W1 (w5.alloc (.cells #[.int .i64 k5, .int .i64 n5, .slice A5 m5 c5] 24)) := hB5.trans (ho5.mono hB5.size)
       have HX5 := Lib.hid (Box3.new w5 k5 n5 A5 m5 c5)
       have HI5 := Lib.hid (hI5.later ho5)
       clear ho5 hI5
       clear hc5 hb5)
    | (go_at_call 11
       have hc6 := row_any D M e' q (w5.alloc (.cells #[.int .i64 k5, .int .i64 n5, .slice A5 m5 c5] 24)) (HQ.out.below hB5a)
       rw [rowR, HCAN.out, if_pos rfl] at hc6
       (with_reducible refine hc6.mono ?_)
       rintro e w6 ⟨k6, n6, A6, m6, c6, rfl, hI6, hb6⟩
       have hB6 : Below W1.heap.size W1 w6 := hB5a.trans (hb6.mono hB5a.size)
       obtain ⟨x60, x61, x62⟩ := (HBX.out.keep hB6).cells
       have ho6 := one_alloc w6 (.cells #[.int .i64 k6, .int .i64 n6, .slice A6 m6 c6] 24)
       have hB6a : Below W1.heap.size W1 (w6.alloc (.cells #[.int .i64 k6, .int .i64 n6, .slice A6 m6 c6] 24)) := hB6.trans (ho6.mono hB6.size)
       have hx6 := (HX5.out.keep hb6).keep ho6
       obtain ⟨a0, a1, a2⟩ := hx6.cells
       have HX6 := Lib.hid hx6
       have HY6 := Lib.hid (Box3.new w6 k6 n6 A6 m6 c6)
       have HI56 := Lib.hid ((HI5.out.later hb6).later ho6)
       have HI6 := Lib.hid (hI6.later ho6)
       clear ho6 hI6 hx6
       clear hc6 hb6)
    | (go_at_call 13
       have hc7 := unrow_any _ (rowT l) k5 n5 A5 m5 c5 (w6.alloc (.cells #[.int .i64 k6, .int .i64 n6, .slice A6 m6 c6] 24)) HI56.out
       (with_reducible refine hc7.mono ?_)
       intro e w7 hup
       obtain ⟨A7, m7, c7, rfl, hi7, hb7⟩ := un_row HIS.out hup
       have hB7 : Below W1.heap.size W1 w7 := hB6a.trans (hb7.mono hB6a.size)
       have HX7 := Lib.hid (HX6.out.keep hb7)
       have HY7 := Lib.hid (HY6.out.keep hb7)
       have HI57 := Lib.hid (HI56.out.later hb7)
       have HI67 := Lib.hid (HI6.out.later hb7)
       have HI7 := Lib.hid hi7
       clear hc7 hup hi7 hb7)
    | (go_at_call 18
       have hc8 := ints_any _ _ _ _ _ _ l l w7 HI7.out (HL.out.below hB7)
       rw [beq_self_eq_true] at hc8
       (with_reducible refine hc8.mono ?_)
       rintro e w8 ⟨rfl, j8, hj8⟩
       have hb8 : Below w7.heap.size w7 w8 := by rw [hj8]; exact below_drewN (Below.refl _ _) j8
       have hB8 : Below W1.heap.size W1 w8 := hB7.trans (hb8.mono hB7.size)
       have HX8 := Lib.hid (HX7.out.keep hb8)
       have HY8 := Lib.hid (HY7.out.keep hb8)
       have HI58 := Lib.hid (HI57.out.later hb8)
       have HI68 := Lib.hid (HI67.out.later hb8)
       clear hc8 hb8 hj8)
    | (go_at_call 18
       have hc9 := ints_any _ _ _ _ _ _ l q w8 (HL.out.below hB8) (HQ.out.below hB8)
       rw [← row_same HIS.out HCAN.out] at hc9
       obtain ⟨sb, hsb⟩ : ∃ b, (rowT l).same (rowT q) = b := ⟨_, rfl⟩
       have HSB := Lib.hid hsb
       rw [hsb] at hc9
       (with_reducible refine hc9.mono ?_)
       rintro e w9 ⟨rfl, j9, hj9⟩
       have hb9 : Below w8.heap.size w8 w9 := by rw [hj9]; exact below_drewN (Below.refl _ _) j9
       have hB9 : Below W1.heap.size W1 w9 := hB8.trans (hb9.mono hB8.size)
       obtain ⟨x90, x91, x92⟩ := (HBX.out.keep hB9).cells
       obtain ⟨g90, g91, g92⟩ := (HX8.out.keep hb9).cells
       obtain ⟨i90, i91, i92⟩ := (HY8.out.keep hb9).cells
       have HX9 := Lib.hid (HX8.out.keep hb9)
       have HY9 := Lib.hid (HY8.out.keep hb9)
       have HI59 := Lib.hid (HI58.out.later hb9)
       have HI69 := Lib.hid (HI68.out.later hb9)
       clear hc9 hb9 hj9 hsb)
    | (go_at_call 23
       have hc10 := may_any _ (rowT l) k5 n5 A5 m5 c5 w9 HI59.out
       rw [row_may HIS.out] at hc10
       (with_reducible refine hc10.mono ?_)
       rintro e w10 ⟨rfl, hb10⟩
       have hB10 : Below W1.heap.size W1 w10 := hB9.trans (hb10.mono hB9.size)
       obtain ⟨x100, x101, x102⟩ := (HBX.out.keep hB10).cells
       obtain ⟨g10, g11, g12⟩ := (HX9.out.keep hb10).cells
       obtain ⟨i10, i11, i12⟩ := (HY9.out.keep hb10).cells
       have HI5t := Lib.hid (HI59.out.later hb10)
       have HI6t := Lib.hid (HI69.out.later hb10)
       clear hc10 hb10)
    | (go_at_call 24
       have hc11 := psame_any _ _ (rowT l) (rowT q) k5 n5 k6 n6 A5 A6 m5 c5 m6 c6 w10 HI5t.out HI6t.out
       rw [HSB.out] at hc11
       (with_reducible refine hc11.mono ?_)
       rintro e w11 ⟨rfl, hb11⟩
       have hB11 : Below W1.heap.size W1 w11 := hB10.trans (hb11.mono hB10.size)
       obtain ⟨x110, x111, x112⟩ := (HBX.out.keep hB11).cells
       clear hc11 hb11)
    | (go_at_call 13
       have hc12 := unrow_any _ t k n A m c w11 (HT.out.below (TWO.out.trans (hB11.mono TWO.out.size)))
       rw [HE.out] at hc12
       (with_reducible refine hc12.mono ?_)
       intro e w12 hup
       obtain ⟨A12, m12, c12, rfl, hi12, hb12⟩ := un_row HH.out hup
       have hB12 : Below W1.heap.size W1 w12 := hB11.trans (hb12.mono hB11.size)
       have HI12 := Lib.hid hi12
       clear hc12 hup hi12 hb12)
    | (go_at_call 11
       have hc13 := row_any A12 m12 c12 l0 w12 HI12.out
       rw [rowR, HH.out, if_pos rfl, ← HE.out] at hc13
       (with_reducible refine hc13.mono ?_)
       rintro e w13 ⟨k13, n13, A13, m13, c13, rfl, hI13, hb13⟩
       have hB13 : Below W1.heap.size W1 w13 := hB12.trans (hb13.mono hB12.size)
       obtain ⟨x130, x131, x132⟩ := (HBX.out.keep hB13).cells
       have ho13 := one_alloc w13 (.cells #[.int .i64 k13, .int .i64 n13, .slice A13 m13 c13] 24)
       have hB13a : Below W1.heap.size W1 (w13.alloc (.cells #[.int .i64 k13, .int .i64 n13, .slice A13 m13 c13] 24)) := hB13.trans (ho13.mono hB13.size)
       have HI13 := Lib.hid (hI13.later ho13)
       obtain ⟨z0, z1, z2⟩ := (HBX.out.keep hB13a).cells
       clear ho13 hI13
       clear hc13 hb13)
    | (go_at_call 24
       have hc14 := psame_any _ _ t t k13 n13 k n A13 A m13 c13 m c (w13.alloc (.cells #[.int .i64 k13, .int .i64 n13, .slice A13 m13 c13] 24)) HI13.out (HT.out.below (TWO.out.trans (hB13a.mono TWO.out.size)))
       rw [Te.same_refl] at hc14
       (with_reducible refine hc14.mono ?_)
       rintro e w14 ⟨rfl, hb14⟩
       have hB14 : Below W1.heap.size W1 w14 := hB13a.trans (hb14.mono hB13a.size)
       obtain ⟨x140, x141, x142⟩ := (HBX.out.keep hB14).cells
       clear hc14 hb14))
  go_ret
  exact ⟨rfl, TWO.out.trans (hB14.mono TWO.out.size)⟩

set_option maxRecDepth 100000 in
set_option maxHeartbeats 8000000 in
theorem rowl_ttn (t : Te) (k n : Int) (A : Option Addr) (m c : Nat) (B D : Option Addr) (N d M e' : Nat) (l q : List Int) (w : World) (hI : Is (· < w.heap.size) w t k n A m c) (hl : Its .i64 w B N d l) (hq : Its .i64 w D M e' q) (hlt : lightB t 150 20 = true) (hN : N ≤ 20) (hM : M ≤ 20) (his : rowB l = true) (hcan : rowB q = true) (hh : ∀ l', rowB l' = true → t ≠ rowT l') :
    Calls Try.prog 5 #[.slice B N d, .slice D M e', .agg #[.int .i64 k, .int .i64 n, .slice A m c]] w (GivesB true w) := by
  have two := one_alloc w (.cells #[.int .i64 k, .int .i64 n, .slice A m c] 24)
  have hbx := Box3.new w k n A m c
  obtain ⟨W1, hW1⟩ : ∃ W1, w.alloc (.cells #[.int .i64 k, .int .i64 n, .slice A m c] 24) = W1 := ⟨_, rfl⟩
  rw [hW1] at two hbx
  have hN20 : decide ((20 : Int) < N) = false := decide_eq_false (by omega)
  have hM20 : decide ((20 : Int) < M) = false := decide_eq_false (by omega)
  have hlW := hl.below two
  have hqW := hq.below two
  have TWO := Lib.hid two
  have HW1 := Lib.hid hW1
  have HBX := Lib.hid hbx
  have HT := Lib.hid hI
  have HL := Lib.hid hlW
  have HQ := Lib.hid hqW
  have HLT := Lib.hid hlt
  have HIS := Lib.hid his
  have HCAN := Lib.hid hcan
  have HH := Lib.hid hh
  skip
  have hB1 := Below.refl W1.heap.size W1
  clear two hbx hW1 hI hl hq hlW hqW hlt his hh hcan 
  go_enter Try.func5, Try.ntmps5
  go_wp2_with (first
    | (go_at_call 9
       rw [HW1.out]
       have hc3 := tawake_any W1
       (with_reducible refine hc3.mono ?_)
       rintro e w3 ⟨rfl, hb3⟩
       have hB3 : Below W1.heap.size W1 w3 := hB1.trans (hb3.mono hB1.size)
       obtain ⟨x30, x31, x32⟩ := (HBX.out.keep hB3).cells
       clear hc3 hb3)
    | (go_at_call 10
       have hc4 := light_any _ t k n A m c w3 (HT.out.below (TWO.out.trans (hB3.mono TWO.out.size)))
       rw [HLT.out] at hc4
       (with_reducible refine hc4.mono ?_)
       rintro e w4 ⟨rfl, hb4⟩
       have hB4 : Below W1.heap.size W1 w4 := hB3.trans (hb4.mono hB3.size)
       obtain ⟨x40, x41, x42⟩ := (HBX.out.keep hB4).cells
       clear hc4 hb4)
    | (go_at_call 11
       have hc5 := row_any B N d l w4 (HL.out.below hB4)
       rw [rowR, HIS.out, if_pos rfl] at hc5
       (with_reducible refine hc5.mono ?_)
       rintro e w5 ⟨k5, n5, A5, m5, c5, rfl, hI5, hb5⟩
       have hB5 : Below W1.heap.size W1 w5 := hB4.trans (hb5.mono hB4.size)
       obtain ⟨x50, x51, x52⟩ := (HBX.out.keep hB5).cells
       have ho5 := one_alloc w5 (.cells #[.int .i64 k5, .int .i64 n5, .slice A5 m5 c5] 24)
       have hB5a : Below W1.heap.size W1 (w5.alloc (.cells #[.int .i64 k5, .int .i64 n5, .slice A5 m5 c5] 24)) := hB5.trans (ho5.mono hB5.size)
       have HX5 := Lib.hid (Box3.new w5 k5 n5 A5 m5 c5)
       have HI5 := Lib.hid (hI5.later ho5)
       clear ho5 hI5
       clear hc5 hb5)
    | (go_at_call 11
       have hc6 := row_any D M e' q (w5.alloc (.cells #[.int .i64 k5, .int .i64 n5, .slice A5 m5 c5] 24)) (HQ.out.below hB5a)
       rw [rowR, HCAN.out, if_pos rfl] at hc6
       (with_reducible refine hc6.mono ?_)
       rintro e w6 ⟨k6, n6, A6, m6, c6, rfl, hI6, hb6⟩
       have hB6 : Below W1.heap.size W1 w6 := hB5a.trans (hb6.mono hB5a.size)
       obtain ⟨x60, x61, x62⟩ := (HBX.out.keep hB6).cells
       have ho6 := one_alloc w6 (.cells #[.int .i64 k6, .int .i64 n6, .slice A6 m6 c6] 24)
       have hB6a : Below W1.heap.size W1 (w6.alloc (.cells #[.int .i64 k6, .int .i64 n6, .slice A6 m6 c6] 24)) := hB6.trans (ho6.mono hB6.size)
       have hx6 := (HX5.out.keep hb6).keep ho6
       obtain ⟨a0, a1, a2⟩ := hx6.cells
       have HX6 := Lib.hid hx6
       have HY6 := Lib.hid (Box3.new w6 k6 n6 A6 m6 c6)
       have HI56 := Lib.hid ((HI5.out.later hb6).later ho6)
       have HI6 := Lib.hid (hI6.later ho6)
       clear ho6 hI6 hx6
       clear hc6 hb6)
    | (go_at_call 13
       have hc7 := unrow_any _ (rowT l) k5 n5 A5 m5 c5 (w6.alloc (.cells #[.int .i64 k6, .int .i64 n6, .slice A6 m6 c6] 24)) HI56.out
       (with_reducible refine hc7.mono ?_)
       intro e w7 hup
       obtain ⟨A7, m7, c7, rfl, hi7, hb7⟩ := un_row HIS.out hup
       have hB7 : Below W1.heap.size W1 w7 := hB6a.trans (hb7.mono hB6a.size)
       have HX7 := Lib.hid (HX6.out.keep hb7)
       have HY7 := Lib.hid (HY6.out.keep hb7)
       have HI57 := Lib.hid (HI56.out.later hb7)
       have HI67 := Lib.hid (HI6.out.later hb7)
       have HI7 := Lib.hid hi7
       clear hc7 hup hi7 hb7)
    | (go_at_call 18
       have hc8 := ints_any _ _ _ _ _ _ l l w7 HI7.out (HL.out.below hB7)
       rw [beq_self_eq_true] at hc8
       (with_reducible refine hc8.mono ?_)
       rintro e w8 ⟨rfl, j8, hj8⟩
       have hb8 : Below w7.heap.size w7 w8 := by rw [hj8]; exact below_drewN (Below.refl _ _) j8
       have hB8 : Below W1.heap.size W1 w8 := hB7.trans (hb8.mono hB7.size)
       have HX8 := Lib.hid (HX7.out.keep hb8)
       have HY8 := Lib.hid (HY7.out.keep hb8)
       have HI58 := Lib.hid (HI57.out.later hb8)
       have HI68 := Lib.hid (HI67.out.later hb8)
       clear hc8 hb8 hj8)
    | (go_at_call 18
       have hc9 := ints_any _ _ _ _ _ _ l q w8 (HL.out.below hB8) (HQ.out.below hB8)
       rw [← row_same HIS.out HCAN.out] at hc9
       obtain ⟨sb, hsb⟩ : ∃ b, (rowT l).same (rowT q) = b := ⟨_, rfl⟩
       have HSB := Lib.hid hsb
       rw [hsb] at hc9
       (with_reducible refine hc9.mono ?_)
       rintro e w9 ⟨rfl, j9, hj9⟩
       have hb9 : Below w8.heap.size w8 w9 := by rw [hj9]; exact below_drewN (Below.refl _ _) j9
       have hB9 : Below W1.heap.size W1 w9 := hB8.trans (hb9.mono hB8.size)
       obtain ⟨x90, x91, x92⟩ := (HBX.out.keep hB9).cells
       obtain ⟨g90, g91, g92⟩ := (HX8.out.keep hb9).cells
       obtain ⟨i90, i91, i92⟩ := (HY8.out.keep hb9).cells
       have HX9 := Lib.hid (HX8.out.keep hb9)
       have HY9 := Lib.hid (HY8.out.keep hb9)
       have HI59 := Lib.hid (HI58.out.later hb9)
       have HI69 := Lib.hid (HI68.out.later hb9)
       clear hc9 hb9 hj9 hsb)
    | (go_at_call 23
       have hc10 := may_any _ (rowT l) k5 n5 A5 m5 c5 w9 HI59.out
       rw [row_may HIS.out] at hc10
       (with_reducible refine hc10.mono ?_)
       rintro e w10 ⟨rfl, hb10⟩
       have hB10 : Below W1.heap.size W1 w10 := hB9.trans (hb10.mono hB9.size)
       obtain ⟨x100, x101, x102⟩ := (HBX.out.keep hB10).cells
       obtain ⟨g10, g11, g12⟩ := (HX9.out.keep hb10).cells
       obtain ⟨i10, i11, i12⟩ := (HY9.out.keep hb10).cells
       have HI5t := Lib.hid (HI59.out.later hb10)
       have HI6t := Lib.hid (HI69.out.later hb10)
       clear hc10 hb10)
    | (go_at_call 24
       have hc11 := psame_any _ _ (rowT l) (rowT q) k5 n5 k6 n6 A5 A6 m5 c5 m6 c6 w10 HI5t.out HI6t.out
       rw [HSB.out] at hc11
       (with_reducible refine hc11.mono ?_)
       rintro e w11 ⟨rfl, hb11⟩
       have hB11 : Below W1.heap.size W1 w11 := hB10.trans (hb11.mono hB10.size)
       obtain ⟨x110, x111, x112⟩ := (HBX.out.keep hB11).cells
       clear hc11 hb11)
    | (go_at_call 13
       have hc12 := unrow_any _ t k n A m c w11 (HT.out.below (TWO.out.trans (hB11.mono TWO.out.size)))
       (with_reducible refine hc12.mono ?_)
       intro e w12 hup
       obtain ⟨A12, m12, c12, rfl, hi12, hb12⟩ := un_none HH.out hup
       have hB12 : Below W1.heap.size W1 w12 := hB11.trans (hb12.mono hB11.size)
       have HI12 := Lib.hid hi12
       clear hc12 hup hi12 hb12)
    | (go_at_call 11
       have hc13 := row_any A12 m12 c12 [] w12 HI12.out
       skip
       (with_reducible refine hc13.mono ?_)
       rintro e w13 ⟨k13, n13, A13, m13, c13, rfl, hI13, hb13⟩
       have hB13 : Below W1.heap.size W1 w13 := hB12.trans (hb13.mono hB12.size)
       obtain ⟨x130, x131, x132⟩ := (HBX.out.keep hB13).cells
       have ho13 := one_alloc w13 (.cells #[.int .i64 k13, .int .i64 n13, .slice A13 m13 c13] 24)
       have hB13a : Below W1.heap.size W1 (w13.alloc (.cells #[.int .i64 k13, .int .i64 n13, .slice A13 m13 c13] 24)) := hB13.trans (ho13.mono hB13.size)
       have HI13 := Lib.hid (hI13.later ho13)
       obtain ⟨z0, z1, z2⟩ := (HBX.out.keep hB13a).cells
       clear ho13 hI13
       clear hc13 hb13))
  go_ret
  exact ⟨rfl, TWO.out.trans (hB13a.mono TWO.out.size)⟩

set_option maxRecDepth 100000 in
set_option maxHeartbeats 8000000 in
theorem rowl_tfh (t : Te) (k n : Int) (A : Option Addr) (m c : Nat) (B D : Option Addr) (N d M e' : Nat) (l q : List Int) (w : World) (hI : Is (· < w.heap.size) w t k n A m c) (hl : Its .i64 w B N d l) (hq : Its .i64 w D M e' q) (hlt : lightB t 150 20 = true) (hN : N ≤ 20) (hM : M ≤ 20) (his : rowB l = true) (hcan : rowB q = false) (l0 : List Int) (hh : rowB l0 = true) (he : t = rowT l0) :
    Calls Try.prog 5 #[.slice B N d, .slice D M e', .agg #[.int .i64 k, .int .i64 n, .slice A m c]] w (GivesB true w) := by
  have two := one_alloc w (.cells #[.int .i64 k, .int .i64 n, .slice A m c] 24)
  have hbx := Box3.new w k n A m c
  obtain ⟨W1, hW1⟩ : ∃ W1, w.alloc (.cells #[.int .i64 k, .int .i64 n, .slice A m c] 24) = W1 := ⟨_, rfl⟩
  rw [hW1] at two hbx
  have hN20 : decide ((20 : Int) < N) = false := decide_eq_false (by omega)
  have hM20 : decide ((20 : Int) < M) = false := decide_eq_false (by omega)
  have hlW := hl.below two
  have hqW := hq.below two
  have TWO := Lib.hid two
  have HW1 := Lib.hid hW1
  have HBX := Lib.hid hbx
  have HT := Lib.hid hI
  have HL := Lib.hid hlW
  have HQ := Lib.hid hqW
  have HLT := Lib.hid hlt
  have HIS := Lib.hid his
  have HCAN := Lib.hid hcan
  have HH := Lib.hid hh
  have HE := Lib.hid he
  have hB1 := Below.refl W1.heap.size W1
  clear two hbx hW1 hI hl hq hlW hqW hlt his hh hcan he
  go_enter Try.func5, Try.ntmps5
  go_wp2_with (first
    | (go_at_call 9
       rw [HW1.out]
       have hc3 := tawake_any W1
       (with_reducible refine hc3.mono ?_)
       rintro e w3 ⟨rfl, hb3⟩
       have hB3 : Below W1.heap.size W1 w3 := hB1.trans (hb3.mono hB1.size)
       obtain ⟨x30, x31, x32⟩ := (HBX.out.keep hB3).cells
       clear hc3 hb3)
    | (go_at_call 10
       have hc4 := light_any _ t k n A m c w3 (HT.out.below (TWO.out.trans (hB3.mono TWO.out.size)))
       rw [HLT.out] at hc4
       (with_reducible refine hc4.mono ?_)
       rintro e w4 ⟨rfl, hb4⟩
       have hB4 : Below W1.heap.size W1 w4 := hB3.trans (hb4.mono hB3.size)
       obtain ⟨x40, x41, x42⟩ := (HBX.out.keep hB4).cells
       clear hc4 hb4)
    | (go_at_call 11
       have hc5 := row_any B N d l w4 (HL.out.below hB4)
       rw [rowR, HIS.out, if_pos rfl] at hc5
       (with_reducible refine hc5.mono ?_)
       rintro e w5 ⟨k5, n5, A5, m5, c5, rfl, hI5, hb5⟩
       have hB5 : Below W1.heap.size W1 w5 := hB4.trans (hb5.mono hB4.size)
       obtain ⟨x50, x51, x52⟩ := (HBX.out.keep hB5).cells
       have ho5 := one_alloc w5 (.cells #[.int .i64 k5, .int .i64 n5, .slice A5 m5 c5] 24)
       have hB5a : Below W1.heap.size W1 (w5.alloc (.cells #[.int .i64 k5, .int .i64 n5, .slice A5 m5 c5] 24)) := hB5.trans (ho5.mono hB5.size)
       have HX5 := Lib.hid (Box3.new w5 k5 n5 A5 m5 c5)
       have HI5 := Lib.hid (hI5.later ho5)
       clear ho5 hI5
       clear hc5 hb5)
    | (go_at_call 11
       have hc6 := row_any D M e' q (w5.alloc (.cells #[.int .i64 k5, .int .i64 n5, .slice A5 m5 c5] 24)) (HQ.out.below hB5a)
       rw [rowR_no HCAN.out, HCAN.out] at hc6
       (with_reducible refine hc6.mono ?_)
       rintro e w6 ⟨k6, n6, A6, m6, c6, rfl, hI6, hb6⟩
       have hB6 : Below W1.heap.size W1 w6 := hB5a.trans (hb6.mono hB5a.size)
       obtain ⟨x60, x61, x62⟩ := (HBX.out.keep hB6).cells
       have ho6 := one_alloc w6 (.cells #[.int .i64 k6, .int .i64 n6, .slice A6 m6 c6] 24)
       have hB6a : Below W1.heap.size W1 (w6.alloc (.cells #[.int .i64 k6, .int .i64 n6, .slice A6 m6 c6] 24)) := hB6.trans (ho6.mono hB6.size)
       have hx6 := (HX5.out.keep hb6).keep ho6
       obtain ⟨a0, a1, a2⟩ := hx6.cells
       have HX6 := Lib.hid hx6
       have HY6 := Lib.hid (Box3.new w6 k6 n6 A6 m6 c6)
       have HI56 := Lib.hid ((HI5.out.later hb6).later ho6)
       have HI6 := Lib.hid (hI6.later ho6)
       clear ho6 hI6 hx6
       clear hc6 hb6)
    | (go_at_call 13
       have hc7 := unrow_any _ (rowT l) k5 n5 A5 m5 c5 (w6.alloc (.cells #[.int .i64 k6, .int .i64 n6, .slice A6 m6 c6] 24)) HI56.out
       (with_reducible refine hc7.mono ?_)
       intro e w7 hup
       obtain ⟨A7, m7, c7, rfl, hi7, hb7⟩ := un_row HIS.out hup
       have hB7 : Below W1.heap.size W1 w7 := hB6a.trans (hb7.mono hB6a.size)
       have HX7 := Lib.hid (HX6.out.keep hb7)
       have HY7 := Lib.hid (HY6.out.keep hb7)
       have HI57 := Lib.hid (HI56.out.later hb7)
       have HI67 := Lib.hid (HI6.out.later hb7)
       have HI7 := Lib.hid hi7
       clear hc7 hup hi7 hb7)
    | (go_at_call 18
       have hc8 := ints_any _ _ _ _ _ _ l l w7 HI7.out (HL.out.below hB7)
       rw [beq_self_eq_true] at hc8
       (with_reducible refine hc8.mono ?_)
       rintro e w8 ⟨rfl, j8, hj8⟩
       have hb8 : Below w7.heap.size w7 w8 := by rw [hj8]; exact below_drewN (Below.refl _ _) j8
       have hB8 : Below W1.heap.size W1 w8 := hB7.trans (hb8.mono hB7.size)
       have HX8 := Lib.hid (HX7.out.keep hb8)
       have HY8 := Lib.hid (HY7.out.keep hb8)
       have HI58 := Lib.hid (HI57.out.later hb8)
       have HI68 := Lib.hid (HI67.out.later hb8)
       clear hc8 hb8 hj8)
    | (go_at_call 18
       have hc9 := ints_any _ _ _ _ _ _ l q w8 (HL.out.below hB8) (HQ.out.below hB8)
       skip
       skip
       skip
       skip
       (with_reducible refine hc9.mono ?_)
       rintro e w9 ⟨rfl, j9, hj9⟩
       have hb9 : Below w8.heap.size w8 w9 := by rw [hj9]; exact below_drewN (Below.refl _ _) j9
       have hB9 : Below W1.heap.size W1 w9 := hB8.trans (hb9.mono hB8.size)
       obtain ⟨x90, x91, x92⟩ := (HBX.out.keep hB9).cells
       obtain ⟨g90, g91, g92⟩ := (HX8.out.keep hb9).cells
       obtain ⟨i90, i91, i92⟩ := (HY8.out.keep hb9).cells
       have HX9 := Lib.hid (HX8.out.keep hb9)
       have HY9 := Lib.hid (HY8.out.keep hb9)
       have HI59 := Lib.hid (HI58.out.later hb9)
       have HI69 := Lib.hid (HI68.out.later hb9)
       clear hc9 hb9 hj9 )
    | (go_at_call 23
       have hc10 := may_any _ (rowT l) k5 n5 A5 m5 c5 w9 HI59.out
       rw [row_may HIS.out] at hc10
       (with_reducible refine hc10.mono ?_)
       rintro e w10 ⟨rfl, hb10⟩
       have hB10 : Below W1.heap.size W1 w10 := hB9.trans (hb10.mono hB9.size)
       obtain ⟨x100, x101, x102⟩ := (HBX.out.keep hB10).cells
       obtain ⟨g10, g11, g12⟩ := (HX9.out.keep hb10).cells
       obtain ⟨i10, i11, i12⟩ := (HY9.out.keep hb10).cells
       have HI5t := Lib.hid (HI59.out.later hb10)
       have HI6t := Lib.hid (HI69.out.later hb10)
       clear hc10 hb10)
    | (go_at_call 13
       have hc12 := unrow_any _ t k n A m c w10 (HT.out.below (TWO.out.trans (hB10.mono TWO.out.size)))
       rw [HE.out] at hc12
       (with_reducible refine hc12.mono ?_)
       intro e w12 hup
       obtain ⟨A12, m12, c12, rfl, hi12, hb12⟩ := un_row HH.out hup
       have hB12 : Below W1.heap.size W1 w12 := hB10.trans (hb12.mono hB10.size)
       have HI12 := Lib.hid hi12
       clear hc12 hup hi12 hb12)
    | (go_at_call 11
       have hc13 := row_any A12 m12 c12 l0 w12 HI12.out
       rw [rowR, HH.out, if_pos rfl, ← HE.out] at hc13
       (with_reducible refine hc13.mono ?_)
       rintro e w13 ⟨k13, n13, A13, m13, c13, rfl, hI13, hb13⟩
       have hB13 : Below W1.heap.size W1 w13 := hB12.trans (hb13.mono hB12.size)
       obtain ⟨x130, x131, x132⟩ := (HBX.out.keep hB13).cells
       have ho13 := one_alloc w13 (.cells #[.int .i64 k13, .int .i64 n13, .slice A13 m13 c13] 24)
       have hB13a : Below W1.heap.size W1 (w13.alloc (.cells #[.int .i64 k13, .int .i64 n13, .slice A13 m13 c13] 24)) := hB13.trans (ho13.mono hB13.size)
       have HI13 := Lib.hid (hI13.later ho13)
       obtain ⟨z0, z1, z2⟩ := (HBX.out.keep hB13a).cells
       clear ho13 hI13
       clear hc13 hb13)
    | (go_at_call 24
       have hc14 := psame_any _ _ t t k13 n13 k n A13 A m13 c13 m c (w13.alloc (.cells #[.int .i64 k13, .int .i64 n13, .slice A13 m13 c13] 24)) HI13.out (HT.out.below (TWO.out.trans (hB13a.mono TWO.out.size)))
       rw [Te.same_refl] at hc14
       (with_reducible refine hc14.mono ?_)
       rintro e w14 ⟨rfl, hb14⟩
       have hB14 : Below W1.heap.size W1 w14 := hB13a.trans (hb14.mono hB13a.size)
       obtain ⟨x140, x141, x142⟩ := (HBX.out.keep hB14).cells
       clear hc14 hb14))
  go_ret
  exact ⟨rfl, TWO.out.trans (hB14.mono TWO.out.size)⟩

set_option maxRecDepth 100000 in
set_option maxHeartbeats 8000000 in
theorem rowl_tfn (t : Te) (k n : Int) (A : Option Addr) (m c : Nat) (B D : Option Addr) (N d M e' : Nat) (l q : List Int) (w : World) (hI : Is (· < w.heap.size) w t k n A m c) (hl : Its .i64 w B N d l) (hq : Its .i64 w D M e' q) (hlt : lightB t 150 20 = true) (hN : N ≤ 20) (hM : M ≤ 20) (his : rowB l = true) (hcan : rowB q = false) (hh : ∀ l', rowB l' = true → t ≠ rowT l') :
    Calls Try.prog 5 #[.slice B N d, .slice D M e', .agg #[.int .i64 k, .int .i64 n, .slice A m c]] w (GivesB true w) := by
  have two := one_alloc w (.cells #[.int .i64 k, .int .i64 n, .slice A m c] 24)
  have hbx := Box3.new w k n A m c
  obtain ⟨W1, hW1⟩ : ∃ W1, w.alloc (.cells #[.int .i64 k, .int .i64 n, .slice A m c] 24) = W1 := ⟨_, rfl⟩
  rw [hW1] at two hbx
  have hN20 : decide ((20 : Int) < N) = false := decide_eq_false (by omega)
  have hM20 : decide ((20 : Int) < M) = false := decide_eq_false (by omega)
  have hlW := hl.below two
  have hqW := hq.below two
  have TWO := Lib.hid two
  have HW1 := Lib.hid hW1
  have HBX := Lib.hid hbx
  have HT := Lib.hid hI
  have HL := Lib.hid hlW
  have HQ := Lib.hid hqW
  have HLT := Lib.hid hlt
  have HIS := Lib.hid his
  have HCAN := Lib.hid hcan
  have HH := Lib.hid hh
  skip
  have hB1 := Below.refl W1.heap.size W1
  clear two hbx hW1 hI hl hq hlW hqW hlt his hh hcan 
  go_enter Try.func5, Try.ntmps5
  go_wp2_with (first
    | (go_at_call 9
       rw [HW1.out]
       have hc3 := tawake_any W1
       (with_reducible refine hc3.mono ?_)
       rintro e w3 ⟨rfl, hb3⟩
       have hB3 : Below W1.heap.size W1 w3 := hB1.trans (hb3.mono hB1.size)
       obtain ⟨x30, x31, x32⟩ := (HBX.out.keep hB3).cells
       clear hc3 hb3)
    | (go_at_call 10
       have hc4 := light_any _ t k n A m c w3 (HT.out.below (TWO.out.trans (hB3.mono TWO.out.size)))
       rw [HLT.out] at hc4
       (with_reducible refine hc4.mono ?_)
       rintro e w4 ⟨rfl, hb4⟩
       have hB4 : Below W1.heap.size W1 w4 := hB3.trans (hb4.mono hB3.size)
       obtain ⟨x40, x41, x42⟩ := (HBX.out.keep hB4).cells
       clear hc4 hb4)
    | (go_at_call 11
       have hc5 := row_any B N d l w4 (HL.out.below hB4)
       rw [rowR, HIS.out, if_pos rfl] at hc5
       (with_reducible refine hc5.mono ?_)
       rintro e w5 ⟨k5, n5, A5, m5, c5, rfl, hI5, hb5⟩
       have hB5 : Below W1.heap.size W1 w5 := hB4.trans (hb5.mono hB4.size)
       obtain ⟨x50, x51, x52⟩ := (HBX.out.keep hB5).cells
       have ho5 := one_alloc w5 (.cells #[.int .i64 k5, .int .i64 n5, .slice A5 m5 c5] 24)
       have hB5a : Below W1.heap.size W1 (w5.alloc (.cells #[.int .i64 k5, .int .i64 n5, .slice A5 m5 c5] 24)) := hB5.trans (ho5.mono hB5.size)
       have HX5 := Lib.hid (Box3.new w5 k5 n5 A5 m5 c5)
       have HI5 := Lib.hid (hI5.later ho5)
       clear ho5 hI5
       clear hc5 hb5)
    | (go_at_call 11
       have hc6 := row_any D M e' q (w5.alloc (.cells #[.int .i64 k5, .int .i64 n5, .slice A5 m5 c5] 24)) (HQ.out.below hB5a)
       rw [rowR_no HCAN.out, HCAN.out] at hc6
       (with_reducible refine hc6.mono ?_)
       rintro e w6 ⟨k6, n6, A6, m6, c6, rfl, hI6, hb6⟩
       have hB6 : Below W1.heap.size W1 w6 := hB5a.trans (hb6.mono hB5a.size)
       obtain ⟨x60, x61, x62⟩ := (HBX.out.keep hB6).cells
       have ho6 := one_alloc w6 (.cells #[.int .i64 k6, .int .i64 n6, .slice A6 m6 c6] 24)
       have hB6a : Below W1.heap.size W1 (w6.alloc (.cells #[.int .i64 k6, .int .i64 n6, .slice A6 m6 c6] 24)) := hB6.trans (ho6.mono hB6.size)
       have hx6 := (HX5.out.keep hb6).keep ho6
       obtain ⟨a0, a1, a2⟩ := hx6.cells
       have HX6 := Lib.hid hx6
       have HY6 := Lib.hid (Box3.new w6 k6 n6 A6 m6 c6)
       have HI56 := Lib.hid ((HI5.out.later hb6).later ho6)
       have HI6 := Lib.hid (hI6.later ho6)
       clear ho6 hI6 hx6
       clear hc6 hb6)
    | (go_at_call 13
       have hc7 := unrow_any _ (rowT l) k5 n5 A5 m5 c5 (w6.alloc (.cells #[.int .i64 k6, .int .i64 n6, .slice A6 m6 c6] 24)) HI56.out
       (with_reducible refine hc7.mono ?_)
       intro e w7 hup
       obtain ⟨A7, m7, c7, rfl, hi7, hb7⟩ := un_row HIS.out hup
       have hB7 : Below W1.heap.size W1 w7 := hB6a.trans (hb7.mono hB6a.size)
       have HX7 := Lib.hid (HX6.out.keep hb7)
       have HY7 := Lib.hid (HY6.out.keep hb7)
       have HI57 := Lib.hid (HI56.out.later hb7)
       have HI67 := Lib.hid (HI6.out.later hb7)
       have HI7 := Lib.hid hi7
       clear hc7 hup hi7 hb7)
    | (go_at_call 18
       have hc8 := ints_any _ _ _ _ _ _ l l w7 HI7.out (HL.out.below hB7)
       rw [beq_self_eq_true] at hc8
       (with_reducible refine hc8.mono ?_)
       rintro e w8 ⟨rfl, j8, hj8⟩
       have hb8 : Below w7.heap.size w7 w8 := by rw [hj8]; exact below_drewN (Below.refl _ _) j8
       have hB8 : Below W1.heap.size W1 w8 := hB7.trans (hb8.mono hB7.size)
       have HX8 := Lib.hid (HX7.out.keep hb8)
       have HY8 := Lib.hid (HY7.out.keep hb8)
       have HI58 := Lib.hid (HI57.out.later hb8)
       have HI68 := Lib.hid (HI67.out.later hb8)
       clear hc8 hb8 hj8)
    | (go_at_call 18
       have hc9 := ints_any _ _ _ _ _ _ l q w8 (HL.out.below hB8) (HQ.out.below hB8)
       skip
       skip
       skip
       skip
       (with_reducible refine hc9.mono ?_)
       rintro e w9 ⟨rfl, j9, hj9⟩
       have hb9 : Below w8.heap.size w8 w9 := by rw [hj9]; exact below_drewN (Below.refl _ _) j9
       have hB9 : Below W1.heap.size W1 w9 := hB8.trans (hb9.mono hB8.size)
       obtain ⟨x90, x91, x92⟩ := (HBX.out.keep hB9).cells
       obtain ⟨g90, g91, g92⟩ := (HX8.out.keep hb9).cells
       obtain ⟨i90, i91, i92⟩ := (HY8.out.keep hb9).cells
       have HX9 := Lib.hid (HX8.out.keep hb9)
       have HY9 := Lib.hid (HY8.out.keep hb9)
       have HI59 := Lib.hid (HI58.out.later hb9)
       have HI69 := Lib.hid (HI68.out.later hb9)
       clear hc9 hb9 hj9 )
    | (go_at_call 23
       have hc10 := may_any _ (rowT l) k5 n5 A5 m5 c5 w9 HI59.out
       rw [row_may HIS.out] at hc10
       (with_reducible refine hc10.mono ?_)
       rintro e w10 ⟨rfl, hb10⟩
       have hB10 : Below W1.heap.size W1 w10 := hB9.trans (hb10.mono hB9.size)
       obtain ⟨x100, x101, x102⟩ := (HBX.out.keep hB10).cells
       obtain ⟨g10, g11, g12⟩ := (HX9.out.keep hb10).cells
       obtain ⟨i10, i11, i12⟩ := (HY9.out.keep hb10).cells
       have HI5t := Lib.hid (HI59.out.later hb10)
       have HI6t := Lib.hid (HI69.out.later hb10)
       clear hc10 hb10)
    | (go_at_call 13
       have hc12 := unrow_any _ t k n A m c w10 (HT.out.below (TWO.out.trans (hB10.mono TWO.out.size)))
       (with_reducible refine hc12.mono ?_)
       intro e w12 hup
       obtain ⟨A12, m12, c12, rfl, hi12, hb12⟩ := un_none HH.out hup
       have hB12 : Below W1.heap.size W1 w12 := hB10.trans (hb12.mono hB10.size)
       have HI12 := Lib.hid hi12
       clear hc12 hup hi12 hb12)
    | (go_at_call 11
       have hc13 := row_any A12 m12 c12 [] w12 HI12.out
       skip
       (with_reducible refine hc13.mono ?_)
       rintro e w13 ⟨k13, n13, A13, m13, c13, rfl, hI13, hb13⟩
       have hB13 : Below W1.heap.size W1 w13 := hB12.trans (hb13.mono hB12.size)
       obtain ⟨x130, x131, x132⟩ := (HBX.out.keep hB13).cells
       have ho13 := one_alloc w13 (.cells #[.int .i64 k13, .int .i64 n13, .slice A13 m13 c13] 24)
       have hB13a : Below W1.heap.size W1 (w13.alloc (.cells #[.int .i64 k13, .int .i64 n13, .slice A13 m13 c13] 24)) := hB13.trans (ho13.mono hB13.size)
       have HI13 := Lib.hid (hI13.later ho13)
       obtain ⟨z0, z1, z2⟩ := (HBX.out.keep hB13a).cells
       clear ho13 hI13
       clear hc13 hb13))
  go_ret
  exact ⟨rfl, TWO.out.trans (hB13a.mono TWO.out.size)⟩

set_option maxRecDepth 100000 in
set_option maxHeartbeats 8000000 in
theorem rowl_fh (t : Te) (k n : Int) (A : Option Addr) (m c : Nat) (B D : Option Addr) (N d M e' : Nat) (l q : List Int) (w : World) (hI : Is (· < w.heap.size) w t k n A m c) (hl : Its .i64 w B N d l) (hq : Its .i64 w D M e' q) (hlt : lightB t 150 20 = true) (hN : N ≤ 20) (hM : M ≤ 20) (his : rowB l = false) (l0 : List Int) (hh : rowB l0 = true) (he : t = rowT l0) :
    Calls Try.prog 5 #[.slice B N d, .slice D M e', .agg #[.int .i64 k, .int .i64 n, .slice A m c]] w (GivesB true w) := by
  have two := one_alloc w (.cells #[.int .i64 k, .int .i64 n, .slice A m c] 24)
  have hbx := Box3.new w k n A m c
  obtain ⟨W1, hW1⟩ : ∃ W1, w.alloc (.cells #[.int .i64 k, .int .i64 n, .slice A m c] 24) = W1 := ⟨_, rfl⟩
  rw [hW1] at two hbx
  have hN20 : decide ((20 : Int) < N) = false := decide_eq_false (by omega)
  have hM20 : decide ((20 : Int) < M) = false := decide_eq_false (by omega)
  have hlW := hl.below two
  have hqW := hq.below two
  have TWO := Lib.hid two
  have HW1 := Lib.hid hW1
  have HBX := Lib.hid hbx
  have HT := Lib.hid hI
  have HL := Lib.hid hlW
  have HQ := Lib.hid hqW
  have HLT := Lib.hid hlt
  have HIS := Lib.hid his
  skip
  have HH := Lib.hid hh
  have HE := Lib.hid he
  have hB1 := Below.refl W1.heap.size W1
  clear two hbx hW1 hI hl hq hlW hqW hlt his hh  he
  go_enter Try.func5, Try.ntmps5
  go_wp2_with (first
    | (go_at_call 9
       rw [HW1.out]
       have hc3 := tawake_any W1
       (with_reducible refine hc3.mono ?_)
       rintro e w3 ⟨rfl, hb3⟩
       have hB3 : Below W1.heap.size W1 w3 := hB1.trans (hb3.mono hB1.size)
       obtain ⟨x30, x31, x32⟩ := (HBX.out.keep hB3).cells
       clear hc3 hb3)
    | (go_at_call 10
       have hc4 := light_any _ t k n A m c w3 (HT.out.below (TWO.out.trans (hB3.mono TWO.out.size)))
       rw [HLT.out] at hc4
       (with_reducible refine hc4.mono ?_)
       rintro e w4 ⟨rfl, hb4⟩
       have hB4 : Below W1.heap.size W1 w4 := hB3.trans (hb4.mono hB3.size)
       obtain ⟨x40, x41, x42⟩ := (HBX.out.keep hB4).cells
       clear hc4 hb4)
    | (go_at_call 11
       have hc5 := row_any B N d l w4 (HL.out.below hB4)
       rw [rowR_no HIS.out, HIS.out] at hc5
       (with_reducible refine hc5.mono ?_)
       rintro e w5 ⟨k5, n5, A5, m5, c5, rfl, hI5, hb5⟩
       have hB5 : Below W1.heap.size W1 w5 := hB4.trans (hb5.mono hB4.size)
       obtain ⟨x50, x51, x52⟩ := (HBX.out.keep hB5).cells
       have ho5 := one_alloc w5 (.cells #[.int .i64 k5, .int .i64 n5, .slice A5 m5 c5] 24)
       have hB5a : Below W1.heap.size W1 (w5.alloc (.cells #[.int .i64 k5, .int .i64 n5, .slice A5 m5 c5] 24)) := hB5.trans (ho5.mono hB5.size)
       have HX5 := Lib.hid (Box3.new w5 k5 n5 A5 m5 c5)
       have HI5 := Lib.hid (hI5.later ho5)
       clear ho5 hI5
       clear hc5 hb5)
    | (go_at_call 11
       have hc6 := row_any D M e' q (w5.alloc (.cells #[.int .i64 k5, .int .i64 n5, .slice A5 m5 c5] 24)) (HQ.out.below hB5a)
       (with_reducible refine hc6.mono ?_)
       rintro e w6 ⟨k6, n6, A6, m6, c6, rfl, hI6, hb6⟩
       have hB6 : Below W1.heap.size W1 w6 := hB5a.trans (hb6.mono hB5a.size)
       obtain ⟨x60, x61, x62⟩ := (HBX.out.keep hB6).cells
       have ho6 := one_alloc w6 (.cells #[.int .i64 k6, .int .i64 n6, .slice A6 m6 c6] 24)
       have hB6a : Below W1.heap.size W1 (w6.alloc (.cells #[.int .i64 k6, .int .i64 n6, .slice A6 m6 c6] 24)) := hB6.trans (ho6.mono hB6.size)
       have hx6 := (HX5.out.keep hb6).keep ho6
       obtain ⟨a0, a1, a2⟩ := hx6.cells
       have HX6 := Lib.hid hx6
       have HY6 := Lib.hid (Box3.new w6 k6 n6 A6 m6 c6)
       have HI56 := Lib.hid ((HI5.out.later hb6).later ho6)
       have HI6 := Lib.hid (hI6.later ho6)
       clear ho6 hI6 hx6
       clear hc6 hb6)
    | (go_at_call 13
       have hc7 := unrow_any _ (Te.node 0 0 []) k5 n5 A5 m5 c5 (w6.alloc (.cells #[.int .i64 k6, .int .i64 n6, .slice A6 m6 c6] 24)) HI56.out
       (with_reducible refine hc7.mono ?_)
       rintro e w7 ⟨b7, l7, A7, m7, c7, rfl, hi7, hb7, _, _⟩
       have hB7 : Below W1.heap.size W1 w7 := hB6a.trans (hb7.mono hB6a.size)
       have HX7 := Lib.hid (HX6.out.keep hb7)
       have HY7 := Lib.hid (HY6.out.keep hb7)
       have HI57 := Lib.hid (HI56.out.later hb7)
       have HI67 := Lib.hid (HI6.out.later hb7)
       have HI7 := Lib.hid hi7
       clear hc7 hi7 hb7)
    | (go_at_call 18
       have hc8 := ints_any _ _ _ _ _ _ l7 l w7 HI7.out (HL.out.below hB7)
       skip
       (with_reducible refine hc8.mono ?_)
       rintro e w8 ⟨rfl, j8, hj8⟩
       have hb8 : Below w7.heap.size w7 w8 := by rw [hj8]; exact below_drewN (Below.refl _ _) j8
       have hB8 : Below W1.heap.size W1 w8 := hB7.trans (hb8.mono hB7.size)
       have HX8 := Lib.hid (HX7.out.keep hb8)
       have HY8 := Lib.hid (HY7.out.keep hb8)
       have HI58 := Lib.hid (HI57.out.later hb8)
       have HI68 := Lib.hid (HI67.out.later hb8)
       clear hc8 hb8 hj8)
    | (go_at_call 18
       have hc9 := ints_any _ _ _ _ _ _ l q w8 (HL.out.below hB8) (HQ.out.below hB8)
       skip
       skip
       skip
       skip
       (with_reducible refine hc9.mono ?_)
       rintro e w9 ⟨rfl, j9, hj9⟩
       have hb9 : Below w8.heap.size w8 w9 := by rw [hj9]; exact below_drewN (Below.refl _ _) j9
       have hB9 : Below W1.heap.size W1 w9 := hB8.trans (hb9.mono hB8.size)
       obtain ⟨x90, x91, x92⟩ := (HBX.out.keep hB9).cells
       obtain ⟨g90, g91, g92⟩ := (HX8.out.keep hb9).cells
       obtain ⟨i90, i91, i92⟩ := (HY8.out.keep hb9).cells
       have HX9 := Lib.hid (HX8.out.keep hb9)
       have HY9 := Lib.hid (HY8.out.keep hb9)
       have HI59 := Lib.hid (HI58.out.later hb9)
       have HI69 := Lib.hid (HI68.out.later hb9)
       clear hc9 hb9 hj9 )
    | (go_at_call 13
       have hc12 := unrow_any _ t k n A m c w9 (HT.out.below (TWO.out.trans (hB9.mono TWO.out.size)))
       rw [HE.out] at hc12
       (with_reducible refine hc12.mono ?_)
       intro e w12 hup
       obtain ⟨A12, m12, c12, rfl, hi12, hb12⟩ := un_row HH.out hup
       have hB12 : Below W1.heap.size W1 w12 := hB9.trans (hb12.mono hB9.size)
       have HI12 := Lib.hid hi12
       clear hc12 hup hi12 hb12)
    | (go_at_call 11
       have hc13 := row_any A12 m12 c12 l0 w12 HI12.out
       rw [rowR, HH.out, if_pos rfl, ← HE.out] at hc13
       (with_reducible refine hc13.mono ?_)
       rintro e w13 ⟨k13, n13, A13, m13, c13, rfl, hI13, hb13⟩
       have hB13 : Below W1.heap.size W1 w13 := hB12.trans (hb13.mono hB12.size)
       obtain ⟨x130, x131, x132⟩ := (HBX.out.keep hB13).cells
       have ho13 := one_alloc w13 (.cells #[.int .i64 k13, .int .i64 n13, .slice A13 m13 c13] 24)
       have hB13a : Below W1.heap.size W1 (w13.alloc (.cells #[.int .i64 k13, .int .i64 n13, .slice A13 m13 c13] 24)) := hB13.trans (ho13.mono hB13.size)
       have HI13 := Lib.hid (hI13.later ho13)
       obtain ⟨z0, z1, z2⟩ := (HBX.out.keep hB13a).cells
       clear ho13 hI13
       clear hc13 hb13)
    | (go_at_call 24
       have hc14 := psame_any _ _ t t k13 n13 k n A13 A m13 c13 m c (w13.alloc (.cells #[.int .i64 k13, .int .i64 n13, .slice A13 m13 c13] 24)) HI13.out (HT.out.below (TWO.out.trans (hB13a.mono TWO.out.size)))
       rw [Te.same_refl] at hc14
       (with_reducible refine hc14.mono ?_)
       rintro e w14 ⟨rfl, hb14⟩
       have hB14 : Below W1.heap.size W1 w14 := hB13a.trans (hb14.mono hB13a.size)
       obtain ⟨x140, x141, x142⟩ := (HBX.out.keep hB14).cells
       clear hc14 hb14))
  go_ret
  exact ⟨rfl, TWO.out.trans (hB14.mono TWO.out.size)⟩

set_option maxRecDepth 100000 in
set_option maxHeartbeats 8000000 in
theorem rowl_fn (t : Te) (k n : Int) (A : Option Addr) (m c : Nat) (B D : Option Addr) (N d M e' : Nat) (l q : List Int) (w : World) (hI : Is (· < w.heap.size) w t k n A m c) (hl : Its .i64 w B N d l) (hq : Its .i64 w D M e' q) (hlt : lightB t 150 20 = true) (hN : N ≤ 20) (hM : M ≤ 20) (his : rowB l = false) (hh : ∀ l', rowB l' = true → t ≠ rowT l') :
    Calls Try.prog 5 #[.slice B N d, .slice D M e', .agg #[.int .i64 k, .int .i64 n, .slice A m c]] w (GivesB true w) := by
  have two := one_alloc w (.cells #[.int .i64 k, .int .i64 n, .slice A m c] 24)
  have hbx := Box3.new w k n A m c
  obtain ⟨W1, hW1⟩ : ∃ W1, w.alloc (.cells #[.int .i64 k, .int .i64 n, .slice A m c] 24) = W1 := ⟨_, rfl⟩
  rw [hW1] at two hbx
  have hN20 : decide ((20 : Int) < N) = false := decide_eq_false (by omega)
  have hM20 : decide ((20 : Int) < M) = false := decide_eq_false (by omega)
  have hlW := hl.below two
  have hqW := hq.below two
  have TWO := Lib.hid two
  have HW1 := Lib.hid hW1
  have HBX := Lib.hid hbx
  have HT := Lib.hid hI
  have HL := Lib.hid hlW
  have HQ := Lib.hid hqW
  have HLT := Lib.hid hlt
  have HIS := Lib.hid his
  skip
  have HH := Lib.hid hh
  skip
  have hB1 := Below.refl W1.heap.size W1
  clear two hbx hW1 hI hl hq hlW hqW hlt his hh  
  go_enter Try.func5, Try.ntmps5
  go_wp2_with (first
    | (go_at_call 9
       rw [HW1.out]
       have hc3 := tawake_any W1
       (with_reducible refine hc3.mono ?_)
       rintro e w3 ⟨rfl, hb3⟩
       have hB3 : Below W1.heap.size W1 w3 := hB1.trans (hb3.mono hB1.size)
       obtain ⟨x30, x31, x32⟩ := (HBX.out.keep hB3).cells
       clear hc3 hb3)
    | (go_at_call 10
       have hc4 := light_any _ t k n A m c w3 (HT.out.below (TWO.out.trans (hB3.mono TWO.out.size)))
       rw [HLT.out] at hc4
       (with_reducible refine hc4.mono ?_)
       rintro e w4 ⟨rfl, hb4⟩
       have hB4 : Below W1.heap.size W1 w4 := hB3.trans (hb4.mono hB3.size)
       obtain ⟨x40, x41, x42⟩ := (HBX.out.keep hB4).cells
       clear hc4 hb4)
    | (go_at_call 11
       have hc5 := row_any B N d l w4 (HL.out.below hB4)
       rw [rowR_no HIS.out, HIS.out] at hc5
       (with_reducible refine hc5.mono ?_)
       rintro e w5 ⟨k5, n5, A5, m5, c5, rfl, hI5, hb5⟩
       have hB5 : Below W1.heap.size W1 w5 := hB4.trans (hb5.mono hB4.size)
       obtain ⟨x50, x51, x52⟩ := (HBX.out.keep hB5).cells
       have ho5 := one_alloc w5 (.cells #[.int .i64 k5, .int .i64 n5, .slice A5 m5 c5] 24)
       have hB5a : Below W1.heap.size W1 (w5.alloc (.cells #[.int .i64 k5, .int .i64 n5, .slice A5 m5 c5] 24)) := hB5.trans (ho5.mono hB5.size)
       have HX5 := Lib.hid (Box3.new w5 k5 n5 A5 m5 c5)
       have HI5 := Lib.hid (hI5.later ho5)
       clear ho5 hI5
       clear hc5 hb5)
    | (go_at_call 11
       have hc6 := row_any D M e' q (w5.alloc (.cells #[.int .i64 k5, .int .i64 n5, .slice A5 m5 c5] 24)) (HQ.out.below hB5a)
       (with_reducible refine hc6.mono ?_)
       rintro e w6 ⟨k6, n6, A6, m6, c6, rfl, hI6, hb6⟩
       have hB6 : Below W1.heap.size W1 w6 := hB5a.trans (hb6.mono hB5a.size)
       obtain ⟨x60, x61, x62⟩ := (HBX.out.keep hB6).cells
       have ho6 := one_alloc w6 (.cells #[.int .i64 k6, .int .i64 n6, .slice A6 m6 c6] 24)
       have hB6a : Below W1.heap.size W1 (w6.alloc (.cells #[.int .i64 k6, .int .i64 n6, .slice A6 m6 c6] 24)) := hB6.trans (ho6.mono hB6.size)
       have hx6 := (HX5.out.keep hb6).keep ho6
       obtain ⟨a0, a1, a2⟩ := hx6.cells
       have HX6 := Lib.hid hx6
       have HY6 := Lib.hid (Box3.new w6 k6 n6 A6 m6 c6)
       have HI56 := Lib.hid ((HI5.out.later hb6).later ho6)
       have HI6 := Lib.hid (hI6.later ho6)
       clear ho6 hI6 hx6
       clear hc6 hb6)
    | (go_at_call 13
       have hc7 := unrow_any _ (Te.node 0 0 []) k5 n5 A5 m5 c5 (w6.alloc (.cells #[.int .i64 k6, .int .i64 n6, .slice A6 m6 c6] 24)) HI56.out
       (with_reducible refine hc7.mono ?_)
       rintro e w7 ⟨b7, l7, A7, m7, c7, rfl, hi7, hb7, _, _⟩
       have hB7 : Below W1.heap.size W1 w7 := hB6a.trans (hb7.mono hB6a.size)
       have HX7 := Lib.hid (HX6.out.keep hb7)
       have HY7 := Lib.hid (HY6.out.keep hb7)
       have HI57 := Lib.hid (HI56.out.later hb7)
       have HI67 := Lib.hid (HI6.out.later hb7)
       have HI7 := Lib.hid hi7
       clear hc7 hi7 hb7)
    | (go_at_call 18
       have hc8 := ints_any _ _ _ _ _ _ l7 l w7 HI7.out (HL.out.below hB7)
       skip
       (with_reducible refine hc8.mono ?_)
       rintro e w8 ⟨rfl, j8, hj8⟩
       have hb8 : Below w7.heap.size w7 w8 := by rw [hj8]; exact below_drewN (Below.refl _ _) j8
       have hB8 : Below W1.heap.size W1 w8 := hB7.trans (hb8.mono hB7.size)
       have HX8 := Lib.hid (HX7.out.keep hb8)
       have HY8 := Lib.hid (HY7.out.keep hb8)
       have HI58 := Lib.hid (HI57.out.later hb8)
       have HI68 := Lib.hid (HI67.out.later hb8)
       clear hc8 hb8 hj8)
    | (go_at_call 18
       have hc9 := ints_any _ _ _ _ _ _ l q w8 (HL.out.below hB8) (HQ.out.below hB8)
       skip
       skip
       skip
       skip
       (with_reducible refine hc9.mono ?_)
       rintro e w9 ⟨rfl, j9, hj9⟩
       have hb9 : Below w8.heap.size w8 w9 := by rw [hj9]; exact below_drewN (Below.refl _ _) j9
       have hB9 : Below W1.heap.size W1 w9 := hB8.trans (hb9.mono hB8.size)
       obtain ⟨x90, x91, x92⟩ := (HBX.out.keep hB9).cells
       obtain ⟨g90, g91, g92⟩ := (HX8.out.keep hb9).cells
       obtain ⟨i90, i91, i92⟩ := (HY8.out.keep hb9).cells
       have HX9 := Lib.hid (HX8.out.keep hb9)
       have HY9 := Lib.hid (HY8.out.keep hb9)
       have HI59 := Lib.hid (HI58.out.later hb9)
       have HI69 := Lib.hid (HI68.out.later hb9)
       clear hc9 hb9 hj9 )
    | (go_at_call 13
       have hc12 := unrow_any _ t k n A m c w9 (HT.out.below (TWO.out.trans (hB9.mono TWO.out.size)))
       (with_reducible refine hc12.mono ?_)
       intro e w12 hup
       obtain ⟨A12, m12, c12, rfl, hi12, hb12⟩ := un_none HH.out hup
       have hB12 : Below W1.heap.size W1 w12 := hB9.trans (hb12.mono hB9.size)
       have HI12 := Lib.hid hi12
       clear hc12 hup hi12 hb12)
    | (go_at_call 11
       have hc13 := row_any A12 m12 c12 [] w12 HI12.out
       skip
       (with_reducible refine hc13.mono ?_)
       rintro e w13 ⟨k13, n13, A13, m13, c13, rfl, hI13, hb13⟩
       have hB13 : Below W1.heap.size W1 w13 := hB12.trans (hb13.mono hB12.size)
       obtain ⟨x130, x131, x132⟩ := (HBX.out.keep hB13).cells
       have ho13 := one_alloc w13 (.cells #[.int .i64 k13, .int .i64 n13, .slice A13 m13 c13] 24)
       have hB13a : Below W1.heap.size W1 (w13.alloc (.cells #[.int .i64 k13, .int .i64 n13, .slice A13 m13 c13] 24)) := hB13.trans (ho13.mono hB13.size)
       have HI13 := Lib.hid (hI13.later ho13)
       obtain ⟨z0, z1, z2⟩ := (HBX.out.keep hB13a).cells
       clear ho13 hI13
       clear hc13 hb13))
  go_ret
  exact ⟨rfl, TWO.out.trans (hB13a.mono TWO.out.size)⟩

set_option maxHeartbeats 2000000 in
theorem rowl_any (t : Te) (k n : Int) (A : Option Addr) (m c : Nat) (B D : Option Addr) (N d M e' : Nat) (l q : List Int) (w : World) (hI : Is (· < w.heap.size) w t k n A m c) (hl : Its .i64 w B N d l) (hq : Its .i64 w D M e' q) :
    Calls Try.prog 5 #[.slice B N d, .slice D M e', .agg #[.int .i64 k, .int .i64 n, .slice A m c]] w (GivesB true w) := by
  by_cases hgo : lightB t 150 20 = true ∧ N ≤ 20 ∧ M ≤ 20
  · obtain ⟨hlt, hN, hM⟩ := hgo
    by_cases hh : ∃ l0, rowB l0 = true ∧ t = rowT l0
    · obtain ⟨l0, h1, h2⟩ := hh
      cases his : rowB l with
      | false => exact rowl_fh t k n A m c B D N d M e' l q w hI hl hq hlt hN hM his l0 h1 h2
      | true =>
        cases hcan : rowB q with
        | false => exact rowl_tfh t k n A m c B D N d M e' l q w hI hl hq hlt hN hM his hcan l0 h1 h2
        | true => exact rowl_tth t k n A m c B D N d M e' l q w hI hl hq hlt hN hM his hcan l0 h1 h2
    · have hn : ∀ l', rowB l' = true → t ≠ rowT l' := fun l' h1 h2 => hh ⟨l', h1, h2⟩
      cases his : rowB l with
      | false => exact rowl_fn t k n A m c B D N d M e' l q w hI hl hq hlt hN hM his hn
      | true =>
        cases hcan : rowB q with
        | false => exact rowl_tfn t k n A m c B D N d M e' l q w hI hl hq hlt hN hM his hcan hn
        | true => exact rowl_ttn t k n A m c B D N d M e' l q w hI hl hq hlt hN hM his hcan hn
  · have two := one_alloc w (.cells #[.int .i64 k, .int .i64 n, .slice A m c] 24)
    have hbx := Box3.new w k n A m c
    obtain ⟨W1, hW1⟩ : ∃ W1, w.alloc (.cells #[.int .i64 k, .int .i64 n, .slice A m c] 24) = W1 := ⟨_, rfl⟩
    rw [hW1] at two hbx
    have hN63 := hl.small
    have hM63 := hq.small
    have TWO := Lib.hid two
    have HW1 := Lib.hid hW1
    have HBX := Lib.hid hbx
    have HT := Lib.hid hI
    obtain ⟨lb, hlb⟩ : ∃ b, lightB t 150 20 = b := ⟨_, rfl⟩
    obtain ⟨nb, hnb⟩ : ∃ b, decide ((20 : Int) < N) = b := ⟨_, rfl⟩
    obtain ⟨mb, hmb⟩ : ∃ b, decide ((20 : Int) < M) = b := ⟨_, rfl⟩
    have hex : lb = false ∨ nb = true ∨ mb = true := by
      by_cases h1 : lb = false
      · exact .inl h1
      · have h1' : lb = true := by simpa using h1
        by_cases h2 : N ≤ 20
        · by_cases h3 : M ≤ 20
          · exact absurd ⟨hlb.trans h1', h2, h3⟩ hgo
          · exact .inr (.inr (by rw [← hmb]; exact decide_eq_true (by omega)))
        · exact .inr (.inl (by rw [← hnb]; exact decide_eq_true (by omega)))
    have HLB := Lib.hid hlb
    clear two hbx hW1 hI hgo hl hq hlb
    cases lb <;> cases nb <;> cases mb
    all_goals first
      | (exfalso; rcases hex with h | h | h <;> exact absurd h (by decide))
      | (clear hex
         go_enter Try.func5, Try.ntmps5
         go_wp2_with (first
           | (go_at_call 9
              rw [HW1.out]
              refine (tawake_any W1).mono ?_
              rintro e w3 ⟨rfl, hb3⟩
              obtain ⟨x0, x1, x2⟩ := (HBX.out.keep hb3).cells
              have HB3 := Lib.hid hb3
              clear hb3)
           | (go_at_call 10
              have hc4 := light_any _ t k n A m c w3 (HT.out.below (TWO.out.trans (HB3.out.mono TWO.out.size)))
              rw [HLB.out] at hc4
              refine hc4.mono ?_
              rintro e w4 ⟨rfl, hb4⟩
              have HB4 := Lib.hid (HB3.out.trans (hb4.mono HB3.out.size))
              clear hb4 hc4))
         go_ret
         exact ⟨rfl, TWO.out.trans (HB4.out.mono TWO.out.size)⟩)
end Go.Proofs.Ytgldbjlifcfjlaa
