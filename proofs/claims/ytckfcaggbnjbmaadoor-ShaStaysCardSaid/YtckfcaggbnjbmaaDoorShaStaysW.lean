/- The walk over the law ShaStays: what may be stays so; what may not be, or would be too long, is zero. -/
import Derived.Test.YtckfcaggbnjbmaaDoorShaAwake
import Derived.Test.YtckfcaggbnjbmaaDoorShaEq
namespace Go.Proofs.YtckfcaggbnjbmaaDoor
open Go.RowKit

set_option maxHeartbeats 400000 in
theorem stays_few (x0 x1 x2 x3 x4 x5 x6 x7 len : Int) (A B : Option Addr) (n c m d : Nat) (w : World) (hK : KTab w) (hn : n ≤ 9223372036854775807) (hm : m ≤ 9223372036854775807) (h : 100 < n ∨ 300 < m) :
    Calls Tryd.prog 5 #[hashV x0 x1 x2 x3 x4 x5 x6 x7 A n c len, .slice B m d] w fun e w' => e = .returned (.bool true) ∧ Below w.heap.size w w' := by
  by_cases hf : (n : Int) ≤ 100
  · have hm3 : 300 < (m : Int) := by omega
    clear h
    go_enter Tryd.func5, Tryd.ntmps5
    go_wp2_with fail
    refine (awake_any _ (hK.from ((Below.refl _ _).alloc (Nat.le_refl _) _))).mono ?_
    rintro e w1 ⟨rfl, hb1⟩
    obtain ⟨hB1, _, hX1⟩ := after_one hb1
    obtain ⟨b0, b1, b2, b3, b4, b5, b6, b7, b8, b9⟩ := box_cells hX1
    clear hb1 hX1
    go_wp2_with (go_at_call 10; refine (few_any _ _ _ _ _ _ _ _ _ _ _ _ _ hn).mono ?_; rintro e w0 ⟨rfl, rfl⟩)
    go_ret
    exact ⟨rfl, hB1.alloc hB1.size _⟩
  · clear h
    go_enter Tryd.func5, Tryd.ntmps5
    go_wp2_with fail
    refine (awake_any _ (hK.from ((Below.refl _ _).alloc (Nat.le_refl _) _))).mono ?_
    rintro e w1 ⟨rfl, hb1⟩
    obtain ⟨hB1, _, hX1⟩ := after_one hb1
    obtain ⟨b0, b1, b2, b3, b4, b5, b6, b7, b8, b9⟩ := box_cells hX1
    clear hb1 hX1
    go_wp2_with (go_at_call 10; refine (few_any _ _ _ _ _ _ _ _ _ _ _ _ _ hn).mono ?_; rintro e w0 ⟨rfl, rfl⟩)
    go_ret
    exact ⟨rfl, hB1.alloc hB1.size _⟩

set_option maxHeartbeats 400000 in
theorem stays_zero_may (x0 x1 x2 x3 x4 x5 x6 x7 len : Int) (A B : Option Addr) (n c m d : Nat) (w : World) (hK : KTab w) (hn : n ≤ 100) (hm : m ≤ 300) (hmay : mayB n len = false) :
    Calls Tryd.prog 5 #[hashV x0 x1 x2 x3 x4 x5 x6 x7 A n c len, .slice B m d] w fun e w' => e = .returned (.bool true) ∧ Below w.heap.size w w' := by
  have hf : (n : Int) ≤ 100 := by omega
  have hm3 : (m : Int) ≤ 300 := by omega
  have hn0 : n ≤ 9223372036854775807 := by omega
  go_enter Tryd.func5, Tryd.ntmps5
  go_wp2_with fail
  refine (awake_any _ (hK.from ((Below.refl _ _).alloc (Nat.le_refl _) _))).mono ?_
  rintro e w1 ⟨rfl, hb1⟩
  obtain ⟨hB1, _, hX1⟩ := after_one hb1
  have hbe : BoxAt w1 w.heap.size x0 x1 x2 x3 x4 x5 x6 x7 A n c len := hX1
  obtain ⟨b0, b1, b2, b3, b4, b5, b6, b7, b8, b9⟩ := BoxAt.cells hbe
  have hz1 : w.heap.size < w1.heap.size := (Array.getElem?_eq_some_iff.1 hbe).1
  clear hb1 hX1
  go_wp2_with (go_at_call 10; refine (few_any _ _ _ _ _ _ _ _ _ _ _ _ _ hn0).mono ?_; rintro e w0 ⟨rfl, rfl⟩)
  refine (add_zero_may _ _ _ _ _ _ _ _ _ _ _ _ _ _ _ _ hmay).mono ?_
  rintro e w2 ⟨rfl, hb2⟩
  obtain ⟨hb2, _, _⟩ := after_one hb2
  have hbe2 := hbe.below hb2
  have hB2 := hB1.trans (hb2.mono hB1.size)
  clear b0 b1 b2 b3 b4 b5 b6 b7 b8 b9 hbe hb2
  obtain ⟨b0, b1, b2, b3, b4, b5, b6, b7, b8, b9⟩ := BoxAt.cells hbe2
  have hz2 : w.heap.size < w2.heap.size := (Array.getElem?_eq_some_iff.1 hbe2).1
  have heq := eq8
  go_wp2_with (go_at_call 17; refine (may_any _ _ _ _ _ _ _ _ _ _ _ _ _).mono ?_; rintro e w0 ⟨rfl, rfl⟩)
  go_ret
  exact ⟨rfl, (hB2.alloc hB2.size _).alloc (Nat.le_trans hB2.size (size_le_alloc _ _)) _⟩

set_option maxHeartbeats 400000 in
theorem stays_zero_room (x0 x1 x2 x3 x4 x5 x6 x7 len : Int) (A B : Option Addr) (n c m d : Nat) (w : World) (hK : KTab w) (hn : n ≤ 100) (hm : m ≤ 300) (hmay : mayB n len = true) (hroom : 1048576 - len < (m : Int)) :
    Calls Tryd.prog 5 #[hashV x0 x1 x2 x3 x4 x5 x6 x7 A n c len, .slice B m d] w fun e w' => e = .returned (.bool true) ∧ Below w.heap.size w w' := by
  have hf : (n : Int) ≤ 100 := by omega
  have hm3 : (m : Int) ≤ 300 := by omega
  have hn0 : n ≤ 9223372036854775807 := by omega
  have hgt : 1048576 - (m : Int) < len := by omega
  obtain ⟨g0, g1, g2⟩ := mayB_yes hmay
  have G2 := Lib.hid g2
  clear g2
  go_enter Tryd.func5, Tryd.ntmps5
  go_wp2_with fail
  refine (awake_any _ (hK.from ((Below.refl _ _).alloc (Nat.le_refl _) _))).mono ?_
  rintro e w1 ⟨rfl, hb1⟩
  obtain ⟨hB1, _, hX1⟩ := after_one hb1
  have hbe : BoxAt w1 w.heap.size x0 x1 x2 x3 x4 x5 x6 x7 A n c len := hX1
  obtain ⟨b0, b1, b2, b3, b4, b5, b6, b7, b8, b9⟩ := BoxAt.cells hbe
  have hz1 : w.heap.size < w1.heap.size := (Array.getElem?_eq_some_iff.1 hbe).1
  clear hb1 hX1
  go_wp2_with (go_at_call 10; refine (few_any _ _ _ _ _ _ _ _ _ _ _ _ _ hn0).mono ?_; rintro e w0 ⟨rfl, rfl⟩)
  refine (add_zero_room _ _ _ _ _ _ _ _ _ _ _ _ _ _ _ _ hmay (by omega) hroom).mono ?_
  rintro e w2 ⟨rfl, hb2⟩
  obtain ⟨hb2, _, _⟩ := after_one hb2
  have hbe2 := hbe.below hb2
  have hB2 := hB1.trans (hb2.mono hB1.size)
  clear b0 b1 b2 b3 b4 b5 b6 b7 b8 b9 hbe hb2
  obtain ⟨b0, b1, b2, b3, b4, b5, b6, b7, b8, b9⟩ := BoxAt.cells hbe2
  have hz2 : w.heap.size < w2.heap.size := (Array.getElem?_eq_some_iff.1 hbe2).1
  have heq := eq8
  go_wp2_with (go_at_call 17; refine (may_any _ _ _ _ _ _ _ _ _ _ _ _ _).mono ?_; rintro e w0 ⟨rfl, rfl⟩)
  go_ret
  exact ⟨rfl, (hB2.alloc hB2.size _).alloc (Nat.le_trans hB2.size (size_le_alloc _ _)) _⟩

set_option maxHeartbeats 400000 in
theorem stays_good (x0 x1 x2 x3 x4 x5 x6 x7 len : Int) (A B : Option Addr) (n c m d : Nat) (rest b : List Int) (w : World) (hK : KTab w) (hn : n ≤ 100) (hm : m ≤ 300) (hmay : mayB n len = true) (hroom : (m : Int) ≤ 1048576 - len) (ha : Bts w A n c rest) (hb : Bts w B m d b) :
    Calls Tryd.prog 5 #[hashV x0 x1 x2 x3 x4 x5 x6 x7 A n c len, .slice B m d] w fun e w' => e = .returned (.bool true) ∧ Below w.heap.size w w' := by
  have hf : (n : Int) ≤ 100 := by omega
  have hm3 : (m : Int) ≤ 300 := by omega
  have hn0 : n ≤ 9223372036854775807 := by omega
  have hgt : len ≤ 1048576 - (m : Int) := by omega
  obtain ⟨g0, g1, g2⟩ := mayB_yes hmay
  have G2 := Lib.hid g2
  clear g2
  go_enter Tryd.func5, Tryd.ntmps5
  go_wp2_with fail
  refine (awake_any _ (hK.from ((Below.refl _ _).alloc (Nat.le_refl _) _))).mono ?_
  rintro e w1 ⟨rfl, hb1⟩
  obtain ⟨hB1, _, hX1⟩ := after_one hb1
  have hbe : BoxAt w1 w.heap.size x0 x1 x2 x3 x4 x5 x6 x7 A n c len := hX1
  obtain ⟨b0, b1, b2, b3, b4, b5, b6, b7, b8, b9⟩ := BoxAt.cells hbe
  have hz1 : w.heap.size < w1.heap.size := (Array.getElem?_eq_some_iff.1 hbe).1
  clear hb1 hX1
  go_wp2_with (go_at_call 10; refine (few_any _ _ _ _ _ _ _ _ _ _ _ _ _ hn0).mono ?_; rintro e w0 ⟨rfl, rfl⟩)
  have hBf := hB1.alloc hB1.size (.cells #[.int .u32 x0, .int .u32 x1, .int .u32 x2, .int .u32 x3, .int .u32 x4, .int .u32 x5, .int .u32 x6, .int .u32 x7, .slice A n c, .int .i64 len] 26)
  refine (add_yes _ _ _ _ _ _ _ _ _ _ _ _ _ _ _ rest b _ (hK.from hBf) hmay hroom (ha.below hBf) (hb.below hBf)).mono ?_
  rintro e w2 ⟨y0, y1, y2, y3, y4, y5, y6, y7, A3, n3, c3, rfl, hY, hbt, hb2⟩
  obtain ⟨hb2, _, _⟩ := after_one hb2
  have hbe2 := hbe.below hb2
  have hB2 := hB1.trans (hb2.mono hB1.size)
  have hlen3 : n3 = (n + m) % 64 := by
    have h1 := hbt.len
    rw [List.length_drop, whole, List.length_append, ha.len, hb.len] at h1
    omega
  have hr3 : (n3 : Int) = (len + (m : Int)) % 64 := by have := G2.out; omega
  have hmay3 : mayB n3 (len + (m : Int)) = true := by
    unfold mayB
    rw [decide_eq_true_eq]
    omega
  have ht : ((n3 : Int) == (len + (m : Int)) % 64) = true := by rw [beq_iff_eq]; exact hr3
  clear b0 b1 b2 b3 b4 b5 b6 b7 b8 b9 hbe hb2 hY hlen3 hr3 hBf
  obtain ⟨b0, b1, b2, b3, b4, b5, b6, b7, b8, b9⟩ := BoxAt.cells hbe2
  have hz2 : w.heap.size < w2.heap.size := (Array.getElem?_eq_some_iff.1 hbe2).1
  have hz3 : w.heap.size < w2.heap.size + 1 := by omega
  have hz4 : w.heap.size < w2.heap.size + 1 + 1 := by omega
  go_wp2_with (go_at_call 17; refine (may_any _ _ _ _ _ _ _ _ _ _ _ _ _).mono ?_; rintro e w0 ⟨rfl, rfl⟩)
  go_ret
  exact ⟨rfl, ((hB2.alloc hB2.size _).alloc (Nat.le_trans hB2.size (size_le_alloc _ _)) _).alloc (Nat.le_trans (Nat.le_trans hB2.size (size_le_alloc _ _)) (size_le_alloc _ _)) _⟩

/-- the law, whatever comes in -/
theorem stays_any (x0 x1 x2 x3 x4 x5 x6 x7 len : Int) (A B : Option Addr) (n c m d : Nat) (rest b : List Int) (w : World) (hK : KTab w) (ha : Bts w A n c rest) (hb : Bts w B m d b) :
    Calls Tryd.prog 5 #[hashV x0 x1 x2 x3 x4 x5 x6 x7 A n c len, .slice B m d] w fun e w' => e = .returned (.bool true) ∧ Below w.heap.size w w' := by
  have hn : n ≤ 9223372036854775807 := Nat.le_trans ha.le ha.max
  have hm : m ≤ 9223372036854775807 := Nat.le_trans hb.le hb.max
  by_cases h : 100 < n ∨ 300 < m
  · exact stays_few x0 x1 x2 x3 x4 x5 x6 x7 len A B n c m d w hK hn hm h
  · have hn1 : n ≤ 100 := by omega
    have hm1 : m ≤ 300 := by omega
    cases hmay : mayB n len with
    | false => exact stays_zero_may x0 x1 x2 x3 x4 x5 x6 x7 len A B n c m d w hK hn1 hm1 hmay
    | true =>
      by_cases hroom : (m : Int) ≤ 1048576 - len
      · exact stays_good x0 x1 x2 x3 x4 x5 x6 x7 len A B n c m d rest b w hK hn1 hm1 hmay hroom ha hb
      · exact stays_zero_room x0 x1 x2 x3 x4 x5 x6 x7 len A B n c m d w hK hn1 hm1 hmay (by omega)
end Go.Proofs.YtckfcaggbnjbmaaDoor
