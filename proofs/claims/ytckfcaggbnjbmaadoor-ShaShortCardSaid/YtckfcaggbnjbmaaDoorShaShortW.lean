/- The walk over the law ShaShort: below 64 bytes nothing is rounded. -/
import Derived.Test.YtckfcaggbnjbmaaDoorShaAwake
import Derived.Test.YtckfcaggbnjbmaaDoorShaEq
import Derived.Test.YtckfcaggbnjbmaaDoorShaStr
namespace Go.Proofs.YtckfcaggbnjbmaaDoor
open Go.RowKit

set_option maxHeartbeats 400000 in
theorem short_few (x0 x1 x2 x3 x4 x5 x6 x7 len : Int) (A B : Option Addr) (n c m d : Nat) (w : World) (hK : KTab w) (hn0 : n ≤ 9223372036854775807) (h : 100 < n) :
    Calls Tryd.prog 7 #[hashV x0 x1 x2 x3 x4 x5 x6 x7 A n c len, .slice B m d] w fun e w' => e = .returned (.bool true) ∧ Below w.heap.size w w' := by
  have hf : 100 < (n : Int) := by omega
  clear h
  go_enter Tryd.func7, Tryd.ntmps7
  go_wp2_with fail
  refine (awake_any _ (hK.from ((Below.refl _ _).alloc (Nat.le_refl _) _))).mono ?_
  rintro e w1 ⟨rfl, hb1⟩
  obtain ⟨hB1, _, hX1⟩ := after_one hb1
  have hbe : BoxAt w1 w.heap.size x0 x1 x2 x3 x4 x5 x6 x7 A n c len := hX1
  obtain ⟨b0, b1, b2, b3, b4, b5, b6, b7, b8, b9⟩ := BoxAt.cells hbe
  have hz1 : w.heap.size < w1.heap.size := (Array.getElem?_eq_some_iff.1 hbe).1
  have hz1a : w.heap.size < w1.heap.size + 1 := by omega
  have hz1b : w.heap.size < w1.heap.size + 1 + 1 := by omega
  clear hb1 hX1
  go_wp2_with (first
    | (go_at_call 10; refine (few_any _ _ _ _ _ _ _ _ _ _ _ _ _ hn0).mono ?_; rintro e w0 ⟨rfl, rfl⟩)
    | (go_at_call 17; refine (may_any _ _ _ _ _ _ _ _ _ _ _ _ _).mono ?_; rintro e w0 ⟨rfl, rfl⟩))
  go_ret
  exact ⟨rfl, hB1.alloc hB1.size _⟩

set_option maxHeartbeats 400000 in
theorem short_may (x0 x1 x2 x3 x4 x5 x6 x7 len : Int) (A B : Option Addr) (n c m d : Nat) (w : World) (hK : KTab w) (hn : n ≤ 100) (_hm0 : m ≤ 9223372036854775807) (hmay : mayB n len = false) :
    Calls Tryd.prog 7 #[hashV x0 x1 x2 x3 x4 x5 x6 x7 A n c len, .slice B m d] w fun e w' => e = .returned (.bool true) ∧ Below w.heap.size w w' := by
  have hf : (n : Int) ≤ 100 := by omega
  have hn0 : n ≤ 9223372036854775807 := by omega
  go_enter Tryd.func7, Tryd.ntmps7
  go_wp2_with fail
  refine (awake_any _ (hK.from ((Below.refl _ _).alloc (Nat.le_refl _) _))).mono ?_
  rintro e w1 ⟨rfl, hb1⟩
  obtain ⟨hB1, _, hX1⟩ := after_one hb1
  have hbe : BoxAt w1 w.heap.size x0 x1 x2 x3 x4 x5 x6 x7 A n c len := hX1
  obtain ⟨b0, b1, b2, b3, b4, b5, b6, b7, b8, b9⟩ := BoxAt.cells hbe
  have hz1 : w.heap.size < w1.heap.size := (Array.getElem?_eq_some_iff.1 hbe).1
  have hz1a : w.heap.size < w1.heap.size + 1 := by omega
  have hz1b : w.heap.size < w1.heap.size + 1 + 1 := by omega
  clear hb1 hX1
  go_wp2_with (first
    | (go_at_call 10; refine (few_any _ _ _ _ _ _ _ _ _ _ _ _ _ hn0).mono ?_; rintro e w0 ⟨rfl, rfl⟩)
    | (go_at_call 17; refine (may_any _ _ _ _ _ _ _ _ _ _ _ _ _).mono ?_; rintro e w0 ⟨rfl, rfl⟩))
  go_ret
  exact ⟨rfl, (hB1.alloc hB1.size _).alloc (Nat.le_trans hB1.size (size_le_alloc _ _)) _⟩

set_option maxHeartbeats 400000 in
theorem short_room (x0 x1 x2 x3 x4 x5 x6 x7 len : Int) (A B : Option Addr) (n c m d : Nat) (w : World) (hK : KTab w) (hn : n ≤ 100) (_hm0 : m ≤ 9223372036854775807) (hmay : mayB n len = true) (hroom : 63 - (n : Int) < (m : Int)) :
    Calls Tryd.prog 7 #[hashV x0 x1 x2 x3 x4 x5 x6 x7 A n c len, .slice B m d] w fun e w' => e = .returned (.bool true) ∧ Below w.heap.size w w' := by
  have hf : (n : Int) ≤ 100 := by omega
  have hn0 : n ≤ 9223372036854775807 := by omega
  go_enter Tryd.func7, Tryd.ntmps7
  go_wp2_with fail
  refine (awake_any _ (hK.from ((Below.refl _ _).alloc (Nat.le_refl _) _))).mono ?_
  rintro e w1 ⟨rfl, hb1⟩
  obtain ⟨hB1, _, hX1⟩ := after_one hb1
  have hbe : BoxAt w1 w.heap.size x0 x1 x2 x3 x4 x5 x6 x7 A n c len := hX1
  obtain ⟨b0, b1, b2, b3, b4, b5, b6, b7, b8, b9⟩ := BoxAt.cells hbe
  have hz1 : w.heap.size < w1.heap.size := (Array.getElem?_eq_some_iff.1 hbe).1
  have hz1a : w.heap.size < w1.heap.size + 1 := by omega
  have hz1b : w.heap.size < w1.heap.size + 1 + 1 := by omega
  clear hb1 hX1
  go_wp2_with (first
    | (go_at_call 10; refine (few_any _ _ _ _ _ _ _ _ _ _ _ _ _ hn0).mono ?_; rintro e w0 ⟨rfl, rfl⟩)
    | (go_at_call 17; refine (may_any _ _ _ _ _ _ _ _ _ _ _ _ _).mono ?_; rintro e w0 ⟨rfl, rfl⟩))
  go_ret
  exact ⟨rfl, (hB1.alloc hB1.size _).alloc (Nat.le_trans hB1.size (size_le_alloc _ _)) _⟩

set_option maxHeartbeats 400000 in
theorem short_late (x0 x1 x2 x3 x4 x5 x6 x7 len : Int) (A B : Option Addr) (n c m d : Nat) (w : World) (hK : KTab w) (hn : n ≤ 100) (_hm0 : m ≤ 9223372036854775807) (hmay : mayB n len = true) (hroom : (m : Int) ≤ 63 - (n : Int)) (hlen : 524288 < len) :
    Calls Tryd.prog 7 #[hashV x0 x1 x2 x3 x4 x5 x6 x7 A n c len, .slice B m d] w fun e w' => e = .returned (.bool true) ∧ Below w.heap.size w w' := by
  have hf : (n : Int) ≤ 100 := by omega
  have hn0 : n ≤ 9223372036854775807 := by omega
  go_enter Tryd.func7, Tryd.ntmps7
  go_wp2_with fail
  refine (awake_any _ (hK.from ((Below.refl _ _).alloc (Nat.le_refl _) _))).mono ?_
  rintro e w1 ⟨rfl, hb1⟩
  obtain ⟨hB1, _, hX1⟩ := after_one hb1
  have hbe : BoxAt w1 w.heap.size x0 x1 x2 x3 x4 x5 x6 x7 A n c len := hX1
  obtain ⟨b0, b1, b2, b3, b4, b5, b6, b7, b8, b9⟩ := BoxAt.cells hbe
  have hz1 : w.heap.size < w1.heap.size := (Array.getElem?_eq_some_iff.1 hbe).1
  have hz1a : w.heap.size < w1.heap.size + 1 := by omega
  have hz1b : w.heap.size < w1.heap.size + 1 + 1 := by omega
  clear hb1 hX1
  go_wp2_with (first
    | (go_at_call 10; refine (few_any _ _ _ _ _ _ _ _ _ _ _ _ _ hn0).mono ?_; rintro e w0 ⟨rfl, rfl⟩)
    | (go_at_call 17; refine (may_any _ _ _ _ _ _ _ _ _ _ _ _ _).mono ?_; rintro e w0 ⟨rfl, rfl⟩))
  go_ret
  exact ⟨rfl, (hB1.alloc hB1.size _).alloc (Nat.le_trans hB1.size (size_le_alloc _ _)) _⟩

set_option maxHeartbeats 400000 in
theorem short_good (x0 x1 x2 x3 x4 x5 x6 x7 len : Int) (A B : Option Addr) (n c m d : Nat) (rest b : List Int) (w : World) (hK : KTab w) (hmay : mayB n len = true) (hroom : (m : Int) ≤ 63 - (n : Int)) (hlen : len ≤ 524288) (ha : Bts w A n c rest) (hb : Bts w B m d b) :
    Calls Tryd.prog 7 #[hashV x0 x1 x2 x3 x4 x5 x6 x7 A n c len, .slice B m d] w fun e w' => e = .returned (.bool true) ∧ Below w.heap.size w w' := by
  obtain ⟨g0, g1, g2⟩ := mayB_yes hmay
  have hf : (n : Int) ≤ 100 := by omega
  have hn0 : n ≤ 9223372036854775807 := by omega
  have hm3 : (m : Int) ≤ 63 := by omega
  clear g2
  go_enter Tryd.func7, Tryd.ntmps7
  go_wp2_with fail
  refine (awake_any _ (hK.from ((Below.refl _ _).alloc (Nat.le_refl _) _))).mono ?_
  rintro e w1 ⟨rfl, hb1⟩
  obtain ⟨hB1, _, hX1⟩ := after_one hb1
  have hbe : BoxAt w1 w.heap.size x0 x1 x2 x3 x4 x5 x6 x7 A n c len := hX1
  obtain ⟨b0, b1, b2, b3, b4, b5, b6, b7, b8, b9⟩ := BoxAt.cells hbe
  have hz1 : w.heap.size < w1.heap.size := (Array.getElem?_eq_some_iff.1 hbe).1
  have hz1a : w.heap.size < w1.heap.size + 1 := by omega
  have hz1b : w.heap.size < w1.heap.size + 1 + 1 := by omega
  clear hb1 hX1
  go_wp2_with (first
    | (go_at_call 10; refine (few_any _ _ _ _ _ _ _ _ _ _ _ _ _ hn0).mono ?_; rintro e w0 ⟨rfl, rfl⟩)
    | (go_at_call 17; refine (may_any _ _ _ _ _ _ _ _ _ _ _ _ _).mono ?_; rintro e w0 ⟨rfl, rfl⟩))
  have hBf : Below w.heap.size w ((w1.alloc (.cells #[.int .u32 x0, .int .u32 x1, .int .u32 x2, .int .u32 x3, .int .u32 x4, .int .u32 x5, .int .u32 x6, .int .u32 x7, .slice A n c, .int .i64 len] 26)).alloc (.cells #[.int .u32 x0, .int .u32 x1, .int .u32 x2, .int .u32 x3, .int .u32 x4, .int .u32 x5, .int .u32 x6, .int .u32 x7, .slice A n c, .int .i64 len] 26)) :=
    (hB1.alloc hB1.size _).alloc (Nat.le_trans hB1.size (size_le_alloc _ _)) _
  refine (add_yes _ _ _ _ _ _ _ _ _ _ _ _ _ _ _ rest b _ (hK.from hBf) hmay (by omega) (ha.below hBf) (hb.below hBf)).mono ?_
  rintro e w2 ⟨y0, y1, y2, y3, y4, y5, y6, y7, A3, n3, c3, rfl, hY, hbt, hb2⟩
  obtain ⟨hb2, _, _, _⟩ := after_two hb2
  have hbe2 := hbe.below hb2
  have hB2 := hB1.trans (hb2.mono hB1.size)
  have hwh : whole (rest ++ b) = 0 := by
    rw [whole, List.length_append, ha.len, hb.len]; omega
  rw [hwh] at hY hbt
  rw [List.take_zero] at hY
  have hyx : [x0, x1, x2, x3, x4, x5, x6, x7] = [y0, y1, y2, y3, y4, y5, y6, y7] := hY
  simp only [List.cons.injEq, and_true] at hyx
  obtain ⟨rfl, rfl, rfl, rfl, rfl, rfl, rfl, rfl⟩ := hyx
  rw [List.drop_zero] at hbt
  have ha2 := ha.below hB2
  have hb2' := hb.below hB2
  have hcat := add_bstr rest b (by rw [ha.len]; omega) (by rw [hb.len]; omega)
  obtain ⟨s1, hs1⟩ : ∃ s, s = bstr rest := ⟨_, rfl⟩
  obtain ⟨s2, hs2⟩ : ∃ s, s = bstr b := ⟨_, rfl⟩
  obtain ⟨s3, hs3⟩ : ∃ s, s = bstr (rest ++ b) := ⟨_, rfl⟩
  have k1 : ∀ o, (convert 24 9 (.slice A n c)).run Tryd.prog (w2.alloc o) = .ok (.string s1) (w2.alloc o) := fun o => by rw [hs1]; exact conv_bts (ha2.more o)
  have k2 : ∀ o, (convert 24 9 (.slice B m d)).run Tryd.prog (w2.alloc o) = .ok (.string s2) (w2.alloc o) := fun o => by rw [hs2]; exact conv_bts (hb2'.more o)
  have k3 : ∀ o, (convert 24 9 (.slice A3 n3 c3)).run Tryd.prog (w2.alloc o) = .ok (.string s3) (w2.alloc o) := fun o => by rw [hs3]; exact conv_bts (hbt.more o)
  rw [← hs1, ← hs2, ← hs3] at hcat
  clear b0 b1 b2 b3 b4 b5 b6 b7 b8 b9 hbe hb2 hY hwh hs1 hs2 hs3 hBf hbt
  obtain ⟨b0, b1, b2, b3, b4, b5, b6, b7, b8, b9⟩ := BoxAt.cells hbe2
  have hz2 : w.heap.size < w2.heap.size := (Array.getElem?_eq_some_iff.1 hbe2).1
  have heq := eq8
  go_wp2
  go_ret
  exact ⟨rfl, hB2.alloc hB2.size _⟩

/-- the law, whatever comes in -/
theorem short_any (x0 x1 x2 x3 x4 x5 x6 x7 len : Int) (A B : Option Addr) (n c m d : Nat) (rest b : List Int) (w : World) (hK : KTab w) (ha : Bts w A n c rest) (hb : Bts w B m d b) :
    Calls Tryd.prog 7 #[hashV x0 x1 x2 x3 x4 x5 x6 x7 A n c len, .slice B m d] w fun e w' => e = .returned (.bool true) ∧ Below w.heap.size w w' := by
  have hn : n ≤ 9223372036854775807 := Nat.le_trans ha.le ha.max
  have hm : m ≤ 9223372036854775807 := Nat.le_trans hb.le hb.max
  by_cases h : 100 < n
  · exact short_few x0 x1 x2 x3 x4 x5 x6 x7 len A B n c m d w hK hn h
  · have hn1 : n ≤ 100 := by omega
    cases hmay : mayB n len with
    | false => exact short_may x0 x1 x2 x3 x4 x5 x6 x7 len A B n c m d w hK hn1 hm hmay
    | true =>
      by_cases hroom : (m : Int) ≤ 63 - (n : Int)
      · by_cases hlen : len ≤ 524288
        · exact short_good x0 x1 x2 x3 x4 x5 x6 x7 len A B n c m d rest b w hK hmay hroom hlen ha hb
        · exact short_late x0 x1 x2 x3 x4 x5 x6 x7 len A B n c m d w hK hn1 hm hmay hroom (by omega)
      · exact short_room x0 x1 x2 x3 x4 x5 x6 x7 len A B n c m d w hK hn1 hm hmay (by omega)
end Go.Proofs.YtckfcaggbnjbmaaDoor
