/- The walk over the law ShaJoins: it is the same whether bytes are added at once, or in two parts. -/
import Derived.Test.YtckfcaggbnjbmaaDoorShaSta
namespace Go.Proofs.YtckfcaggbnjbmaaDoor
open Go.RowKit

set_option maxHeartbeats 400000 in
theorem joins_few (x0 x1 x2 x3 x4 x5 x6 x7 len : Int) (A A1 A2 : Option Addr) (n c n1 c1 n2 c2 : Nat) (w : World) (hK : KTab w) (hn0 : n ≤ 9223372036854775807) (hf : 100 < (n : Int)) :
    Calls Tryd.prog 6 #[hashV x0 x1 x2 x3 x4 x5 x6 x7 A n c len, .slice A1 n1 c1, .slice A2 n2 c2] w fun e w' => e = .returned (.bool true) ∧ Below w.heap.size w w' := by
  go_enter Tryd.func6, Tryd.ntmps6
  go_wp2_with fail
  refine (awake_any _ (hK.from ((Below.refl _ _).alloc (Nat.le_refl _) _))).mono ?_
  rintro e w1 ⟨rfl, hb1⟩
  obtain ⟨hB1, _, hX1⟩ := after_one hb1
  have hbe : BoxAt w1 w.heap.size x0 x1 x2 x3 x4 x5 x6 x7 A n c len := hX1
  obtain ⟨b0, b1, b2, b3, b4, b5, b6, b7, b8, b9⟩ := BoxAt.cells hbe
  have hz1 : w.heap.size < w1.heap.size := (Array.getElem?_eq_some_iff.1 hbe).1
  have hz1a : w.heap.size < w1.heap.size + 1 := by omega
  have hz1b : w.heap.size < w1.heap.size + 1 + 1 := by omega
  clear hb1 hX1
  go_wp2_with (first
    | (go_at_call 10; refine (few_any _ _ _ _ _ _ _ _ _ _ _ _ _ hn0).mono ?_; rintro e w0 ⟨rfl, rfl⟩)
    | (go_at_call 17; refine (may_any _ _ _ _ _ _ _ _ _ _ _ _ _).mono ?_; rintro e w0 ⟨rfl, rfl⟩))
  go_ret
  exact ⟨rfl, hB1.alloc hB1.size _⟩

set_option maxHeartbeats 400000 in
theorem joins_a (x0 x1 x2 x3 x4 x5 x6 x7 len : Int) (A A1 A2 : Option Addr) (n c n1 c1 n2 c2 : Nat) (w : World) (hK : KTab w) (hn0 : n ≤ 9223372036854775807) (hf : (n : Int) ≤ 100) (ha : 200 < (n1 : Int)) :
    Calls Tryd.prog 6 #[hashV x0 x1 x2 x3 x4 x5 x6 x7 A n c len, .slice A1 n1 c1, .slice A2 n2 c2] w fun e w' => e = .returned (.bool true) ∧ Below w.heap.size w w' := by
  go_enter Tryd.func6, Tryd.ntmps6
  go_wp2_with fail
  refine (awake_any _ (hK.from ((Below.refl _ _).alloc (Nat.le_refl _) _))).mono ?_
  rintro e w1 ⟨rfl, hb1⟩
  obtain ⟨hB1, _, hX1⟩ := after_one hb1
  have hbe : BoxAt w1 w.heap.size x0 x1 x2 x3 x4 x5 x6 x7 A n c len := hX1
  obtain ⟨b0, b1, b2, b3, b4, b5, b6, b7, b8, b9⟩ := BoxAt.cells hbe
  have hz1 : w.heap.size < w1.heap.size := (Array.getElem?_eq_some_iff.1 hbe).1
  have hz1a : w.heap.size < w1.heap.size + 1 := by omega
  have hz1b : w.heap.size < w1.heap.size + 1 + 1 := by omega
  clear hb1 hX1
  go_wp2_with (first
    | (go_at_call 10; refine (few_any _ _ _ _ _ _ _ _ _ _ _ _ _ hn0).mono ?_; rintro e w0 ⟨rfl, rfl⟩)
    | (go_at_call 17; refine (may_any _ _ _ _ _ _ _ _ _ _ _ _ _).mono ?_; rintro e w0 ⟨rfl, rfl⟩))
  go_ret
  exact ⟨rfl, hB1.alloc hB1.size _⟩

set_option maxHeartbeats 400000 in
theorem joins_b (x0 x1 x2 x3 x4 x5 x6 x7 len : Int) (A A1 A2 : Option Addr) (n c n1 c1 n2 c2 : Nat) (w : World) (hK : KTab w) (hn0 : n ≤ 9223372036854775807) (hf : (n : Int) ≤ 100) (ha : (n1 : Int) ≤ 200) (hb : 200 < (n2 : Int)) :
    Calls Tryd.prog 6 #[hashV x0 x1 x2 x3 x4 x5 x6 x7 A n c len, .slice A1 n1 c1, .slice A2 n2 c2] w fun e w' => e = .returned (.bool true) ∧ Below w.heap.size w w' := by
  go_enter Tryd.func6, Tryd.ntmps6
  go_wp2_with fail
  refine (awake_any _ (hK.from ((Below.refl _ _).alloc (Nat.le_refl _) _))).mono ?_
  rintro e w1 ⟨rfl, hb1⟩
  obtain ⟨hB1, _, hX1⟩ := after_one hb1
  have hbe : BoxAt w1 w.heap.size x0 x1 x2 x3 x4 x5 x6 x7 A n c len := hX1
  obtain ⟨b0, b1, b2, b3, b4, b5, b6, b7, b8, b9⟩ := BoxAt.cells hbe
  have hz1 : w.heap.size < w1.heap.size := (Array.getElem?_eq_some_iff.1 hbe).1
  have hz1a : w.heap.size < w1.heap.size + 1 := by omega
  have hz1b : w.heap.size < w1.heap.size + 1 + 1 := by omega
  clear hb1 hX1
  go_wp2_with (first
    | (go_at_call 10; refine (few_any _ _ _ _ _ _ _ _ _ _ _ _ _ hn0).mono ?_; rintro e w0 ⟨rfl, rfl⟩)
    | (go_at_call 17; refine (may_any _ _ _ _ _ _ _ _ _ _ _ _ _).mono ?_; rintro e w0 ⟨rfl, rfl⟩))
  go_ret
  exact ⟨rfl, hB1.alloc hB1.size _⟩

set_option maxHeartbeats 400000 in
theorem joins_may (x0 x1 x2 x3 x4 x5 x6 x7 len : Int) (A A1 A2 : Option Addr) (n c n1 c1 n2 c2 : Nat) (w : World) (hK : KTab w) (hn0 : n ≤ 9223372036854775807) (hf : (n : Int) ≤ 100) (ha : (n1 : Int) ≤ 200) (hb : (n2 : Int) ≤ 200) (hmay : mayB n len = false) :
    Calls Tryd.prog 6 #[hashV x0 x1 x2 x3 x4 x5 x6 x7 A n c len, .slice A1 n1 c1, .slice A2 n2 c2] w fun e w' => e = .returned (.bool true) ∧ Below w.heap.size w w' := by
  go_enter Tryd.func6, Tryd.ntmps6
  go_wp2_with fail
  refine (awake_any _ (hK.from ((Below.refl _ _).alloc (Nat.le_refl _) _))).mono ?_
  rintro e w1 ⟨rfl, hb1⟩
  obtain ⟨hB1, _, hX1⟩ := after_one hb1
  have hbe : BoxAt w1 w.heap.size x0 x1 x2 x3 x4 x5 x6 x7 A n c len := hX1
  obtain ⟨b0, b1, b2, b3, b4, b5, b6, b7, b8, b9⟩ := BoxAt.cells hbe
  have hz1 : w.heap.size < w1.heap.size := (Array.getElem?_eq_some_iff.1 hbe).1
  have hz1a : w.heap.size < w1.heap.size + 1 := by omega
  have hz1b : w.heap.size < w1.heap.size + 1 + 1 := by omega
  clear hb1 hX1
  go_wp2_with (first
    | (go_at_call 10; refine (few_any _ _ _ _ _ _ _ _ _ _ _ _ _ hn0).mono ?_; rintro e w0 ⟨rfl, rfl⟩)
    | (go_at_call 17; refine (may_any _ _ _ _ _ _ _ _ _ _ _ _ _).mono ?_; rintro e w0 ⟨rfl, rfl⟩))
  go_ret
  exact ⟨rfl, (hB1.alloc hB1.size _).alloc (Nat.le_trans hB1.size (size_le_alloc _ _)) _⟩

set_option maxHeartbeats 400000 in
theorem joins_late (x0 x1 x2 x3 x4 x5 x6 x7 len : Int) (A A1 A2 : Option Addr) (n c n1 c1 n2 c2 : Nat) (w : World) (hK : KTab w) (hn0 : n ≤ 9223372036854775807) (hf : (n : Int) ≤ 100) (ha : (n1 : Int) ≤ 200) (hb : (n2 : Int) ≤ 200) (hmay : mayB n len = true) (hlen : 524288 < len) :
    Calls Tryd.prog 6 #[hashV x0 x1 x2 x3 x4 x5 x6 x7 A n c len, .slice A1 n1 c1, .slice A2 n2 c2] w fun e w' => e = .returned (.bool true) ∧ Below w.heap.size w w' := by
  go_enter Tryd.func6, Tryd.ntmps6
  go_wp2_with fail
  refine (awake_any _ (hK.from ((Below.refl _ _).alloc (Nat.le_refl _) _))).mono ?_
  rintro e w1 ⟨rfl, hb1⟩
  obtain ⟨hB1, _, hX1⟩ := after_one hb1
  have hbe : BoxAt w1 w.heap.size x0 x1 x2 x3 x4 x5 x6 x7 A n c len := hX1
  obtain ⟨b0, b1, b2, b3, b4, b5, b6, b7, b8, b9⟩ := BoxAt.cells hbe
  have hz1 : w.heap.size < w1.heap.size := (Array.getElem?_eq_some_iff.1 hbe).1
  have hz1a : w.heap.size < w1.heap.size + 1 := by omega
  have hz1b : w.heap.size < w1.heap.size + 1 + 1 := by omega
  clear hb1 hX1
  go_wp2_with (first
    | (go_at_call 10; refine (few_any _ _ _ _ _ _ _ _ _ _ _ _ _ hn0).mono ?_; rintro e w0 ⟨rfl, rfl⟩)
    | (go_at_call 17; refine (may_any _ _ _ _ _ _ _ _ _ _ _ _ _).mono ?_; rintro e w0 ⟨rfl, rfl⟩))
  go_ret
  exact ⟨rfl, (hB1.alloc hB1.size _).alloc (Nat.le_trans hB1.size (size_le_alloc _ _)) _⟩

theorem add_sta_from (x l b : List Int) (y0 y1 y2 y3 y4 y5 y6 y7 len : Int) (A B : Option Addr) (n c m d : Nat) (w W : World) (hW : Below w.heap.size w W) (hK : KTab w) (hs : Sta w x l y0 y1 y2 y3 y4 y5 y6 y7 A n c) (hb : Bts w B m d b)
    (h0 : 0 ≤ len) (hmod : len % 64 = (l.length : Int) % 64) (hroom : len + (m : Int) ≤ 1048576) :
    Calls Tryd.prog 13 #[hashV y0 y1 y2 y3 y4 y5 y6 y7 A n c len, .slice B m d] W (StaPost W x (l ++ b) (len + (m : Int))) :=
  add_sta x l b y0 y1 y2 y3 y4 y5 y6 y7 len A B n c m d W (hK.from hW) (hs.below hW) (hb.below hW) h0 hmod hroom
/-- a state, as one that tells its bytes -/
theorem sta_of (x0 x1 x2 x3 x4 x5 x6 x7 : Int) (A : Option Addr) (n c : Nat) (rest : List Int) (w : World) (hn : n < 64) (hb : Bts w A n c rest) : Sta w [x0, x1, x2, x3, x4, x5, x6, x7] rest x0 x1 x2 x3 x4 x5 x6 x7 A n c := by
  have hw : whole rest = 0 := by rw [whole, hb.len]; omega
  refine ⟨?_, ?_⟩
  · rw [hw, List.take_zero]; rfl
  · rw [hw, List.drop_zero]; exact hb

set_option maxRecDepth 100000 in
set_option maxHeartbeats 1000000 in
theorem joins_good (x0 x1 x2 x3 x4 x5 x6 x7 len : Int) (A A1 A2 : Option Addr) (n c n1 c1 n2 c2 : Nat) (rest a b : List Int) (w : World) (hK : KTab w) (ha : (n1 : Int) ≤ 200) (hb : (n2 : Int) ≤ 200) (hmay : mayB n len = true) (hlen : len ≤ 524288) (hr : Bts w A n c rest) (hba : Bts w A1 n1 c1 a) (hbb : Bts w A2 n2 c2 b) :
    Calls Tryd.prog 6 #[hashV x0 x1 x2 x3 x4 x5 x6 x7 A n c len, .slice A1 n1 c1, .slice A2 n2 c2] w fun e w' => e = .returned (.bool true) ∧ Below w.heap.size w w' := by
  obtain ⟨g0, g1, g2⟩ := mayB_yes hmay
  have hf : (n : Int) ≤ 100 := by omega
  have hn0 : n ≤ 9223372036854775807 := by omega
  have hst := sta_of x0 x1 x2 x3 x4 x5 x6 x7 A n c rest w (by omega) hr
  have hrl := hr.len
  have hal := hba.len
  have hbl := hbb.len
  have m1 : len % 64 = (rest.length : Int) % 64 := by omega
  have m2 : (len + (n1 : Int)) % 64 = ((rest ++ a).length : Int) % 64 := by rw [List.length_append]; omega
  have q1 : ([] ++ a : List Int).length ≤ 300 := by simp; omega
  have r1 : len + (n1 : Int) ≤ 1048576 := by omega
  have r2 : 0 ≤ len + (n1 : Int) := by omega
  have r3 : len + (n1 : Int) + (n2 : Int) ≤ 1048576 := by omega
  have hq : ([] ++ a ++ b : List Int).length = n1 + n2 := by simp; omega
  have M1 := Lib.hid m1
  have M2 := Lib.hid m2
  have HQ := Lib.hid hq
  have oka : ∀ j, 0 ≤ ([] ++ a ++ b : List Int).getD j 0 ∧ ([] ++ a ++ b : List Int).getD j 0 < 256 := by
    simp only [List.nil_append]; exact ok_append hba.ok hbb.ok
  have OK := Lib.hid oka
  clear g2 hrl hal hbl m1 m2 hq oka
  go_enter Tryd.func6, Tryd.ntmps6
  go_wp2_with fail
  refine (awake_any _ (hK.from ((Below.refl _ _).alloc (Nat.le_refl _) _))).mono ?_
  rintro e w1 ⟨rfl, hb1⟩
  obtain ⟨hB1, _, hX1⟩ := after_one hb1
  have hbe : BoxAt w1 w.heap.size x0 x1 x2 x3 x4 x5 x6 x7 A n c len := hX1
  obtain ⟨b0, b1, b2, b3, b4, b5, b6, b7, b8, b9⟩ := BoxAt.cells hbe
  have hz1 : w.heap.size < w1.heap.size := (Array.getElem?_eq_some_iff.1 hbe).1
  have hz1a : w.heap.size < w1.heap.size + 1 := by omega
  have hz1b : w.heap.size < w1.heap.size + 1 + 1 := by omega
  clear hb1 hX1
  go_wp2_with (first
    | (go_at_call 10; refine (few_any _ _ _ _ _ _ _ _ _ _ _ _ _ hn0).mono ?_; rintro e w0 ⟨rfl, rfl⟩)
    | (go_at_call 17; refine (may_any _ _ _ _ _ _ _ _ _ _ _ _ _).mono ?_; rintro e w0 ⟨rfl, rfl⟩)
    | (at_builtin
       refine wpList_append_b rfl _ (.tmp 41) rfl w1.heap.size (.slice none 0 0) [] rfl (Own.nil _ _) A1 n1 c1 a rfl (((hba.below hB1).more _).more _) (by simp only [List.length_nil]; omega) (Nat.le_trans (size_le_alloc _ _) (size_le_alloc _ _)) ?_
       intro v2 w2 hown2 hg2
       have hb2 : Below w1.heap.size w1 w2 := Below.grown (two_below w1 _ _) hg2 (Nat.le_trans (size_le_alloc _ _) (size_le_alloc _ _)) (fun k hk => by cases hk)
       clear hg2)
    | (at_builtin
       refine wpList_append_b rfl (.tmp 42) (.tmp 43) rfl w1.heap.size v2 ([] ++ a) rfl hown2 A2 n2 c2 b rfl ((hbb.below hB1).below hb2) (by omega) hb2.size ?_
       intro v3 w3 hown3 hg3
       have hb3 : Below w1.heap.size w1 w3 := hb2.grown hg3 hb2.size (fun k hk => (hown2.size k hk).1)
       have hB3 : Below w.heap.size w w3 := hB1.trans (hb3.mono hB1.size)
       obtain ⟨A3, n3, c3, rfl, hbt3⟩ := hown3.slice OK.out
       have hbe3 := hbe.below hb3
       have hn3 : n3 = n1 + n2 := by rw [← hbt3.len]; exact HQ.out
       have HN3 := Lib.hid hn3
       clear hg3 hn3))
  have hs3 := hst.below hB3
  have r4 : len + (n3 : Int) ≤ 1048576 := by have := HN3.out; omega
  have h5 : len + (n3 : Int) = len + (n1 : Int) + (n2 : Int) := by have := HN3.out; omega
  have H5 := Lib.hid h5
  clear h5 hmay b0 b1 b2 b3 b4 b5 b6 b7 b8 b9 hbe hown3 hown2
  go_region_held3 (fun w' => w'.cell? ⟨w.heap.size, 0, none⟩ = some (.int .u32 x0) ∧ w'.cell? ⟨w.heap.size, 1, none⟩ = some (.int .u32 x1) ∧ w'.cell? ⟨w.heap.size, 2, none⟩ = some (.int .u32 x2) ∧ w'.cell? ⟨w.heap.size, 3, none⟩ = some (.int .u32 x3) ∧ w'.cell? ⟨w.heap.size, 4, none⟩ = some (.int .u32 x4) ∧ w'.cell? ⟨w.heap.size, 5, none⟩ = some (.int .u32 x5) ∧ w'.cell? ⟨w.heap.size, 6, none⟩ = some (.int .u32 x6) ∧ w'.cell? ⟨w.heap.size, 7, none⟩ = some (.int .u32 x7) ∧ w'.cell? ⟨w.heap.size, 8, none⟩ = some (.slice A n c) ∧ w'.cell? ⟨w.heap.size, 9, none⟩ = some (.int .i64 len))
    (first | (with_reducible exact BoxAt.cells hbe3) | (with_reducible exact BoxAt.cells hbe3.draw1) | (with_reducible exact BoxAt.cells hbe4) | (with_reducible exact BoxAt.cells hbe5) | (with_reducible exact BoxAt.cells hbe6) | (with_reducible exact BoxAt.cells hbe7))
    (first
    | (go_at_call 13; (with_reducible refine (add_sta_from [x0, x1, x2, x3, x4, x5, x6, x7] rest a x0 x1 x2 x3 x4 x5 x6 x7 len A A1 n c n1 c1 w3 _ ?_ (hK.from hB3) hs3 (hba.below hB3) g0 M1.out r1).mono ?_); (first | exact Below.refl _ _ | exact (Below.refl _ _).drew); rintro e w4 ⟨y0, y1, y2, y3, y4, y5, y6, y7, A4, n4, c4, rfl, hs4, hb4⟩
       have hC4 : Below w3.heap.size w3 w4 := by first | exact hb4 | exact below_draw hb4
       have hB4 : Below w.heap.size w w4 := hB3.trans (hC4.mono hB3.size)
       have hbe4 := hbe3.below hC4)
    | (go_at_call 13; (with_reducible refine (add_sta [x0, x1, x2, x3, x4, x5, x6, x7] (rest ++ a) b y0 y1 y2 y3 y4 y5 y6 y7 (len + (n1 : Int)) A4 A2 n4 c4 n2 c2 w4 (hK.from hB4) hs4 (hbb.below hB4) r2 M2.out r3).mono ?_); rintro e w5 ⟨z0, z1, z2, z3, z4, z5, z6, z7, A5, n5, c5, rfl, hs5, hb5⟩
       have hB5 : Below w.heap.size w w5 := hB4.trans (hb5.mono hB4.size)
       have hbe5 := hbe4.below hb5
       have hbt5 := (hbt3.below hC4).below hb5)
    | (go_at_call 13; (with_reducible refine (add_sta [x0, x1, x2, x3, x4, x5, x6, x7] rest ([] ++ a ++ b) x0 x1 x2 x3 x4 x5 x6 x7 len A A3 n c n3 c3 w5 (hK.from hB5) (hst.below hB5) hbt5 g0 M1.out r4).mono ?_); rintro e w6 ⟨u0, u1, u2, u3, u4, u5, u6, u7, A6, n6, c6, he6, hs6, hb6⟩
       rw [H5.out] at he6
       subst he6
       rw [List.nil_append, ← List.append_assoc] at hs6
       have hreg := hs5.reg.symm.trans hs6.reg
       simp only [List.cons.injEq, and_true] at hreg
       obtain ⟨rfl, rfl, rfl, rfl, rfl, rfl, rfl, rfl⟩ := hreg
       have hs56 := hs5.below hb6
       have hB6 : Below w.heap.size w w6 := hB5.trans (hb6.mono hB5.size)
       have hbe6 := hbe5.below hb6)
    | (go_at_call 12; refine (same_yes _ _ _ _ _ _ _ _ _ A5 A6 n5 c5 n6 c6 ((rest ++ a ++ b).drop (whole (rest ++ a ++ b))) w6 hs56.rest hs6.rest).mono ?_; rintro e w7 ⟨rfl, hb7⟩
       have hbe7 := hbe6.below hb7
       have hB7 : Below w.heap.size w w7 := hB6.trans (hb7.mono hB6.size)))
  go_wp2
  go_ret
  exact ⟨rfl, hB7⟩

/-- the law, whatever comes in -/
theorem joins_any (x0 x1 x2 x3 x4 x5 x6 x7 len : Int) (A A1 A2 : Option Addr) (n c n1 c1 n2 c2 : Nat) (rest a b : List Int) (w : World) (hK : KTab w) (hr : Bts w A n c rest) (hba : Bts w A1 n1 c1 a) (hbb : Bts w A2 n2 c2 b) :
    Calls Tryd.prog 6 #[hashV x0 x1 x2 x3 x4 x5 x6 x7 A n c len, .slice A1 n1 c1, .slice A2 n2 c2] w fun e w' => e = .returned (.bool true) ∧ Below w.heap.size w w' := by
  have hn : n ≤ 9223372036854775807 := Nat.le_trans hr.le hr.max
  by_cases h : (n : Int) ≤ 100
  · by_cases h1 : (n1 : Int) ≤ 200
    · by_cases h2 : (n2 : Int) ≤ 200
      · cases hmay : mayB n len with
        | false => exact joins_may x0 x1 x2 x3 x4 x5 x6 x7 len A A1 A2 n c n1 c1 n2 c2 w hK hn h h1 h2 hmay
        | true =>
          by_cases hlen : len ≤ 524288
          · exact joins_good x0 x1 x2 x3 x4 x5 x6 x7 len A A1 A2 n c n1 c1 n2 c2 rest a b w hK h1 h2 hmay hlen hr hba hbb
          · exact joins_late x0 x1 x2 x3 x4 x5 x6 x7 len A A1 A2 n c n1 c1 n2 c2 w hK hn h h1 h2 hmay (by omega)
      · exact joins_b x0 x1 x2 x3 x4 x5 x6 x7 len A A1 A2 n c n1 c1 n2 c2 w hK hn h h1 (by omega)
    · exact joins_a x0 x1 x2 x3 x4 x5 x6 x7 len A A1 A2 n c n1 c1 n2 c2 w hK hn h (by omega)
  · exact joins_few x0 x1 x2 x3 x4 x5 x6 x7 len A A1 A2 n c n1 c1 n2 c2 w hK hn (by omega)
end Go.Proofs.YtckfcaggbnjbmaaDoor
