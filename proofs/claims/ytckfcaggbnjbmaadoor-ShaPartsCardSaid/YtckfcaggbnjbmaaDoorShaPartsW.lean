/- The walk over the law ShaParts: bytes in three parts have the sum of all at once. -/
import Derived.Test.YtckfcaggbnjbmaaDoorShaSta
namespace Go.Proofs.YtckfcaggbnjbmaaDoor
open Go.RowKit

set_option maxHeartbeats 400000 in
theorem parts_long (A0 A1 A2 : Option Addr) (n0 c0 n1 c1 n2 c2 : Nat) (w : World) (hK : KTab w) (h0 : n0 ≤ 9223372036854775807) (h1 : n1 ≤ 9223372036854775807) (h2 : n2 ≤ 9223372036854775807) (h : 200 < n0 ∨ 200 < n1 ∨ 200 < n2) :
    Calls Tryd.prog 4 #[.slice A0 n0 c0, .slice A1 n1 c1, .slice A2 n2 c2] w fun e w' => e = .returned (.bool true) ∧ Below w.heap.size w w' := by
  by_cases g0 : 200 < (n0 : Int)
  · clear h
    go_enter Tryd.func4, Tryd.ntmps4
    go_wp2_with (go_at_call 9; refine (awake_any _ hK).mono ?_; rintro e w1 ⟨rfl, hb1⟩)
    go_ret
    exact ⟨rfl, hb1⟩
  · by_cases g1 : 200 < (n1 : Int)
    · clear h
      go_enter Tryd.func4, Tryd.ntmps4
      go_wp2_with (go_at_call 9; refine (awake_any _ hK).mono ?_; rintro e w1 ⟨rfl, hb1⟩)
      go_ret
      exact ⟨rfl, hb1⟩
    · have g2 : 200 < (n2 : Int) := by omega
      clear h
      go_enter Tryd.func4, Tryd.ntmps4
      go_wp2_with (go_at_call 9; refine (awake_any _ hK).mono ?_; rintro e w1 ⟨rfl, hb1⟩)
      go_ret
      exact ⟨rfl, hb1⟩

set_option maxRecDepth 100000 in
set_option maxHeartbeats 600000 in
theorem parts_good (A0 A1 A2 : Option Addr) (n0 c0 n1 c1 n2 c2 : Nat) (a b c : List Int) (w : World) (hK : KTab w) (h0 : (n0 : Int) ≤ 200) (h1 : (n1 : Int) ≤ 200) (h2 : (n2 : Int) ≤ 200) (ha : Bts w A0 n0 c0 a) (hb : Bts w A1 n1 c1 b) (hc : Bts w A2 n2 c2 c) :
    Calls Tryd.prog 4 #[.slice A0 n0 c0, .slice A1 n1 c1, .slice A2 n2 c2] w fun e w' => e = .returned (.bool true) ∧ Below w.heap.size w w' := by
  obtain ⟨Z, hZ⟩ : ∃ Z, Z = sumL (a ++ b ++ c) := ⟨_, rfl⟩
  have hZl : Z.length = 32 := by rw [hZ]; exact sum_length _
  have HZ := Lib.hid hZ
  have hla := ha.len
  have hlb := hb.len
  have hlc := hc.len
  have q1 : ([] ++ a : List Int).length ≤ 300 := by simp; omega
  have q2 : ([] ++ a ++ b : List Int).length ≤ 600 := by simp; omega
  have q3 : ([] ++ a ++ b ++ c : List Int).length ≤ 1048576 := by simp; omega
  have q4 : ((a ++ b ++ c).length : Int) = (n0 : Int) + (n1 : Int) + (n2 : Int) := by simp; omega
  have q5 : ((n0 : Int) + (n1 : Int)) % 64 = ((a ++ b).length : Int) % 64 := by rw [List.length_append]; omega
  have Q4 := Lib.hid q4
  have Q5 := Lib.hid q5
  have HLA := Lib.hid hla
  have heq := eq32 Z Z hZl hZl
  clear hZ hZl q4 q5 hla hlb hlc
  go_enter Tryd.func4, Tryd.ntmps4
  go_wp2_with (first
    | (go_at_call 9; refine (awake_any _ hK).mono ?_; rintro e w1 ⟨rfl, hb1⟩)
    | (at_builtin
       refine wpList_append_b rfl _ (.tmp 30) rfl w1.heap.size (.slice none 0 0) [] rfl (Own.nil _ _) A0 n0 c0 a rfl (ha.below hb1) (by simp only [List.length_nil]; omega) (Nat.le_refl _) ?_
       intro v2 w2 hown2 hg2
       have hb2 : Below w1.heap.size w1 w2 := (Below.refl _ _).grown hg2 (Nat.le_refl _) (fun k hk => by cases hk)
       clear hg2)
    | (at_builtin
       refine wpList_append_b rfl (.tmp 31) (.tmp 32) rfl w1.heap.size v2 ([] ++ a) rfl hown2 A1 n1 c1 b rfl ((hb.below hb1).below hb2) (by omega) hb2.size ?_
       intro v3 w3 hown3 hg3
       have hb3 : Below w1.heap.size w1 w3 := hb2.grown hg3 hb2.size (fun k hk => (hown2.size k hk).1)
       clear hg3)
    | (at_builtin
       refine wpList_append_b rfl (.tmp 33) (.tmp 34) rfl w1.heap.size v3 ([] ++ a ++ b) rfl hown3 A2 n2 c2 c rfl ((hc.below hb1).below hb3) (by omega) hb3.size ?_
       intro v4 w4 hown4 hg4
       have hb4 : Below w1.heap.size w1 w4 := hb3.grown hg4 hb3.size (fun k hk => (hown3.size k hk).1)
       have hB4 : Below w.heap.size w w4 := hb1.trans (hb4.mono hb1.size)
       obtain ⟨A4, n4, c4, rfl, hbt4⟩ := hown4.slice (by simp only [List.nil_append]; exact ok_append (ok_append ha.ok hb.ok) hc.ok)
       clear hg4)
    | (go_at_call 15; refine (new_any _).mono ?_; rintro e w5 ⟨rfl, hb5⟩
       have hB5 : Below w.heap.size w w5 := hB4.trans (hb5.mono hB4.size)
       have hbt5 := hbt4.below hb5)
    | (go_at_call 13; refine (new_sta a A0 n0 c0 w5 (hK.from hB5) (by omega) (ha.below hB5)).mono ?_; rintro e w6 ⟨y0, y1, y2, y3, y4, y5, y6, y7, A6, n6, c6, rfl, hs6, hb6⟩
       have hB6 : Below w.heap.size w w6 := hB5.trans (hb6.mono hB5.size)
       have hbt6 := hbt5.below hb6))
  generalize hW : World.alloc _ _ = W
  obtain ⟨hbW, hz0, hX0⟩ := named_one hW
  have hbe : BoxAt W w6.heap.size y0 y1 y2 y3 y4 y5 y6 y7 A6 n6 c6 n0 := hX0
  have hs7 := hs6.below hbW
  have hBW : Below w.heap.size w W := hB6.trans (hbW.mono hB6.size)
  have hbt7 := hbt6.below hbW
  have hn6 := hs7.size
  have hmay : mayB n6 (n0 : Int) = true := by
    unfold mayB
    rw [decide_eq_true_eq]
    have := HLA.out
    omega
  clear hW hX0 hz0 hn6 hs6 hbt6 hb6 hbt5 hb5 hbt4 hown4 hown3 hown2
  go_region_held3 (fun w' => w'.cell? ⟨w6.heap.size, 0, none⟩ = some (.int .u32 y0) ∧ w'.cell? ⟨w6.heap.size, 1, none⟩ = some (.int .u32 y1) ∧ w'.cell? ⟨w6.heap.size, 2, none⟩ = some (.int .u32 y2) ∧ w'.cell? ⟨w6.heap.size, 3, none⟩ = some (.int .u32 y3) ∧ w'.cell? ⟨w6.heap.size, 4, none⟩ = some (.int .u32 y4) ∧ w'.cell? ⟨w6.heap.size, 5, none⟩ = some (.int .u32 y5) ∧ w'.cell? ⟨w6.heap.size, 6, none⟩ = some (.int .u32 y6) ∧ w'.cell? ⟨w6.heap.size, 7, none⟩ = some (.int .u32 y7) ∧ w'.cell? ⟨w6.heap.size, 8, none⟩ = some (.slice A6 n6 c6) ∧ w'.cell? ⟨w6.heap.size, 9, none⟩ = some (.int .i64 n0))
    (first | (with_reducible exact BoxAt.cells hbe) | (with_reducible exact BoxAt.cells hbe.draw1) | (with_reducible exact BoxAt.cells hbe8) | (with_reducible exact BoxAt.cells hbe9))
    (first
    | (go_at_call 13; refine (add_nil y0 y1 y2 y3 y4 y5 y6 y7 n0 A6 n6 c6 (a.drop (whole a)) _ (hK.from hBW.drew) hmay hs7.rest.draw1).mono ?_; rintro e w8 ⟨A8, n8, c8, rfl, hbt8, hb8⟩
       have hb8 := below_draw hb8
       have hbe8 := hbe.below hb8
       have hB8 : Below w.heap.size w w8 := hBW.trans (hb8.mono hBW.size)
       have hs8 := hs7.below hb8)
    | (go_at_call 12; refine (same_yes y0 y1 y2 y3 y4 y5 y6 y7 n0 A8 A6 n8 c8 n6 c6 (a.drop (whole a)) w8 hbt8 hs8.rest).mono ?_; rintro e w9 ⟨rfl, hb9⟩
       have hbe9 := hbe8.below hb9
       have hB9 : Below w.heap.size w w9 := hB8.trans (hb9.mono hB8.size)
       have hs9 := hs8.below hb9
       have hbt9 := (hbt7.below hb8).below hb9))
  obtain ⟨o0, o1, o2, o3, o4, o5, o6, o7, o8, o9⟩ := BoxAt.cells hbe9
  clear hbe8 hbe hs7 hs8 hmay hBW hB8 hb8 hb9 hbt8 hbt7
  have r1 : 0 ≤ (n0 : Int) := by omega
  have r2' : (n0 : Int) % 64 = (a.length : Int) % 64 := by rw [HLA.out]
  have R2 := Lib.hid r2'
  have r3 : (n0 : Int) + (n1 : Int) ≤ 1048576 := by omega
  have r4 : 0 ≤ (n0 : Int) + (n1 : Int) := by omega
  have r5 : (n0 : Int) + (n1 : Int) + (n2 : Int) ≤ 1048576 := by omega
  clear r2'
  go_wp2_with (first
    | (go_at_call 13; (with_reducible refine (add_sta iList a b y0 y1 y2 y3 y4 y5 y6 y7 n0 A6 A1 n6 c6 n1 c1 w9 (hK.from hB9) hs9 (hb.below hB9) r1 R2.out r3).mono ?_); rintro e w10 ⟨z0, z1, z2, z3, z4, z5, z6, z7, A10, n10, c10, rfl, hs10, hb10⟩
       have hB10 : Below w.heap.size w w10 := hB9.trans (hb10.mono hB9.size)
       have hbt10 := hbt9.below hb10)
    | (go_at_call 13; (with_reducible refine (add_sta iList (a ++ b) c z0 z1 z2 z3 z4 z5 z6 z7 ((n0 : Int) + (n1 : Int)) A10 A2 n10 c10 n2 c2 w10 (hK.from hB10) hs10 (hc.below hB10) r4 Q5.out r5).mono ?_); rintro e w11 ⟨u0, u1, u2, u3, u4, u5, u6, u7, A11, n11, c11, rfl, hs11, hb11⟩
       have hB11 : Below w.heap.size w w11 := hB10.trans (hb11.mono hB10.size)
       have hbt11 := hbt10.below hb11)
    | (go_at_call 18; refine (end_sta (a ++ b ++ c) u0 u1 u2 u3 u4 u5 u6 u7 ((n0 : Int) + (n1 : Int) + (n2 : Int)) A11 n11 c11 w11 (hK.from hB11) hs11 Q4.out.symm (by simpa using q3)).mono ?_; rintro e w12 ⟨he, hb12⟩
       rw [← HZ.out] at he
       subst he
       have hB12 : Below w.heap.size w w12 := hB11.trans (hb12.mono hB11.size)
       have hbt12 := hbt11.below hb12)
    | (go_at_call 20; refine (sum_yes A4 n4 c4 ([] ++ a ++ b ++ c) w12 (hK.from hB12) (by have := hbt12.len; omega) hbt12).mono ?_; rintro e w13 ⟨he, hb13⟩
       rw [List.nil_append, ← HZ.out] at he
       subst he
       have hB13 : Below w.heap.size w w13 := hB12.trans (hb13.mono hB12.size)))
  go_ret
  exact ⟨rfl, hB13⟩

/-- the law, whatever comes in -/
theorem parts_any (A0 A1 A2 : Option Addr) (n0 c0 n1 c1 n2 c2 : Nat) (a b c : List Int) (w : World) (hK : KTab w) (ha : Bts w A0 n0 c0 a) (hb : Bts w A1 n1 c1 b) (hc : Bts w A2 n2 c2 c) :
    Calls Tryd.prog 4 #[.slice A0 n0 c0, .slice A1 n1 c1, .slice A2 n2 c2] w fun e w' => e = .returned (.bool true) ∧ Below w.heap.size w w' := by
  by_cases h : 200 < n0 ∨ 200 < n1 ∨ 200 < n2
  · exact parts_long A0 A1 A2 n0 c0 n1 c1 n2 c2 w hK (Nat.le_trans ha.le ha.max) (Nat.le_trans hb.le hb.max) (Nat.le_trans hc.le hc.max) h
  · exact parts_good A0 A1 A2 n0 c0 n1 c1 n2 c2 a b c w hK (by omega) (by omega) (by omega) ha hb hc
end Go.Proofs.YtckfcaggbnjbmaaDoor
