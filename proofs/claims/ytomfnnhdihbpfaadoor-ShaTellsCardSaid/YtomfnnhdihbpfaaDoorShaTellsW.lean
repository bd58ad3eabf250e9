/- The walk over the law ShaTells: sums of bytes are what the document says. -/
import Derived.Test.YtomfnnhdihbpfaaDoorRefSum
import Derived.Test.YtomfnnhdihbpfaaDoorShaAwake
import Derived.Test.YtomfnnhdihbpfaaDoorShaSame
namespace Go.Proofs.YtomfnnhdihbpfaaDoor
open Go.RowKit

/-- a state is handed back, and what is left over reads as l -/
def HashIs (w : World) (y0 y1 y2 y3 y4 y5 y6 y7 : Int) (l : List Int) (len : Int) (e : Ending) (w' : World) : Prop :=
  ∃ A n c, e = .returned (hashV y0 y1 y2 y3 y4 y5 y6 y7 A n c len) ∧ Bts w' A n c l ∧ Below w.heap.size w w'

theorem add_post_is {w w' : World} {x all : List Int} {len : Int} {e : Ending} {y0 y1 y2 y3 y4 y5 y6 y7 : Int} (h : AddPost w x all len e w') (hY : byBlocks x (all.take (whole all)) = [y0, y1, y2, y3, y4, y5, y6, y7]) : HashIs w y0 y1 y2 y3 y4 y5 y6 y7 (all.drop (whole all)) len e w' := by
  obtain ⟨z0, z1, z2, z3, z4, z5, z6, z7, A, n, c, he, hz, hb, hB⟩ := h
  rw [hY] at hz
  simp only [List.cons.injEq, and_true] at hz
  obtain ⟨rfl, rfl, rfl, rfl, rfl, rfl, rfl, rfl⟩ := hz
  exact ⟨A, n, c, he, hb, hB⟩
theorem zero_is {w w' : World} {e : Ending} (h : e = .returned (hashV 0 0 0 0 0 0 0 0 none 0 0 0) ∧ Below w.heap.size w w') : HashIs w 0 0 0 0 0 0 0 0 [] 0 e w' := ⟨none, 0, 0, h.1, Bts.nil w', h.2⟩

/-- both packages' Add answer the same -/
theorem add_both (x0 x1 x2 x3 x4 x5 x6 x7 len : Int) (A B : Option Addr) (n c m d : Nat) (rest b : List Int) (w : World) (hK : KTab w) (hm : m ≤ 400) (ha : Bts w A n c rest) (hb : Bts w B m d b) :
    ∃ (y0 y1 y2 y3 y4 y5 y6 y7 : Int) (l : List Int) (len' : Int), (∀ W, Below w.heap.size w W → Calls Tryd.prog 19 #[hashV x0 x1 x2 x3 x4 x5 x6 x7 A n c len, .slice B m d] W (HashIs W y0 y1 y2 y3 y4 y5 y6 y7 l len')) ∧
      (∀ W, Below w.heap.size w W → Calls Tryd.prog 20 #[hashV x0 x1 x2 x3 x4 x5 x6 x7 A n c len, .slice B m d] W (HashIs W y0 y1 y2 y3 y4 y5 y6 y7 l len')) := by
  by_cases hmay : mayB n len = true
  · by_cases hroom : (m : Int) ≤ 1048576 - len
    · obtain ⟨y0, y1, y2, y3, y4, y5, y6, y7, hY⟩ := eight (byBlocks_length [x0, x1, x2, x3, x4, x5, x6, x7] ((rest ++ b).take (whole (rest ++ b))) rfl)
      refine ⟨y0, y1, y2, y3, y4, y5, y6, y7, (rest ++ b).drop (whole (rest ++ b)), len + (m : Int), fun W hW => ?_, fun W hW => ?_⟩
      · exact (add_yes x0 x1 x2 x3 x4 x5 x6 x7 len A B n c m d rest b W (hK.from hW) hmay hroom (ha.below hW) (hb.below hW)).mono fun _ _ h => add_post_is h hY
      · exact (radd_yes x0 x1 x2 x3 x4 x5 x6 x7 len A B n c m d rest b W hmay hroom (ha.below hW) (hb.below hW)).mono fun _ _ h => add_post_is h hY
    · refine ⟨0, 0, 0, 0, 0, 0, 0, 0, [], 0, fun W _ => ?_, fun W _ => ?_⟩
      · exact (add_zero_room x0 x1 x2 x3 x4 x5 x6 x7 len A B n c m d W hmay (by omega) (by omega)).mono fun _ _ h => zero_is h
      · exact (radd_zero_room x0 x1 x2 x3 x4 x5 x6 x7 len A B n c m d W hmay (by omega) (by omega)).mono fun _ _ h => zero_is h
  · have hmay : mayB n len = false := by simpa using hmay
    refine ⟨0, 0, 0, 0, 0, 0, 0, 0, [], 0, fun W _ => ?_, fun W _ => ?_⟩
    · exact (add_zero_may x0 x1 x2 x3 x4 x5 x6 x7 len A B n c m d W hmay).mono fun _ _ h => zero_is h
    · exact (radd_zero_may x0 x1 x2 x3 x4 x5 x6 x7 len A B n c m d W hmay).mono fun _ _ h => zero_is h
/-- .. and End -/
theorem end_both (x0 x1 x2 x3 x4 x5 x6 x7 len : Int) (A : Option Addr) (n c : Nat) (rest : List Int) (w : World) (hK : KTab w) (ha : Bts w A n c rest) :
    ∃ Z : List Int, Z.length = 32 ∧ (∀ W, Below w.heap.size w W → Calls Tryd.prog 24 #[hashV x0 x1 x2 x3 x4 x5 x6 x7 A n c len] W fun e w' => e = .returned (.agg (idv Z)) ∧ Below W.heap.size W w') ∧
      (∀ W, Below w.heap.size w W → Calls Tryd.prog 25 #[hashV x0 x1 x2 x3 x4 x5 x6 x7 A n c len] W fun e w' => e = .returned (.agg (idv Z)) ∧ Below W.heap.size W w') := by
  by_cases hmay : mayB n len = true
  · exact ⟨endL [x0, x1, x2, x3, x4, x5, x6, x7] rest len.toNat, by rw [endL]; exact spelt_length _, fun W hW => end_yes x0 x1 x2 x3 x4 x5 x6 x7 len A n c rest W (hK.from hW) hmay (ha.below hW), fun W hW => rend_yes x0 x1 x2 x3 x4 x5 x6 x7 len A n c rest W hmay (ha.below hW)⟩
  · have hmay : mayB n len = false := by simpa using hmay
    exact ⟨List.replicate 32 0, rfl, fun W _ => end_zero x0 x1 x2 x3 x4 x5 x6 x7 len A n c W hmay, fun W _ => rend_zero x0 x1 x2 x3 x4 x5 x6 x7 len A n c W hmay⟩
set_option maxHeartbeats 400000 in
theorem tells_few (x0 x1 x2 x3 x4 x5 x6 x7 len : Int) (A B : Option Addr) (n c m d : Nat) (w : World) (hK : KTab w) (hn : n ≤ 9223372036854775807) (hm : m ≤ 9223372036854775807) (h : 100 < n ∨ 400 < m) :
    Calls Tryd.prog 3 #[hashV x0 x1 x2 x3 x4 x5 x6 x7 A n c len, .slice B m d] w fun e w' => e = .returned (.bool true) ∧ Below w.heap.size w w' := by
  by_cases hf : (n : Int) ≤ 100
  · have hm3 : 400 < (m : Int) := by omega
    clear h
    go_enter Tryd.func3, Tryd.ntmps3
    go_wp2_with fail
    refine (awake_any _ (hK.from ((Below.refl _ _).alloc (Nat.le_refl _) _))).mono ?_
    rintro e w1 ⟨rfl, hb1⟩
    obtain ⟨hB1, _, hX1⟩ := after_one hb1
    obtain ⟨b0, b1, b2, b3, b4, b5, b6, b7, b8, b9⟩ := box_cells hX1
    clear hb1 hX1
    go_wp2_with (go_at_call 16; refine (few_any _ _ _ _ _ _ _ _ _ _ _ _ _ hn).mono ?_; rintro e w0 ⟨rfl, rfl⟩)
    go_ret
    exact ⟨rfl, hB1.alloc hB1.size _⟩
  · clear h
    go_enter Tryd.func3, Tryd.ntmps3
    go_wp2_with fail
    refine (awake_any _ (hK.from ((Below.refl _ _).alloc (Nat.le_refl _) _))).mono ?_
    rintro e w1 ⟨rfl, hb1⟩
    obtain ⟨hB1, _, hX1⟩ := after_one hb1
    obtain ⟨b0, b1, b2, b3, b4, b5, b6, b7, b8, b9⟩ := box_cells hX1
    clear hb1 hX1
    go_wp2_with (go_at_call 16; refine (few_any _ _ _ _ _ _ _ _ _ _ _ _ _ hn).mono ?_; rintro e w0 ⟨rfl, rfl⟩)
    go_ret
    exact ⟨rfl, hB1.alloc hB1.size _⟩


set_option maxRecDepth 100000 in
set_option maxHeartbeats 2000000 in
theorem tells_good (x0 x1 x2 x3 x4 x5 x6 x7 len : Int) (A B : Option Addr) (n c m d : Nat) (rest b : List Int) (w : World) (hK : KTab w) (hn : n ≤ 100) (hm : m ≤ 400) (ha : Bts w A n c rest) (hb : Bts w B m d b) :
    Calls Tryd.prog 3 #[hashV x0 x1 x2 x3 x4 x5 x6 x7 A n c len, .slice B m d] w fun e w' => e = .returned (.bool true) ∧ Below w.heap.size w w' := by
  obtain ⟨y0, y1, y2, y3, y4, y5, y6, y7, l, len', ca, cr⟩ := add_both x0 x1 x2 x3 x4 x5 x6 x7 len A B n c m d rest b w hK hm ha hb
  obtain ⟨Z, hZl, ce, cf⟩ := end_both x0 x1 x2 x3 x4 x5 x6 x7 len A n c rest w hK ha
  obtain ⟨Y, hY⟩ : ∃ Y, Y = sumL b := ⟨_, rfl⟩
  have hYl : Y.length = 32 := by rw [hY]; exact sum_length _
  have heqZ : ∀ w, (Op.equalIn 10000 33 (.agg (idv Z)) (.agg (idv Z))).run Tryd.prog w = .ok true w := fun w => (eq32 Z Z hZl hZl w).trans (by rw [beq_self_eq_true])
  have heqY : ∀ w, (Op.equalIn 10000 33 (.agg (idv Y)) (.agg (idv Y))).run Tryd.prog w = .ok true w := fun w => (eq32 Y Y hYl hYl w).trans (by rw [beq_self_eq_true])
  obtain ⟨M, hM⟩ : ∃ M, M = mayB n len := ⟨_, rfl⟩
  have hf : (n : Int) ≤ 100 := by omega
  have hm3 : (m : Int) ≤ 400 := by omega
  have hn0 : n ≤ 9223372036854775807 := by omega
  have CA := Lib.hid ca
  have CR := Lib.hid cr
  have CE := Lib.hid ce
  have CF := Lib.hid cf
  have HY := Lib.hid hY
  have HM := Lib.hid hM
  clear ca cr ce cf hY hM hZl hYl
  go_enter Tryd.func3, Tryd.ntmps3
  go_wp2_with fail
  refine (awake_any _ (hK.from ((Below.refl _ _).alloc (Nat.le_refl _) _))).mono ?_
  rintro e w1 ⟨rfl, hb1⟩
  obtain ⟨hB1, _, hX1⟩ := after_one hb1
  have hbe : BoxAt w1 w.heap.size x0 x1 x2 x3 x4 x5 x6 x7 A n c len := hX1
  obtain ⟨b0, b1, b2, b3, b4, b5, b6, b7, b8, b9⟩ := BoxAt.cells hbe
  have hz1 : w.heap.size < w1.heap.size := (Array.getElem?_eq_some_iff.1 hbe).1
  clear hb1 hX1
  go_wp2_with (first
    | (go_at_call 16; refine (few_any _ _ _ _ _ _ _ _ _ _ _ _ _ hn0).mono ?_; rintro e w0 ⟨rfl, rfl⟩)
    | (go_at_call 17; refine (rmay_any _ _ _ _ _ _ _ _ _ _ _ _ _).mono ?_; rintro e w0 ⟨he, hw0⟩
       rw [← HM.out] at he
       subst he
       have hbW : Below w1.heap.size w1 w0 := by rw [← hw0]; exact two_below w1 _ _
       have hbe2 := hbe.below hbW
       have hB2 : Below w.heap.size w w0 := hB1.trans (hbW.mono hB1.size)
       obtain ⟨b0, b1, b2, b3, b4, b5, b6, b7, b8, b9⟩ := BoxAt.cells hbe2
       clear hw0))
  go_region_held3 (fun w' => w'.cell? ⟨w.heap.size, 0, none⟩ = some (.int .u32 x0) ∧ w'.cell? ⟨w.heap.size, 1, none⟩ = some (.int .u32 x1) ∧ w'.cell? ⟨w.heap.size, 2, none⟩ = some (.int .u32 x2) ∧ w'.cell? ⟨w.heap.size, 3, none⟩ = some (.int .u32 x3) ∧ w'.cell? ⟨w.heap.size, 4, none⟩ = some (.int .u32 x4) ∧ w'.cell? ⟨w.heap.size, 5, none⟩ = some (.int .u32 x5) ∧ w'.cell? ⟨w.heap.size, 6, none⟩ = some (.int .u32 x6) ∧ w'.cell? ⟨w.heap.size, 7, none⟩ = some (.int .u32 x7) ∧ w'.cell? ⟨w.heap.size, 8, none⟩ = some (.slice A n c) ∧ w'.cell? ⟨w.heap.size, 9, none⟩ = some (.int .i64 len))
    (first | with_reducible exact BoxAt.cells hbe2 | with_reducible exact BoxAt.cells hbe2.draw1 | with_reducible exact BoxAt.cells hbe3 | with_reducible exact BoxAt.cells hbe4 | with_reducible exact BoxAt.cells hbe5)
    (first
    | (go_at_call 19; refine (CA.out _ hB2.drew).mono ?_; rintro e w3 ⟨A3, n3, c3, rfl, hb3, hc3⟩
       have hc3 := below_draw hc3
       have hbe3 := hbe2.below hc3
       have hB3 : Below w.heap.size w w3 := hB2.trans (hc3.mono hB2.size)
       clear hc3)
    | (go_at_call 20; refine (CR.out _ hB3).mono ?_; rintro e w4 ⟨A4, n4, c4, rfl, hb4, hc4⟩
       have hbe4 := hbe3.below hc4
       have hb34 := hb3.below hc4
       have hB4 : Below w.heap.size w w4 := hB3.trans (hc4.mono hB3.size)
       clear hc4 hb3)
    | (go_at_call 18; refine (same_yes _ _ _ _ _ _ _ _ len' A3 A4 n3 c3 n4 c4 l w4 hb34 hb4).mono ?_; rintro e w5 ⟨rfl, hc5⟩
       have hbe5 := hbe4.below hc5
       have hB5 : Below w.heap.size w w5 := hB4.trans (hc5.mono hB4.size)
       clear hc5 hb34 hb4))
  clear hbe hbe2 hbe3 hbe4 b0 b1 b2 b3 b4 b5 b6 b7 b8 b9
  obtain ⟨b0, b1, b2, b3, b4, b5, b6, b7, b8, b9⟩ := BoxAt.cells hbe5
  go_wp2_with (first
    | (go_at_call 21; refine (new_any w5).mono ?_; rintro e w6 ⟨rfl, hc6⟩
       have hbe6 := hbe5.below hc6
       have hB6 : Below w.heap.size w w6 := hB5.trans (hc6.mono hB5.size)
       clear hc6)
    | (go_at_call 22; refine (rnew_any w6).mono ?_; rintro e w7 ⟨rfl, hc7⟩
       have hbe7 := hbe6.below hc7
       have hB7 : Below w.heap.size w w7 := hB6.trans (hc7.mono hB6.size)
       clear hc7)
    | (go_at_call 18; refine (same_yes _ _ _ _ _ _ _ _ 0 none none 0 0 0 0 [] w7 (Bts.nil w7) (Bts.nil w7)).mono ?_; rintro e w8 ⟨rfl, hc8⟩
       have hbe8 := hbe7.below hc8
       have hB8 : Below w.heap.size w w8 := hB7.trans (hc8.mono hB7.size)
       clear hc8))
  clear hbe5 hbe6 hbe7 b0 b1 b2 b3 b4 b5 b6 b7 b8 b9
  go_region_held3 (fun w' => w'.cell? ⟨w.heap.size, 0, none⟩ = some (.int .u32 x0) ∧ w'.cell? ⟨w.heap.size, 1, none⟩ = some (.int .u32 x1) ∧ w'.cell? ⟨w.heap.size, 2, none⟩ = some (.int .u32 x2) ∧ w'.cell? ⟨w.heap.size, 3, none⟩ = some (.int .u32 x3) ∧ w'.cell? ⟨w.heap.size, 4, none⟩ = some (.int .u32 x4) ∧ w'.cell? ⟨w.heap.size, 5, none⟩ = some (.int .u32 x5) ∧ w'.cell? ⟨w.heap.size, 6, none⟩ = some (.int .u32 x6) ∧ w'.cell? ⟨w.heap.size, 7, none⟩ = some (.int .u32 x7) ∧ w'.cell? ⟨w.heap.size, 8, none⟩ = some (.slice A n c) ∧ w'.cell? ⟨w.heap.size, 9, none⟩ = some (.int .i64 len))
    (first | with_reducible exact BoxAt.cells hbe8.draw1 | with_reducible exact BoxAt.cells hbe9 | with_reducible exact BoxAt.cells hbe10 | with_reducible exact BoxAt.cells hbe11 | with_reducible exact BoxAt.cells hbe12 | with_reducible exact BoxAt.cells hbe13)
    (first
    | (go_at_call 23; refine (may_any _ _ _ _ _ _ _ _ _ _ _ _ w8.drew).mono ?_; rintro e w9 ⟨he, hw9⟩
       rw [← HM.out] at he
       subst he
       have hc9 : Below w8.heap.size w8 w9 := by rw [← hw9]; exact ((Below.refl _ w8).drew).alloc (Nat.le_refl _) _
       have hbe9 := hbe8.below hc9
       have hB9 : Below w.heap.size w w9 := hB8.trans (hc9.mono hB8.size)
       clear hc9 hw9)
    | (go_at_call 24; refine (CE.out w9 hB9).mono ?_; rintro e w10 ⟨rfl, hc10⟩
       have hbe10 := hbe9.below hc10
       have hB10 : Below w.heap.size w w10 := hB9.trans (hc10.mono hB9.size)
       clear hc10)
    | (go_at_call 25; refine (CF.out w10 hB10).mono ?_; rintro e w11 ⟨rfl, hc11⟩
       have hbe11 := hbe10.below hc11
       have hB11 : Below w.heap.size w w11 := hB10.trans (hc11.mono hB10.size)
       clear hc11)
    | (go_at_call 26; refine (sum_yes B m d b w11 (hK.from hB11) (by omega) (hb.below hB11)).mono ?_; rintro e w12 ⟨he, hc12⟩
       rw [← HY.out] at he
       subst he
       have hbe12 := hbe11.below hc12
       have hB12 : Below w.heap.size w w12 := hB11.trans (hc12.mono hB11.size)
       clear hc12)
    | (go_at_call 27; refine (rsum_yes B m d b w12 (by omega) (hb.below hB12)).mono ?_; rintro e w13 ⟨he, hc13⟩
       rw [← HY.out] at he
       subst he
       have hbe13 := hbe12.below hc13
       have hB13 : Below w.heap.size w w13 := hB12.trans (hc13.mono hB12.size)
       clear hc13))
  go_wp2
  go_ret
  exact ⟨by simp, hB13⟩

theorem tells_all (x0 x1 x2 x3 x4 x5 x6 x7 len : Int) (A B : Option Addr) (n c m d : Nat) (rest b : List Int) (w : World) (hK : KTab w) (ha : Bts w A n c rest) (hb : Bts w B m d b) :
    Calls Tryd.prog 3 #[hashV x0 x1 x2 x3 x4 x5 x6 x7 A n c len, .slice B m d] w fun e w' => e = .returned (.bool true) ∧ Below w.heap.size w w' := by
  by_cases h : 100 < n ∨ 400 < m
  · exact tells_few x0 x1 x2 x3 x4 x5 x6 x7 len A B n c m d w hK (Nat.le_trans ha.le (by have := ha.max; unfold maxLen at this; omega)) (Nat.le_trans hb.le (by have := hb.max; unfold maxLen at this; omega)) h
  · exact tells_good x0 x1 x2 x3 x4 x5 x6 x7 len A B n c m d rest b w hK (by omega) (by omega) ha hb
end Go.Proofs.YtomfnnhdihbpfaaDoor
