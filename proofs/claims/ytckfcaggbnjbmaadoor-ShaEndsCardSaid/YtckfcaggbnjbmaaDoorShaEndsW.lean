/- The walk over the law ShaEnds: of a block in two parts nothing is left over. -/
import Derived.Test.YtckfcaggbnjbmaaDoorShaSta
namespace Go.Proofs.YtckfcaggbnjbmaaDoor
open Go.RowKit

theorem below_then {B : Nat} {w W w' : World} (h : Below B w W) (hB : B ≤ W.heap.size) (hb : Below W.heap.size W w') : Below B w w' := h.trans (hb.mono hB)
theorem drew_alloc (w : World) (o : Obj) : Below w.heap.size w (w.drew.alloc o) := ((Below.refl _ w).drew).alloc (Nat.le_refl _) o
theorem one_alloc (w : World) (o : Obj) : Below w.heap.size w (w.alloc o) := (Below.refl _ w).alloc (Nat.le_refl _) o
theorem after_drew {w w1 : World} {o1 : Obj} (h : Below (w.drew.alloc o1).heap.size (w.drew.alloc o1) w1) : w1.heap[w.heap.size]? = some o1 := (after_one (w := w.drew) h).2.2
theorem after_alloc {w w1 : World} {o1 : Obj} (h : Below (w.alloc o1).heap.size (w.alloc o1) w1) : w1.heap[w.heap.size]? = some o1 := (after_one h).2.2
/-- the same call, from whatever world that has what the first has -/
theorem new_sta_at (l : List Int) (B : Option Addr) (m d : Nat) (w W : World) (hW : Below w.heap.size w W) (hK : KTab w) (hm : m ≤ 1048576) (hb : Bts w B m d l) :
    Calls Tryd.prog 13 #[hashV 1779033703 3144134277 1013904242 2773480762 1359893119 2600822924 528734635 1541459225 none 0 0 0, .slice B m d] W (StaPost W iList l (m : Int)) :=
  new_sta l B m d W (hK.from hW) hm (hb.below hW)
theorem add_sta_at (x l b : List Int) (y0 y1 y2 y3 y4 y5 y6 y7 len : Int) (A B : Option Addr) (n c m d : Nat) (w W : World) (hW : Below w.heap.size w W) (hK : KTab w) (hs : Sta w x l y0 y1 y2 y3 y4 y5 y6 y7 A n c) (hb : Bts w B m d b)
    (h0 : 0 ≤ len) (hmod : len % 64 = (l.length : Int) % 64) (hroom : len + (m : Int) ≤ 1048576) :
    Calls Tryd.prog 13 #[hashV y0 y1 y2 y3 y4 y5 y6 y7 A n c len, .slice B m d] W (StaPost W x (l ++ b) (len + (m : Int))) :=
  add_sta x l b y0 y1 y2 y3 y4 y5 y6 y7 len A B n c m d W (hK.from hW) (hs.below hW) (hb.below hW) h0 hmod hroom

set_option maxHeartbeats 400000 in
theorem ends_not (A0 : Option Addr) (n0 c0 : Nat) (k : Int) (w : World) (hK : KTab w) (_h0 : n0 ≤ 9223372036854775807) (h : n0 ≠ 64 ∨ k < 0 ∨ 64 < k) :
    Calls Tryd.prog 8 #[.slice A0 n0 c0, .int .i64 k] w fun e w' => e = .returned (.bool true) ∧ Below w.heap.size w w' := by
  by_cases g0 : n0 = 64
  · have e0 : ((n0 : Int) != 64) = false := by rw [bne_eq_false_iff_eq]; omega
    by_cases g1 : k < 0
    · clear h g0
      go_enter Tryd.func8, Tryd.ntmps8
      go_wp2_with (go_at_call 9; refine (awake_any _ hK).mono ?_; rintro e w1 ⟨rfl, hb1⟩)
      go_ret
      exact ⟨rfl, hb1⟩
    · have g2 : 64 < k := by omega
      clear h g0
      go_enter Tryd.func8, Tryd.ntmps8
      go_wp2_with (go_at_call 9; refine (awake_any _ hK).mono ?_; rintro e w1 ⟨rfl, hb1⟩)
      go_ret
      exact ⟨rfl, hb1⟩
  · have e0 : ((n0 : Int) != 64) = true := by rw [bne_iff_ne]; omega
    clear h g0
    go_enter Tryd.func8, Tryd.ntmps8
    go_wp2_with (go_at_call 9; refine (awake_any _ hK).mono ?_; rintro e w1 ⟨rfl, hb1⟩)
    go_ret
    exact ⟨rfl, hb1⟩

set_option maxRecDepth 100000 in
set_option maxHeartbeats 2000000 in
theorem ends_good (A0 : Option Addr) (c0 k : Nat) (l : List Int) (w : World) (hK : KTab w) (hk : k ≤ 64) (hb : Bts w A0 64 c0 l) :
    Calls Tryd.prog 8 #[.slice A0 64 c0, .int .i64 k] w fun e w' => e = .returned (.bool true) ∧ Below w.heap.size w w' := by
  obtain ⟨Z, hZ⟩ : ∃ Z, Z = sumL l := ⟨_, rfl⟩
  have hZl : Z.length = 32 := by rw [hZ]; exact sum_length _
  have HZ := Lib.hid hZ
  have hl := hb.len
  have HL := Lib.hid hl
  obtain ⟨hto, hbt1⟩ := run_to hb (k : Int) (hi := k) rfl hk
  obtain ⟨A2, hfrom, hbt2⟩ := run_from hb (k : Int) (lo := k) rfl hk
  have hcat := List.take_append_drop k l
  have hlt : (l.take k).length = k := by rw [List.length_take]; omega
  have HC := Lib.hid hcat
  have HT := Lib.hid hlt
  have heq := eq32 Z Z hZl hZl
  have hk0 : 0 ≤ (k : Int) := by omega
  have hk1 : (k : Int) ≤ 64 := by omega
  clear hZ hZl hl hcat hlt
  go_enter Tryd.func8, Tryd.ntmps8
  go_wp2_with (go_at_call 9; refine (awake_any _ hK).mono ?_; rintro e w1 ⟨rfl, hb1⟩)
  have hk2 : k ≤ 1048576 := by omega
  have hr1 : (k : Int) % 64 = ((l.take k).length : Int) % 64 := by rw [HT.out]
  have hr2 : (k : Int) + ((64 - k : Nat) : Int) ≤ 1048576 := by omega
  have hsum : (k : Int) + ((64 - k : Nat) : Int) = 64 := by omega
  have HR1 := Lib.hid hr1
  have HSUM := Lib.hid hsum
  clear hr1 hsum
  go_region_held3 (fun _ => True) (first | trivial)
    (first
    | (go_at_call 15; refine (new_any _).mono ?_; rintro e w2 ⟨rfl, hb2⟩
       have hC2 : Below w1.heap.size w1 w2 := by first | exact below_draw hb2 | exact below_then (drew_alloc w1 _) (by simp) hb2
       have hB2 : Below w.heap.size w w2 := hb1.trans (hC2.mono hb1.size)
       first | (have hXa2 : BoxAt w2 w1.heap.size 0 0 0 0 0 0 0 0 none 0 0 0 := after_drew hb2) | skip)
    | (go_at_call 13; (with_reducible refine (new_sta_at (l.take k) A0 k c0 w2 _ ?_ (hK.from hB2) hk2 (hbt1.below hB2)).mono ?_); (first | exact Below.refl _ _ | exact one_alloc w2 _); rintro e w3 ⟨y0, y1, y2, y3, y4, y5, y6, y7, A3, n3, c3, rfl, hs3, hb3⟩
       have hC3 : Below w2.heap.size w2 w3 := by first | exact hb3 | exact below_then (one_alloc w2 _) (by simp) hb3
       have hB3 : Below w.heap.size w w3 := hB2.trans (hC3.mono hB2.size)
       first | (have hXb3 : BoxAt w3 w2.heap.size 0 0 0 0 0 0 0 0 none 0 0 0 := after_alloc hb3) | (have hXa3 := hXa2.below hC3) | skip)
    | (go_at_call 13; (with_reducible refine (add_sta_at iList (l.take k) (l.drop k) y0 y1 y2 y3 y4 y5 y6 y7 (k : Int) A3 A2 n3 c3 (64 - k) (c0 - k) w3 _ ?_ (hK.from hB3) hs3 (hbt2.below hB3) hk0 HR1.out hr2).mono ?_); (first | exact Below.refl _ _ | exact one_alloc w3 _); rintro e w4 ⟨z0, z1, z2, z3, z4, z5, z6, z7, A4, n4, c4, he, hs4, hb4⟩
       rw [HSUM.out] at he
       subst he
       have hC4 : Below w3.heap.size w3 w4 := by first | exact hb4 | exact below_then (one_alloc w3 _) (by simp) hb4
       have hB4 : Below w.heap.size w w4 := hB3.trans (hC4.mono hB3.size)
       rw [HC.out] at hs4
       first | (have hXc4 : BoxAt w4 w3.heap.size 0 0 0 0 0 0 0 0 none 0 0 0 := after_alloc hb4; obtain ⟨o0, o1, o2, o3, o4, o5, o6, o7, o8, o9⟩ := BoxAt.cells hXc4; obtain ⟨f0, f1, f2, f3, f4, f5, f6, f7, f8, f9⟩ := BoxAt.free hXc4) | (have hXb4 := hXb3.below hC4; obtain ⟨o0, o1, o2, o3, o4, o5, o6, o7, o8, o9⟩ := BoxAt.cells hXb4; obtain ⟨f0, f1, f2, f3, f4, f5, f6, f7, f8, f9⟩ := BoxAt.free hXb4) | (have hXa4 := hXa3.below hC4; obtain ⟨o0, o1, o2, o3, o4, o5, o6, o7, o8, o9⟩ := BoxAt.cells hXa4; obtain ⟨f0, f1, f2, f3, f4, f5, f6, f7, f8, f9⟩ := BoxAt.free hXa4) | skip))
  · generalize hW : World.alloc _ _ = W
    obtain ⟨hbW, _, hX0⟩ := named_one hW
    have hbe : BoxAt W w4.heap.size z0 z1 z2 z3 z4 z5 z6 z7 A4 n4 c4 64 := hX0
    have hsW := hs4.below hbW
    have hBW : Below w.heap.size w W := hB4.trans (hbW.mono hB4.size)
    clear hW hX0 hbW hs4
    have hn4 := hsW.size
    have hl64 := HL.out
    have ht : ((n4 : Int) == 0) = true := by rw [beq_iff_eq]; omega
    have hgl := (Array.getElem?_eq_some_iff.1 hbe).1
    have hle : (64 : Int) = (l.length : Int) := by omega
    have hlm : l.length ≤ 1048576 := by omega
    have HLE := Lib.hid hle
    clear hn4 hl64 hle
    go_wp2_with (first
      | (go_at_call 15; refine (new_any _).mono ?_; rintro e w5 ⟨rfl, hb5⟩
         have hbe5 := hbe.below hb5
         have hs5 := hsW.below hb5
         have hB5 : Below w.heap.size w w5 := hBW.trans (hb5.mono hBW.size))
      | (go_at_call 13; refine (new_sta l A0 64 c0 w5 (hK.from hB5) (by omega) (hb.below hB5)).mono ?_; rintro e w6 ⟨u0, u1, u2, u3, u4, u5, u6, u7, A6, n6, c6, he6, hs6, hb6⟩
         have he7 : e = .returned (hashV u0 u1 u2 u3 u4 u5 u6 u7 A6 n6 c6 64) := he6
         subst he7
         have hreg := hsW.reg.symm.trans hs6.reg
         simp only [List.cons.injEq, and_true] at hreg
         obtain ⟨rfl, rfl, rfl, rfl, rfl, rfl, rfl, rfl⟩ := hreg
         have hbe6 := hbe5.below hb6
         have hsA := hs5.below hb6
         have hB6 : Below w.heap.size w w6 := hB5.trans (hb6.mono hB5.size)
         obtain ⟨p0, p1, p2, p3, p4, p5, p6, p7, p8, p9⟩ := BoxAt.cells hbe6
         have hg6 := (Array.getElem?_eq_some_iff.1 hbe6).1
         clear he6 hbe5 hs5)
      | (go_at_call 12; refine (same_yes _ _ _ _ _ _ _ _ 64 A4 A6 n4 c4 n6 c6 (l.drop (whole l)) _ (hsA.rest.more _) (hs6.rest.more _)).mono ?_; rintro e w7 ⟨rfl, hb7⟩
         have hb7' := (after_one hb7).1
         have hbe7 := hbe6.below hb7'
         have hs7 := hsA.below hb7'
         have hB7 : Below w.heap.size w w7 := hB6.trans (hb7'.mono hB6.size)
         clear p0 p1 p2 p3 p4 p5 p6 p7 p8 p9
         obtain ⟨p0, p1, p2, p3, p4, p5, p6, p7, p8, p9⟩ := BoxAt.cells hbe7)
      | (go_at_call 18; refine (end_sta l _ _ _ _ _ _ _ _ 64 A4 n4 c4 w7 (hK.from hB7) hs7 HLE.out hlm).mono ?_; rintro e w8 ⟨he8, hb8⟩
         rw [← HZ.out] at he8
         subst he8
         have hB8 : Below w.heap.size w w8 := hB7.trans (hb8.mono hB7.size))
      | (go_at_call 20; refine (sum_yes A0 64 c0 l w8 (hK.from hB8) (by omega) (hb.below hB8)).mono ?_; rintro e w9 ⟨he9, hb9⟩
         rw [← HZ.out] at he9
         subst he9
         have hB9 : Below w.heap.size w w9 := hB8.trans (hb9.mono hB8.size)))
    go_ret
    exact ⟨rfl, hB9⟩
  · generalize hW : World.setCell _ _ _ = W
    have hbe : BoxAt W w3.heap.size z0 z1 z2 z3 z4 z5 z6 z7 A4 n4 c4 64 := by rw [← hW]; exact heap_put10 hXc4 _ _ _ _ _ _ _ _ _ _
    have hsW : Sta W iList l z0 z1 z2 z3 z4 z5 z6 z7 A4 n4 c4 := by rw [← hW]; exact ⟨hs4.reg, hs4.rest.put10 hXc4 _ _ _ _ _ _ _ _ _ _⟩
    have hBW : Below w.heap.size w W := by rw [← hW]; exact below_put10 hB3.size hB4 _ _ _ _ _ _ _ _ _ _
    clear hW hXc4 hs4 o0 o1 o2 o3 o4 o5 o6 o7 o8 o9 f0 f1 f2 f3 f4 f5 f6 f7 f8 f9
    have hn4 := hsW.size
    have hl64 := HL.out
    have ht : ((n4 : Int) == 0) = true := by rw [beq_iff_eq]; omega
    have hgl := (Array.getElem?_eq_some_iff.1 hbe).1
    have hle : (64 : Int) = (l.length : Int) := by omega
    have hlm : l.length ≤ 1048576 := by omega
    have HLE := Lib.hid hle
    clear hn4 hl64 hle
    go_wp2_with (first
      | (go_at_call 15; refine (new_any _).mono ?_; rintro e w5 ⟨rfl, hb5⟩
         have hbe5 := hbe.below hb5
         have hs5 := hsW.below hb5
         have hB5 : Below w.heap.size w w5 := hBW.trans (hb5.mono hBW.size))
      | (go_at_call 13; refine (new_sta l A0 64 c0 w5 (hK.from hB5) (by omega) (hb.below hB5)).mono ?_; rintro e w6 ⟨u0, u1, u2, u3, u4, u5, u6, u7, A6, n6, c6, he6, hs6, hb6⟩
         have he7 : e = .returned (hashV u0 u1 u2 u3 u4 u5 u6 u7 A6 n6 c6 64) := he6
         subst he7
         have hreg := hsW.reg.symm.trans hs6.reg
         simp only [List.cons.injEq, and_true] at hreg
         obtain ⟨rfl, rfl, rfl, rfl, rfl, rfl, rfl, rfl⟩ := hreg
         have hbe6 := hbe5.below hb6
         have hsA := hs5.below hb6
         have hB6 : Below w.heap.size w w6 := hB5.trans (hb6.mono hB5.size)
         obtain ⟨p0, p1, p2, p3, p4, p5, p6, p7, p8, p9⟩ := BoxAt.cells hbe6
         have hg6 := (Array.getElem?_eq_some_iff.1 hbe6).1
         clear he6 hbe5 hs5)
      | (go_at_call 12; refine (same_yes _ _ _ _ _ _ _ _ 64 A4 A6 n4 c4 n6 c6 (l.drop (whole l)) _ (hsA.rest.more _) (hs6.rest.more _)).mono ?_; rintro e w7 ⟨rfl, hb7⟩
         have hb7' := (after_one hb7).1
         have hbe7 := hbe6.below hb7'
         have hs7 := hsA.below hb7'
         have hB7 : Below w.heap.size w w7 := hB6.trans (hb7'.mono hB6.size)
         clear p0 p1 p2 p3 p4 p5 p6 p7 p8 p9
         obtain ⟨p0, p1, p2, p3, p4, p5, p6, p7, p8, p9⟩ := BoxAt.cells hbe7)
      | (go_at_call 18; refine (end_sta l _ _ _ _ _ _ _ _ 64 A4 n4 c4 w7 (hK.from hB7) hs7 HLE.out hlm).mono ?_; rintro e w8 ⟨he8, hb8⟩
         rw [← HZ.out] at he8
         subst he8
         have hB8 : Below w.heap.size w w8 := hB7.trans (hb8.mono hB7.size))
      | (go_at_call 20; refine (sum_yes A0 64 c0 l w8 (hK.from hB8) (by omega) (hb.below hB8)).mono ?_; rintro e w9 ⟨he9, hb9⟩
         rw [← HZ.out] at he9
         subst he9
         have hB9 : Below w.heap.size w w9 := hB8.trans (hb9.mono hB8.size)))
    go_ret
    exact ⟨rfl, hB9⟩
  · generalize hW : World.setCell _ _ _ = W
    have hbe : BoxAt W w2.heap.size z0 z1 z2 z3 z4 z5 z6 z7 A4 n4 c4 64 := by rw [← hW]; exact heap_put10 hXb4 _ _ _ _ _ _ _ _ _ _
    have hsW : Sta W iList l z0 z1 z2 z3 z4 z5 z6 z7 A4 n4 c4 := by rw [← hW]; exact ⟨hs4.reg, hs4.rest.put10 hXb4 _ _ _ _ _ _ _ _ _ _⟩
    have hBW : Below w.heap.size w W := by rw [← hW]; exact below_put10 hB2.size hB4 _ _ _ _ _ _ _ _ _ _
    clear hW hXb4 hs4 o0 o1 o2 o3 o4 o5 o6 o7 o8 o9 f0 f1 f2 f3 f4 f5 f6 f7 f8 f9
    have hn4 := hsW.size
    have hl64 := HL.out
    have ht : ((n4 : Int) == 0) = true := by rw [beq_iff_eq]; omega
    have hgl := (Array.getElem?_eq_some_iff.1 hbe).1
    have hle : (64 : Int) = (l.length : Int) := by omega
    have hlm : l.length ≤ 1048576 := by omega
    have HLE := Lib.hid hle
    clear hn4 hl64 hle
    go_wp2_with (first
      | (go_at_call 15; refine (new_any _).mono ?_; rintro e w5 ⟨rfl, hb5⟩
         have hbe5 := hbe.below hb5
         have hs5 := hsW.below hb5
         have hB5 : Below w.heap.size w w5 := hBW.trans (hb5.mono hBW.size))
      | (go_at_call 13; refine (new_sta l A0 64 c0 w5 (hK.from hB5) (by omega) (hb.below hB5)).mono ?_; rintro e w6 ⟨u0, u1, u2, u3, u4, u5, u6, u7, A6, n6, c6, he6, hs6, hb6⟩
         have he7 : e = .returned (hashV u0 u1 u2 u3 u4 u5 u6 u7 A6 n6 c6 64) := he6
         subst he7
         have hreg := hsW.reg.symm.trans hs6.reg
         simp only [List.cons.injEq, and_true] at hreg
         obtain ⟨rfl, rfl, rfl, rfl, rfl, rfl, rfl, rfl⟩ := hreg
         have hbe6 := hbe5.below hb6
         have hsA := hs5.below hb6
         have hB6 : Below w.heap.size w w6 := hB5.trans (hb6.mono hB5.size)
         obtain ⟨p0, p1, p2, p3, p4, p5, p6, p7, p8, p9⟩ := BoxAt.cells hbe6
         have hg6 := (Array.getElem?_eq_some_iff.1 hbe6).1
         clear he6 hbe5 hs5)
      | (go_at_call 12; refine (same_yes _ _ _ _ _ _ _ _ 64 A4 A6 n4 c4 n6 c6 (l.drop (whole l)) _ (hsA.rest.more _) (hs6.rest.more _)).mono ?_; rintro e w7 ⟨rfl, hb7⟩
         have hb7' := (after_one hb7).1
         have hbe7 := hbe6.below hb7'
         have hs7 := hsA.below hb7'
         have hB7 : Below w.heap.size w w7 := hB6.trans (hb7'.mono hB6.size)
         clear p0 p1 p2 p3 p4 p5 p6 p7 p8 p9
         obtain ⟨p0, p1, p2, p3, p4, p5, p6, p7, p8, p9⟩ := BoxAt.cells hbe7)
      | (go_at_call 18; refine (end_sta l _ _ _ _ _ _ _ _ 64 A4 n4 c4 w7 (hK.from hB7) hs7 HLE.out hlm).mono ?_; rintro e w8 ⟨he8, hb8⟩
         rw [← HZ.out] at he8
         subst he8
         have hB8 : Below w.heap.size w w8 := hB7.trans (hb8.mono hB7.size))
      | (go_at_call 20; refine (sum_yes A0 64 c0 l w8 (hK.from hB8) (by omega) (hb.below hB8)).mono ?_; rintro e w9 ⟨he9, hb9⟩
         rw [← HZ.out] at he9
         subst he9
         have hB9 : Below w.heap.size w w9 := hB8.trans (hb9.mono hB8.size)))
    go_ret
    exact ⟨rfl, hB9⟩
  · generalize hW : World.setCell _ _ _ = W
    have hbe : BoxAt W w1.heap.size z0 z1 z2 z3 z4 z5 z6 z7 A4 n4 c4 64 := by rw [← hW]; exact heap_put10 hXa4 _ _ _ _ _ _ _ _ _ _
    have hsW : Sta W iList l z0 z1 z2 z3 z4 z5 z6 z7 A4 n4 c4 := by rw [← hW]; exact ⟨hs4.reg, hs4.rest.put10 hXa4 _ _ _ _ _ _ _ _ _ _⟩
    have hBW : Below w.heap.size w W := by rw [← hW]; exact below_put10 hb1.size hB4 _ _ _ _ _ _ _ _ _ _
    clear hW hXa4 hs4 o0 o1 o2 o3 o4 o5 o6 o7 o8 o9 f0 f1 f2 f3 f4 f5 f6 f7 f8 f9
    have hn4 := hsW.size
    have hl64 := HL.out
    have ht : ((n4 : Int) == 0) = true := by rw [beq_iff_eq]; omega
    have hgl := (Array.getElem?_eq_some_iff.1 hbe).1
    have hle : (64 : Int) = (l.length : Int) := by omega
    have hlm : l.length ≤ 1048576 := by omega
    have HLE := Lib.hid hle
    clear hn4 hl64 hle
    go_wp2_with (first
      | (go_at_call 15; refine (new_any _).mono ?_; rintro e w5 ⟨rfl, hb5⟩
         have hbe5 := hbe.below hb5
         have hs5 := hsW.below hb5
         have hB5 : Below w.heap.size w w5 := hBW.trans (hb5.mono hBW.size))
      | (go_at_call 13; refine (new_sta l A0 64 c0 w5 (hK.from hB5) (by omega) (hb.below hB5)).mono ?_; rintro e w6 ⟨u0, u1, u2, u3, u4, u5, u6, u7, A6, n6, c6, he6, hs6, hb6⟩
         have he7 : e = .returned (hashV u0 u1 u2 u3 u4 u5 u6 u7 A6 n6 c6 64) := he6
         subst he7
         have hreg := hsW.reg.symm.trans hs6.reg
         simp only [List.cons.injEq, and_true] at hreg
         obtain ⟨rfl, rfl, rfl, rfl, rfl, rfl, rfl, rfl⟩ := hreg
         have hbe6 := hbe5.below hb6
         have hsA := hs5.below hb6
         have hB6 : Below w.heap.size w w6 := hB5.trans (hb6.mono hB5.size)
         obtain ⟨p0, p1, p2, p3, p4, p5, p6, p7, p8, p9⟩ := BoxAt.cells hbe6
         have hg6 := (Array.getElem?_eq_some_iff.1 hbe6).1
         clear he6 hbe5 hs5)
      | (go_at_call 12; refine (same_yes _ _ _ _ _ _ _ _ 64 A4 A6 n4 c4 n6 c6 (l.drop (whole l)) _ (hsA.rest.more _) (hs6.rest.more _)).mono ?_; rintro e w7 ⟨rfl, hb7⟩
         have hb7' := (after_one hb7).1
         have hbe7 := hbe6.below hb7'
         have hs7 := hsA.below hb7'
         have hB7 : Below w.heap.size w w7 := hB6.trans (hb7'.mono hB6.size)
         clear p0 p1 p2 p3 p4 p5 p6 p7 p8 p9
         obtain ⟨p0, p1, p2, p3, p4, p5, p6, p7, p8, p9⟩ := BoxAt.cells hbe7)
      | (go_at_call 18; refine (end_sta l _ _ _ _ _ _ _ _ 64 A4 n4 c4 w7 (hK.from hB7) hs7 HLE.out hlm).mono ?_; rintro e w8 ⟨he8, hb8⟩
         rw [← HZ.out] at he8
         subst he8
         have hB8 : Below w.heap.size w w8 := hB7.trans (hb8.mono hB7.size))
      | (go_at_call 20; refine (sum_yes A0 64 c0 l w8 (hK.from hB8) (by omega) (hb.below hB8)).mono ?_; rintro e w9 ⟨he9, hb9⟩
         rw [← HZ.out] at he9
         subst he9
         have hB9 : Below w.heap.size w w9 := hB8.trans (hb9.mono hB8.size)))
    go_ret
    exact ⟨rfl, hB9⟩

/-- the law, whatever comes in -/
theorem ends_any (A0 : Option Addr) (n0 c0 : Nat) (k : Int) (l : List Int) (w : World) (hK : KTab w) (hb : Bts w A0 n0 c0 l) :
    Calls Tryd.prog 8 #[.slice A0 n0 c0, .int .i64 k] w fun e w' => e = .returned (.bool true) ∧ Below w.heap.size w w' := by
  by_cases h : n0 ≠ 64 ∨ k < 0 ∨ 64 < k
  · exact ends_not A0 n0 c0 k w hK (Nat.le_trans hb.le hb.max) h
  · obtain rfl : n0 = 64 := by omega
    obtain ⟨m, rfl⟩ := Int.eq_ofNat_of_zero_le (a := k) (by omega)
    exact ends_good A0 c0 m l w hK (by omega) hb
end Go.Proofs.YtckfcaggbnjbmaaDoor
