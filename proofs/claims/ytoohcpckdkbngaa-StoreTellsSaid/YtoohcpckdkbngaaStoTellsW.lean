/- The walk over the law StoreTells. -/
import Derived.Test.YtoohcpckdkbngaaStoAt
import Derived.Test.YtoohcpckdkbngaaStoAwake
import Derived.Test.YtoohcpckdkbngaaBasTake
namespace Go.Proofs.Ytoohcpckdkbngaa
set_option linter.unusedVariables false
set_option linter.unusedSimpArgs false
open Go.RowKit

set_option maxRecDepth 100000 in
set_option maxHeartbeats 1000000 in
theorem stellsw_no (s t : Sp) (A A9 B : Option Addr) (n c n9 c9 m d : Nat) (b : List Int) (k room : Int) (w : World) (hb : Bts w A n c s.data) (hb9 : Bts w A9 n9 c9 t.data) (h2 : Bts w B m d b) (h : 5000 < n ∨ 5000 < n9 ∨ 5000 < m) :
    Calls Try.prog 3 #[s.val A n c, t.val A9 n9 c9, .slice B m d, .int .i64 k, .int .i64 room] w (GBool true w) := by
  obtain ⟨cap, data, sure⟩ := s
  obtain ⟨cap9, data9, sure9⟩ := t
  simp only at hb hb9
  unfold Sp.val
  simp only
  have hn := hb.small
  have hn9 := hb9.small
  have HT := Lib.hid (rfl : true = true)
  have HBw := Lib.hid (Below.refl w.heap.size w)
  by_cases h5 : n ≤ 5000
  · have FN := Lib.hid (show decide (n ≤ 5000) = true from decide_eq_true h5)
    by_cases h7 : n9 ≤ 5000
    · have FD := Lib.hid (show decide (n9 ≤ 5000) = true from decide_eq_true h7)
      have h6' : (5000 : Int) < m := by omega
      clear h hb hb9 h2
      go_enter Try.func3, Try.ntmps3
      go_wp2_with (first
        | (go_at_call 9
           refine (sawake_any _).mono ?_
           rintro e w1 ⟨he, hbx⟩
           rw [HT.out] at he
           subst he
           obtain ⟨hX, hs1, y1, y2⟩ := after_two hbx
           have HBw1 := Lib.hid hX
           have HXsw1 := Lib.hid (show BoxT w1 w.heap.size 24 cap A n c sure from y1)
           have HXdw1 := Lib.hid (show BoxT w1 (w.heap.size + 1) 24 cap9 A9 n9 c9 sure9 from y2)
           obtain ⟨s0, s1, s2⟩ := HXsw1.out.cells
           clear hbx hX hs1 y1 y2)
        | (go_at_call 10
           (with_reducible refine (few_any _ A n c _ _ hn).mono ?_)
           rintro e w2 ⟨he, hbx⟩
           rw [FN.out] at he
           subst he
           have hX : Below w1.heap.size w1 w2 := hbx
           have HBw2 := Lib.hid (HBw1.out.trans (hX.mono HBw1.out.size))
           have HXsw2 := Lib.hid (HXsw1.out.below hX)
           have HXdw2 := Lib.hid (HXdw1.out.below hX)
           clear s0 s1 s2
           obtain ⟨d0, d1, d2⟩ := HXdw2.out.cells
           clear hbx hX)
        | (go_at_call 10
           (with_reducible refine (few_any _ A9 n9 c9 _ _ hn9).mono ?_)
           rintro e w3 ⟨he, hbx⟩
           rw [FD.out] at he
           subst he
           have hX : Below w2.heap.size w2 w3 := hbx
           have HBw3 := Lib.hid (HBw2.out.trans (hX.mono HBw2.out.size))
           have HXsw3 := Lib.hid (HXsw2.out.below hX)
           have HXdw3 := Lib.hid (HXdw2.out.below hX)
           clear d0 d1 d2
           obtain ⟨s0, s1, s2⟩ := HXsw3.out.cells
           clear hbx hX))
      go_ret
      exact ⟨rfl, HBw3.out⟩
    · have FD := Lib.hid (show decide (n9 ≤ 5000) = false from decide_eq_false h7)
      clear h hb hb9 h2
      go_enter Try.func3, Try.ntmps3
      go_wp2_with (first
        | (go_at_call 9
           refine (sawake_any _).mono ?_
           rintro e w1 ⟨he, hbx⟩
           rw [HT.out] at he
           subst he
           obtain ⟨hX, hs1, y1, y2⟩ := after_two hbx
           have HBw1 := Lib.hid hX
           have HXsw1 := Lib.hid (show BoxT w1 w.heap.size 24 cap A n c sure from y1)
           have HXdw1 := Lib.hid (show BoxT w1 (w.heap.size + 1) 24 cap9 A9 n9 c9 sure9 from y2)
           obtain ⟨s0, s1, s2⟩ := HXsw1.out.cells
           clear hbx hX hs1 y1 y2)
        | (go_at_call 10
           (with_reducible refine (few_any _ A n c _ _ hn).mono ?_)
           rintro e w2 ⟨he, hbx⟩
           rw [FN.out] at he
           subst he
           have hX : Below w1.heap.size w1 w2 := hbx
           have HBw2 := Lib.hid (HBw1.out.trans (hX.mono HBw1.out.size))
           have HXsw2 := Lib.hid (HXsw1.out.below hX)
           have HXdw2 := Lib.hid (HXdw1.out.below hX)
           clear s0 s1 s2
           obtain ⟨d0, d1, d2⟩ := HXdw2.out.cells
           clear hbx hX)
        | (go_at_call 10
           (with_reducible refine (few_any _ A9 n9 c9 _ _ hn9).mono ?_)
           rintro e w3 ⟨he, hbx⟩
           rw [FD.out] at he
           subst he
           have hX : Below w2.heap.size w2 w3 := hbx
           have HBw3 := Lib.hid (HBw2.out.trans (hX.mono HBw2.out.size))
           have HXsw3 := Lib.hid (HXsw2.out.below hX)
           have HXdw3 := Lib.hid (HXdw2.out.below hX)
           clear d0 d1 d2
           obtain ⟨s0, s1, s2⟩ := HXsw3.out.cells
           clear hbx hX))
      go_ret
      exact ⟨rfl, HBw3.out⟩
  · have FN := Lib.hid (show decide (n ≤ 5000) = false from decide_eq_false h5)
    obtain ⟨D9, hD9⟩ : ∃ D, decide (n9 ≤ 5000) = D := ⟨_, rfl⟩
    have FD := Lib.hid hD9
    clear h hb hb9 h2 hD9
    go_enter Try.func3, Try.ntmps3
    go_wp2_with (first
      | (go_at_call 9
         refine (sawake_any _).mono ?_
         rintro e w1 ⟨he, hbx⟩
         rw [HT.out] at he
         subst he
         obtain ⟨hX, hs1, y1, y2⟩ := after_two hbx
         have HBw1 := Lib.hid hX
         have HXsw1 := Lib.hid (show BoxT w1 w.heap.size 24 cap A n c sure from y1)
         have HXdw1 := Lib.hid (show BoxT w1 (w.heap.size + 1) 24 cap9 A9 n9 c9 sure9 from y2)
         obtain ⟨s0, s1, s2⟩ := HXsw1.out.cells
         clear hbx hX hs1 y1 y2)
      | (go_at_call 10
         (with_reducible refine (few_any _ A n c _ _ hn).mono ?_)
         rintro e w2 ⟨he, hbx⟩
         rw [FN.out] at he
         subst he
         have hX : Below w1.heap.size w1 w2 := hbx
         have HBw2 := Lib.hid (HBw1.out.trans (hX.mono HBw1.out.size))
         have HXsw2 := Lib.hid (HXsw1.out.below hX)
         have HXdw2 := Lib.hid (HXdw1.out.below hX)
         clear s0 s1 s2
         obtain ⟨d0, d1, d2⟩ := HXdw2.out.cells
         clear hbx hX)
      | (go_at_call 10
         (with_reducible refine (few_any _ A9 n9 c9 _ _ hn9).mono ?_)
         rintro e w3 ⟨he, hbx⟩
         rw [FD.out] at he
         subst he
         have hX : Below w2.heap.size w2 w3 := hbx
         have HBw3 := Lib.hid (HBw2.out.trans (hX.mono HBw2.out.size))
         have HXsw3 := Lib.hid (HXsw2.out.below hX)
         have HXdw3 := Lib.hid (HXdw2.out.below hX)
         clear d0 d1 d2
         obtain ⟨s0, s1, s2⟩ := HXsw3.out.cells
         clear hbx hX))
    go_ret
    exact ⟨rfl, HBw3.out⟩
/-- the two boxes of the arguments -/
def TellH (w : World) (g : Nat) (cap : Int) (A : Option Addr) (n c : Nat) (sure : Int) (g9 : Nat) (cap9 : Int) (A9 : Option Addr) (n9 c9 : Nat) (sure9 : Int) : Prop := BoxT w g 24 cap A n c sure ∧ BoxT w g9 24 cap9 A9 n9 c9 sure9
theorem TellH.below {w w' : World} {g : Nat} {cap : Int} {A : Option Addr} {n c : Nat} {sure : Int} {g9 : Nat} {cap9 : Int} {A9 : Option Addr} {n9 c9 : Nat} {sure9 : Int} (h : TellH w g cap A n c sure g9 cap9 A9 n9 c9 sure9) (hb : Below w.heap.size w w') : TellH w' g cap A n c sure g9 cap9 A9 n9 c9 sure9 := ⟨h.1.below hb, h.2.below hb⟩
set_option maxRecDepth 100000 in
set_option maxHeartbeats 4000000 in
theorem stellsw_core (s t : Sp) (A A9 B : Option Addr) (n c n9 c9 m d : Nat) (b : List Int) (k room : Int) (w : World) (hb : Bts w A n c s.data) (hb9 : Bts w A9 n9 c9 t.data) (h2 : Bts w B m d b) (h5 : n ≤ 5000) (h7 : n9 ≤ 5000) (h6 : m ≤ 5000) :
    Calls Try.prog 3 #[s.val A n c, t.val A9 n9 c9, .slice B m d, .int .i64 k, .int .i64 room] w (GBool true w) := by
  obtain ⟨cap, data, sure⟩ := s
  obtain ⟨cap9, data9, sure9⟩ := t
  simp only at hb hb9
  unfold Sp.val
  simp only
  have hn := hb.small
  have hn9 := hb9.small
  have HT := Lib.hid (rfl : true = true)
  have HBw := Lib.hid (Below.refl w.heap.size w)
  have h6' : (m : Int) ≤ 5000 := by omega
  have FN := Lib.hid (show decide (n ≤ 5000) = true from decide_eq_true h5)
  have FD := Lib.hid (show decide (n9 ≤ 5000) = true from decide_eq_true h7)
  obtain ⟨M, hM⟩ : ∃ M, mayT cap n sure = M := ⟨_, rfl⟩
  obtain ⟨SM, hSM⟩ : ∃ M, sameP ⟨cap, data, sure⟩ ⟨cap9, data9, sure9⟩ = M := ⟨_, rfl⟩
  obtain ⟨LF, hLF⟩ : ∃ M, leftT cap n sure = M := ⟨_, rfl⟩
  have HM := Lib.hid hM
  have HSM := Lib.hid hSM
  have HLF := Lib.hid hLF
  have HA := Lib.hid hb
  have HD := Lib.hid hb9
  have HE := Lib.hid h2
  clear hM hSM hLF hb hb9 h2
  go_enter Try.func3, Try.ntmps3
  go_wp2_with (first
    | (go_at_call 9
       refine (sawake_any _).mono ?_
       rintro e w1 ⟨he, hbx⟩
       rw [HT.out] at he
       subst he
       obtain ⟨hX, hs1, y1, y2⟩ := after_two hbx
       have HBw1 := Lib.hid hX
       have HXsw1 := Lib.hid (show BoxT w1 w.heap.size 24 cap A n c sure from y1)
       have HXdw1 := Lib.hid (show BoxT w1 (w.heap.size + 1) 24 cap9 A9 n9 c9 sure9 from y2)
       obtain ⟨s0, s1, s2⟩ := HXsw1.out.cells
       clear hbx hX hs1 y1 y2)
    | (go_at_call 10
       (with_reducible refine (few_any _ A n c _ _ hn).mono ?_)
       rintro e w2 ⟨he, hbx⟩
       rw [FN.out] at he
       subst he
       have hX : Below w1.heap.size w1 w2 := hbx
       have HBw2 := Lib.hid (HBw1.out.trans (hX.mono HBw1.out.size))
       have HXsw2 := Lib.hid (HXsw1.out.below hX)
       have HXdw2 := Lib.hid (HXdw1.out.below hX)
       clear s0 s1 s2
       obtain ⟨d0, d1, d2⟩ := HXdw2.out.cells
       clear hbx hX)
    | (go_at_call 10
       (with_reducible refine (few_any _ A9 n9 c9 _ _ hn9).mono ?_)
       rintro e w3 ⟨he, hbx⟩
       rw [FD.out] at he
       subst he
       have hX : Below w2.heap.size w2 w3 := hbx
       have HBw3 := Lib.hid (HBw2.out.trans (hX.mono HBw2.out.size))
       have HXsw3 := Lib.hid (HXsw2.out.below hX)
       have HXdw3 := Lib.hid (HXdw2.out.below hX)
       clear d0 d1 d2
       obtain ⟨s0, s1, s2⟩ := HXsw3.out.cells
       clear hbx hX)
    | (go_at_call 19
       (with_reducible refine (rstsame_at cap5 data5 sure5 A5 n5 c5 _ cap5 data5 sure5 A6 n6 c6 HD5w13.out HD6w13.out).mono ?_)
       rintro e w14 ⟨he, hbx⟩
       rw [sameP_self] at he
       subst he
       have hX : Below w13.heap.size w13 w14 := hbx
       have HBw14 := Lib.hid (HBw13.out.trans (hX.mono HBw13.out.size))
       have HXsw14 := Lib.hid (HXsw13.out.below hX)
       have HXdw14 := Lib.hid (HXdw13.out.below hX)
       have HXb1w14 := Lib.hid (HXb1w13.out.below hX)
       have HXb2w14 := Lib.hid (HXb2w13.out.below hX)
       have HXb3w14 := Lib.hid (HXb3w13.out.below hX)
       have HXb4w14 := Lib.hid (HXb4w13.out.below hX)
       have HXb5w14 := Lib.hid (HXb5w13.out.below hX)
       have HXb6w14 := Lib.hid (HXb6w13.out.below hX)
       have HXb7w14 := Lib.hid (HXb7w13.out.below hX)
       have HXb8w14 := Lib.hid (HXb8w13.out.below hX)
       have HD1w14 := Lib.hid (HD1w13.out.below hX)
       have HD2w14 := Lib.hid (HD2w13.out.below hX)
       have HD3w14 := Lib.hid (HD3w13.out.below hX)
       have HD4w14 := Lib.hid (HD4w13.out.below hX)
       have HD5w14 := Lib.hid (HD5w13.out.below hX)
       have HD6w14 := Lib.hid (HD6w13.out.below hX)
       clear b50 b51 b52 b60 b61 b62
       clear hbx hX)
    | (go_at_call 19
       (with_reducible refine (rstsame_at cap3 data3 sure3 A3 n3 c3 _ cap3 data3 sure3 A4 n4 c4 HD3w12.out HD4w12.out).mono ?_)
       rintro e w13 ⟨he, hbx⟩
       rw [sameP_self] at he
       subst he
       have hX : Below w12.heap.size w12 w13 := hbx
       have HBw13 := Lib.hid (HBw12.out.trans (hX.mono HBw12.out.size))
       have HXsw13 := Lib.hid (HXsw12.out.below hX)
       have HXdw13 := Lib.hid (HXdw12.out.below hX)
       have HXb1w13 := Lib.hid (HXb1w12.out.below hX)
       have HXb2w13 := Lib.hid (HXb2w12.out.below hX)
       have HXb3w13 := Lib.hid (HXb3w12.out.below hX)
       have HXb4w13 := Lib.hid (HXb4w12.out.below hX)
       have HXb5w13 := Lib.hid (HXb5w12.out.below hX)
       have HXb6w13 := Lib.hid (HXb6w12.out.below hX)
       have HXb7w13 := Lib.hid (HXb7w12.out.below hX)
       have HXb8w13 := Lib.hid (HXb8w12.out.below hX)
       have HD1w13 := Lib.hid (HD1w12.out.below hX)
       have HD2w13 := Lib.hid (HD2w12.out.below hX)
       have HD3w13 := Lib.hid (HD3w12.out.below hX)
       have HD4w13 := Lib.hid (HD4w12.out.below hX)
       have HD5w13 := Lib.hid (HD5w12.out.below hX)
       have HD6w13 := Lib.hid (HD6w12.out.below hX)
       clear b30 b31 b32 b40 b41 b42
       obtain ⟨b50, b51, b52⟩ := HXb5w13.out.cells
       obtain ⟨b60, b61, b62⟩ := HXb6w13.out.cells
       clear hbx hX)
    | (go_at_call 19
       (with_reducible refine (rstsame_at cap1 data1 sure1 A1 n1 c1 _ cap1 data1 sure1 A2 n2 c2 (HD1w11.out.more (.cells #[.int .i64 cap7, .slice none 0 0, .int .i64 sure7] 24)) (HD2w11.out.more (.cells #[.int .i64 cap7, .slice none 0 0, .int .i64 sure7] 24))).mono ?_)
       rintro e w12 ⟨he, hbx⟩
       rw [sameP_self] at he
       subst he
       have hX : Below w11.heap.size w11 w12 := (after_one hbx).1
       have HBw12 := Lib.hid (HBw11.out.trans (hX.mono HBw11.out.size))
       have HXsw12 := Lib.hid (HXsw11.out.below hX)
       have HXdw12 := Lib.hid (HXdw11.out.below hX)
       have HXb1w12 := Lib.hid (HXb1w11.out.below hX)
       have HXb2w12 := Lib.hid (HXb2w11.out.below hX)
       have HXb3w12 := Lib.hid (HXb3w11.out.below hX)
       have HXb4w12 := Lib.hid (HXb4w11.out.below hX)
       have HXb5w12 := Lib.hid (HXb5w11.out.below hX)
       have HXb6w12 := Lib.hid (HXb6w11.out.below hX)
       have HXb7w12 := Lib.hid (HXb7w11.out.below hX)
       have HXb8w12 := Lib.hid (show BoxT w12 w11.heap.size 24 cap7 none 0 0 sure7 from (after_one hbx).2.2)
       have HD1w12 := Lib.hid (HD1w11.out.below hX)
       have HD2w12 := Lib.hid (HD2w11.out.below hX)
       have HD3w12 := Lib.hid (HD3w11.out.below hX)
       have HD4w12 := Lib.hid (HD4w11.out.below hX)
       have HD5w12 := Lib.hid (HD5w11.out.below hX)
       have HD6w12 := Lib.hid (HD6w11.out.below hX)
       clear b10 b11 b12 b20 b21 b22
       obtain ⟨b30, b31, b32⟩ := HXb3w12.out.cells
       obtain ⟨b40, b41, b42⟩ := HXb4w12.out.cells
       clear hbx hX)
    | (go_at_call 18
       refine (rstnew_any room _).mono ?_
       rintro e w11 ⟨he, hbx⟩
       rw [HR7.out] at he
       have he2 : e = .returned (.tuple #[.agg #[.int .i64 cap7, .slice none 0 0, .int .i64 sure7], .bool z7]) := he
       clear he
       subst he2
       have hX : Below w10.heap.size w10 w11 := (after_one hbx).1
       have HBw11 := Lib.hid (HBw10.out.trans (hX.mono HBw10.out.size))
       have HXsw11 := Lib.hid (HXsw10.out.below hX)
       have HXdw11 := Lib.hid (HXdw10.out.below hX)
       have HXb1w11 := Lib.hid (HXb1w10.out.below hX)
       have HXb2w11 := Lib.hid (HXb2w10.out.below hX)
       have HXb3w11 := Lib.hid (HXb3w10.out.below hX)
       have HXb4w11 := Lib.hid (HXb4w10.out.below hX)
       have HXb5w11 := Lib.hid (HXb5w10.out.below hX)
       have HXb6w11 := Lib.hid (HXb6w10.out.below hX)
       have HXb7w11 := Lib.hid (show BoxT w11 w10.heap.size 24 cap7 none 0 0 sure7 from (after_one hbx).2.2)
       have HD1w11 := Lib.hid (HD1w10.out.below hX)
       have HD2w11 := Lib.hid (HD2w10.out.below hX)
       have HD3w11 := Lib.hid (HD3w10.out.below hX)
       have HD4w11 := Lib.hid (HD4w10.out.below hX)
       have HD5w11 := Lib.hid (HD5w10.out.below hX)
       have HD6w11 := Lib.hid (HD6w10.out.below hX)
       obtain ⟨b10, b11, b12⟩ := (HXb1w11.out.below (one_alloc w11 (.cells #[.int .i64 cap7, .slice none 0 0, .int .i64 sure7] 24))).cells
       obtain ⟨b20, b21, b22⟩ := (HXb2w11.out.below (one_alloc w11 (.cells #[.int .i64 cap7, .slice none 0 0, .int .i64 sure7] 24))).cells
       clear hbx hX)
    | (go_at_call 17
       refine (stnew_any room _).mono ?_
       rintro e w10 ⟨he, hbx⟩
       obtain ⟨⟨⟨cap7, data7, sure7⟩, z7⟩, hr7⟩ : ∃ r, newP room = r := ⟨_, rfl⟩
       have HR7 := Lib.hid hr7
       clear hr7
       rw [HR7.out] at he
       have he2 : e = .returned (.tuple #[.agg #[.int .i64 cap7, .slice none 0 0, .int .i64 sure7], .bool z7]) := he
       clear he
       subst he2
       have hX : Below w9.heap.size w9 w10 := (after_one hbx).1
       have HBw10 := Lib.hid (HBw9.out.trans (hX.mono HBw9.out.size))
       have HXsw10 := Lib.hid (HXsw9.out.below hX)
       have HXdw10 := Lib.hid (HXdw9.out.below hX)
       have HXb1w10 := Lib.hid (HXb1w9.out.below hX)
       have HXb2w10 := Lib.hid (HXb2w9.out.below hX)
       have HXb3w10 := Lib.hid (HXb3w9.out.below hX)
       have HXb4w10 := Lib.hid (HXb4w9.out.below hX)
       have HXb5w10 := Lib.hid (HXb5w9.out.below hX)
       have HXb6w10 := Lib.hid (show BoxT w10 w9.heap.size 24 cap5 A6 n6 c6 sure5 from (after_one hbx).2.2)
       have HD1w10 := Lib.hid (HD1w9.out.below hX)
       have HD2w10 := Lib.hid (HD2w9.out.below hX)
       have HD3w10 := Lib.hid (HD3w9.out.below hX)
       have HD4w10 := Lib.hid (HD4w9.out.below hX)
       have HD5w10 := Lib.hid (HD5w9.out.below hX)
       have HD6w10 := Lib.hid (HD6w9.out.below hX)
       clear hbx hX)
    | (go_at_call 16
       (with_reducible refine (rstcut_at cap data sure A n c _ k (HA.out.below (HBw8.out.trans ((one_alloc w8 (.cells #[.int .i64 cap5, .slice A5 n5 c5, .int .i64 sure5] 24)).mono HBw8.out.size)))).mono ?_)
       rintro e w9 ⟨A6, n6, c6, he, hbt0, -, hbx⟩
       rw [HR5.out] at he hbt0
       have he2 : e = .returned (.tuple #[.agg #[.int .i64 cap5, .slice A6 n6 c6, .int .i64 sure5], .int .i64 e5]) := he
       clear he
       subst he2
       have hbt : Bts w9 A6 n6 c6 data5 := hbt0
       have hX : Below w8.heap.size w8 w9 := (after_one hbx).1
       have HBw9 := Lib.hid (HBw8.out.trans (hX.mono HBw8.out.size))
       have HXsw9 := Lib.hid (HXsw8.out.below hX)
       have HXdw9 := Lib.hid (HXdw8.out.below hX)
       have HXb1w9 := Lib.hid (HXb1w8.out.below hX)
       have HXb2w9 := Lib.hid (HXb2w8.out.below hX)
       have HXb3w9 := Lib.hid (HXb3w8.out.below hX)
       have HXb4w9 := Lib.hid (HXb4w8.out.below hX)
       have HXb5w9 := Lib.hid (show BoxT w9 w8.heap.size 24 cap5 A5 n5 c5 sure5 from (after_one hbx).2.2)
       have HD1w9 := Lib.hid (HD1w8.out.below hX)
       have HD2w9 := Lib.hid (HD2w8.out.below hX)
       have HD3w9 := Lib.hid (HD3w8.out.below hX)
       have HD4w9 := Lib.hid (HD4w8.out.below hX)
       have HD5w9 := Lib.hid (HD5w8.out.below hX)
       have HD6w9 := Lib.hid hbt
       clear s0 s1 s2
       clear hbx hX hbt0 hbt)
    | (go_at_call 15
       (with_reducible refine (stcut_at cap data sure A n c _ k (HA.out.below (HBw7.out.trans ((one_alloc w7 (.cells #[.int .i64 cap3, .slice A4 n4 c4, .int .i64 sure3] 24)).mono HBw7.out.size))) (by omega)).mono ?_)
       rintro e w8 ⟨A5, n5, c5, he, hbt0, -, hbx⟩
       obtain ⟨⟨⟨cap5, data5, sure5⟩, e5⟩, hr5⟩ : ∃ r, cutP ⟨cap, data, sure⟩ k = r := ⟨_, rfl⟩
       rw [hr5] at he hbt0
       have he2 : e = .returned (.tuple #[.agg #[.int .i64 cap5, .slice A5 n5 c5, .int .i64 sure5], .int .i64 e5]) := he
       clear he
       subst he2
       have hbt : Bts w8 A5 n5 c5 data5 := hbt0
       have HR5 := Lib.hid hr5
       have hX : Below w7.heap.size w7 w8 := (after_one hbx).1
       have HBw8 := Lib.hid (HBw7.out.trans (hX.mono HBw7.out.size))
       have HXsw8 := Lib.hid (HXsw7.out.below hX)
       have HXdw8 := Lib.hid (HXdw7.out.below hX)
       have HXb1w8 := Lib.hid (HXb1w7.out.below hX)
       have HXb2w8 := Lib.hid (HXb2w7.out.below hX)
       have HXb3w8 := Lib.hid (HXb3w7.out.below hX)
       have HXb4w8 := Lib.hid (show BoxT w8 w7.heap.size 24 cap3 A4 n4 c4 sure3 from (after_one hbx).2.2)
       have HD1w8 := Lib.hid (HD1w7.out.below hX)
       have HD2w8 := Lib.hid (HD2w7.out.below hX)
       have HD3w8 := Lib.hid (HD3w7.out.below hX)
       have HD4w8 := Lib.hid (HD4w7.out.below hX)
       have HD5w8 := Lib.hid hbt
       clear s0 s1 s2
       obtain ⟨s0, s1, s2⟩ := (HXsw8.out.below (one_alloc w8 (.cells #[.int .i64 cap5, .slice A5 n5 c5, .int .i64 sure5] 24))).cells
       clear hbx hX hbt0 hbt hr5)
    | (go_at_call 14
       (with_reducible refine (rstsync_at cap data sure A n c _ (HA.out.below (HBw6.out.trans ((one_alloc w6 (.cells #[.int .i64 cap3, .slice A3 n3 c3, .int .i64 sure3] 24)).mono HBw6.out.size)))).mono ?_)
       rintro e w7 ⟨A4, n4, c4, he, hbt0, -, hbx⟩
       rw [HR3.out] at he hbt0
       have he2 : e = .returned (.tuple #[.agg #[.int .i64 cap3, .slice A4 n4 c4, .int .i64 sure3], .int .i64 e3]) := he
       clear he
       subst he2
       have hbt : Bts w7 A4 n4 c4 data3 := hbt0
       have hX : Below w6.heap.size w6 w7 := (after_one hbx).1
       have HBw7 := Lib.hid (HBw6.out.trans (hX.mono HBw6.out.size))
       have HXsw7 := Lib.hid (HXsw6.out.below hX)
       have HXdw7 := Lib.hid (HXdw6.out.below hX)
       have HXb1w7 := Lib.hid (HXb1w6.out.below hX)
       have HXb2w7 := Lib.hid (HXb2w6.out.below hX)
       have HXb3w7 := Lib.hid (show BoxT w7 w6.heap.size 24 cap3 A3 n3 c3 sure3 from (after_one hbx).2.2)
       have HD1w7 := Lib.hid (HD1w6.out.below hX)
       have HD2w7 := Lib.hid (HD2w6.out.below hX)
       have HD3w7 := Lib.hid (HD3w6.out.below hX)
       have HD4w7 := Lib.hid hbt
       clear s0 s1 s2
       obtain ⟨s0, s1, s2⟩ := (HXsw7.out.below (one_alloc w7 (.cells #[.int .i64 cap3, .slice A4 n4 c4, .int .i64 sure3] 24))).cells
       clear hbx hX hbt0 hbt)
    | (go_at_call 13
       (with_reducible refine (stsync_at cap data sure A n c _ (HA.out.below (HBw5.out.trans ((one_alloc w5 (.cells #[.int .i64 cap1, .slice A2 n2 c2, .int .i64 sure1] 24)).mono HBw5.out.size))) (by omega)).mono ?_)
       rintro e w6 ⟨A3, n3, c3, he, hbt0, -, hbx⟩
       obtain ⟨⟨⟨cap3, data3, sure3⟩, e3⟩, hr3⟩ : ∃ r, syncP ⟨cap, data, sure⟩ = r := ⟨_, rfl⟩
       rw [hr3] at he hbt0
       have he2 : e = .returned (.tuple #[.agg #[.int .i64 cap3, .slice A3 n3 c3, .int .i64 sure3], .int .i64 e3]) := he
       clear he
       subst he2
       have hbt : Bts w6 A3 n3 c3 data3 := hbt0
       have HR3 := Lib.hid hr3
       have hX : Below w5.heap.size w5 w6 := (after_one hbx).1
       have HBw6 := Lib.hid (HBw5.out.trans (hX.mono HBw5.out.size))
       have HXsw6 := Lib.hid (HXsw5.out.below hX)
       have HXdw6 := Lib.hid (HXdw5.out.below hX)
       have HXb1w6 := Lib.hid (HXb1w5.out.below hX)
       have HXb2w6 := Lib.hid (show BoxT w6 w5.heap.size 24 cap1 A2 n2 c2 sure1 from (after_one hbx).2.2)
       have HD1w6 := Lib.hid (HD1w5.out.below hX)
       have HD2w6 := Lib.hid (HD2w5.out.below hX)
       have HD3w6 := Lib.hid hbt
       clear s0 s1 s2
       obtain ⟨s0, s1, s2⟩ := (HXsw6.out.below (one_alloc w6 (.cells #[.int .i64 cap3, .slice A3 n3 c3, .int .i64 sure3] 24))).cells
       clear hbx hX hbt0 hbt hr3)
    | (go_at_call 12
       (with_reducible refine (rstwrite_at cap data sure A n c _ b B m d (HA.out.below (HBw4.out.trans ((one_alloc w4 (.cells #[.int .i64 cap1, .slice A1 n1 c1, .int .i64 sure1] 24)).mono HBw4.out.size))) (HE.out.below (HBw4.out.trans ((one_alloc w4 (.cells #[.int .i64 cap1, .slice A1 n1 c1, .int .i64 sure1] 24)).mono HBw4.out.size)))).mono ?_)
       rintro e w5 ⟨A2, n2, c2, he, hbt0, -, hbx⟩
       rw [HR1.out] at he hbt0
       have he2 : e = .returned (.tuple #[.agg #[.int .i64 cap1, .slice A2 n2 c2, .int .i64 sure1], .int .i64 e1]) := he
       clear he
       subst he2
       have hbt : Bts w5 A2 n2 c2 data1 := hbt0
       have hX : Below w4.heap.size w4 w5 := (after_one hbx).1
       have HBw5 := Lib.hid (HBw4.out.trans (hX.mono HBw4.out.size))
       have HXsw5 := Lib.hid (HXsw4.out.below hX)
       have HXdw5 := Lib.hid (HXdw4.out.below hX)
       have HXb1w5 := Lib.hid (show BoxT w5 w4.heap.size 24 cap1 A1 n1 c1 sure1 from (after_one hbx).2.2)
       have HD1w5 := Lib.hid (HD1w4.out.below hX)
       have HD2w5 := Lib.hid hbt
       clear s0 s1 s2
       obtain ⟨s0, s1, s2⟩ := (HXsw5.out.below (one_alloc w5 (.cells #[.int .i64 cap1, .slice A2 n2 c2, .int .i64 sure1] 24))).cells
       clear hbx hX hbt0 hbt)
    | (go_at_call 11
       (with_reducible refine (stwrite_at cap data sure A n c _ b B m d (HA.out.below HBw3.out) (by omega) (HE.out.below HBw3.out)).mono ?_)
       rintro e w4 ⟨A1, n1, c1, he, hbt0, -, hbx⟩
       obtain ⟨⟨⟨cap1, data1, sure1⟩, e1⟩, hr1⟩ : ∃ r, writeP ⟨cap, data, sure⟩ b = r := ⟨_, rfl⟩
       rw [hr1] at he hbt0
       have he2 : e = .returned (.tuple #[.agg #[.int .i64 cap1, .slice A1 n1 c1, .int .i64 sure1], .int .i64 e1]) := he
       clear he
       subst he2
       have hbt : Bts w4 A1 n1 c1 data1 := hbt0
       have HR1 := Lib.hid hr1
       have hX : Below w3.heap.size w3 w4 := hbx
       have HBw4 := Lib.hid (HBw3.out.trans (hX.mono HBw3.out.size))
       have HXsw4 := Lib.hid (HXsw3.out.below hX)
       have HXdw4 := Lib.hid (HXdw3.out.below hX)
       have HD1w4 := Lib.hid hbt
       clear s0 s1 s2
       obtain ⟨s0, s1, s2⟩ := (HXsw4.out.below (one_alloc w4 (.cells #[.int .i64 cap1, .slice A1 n1 c1, .int .i64 sure1] 24))).cells
       clear hbx hX hbt0 hbt hr1))
  have hd0 : Below w14.heap.size w14 w14.drew := (Below.refl _ _).drew
  have V0 := (show TellH w14 w.heap.size cap A n c sure (w.heap.size + 1) cap9 A9 n9 c9 sure9 from ⟨HXsw14.out, HXdw14.out⟩).below hd0
  have hV0 : Below w.heap.size w w14.drew := HBw14.out.drew
  have HXb70 := HXb7w14.out.below hd0
  have HXb80 := HXb8w14.out.below hd0
  obtain ⟨Y0, hY0⟩ : ∃ Y, w14.drew = Y := ⟨_, rfl⟩
  refine wp_region_held_drew (S := (fun w' => TellH w' w.heap.size cap A n c sure (w.heap.size + 1) cap9 A9 n9 c9 sure9)) (by kernel_rfl) V0 (fun hHeld => ?_)
  rw [hY0] at hV0 V0 HXb70 HXb80 hHeld ⊢
  clear hY0 hd0
  refine take_if 0 (.agg #[.int .i64 cap, .slice A n c, .int .i64 sure]) rfl (by kernel_rfl) (by kernel_rfl) (by kernel_rfl) (fun _ _ _ h => h) rfl hHeld (fun w' hw' => ?_) ?_
  · obtain ⟨h1, h2⟩ := hw'
    obtain ⟨x0, x1, x2⟩ := h1.cells
    obtain ⟨y0, y1, y2⟩ := h2.cells
    go_simp
  simp only [Act.put, List.setIfInBounds_toArray, List.set_cons_zero, List.set_cons_succ]
  refine take_move 1 (.tmp 3) (.int .i64 k) rfl rfl rfl (by kernel_rfl) (by kernel_rfl) (by kernel_rfl) (fun _ _ _ h => h) rfl hHeld ?_
  simp only [Act.put, List.setIfInBounds_toArray, List.set_cons_zero, List.set_cons_succ]
  refine take_if 3 (.agg #[.int .i64 cap, .slice A n c, .int .i64 sure]) rfl (by kernel_rfl) (by kernel_rfl) (by kernel_rfl) (fun _ _ _ h => h) rfl hHeld (fun w' hw' => ?_) ?_
  · obtain ⟨h1, h2⟩ := hw'
    obtain ⟨x0, x1, x2⟩ := h1.cells
    obtain ⟨y0, y1, y2⟩ := h2.cells
    go_simp
  simp only [Act.put, List.setIfInBounds_toArray, List.set_cons_zero, List.set_cons_succ]
  refine take_move 4 (.tmp 3) (.int .i64 k) rfl rfl rfl (by kernel_rfl) (by kernel_rfl) (by kernel_rfl) (fun _ _ _ h => h) rfl hHeld ?_
  simp only [Act.put, List.setIfInBounds_toArray, List.set_cons_zero, List.set_cons_succ]
  refine one_step 2 (by kernel_rfl) rfl (fun K hK => ?_)
  go_simp
  go_at_call 20
  refine (stcrash_at cap data sure A n c Y0 k (HA.out.below hV0) (by omega)).mono ?_
  rintro e v1 ⟨A10, n10, c10, he, hbt0, -, hb⟩
  obtain ⟨⟨cap10, data10, sure10⟩, hr10⟩ : ∃ r, crashP ⟨cap, data, sure⟩ k = r := ⟨_, rfl⟩
  rw [hr10] at he hbt0
  have he2 : e = .returned (.agg #[.int .i64 cap10, .slice A10 n10 c10, .int .i64 sure10]) := he
  clear he
  subst he2
  have HD10 : Bts v1 A10 n10 c10 data10 := hbt0
  have HR10 := Lib.hid hr10
  clear hbt0 hr10
  have hVv1 : Below w.heap.size w v1 := hV0.trans (hb.mono hV0.size)
  have Vv1 := V0.below hb
  have HXb7v1 := HXb70.below hb
  have HXb8v1 := HXb80.below hb
  refine hK.out _ _ Vv1 (fun hHeld0 => ?_)
  clear hK K hHeld hb V0 HXb70 HXb80
  have hHeld := hHeld0
  clear hHeld0
  try simp only [Act.put, List.setIfInBounds_toArray, List.set_cons_zero, List.set_cons_succ]
  refine one_step 5 (by kernel_rfl) rfl (fun K hK => ?_)
  go_simp
  go_at_call 21
  refine (rstcrash_at cap data sure A n c v1 k (HA.out.below hVv1)).mono ?_
  rintro e v2 ⟨A11, n11, c11, he, hbt0, -, hb⟩
  rw [HR10.out] at he hbt0
  have he2 : e = .returned (.agg #[.int .i64 cap10, .slice A11 n11 c11, .int .i64 sure10]) := he
  clear he
  subst he2
  have HD11 : Bts v2 A11 n11 c11 data10 := hbt0
  have HD10v2 := HD10.below hb
  clear hbt0 HD10
  have hVv2 : Below w.heap.size w v2 := hVv1.trans (hb.mono hVv1.size)
  have Vv2 := Vv1.below hb
  have HXb7v2 := HXb7v1.below hb
  have HXb8v2 := HXb8v1.below hb
  refine hK.out _ _ Vv2 (fun hHeld0 => ?_)
  clear hK K hHeld hb Vv1 HXb7v1 HXb8v1
  have hHeld := hHeld0
  clear hHeld0
  try simp only [Act.put, List.setIfInBounds_toArray, List.set_cons_zero, List.set_cons_succ]
  refine one_step 6 (by kernel_rfl) rfl (fun K hK => ?_)
  go_simp
  go_at_call 19
  refine (rstsame_at cap10 data10 sure10 A10 n10 c10 v2 cap10 data10 sure10 A11 n11 c11 HD10v2 HD11).mono ?_
  rintro e v3 ⟨he, hb⟩
  rw [sameP_self] at he
  subst he
  have hVv3 : Below w.heap.size w v3 := hVv2.trans (hb.mono hVv2.size)
  have Vv3 := Vv2.below hb
  have HXb7v3 := HXb7v2.below hb
  have HXb8v3 := HXb8v2.below hb
  refine hK.out _ _ Vv3 (fun hHeld0 => ?_)
  clear hK K hHeld hb Vv2 HXb7v2 HXb8v2
  have hHeld := hHeld0
  clear hHeld0
  try simp only [Act.put, List.setIfInBounds_toArray, List.set_cons_zero, List.set_cons_succ]
  refine take_run 7 (.bool true) rfl (by kernel_rfl) (by kernel_rfl) (by kernel_rfl) (fun _ _ _ h => h) rfl hHeld (fun w => ?_) ?_
  · go_simp
  simp only [Act.put, List.setIfInBounds_toArray, List.set_cons_zero, List.set_cons_succ]
  refine wpAnyH_done (by kernel_rfl) ?_ _
  have HBv3 := Lib.hid hVv3
  have HXsv3 := Lib.hid Vv3.1
  have HXdv3 := Lib.hid Vv3.2
  have HXb7v3 := Lib.hid HXb7v3
  have HXb8v3 := Lib.hid HXb8v3
  clear hVv3 Vv3 hHeld HD10v2 HD11
  obtain ⟨b70, b71, b72⟩ := HXb7v3.out.cells
  obtain ⟨b80, b81, b82⟩ := HXb8v3.out.cells
  go_wp2_with (first
    | (go_at_call 19
       (with_reducible refine (rstsame_at cap data sure A n c _ cap9 data9 sure9 A9 n9 c9 (HA.out.below HBw32.out) (HD.out.below HBw32.out)).mono ?_)
       rintro e w33 ⟨he, hbx⟩
       rw [HSM.out] at he
       subst he
       have hX : Below w32.heap.size w32 w33 := hbx
       have HBw33 := Lib.hid (HBw32.out.trans (hX.mono HBw32.out.size))
       have HXsw33 := Lib.hid (HXsw32.out.below hX)
       have HXdw33 := Lib.hid (HXdw32.out.below hX)
       have HXb7w33 := Lib.hid (HXb7w32.out.below hX)
       have HXb8w33 := Lib.hid (HXb8w32.out.below hX)
       clear s0 s1 s2 d0 d1 d2
       clear hbx hX)
    | (go_at_call 22
       (with_reducible refine (rstmay_any _ A n c _ _ hn).mono ?_)
       rintro e w32 ⟨he, hbx⟩
       rw [HM.out] at he
       subst he
       have hX : Below w31.heap.size w31 w32 := hbx
       have HBw32 := Lib.hid (HBw31.out.trans (hX.mono HBw31.out.size))
       have HXsw32 := Lib.hid (HXsw31.out.below hX)
       have HXdw32 := Lib.hid (HXdw31.out.below hX)
       have HXb7w32 := Lib.hid (HXb7w31.out.below hX)
       have HXb8w32 := Lib.hid (HXb8w31.out.below hX)
       clear s0 s1 s2
       obtain ⟨s0, s1, s2⟩ := HXsw32.out.cells
       obtain ⟨d0, d1, d2⟩ := HXdw32.out.cells
       clear hbx hX)
    | (go_at_call 19
       (with_reducible refine (rstsame_at cap7 [] sure7 none 0 0 _ cap7 [] sure7 none 0 0 (Bts.nil _) (Bts.nil _)).mono ?_)
       rintro e w31 ⟨he, hbx⟩
       rw [sameP_self] at he
       subst he
       have hX : Below v3.heap.size v3 w31 := hbx
       have HBw31 := Lib.hid (HBv3.out.trans (hX.mono HBv3.out.size))
       have HXsw31 := Lib.hid (HXsv3.out.below hX)
       have HXdw31 := Lib.hid (HXdv3.out.below hX)
       have HXb7w31 := Lib.hid (HXb7v3.out.below hX)
       have HXb8w31 := Lib.hid (HXb8v3.out.below hX)
       clear b70 b71 b72 b80 b81 b82
       obtain ⟨s0, s1, s2⟩ := HXsw31.out.cells
       clear hbx hX))
  have hd0 : Below w33.heap.size w33 w33.drew := (Below.refl _ _).drew
  have V0 := (show TellH w33 w.heap.size cap A n c sure (w.heap.size + 1) cap9 A9 n9 c9 sure9 from ⟨HXsw33.out, HXdw33.out⟩).below hd0
  have hV0 : Below w.heap.size w w33.drew := HBw33.out.drew
  obtain ⟨Y0, hY0⟩ : ∃ Y, w33.drew = Y := ⟨_, rfl⟩
  have pe1 : (e1 == e1) = true := by simp
  have pe3 : (e3 == e3) = true := by simp
  have pe5 : (e5 == e5) = true := by simp
  have pz7 : (z7 == z7) = true := by simp
  have pM : (M == M) = true := by simp
  have pSM : (SM == SM) = true := by simp
  have pLF : (LF == LF) = true := by simp
  refine wp_region_held_drew (S := (fun w' => TellH w' w.heap.size cap A n c sure (w.heap.size + 1) cap9 A9 n9 c9 sure9)) (by kernel_rfl) V0 (fun hHeld => ?_)
  rw [hY0] at hV0 V0 hHeld ⊢
  clear hY0 hd0
  refine take_move 0 (.tmp 30) (.bool true) rfl rfl rfl (by kernel_rfl) (by kernel_rfl) (by kernel_rfl) (fun _ _ _ h => h) rfl hHeld ?_
  simp only [Act.put, List.setIfInBounds_toArray, List.set_cons_zero, List.set_cons_succ]
  refine take_move 1 (.tmp 126) (.bool true) rfl rfl rfl (by kernel_rfl) (by kernel_rfl) (by kernel_rfl) (fun _ _ _ h => h) rfl hHeld ?_
  simp only [Act.put, List.setIfInBounds_toArray, List.set_cons_zero, List.set_cons_succ]
  refine take_move 2 (.tmp 15) (.int .i64 e1) rfl rfl rfl (by kernel_rfl) (by kernel_rfl) (by kernel_rfl) (fun _ _ _ h => h) rfl hHeld ?_
  simp only [Act.put, List.setIfInBounds_toArray, List.set_cons_zero, List.set_cons_succ]
  refine take_move 3 (.tmp 17) (.int .i64 e1) rfl rfl rfl (by kernel_rfl) (by kernel_rfl) (by kernel_rfl) (fun _ _ _ h => h) rfl hHeld ?_
  simp only [Act.put, List.setIfInBounds_toArray, List.set_cons_zero, List.set_cons_succ]
  refine take_run 4 (.bool true) rfl (by kernel_rfl) (by kernel_rfl) (by kernel_rfl) (fun _ _ _ h => h) rfl hHeld (fun w => ?_) ?_
  · go_simp
  simp only [Act.put, List.setIfInBounds_toArray, List.set_cons_zero, List.set_cons_succ]
  refine take_run 5 (.bool true) rfl (by kernel_rfl) (by kernel_rfl) (by kernel_rfl) (fun _ _ _ h => h) rfl hHeld (fun w => ?_) ?_
  · go_simp
  simp only [Act.put, List.setIfInBounds_toArray, List.set_cons_zero, List.set_cons_succ]
  refine take_move 6 (.tmp 131) (.bool true) rfl rfl rfl (by kernel_rfl) (by kernel_rfl) (by kernel_rfl) (fun _ _ _ h => h) rfl hHeld ?_
  simp only [Act.put, List.setIfInBounds_toArray, List.set_cons_zero, List.set_cons_succ]
  refine take_move 7 (.tmp 31) (.bool true) rfl rfl rfl (by kernel_rfl) (by kernel_rfl) (by kernel_rfl) (fun _ _ _ h => h) rfl hHeld ?_
  simp only [Act.put, List.setIfInBounds_toArray, List.set_cons_zero, List.set_cons_succ]
  refine take_run 8 (.bool true) rfl (by kernel_rfl) (by kernel_rfl) (by kernel_rfl) (fun _ _ _ h => h) rfl hHeld (fun w => ?_) ?_
  · go_simp
  simp only [Act.put, List.setIfInBounds_toArray, List.set_cons_zero, List.set_cons_succ]
  refine take_move 9 (.tmp 134) (.bool true) rfl rfl rfl (by kernel_rfl) (by kernel_rfl) (by kernel_rfl) (fun _ _ _ h => h) rfl hHeld ?_
  simp only [Act.put, List.setIfInBounds_toArray, List.set_cons_zero, List.set_cons_succ]
  refine take_move 10 (.tmp 19) (.int .i64 e3) rfl rfl rfl (by kernel_rfl) (by kernel_rfl) (by kernel_rfl) (fun _ _ _ h => h) rfl hHeld ?_
  simp only [Act.put, List.setIfInBounds_toArray, List.set_cons_zero, List.set_cons_succ]
  refine take_move 11 (.tmp 21) (.int .i64 e3) rfl rfl rfl (by kernel_rfl) (by kernel_rfl) (by kernel_rfl) (fun _ _ _ h => h) rfl hHeld ?_
  simp only [Act.put, List.setIfInBounds_toArray, List.set_cons_zero, List.set_cons_succ]
  refine take_run 12 (.bool true) rfl (by kernel_rfl) (by kernel_rfl) (by kernel_rfl) (fun _ _ _ h => h) rfl hHeld (fun w => ?_) ?_
  · go_simp
  simp only [Act.put, List.setIfInBounds_toArray, List.set_cons_zero, List.set_cons_succ]
  refine take_run 13 (.bool true) rfl (by kernel_rfl) (by kernel_rfl) (by kernel_rfl) (fun _ _ _ h => h) rfl hHeld (fun w => ?_) ?_
  · go_simp
  simp only [Act.put, List.setIfInBounds_toArray, List.set_cons_zero, List.set_cons_succ]
  refine take_move 14 (.tmp 139) (.bool true) rfl rfl rfl (by kernel_rfl) (by kernel_rfl) (by kernel_rfl) (fun _ _ _ h => h) rfl hHeld ?_
  simp only [Act.put, List.setIfInBounds_toArray, List.set_cons_zero, List.set_cons_succ]
  refine take_move 15 (.tmp 32) (.bool true) rfl rfl rfl (by kernel_rfl) (by kernel_rfl) (by kernel_rfl) (fun _ _ _ h => h) rfl hHeld ?_
  simp only [Act.put, List.setIfInBounds_toArray, List.set_cons_zero, List.set_cons_succ]
  refine take_run 16 (.bool true) rfl (by kernel_rfl) (by kernel_rfl) (by kernel_rfl) (fun _ _ _ h => h) rfl hHeld (fun w => ?_) ?_
  · go_simp
  simp only [Act.put, List.setIfInBounds_toArray, List.set_cons_zero, List.set_cons_succ]
  refine take_move 17 (.tmp 142) (.bool true) rfl rfl rfl (by kernel_rfl) (by kernel_rfl) (by kernel_rfl) (fun _ _ _ h => h) rfl hHeld ?_
  simp only [Act.put, List.setIfInBounds_toArray, List.set_cons_zero, List.set_cons_succ]
  refine take_move 18 (.tmp 23) (.int .i64 e5) rfl rfl rfl (by kernel_rfl) (by kernel_rfl) (by kernel_rfl) (fun _ _ _ h => h) rfl hHeld ?_
  simp only [Act.put, List.setIfInBounds_toArray, List.set_cons_zero, List.set_cons_succ]
  refine take_move 19 (.tmp 25) (.int .i64 e5) rfl rfl rfl (by kernel_rfl) (by kernel_rfl) (by kernel_rfl) (fun _ _ _ h => h) rfl hHeld ?_
  simp only [Act.put, List.setIfInBounds_toArray, List.set_cons_zero, List.set_cons_succ]
  refine take_run 20 (.bool true) rfl (by kernel_rfl) (by kernel_rfl) (by kernel_rfl) (fun _ _ _ h => h) rfl hHeld (fun w => ?_) ?_
  · go_simp
  simp only [Act.put, List.setIfInBounds_toArray, List.set_cons_zero, List.set_cons_succ]
  refine take_run 21 (.bool true) rfl (by kernel_rfl) (by kernel_rfl) (by kernel_rfl) (fun _ _ _ h => h) rfl hHeld (fun w => ?_) ?_
  · go_simp
  simp only [Act.put, List.setIfInBounds_toArray, List.set_cons_zero, List.set_cons_succ]
  refine take_move 22 (.tmp 147) (.bool true) rfl rfl rfl (by kernel_rfl) (by kernel_rfl) (by kernel_rfl) (fun _ _ _ h => h) rfl hHeld ?_
  simp only [Act.put, List.setIfInBounds_toArray, List.set_cons_zero, List.set_cons_succ]
  refine take_move 23 (.tmp 33) (.bool true) rfl rfl rfl (by kernel_rfl) (by kernel_rfl) (by kernel_rfl) (fun _ _ _ h => h) rfl hHeld ?_
  simp only [Act.put, List.setIfInBounds_toArray, List.set_cons_zero, List.set_cons_succ]
  refine take_run 24 (.bool true) rfl (by kernel_rfl) (by kernel_rfl) (by kernel_rfl) (fun _ _ _ h => h) rfl hHeld (fun w => ?_) ?_
  · go_simp
  simp only [Act.put, List.setIfInBounds_toArray, List.set_cons_zero, List.set_cons_succ]
  refine take_move 25 (.tmp 150) (.bool true) rfl rfl rfl (by kernel_rfl) (by kernel_rfl) (by kernel_rfl) (fun _ _ _ h => h) rfl hHeld ?_
  simp only [Act.put, List.setIfInBounds_toArray, List.set_cons_zero, List.set_cons_succ]
  refine take_move 26 (.tmp 34) (.bool true) rfl rfl rfl (by kernel_rfl) (by kernel_rfl) (by kernel_rfl) (fun _ _ _ h => h) rfl hHeld ?_
  simp only [Act.put, List.setIfInBounds_toArray, List.set_cons_zero, List.set_cons_succ]
  refine take_run 27 (.bool true) rfl (by kernel_rfl) (by kernel_rfl) (by kernel_rfl) (fun _ _ _ h => h) rfl hHeld (fun w => ?_) ?_
  · go_simp
  simp only [Act.put, List.setIfInBounds_toArray, List.set_cons_zero, List.set_cons_succ]
  refine take_move 28 (.tmp 153) (.bool true) rfl rfl rfl (by kernel_rfl) (by kernel_rfl) (by kernel_rfl) (fun _ _ _ h => h) rfl hHeld ?_
  simp only [Act.put, List.setIfInBounds_toArray, List.set_cons_zero, List.set_cons_succ]
  refine take_move 29 (.tmp 27) (.bool z7) rfl rfl rfl (by kernel_rfl) (by kernel_rfl) (by kernel_rfl) (fun _ _ _ h => h) rfl hHeld ?_
  simp only [Act.put, List.setIfInBounds_toArray, List.set_cons_zero, List.set_cons_succ]
  refine take_move 30 (.tmp 29) (.bool z7) rfl rfl rfl (by kernel_rfl) (by kernel_rfl) (by kernel_rfl) (fun _ _ _ h => h) rfl hHeld ?_
  simp only [Act.put, List.setIfInBounds_toArray, List.set_cons_zero, List.set_cons_succ]
  refine take_run 31 (.bool true) rfl (by kernel_rfl) (by kernel_rfl) (by kernel_rfl) (fun _ _ _ h => h) rfl hHeld (fun w => ?_) ?_
  · go_simp
  simp only [Act.put, List.setIfInBounds_toArray, List.set_cons_zero, List.set_cons_succ]
  refine take_run 32 (.bool true) rfl (by kernel_rfl) (by kernel_rfl) (by kernel_rfl) (fun _ _ _ h => h) rfl hHeld (fun w => ?_) ?_
  · go_simp
  simp only [Act.put, List.setIfInBounds_toArray, List.set_cons_zero, List.set_cons_succ]
  refine take_move 33 (.tmp 158) (.bool true) rfl rfl rfl (by kernel_rfl) (by kernel_rfl) (by kernel_rfl) (fun _ _ _ h => h) rfl hHeld ?_
  simp only [Act.put, List.setIfInBounds_toArray, List.set_cons_zero, List.set_cons_succ]
  refine take_if 34 (.agg #[.int .i64 cap, .slice A n c, .int .i64 sure]) rfl (by kernel_rfl) (by kernel_rfl) (by kernel_rfl) (fun _ _ _ h => h) rfl hHeld (fun w' hw' => ?_) ?_
  · obtain ⟨h1, h2⟩ := hw'
    obtain ⟨x0, x1, x2⟩ := h1.cells
    obtain ⟨y0, y1, y2⟩ := h2.cells
    go_simp
  simp only [Act.put, List.setIfInBounds_toArray, List.set_cons_zero, List.set_cons_succ]
  refine take_move 36 (.tmp 35) (.bool M) rfl rfl rfl (by kernel_rfl) (by kernel_rfl) (by kernel_rfl) (fun _ _ _ h => h) rfl hHeld ?_
  simp only [Act.put, List.setIfInBounds_toArray, List.set_cons_zero, List.set_cons_succ]
  refine one_step 35 (by kernel_rfl) rfl (fun K hK => ?_)
  go_simp
  go_at_call 23
  refine (stmay_any _ A n c _ Y0 hn).mono ?_
  rintro e v4 ⟨he, hb⟩
  rw [HM.out] at he
  subst he
  have hVv4 : Below w.heap.size w v4 := hV0.trans (hb.mono hV0.size)
  have Vv4 := V0.below hb
  refine hK.out _ _ Vv4 (fun hHeld0 => ?_)
  clear hK K hHeld hb V0 
  have hHeld := hHeld0
  clear hHeld0
  try simp only [Act.put, List.setIfInBounds_toArray, List.set_cons_zero, List.set_cons_succ]
  refine take_run 37 (.bool true) rfl (by kernel_rfl) (by kernel_rfl) (by kernel_rfl) (fun _ _ _ h => h) rfl hHeld (fun w => ?_) ?_
  · go_simp
  simp only [Act.put, List.setIfInBounds_toArray, List.set_cons_zero, List.set_cons_succ]
  refine take_run 38 (.bool true) rfl (by kernel_rfl) (by kernel_rfl) (by kernel_rfl) (fun _ _ _ h => h) rfl hHeld (fun w => ?_) ?_
  · go_simp
  simp only [Act.put, List.setIfInBounds_toArray, List.set_cons_zero, List.set_cons_succ]
  refine take_move 39 (.tmp 164) (.bool true) rfl rfl rfl (by kernel_rfl) (by kernel_rfl) (by kernel_rfl) (fun _ _ _ h => h) rfl hHeld ?_
  simp only [Act.put, List.setIfInBounds_toArray, List.set_cons_zero, List.set_cons_succ]
  refine take_if 40 (.agg #[.int .i64 cap, .slice A n c, .int .i64 sure]) rfl (by kernel_rfl) (by kernel_rfl) (by kernel_rfl) (fun _ _ _ h => h) rfl hHeld (fun w' hw' => ?_) ?_
  · obtain ⟨h1, h2⟩ := hw'
    obtain ⟨x0, x1, x2⟩ := h1.cells
    obtain ⟨y0, y1, y2⟩ := h2.cells
    go_simp
  simp only [Act.put, List.setIfInBounds_toArray, List.set_cons_zero, List.set_cons_succ]
  refine take_if 41 (.agg #[.int .i64 cap9, .slice A9 n9 c9, .int .i64 sure9]) rfl (by kernel_rfl) (by kernel_rfl) (by kernel_rfl) (fun _ _ _ h => h) rfl hHeld (fun w' hw' => ?_) ?_
  · obtain ⟨h1, h2⟩ := hw'
    obtain ⟨x0, x1, x2⟩ := h1.cells
    obtain ⟨y0, y1, y2⟩ := h2.cells
    go_simp
  simp only [Act.put, List.setIfInBounds_toArray, List.set_cons_zero, List.set_cons_succ]
  refine take_move 43 (.tmp 36) (.bool SM) rfl rfl rfl (by kernel_rfl) (by kernel_rfl) (by kernel_rfl) (fun _ _ _ h => h) rfl hHeld ?_
  simp only [Act.put, List.setIfInBounds_toArray, List.set_cons_zero, List.set_cons_succ]
  refine one_step 42 (by kernel_rfl) rfl (fun K hK => ?_)
  go_simp
  go_at_call 24
  refine (stsame_at cap data sure A n c v4 cap9 data9 sure9 A9 n9 c9 (HA.out.below hVv4) (HD.out.below hVv4)).mono ?_
  rintro e v5 ⟨he, hb⟩
  rw [HSM.out] at he
  subst he
  have hVv5 : Below w.heap.size w v5 := hVv4.trans (hb.mono hVv4.size)
  have Vv5 := Vv4.below hb
  refine hK.out _ _ Vv5 (fun hHeld0 => ?_)
  clear hK K hHeld hb Vv4 
  have hHeld := hHeld0
  clear hHeld0
  try simp only [Act.put, List.setIfInBounds_toArray, List.set_cons_zero, List.set_cons_succ]
  refine take_run 44 (.bool true) rfl (by kernel_rfl) (by kernel_rfl) (by kernel_rfl) (fun _ _ _ h => h) rfl hHeld (fun w => ?_) ?_
  · go_simp
  simp only [Act.put, List.setIfInBounds_toArray, List.set_cons_zero, List.set_cons_succ]
  refine take_run 45 (.bool true) rfl (by kernel_rfl) (by kernel_rfl) (by kernel_rfl) (fun _ _ _ h => h) rfl hHeld (fun w => ?_) ?_
  · go_simp
  simp only [Act.put, List.setIfInBounds_toArray, List.set_cons_zero, List.set_cons_succ]
  refine take_move 46 (.tmp 171) (.bool true) rfl rfl rfl (by kernel_rfl) (by kernel_rfl) (by kernel_rfl) (fun _ _ _ h => h) rfl hHeld ?_
  simp only [Act.put, List.setIfInBounds_toArray, List.set_cons_zero, List.set_cons_succ]
  refine take_if 47 (.agg #[.int .i64 cap, .slice A n c, .int .i64 sure]) rfl (by kernel_rfl) (by kernel_rfl) (by kernel_rfl) (fun _ _ _ h => h) rfl hHeld (fun w' hw' => ?_) ?_
  · obtain ⟨h1, h2⟩ := hw'
    obtain ⟨x0, x1, x2⟩ := h1.cells
    obtain ⟨y0, y1, y2⟩ := h2.cells
    go_simp
  simp only [Act.put, List.setIfInBounds_toArray, List.set_cons_zero, List.set_cons_succ]
  refine take_if 49 (.agg #[.int .i64 cap, .slice A n c, .int .i64 sure]) rfl (by kernel_rfl) (by kernel_rfl) (by kernel_rfl) (fun _ _ _ h => h) rfl hHeld (fun w' hw' => ?_) ?_
  · obtain ⟨h1, h2⟩ := hw'
    obtain ⟨x0, x1, x2⟩ := h1.cells
    obtain ⟨y0, y1, y2⟩ := h2.cells
    go_simp
  simp only [Act.put, List.setIfInBounds_toArray, List.set_cons_zero, List.set_cons_succ]
  refine one_step 48 (by kernel_rfl) rfl (fun K hK => ?_)
  go_simp
  go_at_call 25
  refine (stleft_any _ A n c _ v5 hn).mono ?_
  rintro e v6 ⟨he, hb⟩
  rw [HLF.out] at he
  subst he
  have hVv6 : Below w.heap.size w v6 := hVv5.trans (hb.mono hVv5.size)
  have Vv6 := Vv5.below hb
  refine hK.out _ _ Vv6 (fun hHeld0 => ?_)
  clear hK K hHeld hb Vv5 
  have hHeld := hHeld0
  clear hHeld0
  try simp only [Act.put, List.setIfInBounds_toArray, List.set_cons_zero, List.set_cons_succ]
  refine one_step 50 (by kernel_rfl) rfl (fun K hK => ?_)
  go_simp
  go_at_call 26
  refine (rstleft_any _ A n c _ v6 hn).mono ?_
  rintro e v7 ⟨he, hb⟩
  rw [HLF.out] at he
  subst he
  have hVv7 : Below w.heap.size w v7 := hVv6.trans (hb.mono hVv6.size)
  have Vv7 := Vv6.below hb
  refine hK.out _ _ Vv7 (fun hHeld0 => ?_)
  clear hK K hHeld hb Vv6 
  have hHeld := hHeld0
  clear hHeld0
  try simp only [Act.put, List.setIfInBounds_toArray, List.set_cons_zero, List.set_cons_succ]
  refine take_run 51 (.bool true) rfl (by kernel_rfl) (by kernel_rfl) (by kernel_rfl) (fun _ _ _ h => h) rfl hHeld (fun w => ?_) ?_
  · go_simp
  simp only [Act.put, List.setIfInBounds_toArray, List.set_cons_zero, List.set_cons_succ]
  refine take_run 52 (.bool true) rfl (by kernel_rfl) (by kernel_rfl) (by kernel_rfl) (fun _ _ _ h => h) rfl hHeld (fun w => ?_) ?_
  · go_simp
  simp only [Act.put, List.setIfInBounds_toArray, List.set_cons_zero, List.set_cons_succ]
  refine take_run 53 (.bool true) rfl (by kernel_rfl) (by kernel_rfl) (by kernel_rfl) (fun _ _ _ h => h) rfl hHeld (fun w => ?_) ?_
  · go_simp
  simp only [Act.put, List.setIfInBounds_toArray, List.set_cons_zero, List.set_cons_succ]
  refine wpAnyH_done (by kernel_rfl) ?_ _
  go_wp2
  go_ret
  exact ⟨by simp, hVv7⟩
theorem stellsw_any (s t : Sp) (A A9 B : Option Addr) (n c n9 c9 m d : Nat) (b : List Int) (k room : Int) (w : World) (hb : Bts w A n c s.data) (hb9 : Bts w A9 n9 c9 t.data) (h2 : Bts w B m d b) :
    Calls Try.prog 3 #[s.val A n c, t.val A9 n9 c9, .slice B m d, .int .i64 k, .int .i64 room] w (GBool true w) := by
  by_cases h5 : n ≤ 5000
  · by_cases h7 : n9 ≤ 5000
    · by_cases h6 : m ≤ 5000
      · exact stellsw_core s t A A9 B n c n9 c9 m d b k room w hb hb9 h2 h5 h7 h6
      · exact stellsw_no s t A A9 B n c n9 c9 m d b k room w hb hb9 h2 (.inr (.inr (by omega)))
    · exact stellsw_no s t A A9 B n c n9 c9 m d b k room w hb hb9 h2 (.inr (.inl (by omega)))
  · exact stellsw_no s t A A9 B n c n9 c9 m d b k room w hb hb9 h2 (.inl (by omega))
end Go.Proofs.Ytoohcpckdkbngaa
