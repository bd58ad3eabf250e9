/- The walk over the law NumTells: numbers as bytes are what the document says. -/
import Derived.Test.YtocmhmjjjkamhaaNumCatW
namespace Go.Proofs.Ytocmhmjjjkamhaa
set_option linter.unusedVariables false
set_option linter.unusedSimpArgs false
open Go.RowKit

/-- a call that hands back bytes and a bool -/
def GivesB (L : List Int) (b : Bool) (w : World) (e : Ending) (w' : World) : Prop := ∃ A m c, e = .returned (.tuple #[.slice A m c, .bool b]) ∧ Bts w' A m c L ∧ Below w.heap.size w w'
/-- a call that hands back numbers and a bool -/
def GivesI (L : List Int) (b : Bool) (w : World) (e : Ending) (w' : World) : Prop := ∃ A m c, e = .returned (.tuple #[.slice A m c, .bool b]) ∧ Its .u64 w' A m c L ∧ Below w.heap.size w w'
theorem Own.gives {w w' : World} {v : Value} {L : List Int} (h : Own w' w.heap.size v L) (ho : ∀ j, 0 ≤ L.getD j 0 ∧ L.getD j 0 < 256) (hb : Below w.heap.size w w') : GivesB L true w (.returned (.tuple #[v, .bool true])) w' := by
  obtain ⟨A, m, c, rfl, hbt⟩ := h.slice ho
  exact ⟨A, m, c, rfl, hbt, hb⟩
theorem OwnI.gives {w w' : World} {e : TypeId} {v : Value} {L : List Int} (h : OwnI .u64 e w' w.heap.size v L) (hb : Below w.heap.size w w') : GivesI L true w (.returned (.tuple #[v, .bool true])) w' := by
  obtain ⟨A, m, c, rfl, hi⟩ := h.its
  exact ⟨A, m, c, rfl, hi, hb⟩
theorem puts (n k : Int) (h0 : 0 ≤ n) (h1 : n < 18446744073709551616) : ∃ L b, (∀ w, Calls Try.prog 10 #[.int .u64 n, .int .i64 k] w fun e w' => GivesB L b w e w') ∧ ∀ w, Calls Try.prog 11 #[.int .u64 n, .int .i64 k] w fun e w' => GivesB L b w e w' := by
  cases h : fitB n k with
  | false =>
    refine ⟨[], false, fun w => (put_no n k w h0 h1 h).mono fun e w' ⟨he, hw⟩ => ?_, fun w => (rput_no n k w h0 h1 h).mono fun e w' ⟨he, hw⟩ => ?_⟩
    · subst hw
      exact ⟨none, 0, 0, he, Bts.nil w, Below.refl _ _⟩
    · exact ⟨none, 0, 0, he, Bts.nil w', hw⟩
  | true =>
    obtain ⟨N, K, rfl, rfl, h2, h3, h4⟩ := fit_nat h0 h
    refine ⟨putL N K, true, fun w => (put_yes N K w h2 h3 h4).mono fun e w' ⟨he, hX, hB⟩ => ?_, fun w => (rput_yes N K w h2 h3 h4).mono fun e w' ⟨he, hX, hB⟩ => ?_⟩
    · exact ⟨_, _, _, he, hX.bts (putL_length N K) (by unfold maxLen; omega) (putL_ok N K), hB⟩
    · exact ⟨_, _, _, he, hX.bts (putL_length N K) (by unfold maxLen; omega) (putL_ok N K), hB⟩
theorem gets (n c : Nat) (b : List Int) (i k : Int) (ha0 : -9223372036854775808 ≤ i) (ha1 : i ≤ 9223372036854775807) (hk0 : -9223372036854775808 ≤ k) (hk1 : k ≤ 9223372036854775807) :
    ∃ x y, (∀ A w, Bts w A n c b → Calls Try.prog 12 #[.slice A n c, .int .i64 i, .int .i64 k] w fun e w' => e = .returned (.tuple #[.int .u64 x, .int .i64 y]) ∧ w = w') ∧ ∀ A w, Bts w A n c b → Calls Try.prog 13 #[.slice A n c, .int .i64 i, .int .i64 k] w fun e w' => e = .returned (.tuple #[.int .u64 x, .int .i64 y]) ∧ w = w' := by
  cases h : mayGet n i k with
  | false => exact ⟨_, _, fun A w hb => get_no A n c b i k w hb ha0 ha1 hk0 hk1 h, fun A w hb => rget_no A n c b i k w hb ha0 ha1 h⟩
  | true =>
    obtain ⟨a, K, rfl, rfl, h1, h2, h3⟩ := mayGet_nat h
    exact ⟨_, _, fun A w hb => get_yes A n c b a K w hb h1 h2 h3, fun A w hb => rget_yes A n c b a K w hb h1 h2 h3⟩
theorem catPost_gives {l : List (Int × Int)} {w w' : World} {e : Ending} (h : CatPost l w e w') : GivesB (if catB l then catL (toN l) else []) (catB l) w e w' := by
  obtain ⟨h1, h2, h3⟩ := h
  cases hc : catB l with
  | true =>
    obtain ⟨v, he, ho⟩ := h1 hc
    subst he
    exact ho.gives (catL_ok _) h3
  | false => exact ⟨none, 0, 0, h2 hc, Bts.nil w', h3⟩
theorem cats (n c : Nat) (l : List (Int × Int)) : ∃ L b, (∀ A w, Nms w A n c l → Calls Try.prog 14 #[.slice A n c] w fun e w' => GivesB L b w e w') ∧ ∀ A w, Nms w A n c l → Calls Try.prog 15 #[.slice A n c] w fun e w' => GivesB L b w e w' :=
  ⟨_, _, fun A w hl => (cat_any A n c l w hl).mono fun _ _ h => catPost_gives h, fun A w hl => (rcat_any A n c l w hl).mono fun _ _ h => catPost_gives h⟩
theorem cuts (n c m d : Nat) (b l : List Int) : ∃ L z, (∀ A D w, Bts w A n c b → Its .i64 w D m d l → Calls Try.prog 16 #[.slice A n c, .slice D m d] w fun e w' => GivesI L z w e w') ∧
    ∀ A D w, Bts w A n c b → Its .i64 w D m d l → Calls Try.prog 17 #[.slice A n c, .slice D m d] w fun e w' => GivesI L z w e w' := by
  cases hc : cutB l n with
  | false =>
    refine ⟨[], false, fun A D w hb hl => (cut_no A D n c m d b l w hb hl hc).mono fun e w' ⟨he, hw⟩ => ?_, fun A D w hb hl => (rcut_no A D n c m d b l w hb hl hc).mono fun e w' ⟨he, hw⟩ => ?_⟩
    · subst hw
      exact ⟨none, 0, 0, he, Its.nil _ w, Below.refl _ _⟩
    · subst hw
      exact ⟨none, 0, 0, he, Its.nil _ w, Below.refl _ _⟩
  | true =>
    rw [cutB, Bool.and_eq_true, decide_eq_true_eq] at hc
    obtain ⟨ks, rfl, hk, hk40⟩ := tog_nat hc.1
    have hs := hc.2
    rw [ints_sum] at hs
    refine ⟨ints (cutL ks b), true, fun A D w hb hl => (cut_yes A D n c m d b ks w hb hl hk hk40 (by omega)).mono fun e w' ⟨v, he, ho, hB⟩ => ?_, fun A D w hb hl => (rcut_yes A D n c m d b ks w hb hl hk hk40 (by omega)).mono fun e w' ⟨v, he, ho, hB⟩ => ?_⟩
    · subst he
      exact ho.gives hB
    · subst he
      exact ho.gives hB

theorem ntell_not (x k i : Int) (A B C : Option Addr) (n c m d p q : Nat) (w : World) (hn : n ≤ 9223372036854775807) (hm : m ≤ 9223372036854775807) (hp : p ≤ 9223372036854775807) (h : 400 < n ∨ 60 < m ∨ 60 < p) :
    Calls Try.prog 3 #[.int .u64 x, .int .i64 k, .slice A n c, .int .i64 i, .slice B m d, .slice C p q] w fun e w' => e = .returned (.bool true) ∧ Below w.heap.size w w' := by
  by_cases h1 : 400 < n
  · have h2 : (400 : Int) < n := by omega
    clear h h1
    go_enter Try.func3, Try.ntmps3
    go_wp2_with (go_at_call 9; refine (nawake_any _).mono ?_; rintro e w1 ⟨rfl, hB1⟩)
    go_ret
    exact ⟨rfl, hB1⟩
  · have h2 : (n : Int) ≤ 400 := by omega
    by_cases h3 : 60 < m
    · have h4 : (60 : Int) < m := by omega
      clear h h1 h3
      go_enter Try.func3, Try.ntmps3
      go_wp2_with (go_at_call 9; refine (nawake_any _).mono ?_; rintro e w1 ⟨rfl, hB1⟩)
      go_ret
      exact ⟨rfl, hB1⟩
    · have h4 : (m : Int) ≤ 60 := by omega
      have h5 : (60 : Int) < p := by omega
      clear h h1 h3
      go_enter Try.func3, Try.ntmps3
      go_wp2_with (go_at_call 9; refine (nawake_any _).mono ?_; rintro e w1 ⟨rfl, hB1⟩)
      go_ret
      exact ⟨rfl, hB1⟩

set_option maxRecDepth 100000 in
set_option maxHeartbeats 4000000 in
theorem ntell_ok (x k i : Int) (A B C : Option Addr) (n c m d p q : Nat) (b s : List Int) (l : List (Int × Int)) (w : World) (hn : n ≤ 400) (hm : m ≤ 60) (hp : p ≤ 60) (hb : Bts w A n c b) (hl : Nms w B m d l) (hs : Its .i64 w C p q s)
    (g0 : 0 ≤ x) (g1 : x < 18446744073709551616) (hk0 : -9223372036854775808 ≤ k) (hk1 : k ≤ 9223372036854775807) (hi0 : -9223372036854775808 ≤ i) (hi1 : i ≤ 9223372036854775807) :
    Calls Try.prog 3 #[.int .u64 x, .int .i64 k, .slice A n c, .int .i64 i, .slice B m d, .slice C p q] w fun e w' => e = .returned (.bool true) ∧ Below w.heap.size w w' := by
  have h1 : (n : Int) ≤ 400 := by omega
  have h2 : (m : Int) ≤ 60 := by omega
  have h3 : (p : Int) ≤ 60 := by omega
  obtain ⟨L1, b1, p1, p2⟩ := puts x k g0 g1
  obtain ⟨X, Y, p3, p4⟩ := gets n c b i k hi0 hi1 hk0 hk1
  obtain ⟨L2, b2, p5, p6⟩ := cats m d l
  obtain ⟨L3, b3, p7, p8⟩ := cuts n c p q b s
  obtain ⟨s1, hs1⟩ : ∃ z, bstr L1 = z := ⟨_, rfl⟩
  obtain ⟨s2, hs2⟩ : ∃ z, bstr L2 = z := ⟨_, rfl⟩
  have P1 := Lib.hid p1
  have P2 := Lib.hid p2
  have P3 := Lib.hid p3
  have P4 := Lib.hid p4
  have P5 := Lib.hid p5
  have P6 := Lib.hid p6
  have P7 := Lib.hid p7
  have P8 := Lib.hid p8
  have S1 := Lib.hid hs1
  have S2 := Lib.hid hs2
  clear p1 p2 p3 p4 p5 p6 p7 p8 hs1 hs2 hn hm hp g0 g1 hk0 hk1 hi0 hi1
  go_enter Try.func3, Try.ntmps3
  go_wp2_with (first
    | (go_at_call 9; refine (nawake_any _).mono ?_; rintro e w1 ⟨rfl, hB1⟩)
    | (go_at_call 10; (with_reducible refine (P1.out w1).mono ?_); rintro e w2 ⟨A2, m2, c2, rfl, hv2, hb2⟩
       have hB2 := then_below hB1 hb2
       clear hb2)
    | (go_at_call 11; (with_reducible refine (P2.out w2).mono ?_); rintro e w3 ⟨A3, m3, c3, rfl, hv3, hb3⟩
       have hB3 := then_below hB2 hb3
       have hv2' := hv2.below hb3
       clear hb3 hv2)
    | (go_at_call 12; (with_reducible refine (P3.out A w3 (hb.below hB3)).mono ?_); rintro e w4 ⟨rfl, rfl⟩)
    | (go_at_call 13; (with_reducible refine (P4.out A w3 (hb.below hB3)).mono ?_); rintro e w4 ⟨rfl, rfl⟩)
    | (go_at_call 14; (with_reducible refine (P5.out B w3 (hl.below hB3)).mono ?_); rintro e w5 ⟨A5, m5, c5, rfl, hv5, hb5⟩
       have hB5 := then_below hB3 hb5
       have x2 := hv2'.below hb5
       have x3 := hv3.below hb5
       clear hb5 hv2' hv3)
    | (go_at_call 15; (with_reducible refine (P6.out B w5 (hl.below hB5)).mono ?_); rintro e w6 ⟨A6, m6, c6, rfl, hv6, hb6⟩
       have hB6 := then_below hB5 hb6
       have y2 := x2.below hb6
       have y3 := x3.below hb6
       have y5 := hv5.below hb6
       clear hb6 x2 x3 hv5)
    | (go_at_call 16; (with_reducible refine (P7.out A C w6 (hb.below hB6) (hs.below hB6)).mono ?_); rintro e w7 ⟨A7, m7, c7, rfl, hv7, hb7⟩
       have hB7 := then_below hB6 hb7
       have z2 := y2.below hb7
       have z3 := y3.below hb7
       have z5 := y5.below hb7
       have z6 := hv6.below hb7
       clear hb7 y2 y3 y5 hv6)
    | (go_at_call 17; (with_reducible refine (P8.out A C w7 (hb.below hB7) (hs.below hB7)).mono ?_); rintro e w8 ⟨A8, m8, c8, rfl, hv8, hb8⟩
       have hB8 := then_below hB7 hb8
       have u2 := z2.below hb8
       have u3 := z3.below hb8
       have u5 := z5.below hb8
       have u6 := z6.below hb8
       have u7 := hv7.below hb8
       clear hb8 z2 z3 z5 z6 hv7)
    | (go_at_call 18; (with_reducible refine (nums_any A7 A8 m7 c7 m8 c8 L3 L3 w8 u7 hv8).mono ?_); rintro e w9 ⟨he, j, hw9⟩
       rw [beq_self_eq_true] at he
       subst he
       have hB9 : Below w.heap.size w w9 := by rw [hw9]; exact below_drewN hB8 _
       have k2 : (convert 23 9 (.slice A2 m2 c2)).run Try.prog w9 = .ok (.string s1) w9 := by rw [hw9, ← S1.out]; exact conv_bts (u2.draw j)
       have k3 : (convert 23 9 (.slice A3 m3 c3)).run Try.prog w9 = .ok (.string s1) w9 := by rw [hw9, ← S1.out]; exact conv_bts (u3.draw j)
       have k5 : (convert 23 9 (.slice A5 m5 c5)).run Try.prog w9 = .ok (.string s2) w9 := by rw [hw9, ← S2.out]; exact conv_bts (u5.draw j)
       have k6 : (convert 23 9 (.slice A6 m6 c6)).run Try.prog w9 = .ok (.string s2) w9 := by rw [hw9, ← S2.out]; exact conv_bts (u6.draw j)
       clear hw9 u2 u3 u5 u6 u7 hv8))
  go_ret
  exact ⟨by simp, hB9⟩
theorem ntell_all (x k i : Int) (A B C : Option Addr) (n c m d p q : Nat) (b s : List Int) (l : List (Int × Int)) (w : World) (hb : Bts w A n c b) (hl : Nms w B m d l) (hs : Its .i64 w C p q s)
    (g0 : 0 ≤ x) (g1 : x < 18446744073709551616) (hk0 : -9223372036854775808 ≤ k) (hk1 : k ≤ 9223372036854775807) (hi0 : -9223372036854775808 ≤ i) (hi1 : i ≤ 9223372036854775807) :
    Calls Try.prog 3 #[.int .u64 x, .int .i64 k, .slice A n c, .int .i64 i, .slice B m d, .slice C p q] w fun e w' => e = .returned (.bool true) ∧ Below w.heap.size w w' := by
  by_cases h : 400 < n ∨ 60 < m ∨ 60 < p
  · exact ntell_not x k i A B C n c m d p q w hb.small hl.rws.small hs.small h
  · exact ntell_ok x k i A B C n c m d p q b s l w (by omega) (by omega) (by omega) hb hl hs g0 g1 hk0 hk1 hi0 hi1
end Go.Proofs.Ytocmhmjjjkamhaa
