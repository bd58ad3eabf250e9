/- What a call gives: both sides, the program's and the plain answers', of one hidden value. -/
import Derived.Test.YtfjiefhicjnnnaaNumRefCut
namespace Go.Proofs.Ytfjiefhicjnnnaa
set_option linter.unusedVariables false
set_option linter.unusedSimpArgs false
open Go.RowKit

/-- a call that hands back bytes and a bool -/
def GivesB (L : List Int) (b : Bool) (w : World) (e : Ending) (w' : World) : Prop := ∃ A m c, e = .returned (.tuple #[.slice A m c, .bool b]) ∧ Bts w' A m c L ∧ Below w.heap.size w w'
/-- a call that hands back numbers and a bool -/
def GivesI (L : List Int) (b : Bool) (w : World) (e : Ending) (w' : World) : Prop := ∃ A m c, e = .returned (.tuple #[.slice A m c, .bool b]) ∧ Its .u64 w' A m c L ∧ Below w.heap.size w w'
theorem Own.gives {w w' : World} {v : Value} {L : List Int} (h : Own w' w.heap.size v L) (ho : ∀ j, 0 ≤ L.getD j 0 ∧ L.getD j 0 < 256) (hb : Below w.heap.size w w') : GivesB L true w (.returned (.tuple #[v, .bool true])) w' := by
  obtain ⟨A, m, c, rfl, hbt⟩ := h.slice ho
  exact ⟨A, m, c, rfl, hbt, hb⟩
theorem OwnI.gives {w w' : World} {e : TypeId} {v : Value} {L : List Int} (h : OwnI .u64 e w' w.heap.size v L) (hb : Below w.heap.size w w') : GivesI L true w (.returned (.tuple #[v, .bool true])) w' := by
  obtain ⟨A, m, c, rfl, hi⟩ := h.its
  exact ⟨A, m, c, rfl, hi, hb⟩
theorem puts (n k : Int) (h0 : 0 ≤ n) (h1 : n < 18446744073709551616) : ∃ L b, (∀ w, Calls Try.prog 34 #[.int .u64 n, .int .i64 k] w fun e w' => GivesB L b w e w') ∧ ∀ w, Calls Try.prog 35 #[.int .u64 n, .int .i64 k] w fun e w' => GivesB L b w e w' := by
  cases h : fitB n k with
  | false =>
    refine ⟨[], false, fun w => (put_no n k w h0 h1 h).mono fun e w' ⟨he, hw⟩ => ?_, fun w => (rput_no n k w h0 h1 h).mono fun e w' ⟨he, hw⟩ => ?_⟩
    · subst hw
      exact ⟨none, 0, 0, he, Bts.nil w, Below.refl _ _⟩
    · exact ⟨none, 0, 0, he, Bts.nil w', hw⟩
  | true =>
    obtain ⟨N, K, rfl, rfl, h2, h3, h4⟩ := fit_nat h0 h
    refine ⟨putL N K, true, fun w => (put_yes N K w h2 h3 h4).mono fun e w' ⟨he, hX, hB⟩ => ?_, fun w => (rput_yes N K w h2 h3 h4).mono fun e w' ⟨he, hX, hB⟩ => ?_⟩
    · exact ⟨_, _, _, he, hX.bts (putL_length N K) (by unfold maxLen; omega) (putL_ok N K), hB⟩
    · exact ⟨_, _, _, he, hX.bts (putL_length N K) (by unfold maxLen; omega) (putL_ok N K), hB⟩
theorem gets (n c : Nat) (b : List Int) (i k : Int) (ha0 : -9223372036854775808 ≤ i) (ha1 : i ≤ 9223372036854775807) (hk0 : -9223372036854775808 ≤ k) (hk1 : k ≤ 9223372036854775807) :
    ∃ x y, (∀ A w, Bts w A n c b → Calls Try.prog 37 #[.slice A n c, .int .i64 i, .int .i64 k] w fun e w' => e = .returned (.tuple #[.int .u64 x, .int .i64 y]) ∧ w = w') ∧ ∀ A w, Bts w A n c b → Calls Try.prog 38 #[.slice A n c, .int .i64 i, .int .i64 k] w fun e w' => e = .returned (.tuple #[.int .u64 x, .int .i64 y]) ∧ w = w' := by
  cases h : mayGet n i k with
  | false => exact ⟨_, _, fun A w hb => get_no A n c b i k w hb ha0 ha1 hk0 hk1 h, fun A w hb => rget_no A n c b i k w hb ha0 ha1 h⟩
  | true =>
    obtain ⟨a, K, rfl, rfl, h1, h2, h3⟩ := mayGet_nat h
    exact ⟨_, _, fun A w hb => get_yes A n c b a K w hb h1 h2 h3, fun A w hb => rget_yes A n c b a K w hb h1 h2 h3⟩
theorem catPost_gives {l : List (Int × Int)} {w w' : World} {e : Ending} (h : CatPost l w e w') : GivesB (if catB l then catL (toN l) else []) (catB l) w e w' := by
  obtain ⟨h1, h2, h3⟩ := h
  cases hc : catB l with
  | true =>
    obtain ⟨v, he, ho⟩ := h1 hc
    subst he
    exact ho.gives (catL_ok _) h3
  | false => exact ⟨none, 0, 0, h2 hc, Bts.nil w', h3⟩
theorem cats (n c : Nat) (l : List (Int × Int)) : ∃ L b, (∀ A w, Nms w A n c l → Calls Try.prog 24 #[.slice A n c] w fun e w' => GivesB L b w e w') ∧ ∀ A w, Nms w A n c l → Calls Try.prog 25 #[.slice A n c] w fun e w' => GivesB L b w e w' :=
  ⟨_, _, fun A w hl => (cat_any A n c l w hl).mono fun _ _ h => catPost_gives h, fun A w hl => (rcat_any A n c l w hl).mono fun _ _ h => catPost_gives h⟩
theorem cuts (n c m d : Nat) (b l : List Int) : ∃ L z, (∀ A D w, Bts w A n c b → Its .i64 w D m d l → Calls Try.prog 26 #[.slice A n c, .slice D m d] w fun e w' => GivesI L z w e w') ∧
    ∀ A D w, Bts w A n c b → Its .i64 w D m d l → Calls Try.prog 28 #[.slice A n c, .slice D m d] w fun e w' => GivesI L z w e w' := by
  cases hc : cutB l n with
  | false =>
    refine ⟨[], false, fun A D w hb hl => (cut_no A D n c m d b l w hb hl hc).mono fun e w' ⟨he, hw⟩ => ?_, fun A D w hb hl => (rcut_no A D n c m d b l w hb hl hc).mono fun e w' ⟨he, hw⟩ => ?_⟩
    · subst hw
      exact ⟨none, 0, 0, he, Its.nil _ w, Below.refl _ _⟩
    · subst hw
      exact ⟨none, 0, 0, he, Its.nil _ w, Below.refl _ _⟩
  | true =>
    rw [cutB, Bool.and_eq_true, decide_eq_true_eq] at hc
    obtain ⟨ks, rfl, hk, hk40⟩ := tog_nat hc.1
    have hs := hc.2
    rw [ints_sum] at hs
    refine ⟨ints (cutL ks b), true, fun A D w hb hl => (cut_yes A D n c m d b ks w hb hl hk hk40 (by omega)).mono fun e w' ⟨v, he, ho, hB⟩ => ?_, fun A D w hb hl => (rcut_yes A D n c m d b ks w hb hl hk hk40 (by omega)).mono fun e w' ⟨v, he, ho, hB⟩ => ?_⟩
    · subst he
      exact ho.gives hB
    · subst he
      exact ho.gives hB
end Go.Proofs.Ytfjiefhicjnnnaa
