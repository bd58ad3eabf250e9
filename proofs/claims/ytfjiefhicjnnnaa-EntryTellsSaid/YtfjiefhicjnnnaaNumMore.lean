/- What the walks over package num's laws, and others, share: pieces of bytes, numbers that fit; what a call gives. -/
import Derived.Test.YtfjiefhicjnnnaaNumGet
namespace Go.Proofs.Ytfjiefhicjnnnaa
set_option linter.unusedVariables false
set_option linter.unusedSimpArgs false
open Go.RowKit

theorem then_below {w w1 w2 : World} (h : Below w.heap.size w w1) (h2 : Below w1.heap.size w1 w2) : Below w.heap.size w w2 := h.trans (h2.mono h.size)
theorem fit8 (n : Int) (h0 : 0 ≤ n) (h1 : n < 18446744073709551616) : fitB n 8 = true := by
  unfold fitB
  rw [decide_eq_true_eq]
  exact ⟨by omega, by omega, by simp; omega⟩
theorem top7 : fitB 18446744073709551615 7 = false := by decide +kernel

theorem fit_more (N K : Nat) (h1 : 1 ≤ K) (h2 : K < 8) (h3 : N < 256 ^ K) : fitB N ((K : Int) + 1) = true := by
  have h := fit_of N (K + 1) (by omega) (by omega) (by rw [Nat.pow_succ]; omega)
  simpa using h
theorem fit_nine (n : Int) : fitB n 9 = false := by
  unfold fitB
  rw [decide_eq_false_iff_not]
  omega
theorem fit_low (n k : Int) (h : fitB n k = true) : 1 ≤ k ∧ k ≤ 8 := by
  unfold fitB at h
  rw [decide_eq_true_eq] at h
  exact ⟨h.1, h.2.1⟩

theorem bstr_u8s (l : List Int) : (bstr l).toList = u8s l := by
  have e : ∀ b : ByteArray, b.toList = b.data.toList := fun b => by
    rcases b with ⟨⟨d⟩⟩
    simp
  rw [e]
  rfl
theorem less_bstr (N M K : Nat) (hN : N < 256 ^ K) (hM : M < 256 ^ K) : Op.bytesLess (bstr (putL N K)).toList (bstr (putL M K)).toList = decide (N < M) := by
  rw [bstr_u8s, bstr_u8s, less_put N M K hN hM]
theorem putL_ok (N K : Nat) : ∀ j, 0 ≤ (putL N K).getD j 0 ∧ (putL N K).getD j 0 < 256 := ok_map _ (fun i => putAt_ok N K i) K
theorem conv_row {w : World} {g K : Nat} {l : List Int} (h : RowB w g 5 l) (hl : l.length = K) (hm : K ≤ maxLen) (hok : ∀ j, 0 ≤ l.getD j 0 ∧ l.getD j 0 < 256) :
    (convert 26 9 (.slice (some ⟨g, 0, none⟩) K K)).run Try.prog w = .ok (.string (bstr l)) w := conv_bts (h.bts hl hm hok)

theorem one_more (N K : Nat) (h : N < 256 ^ K) : bstr (putL N (K + 1)) = bstr ([0] ++ putL N K) := by rw [put_long N K h]; rfl
theorem zero_str (l : List Int) (hl : l.length ≤ 8388608) (w : World) : (Op.stringOp .add ⟨#[0]⟩ (bstr l)).run Try.prog w = .ok (.string (bstr ([0] ++ l))) w := by
  have := add_bstr [0] l (by simp) hl w
  exact this
/-- a slice that tells this text -/
def ConvTo (w : World) (v : Value) (s : ByteArray) : Prop := ∃ A n c l, v = .slice A n c ∧ bstr l = s ∧ Bts w A n c l
theorem ConvTo.keep {w w' : World} {v : Value} {s : ByteArray} (h : ConvTo w v s) (hb : Below w.heap.size w w') : ConvTo w' v s := by
  obtain ⟨A, n, c, l, rfl, rfl, h⟩ := h
  exact ⟨A, n, c, l, rfl, rfl, h.below hb⟩
theorem ConvTo.run {w : World} {v : Value} {s : ByteArray} (h : ConvTo w v s) : (convert 26 9 v).run Try.prog w = .ok (.string s) w := by
  obtain ⟨A, n, c, l, rfl, rfl, h⟩ := h
  exact conv_bts h
theorem mayGet_nat {n : Nat} {i k : Int} (h : mayGet n i k = true) : ∃ a K : Nat, i = a ∧ k = K ∧ 1 ≤ K ∧ K ≤ 8 ∧ a + K ≤ n := by
  unfold mayGet at h
  rw [decide_eq_true_eq] at h
  exact ⟨i.toNat, k.toNat, by omega, by omega, by omega, by omega, by omega⟩
theorem get_some (A : Option Addr) (n c : Nat) (l : List Int) (i k : Int) (w : World) (hb : Bts w A n c l) (ha0 : -9223372036854775808 ≤ i) (ha1 : i ≤ 9223372036854775807) (hk0 : -9223372036854775808 ≤ k) (hk1 : k ≤ 9223372036854775807) :
    Calls Try.prog 37 #[.slice A n c, .int .i64 i, .int .i64 k] w fun e w' => ∃ x y, e = .returned (.tuple #[.int .u64 x, .int .i64 y]) ∧ w = w' := by
  cases h : mayGet n i k with
  | false => exact (get_no A n c l i k w hb ha0 ha1 hk0 hk1 h).mono fun e w' ⟨he, hw⟩ => ⟨_, _, he, hw⟩
  | true =>
    obtain ⟨a, K, rfl, rfl, h1, h2, h3⟩ := mayGet_nat h
    exact (get_yes A n c l a K w hb h1 h2 h3).mono fun e w' ⟨he, hw⟩ => ⟨_, _, he, hw⟩
/-- the piece that was got is put as the same bytes -/
theorem put_piece (l : List Int) (a K : Nat) (hl : ∀ j, 0 ≤ l.getD j 0 ∧ l.getD j 0 < 256) (h : a + K ≤ l.length) : putL (numL ((l.drop a).take K)) K = (l.drop a).take K := by
  have hlen : ((l.drop a).take K).length = K := by rw [List.length_take, List.length_drop]; omega
  have := put_num ((l.drop a).take K) (fun x hx => mem_ok hl x (List.mem_of_mem_drop (List.mem_of_mem_take hx)))
  rw [hlen] at this
  exact this
theorem num_piece (l : List Int) (a K : Nat) (hl : ∀ j, 0 ≤ l.getD j 0 ∧ l.getD j 0 < 256) (h : a + K ≤ l.length) : numL ((l.drop a).take K) < 256 ^ K := by
  have hlen : ((l.drop a).take K).length = K := by rw [List.length_take, List.length_drop]; omega
  have := numL_bound ((l.drop a).take K) (fun x hx => mem_ok hl x (List.mem_of_mem_drop (List.mem_of_mem_take hx)))
  rw [hlen] at this
  exact this
/-- what is put is got out of the middle -/
theorem ok_nil : ∀ j, 0 ≤ ([] : List Int).getD j 0 ∧ ([] : List Int).getD j 0 < 256 := by simp
theorem piece_bts {w : World} {b off n c a K : Nat} {l : List Int} (h : Bts w (some ⟨b, off, none⟩) n c l) (ha : a + K ≤ n) (hK : 1 ≤ K) : Bts w (some ⟨b, off + a, none⟩) K (c - a) ((l.drop a).take K) := by
  have hle := h.le
  have hm := h.max
  refine ⟨by rw [List.length_take, List.length_drop, h.len]; omega, by omega, by omega, ok_piece l h.ok a K, (fun e => by cases e), fun _ => ⟨b, off + a, rfl, fun j hj => ?_⟩⟩
  obtain ⟨b', off', hA, hc⟩ := h.at_ (by omega)
  injection hA with hA
  injection hA with e1 e2 _
  subst e1 e2
  have := hc (a + j) (by omega)
  rw [← Nat.add_assoc] at this
  rw [this]
  simp [List.getD_eq_getElem?_getD, List.getElem?_take, hj, List.getElem?_drop]
theorem mid_piece (a p b : List Int) : ((a ++ p ++ b).drop a.length).take p.length = p := by
  rw [List.append_assoc, List.drop_left, List.take_left]
end Go.Proofs.Ytfjiefhicjnnnaa
