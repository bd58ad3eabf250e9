/- Pure facts of plans, for the laws. -/
import Derived.Test.YtjjjfckkglcdfaaPlnHave
namespace Go.Proofs.Ytjjjfckkglcdfaa
set_option maxRecDepth 100000
set_option linter.unusedVariables false
set_option linter.unusedSimpArgs false
open Go.RowKit

def atN (n k i : Nat) : Nat := (k + i) % n
def seenN (n k : Nat) : Nat → Nat
  | 0 => 0
  | i + 1 => seenN n k i ||| 2 ^ atN n k i
theorem round7 : ∀ (n k i : Fin 7), k.val < n.val → i.val < n.val → seenN n.val k.val i.val < 64 ∧ (seenN n.val k.val i.val).testBit (atN n.val k.val i.val) = false ∧ atN n.val k.val i.val < n.val ∧ atN n.val k.val (i.val + 1) = (if atN n.val k.val i.val = n.val - 1 then 0 else atN n.val k.val i.val + 1) := by decide +kernel
theorem at_zero {n k : Nat} (h : k < n) : atN n k 0 = k := Nat.mod_eq_of_lt h
theorem at_all {n k : Nat} (h : k < n) : atN n k n = k := by rw [atN, Nat.add_mod_right]; exact Nat.mod_eq_of_lt h
theorem next_at {p : Pl} {n k i : Nat} (hf : fitP p = true) (hn : p.s.length = n) (h6 : n ≤ 6) (hk : k < n) (hi : i < n) : nextP p (atN n k i : Nat) = (atN n k (i + 1) : Nat) := by
  obtain ⟨-, -, h3, h4⟩ := round7 ⟨n, by omega⟩ ⟨k, by omega⟩ ⟨i, by omega⟩ hk hi
  simp only at h3 h4
  rw [nextP, if_pos ⟨hf, by omega, by omega⟩, h4]
  by_cases e : atN n k i = n - 1
  · rw [if_pos (by omega), if_pos e]; rfl
  · rw [if_neg (by omega), if_neg e]; simp
/-- what Least tells, of stages of one tick at least -/
theorem least_or (g : Nat) : ∀ (l a : List Stg) (o : Int), (∀ x ∈ l, 1 ≤ x.mn) → ((o = 0 ∧ ∀ x ∈ a, bitI x.g g = false) ∨ (1 ≤ o ∧ (∃ x ∈ a, bitI x.g g = true ∧ x.mn = o) ∧ ∀ x ∈ a, bitI x.g g = true → o ≤ x.mn)) →
    ((leastF g l o = 0 ∧ ∀ x ∈ a ++ l, bitI x.g g = false) ∨ (1 ≤ leastF g l o ∧ (∃ x ∈ a ++ l, bitI x.g g = true ∧ x.mn = leastF g l o) ∧ ∀ x ∈ a ++ l, bitI x.g g = true → leastF g l o ≤ x.mn))
  | [], a, o, _, h => by simpa [leastF] using h
  | x :: l, a, o, h1, h => by
    have ih := least_or g l (a ++ [x])
    rw [leastF]
    simp only [List.append_assoc, List.cons_append, List.nil_append] at ih
    have hx1 := h1 x (by simp)
    refine ih _ (fun y hy => h1 y (by simp [hy])) ?_
    simp only [List.mem_append, List.mem_cons, List.not_mem_nil, or_false]
    cases hb : bitI x.g g
    · rw [if_neg (by simp)]
      rcases h with ⟨h0, hn⟩ | ⟨ho, ⟨y, hy, hyb, hym⟩, hle⟩
      · exact .inl ⟨h0, fun z hz => hz.elim (hn z) (fun e => by rw [e]; exact hb)⟩
      · exact .inr ⟨ho, ⟨y, .inl hy, hyb, hym⟩, fun z hz hzb => hz.elim (fun h => hle z h hzb) (fun e => by rw [e, hb] at hzb; cases hzb)⟩
    · by_cases hc : o = 0 ∨ x.mn < o
      · rw [if_pos ⟨rfl, hc⟩]
        refine .inr ⟨hx1, ⟨x, .inr rfl, hb, rfl⟩, fun z hz hzb => hz.elim (fun hz => ?_) (fun e => by rw [e]; exact Int.le_refl _)⟩
        rcases h with ⟨h0, hn⟩ | ⟨ho, -, hle⟩
        · rw [hn z hz] at hzb; cases hzb
        · have := hle z hz hzb
          omega
      · rw [if_neg fun h => hc h.2]
        rcases h with ⟨h0, -⟩ | ⟨ho, ⟨y, hy, hyb, hym⟩, hle⟩
        · exact (hc (.inl h0)).elim
        · refine .inr ⟨ho, ⟨y, .inl hy, hyb, hym⟩, fun z hz hzb => hz.elim (fun h => hle z h hzb) (fun e => by rw [e]; omega)⟩
theorem least_fit {p : Pl} {g : Nat} (hf : fitP p = true) (hg : g < p.m.length) : 1 ≤ leastP p (g : Int) ∧ (∃ x ∈ p.s, bitI x.g g = true ∧ x.mn = leastP p (g : Int)) ∧ ∀ x ∈ p.s, bitI x.g g = true → leastP p (g : Int) ≤ x.mn := by
  have hff := fit_iff.1 hf
  have e : leastP p (g : Int) = leastF g p.s 0 := by rw [leastP, if_pos ⟨hf, by omega, by omega⟩, Int.toNat_natCast]
  rw [e]
  rcases least_or g p.s [] 0 (fun x hx => (hff.stage x hx).2.2.1) (.inl ⟨rfl, fun x hx => by cases hx⟩) with ⟨-, h⟩ | h
  · obtain ⟨x, hx, hb⟩ := hff.some g hg
    rw [h x (by simpa using hx)] at hb
    cases hb
  · simpa using h
/-- cycles -/
theorem cyc_sum (am rd : Int) : ∀ (l : List Stg) (o : Int), cycF am rd l o = o + cycF 0 0 l 0 + l.length * (am + rd)
  | [], o => by simp [cycF]
  | x :: l, o => by
    rw [cycF, cyc_sum am rd l, cycF, cyc_sum 0 0 l (0 + x.mn + 0 + 0)]
    have e : (((x :: l).length : Nat) : Int) = (l.length : Int) + 1 := by simp
    rw [e, Int.add_mul]
    omega
theorem mins_ge : ∀ (l : List Stg), (∀ x ∈ l, 1 ≤ x.mn) → (l.length : Int) ≤ cycF 0 0 l 0
  | [], _ => by simp [cycF]
  | x :: l, h => by
    have ih := mins_ge l (fun y hy => h y (by simp [hy]))
    have hx := h x (by simp)
    rw [cycF, cyc_sum]
    have e : (((x :: l).length : Nat) : Int) = (l.length : Int) + 1 := by simp
    rw [e]
    omega
theorem mins_one : ∀ (l : List Stg) (x : Stg), (∀ y ∈ l, 1 ≤ y.mn) → x ∈ l → x.mn + l.length - 1 ≤ cycF 0 0 l 0
  | [], x, _, hx => by cases hx
  | y :: l, x, h, hx => by
    have hy := h y (by simp)
    have hl := mins_ge l (fun z hz => h z (by simp [hz]))
    have e : (((y :: l).length : Nat) : Int) = (l.length : Int) + 1 := by simp
    rw [cycF, cyc_sum, e]
    rcases List.mem_cons.1 hx with rfl | hx
    · omega
    · have ih := mins_one l x (fun z hz => h z (by simp [hz])) hx
      omega
theorem mins_le : ∀ (l : List Stg), (∀ x ∈ l, x.mn ≤ 200) → cycF 0 0 l 0 ≤ 200 * l.length
  | [], _ => by simp [cycF]
  | x :: l, h => by
    have ih := mins_le l (fun y hy => h y (by simp [hy]))
    have hx := h x (by simp)
    have e : (((x :: l).length : Nat) : Int) = (l.length : Int) + 1 := by simp
    rw [cycF, cyc_sum, e]
    omega
end Go.Proofs.Ytjjjfckkglcdfaa
