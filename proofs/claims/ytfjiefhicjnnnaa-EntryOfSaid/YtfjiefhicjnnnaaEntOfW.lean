/- The walk over the law EntryOf: those of all kinds, together, are all that have one; each list has its kind alone. -/
import Derived.Test.YtfjiefhicjnnnaaEntAwake
namespace Go.Proofs.Ytfjiefhicjnnnaa
set_option linter.unusedVariables false
set_option linter.unusedSimpArgs false
open Go.RowKit

/-- how many there are of the first kinds -/
def sumE (l : List En) : Nat → Nat
  | 0 => 0
  | k + 1 => sumE l k + (ofE l k).length
def kindB (u : En) : Bool := decide (0 ≤ u.kind) && decide (u.kind < 5)
def inE (l : List En) : Nat := (l.filter kindB).length
theorem sum_cons (u : En) (l : List En) (k : Nat) : sumE (u :: l) k = sumE l k + if 0 ≤ u.kind ∧ u.kind < k then 1 else 0 := by
  induction k with
  | zero => simp [sumE]
  | succ k ih =>
    rw [sumE, sumE, ih, ofE, List.filter_cons]
    by_cases h : u.kind = k
    · have h1 : (u.kind == (k : Int)) = true := by rw [beq_iff_eq]; exact h
      rw [if_pos h1, if_neg (by omega), if_pos (by omega), List.length_cons, ofE]
      omega
    · have h1 : ¬ (u.kind == (k : Int)) = true := by rw [beq_iff_eq]; exact h
      rw [if_neg h1, ← ofE]
      by_cases h2 : 0 ≤ u.kind ∧ u.kind < k
      · rw [if_pos h2, if_pos (by omega)]; omega
      · rw [if_neg h2, if_neg (by omega)]; omega
theorem sum_in (l : List En) : sumE l 5 = inE l := by
  induction l with
  | nil => rfl
  | cons u l ih =>
    rw [sum_cons, ih, inE, inE, List.filter_cons]
    by_cases h : 0 ≤ u.kind ∧ u.kind < (5 : Nat)
    · have h1 : kindB u = true := by simp [kindB]; omega
      rw [if_pos h, if_pos h1, List.length_cons]
    · have h1 : ¬ kindB u = true := by simp [kindB]; omega
      rw [if_neg h, if_neg h1]
      omega
theorem sum_le (l : List En) : ∀ k, sumE l k ≤ k * l.length
  | 0 => by simp [sumE]
  | k + 1 => by
    have h1 := sum_le l k
    have h2 := of_len l k
    rw [sumE, Nat.add_mul, Nat.one_mul]
    omega
theorem in_le (l : List En) : inE l ≤ l.length := List.length_filter_le _ _
theorem in_take {l : List En} {j : Nat} {u : En} (h : l[j]? = some u) : inE (l.take (j + 1)) = inE (l.take j) + if kindB u then 1 else 0 := by
  rw [take_more h, inE, List.filter_append, List.length_append, inE]
  cases hk : kindB u <;> simp [hk]
theorem of_kind {l : List En} {k : Int} {j : Nat} {u : En} (h : (ofE l k)[j]? = some u) : u.kind = k := by
  have := List.mem_of_getElem? h
  rw [ofE, List.mem_filter, beq_iff_eq] at this
  exact this.2
set_option maxHeartbeats 1000000 in
theorem eofw_big (A : Option Addr) (n c : Nat) (l : List En) (kind : Int) (w : World) (hl : Ens w A n c l) (h : 300 < n) :
    Calls Try.prog 6 #[.slice A n c, .int .i64 kind] w fun e w' => e = .returned (.bool true) ∧ Below w.heap.size w w' := by
  have hn := hl.small
  have h1 : (300 : Int) < n := by omega
  go_enter Try.func6, Try.ntmps6
  go_wp2_with (go_at_call 9; refine (eawake_any _).mono ?_; rintro e w1 ⟨rfl, hb1⟩; have HB1 := Lib.hid hb1; clear hb1)
  go_ret
  exact ⟨rfl, HB1.out⟩
set_option maxHeartbeats 4000000 in
theorem eofw_core (A : Option Addr) (n c : Nat) (l : List En) (kind : Int) (w : World) (hl : Ens w A n c l) (h : n ≤ 300) :
    Calls Try.prog 6 #[.slice A n c, .int .i64 kind] w fun e w' => e = .returned (.bool true) ∧ Below w.heap.size w w' := by
  have hn := hl.small
  have h1 : (n : Int) ≤ 300 := by omega
  have HL := Lib.hid hl
  have HLL := Lib.hid hl.len
  clear hl
  go_enter Try.func6, Try.ntmps6
  go_wp2_with (go_at_call 9; refine (eawake_any _).mono ?_; rintro e w1 ⟨rfl, hb1⟩; have HB1 := Lib.hid hb1; clear hb1)
  go_loopw [6, 8] (fun v i wr => ∃ k x : Nat, k ≤ 5 ∧ i = .int .i64 k ∧ v = .int .i64 x ∧ x = sumE l k ∧ Below w.heap.size w wr) (fun _ i _ => 5 - (intOf i).toNat)
  case atStart => exact ⟨0, 0, by omega, rfl, rfl, rfl, HB1.out⟩
  case round =>
    obtain ⟨k, x, hk, rfl, rfl, hx, hb⟩ := hrel
    have hxs : (x : Int) ≤ 1500 := by
      have h2 := sum_le l k
      rw [HLL.out, ← hx] at h2
      have h3 : k * n ≤ 5 * 300 := Nat.mul_le_mul hk h
      omega
    by_cases hlt : k < 5
    · have hlt' : (k : Int) < 5 := by omega
      have HB := Lib.hid hb
      have HX := Lib.hid hx
      clear hb hx
      go_wp2_with (go_at_call 16
                   refine (eof_any A n c l (k : Int) wr (HL.out.below HB.out) (by omega)).mono ?_
                   rintro e w2 ⟨A2, n2, c2, rfl, hen, hb2⟩
                   have hn2 : n2 = (ofE l k).length := hen.len.symm
                   have hn3 : (n2 : Int) ≤ 300 := by
                     have := of_len l (k : Int)
                     rw [HLL.out, ← hn2] at this
                     omega
                   have HN2 := Lib.hid hn2
                   have HB2 := Lib.hid (HB.out.trans (hb2.mono HB.out.size))
                   clear hn2 hb2 hen)
      go_roundw
      case rel => exact ⟨k + 1, x + n2, by omega, by go_num, by go_num, by rw [sumE, ← HX.out, HN2.out], HB2.out⟩
      case measure => simp [intOf]; omega
    · have hk5 : k = 5 := by omega
      subst hk5
      rw [sum_in] at hx
      have HX := Lib.hid hx
      have HB := Lib.hid hb
      clear hb hx hk hlt
      go_wp2
      go_loopw [7, 9] (fun v i ws => ∃ j y : Nat, j ≤ n ∧ i = .int .i64 j ∧ v = .int .i64 y ∧ y = inE (l.take j) ∧ ws = wr) (fun _ i _ => n - (intOf i).toNat)
      case atStart => exact ⟨0, 0, by omega, rfl, rfl, rfl, rfl⟩
      case round =>
        obtain ⟨j, y, hj, rfl, rfl, hy, rfl⟩ := hrel
        have hys : (y : Int) ≤ 300 := by
          have h2 := in_le (l.take j)
          rw [List.length_take, ← hy] at h2
          omega
        by_cases hlt : j < n
        · obtain ⟨b, off, u, rfl, hu, -, z0, z1, z2, z3, z4, z5, z6, z7, z8⟩ := (HL.out.below HB.out).at_ j hlt
          have hnx := in_take hu
          rw [← hy] at hnx
          have q0 : 0 ≤ (j : Int) := by omega
          have q1 : (j : Int) < n := by omega
          rcases u with ⟨a0, a1, a2, a3, a4, a5, a6, a7, a8⟩
          simp only at z0 z1 z2 z3 z4 z5 z6 z7 z8
          clear hu hy
          by_cases g1 : 0 ≤ a0
          · by_cases g2 : a0 < 5
            · have hkb : kindB ⟨a0, a1, a2, a3, a4, a5, a6, a7, a8⟩ = true := by simp [kindB, g1, g2]
              rw [hkb, if_pos rfl] at hnx
              have HN := Lib.hid hnx.symm
              have d1 : decide (0 ≤ a0) = true := decide_eq_true g1
              have d2 : decide (a0 < 5) = true := decide_eq_true g2
              clear hnx hkb g1 g2
              go_wp2
              go_roundw
              case rel => exact ⟨j + 1, y + 1, by omega, by go_num, by go_num, HN.out, trivial⟩
              case measure => simp [intOf]; omega
            · have hkb : kindB ⟨a0, a1, a2, a3, a4, a5, a6, a7, a8⟩ = false := by simp [kindB]; omega
              rw [hkb, if_neg (by decide), Nat.add_zero] at hnx
              have HN := Lib.hid hnx.symm
              have d1 : decide (0 ≤ a0) = true := decide_eq_true g1
              have d2 : decide (a0 < 5) = false := decide_eq_false g2
              clear hnx hkb g1 g2
              go_wp2
              go_roundw
              case rel => exact ⟨j + 1, y, by omega, by go_num, rfl, HN.out, trivial⟩
              case measure => simp [intOf]; omega
          · have hkb : kindB ⟨a0, a1, a2, a3, a4, a5, a6, a7, a8⟩ = false := by simp [kindB]; omega
            rw [hkb, if_neg (by decide), Nat.add_zero] at hnx
            have HN := Lib.hid hnx.symm
            have d1 : decide (0 ≤ a0) = false := decide_eq_false g1
            clear hnx hkb g1
            go_wp2
            go_roundw
            case rel => exact ⟨j + 1, y, by omega, by go_num, rfl, HN.out, trivial⟩
            case measure => simp [intOf]; omega
        · have hjn : j = n := by omega
          subst hjn
          rw [List.take_of_length_le (by rw [HLL.out]; exact Nat.le_refl _)] at hy
          have hxy : x = y := HX.out.trans hy.symm
          subst hxy
          clear hy hj hlt
          go_wp2_with (go_at_call 16
                       refine (eof_any A j c l kind wr (HL.out.below HB.out) (by omega)).mono ?_
                       rintro e w2 ⟨A2, n2, c2, rfl, hen, hb2⟩
                       have hn3 : (n2 : Int) ≤ j := by
                         have := of_len l kind
                         rw [HLL.out, hen.len] at this
                         omega
                       have HEN := Lib.hid hen
                       have HB2 := Lib.hid (HB.out.trans (hb2.mono HB.out.size))
                       clear hb2 hen)
          go_loopw [11] (fun i ws => ∃ t : Nat, t ≤ n2 ∧ i = .int .i64 t ∧ ws = w2) (fun i _ => n2 - (intOf i).toNat)
          case atStart => exact ⟨0, by omega, rfl, rfl⟩
          case round =>
            obtain ⟨t, ht, rfl, rfl⟩ := hrel
            by_cases hlt : t < n2
            · obtain ⟨b, off, u, rfl, hu, -, z0, z1, z2, z3, z4, z5, z6, z7, z8⟩ := HEN.out.at_ t hlt
              have hkk := of_kind hu
              rw [hkk] at z0
              have q0 : 0 ≤ (t : Int) := by omega
              have q1 : (t : Int) < n2 := by omega
              have q2 : (kind != kind) = false := by simp
              clear hu hkk z1 z2 z3 z4 z5 z6 z7 z8
              go_wp2
              go_roundw
              case rel => exact ⟨t + 1, by omega, by go_num, trivial⟩
              case measure => simp [intOf]; omega
            · have htn : t = n2 := by omega
              subst htn
              go_wp2
              go_ret
              exact ⟨by simp, HB2.out⟩
theorem eofw_any (A : Option Addr) (n c : Nat) (l : List En) (kind : Int) (w : World) (hl : Ens w A n c l) :
    Calls Try.prog 6 #[.slice A n c, .int .i64 kind] w fun e w' => e = .returned (.bool true) ∧ Below w.heap.size w w' := by
  by_cases h : 300 < n
  · exact eofw_big A n c l kind w hl h
  · exact eofw_core A n c l kind w hl (by omega)
end Go.Proofs.Ytfjiefhicjnnnaa
