/- The walk over package user's Find: by halves, by a closure; and over Role. -/
import Derived.Test.YtcfkpepohnjdfaaDoorUsrMay
namespace Go.Proofs.YtcfkpepohnjdfaaDoor
set_option linter.unusedVariables false
set_option linter.unusedSimpArgs false
open Go.RowKit

/-- a slice, and a number, that stand in boxes of their own -/
def BoxS (w : World) (g : Nat) (A : Option Addr) (n c : Nat) : Prop := w.heap[g]? = some (.cells #[.slice A n c] 22 (0, 0))
def BoxI (w : World) (g : Nat) (x : Int) : Prop := w.heap[g]? = some (.cells #[.int .i64 x] 3 (0, 0))
theorem BoxS.cell {w : World} {g : Nat} {A : Option Addr} {n c : Nat} (h : BoxS w g A n c) : w.cell? ⟨g, 0, none⟩ = some (.slice A n c) := (cell_of_row _ _ _ _ _ _ h).trans rfl
theorem BoxI.cell {w : World} {g : Nat} {x : Int} (h : BoxI w g x) : w.cell? ⟨g, 0, none⟩ = some (.int .i64 x) := (cell_of_row _ _ _ _ _ _ h).trans rfl
theorem BoxS.below {w w' : World} {g : Nat} {A : Option Addr} {n c : Nat} (h : BoxS w g A n c) (hb : Below w.heap.size w w') : BoxS w' g A n c := (hb.block g (Array.getElem?_eq_some_iff.1 h).1).trans h
theorem BoxI.below {w w' : World} {g : Nat} {x : Int} (h : BoxI w g x) (hb : Below w.heap.size w w') : BoxI w' g x := (hb.block g (Array.getElem?_eq_some_iff.1 h).1).trans h

set_option maxHeartbeats 1000000 in
theorem ufind1_any (A : Option Addr) (n c : Nat) (l : List Us) (no : Int) (g h : Nat) (j : Nat) (u : Us) (w : World) (hl : Uss w A n c l) (hg : BoxS w g A n c) (hh : BoxI w h no) (hj : j < n) (hu : l[j]? = some u) :
    Calls Tryd.prog 32 #[.int .i64 j, .pointer (some ⟨g, 0, none⟩), .pointer (some ⟨h, 0, none⟩)] w fun e w' => e = .returned (.bool (decide (no ≤ u.no))) ∧ ∃ k, w' = w.drewN k := by
  obtain ⟨b, off, u', rfl, -, -, hu', z0, -, -, -, -⟩ := hl.at_ j hj
  obtain rfl : u' = u := by rw [hu] at hu'; exact (Option.some.inj hu').symm
  have q0 : 0 ≤ (j : Int) := by omega
  have q1 : (j : Int) < n := by omega
  have hn := hl.small
  have b1 := hg.cell
  have b2 := hh.cell
  obtain ⟨x, hx⟩ : ∃ x, u'.no = x := ⟨_, rfl⟩
  rw [hx] at z0 ⊢
  clear hx hu hu' hl hg hh
  go_enter Tryd.func32, Tryd.ntmps32
  go_wp2
  go_quiet (fail)
  go_wp2
  go_ret
  exact ⟨rfl, _, rfl⟩
set_option maxHeartbeats 1000000 in
/-- the first one that is not below -/
theorem search_any (A : Option Addr) (n c : Nat) (l : List Us) (no : Int) (g h : Nat) (w : World) (hl : Uss w A n c l) (hg : BoxS w g A n c) (hh : BoxI w h no) (hm : mayFrom 0 l = true) (h8 : n ≤ 8) :
    Calls Tryd.prog 31 #[.int .i64 n, .func (.func 32) #[] #[.pointer (some ⟨g, 0, none⟩), .pointer (some ⟨h, 0, none⟩)]] w fun e w' => ∃ at_ : Nat, e = .returned (.int .i64 at_) ∧ at_ ≤ n ∧ (∀ k v, k < at_ → l[k]? = some v → v.no < no) ∧ (∀ k v, at_ ≤ k → l[k]? = some v → no ≤ v.no) ∧ ∃ k, w' = w.drewN k := by
  have HLL := Lib.hid hl.len
  have HM := Lib.hid hm
  clear hm
  go_enter Tryd.func31, Tryd.ntmps31
  go_wp2
  go_loopw [5, 6] (fun i j wr => ∃ a b : Nat, a ≤ b ∧ b ≤ n ∧ i = .int .i64 a ∧ j = .int .i64 b ∧ (∀ k v, k < a → l[k]? = some v → v.no < no) ∧ (∀ k v, b ≤ k → l[k]? = some v → no ≤ v.no) ∧ ∃ k, wr = w.drewN k) (fun i j _ => (intOf j).toNat - (intOf i).toNat)
  case atStart =>
    refine ⟨0, n, by omega, Nat.le_refl _, rfl, rfl, (fun k v hk => by omega), (fun k v hk hv => ?_), 0, rfl⟩
    have := (List.getElem?_eq_some_iff.1 hv).1
    rw [HLL.out] at this
    omega
  case round =>
    obtain ⟨a, b, hab, hbn, rfl, rfl, hlo, hhi, d, rfl⟩ := hrel
    by_cases hlt : a < b
    · have hlt' : (a : Int) < b := by omega
      obtain ⟨m, hm⟩ : ∃ m, m = (a + b) / 2 := ⟨_, rfl⟩
      have hma : a ≤ m := by omega
      have hmb : m < b := by omega
      have hml : m < l.length := by rw [HLL.out]; omega
      have hu : l[m]? = some l[m] := List.getElem?_eq_getElem hml
      obtain ⟨u, hu2⟩ : ∃ u, u = l[m] := ⟨_, rfl⟩
      rw [← hu2] at hu
      have HC := Lib.hid (ufind1_any A n c l no g h m u (w.drewN d) (hl.draw d) hg hh (by omega) hu)
      have hlo2 : ¬ no ≤ u.no → ∀ k v, k < m + 1 → l[k]? = some v → v.no < no := fun hno k v hk hv => by
        by_cases e : k = m
        · subst e
          rw [hu] at hv
          obtain rfl := Option.some.inj hv
          omega
        · have := may_rise HM.out k m v u (by omega) hv hu
          omega
      have hhi2 : no ≤ u.no → ∀ k v, m ≤ k → l[k]? = some v → no ≤ v.no := fun hno k v hk hv => by
        by_cases e : k = m
        · subst e
          rw [hu] at hv
          obtain rfl := Option.some.inj hv
          exact hno
        · have := may_rise HM.out m k u v (by omega) hu hv
          omega
      have HLO := Lib.hid hlo
      have HHI := Lib.hid hhi
      have HLO2 := Lib.hid hlo2
      have HHI2 := Lib.hid hhi2
      clear hlo hhi hlo2 hhi2 hu hu2 hml
      have em : ((m : Nat) : Int) = ((a : Int) + b) / 2 := by omega
      rw [em] at HC
      have HEM := Lib.hid em
      clear em
      obtain ⟨x, hx⟩ : ∃ x, u.no = x := ⟨_, rfl⟩
      rw [hx] at HC HLO2 HHI2
      clear hx
      by_cases hno : no ≤ x
      · have hd : decide (no ≤ x) = true := by rw [decide_eq_true_eq]; exact hno
        rw [hd] at HC
        have HHI3 := Lib.hid (HHI2.out hno)
        clear HHI2 HLO2 hd HHI
        go_wp2_with (go_at_call 32; refine HC.out.mono ?_; rintro e w1 ⟨rfl, j1, rfl⟩)
        go_roundw
        case rel => exact ⟨a, m, by omega, by omega, rfl, by rw [HEM.out], HLO.out, HHI3.out, _, rfl⟩
        case measure => simp [intOf]; omega
      · have hd : decide (no ≤ x) = false := by rw [decide_eq_false_iff_not]; exact hno
        rw [hd] at HC
        have HLO3 := Lib.hid (HLO2.out hno)
        clear HHI2 HLO2 hd HLO
        go_wp2_with (go_at_call 32; refine HC.out.mono ?_; rintro e w1 ⟨rfl, j1, rfl⟩)
        go_roundw
        case rel => exact ⟨m + 1, b, by omega, by omega, by rw [← HEM.out]; go_num, rfl, HLO3.out, HHI.out, _, rfl⟩
        case measure => simp [intOf]; omega
    · have hge : ¬ ((a : Int) < b) := by omega
      obtain rfl : a = b := by omega
      have HLO := Lib.hid hlo
      have HHI := Lib.hid hhi
      clear hlo hhi
      go_wp2
      go_ret
      exact ⟨a, rfl, hbn, HLO.out, HHI.out, _, rfl⟩
end Go.Proofs.YtcfkpepohnjdfaaDoor
