/- The walk over package know's has: a closure over a term, handed to slices.ContainsFunc. -/
import Derived.Test.YtcpeaeefphgbaaaKnwTms
namespace Go.Proofs.Ytcpeaeefphgbaaa
set_option linter.unusedVariables false
set_option linter.unusedSimpArgs false
open Go.RowKit

/-- a term that stands in a box of its own -/
def Cup (w : World) (g : Nat) (k n : Int) (A : Option Addr) (m c : Nat) : Prop := w.heap[g]? = some (.cells #[.int .i64 k, .int .i64 n, .slice A m c] 24 (0, 0))
theorem Cup.cells {w : World} {g : Nat} {k n : Int} {A : Option Addr} {m c : Nat} (h : Cup w g k n A m c) : w.cell? ⟨g, 0, none⟩ = some (.int .i64 k) ∧ w.cell? ⟨g, 1, none⟩ = some (.int .i64 n) ∧ w.cell? ⟨g, 2, none⟩ = some (.slice A m c) :=
  ⟨(cell_of_row _ _ _ _ _ _ h).trans rfl, (cell_of_row _ _ _ _ _ _ h).trans rfl, (cell_of_row _ _ _ _ _ _ h).trans rfl⟩
theorem Cup.lt {w : World} {g : Nat} {k n : Int} {A : Option Addr} {m c : Nat} (h : Cup w g k n A m c) : g < w.heap.size := (Array.getElem?_eq_some_iff.1 h).1
theorem Cup.below {w w' : World} {g : Nat} {k n : Int} {A : Option Addr} {m c : Nat} (h : Cup w g k n A m c) (hb : Below w.heap.size w w') : Cup w' g k n A m c := (hb.block g h.lt).trans h
theorem Cup.new (w : World) (k n : Int) (A : Option Addr) (m c : Nat) : Cup (w.alloc (.cells #[.int .i64 k, .int .i64 n, .slice A m c] 24)) w.heap.size k n A m c := heap_alloc_new w _

set_option maxHeartbeats 1000000 in
theorem has1_any (P Q : Nat → Prop) (u t : Te) (k n k2 n2 : Int) (A A2 : Option Addr) (m c m2 c2 g : Nat) (w : World) (hI : Is P w u k n A m c) (hJ : Is Q w t k2 n2 A2 m2 c2) (hg : Cup w g k2 n2 A2 m2 c2) :
    Calls Try.prog 46 #[.agg #[.int .i64 k, .int .i64 n, .slice A m c], .pointer (some ⟨g, 0, none⟩)] w (GivesB (u.same t) w) := by
  have hone := one_alloc w (.cells #[.int .i64 k, .int .i64 n, .slice A m c] 24)
  obtain ⟨z0, z1, z2⟩ := (hg.below hone).cells
  have HC := Lib.hid (psame_any _ _ u t k n k2 n2 A A2 m c m2 c2 _ (hI.later hone) (hJ.later hone))
  have HONE := Lib.hid hone
  clear hone hI hJ hg
  go_enter Try.func46, Try.ntmps46
  go_wp2_with (go_at_call 40; refine HC.out.mono ?_; rintro e w1 ⟨rfl, hb4⟩; have HB4 := Lib.hid (HONE.out.trans (hb4.mono HONE.out.size)); clear hb4)
  go_ret
  exact ⟨rfl, HB4.out⟩

set_option maxHeartbeats 1000000 in
theorem indexFunc_any (P Q : Nat → Prop) (l : List Te) (t : Te) (A : Option Addr) (m c : Nat) (k2 n2 : Int) (A2 : Option Addr) (m2 c2 g : Nat) (w : World) (hI : Is P w (.node 0 0 l) 0 0 A m c) (hJ : Is Q w t k2 n2 A2 m2 c2) (hg : Cup w g k2 n2 A2 m2 c2) :
    Calls Try.prog 52 #[.slice A m c, .func (.func 46) #[] #[.pointer (some ⟨g, 0, none⟩)]] w (fun e w' => ∃ r : Int, e = .returned (.int .i64 r) ∧ decide (0 ≤ r) = isIn l t ∧ Below w.heap.size w w') := by
  obtain ⟨hl, -, -, hm⟩ := hI.len
  have HI := Lib.hid hI
  have HJ := Lib.hid hJ
  have HG := Lib.hid hg
  have HL := Lib.hid hl
  clear hl hI hJ hg
  go_enter Try.func52, Try.ntmps52
  go_wp2
  go_loopw [8] (fun v wr => ∃ j : Nat, j ≤ m ∧ v = .int .i64 j ∧ isIn (l.take j) t = false ∧ Below w.heap.size w wr) (fun v _ => m - (intOf v).toNat)
  case atStart => exact ⟨0, Nat.zero_le _, rfl, by simp [isIn], Below.refl _ _⟩
  case round =>
    obtain ⟨j, hj, rfl, hsm, hbw⟩ := hrel
    have HBW := Lib.hid hbw
    by_cases hlt : j < m
    · have hjl : j < l.length := by rw [HL.out]; exact hlt
      have hst := isIn_take (t := t) j hjl
      have hsp := isIn_stop (t := t) j hjl
      rw [hsm, Bool.false_or] at hst
      obtain ⟨b, off, k', n', A', m', c', rfl, hI', z0, z1, z2⟩ := HI.out.at_ hbw j hlt hjl
      have HC := Lib.hid (has1_any _ _ l[j] t k' n' k2 n2 A' A2 m' c' m2 c2 g wr hI' (HJ.out.later hbw) (HG.out.below hbw))
      have q0 : 0 ≤ (j : Int) := by omega
      have q1 : (j : Int) < m := by omega
      cases hsj : l[j].same t with
      | false =>
        rw [hsj] at HC hst
        have HST := Lib.hid hst
        clear hbw hI' hst hsp hsj hsm
        go_wp2_with (go_at_call 46; refine HC.out.mono ?_; rintro e w1 ⟨rfl, hb4⟩)
        go_roundw
        case rel => exact ⟨j + 1, by omega, by go_num, HST.out, HBW.out.trans (hb4.mono HBW.out.size)⟩
        case measure => simp [intOf]; omega
      | true =>
        rw [hsj] at HC
        have HST := Lib.hid (hsp hsj)
        clear hbw hI' hst hsp hsj hsm
        go_wp2_with (go_at_call 46; refine HC.out.mono ?_; rintro e w1 ⟨rfl, hb4⟩)
        go_ret
        exact ⟨j, rfl, by rw [HST.out, decide_eq_true q0], HBW.out.trans (hb4.mono HBW.out.size)⟩
    · obtain rfl : j = m := by omega
      rw [List.take_of_length_le (by rw [HL.out]; exact Nat.le_refl _)] at hsm
      have HS := Lib.hid hsm
      clear hbw hsm
      go_wp2
      go_ret
      exact ⟨-1, rfl, by rw [HS.out]; rfl, HBW.out⟩
theorem containsFunc_any (P Q : Nat → Prop) (l : List Te) (t : Te) (A : Option Addr) (m c : Nat) (k2 n2 : Int) (A2 : Option Addr) (m2 c2 g : Nat) (w : World) (hI : Is P w (.node 0 0 l) 0 0 A m c) (hJ : Is Q w t k2 n2 A2 m2 c2) (hg : Cup w g k2 n2 A2 m2 c2) :
    Calls Try.prog 45 #[.slice A m c, .func (.func 46) #[] #[.pointer (some ⟨g, 0, none⟩)]] w (GivesB (isIn l t) w) := by
  have HC := Lib.hid (indexFunc_any P Q l t A m c k2 n2 A2 m2 c2 g w hI hJ hg)
  clear hI hJ hg
  go_enter Try.func45, Try.ntmps45
  go_wp2_with (go_at_call 52; refine HC.out.mono ?_; rintro e w1 ⟨r, rfl, hr, hb4⟩; have HB4 := Lib.hid hb4; have HR := Lib.hid hr; clear hb4 hr)
  go_ret
  exact ⟨by rw [← HR.out]; rfl, HB4.out⟩
theorem has_any (P Q : Nat → Prop) (l : List Te) (t : Te) (A : Option Addr) (m c : Nat) (k2 n2 : Int) (A2 : Option Addr) (m2 c2 : Nat) (w : World) (hI : Is P w (.node 0 0 l) 0 0 A m c) (hJ : Is Q w t k2 n2 A2 m2 c2) :
    Calls Try.prog 34 #[.slice A m c, .agg #[.int .i64 k2, .int .i64 n2, .slice A2 m2 c2]] w (GivesB (isIn l t) w) := by
  have hmf := hmf
  have hone := one_alloc w (.cells #[.int .i64 k2, .int .i64 n2, .slice A2 m2 c2] 24)
  have HC := Lib.hid (containsFunc_any _ _ l t A m c k2 n2 A2 m2 c2 _ _ (hI.later hone) (hJ.later hone) (Cup.new w k2 n2 A2 m2 c2))
  have HONE := Lib.hid hone
  clear hI hJ hone
  go_enter Try.func34, Try.ntmps34
  go_wp2_with (go_at_call 45; refine HC.out.mono ?_; rintro e w1 ⟨rfl, hb4⟩; have HB4 := Lib.hid (HONE.out.trans (hb4.mono HONE.out.size)); clear hb4)
  go_ret
  exact ⟨rfl, HB4.out⟩
end Go.Proofs.Ytcpeaeefphgbaaa
