/- What package role answers, plainly; the tables as cells; Is, May, Turns, Name, and the document's own answers to them. -/
import Derived.Test.YtiknhahkcffoeaaDoorBasInts
namespace Go.Proofs.YtiknhahkcffoeaaDoor
set_option linter.unusedVariables false
set_option linter.unusedSimpArgs false
open Go.RowKit

def isB (r : Int) : Bool := decide (0 ≤ r) && decide (r < 4)
def cmdB (c : Int) : Bool := decide (0 ≤ c) && decide (c < 8)
def maysT : List (List Bool) := [[true, true, true, true], [false, true, true, false], [false, true, true, false], [false, true, true, false], [false, false, true, false], [false, false, true, true], [false, false, true, true], [true, true, true, true]]
def mayN (c r : Nat) : Bool := (maysT.getD c []).getD r false
def mayB (r c : Int) : Bool := isB r && cmdB c && mayN c.toNat r.toNat
def turnsB (c : Int) : Bool := decide (1 ≤ c) && decide (c ≤ 6)
def namesT : List ByteArray := [⟨#[103, 101, 116]⟩, ⟨#[104, 111, 108, 100]⟩, ⟨#[102, 114, 101, 101]⟩, ⟨#[110, 101, 120, 116]⟩, ⟨#[112, 108, 97, 110]⟩, ⟨#[114, 101, 100]⟩, ⟨#[99, 108, 101, 97, 114]⟩, ⟨#[99, 108, 111, 115, 101]⟩]
def nameB (c : Int) : ByteArray := if cmdB c then namesT.getD c.toNat ⟨#[]⟩ else ⟨#[]⟩
def readL (s : ByteArray) : List ByteArray → Int → Int
  | [], _ => -1
  | n :: r, i => if n.toList == s.toList then i else readL s r (i + 1)
def readB (s : ByteArray) : Int := readL s namesT 0
def cmds : List Int := [0, 1, 2, 3, 4, 5, 6, 7]
def roles : List Int := [0, 1, 2, 3]
def allB (r : Int) : List Int := cmds.filter fun c => mayB r c
def whoB (c : Int) : List Int := roles.filter fun r => mayB r c

/-- the tables, as they lie -/
structure Tabs (w : World) : Prop where
  mays : ∀ c r, c < 8 → r < 4 → w.cell? ⟨0, c * 4 + r, none⟩ = some (.bool (mayN c r))
  names : ∀ c, c < 8 → w.cell? ⟨1, c, none⟩ = some (.string (namesT.getD c ⟨#[]⟩))
theorem Tabs.below {w w' : World} (h : Tabs w) (hb : Below w.heap.size w w') : Tabs w' :=
  ⟨fun c r hc hr => (hb.cell (p := ⟨0, c * 4 + r, none⟩) (block_lt_of_cell (h.mays c r hc hr))).trans (h.mays c r hc hr),
   fun c hc => (hb.cell (p := ⟨1, c, none⟩) (block_lt_of_cell (h.names c hc))).trans (h.names c hc)⟩
theorem Tabs.draw {w : World} (h : Tabs w) (k : Nat) : Tabs (w.drewN k) := ⟨h.mays, h.names⟩

theorem is_any (r : Int) (w : World) : Calls Tryd.prog 17 #[.int .i64 r] w fun e w' => e = .returned (.bool (isB r)) ∧ w' = w := by
  by_cases h0 : 0 ≤ r
  · by_cases h1 : r < 4
    · have hb : isB r = true := by simp [isB, h0, h1]
      rw [hb]
      clear hb
      go_enter Tryd.func17, Tryd.ntmps17
      go_wp2
      go_ret
      exact ⟨rfl, rfl⟩
    · have hb : isB r = false := by simp [isB, h1]
      rw [hb]
      clear hb
      go_enter Tryd.func17, Tryd.ntmps17
      go_wp2
      go_ret
      exact ⟨rfl, rfl⟩
  · have hb : isB r = false := by simp [isB, h0]
    rw [hb]
    clear hb
    go_enter Tryd.func17, Tryd.ntmps17
    go_wp2
    go_ret
    exact ⟨rfl, rfl⟩
theorem cmd_any (r : Int) (w : World) : Calls Tryd.prog 24 #[.int .i64 r] w fun e w' => e = .returned (.bool (cmdB r)) ∧ w' = w := by
  by_cases h0 : 0 ≤ r
  · by_cases h1 : r < 8
    · have hb : cmdB r = true := by simp [cmdB, h0, h1]
      rw [hb]
      clear hb
      go_enter Tryd.func24, Tryd.ntmps24
      go_wp2
      go_ret
      exact ⟨rfl, rfl⟩
    · have hb : cmdB r = false := by simp [cmdB, h1]
      rw [hb]
      clear hb
      go_enter Tryd.func24, Tryd.ntmps24
      go_wp2
      go_ret
      exact ⟨rfl, rfl⟩
  · have hb : cmdB r = false := by simp [cmdB, h0]
    rw [hb]
    clear hb
    go_enter Tryd.func24, Tryd.ntmps24
    go_wp2
    go_ret
    exact ⟨rfl, rfl⟩
theorem nat_of {r : Int} (h : 0 ≤ r) : ∃ n : Nat, r = n := ⟨r.toNat, by omega⟩
theorem may_any (r c : Int) (w : World) (hT : Tabs w) : Calls Tryd.prog 18 #[.int .i64 r, .int .i64 c] w fun e w' => e = .returned (.bool (mayB r c)) ∧ w' = w := by
  cases hr : isB r
  · have hb : mayB r c = false := by simp [mayB, hr]
    rw [hb]
    clear hb
    have HR := Lib.hid hr
    clear hr
    go_enter Tryd.func18, Tryd.ntmps18
    go_wp2_with (go_at_call 17; refine (is_any r w).mono ?_; rintro e w' ⟨he, rfl⟩; rw [HR.out] at he; subst he)
    go_ret
    exact ⟨rfl, rfl⟩
  cases hc : cmdB c
  · have hb : mayB r c = false := by simp [mayB, hc]
    rw [hb]
    clear hb
    have HR := Lib.hid hr
    have HC := Lib.hid hc
    clear hr hc
    go_enter Tryd.func18, Tryd.ntmps18
    go_wp2_with (first
      | (go_at_call 17; refine (is_any r w).mono ?_; rintro e w' ⟨he, rfl⟩; rw [HR.out] at he; subst he)
      | (go_at_call 24; refine (cmd_any c w').mono ?_; rintro e w'' ⟨he, rfl⟩; rw [HC.out] at he; subst he))
    go_ret
    exact ⟨rfl, rfl⟩
  have h1 : 0 ≤ r ∧ r < 4 := by simpa [isB] using hr
  have h2 : 0 ≤ c ∧ c < 8 := by simpa [cmdB] using hc
  obtain ⟨R, rfl⟩ := nat_of h1.1
  obtain ⟨C, rfl⟩ := nat_of h2.1
  obtain ⟨h10, h11⟩ := h1
  obtain ⟨h20, h21⟩ := h2
  have hcell := hT.mays C R (by omega) (by omega)
  obtain ⟨v, hv⟩ : ∃ v, mayN C R = v := ⟨_, rfl⟩
  have hb : mayB R C = v := by simp [mayB, hr, hc, hv]
  rw [hb]
  rw [hv] at hcell
  have HR := Lib.hid hr
  have HC := Lib.hid hc
  clear hb hr hc hv
  go_enter Tryd.func18, Tryd.ntmps18
  go_wp2_with (first
    | (go_at_call 17; refine (is_any R w).mono ?_; rintro e w' ⟨he, rfl⟩; rw [HR.out] at he; subst he)
    | (go_at_call 24; refine (cmd_any C w').mono ?_; rintro e w'' ⟨he, rfl⟩; rw [HC.out] at he; subst he))
  go_ret
  exact ⟨rfl, rfl⟩
end Go.Proofs.YtiknhahkcffoeaaDoor
