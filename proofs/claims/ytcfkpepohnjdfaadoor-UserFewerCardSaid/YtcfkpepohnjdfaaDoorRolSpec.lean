/- What package role answers, plainly; the tables as cells; Is, May, Turns, Name, and the document's own answers to them. -/
import Derived.Test.YtcfkpepohnjdfaaDoorBasInts
namespace Go.Proofs.YtcfkpepohnjdfaaDoor
set_option linter.unusedVariables false
set_option linter.unusedSimpArgs false
open Go.RowKit

def isB (r : Int) : Bool := decide (0 ≤ r) && decide (r < 4)
def cmdB (c : Int) : Bool := decide (0 ≤ c) && decide (c < 8)
def maysT : List (List Bool) := [[true, true, true, true], [false, true, true, false], [false, true, true, false], [false, true, true, false], [false, false, true, false], [false, false, true, true], [false, false, true, true], [true, true, true, true]]
def mayN (c r : Nat) : Bool := (maysT.getD c []).getD r false
def mayRB (r c : Int) : Bool := isB r && cmdB c && mayN c.toNat r.toNat
def turnsB (c : Int) : Bool := decide (1 ≤ c) && decide (c ≤ 6)
def namesT : List ByteArray := [⟨#[103, 101, 116]⟩, ⟨#[104, 111, 108, 100]⟩, ⟨#[102, 114, 101, 101]⟩, ⟨#[110, 101, 120, 116]⟩, ⟨#[112, 108, 97, 110]⟩, ⟨#[114, 101, 100]⟩, ⟨#[99, 108, 101, 97, 114]⟩, ⟨#[99, 108, 111, 115, 101]⟩]
def nameB (c : Int) : ByteArray := if cmdB c then namesT.getD c.toNat ⟨#[]⟩ else ⟨#[]⟩
def readL (s : ByteArray) : List ByteArray → Int → Int
  | [], _ => -1
  | n :: r, i => if n.toList == s.toList then i else readL s r (i + 1)
def readB (s : ByteArray) : Int := readL s namesT 0
def cmds : List Int := [0, 1, 2, 3, 4, 5, 6, 7]
def roles : List Int := [0, 1, 2, 3]
def allB (r : Int) : List Int := cmds.filter fun c => mayRB r c
def whoB (c : Int) : List Int := roles.filter fun r => mayRB r c

theorem is_any (r : Int) (w : World) : Calls Tryd.prog 21 #[.int .i64 r] w fun e w' => e = .returned (.bool (isB r)) ∧ w' = w := by
  by_cases h0 : 0 ≤ r
  · by_cases h1 : r < 4
    · have hb : isB r = true := by simp [isB, h0, h1]
      rw [hb]
      clear hb
      go_enter Tryd.func21, Tryd.ntmps21
      go_wp2
      go_ret
      exact ⟨rfl, rfl⟩
    · have hb : isB r = false := by simp [isB, h1]
      rw [hb]
      clear hb
      go_enter Tryd.func21, Tryd.ntmps21
      go_wp2
      go_ret
      exact ⟨rfl, rfl⟩
  · have hb : isB r = false := by simp [isB, h0]
    rw [hb]
    clear hb
    go_enter Tryd.func21, Tryd.ntmps21
    go_wp2
    go_ret
    exact ⟨rfl, rfl⟩
theorem nat_of {r : Int} (h : 0 ≤ r) : ∃ n : Nat, r = n := ⟨r.toNat, by omega⟩
end Go.Proofs.YtcfkpepohnjdfaaDoor
