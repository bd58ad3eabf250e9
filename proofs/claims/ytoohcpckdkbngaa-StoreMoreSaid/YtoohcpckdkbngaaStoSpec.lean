/- Stores, plainly: room, bytes, how many are sure; which may be, and what is done to one. -/
import Derived.Test.YtoohcpckdkbngaaBasBytes
namespace Go.Proofs.Ytoohcpckdkbngaa
set_option linter.unusedVariables false
set_option linter.unusedSimpArgs false
open Go.RowKit

/-- a store: room, bytes, how many of them are sure -/
structure Sp where
  cap : Int
  data : List Int
  sure : Int
/-- its value, the bytes lying at A -/
def Sp.val (s : Sp) (A : Option Addr) (n c : Nat) : Value := .agg #[.int .i64 s.cap, .slice A n c, .int .i64 s.sure]
def mayT (cap : Int) (n : Nat) (sure : Int) : Bool := decide (0 ≤ cap ∧ cap ≤ 16384 ∧ (n : Int) ≤ cap ∧ 0 ≤ sure ∧ sure ≤ (n : Int))
def mayP (s : Sp) : Bool := mayT s.cap s.data.length s.sure
theorem mayT_iff {cap : Int} {n : Nat} {sure : Int} : mayT cap n sure = true ↔ 0 ≤ cap ∧ cap ≤ 16384 ∧ (n : Int) ≤ cap ∧ 0 ≤ sure ∧ sure ≤ (n : Int) := by
  unfold mayT
  rw [decide_eq_true_eq]
theorem mayT_no {cap : Int} {n : Nat} {sure : Int} (h : ¬ (0 ≤ cap ∧ cap ≤ 16384 ∧ (n : Int) ≤ cap ∧ 0 ≤ sure ∧ sure ≤ (n : Int))) : false = mayT cap n sure := by
  unfold mayT
  rw [eq_comm, decide_eq_false_iff_not]
  exact h
def sameP (a b : Sp) : Bool := a.cap == b.cap && a.sure == b.sure && a.data == b.data
theorem sameP_self (a : Sp) : sameP a a = true := by simp [sameP]
theorem sameP_iff {a b : Sp} : sameP a b = true ↔ a = b := by
  obtain ⟨c, d, s⟩ := a
  obtain ⟨c', d', s'⟩ := b
  simp only [sameP, Bool.and_eq_true, beq_iff_eq, Sp.mk.injEq]
  exact ⟨fun ⟨⟨h1, h2⟩, h3⟩ => ⟨h1, h3, h2⟩, fun ⟨h1, h2, h3⟩ => ⟨⟨h1, h3⟩, h2⟩⟩
def leftP (s : Sp) : Int := if mayP s then s.cap - s.data.length else 0
/-- n bytes stay, all of them sure -/
def Sp.upto (s : Sp) (n : Nat) : Sp := ⟨s.cap, s.data.take n, n⟩
def fwriteP (s : Sp) (b : List Int) : Sp × Int := if s.cap - s.data.length < b.length then (s, 12) else (⟨s.cap, s.data ++ b, s.sure⟩, 0)
def fcutP (s : Sp) (n : Int) : Sp × Int := if n < 0 ∨ (s.data.length : Int) < n then (s, 1) else (s.upto n.toNat, 0)
/-- how many there are behind a crash -/
def keptP (s : Sp) (keep : Int) : Int := s.sure + min (max keep 0) (s.data.length - s.sure)
def writeP (s : Sp) (b : List Int) : Sp × Int := if mayP s then fwriteP s b else (s, 1)
def cutP (s : Sp) (n : Int) : Sp × Int := if mayP s then fcutP s n else (s, 1)
def syncP (s : Sp) : Sp × Int := cutP s s.data.length
def crashP (s : Sp) (keep : Int) : Sp := if mayP s then s.upto (keptP s keep).toNat else s
def newP (room : Int) : Sp × Bool := if 0 ≤ room ∧ room ≤ 16384 then (⟨room, [], 0⟩, true) else (⟨0, [], 0⟩, false)
/-- where the bytes lie that are handed back: where they came from, or in new memory -/
def Loc (A : Option Addr) (n : Nat) (A' : Option Addr) (n' : Nat) (w : World) : Prop := (A' = A ∧ n' ≤ n) ∨ ∀ a, A' = some a → w.heap.size ≤ a.block
/-- gives a store, and an error; a store, and a bool; a store -/
def GSE (r : Sp × Int) (A : Option Addr) (n : Nat) (w : World) (e : Ending) (w' : World) : Prop := ∃ A' n' c', e = .returned (.tuple #[r.1.val A' n' c', .int .i64 r.2]) ∧ Bts w' A' n' c' r.1.data ∧ Loc A n A' n' w ∧ Below w.heap.size w w'
def GSB (r : Sp × Bool) (w : World) (e : Ending) (w' : World) : Prop := e = .returned (.tuple #[r.1.val none 0 0, .bool r.2]) ∧ Below w.heap.size w w'
def GS (r : Sp) (A : Option Addr) (n : Nat) (w : World) (e : Ending) (w' : World) : Prop := ∃ A' n' c', e = .returned (r.val A' n' c') ∧ Bts w' A' n' c' r.data ∧ Loc A n A' n' w ∧ Below w.heap.size w w'
def GBool (b : Bool) (w : World) (e : Ending) (w' : World) : Prop := e = .returned (.bool b) ∧ Below w.heap.size w w'
def GInt (i : Int) (w : World) (e : Ending) (w' : World) : Prop := e = .returned (.int .i64 i) ∧ Below w.heap.size w w'
end Go.Proofs.Ytoohcpckdkbngaa
