/- Behind a call that gives a number; the boxes in which a closure that calls itself is called (what stands beside package term's Size, where a program has no Size). -/
import Derived.Test.YtcpeaeefphgbaaaTrmSpec
import Derived.LoopN
namespace Go.Proofs.Ytcpeaeefphgbaaa
set_option linter.unusedVariables false
set_option linter.unusedSimpArgs false
open Go.RowKit

/-- behind a call that counts: the counter's box has risen, nothing else has turned -/
def Counts (g : Nat) (s : Int) (w : World) (e : Ending) (w' : World) : Prop := e = .returned (.tuple #[]) ∧ But g w w' ∧ Boxed w' g 3 (.int .i64 s)

/-- behind a call that gives a number, and leaves all that was there -/
def GivesN (s : Int) (w : World) (e : Ending) (w' : World) : Prop := e = .returned (.int .i64 s) ∧ Below w.heap.size w w'
theorem hmf : ∀ (fn : Fn) (first cap : Array Value) (w : World), (Instr.makeFunc fn first cap).run Try.prog w = .ok (.func fn first cap) w := fun _ _ _ _ => rfl
/-- the world in which a closure that calls itself is called: what came in, a variable, the closure -/
theorem three_boxes (w : World) (o : Obj) (t2 t3 : TypeId) (v2 v3 : Value) : Below w.heap.size w (((w.alloc o).alloc (.cells #[v2] t2)).alloc (.cells #[v3] t3)) ∧
    Boxed (((w.alloc o).alloc (.cells #[v2] t2)).alloc (.cells #[v3] t3)) (w.heap.size + 1) t2 v2 ∧ Boxed (((w.alloc o).alloc (.cells #[v2] t2)).alloc (.cells #[v3] t3)) (w.heap.size + 1 + 1) t3 v3 := by
  have e1 : (w.alloc o).heap.size = w.heap.size + 1 := by simp
  have e2 : ((w.alloc o).alloc (.cells #[v2] t2)).heap.size = w.heap.size + 1 + 1 := by simp
  refine ⟨three_below w _ _ _, ?_, ?_⟩
  · have := (Boxed.new (w.alloc o) t2 v2).alloc (.cells #[v3] t3)
    rwa [e1] at this
  · have := Boxed.new ((w.alloc o).alloc (.cells #[v2] t2)) t3 v3
    rwa [e2] at this

end Go.Proofs.Ytcpeaeefphgbaaa
