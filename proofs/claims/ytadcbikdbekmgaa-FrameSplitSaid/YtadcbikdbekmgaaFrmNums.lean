/- A frame by value: its cells; the walks over package frame's numbersOf and frameOf. -/
import Derived.Test.YtadcbikdbekmgaaFrmShape2
namespace Go.Proofs.Ytadcbikdbekmgaa
set_option linter.unusedVariables false
set_option linter.unusedSimpArgs false
open Go.RowKit

/-- a frame, as cells -/
def frC (f : Fr) : List Value := [.int .i64 f.kind, .int .i64 f.user, .int .u64 f.sess, .int .u64 f.cn, .int .i64 f.epoch, .int .u64 f.count, .int .i64 f.cmd, .int .i64 f.arg] ++ byv f.tag
def frA (f : Fr) : Array Value := (frC f).toArray
theorem frC_length {f : Fr} (h : f.tag.length = 32) : (frC f).length = 40 := by simp [frC, byv, h]
/-- the block g holds this frame -/
structure RowF (w : World) (g : Nat) (f : Fr) : Prop where
  blk : w.heap[g]? = some (.cells (frA f) 26 (0, 0))
  kind : w.cell? ⟨g, 0, none⟩ = some (.int .i64 f.kind)
  user : w.cell? ⟨g, 1, none⟩ = some (.int .i64 f.user)
  sess : w.cell? ⟨g, 2, none⟩ = some (.int .u64 f.sess)
  cn : w.cell? ⟨g, 3, none⟩ = some (.int .u64 f.cn)
  epoch : w.cell? ⟨g, 4, none⟩ = some (.int .i64 f.epoch)
  count : w.cell? ⟨g, 5, none⟩ = some (.int .u64 f.count)
  cmd : w.cell? ⟨g, 6, none⟩ = some (.int .i64 f.cmd)
  arg : w.cell? ⟨g, 7, none⟩ = some (.int .i64 f.arg)
theorem rowF_of {w : World} {g : Nat} {f : Fr} (h : w.heap[g]? = some (.cells (frA f) 26 (0, 0))) : RowF w g f := by
  refine ⟨h, ?_, ?_, ?_, ?_, ?_, ?_, ?_, ?_⟩ <;> rw [cell_of_row _ _ _ _ _ _ h] <;> rfl
theorem RowF.below {w w' : World} {g : Nat} {f : Fr} (h : RowF w g f) (hb : Below w.heap.size w w') : RowF w' g f :=
  rowF_of ((hb.block g (Array.getElem?_eq_some_iff.1 h.blk).1).trans h.blk)
theorem RowF.next {w : World} (f : Fr) : RowF (w.alloc (.cells (frA f) 26)) w.heap.size f := rowF_of (heap_alloc_new w _)
def frV (f : Fr) : Value := .agg (frA f)
/-- an array that holds a frame's cells -/
structure HasF (C : Array Value) (f : Fr) : Prop where
  d0 : C[0]? = some (.int .i64 f.kind)
  d1 : C[1]? = some (.int .i64 f.user)
  d2 : C[2]? = some (.int .u64 f.sess)
  d3 : C[3]? = some (.int .u64 f.cn)
  d4 : C[4]? = some (.int .i64 f.epoch)
  d5 : C[5]? = some (.int .u64 f.count)
  d6 : C[6]? = some (.int .i64 f.cmd)
  d7 : C[7]? = some (.int .i64 f.arg)
theorem hasF (f : Fr) : HasF (frA f) f := ⟨rfl, rfl, rfl, rfl, rfl, rfl, rfl, rfl⟩
def numC (f : Fr) : List Value := f.nums.map (Value.int .u64)
def numV (f : Fr) : Value := .agg (numC f).toArray
/-- none of its integers is below nought -/
structure Fr.pos (f : Fr) : Prop where
  kind : 0 ≤ f.kind
  user : 0 ≤ f.user
  epoch : 0 ≤ f.epoch
  cmd : 0 ≤ f.cmd
  arg : 0 ≤ f.arg
set_option maxHeartbeats 2000000 in
theorem nums_any (f : Fr) (w : World) (hok : f.ok) (hp : f.pos) :
    Calls Try.prog 22 #[frV f] w fun e w' => e = .returned (numV f) ∧ Below w.heap.size w w' := by
  have hh := hasF f
  obtain ⟨p0, p1, p2, p3, p4⟩ := hp
  obtain ⟨⟨_, a0⟩, ⟨_, a1⟩, ⟨b2, a2⟩, ⟨b3, a3⟩, ⟨_, a4⟩, ⟨b5, a5⟩, ⟨_, a6⟩, ⟨_, a7⟩, _, _⟩ := hok
  unfold frV
  obtain ⟨C, hC⟩ : ∃ C, C = frA f := ⟨_, rfl⟩
  rw [← hC] at hh ⊢
  obtain ⟨d0, d1, d2, d3, d4, d5, d6, d7⟩ := hh
  rcases f with ⟨kind, user, sess, cn, epoch, count, cmd, arg, tag⟩
  simp only at *
  clear hC
  go_enter Try.func22, Try.ntmps22
  go_wp2
  refine bodyPost_ret (v := .agg #[.int .u64 kind, .int .u64 user, .int .u64 sess, .int .u64 cn, .int .u64 epoch, .int .u64 count, .int .u64 cmd, .int .u64 arg]) (by simp [results, Try.results22, go_sem]) rfl ⟨rfl, two_below _ _ _⟩
end Go.Proofs.Ytadcbikdbekmgaa
