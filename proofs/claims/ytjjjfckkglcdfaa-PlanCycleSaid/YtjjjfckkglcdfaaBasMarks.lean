/- A range over a function inside an ordinary loop: each time it is come to, it lays one mark more among the deferred calls; how a function leaves with all of them. -/
import Derived.Test.YtjjjfckkglcdfaaBasTakeIn
namespace Go.Proofs.Ytjjjfckkglcdfaa
set_option linter.unusedVariables false
open Go.RowKit

/-- the marks that those ranges have laid -/
def marksOf (bs : List Nat) : List Deferred := bs.map fun D => { target := .collected D, args := #[] }
/-- their blocks, open, none twice, from B on -/
def MarksAt (B : Nat) (bs : List Nat) (W : World) : Prop := bs.Nodup ∧ ∀ D ∈ bs, B ≤ D ∧ W.heap[D]? = some (.deferred (some []))
theorem MarksAt.nil (B : Nat) (W : World) : MarksAt B [] W := ⟨List.nodup_nil, fun D h => by cases h⟩
theorem MarksAt.below {B : Nat} {bs : List Nat} {W W' : World} (h : MarksAt B bs W) (hb : Below W.heap.size W W') : MarksAt B bs W' :=
  ⟨h.1, fun D hD => ⟨(h.2 D hD).1, (hb.block D (Array.getElem?_eq_some_iff.1 (h.2 D hD).2).1).trans (h.2 D hD).2⟩⟩
theorem MarksAt.keeps {B : Nat} {bs : List Nat} {W W' : World} (h : MarksAt B bs W) (hk : KeepsOthers W W') : MarksAt B bs W' :=
  ⟨h.1, fun D hD => ⟨(h.2 D hD).1, hk.same D _ (h.2 D hD).2 rfl⟩⟩
theorem MarksAt.turn {B : Nat} {bs : List Nat} {W W' : World} {row : Option Nat} (h : MarksAt B bs W) (hg : W.grownBy W' row) (hr : ∀ r, row = some r → ∀ D ∈ bs, D ≠ r) : MarksAt B bs W' :=
  ⟨h.1, fun D hD => ⟨(h.2 D hD).1, (hg.block D (Array.getElem?_eq_some_iff.1 (h.2 D hD).2).1 (fun e => hr D e.symm D hD rfl)).trans (h.2 D hD).2⟩⟩
theorem MarksAt.lt {B : Nat} {bs : List Nat} {W : World} (h : MarksAt B bs W) : ∀ D ∈ bs, D < W.heap.size := fun D hD => (Array.getElem?_eq_some_iff.1 (h.2 D hD).2).1
theorem MarksAt.more {B D : Nat} {bs : List Nat} {W : World} (h : MarksAt B bs W) (hB : B ≤ D) (hD : W.heap[D]? = some (.deferred (some []))) (hn : ∀ E ∈ bs, E ≠ D) : MarksAt B (D :: bs) W :=
  ⟨List.nodup_cons.2 ⟨fun hm => hn D hm rfl, h.1⟩, fun E hE => by
    rcases List.mem_cons.1 hE with rfl | hE
    · exact ⟨hB, hD⟩
    · exact h.2 E hE⟩
theorem marks_cons (D : Nat) (bs : List Nat) : marksOf (D :: bs) = { target := .collected D, args := #[] } :: marksOf bs := rfl
theorem leaves_marks {P : Program} {fn : Func} {tmps : Array Value} {R : Ending → World → Prop} {n B : Nat} (I : World → Prop) (hI : OwnFrom B (fun (_ : Unit) X => I X)) (hend : ∀ X, I X → ∃ v, (results fn tmps).run P X = .ok v X ∧ R (.returned v) X) :
    ∀ (bs : List Nat) (W : World), MarksAt B bs W → I W → LeavesInM Fence.wide n P fn tmps R (marksOf bs) .returning W
  | [], W, _, hi => hend W hi
  | D :: bs, W, hm, hi => by
    obtain ⟨hB, hD⟩ := hm.2 D (List.mem_cons_self ..)
    have hnd := List.nodup_cons.1 hm.1
    refine ⟨by simp, .inl ⟨_, _, rfl, run_takeDeferred hD, ?_⟩⟩
    refine leaves_marks I hI hend bs _ ⟨hnd.2, fun E hE => ?_⟩ (hI.putObj (s := ()) _ hi hB hD rfl)
    have hne : E ≠ D := fun e => hnd.1 (e ▸ hE)
    obtain ⟨h1, h2⟩ := hm.2 E (List.mem_cons_of_mem _ hE)
    exact ⟨h1, (World.putObj_heap_other hne).trans h2⟩
end Go.Proofs.Ytjjjfckkglcdfaa
