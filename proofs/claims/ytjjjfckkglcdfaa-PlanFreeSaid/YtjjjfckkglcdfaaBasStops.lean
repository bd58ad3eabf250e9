/- A range over a function whose values are known ahead, in order; a round goes on, or leaves the function; between two rounds the iterator turns new blocks, and one of its own. -/
import Derived.Test.YtjjjfckkglcdfaaBasRows
import Derived.Test.YtjjjfckkglcdfaaBasInts
import Derived.RangeFuncNested
import Derived.RangeFuncBound
import Derived.RangeFuncCalls
import Derived.RangeFuncLeaves
import Derived.RangeFuncBox
import Derived.Shelf.Abstract
import Derived.OwnWalkIn
import Derived.TacticsInMore
import Derived.LoopNIn
import Derived.LoopIn
namespace Go.Proofs.Ytjjjfckkglcdfaa
set_option linter.unusedVariables false
open Go.RowKit

/-- a world in which nothing has turned but the block g -/
structure But (g : Nat) (w w' : World) : Prop where
  os : w'.os = w.os
  tape : w'.tape = w.tape
  output : w'.output = w.output
  size : w.heap.size ≤ w'.heap.size
  block : ∀ b, b < w.heap.size → b ≠ g → w'.heap[b]? = w.heap[b]?
section
variable {g B : Nat} {w w1 w2 : World}
theorem But.refl (g : Nat) (w : World) : But g w w := ⟨rfl, rfl, rfl, Nat.le_refl _, fun _ _ _ => rfl⟩
theorem But.trans (h : But g w w1) (k : But g w1 w2) : But g w w2 :=
  ⟨k.os.trans h.os, k.tape.trans h.tape, k.output.trans h.output, Nat.le_trans h.size k.size, fun b hb hg => (k.block b (Nat.lt_of_lt_of_le hb h.size) hg).trans (h.block b hb hg)⟩
theorem But.of_below (h : Below w.heap.size w w1) : But g w w1 := ⟨h.os, h.tape, h.output, h.size, fun b hb _ => h.block b hb⟩
theorem But.alloc (h : But g w w1) (o : Obj) : But g w (w1.alloc o) := h.trans (But.of_below ((Below.refl _ _).alloc (Nat.le_refl _) o))
theorem But.drew (h : But g w w1) : But g w w1.drew := ⟨h.os, h.tape, h.output, h.size, h.block⟩
theorem But.drewN (h : But g w w1) (n : Nat) : But g w (w1.drewN n) := ⟨h.os, h.tape, h.output, h.size, h.block⟩
theorem But.set (h : But g w w1) (v : Value) : But g w (w1.setCell ⟨g, 0, none⟩ v) :=
  h.trans ⟨rfl, rfl, rfl, by simp [World.setCell], fun b _ hne => Below.heap_setCell _ _ _ _ hne⟩
theorem But.setAt (h : But g w w1) (o : Nat) (v : Value) : But g w (w1.setCell ⟨g, o, none⟩ v) :=
  h.trans ⟨rfl, rfl, rfl, by simp [World.setCell], fun b _ hne => Below.heap_setCell _ _ _ _ hne⟩
theorem But.new {o : Nat} (h : But g w w1) (v : Value) (a : Addr) (ha : w.heap.size ≤ a.block) : But g w (w1.setCell a v) :=
  ⟨h.os, h.tape, h.output, by simpa [World.setCell] using h.size, fun b hb hne => (Below.heap_setCell _ _ _ _ (by omega)).trans (h.block b hb hne)⟩
theorem But.below (h : But g w w1) (hB : B ≤ g) (hw : B ≤ w.heap.size) : Below B w w1 := ⟨h.os, h.tape, h.output, h.size, fun b hb => h.block b (by omega) (by omega)⟩
theorem But.boxed {f : Nat} {t : TypeId} {v : Value} (h : But g w w1) (hf : Boxed w f t v) (hne : f ≠ g) : Boxed w1 f t v := (h.block f hf.lt hne).trans hf
end

/-- an iterator that hands over vals 0, .., vals (N - 1), till it is told to stop; the block that it turns is the first one that it makes -/
def HandsX (F : Fence) (n : Nat) (P : Program) (gf : Nat) (lb : Array Value) (vals : Nat → Value) (N : Nat) (Kp : Nat → World → World → Prop) (w0 : World) : Prop :=
  ∀ (l : Nat) (J : Nat → World → Prop) (Jx : World → Prop) (W : World), Below w0.heap.size w0 W →
    (∀ k A B, J k A → But W.heap.size A B → J k B) → (∀ A B, Jx A → But W.heap.size A B → Jx B) →
    (∀ k W1, k < N → W.heap.size < W1.heap.size → J k W1 → YieldAt F (n - 1) P l #[vals k] W1 fun e W' => (e = .returned (.bool true) ∧ J (k + 1) W' ∧ Kp W.heap.size W1 W') ∨ (e = .returned (.bool false) ∧ Jx W')) → J 0 W →
    CallsIn F n P gf (#[.func (.yield l) #[] #[]] ++ lb) W fun e W' => (∃ v, e = .returned v) ∧ (J N W' ∨ Jx W')
/-- a round that goes on, or leaves the function -/
def GoesOr (Kp : World → World → Prop) (I : Nat → World → Prop) (Ix : World → Prop) (k : Nat) (W : World) : Exit → Act → World → Prop
  | .normal, _, W' => KeepsOthers W W' ∧ Kp W W' ∧ I (k + 1) W'
  | .ret, _, W' => KeepsOthers W W' ∧ Ix W'
  | _, _, _ => False
theorem range_stops {F : Fence} {n : Nat} {P : Program} {g : Operand} {p : Tmp} {assign body : Code} {Q : Exit → Act → World → Prop} {a : Act} {w w0 : World} (hro : F.round = none) (h1 : 1 ≤ n)
    {gf : Nat} {lb : Array Value} (hg : a.eval g = .func (.func gf) #[] lb) (hF : F.fn gf) (eg : ∀ args w, (callFunc gf args).run P w = .ok (.enter gf args) w)
    {vals : Nat → Value} {N : Nat} {Kp : Nat → World → World → Prop} (hseq : HandsX F (n - 1) P gf lb vals N Kp w0) (hb0 : Below w0.heap.size w0 w)
    (hKt : ∀ {A B C : World}, Kp (w.heap.size + 1 + 1) A B → Kp (w.heap.size + 1 + 1) B C → Kp (w.heap.size + 1 + 1) A C) (hKb : ∀ (W : World) (o o' : Obj), W.heap[w.heap.size + 1]? = some o → o.isCells = false → o.isWalk = false → Kp (w.heap.size + 1 + 1) W (W.putObj (w.heap.size + 1) o'))
    (I : Nat → World → Prop) (hI : ∀ k W l o o', I k W → w.heap.size ≤ l → W.heap[l]? = some o → o.isCells = false → I k (W.putObj l o')) (hIb : ∀ k A B, I k A → But (w.heap.size + 1 + 1) A B → I k B)
    (Ix : World → Prop) (hIx : ∀ W l o o', Ix W → w.heap.size ≤ l → W.heap[l]? = some o → o.isCells = false → Ix (W.putObj l o')) (hIxb : ∀ A B, Ix A → But (w.heap.size + 1 + 1) A B → Ix B)
    (h0 : ∀ o, I 0 ((w.alloc (.deferred (some []))).alloc o)) (Ax : Nat → Act → World → Prop) (hAx : ∀ k a' W l o o', Ax k a' W → w.heap.size ≤ l → W.heap[l]? = some o → o.isCells = false → Ax k a' (W.putObj l o'))
    (hassign : ∀ (l k : Nat) (W : World) (K : Act → World → Prop), k < N → w.heap.size + 1 + 1 < W.heap.size → I k W → (∀ a' W', KeepsOthers W W' → Kp (w.heap.size + 1 + 1) W W' → I k W' → Ax k a' W' → K a' W') →
      assign.wpIn (F.inRound l) (n - 1 - 1) P (Exit.then K (fun _ _ _ => False)) { tmps := (#[p].zip #[vals k]).foldl (fun t (p, v) => t.setIfInBounds p v) a.tmps, defers := [] } W)
    (hbody : ∀ (l k : Nat) (a' : Act) (W : World), k < N → I k W → Ax k a' W → body.wpIn (F.inRound l) (n - 1 - 1) P (GoesOr (Kp (w.heap.size + 1 + 1)) I Ix k W) a' W)
    (hdone : ∀ (D : Nat) (W : World), w.heap.size ≤ D → I N W → W.heap[D]? = some (.deferred (some [])) → Q .normal { a with defers := { target := .collected D, args := #[] } :: a.defers } W)
    (hstop : ∀ (D : Nat) (W : World), w.heap.size ≤ D → Ix W → W.heap[D]? = some (.deferred (some [])) → Code.ret.wpIn F n P Q { a with defers := { target := .collected D, args := #[] } :: a.defers } W) :
    (Code.rangeFunc g #[p] assign body).wpIn F n P Q a w := by
  refine wpIn_rangeFunc fun fn hfn => ?_
  rw [hro]
  let rec_ : LoopState → Option Code → Loop := fun st pe => { state := st, pending := pe, fn := fn, tmps := a.tmps, params := #[p], assign := assign, body := body, defers := w.heap.size }
  let L := w.heap.size + 1
  let W1 := (w.alloc (.deferred (some []))).alloc (.loop (rec_ .ready none))
  have hL1 : W1.heap[L]? = some (.loop (rec_ .ready none)) := heap_alloc2_new w _ _
  have hD1 : W1.heap[w.heap.size]? = some (.deferred (some [])) := heap_alloc2_old w _ _
  have hz1 : W1.heap.size = w.heap.size + 1 + 1 := by
    show ((w.alloc (.deferred (some []))).alloc (.loop (rec_ .ready none))).heap.size = _
    simp
  have hB1 : Below w0.heap.size w0 W1 := hb0.trans ((two_below w _ _).mono hb0.size)
  have keep : ∀ (A B : World) (b : Nat) (o : Obj), But W1.heap.size A B → b < w.heap.size + 1 + 1 → A.heap[b]? = some o → B.heap[b]? = some o := fun A B b o hb hlt ho => by
    rw [hz1] at hb
    exact (hb.block b (Array.getElem?_eq_some_iff.1 ho).1 (by omega)).trans ho
  refine ⟨L, [{ target := .collected w.heap.size, args := #[] }], W1, { target := .fn (.func gf) lb, args := #[.func (.yield L) #[] #[]] }, W1, gf, #[.func (.yield L) #[] #[]] ++ lb, W1, run_enterLoop_outer _ _ _ _ _, ?_, ?_, ?_, fun _ => h1, ?_⟩
  · simp only [resolve, hg]
    simp [go_sem]
  · intro f' hf'
    simp [Target.leads] at hf'
    subst hf'
    exact hF
  · simp [invoke, go_sem, eg]
  refine (hseq L (fun k W => I k W ∧ W.heap[L]? = some (.loop (rec_ .ready none)) ∧ W.heap[w.heap.size]? = some (.deferred (some []))) (fun W => Ix W ∧ W.heap[L]? = some (.loop (rec_ .done (some .ret))) ∧ W.heap[w.heap.size]? = some (.deferred (some []))) W1 hB1
    (fun k A B ⟨hi, hl, hd⟩ hb => ⟨hIb k A B hi (by rw [← hz1]; exact hb), keep A B _ _ hb (by show w.heap.size + 1 < w.heap.size + 1 + 1; omega) hl, keep A B _ _ hb (by omega) hd⟩)
    (fun A B ⟨hi, hl, hd⟩ hb => ⟨hIxb A B hi (by rw [← hz1]; exact hb), keep A B _ _ hb (by show w.heap.size + 1 < w.heap.size + 1 + 1; omega) hl, keep A B _ _ hb (by omega) hd⟩)
    (fun k W hk hsz ⟨hi, hl, hd⟩ => ?_) ⟨h0 _, hL1, hD1⟩).mono ?_
  · refine ⟨fn, _, assign, body, run_yield (args := #[vals k]) hl rfl, roundIn_of_wpIn hfn ?_⟩
    refine hassign L k W _ hk (by rw [hz1] at hsz; exact hsz) hi ?_
    intro a' Wa hka hkpa hia hax
    replace hl := hka.same _ _ hl rfl
    replace hd := hka.same _ _ hd rfl
    have hlt : L < Wa.heap.size := (Array.getElem?_eq_some_iff.1 hl).1
    refine ⟨_, run_beginRound hl rfl, ?_⟩
    have hl2 : (Wa.putObj L (.loop { rec_ .ready none with state := .busy })).heap[L]? = some (.loop { rec_ .ready none with state := .busy }) := World.putObj_heap_same hlt
    have hd2 : (Wa.putObj L (.loop { rec_ .ready none with state := .busy })).heap[w.heap.size]? = some (.deferred (some [])) := (World.putObj_heap_other (by show w.heap.size ≠ w.heap.size + 1; omega)).trans hd
    refine wpIn_mono (hbody L k a' _ hk (hI k _ _ _ _ hia (Nat.le_succ _) hl rfl) (hAx k a' _ _ _ _ hax (Nat.le_succ _) hl rfl)) ?_
    rintro e a3 W3 hp
    rw [hz1]
    cases e with
    | normal =>
      obtain ⟨hk3, hkp3, hi3⟩ := hp
      have hl3 := hk3.same _ _ hl2 rfl
      have hd3 := hk3.same _ _ hd2 rfl
      exact ⟨_, _, run_endRound none hl3, .inl ⟨rfl, ⟨hI _ _ _ _ _ hi3 (Nat.le_succ _) hl3 rfl, World.putObj_heap_same (Array.getElem?_eq_some_iff.1 hl3).1, (World.putObj_heap_other (by show w.heap.size ≠ w.heap.size + 1; omega)).trans hd3⟩, hKt hkpa (hKt (hKt (hKb _ _ _ hl rfl rfl) hkp3) (hKb _ _ _ hl3 rfl rfl))⟩⟩
    | ret =>
      obtain ⟨hk3, hi3⟩ := hp
      have hl3 := hk3.same _ _ hl2 rfl
      have hd3 := hk3.same _ _ hd2 rfl
      exact ⟨_, _, run_endRound (some .ret) hl3, .inr ⟨rfl, hIx _ _ _ _ hi3 (Nat.le_succ _) hl3 rfl, World.putObj_heap_same (Array.getElem?_eq_some_iff.1 hl3).1, (World.putObj_heap_other (by show w.heap.size ≠ w.heap.size + 1; omega)).trans hd3⟩⟩
    | exit id => exact hp.elim
    | goto t => exact hp.elim
    | panic ch => exact hp.elim
    | outgrown => exact hp.elim
  · rintro e W2 ⟨⟨v, rfl⟩, ⟨hi, hl, hd⟩ | ⟨hi, hl, hd⟩⟩
    · exact ⟨none, _, run_endLoop hl (by simp [rec_]), hdone _ _ (Nat.le_refl _) (hI _ _ _ _ _ hi (Nat.le_succ _) hl rfl) ((World.putObj_heap_other (by show w.heap.size ≠ w.heap.size + 1; omega)).trans hd)⟩
    · exact ⟨some .ret, _, run_endLoop hl (by simp [rec_]), hstop _ _ (Nat.le_refl _) (hIx _ _ _ _ hi (Nat.le_succ _) hl rfl) ((World.putObj_heap_other (by show w.heap.size ≠ w.heap.size + 1; omega)).trans hd)⟩

theorem cells_lie {w : World} {a : Addr} {v : Value} (h : w.cell? a = some v) : ∃ o : Obj, w.heap[a.block]? = some o ∧ o.isCells = true := cells_of_cell h
theorem block_ne {w : World} {b l : Nat} {o o2 : Obj} (hb : w.heap[b]? = some o2) (hc : o2.isCells = true) (hl : w.heap[l]? = some o) (hn : o.isCells = false) : b ≠ l := by
  rintro rfl
  rw [hb] at hl
  cases hl
  rw [hc] at hn
  cases hn
theorem boxed_put {w : World} {B l : Nat} {t : TypeId} {v : Value} {o : Obj} (o' : Obj) (h : Boxed w B t v) (hl : w.heap[l]? = some o) (hn : o.isCells = false) : Boxed (w.putObj l o') B t v :=
  h.kept (grownBy_putObj' w l o') (fun e => by injection e with e; exact block_ne h rfl hl hn e)
theorem own_put {K : IntKind} {e : TypeId} {w : World} {base l : Nat} {v : Value} {b : List Int} {o : Obj} (o' : Obj) (h : OwnI K e w base v b) (hl : w.heap[l]? = some o) (hn : o.isCells = false) : OwnI K e (w.putObj l o') base v b := by
  refine h.far (grownBy_putObj' w l o') ?_
  rcases h.2 with ⟨hv, _⟩ | ⟨g, cap, cur, hv, _, hh, _⟩
  · left; rw [hv]; rfl
  · right
    rw [hv]
    intro e
    injection e with e
    exact block_ne hh rfl hl hn e
theorem own_but {K : IntKind} {e : TypeId} {w w' : World} {base g : Nat} {v : Value} {b : List Int} (h : OwnI K e w base v b) (hb : But g w w') (hg : g < base) : OwnI K e w' base v b := by
  refine ⟨h.1, ?_⟩
  rcases h.2 with h0 | ⟨x, cap, cur, hv, hx, hh, rest⟩
  · exact .inl h0
  · exact .inr ⟨x, cap, cur, hv, hx, (hb.block x (Array.getElem?_eq_some_iff.1 hh).1 (by omega)).trans hh, rest⟩
theorem own_set {K : IntKind} {e : TypeId} {w : World} {base b : Nat} {u x : Value} {l : List Int} (h : OwnI K e w base u l) (hb : b < base) : OwnI K e (w.setCell ⟨b, 0, none⟩ x) base u l := by
  refine h.far (grownBy_setCell' w b x) ?_
  cases hu : u.ownBlock with
  | none => exact .inl rfl
  | some g => exact .inr fun e => by injection e with e; have := (h.size g hu).1; omega
theorem others_below {w w' : World} (h : Below w.heap.size w w') : KeepsOthers w w' := ⟨h.size, fun i o hi _ => (h.block i (Array.getElem?_eq_some_iff.1 hi).1).trans hi⟩
theorem others_grown {K : IntKind} {e : TypeId} {w w' : World} {base : Nat} {v : Value} {b : List Int} (h : OwnI K e w base v b) (hg : w.grownBy w' v.ownBlock) : KeepsOthers w w' := by
  refine ⟨hg.size, fun i o hi ho => (hg.block i (Array.getElem?_eq_some_iff.1 hi).1 ?_).trans hi⟩
  rcases h.2 with ⟨hv, _⟩ | ⟨g, cap, cur, hv, _, hh, _⟩
  · rw [hv]; simp [Value.ownBlock]
  · rw [hv]
    intro e
    injection e with e
    exact block_ne hh rfl hi ho e.symm
end Go.Proofs.Ytjjjfckkglcdfaa
