/- Joined texts: A range over a function whose values are known ahead, in order; a round goes on, or leaves the function; between two rounds the iterator turns new blocks, and one of its own. A range over a function whose values are known ahead, in order, where the iterator may itself range over another one: what it turns is no cells, and lies beyond all that lay when it was called. A region that draws its order, inside a fence, walked by hand; what a call that makes new memory alone leaves to an iterator's invariants. append onto a slice of numbers of the call's own, inside a fence. Package group's small calls: has, isSet, groups. A set's groups, handed on one by one. append onto a slice of rows of the call's own, inside a fence; what an iterator turns leaves such a slice. What is against some groups: their rows, together. What package group's own ways come to: rows together are the groups against; a greatest free set is one that just all others are against. A range over a function inside an ordinary loop: each time it is come to, it lays one mark more among the deferred calls; how a function leaves with all of them. -/
import Derived.Test.YtekmagpokcloaaaLmJA
import Derived.RangeFuncNested
import Derived.RangeFuncBound
import Derived.RangeFuncCalls
import Derived.RangeFuncLeaves
import Derived.RangeFuncBox
import Derived.Shelf.Abstract
import Derived.OwnWalkIn
import Derived.TacticsInMore
import Derived.LoopNIn
import Derived.LoopIn
import Derived.Shelf.RegionOpen
import Derived.Deep.RegionHeld
import Derived.Test.YtekmagpokcloaaaLmJC
import Derived.Laws.EntriesVeiled
/- A range over a function whose values are known ahead, in order; a round goes on, or leaves the function; between two rounds the iterator turns new blocks, and one of its own. -/
namespace Go.Proofs.Ytekmagpokcloaaa
set_option linter.unusedVariables false
open Go.RowKit

/-- a world in which nothing has turned but the block g -/
structure But (g : Nat) (w w' : World) : Prop where
  os : w'.os = w.os
  tape : w'.tape = w.tape
  output : w'.output = w.output
  size : w.heap.size ≤ w'.heap.size
  block : ∀ b, b < w.heap.size → b ≠ g → w'.heap[b]? = w.heap[b]?
section
variable {g B : Nat} {w w1 w2 : World}
theorem But.refl (g : Nat) (w : World) : But g w w := ⟨rfl, rfl, rfl, Nat.le_refl _, fun _ _ _ => rfl⟩
theorem But.trans (h : But g w w1) (k : But g w1 w2) : But g w w2 :=
  ⟨k.os.trans h.os, k.tape.trans h.tape, k.output.trans h.output, Nat.le_trans h.size k.size, fun b hb hg => (k.block b (Nat.lt_of_lt_of_le hb h.size) hg).trans (h.block b hb hg)⟩
theorem But.of_below (h : Below w.heap.size w w1) : But g w w1 := ⟨h.os, h.tape, h.output, h.size, fun b hb _ => h.block b hb⟩
theorem But.alloc (h : But g w w1) (o : Obj) : But g w (w1.alloc o) := h.trans (But.of_below ((Below.refl _ _).alloc (Nat.le_refl _) o))
theorem But.drew (h : But g w w1) : But g w w1.drew := ⟨h.os, h.tape, h.output, h.size, h.block⟩
theorem But.drewN (h : But g w w1) (n : Nat) : But g w (w1.drewN n) := ⟨h.os, h.tape, h.output, h.size, h.block⟩
theorem But.set (h : But g w w1) (v : Value) : But g w (w1.setCell ⟨g, 0, none⟩ v) :=
  h.trans ⟨rfl, rfl, rfl, by simp [World.setCell], fun b _ hne => Below.heap_setCell _ _ _ _ hne⟩
theorem But.setAt (h : But g w w1) (o : Nat) (v : Value) : But g w (w1.setCell ⟨g, o, none⟩ v) :=
  h.trans ⟨rfl, rfl, rfl, by simp [World.setCell], fun b _ hne => Below.heap_setCell _ _ _ _ hne⟩
theorem But.new {o : Nat} (h : But g w w1) (v : Value) (a : Addr) (ha : w.heap.size ≤ a.block) : But g w (w1.setCell a v) :=
  ⟨h.os, h.tape, h.output, by simpa [World.setCell] using h.size, fun b hb hne => (Below.heap_setCell _ _ _ _ (by omega)).trans (h.block b hb hne)⟩
theorem But.below (h : But g w w1) (hB : B ≤ g) (hw : B ≤ w.heap.size) : Below B w w1 := ⟨h.os, h.tape, h.output, h.size, fun b hb => h.block b (by omega) (by omega)⟩
theorem But.boxed {f : Nat} {t : TypeId} {v : Value} (h : But g w w1) (hf : Boxed w f t v) (hne : f ≠ g) : Boxed w1 f t v := (h.block f hf.lt hne).trans hf
end

/-- an iterator that hands over vals 0, .., vals (N - 1), till it is told to stop; the block that it turns is the first one that it makes -/
def HandsX (F : Fence) (n : Nat) (P : Program) (gf : Nat) (lb : Array Value) (vals : Nat → Value) (N : Nat) (Kp : Nat → World → World → Prop) (w0 : World) : Prop :=
  ∀ (l : Nat) (J : Nat → World → Prop) (Jx : World → Prop) (W : World), Below w0.heap.size w0 W →
    (∀ k A B, J k A → But W.heap.size A B → J k B) → (∀ A B, Jx A → But W.heap.size A B → Jx B) →
    (∀ k W1, k < N → W.heap.size < W1.heap.size → J k W1 → YieldAt F (n - 1) P l #[vals k] W1 fun e W' => (e = .returned (.bool true) ∧ J (k + 1) W' ∧ Kp W.heap.size W1 W') ∨ (e = .returned (.bool false) ∧ Jx W')) → J 0 W →
    CallsIn F n P gf (#[.func (.yield l) #[] #[]] ++ lb) W fun e W' => (∃ v, e = .returned v) ∧ (J N W' ∨ Jx W')
/-- a round that goes on, or leaves the function -/
def GoesOr (Kp : World → World → Prop) (I : Nat → World → Prop) (Ix : World → Prop) (k : Nat) (W : World) : Exit → Act → World → Prop
  | .normal, _, W' => KeepsOthers W W' ∧ Kp W W' ∧ I (k + 1) W'
  | .ret, _, W' => KeepsOthers W W' ∧ Ix W'
  | _, _, _ => False
theorem range_stops {F : Fence} {n : Nat} {P : Program} {g : Operand} {p : Tmp} {assign body : Code} {Q : Exit → Act → World → Prop} {a : Act} {w w0 : World} (hro : F.round = none) (h1 : 1 ≤ n)
    {gf : Nat} {lb : Array Value} (hg : a.eval g = .func (.func gf) #[] lb) (hF : F.fn gf) (eg : ∀ args w, (callFunc gf args).run P w = .ok (.enter gf args) w)
    {vals : Nat → Value} {N : Nat} {Kp : Nat → World → World → Prop} (hseq : HandsX F (n - 1) P gf lb vals N Kp w0) (hb0 : Below w0.heap.size w0 w)
    (hKt : ∀ {A B C : World}, Kp (w.heap.size + 1 + 1) A B → Kp (w.heap.size + 1 + 1) B C → Kp (w.heap.size + 1 + 1) A C) (hKb : ∀ (W : World) (o o' : Obj), W.heap[w.heap.size + 1]? = some o → o.isCells = false → o.isWalk = false → Kp (w.heap.size + 1 + 1) W (W.putObj (w.heap.size + 1) o'))
    (I : Nat → World → Prop) (hI : ∀ k W l o o', I k W → w.heap.size ≤ l → W.heap[l]? = some o → o.isCells = false → I k (W.putObj l o')) (hIb : ∀ k A B, I k A → But (w.heap.size + 1 + 1) A B → I k B)
    (Ix : World → Prop) (hIx : ∀ W l o o', Ix W → w.heap.size ≤ l → W.heap[l]? = some o → o.isCells = false → Ix (W.putObj l o')) (hIxb : ∀ A B, Ix A → But (w.heap.size + 1 + 1) A B → Ix B)
    (h0 : ∀ o, I 0 ((w.alloc (.deferred (some []))).alloc o)) (Ax : Nat → Act → World → Prop) (hAx : ∀ k a' W l o o', Ax k a' W → w.heap.size ≤ l → W.heap[l]? = some o → o.isCells = false → Ax k a' (W.putObj l o'))
    (hassign : ∀ (l k : Nat) (W : World) (K : Act → World → Prop), k < N → w.heap.size + 1 + 1 < W.heap.size → I k W → (∀ a' W', KeepsOthers W W' → Kp (w.heap.size + 1 + 1) W W' → I k W' → Ax k a' W' → K a' W') →
      assign.wpIn (F.inRound l) (n - 1 - 1) P (Exit.then K (fun _ _ _ => False)) { tmps := (#[p].zip #[vals k]).foldl (fun t (p, v) => t.setIfInBounds p v) a.tmps, defers := [] } W)
    (hbody : ∀ (l k : Nat) (a' : Act) (W : World), k < N → I k W → Ax k a' W → body.wpIn (F.inRound l) (n - 1 - 1) P (GoesOr (Kp (w.heap.size + 1 + 1)) I Ix k W) a' W)
    (hdone : ∀ (D : Nat) (W : World), w.heap.size ≤ D → I N W → W.heap[D]? = some (.deferred (some [])) → Q .normal { a with defers := { target := .collected D, args := #[] } :: a.defers } W)
    (hstop : ∀ (D : Nat) (W : World), w.heap.size ≤ D → Ix W → W.heap[D]? = some (.deferred (some [])) → Code.ret.wpIn F n P Q { a with defers := { target := .collected D, args := #[] } :: a.defers } W) :
    (Code.rangeFunc g #[p] assign body).wpIn F n P Q a w := by
  refine wpIn_rangeFunc fun fn hfn => ?_
  rw [hro]
  let rec_ : LoopState → Option Code → Loop := fun st pe => { state := st, pending := pe, fn := fn, tmps := a.tmps, params := #[p], assign := assign, body := body, defers := w.heap.size }
  let L := w.heap.size + 1
  let W1 := (w.alloc (.deferred (some []))).alloc (.loop (rec_ .ready none))
  have hL1 : W1.heap[L]? = some (.loop (rec_ .ready none)) := heap_alloc2_new w _ _
  have hD1 : W1.heap[w.heap.size]? = some (.deferred (some [])) := heap_alloc2_old w _ _
  have hz1 : W1.heap.size = w.heap.size + 1 + 1 := by
    show ((w.alloc (.deferred (some []))).alloc (.loop (rec_ .ready none))).heap.size = _
    simp
  have hB1 : Below w0.heap.size w0 W1 := hb0.trans ((two_below w _ _).mono hb0.size)
  have keep : ∀ (A B : World) (b : Nat) (o : Obj), But W1.heap.size A B → b < w.heap.size + 1 + 1 → A.heap[b]? = some o → B.heap[b]? = some o := fun A B b o hb hlt ho => by
    rw [hz1] at hb
    exact (hb.block b (Array.getElem?_eq_some_iff.1 ho).1 (by omega)).trans ho
  refine ⟨L, [{ target := .collected w.heap.size, args := #[] }], W1, { target := .fn (.func gf) lb, args := #[.func (.yield L) #[] #[]] }, W1, gf, #[.func (.yield L) #[] #[]] ++ lb, W1, run_enterLoop_outer _ _ _ _ _, ?_, ?_, ?_, fun _ => h1, ?_⟩
  · simp only [resolve, hg]
    simp [go_sem]
  · intro f' hf'
    simp [Target.leads] at hf'
    subst hf'
    exact hF
  · simp [invoke, go_sem, eg]
  refine (hseq L (fun k W => I k W ∧ W.heap[L]? = some (.loop (rec_ .ready none)) ∧ W.heap[w.heap.size]? = some (.deferred (some []))) (fun W => Ix W ∧ W.heap[L]? = some (.loop (rec_ .done (some .ret))) ∧ W.heap[w.heap.size]? = some (.deferred (some []))) W1 hB1
    (fun k A B ⟨hi, hl, hd⟩ hb => ⟨hIb k A B hi (by rw [← hz1]; exact hb), keep A B _ _ hb (by show w.heap.size + 1 < w.heap.size + 1 + 1; omega) hl, keep A B _ _ hb (by omega) hd⟩)
    (fun A B ⟨hi, hl, hd⟩ hb => ⟨hIxb A B hi (by rw [← hz1]; exact hb), keep A B _ _ hb (by show w.heap.size + 1 < w.heap.size + 1 + 1; omega) hl, keep A B _ _ hb (by omega) hd⟩)
    (fun k W hk hsz ⟨hi, hl, hd⟩ => ?_) ⟨h0 _, hL1, hD1⟩).mono ?_
  · refine ⟨fn, _, assign, body, run_yield (args := #[vals k]) hl rfl, roundIn_of_wpIn hfn ?_⟩
    refine hassign L k W _ hk (by rw [hz1] at hsz; exact hsz) hi ?_
    intro a' Wa hka hkpa hia hax
    replace hl := hka.same _ _ hl rfl
    replace hd := hka.same _ _ hd rfl
    have hlt : L < Wa.heap.size := (Array.getElem?_eq_some_iff.1 hl).1
    refine ⟨_, run_beginRound hl rfl, ?_⟩
    have hl2 : (Wa.putObj L (.loop { rec_ .ready none with state := .busy })).heap[L]? = some (.loop { rec_ .ready none with state := .busy }) := World.putObj_heap_same hlt
    have hd2 : (Wa.putObj L (.loop { rec_ .ready none with state := .busy })).heap[w.heap.size]? = some (.deferred (some [])) := (World.putObj_heap_other (by show w.heap.size ≠ w.heap.size + 1; omega)).trans hd
    refine wpIn_mono (hbody L k a' _ hk (hI k _ _ _ _ hia (Nat.le_succ _) hl rfl) (hAx k a' _ _ _ _ hax (Nat.le_succ _) hl rfl)) ?_
    rintro e a3 W3 hp
    rw [hz1]
    cases e with
    | normal =>
      obtain ⟨hk3, hkp3, hi3⟩ := hp
      have hl3 := hk3.same _ _ hl2 rfl
      have hd3 := hk3.same _ _ hd2 rfl
      exact ⟨_, _, run_endRound none hl3, .inl ⟨rfl, ⟨hI _ _ _ _ _ hi3 (Nat.le_succ _) hl3 rfl, World.putObj_heap_same (Array.getElem?_eq_some_iff.1 hl3).1, (World.putObj_heap_other (by show w.heap.size ≠ w.heap.size + 1; omega)).trans hd3⟩, hKt hkpa (hKt (hKt (hKb _ _ _ hl rfl rfl) hkp3) (hKb _ _ _ hl3 rfl rfl))⟩⟩
    | ret =>
      obtain ⟨hk3, hi3⟩ := hp
      have hl3 := hk3.same _ _ hl2 rfl
      have hd3 := hk3.same _ _ hd2 rfl
      exact ⟨_, _, run_endRound (some .ret) hl3, .inr ⟨rfl, hIx _ _ _ _ hi3 (Nat.le_succ _) hl3 rfl, World.putObj_heap_same (Array.getElem?_eq_some_iff.1 hl3).1, (World.putObj_heap_other (by show w.heap.size ≠ w.heap.size + 1; omega)).trans hd3⟩⟩
    | exit id => exact hp.elim
    | goto t => exact hp.elim
    | panic ch => exact hp.elim
    | outgrown => exact hp.elim
  · rintro e W2 ⟨⟨v, rfl⟩, ⟨hi, hl, hd⟩ | ⟨hi, hl, hd⟩⟩
    · exact ⟨none, _, run_endLoop hl (by simp [rec_]), hdone _ _ (Nat.le_refl _) (hI _ _ _ _ _ hi (Nat.le_succ _) hl rfl) ((World.putObj_heap_other (by show w.heap.size ≠ w.heap.size + 1; omega)).trans hd)⟩
    · exact ⟨some .ret, _, run_endLoop hl (by simp [rec_]), hstop _ _ (Nat.le_refl _) (hIx _ _ _ _ hi (Nat.le_succ _) hl rfl) ((World.putObj_heap_other (by show w.heap.size ≠ w.heap.size + 1; omega)).trans hd)⟩

theorem cells_lie {w : World} {a : Addr} {v : Value} (h : w.cell? a = some v) : ∃ o : Obj, w.heap[a.block]? = some o ∧ o.isCells = true := cells_of_cell h
theorem block_ne {w : World} {b l : Nat} {o o2 : Obj} (hb : w.heap[b]? = some o2) (hc : o2.isCells = true) (hl : w.heap[l]? = some o) (hn : o.isCells = false) : b ≠ l := by
  rintro rfl
  rw [hb] at hl
  cases hl
  rw [hc] at hn
  cases hn
theorem boxed_put {w : World} {B l : Nat} {t : TypeId} {v : Value} {o : Obj} (o' : Obj) (h : Boxed w B t v) (hl : w.heap[l]? = some o) (hn : o.isCells = false) : Boxed (w.putObj l o') B t v :=
  h.kept (grownBy_putObj' w l o') (fun e => by injection e with e; exact block_ne h rfl hl hn e)
theorem own_put {K : IntKind} {e : TypeId} {w : World} {base l : Nat} {v : Value} {b : List Int} {o : Obj} (o' : Obj) (h : OwnI K e w base v b) (hl : w.heap[l]? = some o) (hn : o.isCells = false) : OwnI K e (w.putObj l o') base v b := by
  refine h.far (grownBy_putObj' w l o') ?_
  rcases h.2 with ⟨hv, _⟩ | ⟨g, cap, cur, hv, _, hh, _⟩
  · left; rw [hv]; rfl
  · right
    rw [hv]
    intro e
    injection e with e
    exact block_ne hh rfl hl hn e
theorem own_but {K : IntKind} {e : TypeId} {w w' : World} {base g : Nat} {v : Value} {b : List Int} (h : OwnI K e w base v b) (hb : But g w w') (hg : g < base) : OwnI K e w' base v b := by
  refine ⟨h.1, ?_⟩
  rcases h.2 with h0 | ⟨x, cap, cur, hv, hx, hh, rest⟩
  · exact .inl h0
  · exact .inr ⟨x, cap, cur, hv, hx, (hb.block x (Array.getElem?_eq_some_iff.1 hh).1 (by omega)).trans hh, rest⟩
theorem own_set {K : IntKind} {e : TypeId} {w : World} {base b : Nat} {u x : Value} {l : List Int} (h : OwnI K e w base u l) (hb : b < base) : OwnI K e (w.setCell ⟨b, 0, none⟩ x) base u l := by
  refine h.far (grownBy_setCell' w b x) ?_
  cases hu : u.ownBlock with
  | none => exact .inl rfl
  | some g => exact .inr fun e => by injection e with e; have := (h.size g hu).1; omega
theorem others_below {w w' : World} (h : Below w.heap.size w w') : KeepsOthers w w' := ⟨h.size, fun i o hi _ => (h.block i (Array.getElem?_eq_some_iff.1 hi).1).trans hi⟩
theorem others_grown {K : IntKind} {e : TypeId} {w w' : World} {base : Nat} {v : Value} {b : List Int} (h : OwnI K e w base v b) (hg : w.grownBy w' v.ownBlock) : KeepsOthers w w' := by
  refine ⟨hg.size, fun i o hi ho => (hg.block i (Array.getElem?_eq_some_iff.1 hi).1 ?_).trans hi⟩
  rcases h.2 with ⟨hv, _⟩ | ⟨g, cap, cur, hv, _, hh, _⟩
  · rw [hv]; simp [Value.ownBlock]
  · rw [hv]
    intro e
    injection e with e
    exact block_ne hh rfl hi ho e.symm
end Go.Proofs.Ytekmagpokcloaaa

/- A range over a function whose values are known ahead, in order, where the iterator may itself range over another one: what it turns is no cells, and lies beyond all that lay when it was called. -/
namespace Go.Proofs.Ytekmagpokcloaaa
set_option linter.unusedVariables false
open Go.RowKit

theorem yield_any {m : Nat} (m' : Nat) {P : Program} {l : Nat} {args : Array Value} {W : World} {R : Ending → World → Prop} (h : YieldAt Fence.wide m P l args W R) : YieldAt Fence.wide m' P l args W R := by
  obtain ⟨fn, tmps, assign, body, hy, hR⟩ := h
  exact ⟨fn, tmps, assign, body, hy, hR.1, fun c cs _ => hR.2 c cs (room_wide _)⟩
theorem calls_depth {m : Nat} (m' : Nat) {P : Program} {f : FuncId} {args : Array Value} {W : World} {R : Ending → World → Prop} (h : CallsIn Fence.wide m P f args W R) : CallsIn Fence.wide m' P f args W R :=
  callsIn_wide.2 (callsIn_wide.1 h)
theorem keepsFrom_lift {B B' : Nat} {W W' : World} (h : KeepsFrom B W W') (hB : B ≤ B') : KeepsFrom B' W W' := ⟨h.size, fun k o hk => h.same k o (by omega)⟩
theorem keepsFrom_put {B l : Nat} {W : World} (o : Obj) (h : l < B) : KeepsFrom B W (W.putObj l o) := KeepsFrom.of_grownBy (grownBy_putObj' W l o) (fun j e => by injection e with e; omega)
theorem ownFrom_lift {β : Type} {B B' : Nat} {I : β → World → Prop} (h : OwnFrom B I) (hB : B ≤ B') : OwnFrom B' I := fun s W W' row hs hg hr => h s W W' row hs hg (fun r e => ⟨by have := (hr r e).1; omega, (hr r e).2⟩)

/-- what lies below n stays as it lay, and so do the blocks bs -/
def KeepB (n : Nat) (bs : List Nat) (X Y : World) : Prop := Below n X Y ∧ ∀ b ∈ bs, ∀ o : Obj, X.heap[b]? = some o → Y.heap[b]? = some o
theorem KeepB.trans {n : Nat} {bs : List Nat} {X Y Z : World} (h : KeepB n bs X Y) (k : KeepB n bs Y Z) : KeepB n bs X Z := ⟨h.1.trans k.1, fun b hb o ho => k.2 b hb o (h.2 b hb o ho)⟩
theorem KeepB.less {n : Nat} {bs cs : List Nat} {X Y : World} (h : KeepB n bs X Y) (hc : ∀ b ∈ cs, b ∈ bs) : KeepB n cs X Y := ⟨h.1, fun b hb => h.2 b (hc b hb)⟩
theorem KeepB.refl (n : Nat) (bs : List Nat) (X : World) : KeepB n bs X X := ⟨Below.refl _ _, fun _ _ _ h => h⟩
theorem KeepB.alloc (n : Nat) (bs : List Nat) (X : World) (o : Obj) (hn : n ≤ X.heap.size) : KeepB n bs X (X.alloc o) := ⟨(Below.refl _ X).alloc hn o, fun b _ o' ho => (Below.heap_alloc X o _ (Array.getElem?_eq_some_iff.1 ho).1).trans ho⟩
theorem KeepB.put {n l : Nat} {bs : List Nat} {X : World} {o : Obj} (o' : Obj) (hl : X.heap[l]? = some o) (hn : n ≤ l) (hb : ∀ b ∈ bs, b ≠ l) : KeepB n bs X (X.putObj l o') :=
  ⟨(Below.refl n X).grown (grownBy_putObj' X l o') (by have := (Array.getElem?_eq_some_iff.1 hl).1; omega) (fun k e => by cases e; omega), fun b hm o2 ho => (World.putObj_heap_other (hb b hm)).trans ho⟩
/-- an iterator that hands over vals 0, .., vals (N - 1), till it is told to stop; Kp: what a round that goes on must keep for it -/
def HandsC (P : Program) (gf : Nat) (lb : Array Value) (vals : Nat → Array Value) (N : Nat) (Kp : Nat → World → World → Prop) (w0 : World) : Prop :=
  ∀ (n l : Nat) (J : Nat → World → Prop) (Jx : World → Prop) (W : World), Below w0.heap.size w0 W → OwnFrom W.heap.size J → OwnFrom W.heap.size (fun (_ : Unit) X => Jx X) →
    (∀ k W1, k < N → J k W1 → YieldAt Fence.wide 0 P l (vals k) W1 fun e W' => (e = .returned (.bool true) ∧ J (k + 1) W' ∧ Kp W.heap.size W1 W' ∧ KeepsFrom W.heap.size W1 W') ∨ (e = .returned (.bool false) ∧ Jx W' ∧ KeepsFrom W.heap.size W1 W')) → J 0 W →
    CallsIn Fence.wide n P gf (#[.func (.yield l) #[] #[]] ++ lb) W fun e W' => (∃ v, e = .returned v) ∧ (J N W' ∨ Jx W')
/-- a round that goes on, or leaves the function -/
def GoesC (B : Nat) (Kp : World → World → Prop) (I : Nat → World → Prop) (Ix : World → Prop) (k : Nat) (W : World) : Exit → Act → World → Prop
  | .normal, _, W' => KeepsFrom B W W' ∧ Kp W W' ∧ I (k + 1) W'
  | .ret, _, W' => KeepsFrom B W W' ∧ Ix W'
  | _, _, _ => False
theorem range_c {n : Nat} {P : Program} {g : Operand} {ps : Array Tmp} {assign body : Code} {Q : Exit → Act → World → Prop} {a : Act} {w w0 : World}
    {gf : Nat} {lb : Array Value} (hg : a.eval g = .func (.func gf) #[] lb) (eg : ∀ args w, (callFunc gf args).run P w = .ok (.enter gf args) w)
    {vals : Nat → Array Value} {N : Nat} {Kp : Nat → World → World → Prop} (hseq : HandsC P gf lb vals N Kp w0) (hb0 : Below w0.heap.size w0 w) (hps : ∀ k, (vals k).size = ps.size)
    (hKt : ∀ {A B C : World}, Kp (w.heap.size + 1 + 1) A B → Kp (w.heap.size + 1 + 1) B C → Kp (w.heap.size + 1 + 1) A C) (hKb : ∀ (W : World) (o o' : Obj), W.heap[w.heap.size + 1]? = some o → o.isCells = false → o.isWalk = false → Kp (w.heap.size + 1 + 1) W (W.putObj (w.heap.size + 1) o'))
    (I : Nat → World → Prop) (hI : OwnFrom w.heap.size I) (Ix : World → Prop) (hIx : OwnFrom w.heap.size (fun (_ : Unit) X => Ix X)) (h0 : I 0 w)
    (Ax : Nat → Act → World → Prop) (hAx : ∀ k a', OwnFrom w.heap.size (fun (_ : Unit) X => Ax k a' X))
    (hassign : ∀ (l k : Nat) (W : World) (K : Act → World → Prop), k < N → w.heap.size + 1 + 1 ≤ W.heap.size → I k W → (∀ a' W', KeepsFrom w.heap.size W W' → Kp (w.heap.size + 1 + 1) W W' → I k W' → Ax k a' W' → K a' W') →
      assign.wpIn (Fence.wide.inRound l) (n - 1 - 1) P (Exit.then K (fun _ _ _ => False)) { tmps := (ps.zip (vals k)).foldl (fun t (p, v) => t.setIfInBounds p v) a.tmps, defers := [] } W)
    (hbody : ∀ (l k : Nat) (a' : Act) (W : World), k < N → w.heap.size + 1 + 1 ≤ W.heap.size → I k W → Ax k a' W → body.wpIn (Fence.wide.inRound l) (n - 1 - 1) P (GoesC w.heap.size (Kp (w.heap.size + 1 + 1)) I Ix k W) a' W)
    (hdone : ∀ (D : Nat) (W : World), w.heap.size ≤ D → I N W → W.heap[D]? = some (.deferred (some [])) → Q .normal { a with defers := { target := .collected D, args := #[] } :: a.defers } W)
    (hstop : ∀ (D : Nat) (W : World), w.heap.size ≤ D → Ix W → W.heap[D]? = some (.deferred (some [])) → Code.ret.wpIn Fence.wide n P Q { a with defers := { target := .collected D, args := #[] } :: a.defers } W) :
    (Code.rangeFunc g ps assign body).wpIn Fence.wide n P Q a w := by
  refine wpIn_rangeFunc fun fn hfn => ?_
  rw [show Fence.wide.round = none from rfl]
  obtain ⟨rec_, hrec⟩ : ∃ rec_ : LoopState → Option Code → Loop, rec_ = fun st pe => { state := st, pending := pe, fn := fn, tmps := a.tmps, params := ps, assign := assign, body := body, defers := w.heap.size } := ⟨_, rfl⟩
  obtain ⟨W1, hW1⟩ : ∃ W1, (w.alloc (.deferred (some []))).alloc (.loop (rec_ .ready none)) = W1 := ⟨_, rfl⟩
  have hL1 : W1.heap[w.heap.size + 1]? = some (.loop (rec_ .ready none)) := by rw [← hW1]; exact heap_alloc2_new w _ _
  have hD1 : W1.heap[w.heap.size]? = some (.deferred (some [])) := by rw [← hW1]; exact heap_alloc2_old w _ _
  have hz1 : W1.heap.size = w.heap.size + 1 + 1 := by rw [← hW1]; simp
  have hI1 : I 0 W1 := by rw [← hW1]; exact hI.alloc _ (hI.alloc _ h0)
  have hB1 : Below w0.heap.size w0 W1 := by rw [← hW1]; exact hb0.trans ((two_below w _ _).mono hb0.size)
  have keep : ∀ (A B : World) (row : Option Nat) (b : Nat) (o : Obj), A.grownBy B row → (∀ r, row = some r → W1.heap.size ≤ r ∧ ∃ o : Obj, A.heap[r]? = some o ∧ o.isCells = false) → b < w.heap.size + 1 + 1 → A.heap[b]? = some o → B.heap[b]? = some o := fun A B row b o hgr hr hlt ho => by
    refine (hgr.block b (Array.getElem?_eq_some_iff.1 ho).1 (fun e => ?_)).trans ho
    have := (hr b e.symm).1
    omega
  have low : ∀ (A : World) (row : Option Nat), (∀ r, row = some r → W1.heap.size ≤ r ∧ ∃ o : Obj, A.heap[r]? = some o ∧ o.isCells = false) → (∀ r, row = some r → w.heap.size ≤ r ∧ ∃ o : Obj, A.heap[r]? = some o ∧ o.isCells = false) := fun A row hr r e => ⟨by have := (hr r e).1; omega, (hr r e).2⟩
  refine ⟨w.heap.size + 1, [{ target := .collected w.heap.size, args := #[] }], W1, { target := .fn (.func gf) lb, args := #[.func (.yield (w.heap.size + 1)) #[] #[]] }, W1, gf, #[.func (.yield (w.heap.size + 1)) #[] #[]] ++ lb, W1, ?_, ?_, ?_, ?_, (fun h => by simp [Fence.wide] at h), ?_⟩
  · rw [← hW1, hrec]; exact run_enterLoop_outer _ _ _ _ _
  · simp only [resolve, hg]
    simp [go_sem]
  · intro f' hf'
    trivial
  · simp [invoke, go_sem, eg]
  rw [← hz1] at hKt hKb hassign hbody
  refine (hseq (n - 1) (w.heap.size + 1) (fun k W => I k W ∧ W.heap[w.heap.size + 1]? = some (.loop (rec_ .ready none)) ∧ W.heap[w.heap.size]? = some (.deferred (some []))) (fun W => Ix W ∧ W.heap[w.heap.size + 1]? = some (.loop (rec_ .done (some .ret))) ∧ W.heap[w.heap.size]? = some (.deferred (some []))) W1 hB1
    (fun k A B row hs hgr hr => ⟨hI k A B row hs.1 hgr (low A row hr), keep A B row _ _ hgr hr (by omega) hs.2.1, keep A B row _ _ hgr hr (by omega) hs.2.2⟩)
    (fun u A B row hs hgr hr => ⟨hIx u A B row hs.1 hgr (low A row hr), keep A B row _ _ hgr hr (by omega) hs.2.1, keep A B row _ _ hgr hr (by omega) hs.2.2⟩)
    (fun k W hk hs => ?_) ⟨hI1, hL1, hD1⟩).mono ?_
  · obtain ⟨hi, hl, hd⟩ := hs
    have hy := run_yield (P := P) (args := vals k) hl (by rw [hrec]; exact hps k)
    rw [hrec] at hy
    refine yield_any 0 (m := n - 1 - 1) ⟨fn, _, assign, body, hy, roundIn_of_wpIn hfn ?_⟩
    refine hassign _ k W _ hk (by have := (Array.getElem?_eq_some_iff.1 hl).1; omega) hi ?_
    intro a' Wa hka hkpa hia hax
    replace hl := hka.same _ _ (by omega) hl rfl
    replace hd := hka.same _ _ (Nat.le_refl _) hd rfl
    have hlt : w.heap.size + 1 < Wa.heap.size := (Array.getElem?_eq_some_iff.1 hl).1
    refine ⟨_, run_beginRound hl (by rw [hrec]), ?_⟩
    have hl2 : (Wa.putObj (w.heap.size + 1) (.loop { rec_ .ready none with state := .busy })).heap[w.heap.size + 1]? = some (.loop { rec_ .ready none with state := .busy }) := World.putObj_heap_same hlt
    have hd2 : (Wa.putObj (w.heap.size + 1) (.loop { rec_ .ready none with state := .busy })).heap[w.heap.size]? = some (.deferred (some [])) := (World.putObj_heap_other (by omega)).trans hd
    have hk2 : KeepsFrom W1.heap.size W (Wa.putObj (w.heap.size + 1) (.loop { rec_ .ready none with state := .busy })) := (keepsFrom_lift hka (by omega)).trans (keepsFrom_put _ (by omega))
    refine wpIn_mono (hbody _ k a' _ hk (by simp; omega) (hI.putObj _ hia (Nat.le_succ _) hl rfl) ((hAx k a').putObj (s := ()) _ hax (Nat.le_succ _) hl rfl)) ?_
    rintro e a3 W3 hp
    cases e with
    | normal =>
      obtain ⟨hk3, hkp3, hi3⟩ := hp
      have hl3 := hk3.same _ _ (by omega) hl2 rfl
      have hd3 := hk3.same _ _ (Nat.le_refl _) hd2 rfl
      have hr := run_endRound (P := P) none hl3
      rw [hrec] at hr hl3
      refine ⟨_, _, hr, .inl ⟨rfl, ⟨hI.putObj _ hi3 (by omega) hl3 rfl, ?_, ?_⟩, ?_, ?_⟩⟩
      · rw [hrec]; exact World.putObj_heap_same (Array.getElem?_eq_some_iff.1 hl3).1
      · exact (World.putObj_heap_other (by omega)).trans hd3
      · exact hKt hkpa (hKt (hKt (hKb _ _ _ hl rfl rfl) hkp3) (hKb _ _ _ hl3 rfl rfl))
      · exact (hk2.trans (keepsFrom_lift hk3 (by omega))).trans (keepsFrom_put _ (by omega))
    | ret =>
      obtain ⟨hk3, hi3⟩ := hp
      have hl3 := hk3.same _ _ (by omega) hl2 rfl
      have hd3 := hk3.same _ _ (Nat.le_refl _) hd2 rfl
      have hr := run_endRound (P := P) (some .ret) hl3
      rw [hrec] at hr hl3
      refine ⟨_, _, hr, .inr ⟨rfl, ⟨hIx.putObj (s := ()) _ hi3 (by omega) hl3 rfl, ?_, ?_⟩, ?_⟩⟩
      · rw [hrec]; exact World.putObj_heap_same (Array.getElem?_eq_some_iff.1 hl3).1
      · exact (World.putObj_heap_other (by omega)).trans hd3
      · exact (hk2.trans (keepsFrom_lift hk3 (by omega))).trans (keepsFrom_put _ (by omega))
    | exit id => exact hp.elim
    | goto t => exact hp.elim
    | panic ch => exact hp.elim
    | outgrown => exact hp.elim
  · rintro e W2 ⟨⟨v, rfl⟩, ⟨hi, hl, hd⟩ | ⟨hi, hl, hd⟩⟩
    · exact ⟨none, _, by have := run_endLoop (P := P) hl (by rw [hrec]; simp); rw [hrec] at this; exact this, hdone _ _ (Nat.le_refl _) (hI.putObj _ hi (by omega) hl rfl) ((World.putObj_heap_other (by omega)).trans hd)⟩
    · exact ⟨some .ret, _, by have := run_endLoop (P := P) hl (by rw [hrec]; simp); rw [hrec] at this; exact this, hstop _ _ (Nat.le_refl _) (hIx.putObj (s := ()) _ hi (by omega) hl rfl) ((World.putObj_heap_other (by omega)).trans hd)⟩
end Go.Proofs.Ytekmagpokcloaaa

/- A region that draws its order, inside a fence, walked by hand; what a call that makes new memory alone leaves to an iterator's invariants. -/
namespace Go.Proofs.Ytekmagpokcloaaa
set_option linter.unusedVariables false
open Go.RowKit

section
variable {F : Fence} {n : Nat} {P : Program} {l : List Oper} {Q : Exit → Act → World → Prop} {md : Region.Mode} {oi oj : Oper} {fuel : Nat} {listed : Array Bool} {a : Act} {w : World}
/-- one operation taken first: what it yields hangs on no world, and it calls nobody (of an activation of a function) -/
theorem takeF (hro : F.round = none) (i : Nat) (v : Value) (hi : l[i]? = some oi) (hs : Region.noSelect l.toArray = true) (hf : Region.free md l.toArray listed i = true) (hr : (Region.ready md l.toArray listed).contains i = true)
    (hQ : ∀ c a w, Q (.panic c) (a.put oi.dst v) w → Q (.panic c) a w) (hw : Region.wanted oi (yielded l.toArray a.tmps) = true) (hab : ∀ w, oi.about P w a.eval = none) (hrun : ∀ w, (execOp a.eval oi).run P w = .ok (.value v) w)
    (h : wpAnyIn F n P md l.toArray Q fuel (listed.setIfInBounds i true) (a.put oi.dst v) w) : wpAnyIn F n P md l.toArray Q (fuel + 1) listed a w :=
  wpAnyIn_take hro (by simpa using hi) hs hf hr hQ ⟨.inl ⟨hw, hrun⟩, hab⟩ h
theorem takeF_move (hro : F.round = none) (i : Nat) (x : Operand) (v : Value) (hi : l[i]? = some oi) (ho : oi.op = .move x) (hv : a.eval x = v) (hs : Region.noSelect l.toArray = true) (hf : Region.free md l.toArray listed i = true) (hr : (Region.ready md l.toArray listed).contains i = true)
    (hQ : ∀ c a w, Q (.panic c) (a.put oi.dst v) w → Q (.panic c) a w) (hw : Region.wanted oi (yielded l.toArray a.tmps) = true) (hab : ∀ w, oi.about P w a.eval = none)
    (h : wpAnyIn F n P md l.toArray Q fuel (listed.setIfInBounds i true) (a.put oi.dst v) w) : wpAnyIn F n P md l.toArray Q (fuel + 1) listed a w :=
  takeF hro i v hi hs hf hr hQ hw hab (fun w => by unfold execOp; simp [ho, hv]) h
/-- the only one that may come up; two that may -/
theorem oneF (i : Nat) (hr : Region.ready md l.toArray listed = [i]) (hi : l[i]? = some oi)
    (h : ∀ K' : Act → World → Prop, Shut (∀ a w, wpAnyIn F n P md l.toArray Q fuel (listed.setIfInBounds i true) a w → K' a w) → if Region.wanted oi (yielded l.toArray a.tmps) = true then Oper.wpIn F n P oi a w K' Q else (∀ f, oi.about P w a.eval = some f → F.fn f) ∧ K' (a.put oi.dst undef) w) :
    wpAnyIn F n P md l.toArray Q (fuel + 1) listed a w :=
  wpAnyIn_ready hr (by simp) (AllReadyIn.cons (by simpa using hi) h AllReadyIn.nil)
theorem twoF (i j : Nat) (hr : Region.ready md l.toArray listed = [i, j]) (hi : l[i]? = some oi) (hj : l[j]? = some oj)
    (h1 : ∀ K' : Act → World → Prop, Shut (∀ a w, wpAnyIn F n P md l.toArray Q fuel (listed.setIfInBounds i true) a w → K' a w) → if Region.wanted oi (yielded l.toArray a.tmps) = true then Oper.wpIn F n P oi a w K' Q else (∀ f, oi.about P w a.eval = some f → F.fn f) ∧ K' (a.put oi.dst undef) w)
    (h2 : ∀ K' : Act → World → Prop, Shut (∀ a w, wpAnyIn F n P md l.toArray Q fuel (listed.setIfInBounds j true) a w → K' a w) → if Region.wanted oj (yielded l.toArray a.tmps) = true then Oper.wpIn F n P oj a w K' Q else (∀ f, oj.about P w a.eval = some f → F.fn f) ∧ K' (a.put oj.dst undef) w) :
    wpAnyIn F n P md l.toArray Q (fuel + 1) listed a w :=
  wpAnyIn_ready hr (by simp) (AllReadyIn.cons (by simpa using hi) h1 (AllReadyIn.cons (by simpa using hj) h2 AllReadyIn.nil))
end
theorem below_kept {W W' : World} (h : Below W.heap.size W W') : W.grownBy W' none := ⟨h.os, h.tape, h.output, h.size, fun k hk _ => h.block k hk⟩
theorem ownFrom_below {β : Type} {B : Nat} {I : β → World → Prop} (h : OwnFrom B I) {s : β} {W W' : World} (hs : I s W) (hb : Below W.heap.size W W') : I s W' := h s W W' none hs (below_kept hb) (fun r e => by cases e)
theorem keepB_below {n : Nat} {bs : List Nat} {X Y : World} (h : Below X.heap.size X Y) (hn : n ≤ X.heap.size) : KeepB n bs X Y := ⟨h.mono hn, fun b _ o ho => (h.block b (Array.getElem?_eq_some_iff.1 ho).1).trans ho⟩
theorem keepsFrom_below {B : Nat} {X Y : World} (h : Below X.heap.size X Y) : KeepsFrom B X Y := KeepsFrom.of_grownBy (below_kept h) (fun j e => by cases e)
theorem boxed_below {w w' : World} {g : Nat} {t : TypeId} {v : Value} (h : Boxed w g t v) (hb : Below w.heap.size w w') : Boxed w' g t v := (hb.block g h.lt).trans h
theorem below_drew1 (w : World) : Below w.heap.size w w.drew := (Below.refl _ w).drew
end Go.Proofs.Ytekmagpokcloaaa

/- append onto a slice of numbers of the call's own, inside a fence. -/
namespace Go.Proofs.Ytekmagpokcloaaa
set_option linter.unusedVariables false
open Go.RowKit

theorem wpListIn_append_i {F : Fence} {n : Nat} {P : Program} {w : World} {ops : Array Oper} {rest : List Oper} {o : Oper} {a : Act} {Q : Exit → Act → World → Prop} (hgd : o.guard = none) (t e : TypeId) (K : IntKind) (B : Nat) (s x : Operand)
    (ho : o.op = Op.call { callee := Callee.builtin Builtin.append, args := #[s, x], argTypes := #[t, t] }) (hu : P.underlying t = some (.slice e)) (hinfo : (P.info? e).map (fun i => (i.zero, i.size, i.bytes)) = some (some (.int K 0), 1, B)) (hB : B ≤ 8)
    (base : Nat) (v : Value) (l : List Int) (hs : a.eval s = v) (hown : OwnI K e w base v l) (ad : Addr) (m c : Nat) (l2 : List Int) (hx : a.eval x = .slice (some ad) m c) (hr : Its K w (some ad) m c l2)
    (hsmall : l.length + m ≤ 17592186044416) (hbase : base ≤ w.heap.size)
    (h : ∀ v' w', OwnI K e w' base v' (l ++ l2) → w.grownBy w' v.ownBlock → wpListIn F n P ops Q rest (a.put o.dst v') w') : wpListIn F n P ops Q (o :: rest) a w := by
  obtain ⟨i, hi, hz, h1, h2⟩ := info_parts hinfo
  have hl2 : (inv K l2).length = m * 1 := by rw [inv_length, hr.len, Nat.mul_one]
  have hb8 : (l.length + m) * B ≤ (l.length + m) * 8 := Nat.mul_le_mul_left _ hB
  refine wpListIn_append_own (P := P) w hgd s x t ho base e i (.int K 0) 1 B hu hi hz h1 h2 rfl (by omega) v l.length (inv K l) hs hown ad m c (inv K l2) hx hl2 ?_ (inv_one K l2) (by unfold maxLen; omega) (by omega) hbase ?_
  · intro j u hu'
    have hj : j < l2.length := by
      have := (List.getElem?_eq_some_iff.1 hu').1
      rwa [inv_length] at this
    rw [inv_get K l2 j hj] at hu'
    obtain ⟨b, off, hA, hc⟩ := hr.at_ (by have := hr.len; omega)
    injection hA with hA
    subst hA
    have hadd : (⟨b, off, none⟩ : Addr).add j = ⟨b, off + j, none⟩ := by
      unfold Addr.add
      split
      · rename_i h0; subst h0; rfl
      · rfl
    rw [hadd, hc j (by have := hr.len; omega), hu']
  · intro v' w' hown' hg _
    refine h v' w' ?_ hg
    unfold OwnI
    rw [inv_append, List.length_append, hr.len]
    exact hown'
end Go.Proofs.Ytekmagpokcloaaa

/- Package group's small calls: has, isSet, groups. -/
namespace Go.Proofs.Ytekmagpokcloaaa
set_option maxRecDepth 100000
set_option linter.unusedVariables false
set_option linter.unusedSimpArgs false
open Go.RowKit

theorem and_one (x : Int) : bits .and .i64 x 1 = x % 2 := by
  show IntKind.i64.wrap ((BitVec.ofInt 64 x &&& BitVec.ofInt 64 1).toNat : Int) = _
  rw [BitVec.toNat_and, BitVec.toNat_ofInt, show (BitVec.ofInt 64 1).toNat = 1 by rfl, Nat.and_one_is_mod, IntKind.wrap_i64]
  omega
set_option maxHeartbeats 1000000 in
theorem has_int (s : Int) (i : Nat) (hi : i < 8) (w : World) : Calls Try.prog 54 #[.int .i64 s, .int .i64 (i : Int)] w fun e w' => e = .returned (.bool (bitI s i)) ∧ w = w' := by
  go_enter Try.func54, Try.ntmps54
  go_wp2
  go_ret
  rw [and_one]
  refine ⟨?_, rfl⟩
  rw [bitI]
  congr 2
theorem has_any (t i : Nat) (ht : t < 256) (hi : i < 8) (w : World) : Calls Try.prog 54 #[.int .i64 (t : Int), .int .i64 (i : Int)] w fun e w' => e = .returned (.bool (t.testBit i)) ∧ w = w' := by
  rw [← bit_nat]
  exact has_int _ i hi w
theorem is_set (s : Int) (n : Nat) : (decide (0 ≤ s ∧ s < ((2 ^ n : Nat) : Int))) = (decide (0 ≤ s) && decide (s < ((2 ^ n : Nat) : Int))) := by
  by_cases h : 0 ≤ s <;> simp [h]
set_option maxHeartbeats 1000000 in
theorem isSet_any (s : Int) (n : Nat) (hn : n ≤ 8) (w : World) : Calls Try.prog 36 #[.int .i64 s, .int .i64 (n : Int)] w fun e w' => e = .returned (.bool (decide (0 ≤ s ∧ s < ((2 ^ n : Nat) : Int)))) ∧ w = w' := by
  have h8 := pow_le hn
  obtain ⟨P, hP⟩ : ∃ P : Nat, 2 ^ n = P := ⟨_, rfl⟩
  have hPi : (2 : Int) ^ n = (P : Int) := by rw [pow_int, hP]
  have hw : IntKind.i64.wrap (1 * (2 : Int) ^ n) = (P : Int) := by rw [hPi, IntKind.wrap_i64]; omega
  rw [is_set, hP]
  by_cases h0 : 0 ≤ s
  · rw [decide_eq_true h0]
    go_enter Try.func36, Try.ntmps36
    go_wp2
    go_ret
    exact ⟨rfl, rfl⟩
  · rw [decide_eq_false h0]
    go_enter Try.func36, Try.ntmps36
    go_wp2
    go_ret
    exact ⟨rfl, rfl⟩
theorem groups_any (s : Int) (w : World) : Calls Try.prog 38 #[.int .i64 s] w fun e w' => e = .returned (.func (.func 53) #[] #[.pointer (some ⟨w.heap.size, 0, none⟩)]) ∧ w.alloc (.cells #[.int .i64 s] 3) = w' := by
  go_enter Try.func38, Try.ntmps38
  go_wp2
  go_ret
  exact ⟨rfl, rfl⟩
end Go.Proofs.Ytekmagpokcloaaa

/- A set's groups, handed on one by one. -/
namespace Go.Proofs.Ytekmagpokcloaaa
set_option maxRecDepth 100000
set_option linter.unusedVariables false
set_option linter.unusedSimpArgs false
open Go.RowKit Go.Shelf
attribute [local go_sem] Oper.semAt_some

theorem list_more (t k m : Nat) : ∃ r, listTo t (k + m) = listTo t k ++ r := by
  induction m with
  | zero => exact ⟨[], by simp⟩
  | succ m ih =>
    obtain ⟨r, hr⟩ := ih
    rw [← Nat.add_assoc, list_next, hr]
    exact ⟨r ++ _, by rw [List.append_assoc]⟩
theorem list_at {t k : Nat} (hk : k < 8) (h : t.testBit k = true) : (listTo t k).length < (listTo t 8).length ∧ (listTo t 8).getD (listTo t k).length 0 = (k : Int) ∧ (listTo t (k + 1)).length = (listTo t k).length + 1 := by
  have h1 := list_next t k
  rw [if_pos h] at h1
  obtain ⟨r, hr⟩ := list_more t (k + 1) (7 - k)
  rw [show k + 1 + (7 - k) = 8 by omega, h1] at hr
  exact ⟨by rw [hr]; simp, by rw [hr]; simp [List.getD_eq_getElem?_getD], by rw [h1]; simp⟩
theorem list_not {t k : Nat} (h : t.testBit k = false) : (listTo t (k + 1)).length = (listTo t k).length := by
  rw [list_next, if_neg (by rw [h]; simp), List.append_nil]
theorem list_zero (t : Nat) : (listTo t 0).length = 0 := rfl
set_option maxHeartbeats 2000000 in
theorem groups_hands (t : Nat) (ht : t < 256) (Bs n0 : Nat) (w0 : World) (hbox : Boxed w0 Bs 3 (.int .i64 (t : Int))) :
    HandsC Try.prog 53 #[.pointer (some ⟨Bs, 0, none⟩)] (fun k => #[.int .i64 ((listTo t 8).getD k 0)]) (listTo t 8).length (fun _ => KeepB n0 [Bs]) w0 := by
  intro n L J Jx W hW hJ hJx hY h0
  have hBs := hbox.lt
  have hbW : Boxed W Bs 3 (.int .i64 (t : Int)) := (hW.block Bs hBs).trans hbox
  have HBW := Lib.hid hbW
  have HY := Lib.hid hY
  clear hY hW hbox hJ hJx hbW
  refine callsIn_of_wp Try.func53 rfl trivial ?_ rfl
  simp only [Try.ntmps53, List.size_toArray, List.length_cons, List.length_nil, Nat.reduceAdd, Nat.reduceSub, Array.replicate_succ, Array.replicate_zero, List.push_toArray, List.append_toArray, List.nil_append, List.cons_append]
  gi_wp2
  gi_loopw [4] (fun i wr => ∃ k : Nat, k ≤ 8 ∧ i = .int .i64 k ∧ J (listTo t k).length wr ∧ Boxed wr Bs 3 (.int .i64 (t : Int))) (fun i _ => 8 - (intOf i).toNat)
  case atStart => exact ⟨0, Nat.zero_le _, rfl, by rw [list_zero]; exact h0, HBW.out⟩
  case round =>
    obtain ⟨k, hk, rfl, hJk, hbr⟩ := hrel
    have hbx := hbr.cell
    have HBR := Lib.hid hbr
    clear hbr
    by_cases hlt : k < 8
    · have q1 : (k : Int) < 8 := by omega
      have HA := Lib.hid (fun X => callsIn_wide (n := n - 1).2 (has_any t k ht hlt X))
      cases hm : t.testBit k
      · rw [hm] at HA
        have HJK := Lib.hid hJk
        have HN := Lib.hid (list_not hm)
        clear hm hJk
        gi_wp2_with (refine ⟨trivial, (fun h => by simp [Fence.wide] at h), ?_⟩; (with_reducible refine (HA.out _).mono ?_); rintro e w1 ⟨rfl, rfl⟩)
        refine ⟨fun f h => (by cases h), ?_⟩
        gi_wp2
        go_roundw
        case rel => exact ⟨k + 1, by omega, by go_num, by rw [HN.out]; exact HJK.out, HBR.out⟩
        case measure => simp [intOf]; omega
      · rw [hm] at HA
        obtain ⟨k1, k2, k3⟩ := list_at hlt hm
        have hy0 := yield_any (n - 1) (HY.out _ wr k1 hJk)
        rw [k2, ← k3] at hy0
        obtain ⟨fn, tmps, assign, body, hy, hR⟩ := hy0
        have HR := Lib.hid hR
        clear hR k1 k2 k3 hm hJk
        gi_wp2_with (refine ⟨trivial, (fun h => by simp [Fence.wide] at h), ?_⟩; (with_reducible refine (HA.out _).mono ?_); rintro e w1 ⟨rfl, rfl⟩)
        refine ⟨(fun h => by simp [Fence.wide] at h), HR.out.mono ?_⟩
        rintro e W3 (⟨rfl, hJ3, hk3, -⟩ | ⟨rfl, hJx3, -⟩)
        · have HJ3 := Lib.hid hJ3
          have HK3 := Lib.hid hk3
          clear hJ3 hk3 hy HR
          gi_wp2
          go_roundw
          case rel => exact ⟨k + 1, by omega, by go_num, HJ3.out, HK3.out.2 Bs (by simp) _ HBR.out⟩
          case measure => simp [intOf]; omega
        · have HJX := Lib.hid hJx3
          clear hJx3 hy HR
          gi_wp2
          refine bodyPost_ret (results_none rfl _ _ _) rfl ?_
          exact ⟨⟨_, rfl⟩, .inr HJX.out⟩
    · obtain rfl : k = 8 := by omega
      gi_wp2
      go_end0
      exact ⟨⟨_, rfl⟩, .inl hJk⟩
end Go.Proofs.Ytekmagpokcloaaa

/- append onto a slice of rows of the call's own, inside a fence; what an iterator turns leaves such a slice. -/
namespace Go.Proofs.Ytekmagpokcloaaa
set_option linter.unusedVariables false
open Go.RowKit

theorem wpListIn_append_r {F : Fence} {n : Nat} {P : Program} {w : World} {ops : Array Oper} {rest : List Oper} {o : Oper} {a : Act} {Q : Exit → Act → World → Prop} (hgd : o.guard = none) (t e : TypeId) (k B : Nat) (s x : Operand)
    (ho : o.op = Op.call { callee := Callee.builtin Builtin.append, args := #[s, x], argTypes := #[t, t] }) (hu : P.underlying t = some (.slice e)) (hinfo : (P.info? e).map (fun i => (i.zero.map (·.cells.size), i.size, i.bytes)) = some (some k, k, B)) (hk : 0 < k)
    (base : Nat) (v : Value) (rows : List (List Value)) (hs : a.eval s = v) (hown : OwnR e k w base v rows) (b off m c : Nat) (news : List (List Value)) (hx : a.eval x = .slice (some ⟨b, off, none⟩) m c) (hr : Rws k w (some ⟨b, off, none⟩) m c news)
    (hsmall : (rows.length + m) * B ≤ 140737488355328) (hm63 : rows.length + m ≤ 140737488355328) (hbase : base ≤ w.heap.size)
    (h : ∀ v' w', OwnR e k w' base v' (rows ++ news) → w.grownBy w' v.ownBlock → wpListIn F n P ops Q rest (a.put o.dst v') w') : wpListIn F n P ops Q (o :: rest) a w := by
  cases hi : P.info? e with
  | none => simp [hi] at hinfo
  | some i =>
    simp only [hi, Option.map_some, Option.some.injEq, Prod.mk.injEq] at hinfo
    obtain ⟨hz, h1, h2⟩ := hinfo
    cases hzz : i.zero with
    | none => simp [hzz] at hz
    | some z =>
      simp only [hzz, Option.map_some, Option.some.injEq] at hz
      refine wpListIn_append_own (P := P) w hgd s x t ho base e i z k B hu hi hzz h1 h2 hz hk v rows.length rows.flatten hs hown.row ⟨b, off, none⟩ m c news.flatten hx (by rw [flat_len hr.wid, hr.len]) (hr.news hk) (flat_one hr.one) (by unfold maxLen; omega) hsmall hbase ?_
      intro v' w' hown' hg _
      refine h v' w' ⟨?_, mem_app hown.wid hr.wid, mem_app hown.one hr.one⟩ hg
      rw [List.flatten_append, List.length_append, hr.len]
      exact hown'
theorem ownR_turn {e : TypeId} {k base : Nat} {X Y : World} {row : Option Nat} {v : Value} {rows : List (List Value)} (h : OwnR e k X base v rows) (hg : X.grownBy Y row) (hr : ∀ r, row = some r → ∃ o : Obj, X.heap[r]? = some o ∧ o.isCells = false) : OwnR e k Y base v rows := by
  refine h.far hg ?_
  rcases h.row.2 with ⟨hv, _⟩ | ⟨g, cap, cur, hv, _, hh, _⟩
  · left; rw [hv]; rfl
  · right
    rw [hv]
    intro e
    obtain ⟨o, ho, hc⟩ := hr g e.symm
    rw [hh] at ho
    cases ho
    cases hc
theorem boxed_turn {X Y : World} {row : Option Nat} {g : Nat} {t : TypeId} {v : Value} (h : Boxed X g t v) (hg : X.grownBy Y row) (hr : ∀ r, row = some r → ∃ o : Obj, X.heap[r]? = some o ∧ o.isCells = false) : Boxed Y g t v := by
  refine h.kept hg (fun e => ?_)
  obtain ⟨o, ho, hc⟩ := hr _ e.symm
  rw [show X.heap[g]? = _ from h] at ho
  cases ho
  cases hc
theorem ownR_set {e : TypeId} {k base b : Nat} {w : World} {u x : Value} {rows : List (List Value)} (h : OwnR e k w base u rows) (hb : b < base) : OwnR e k (w.setCell ⟨b, 0, none⟩ x) base u rows := by
  refine h.far (grownBy_setCell' w b x) ?_
  cases hu : u.ownBlock with
  | none => exact .inl rfl
  | some g => exact .inr fun e => by injection e with e; have := (h.size g hu).1; omega
theorem ownR_mono {e : TypeId} {k b base : Nat} {w : World} {v : Value} {rows : List (List Value)} (h : OwnR e k w base v rows) (hb : b ≤ base) : OwnR e k w b v rows := by
  refine ⟨⟨h.row.1, ?_⟩, h.wid, h.one⟩
  rcases h.row.2 with h0 | ⟨g, cap, cur, hv, hg, rest⟩
  · exact .inl h0
  · exact .inr ⟨g, cap, cur, hv, by omega, rest⟩
theorem ownR_keeps {e : TypeId} {k base : Nat} {w w' : World} {v : Value} {rows : List (List Value)} (h : OwnR e k w base v rows) (hg : w.grownBy w' v.ownBlock) : KeepsOthers w w' := by
  refine ⟨hg.size, fun i o hi ho => (hg.block i (Array.getElem?_eq_some_iff.1 hi).1 ?_).trans hi⟩
  rcases h.row.2 with ⟨hv, _⟩ | ⟨g, cap, cur, hv, _, hh, _⟩
  · rw [hv]; simp [Value.ownBlock]
  · rw [hv]
    intro e
    injection e with e
    subst e
    rw [hh] at hi
    cases hi
    cases ho
end Go.Proofs.Ytekmagpokcloaaa

/- What is against some groups: their rows, together. -/
namespace Go.Proofs.Ytekmagpokcloaaa
set_option maxRecDepth 100000
set_option linter.unusedVariables false
set_option linter.unusedSimpArgs false
open Go.RowKit Go.Shelf
attribute [local go_sem] Oper.semAt_some

/-- the rows of some groups, together -/
def orN (m l : List Int) : Nat := l.foldl (fun a i => a ||| (m.getD i.toNat 0).toNat) 0
theorem orN_snoc (m l : List Int) (i : Int) : orN m (l ++ [i]) = orN m l ||| (m.getD i.toNat 0).toNat := by simp [orN]
theorem orN_bit (m : List Int) (k : Nat) (l : List Int) : (orN m l).testBit k = l.any fun i => (m.getD i.toNat 0).toNat.testBit k := by
  suffices h : ∀ a : Nat, (l.foldl (fun a i => a ||| (m.getD i.toNat 0).toNat) a).testBit k = (a.testBit k || l.any fun i => (m.getD i.toNat 0).toNat.testBit k) by
    rw [orN, h]; simp
  induction l with
  | nil => intro a; simp
  | cons i l ih => intro a; rw [List.foldl_cons, ih, Nat.testBit_or, List.any_cons, Bool.or_assoc]
theorem orN_lt {m : List Int} (h : ∀ i, i < m.length → 0 ≤ m.getD i 0 ∧ m.getD i 0 < 256) (l : List Int) : orN m l < 256 := by
  suffices h : ∀ a : Nat, a < 2 ^ 8 → l.foldl (fun a i => a ||| (m.getD i.toNat 0).toNat) a < 2 ^ 8 from h 0 (by omega)
  induction l with
  | nil => intro a ha; exact ha
  | cons i l ih =>
    intro a ha
    rw [List.foldl_cons]
    refine ih _ (Nat.or_lt_two_pow ha ?_)
    rcases Nat.lt_or_ge i.toNat m.length with h1 | h1
    · have := h _ h1
      omega
    · have e : m.getD i.toNat 0 = 0 := by simp [List.getD_eq_getElem?_getD, h1]
      rw [e]
      simp
theorem list_mem {t k : Nat} {i : Int} (h : i ∈ listTo t k) : ∃ j : Nat, i = j ∧ j < k ∧ t.testBit j = true := by
  rw [listTo, List.mem_map] at h
  obtain ⟨j, hj, rfl⟩ := h
  rw [List.mem_filter, List.mem_range] at hj
  exact ⟨j, rfl, hj.1, hj.2⟩
theorem list_get {t j : Nat} (h : j < (listTo t 8).length) : ∃ i : Nat, (listTo t 8).getD j 0 = (i : Int) ∧ i < 8 ∧ t.testBit i = true := by
  have h1 : (listTo t 8).getD j 0 ∈ listTo t 8 := by
    rw [List.getD_eq_getElem?_getD, List.getElem?_eq_getElem h]
    exact List.getElem_mem h
  exact list_mem h1
theorem bit_lt {t i n : Nat} (ht : t < 2 ^ n) (h : t.testBit i = true) : i < n := by
  rcases Nat.lt_or_ge i n with h1 | h1
  · exact h1
  · have h2 : 2 ^ n ≤ 2 ^ i := Nat.pow_le_pow_right (by omega) h1
    rw [Nat.testBit_lt_two_pow (by omega)] at h
    cases h
set_option maxHeartbeats 2000000 in
theorem over_any (A : Option Addr) (n c : Nat) (m : List Int) (t : Nat) (w : World) (hit : Its .i64 w A n c m) (hrow : ∀ i, i < n → 0 ≤ m.getD i 0 ∧ m.getD i 0 < 256) (ht : t < 256) (htn : t < 2 ^ n) :
    Calls Try.prog 59 #[.slice A n c, .int .i64 (t : Int)] w fun e w' => e = .returned (.int .i64 ((orN m (listTo t 8) : Nat) : Int)) ∧ Below w.heap.size w w' := by
  have hn := hit.small
  have hml := hit.len
  have hlt := orN_lt (m := m) (by rw [hml]; exact hrow)
  obtain ⟨L, hL⟩ : ∃ L, listTo t 8 = L := ⟨_, rfl⟩
  have hget : ∀ j, j < L.length → ∃ i : Nat, L.getD j 0 = (i : Int) ∧ i < n := fun j hj => by
    rw [← hL] at hj ⊢
    obtain ⟨i, h1, h2, h3⟩ := list_get hj
    exact ⟨i, h1, bit_lt htn h3⟩
  have HG := Lib.hid (fun (B : Nat) (W0 : World) (o : Boxed W0 B 3 (.int .i64 (t : Int))) => groups_hands t ht B w.heap.size W0 o)
  rw [hL] at HG ⊢
  obtain ⟨OL, hOL⟩ : ∃ OL, orN m L = OL := ⟨_, rfl⟩
  rw [hOL]
  have HOL := Lib.hid hOL
  clear hL hOL
  refine (callsIn_wide (n := 9)).1 ?_
  refine callsIn_of_wp_marks Try.func59 rfl trivial ?_ rfl
  simp only [Try.ntmps59, List.size_toArray, List.length_cons, List.length_nil, Nat.reduceAdd, Nat.reduceSub, Array.replicate_succ, Array.replicate_zero, List.push_toArray, List.append_toArray, List.nil_append, List.cons_append]
  gi_wp2_with (refine ⟨trivial, ?_⟩; gi_at_call 38; refine (callsIn_wide.2 (groups_any _ _)).mono ?_; rintro e w1 ⟨rfl, rfl⟩)
  have o1 := Boxed.new w 22 (.slice A n c)
  obtain ⟨V1, hV1⟩ : ∃ V1, w.alloc (.cells #[.slice A n c] 22) = V1 := ⟨_, rfl⟩
  have s1 : V1.heap.size = w.heap.size + 1 := by rw [← hV1]; simp
  rw [hV1] at o1 ⊢
  have o2 := Boxed.new V1 3 (.int .i64 0)
  obtain ⟨V2, hV2⟩ : ∃ V2, V1.alloc (.cells #[.int .i64 0] 3) = V2 := ⟨_, rfl⟩
  have s2 : V2.heap.size = w.heap.size + 1 + 1 := by rw [← hV2]; simp [s1]
  rw [s1] at o2
  have o1 := o1.alloc (.cells #[.int .i64 0] 3)
  rw [hV2] at o1 o2 ⊢
  have o3 := Boxed.new V2 3 (.int .i64 (t : Int))
  obtain ⟨W0, hW0⟩ : ∃ W0, V2.alloc (.cells #[.int .i64 (t : Int)] 3) = W0 := ⟨_, rfl⟩
  have s3 : W0.heap.size = w.heap.size + 1 + 1 + 1 := by rw [← hW0]; simp [s2]
  rw [s2] at o3
  have o1 := o1.alloc (.cells #[.int .i64 (t : Int)] 3)
  have o2 := o2.alloc (.cells #[.int .i64 (t : Int)] 3)
  have hB0 : Below w.heap.size w W0 := by
    rw [← hW0, ← hV2, ← hV1]
    exact ((one_alloc w _).alloc (by simp) _).alloc (by simp; omega) _
  rw [hW0] at o1 o2 o3 ⊢
  clear hV1 hV2 hW0 s1 s2
  have hin := HG.out (w.heap.size + 1 + 1) W0 o3
  clear HG
  refine range_c (w0 := W0) (gf := 53) (lb := #[.pointer (some ⟨w.heap.size + 1 + 1, 0, none⟩)]) rfl (enters_of Try.func53 (by kernel_rfl) rfl) hin (Below.refl _ _) (fun _ => rfl) (fun h k => h.trans k)
    (fun X o o' hx hc hw => KeepB.put o' hx (by omega) (fun b hb => by simp only [List.mem_cons, List.not_mem_nil, or_false] at hb; omega))
    (fun k X => Boxed X w.heap.size 22 (.slice A n c) ∧ Boxed X (w.heap.size + 1) 3 (.int .i64 ((orN m (L.take k) : Nat) : Int)) ∧ Below w.heap.size w X) ?hI (fun _ => False) (fun _ _ _ _ h _ _ => h) ⟨o1, by rw [List.take_zero]; exact o2, hB0⟩
    (fun k a' X => a' = { tmps := #[.slice A n c, .int .i64 (t : Int), .pointer (some ⟨w.heap.size, 0, none⟩), undef, .int .i64 0, .pointer (some ⟨w.heap.size + 1, 0, none⟩), .int .i64 (L.getD k 0), .int .i64 (t : Int), .func (.func 53) #[] #[.pointer (some ⟨w.heap.size + 1 + 1, 0, none⟩)], .int .i64 (L.getD k 0), undef, undef, undef, undef, undef, undef, undef], defers := [] }) (fun _ _ _ _ _ _ h _ _ => h) ?assign ?body ?done (fun _ _ _ h _ => h.elim)
  case hI =>
    rintro k X Y row ⟨p1, p2, p3⟩ hg hr
    exact ⟨boxed_turn p1 hg (fun r e => (hr r e).2), boxed_turn p2 hg (fun r e => (hr r e).2), p3.grown hg p3.size (fun r e => by have := (hr r e).1; omega)⟩
  case assign =>
    rintro x k X K hk hsx p hK
    have hK2 := hK _ X (KeepsFrom.refl _ _) (KeepB.refl _ _ _) p rfl
    have HK2 := Lib.hid hK2
    obtain ⟨v, hv⟩ : ∃ v, L.getD k 0 = v := ⟨_, rfl⟩
    rw [hv] at HK2 ⊢
    clear hK2 hK hv
    gi_wp2
    exact HK2.out
  case body =>
    rintro x k a' X hk hsx ⟨p1, p2, p3⟩ rfl
    obtain ⟨i, hi, hin⟩ := hget k hk
    obtain ⟨b, off, rfl, hc⟩ := hit.at_ (by omega)
    have z := (p3.cell (p := ⟨b, off + i, none⟩) (block_lt_of_cell (hc i hin))).trans (hc i hin)
    obtain ⟨r, hr⟩ := Int.eq_ofNat_of_zero_le (hrow i hin).1
    have hr2 := (hrow i hin).2
    have hsn : orN m (L.take (k + 1)) = orN m (L.take k) ||| r := by
      have e : L[k]'hk = (i : Int) := by rw [← hi]; simp [List.getD_eq_getElem?_getD, hk]
      rw [List.take_succ_eq_append_getElem hk, orN_snoc, e, Int.toNat_natCast, hr]
      rfl
    have hl1 := hlt (L.take k)
    rw [hr] at z hr2
    rw [hi]
    obtain ⟨O, hO⟩ : ∃ O, orN m (L.take k) = O := ⟨_, rfl⟩
    have hor := or_set O r (by omega) (by omega)
    rw [hO] at hsn p2 hl1
    rw [← hsn] at hor
    obtain ⟨O2, hO2⟩ : ∃ O2, orN m (L.take (k + 1)) = O2 := ⟨_, rfl⟩
    rw [hO2] at hor
    have q0 : 0 ≤ (i : Int) := by omega
    have q1 : (i : Int) < n := by omega
    have y1 := p1.cell
    have y2 := p2.cell
    have y3 := p2.frozen
    have HP := Lib.hid (show KeepsFrom W0.heap.size X ((X.setCell ⟨w.heap.size + 1, 0, none⟩ (.int .i64 (O2 : Int))).drew) ∧ KeepB w.heap.size [w.heap.size + 1 + 1] X ((X.setCell ⟨w.heap.size + 1, 0, none⟩ (.int .i64 (O2 : Int))).drew) ∧ Boxed ((X.setCell ⟨w.heap.size + 1, 0, none⟩ (.int .i64 (O2 : Int))).drew) w.heap.size 22 (.slice (some ⟨b, off, none⟩) n c) ∧
        Boxed ((X.setCell ⟨w.heap.size + 1, 0, none⟩ (.int .i64 (O2 : Int))).drew) (w.heap.size + 1) 3 (.int .i64 ((orN m (L.take (k + 1)) : Nat) : Int)) ∧ Below w.heap.size w ((X.setCell ⟨w.heap.size + 1, 0, none⟩ (.int .i64 (O2 : Int))).drew) from by
      refine ⟨((KeepsOthers.setCell _ _ _).trans (KeepsOthers.drew _)).from _, ⟨((Below.refl w.heap.size X).setCell (p := ⟨w.heap.size + 1, 0, none⟩) (Nat.le_succ _) _).drew, fun g hg o ho => ?_⟩, p1.other (by omega) _, ?_, (p3.setCell (p := ⟨w.heap.size + 1, 0, none⟩) (Nat.le_succ _) _).drew⟩
      · simp only [List.mem_cons, List.not_mem_nil, or_false] at hg
        exact (Below.heap_setCell _ _ _ _ (by simp only; omega)).trans ho
      · rw [hO2]; exact p2.set _)
    clear hc hr hsn hO hO2 hi hget hin hlt hrow hit p1 p2 p3
    have hmx : Try.prog.follows .mixedOrders = true := by kernel_rfl
    gi_wp2
    gi_region_with_o (fail)
    all_goals gi_wp2
    all_goals exact HP.out
  case done =>
    rintro D X hD ⟨p1, p2, p3⟩ hDD
    rw [List.take_length, HOL.out] at p2
    have y2 := p2.cell
    have hbl := p3.grown (grownBy_putObj' X D (.deferred none)) p3.size (fun r e => by cases e; omega)
    gi_wp2
    refine ⟨by simp, .inl ⟨_, _, rfl, run_takeDeferred hDD, ?_⟩⟩
    exact ⟨_, results_tmp rfl _ _ _, rfl, hbl⟩
end Go.Proofs.Ytekmagpokcloaaa

/- What package group's own ways come to: rows together are the groups against; a greatest free set is one that just all others are against. -/
namespace Go.Proofs.Ytekmagpokcloaaa
set_option maxRecDepth 100000
set_option linter.unusedVariables false
open Go.RowKit

theorem bit_row {m : List Int} {i k : Nat} (h : 0 ≤ m.getD i 0) : (m.getD i 0).toNat.testBit k = meetM m i k := by
  obtain ⟨r, hr⟩ := Int.eq_ofNat_of_zero_le h
  unfold meetM
  rw [hr, bit_nat]
  rfl
theorem over_is {m : List Int} {t : Nat} (hm : mayM m = true) (ht : t < 2 ^ m.length) : orN m (listTo t 8) = sumN (hitM m (t : Int)) m.length := by
  obtain ⟨⟨-, h8⟩, hrow, -⟩ := may_all hm
  refine Nat.eq_of_testBit_eq fun k => ?_
  rw [Bool.eq_iff_iff, against_bit, orN_bit, List.any_eq_true]
  constructor
  · rintro ⟨x, hx, hb⟩
    obtain ⟨i, rfl, hi, hti⟩ := list_mem hx
    have hil := bit_lt ht hti
    rw [Int.toNat_natCast] at hb
    obtain ⟨r, hr⟩ := Int.eq_ofNat_of_zero_le (hrow i hil).1
    have hk : k < m.length := by
      have h2 := (hrow i hil).2
      rw [hr, pow_int] at h2
      rw [hr] at hb
      exact bit_lt (by omega) hb
    exact ⟨hk, i, hil, hti, by rw [← bit_row (hrow i hil).1]; exact hb⟩
  · rintro ⟨hk, i, hi, hti, hmt⟩
    refine ⟨(i : Int), ?_, by rw [Int.toNat_natCast, bit_row (hrow i hi).1]; exact hmt⟩
    rw [listTo, List.mem_map]
    exact ⟨i, List.mem_filter.2 ⟨List.mem_range.2 (by omega), hti⟩, rfl⟩
theorem up_bit {t k j : Nat} (ht : t < 256) (hk : k < 8) (hj : j < 8) (h : t.testBit k = false) : (t + 2 ^ k).testBit j = (t.testBit j || decide (j = k)) := by
  obtain ⟨-, -, h3⟩ := more8 ⟨t, ht⟩ ⟨k, hk⟩ (by rw [bit_nat]; exact h)
  have := h3 ⟨j, hj⟩
  simp only [bit_nat] at this
  rw [this]
  congr 1
  exact decide_eq_decide.2 ⟨fun e => by injection e, fun e => by subst e; rfl⟩
theorem most_against {m : List Int} {t : Nat} (hm : mayM m = true) (ht : t < 2 ^ m.length) : mostM m (t : Int) = decide (sumN (hitM m (t : Int)) m.length = 2 ^ m.length - 1 - t) := by
  obtain ⟨⟨-, h8⟩, hrow, hev⟩ := may_all hm
  have h256 := pow_le h8
  obtain ⟨A, hA⟩ : ∃ A, sumN (hitM m (t : Int)) m.length = A := ⟨_, rfl⟩
  have hbit := fun k => against_bit (m := m) (t := t) (k := k)
  have hAl := sumN_lt (hitM m (t : Int)) m.length
  rw [hA] at hbit hAl ⊢
  have hcomp : ∀ k, (2 ^ m.length - 1 - t).testBit k = (decide (k < m.length) && !t.testBit k) := fun k => by
    rw [show 2 ^ m.length - 1 - t = 2 ^ m.length - (t + 1) by omega]
    exact Nat.testBit_two_pow_sub_succ ht k
  rw [Bool.eq_iff_iff, most_iff, decide_eq_true_iff]
  constructor
  · rintro ⟨hf, hmax⟩
    rw [free_nat hm ht] at hf
    refine Nat.eq_of_testBit_eq fun k => ?_
    rw [hcomp, Bool.eq_iff_iff, hbit]
    by_cases hk : k < m.length
    · rw [decide_eq_true hk, Bool.true_and]
      cases htk : t.testBit k
      · refine ⟨fun _ => rfl, fun _ => ⟨hk, ?_⟩⟩
        refine Classical.byContradiction fun hno => hmax k hk ⟨by rw [bit_nat]; exact htk, ?_⟩
        have e : (t : Int) + 2 ^ k = ((t + 2 ^ k : Nat) : Int) := by simp
        rw [e, free_nat hm (up_lt hk ht htk h8)]
        rintro i hi j hj ⟨h1, h2, h3⟩
        rw [up_bit (by omega) (by omega) (by omega) htk] at h1 h2
        have hij := hev i hi j hj
        by_cases e1 : i = k
        · by_cases e2 : j = k
          · exact hij.2 ⟨h3, by rw [e1, e2]⟩
          · simp only [e2, decide_false, Bool.or_false] at h2
            subst e1
            exact hno ⟨j, hj, h2, by rw [← hij.1]; exact h3⟩
        · simp only [e1, decide_false, Bool.or_false] at h1
          by_cases e2 : j = k
          · subst e2
            exact hno ⟨i, hi, h1, h3⟩
          · simp only [e2, decide_false, Bool.or_false] at h2
            exact hf i hi j hj ⟨h1, h2, h3⟩
      · refine ⟨?_, fun h => by simp at h⟩
        rintro ⟨-, i, hi, h1, h2⟩
        exact (hf i hi k hk ⟨h1, htk, h2⟩).elim
    · rw [decide_eq_false hk, Bool.false_and]
      exact ⟨fun h => (hk h.1).elim, fun h => by simp at h⟩
  · intro hAe
    have hiff : ∀ k, k < m.length → ((∃ i, i < m.length ∧ t.testBit i = true ∧ meetM m i k = true) ↔ t.testBit k = false) := fun k hk => by
      have h1 := hbit k
      rw [hAe, hcomp, decide_eq_true hk, Bool.true_and] at h1
      constructor
      · intro h
        have := h1.2 ⟨hk, h⟩
        simpa using this
      · intro h
        exact (h1.1 (by rw [h]; rfl)).2
    refine ⟨(free_nat hm ht).2 fun i hi k hk h => ?_, fun k hk h => ?_⟩
    · have := (hiff k hk).1 ⟨i, hi, h.1, h.2.2⟩
      rw [h.2.1] at this
      cases this
    · obtain ⟨hbk, hfr⟩ := h
      rw [bit_nat] at hbk
      obtain ⟨i, hi, h1, h2⟩ := (hiff k hk).2 hbk
      have e : (t : Int) + 2 ^ k = ((t + 2 ^ k : Nat) : Int) := by simp
      rw [e, free_nat hm (up_lt hk ht hbk h8)] at hfr
      refine hfr i hi k hk ⟨?_, ?_, h2⟩
      · rw [up_bit (by omega) (by omega) (by omega) hbk, h1]; rfl
      · rw [up_bit (by omega) (by omega) (by omega) hbk]; simp
end Go.Proofs.Ytekmagpokcloaaa

/- A range over a function inside an ordinary loop: each time it is come to, it lays one mark more among the deferred calls; how a function leaves with all of them. -/
namespace Go.Proofs.Ytekmagpokcloaaa
set_option linter.unusedVariables false
open Go.RowKit

/-- the marks that those ranges have laid -/
def marksOf (bs : List Nat) : List Deferred := bs.map fun D => { target := .collected D, args := #[] }
/-- their blocks, open, none twice, from B on -/
def MarksAt (B : Nat) (bs : List Nat) (W : World) : Prop := bs.Nodup ∧ ∀ D ∈ bs, B ≤ D ∧ W.heap[D]? = some (.deferred (some []))
theorem MarksAt.nil (B : Nat) (W : World) : MarksAt B [] W := ⟨List.nodup_nil, fun D h => by cases h⟩
theorem MarksAt.below {B : Nat} {bs : List Nat} {W W' : World} (h : MarksAt B bs W) (hb : Below W.heap.size W W') : MarksAt B bs W' :=
  ⟨h.1, fun D hD => ⟨(h.2 D hD).1, (hb.block D (Array.getElem?_eq_some_iff.1 (h.2 D hD).2).1).trans (h.2 D hD).2⟩⟩
theorem MarksAt.keeps {B : Nat} {bs : List Nat} {W W' : World} (h : MarksAt B bs W) (hk : KeepsOthers W W') : MarksAt B bs W' :=
  ⟨h.1, fun D hD => ⟨(h.2 D hD).1, hk.same D _ (h.2 D hD).2 rfl⟩⟩
theorem MarksAt.turn {B : Nat} {bs : List Nat} {W W' : World} {row : Option Nat} (h : MarksAt B bs W) (hg : W.grownBy W' row) (hr : ∀ r, row = some r → ∀ D ∈ bs, D ≠ r) : MarksAt B bs W' :=
  ⟨h.1, fun D hD => ⟨(h.2 D hD).1, (hg.block D (Array.getElem?_eq_some_iff.1 (h.2 D hD).2).1 (fun e => hr D e.symm D hD rfl)).trans (h.2 D hD).2⟩⟩
theorem MarksAt.lt {B : Nat} {bs : List Nat} {W : World} (h : MarksAt B bs W) : ∀ D ∈ bs, D < W.heap.size := fun D hD => (Array.getElem?_eq_some_iff.1 (h.2 D hD).2).1
theorem MarksAt.more {B D : Nat} {bs : List Nat} {W : World} (h : MarksAt B bs W) (hB : B ≤ D) (hD : W.heap[D]? = some (.deferred (some []))) (hn : ∀ E ∈ bs, E ≠ D) : MarksAt B (D :: bs) W :=
  ⟨List.nodup_cons.2 ⟨fun hm => hn D hm rfl, h.1⟩, fun E hE => by
    rcases List.mem_cons.1 hE with rfl | hE
    · exact ⟨hB, hD⟩
    · exact h.2 E hE⟩
theorem marks_cons (D : Nat) (bs : List Nat) : marksOf (D :: bs) = { target := .collected D, args := #[] } :: marksOf bs := rfl
theorem leaves_marks {P : Program} {fn : Func} {tmps : Array Value} {R : Ending → World → Prop} {n B : Nat} (I : World → Prop) (hI : OwnFrom B (fun (_ : Unit) X => I X)) (hend : ∀ X, I X → ∃ v, (results fn tmps).run P X = .ok v X ∧ R (.returned v) X) :
    ∀ (bs : List Nat) (W : World), MarksAt B bs W → I W → LeavesInM Fence.wide n P fn tmps R (marksOf bs) .returning W
  | [], W, _, hi => hend W hi
  | D :: bs, W, hm, hi => by
    obtain ⟨hB, hD⟩ := hm.2 D (List.mem_cons_self ..)
    have hnd := List.nodup_cons.1 hm.1
    refine ⟨by simp, .inl ⟨_, _, rfl, run_takeDeferred hD, ?_⟩⟩
    refine leaves_marks I hI hend bs _ ⟨hnd.2, fun E hE => ?_⟩ (hI.putObj (s := ()) _ hi hB hD rfl)
    have hne : E ≠ D := fun e => hnd.1 (e ▸ hE)
    obtain ⟨h1, h2⟩ := hm.2 E (List.mem_cons_of_mem _ hE)
    exact ⟨h1, (World.putObj_heap_other hne).trans h2⟩
end Go.Proofs.Ytekmagpokcloaaa
