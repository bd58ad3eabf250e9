/- Joined texts: A range over a function whose values are known ahead, in order, where the iterator may itself range over another one: what it turns is no cells, and lies beyond all that lay when it was called. A region that draws its order, inside a fence, walked by hand; what a call that makes new memory alone leaves to an iterator's invariants. Package chain's records: whole records, handed on with the head ahead of each. The walk over the document's Put of a list of entries: its records and head. -/
import Derived.Test.YtplfpaclhapldaaDoorCnJH
import Derived.Shelf.RegionOpen
import Derived.Deep.RegionHeld
import Derived.Laws.EntriesVeiled
import Derived.Test.YtplfpaclhapldaaDoorCnJG
/- A range over a function whose values are known ahead, in order, where the iterator may itself range over another one: what it turns is no cells, and lies beyond all that lay when it was called. -/
namespace Go.Proofs.YtplfpaclhapldaaDoor
set_option linter.unusedVariables false
open Go.RowKit

theorem yield_any {m : Nat} (m' : Nat) {P : Program} {l : Nat} {args : Array Value} {W : World} {R : Ending → World → Prop} (h : YieldAt Fence.wide m P l args W R) : YieldAt Fence.wide m' P l args W R := by
  obtain ⟨fn, tmps, assign, body, hy, hR⟩ := h
  exact ⟨fn, tmps, assign, body, hy, hR.1, fun c cs _ => hR.2 c cs (room_wide _)⟩
theorem calls_depth {m : Nat} (m' : Nat) {P : Program} {f : FuncId} {args : Array Value} {W : World} {R : Ending → World → Prop} (h : CallsIn Fence.wide m P f args W R) : CallsIn Fence.wide m' P f args W R :=
  callsIn_wide.2 (callsIn_wide.1 h)
theorem keepsFrom_lift {B B' : Nat} {W W' : World} (h : KeepsFrom B W W') (hB : B ≤ B') : KeepsFrom B' W W' := ⟨h.size, fun k o hk => h.same k o (by omega)⟩
theorem keepsFrom_put {B l : Nat} {W : World} (o : Obj) (h : l < B) : KeepsFrom B W (W.putObj l o) := KeepsFrom.of_grownBy (grownBy_putObj' W l o) (fun j e => by injection e with e; omega)
theorem ownFrom_lift {β : Type} {B B' : Nat} {I : β → World → Prop} (h : OwnFrom B I) (hB : B ≤ B') : OwnFrom B' I := fun s W W' row hs hg hr => h s W W' row hs hg (fun r e => ⟨by have := (hr r e).1; omega, (hr r e).2⟩)

/-- what lies below n stays as it lay, and so do the blocks bs -/
def KeepB (n : Nat) (bs : List Nat) (X Y : World) : Prop := Below n X Y ∧ ∀ b ∈ bs, ∀ o : Obj, X.heap[b]? = some o → Y.heap[b]? = some o
theorem KeepB.trans {n : Nat} {bs : List Nat} {X Y Z : World} (h : KeepB n bs X Y) (k : KeepB n bs Y Z) : KeepB n bs X Z := ⟨h.1.trans k.1, fun b hb o ho => k.2 b hb o (h.2 b hb o ho)⟩
theorem KeepB.less {n : Nat} {bs cs : List Nat} {X Y : World} (h : KeepB n bs X Y) (hc : ∀ b ∈ cs, b ∈ bs) : KeepB n cs X Y := ⟨h.1, fun b hb => h.2 b (hc b hb)⟩
theorem KeepB.refl (n : Nat) (bs : List Nat) (X : World) : KeepB n bs X X := ⟨Below.refl _ _, fun _ _ _ h => h⟩
theorem KeepB.alloc (n : Nat) (bs : List Nat) (X : World) (o : Obj) (hn : n ≤ X.heap.size) : KeepB n bs X (X.alloc o) := ⟨(Below.refl _ X).alloc hn o, fun b _ o' ho => (Below.heap_alloc X o _ (Array.getElem?_eq_some_iff.1 ho).1).trans ho⟩
theorem KeepB.put {n l : Nat} {bs : List Nat} {X : World} {o : Obj} (o' : Obj) (hl : X.heap[l]? = some o) (hn : n ≤ l) (hb : ∀ b ∈ bs, b ≠ l) : KeepB n bs X (X.putObj l o') :=
  ⟨(Below.refl n X).grown (grownBy_putObj' X l o') (by have := (Array.getElem?_eq_some_iff.1 hl).1; omega) (fun k e => by cases e; omega), fun b hm o2 ho => (World.putObj_heap_other (hb b hm)).trans ho⟩
/-- an iterator that hands over vals 0, .., vals (N - 1), till it is told to stop; Kp: what a round that goes on must keep for it -/
def HandsC (P : Program) (gf : Nat) (lb : Array Value) (vals : Nat → Array Value) (N : Nat) (Kp : Nat → World → World → Prop) (w0 : World) : Prop :=
  ∀ (n l : Nat) (J : Nat → World → Prop) (Jx : World → Prop) (W : World), Below w0.heap.size w0 W → OwnFrom W.heap.size J → OwnFrom W.heap.size (fun (_ : Unit) X => Jx X) →
    (∀ k W1, k < N → J k W1 → YieldAt Fence.wide 0 P l (vals k) W1 fun e W' => (e = .returned (.bool true) ∧ J (k + 1) W' ∧ Kp W.heap.size W1 W' ∧ KeepsFrom W.heap.size W1 W') ∨ (e = .returned (.bool false) ∧ Jx W' ∧ KeepsFrom W.heap.size W1 W')) → J 0 W →
    CallsIn Fence.wide n P gf (#[.func (.yield l) #[] #[]] ++ lb) W fun e W' => (∃ v, e = .returned v) ∧ (J N W' ∨ Jx W')
/-- a round that goes on, or leaves the function -/
def GoesC (B : Nat) (Kp : World → World → Prop) (I : Nat → World → Prop) (Ix : World → Prop) (k : Nat) (W : World) : Exit → Act → World → Prop
  | .normal, _, W' => KeepsFrom B W W' ∧ Kp W W' ∧ I (k + 1) W'
  | .ret, _, W' => KeepsFrom B W W' ∧ Ix W'
  | _, _, _ => False
theorem range_c {n : Nat} {P : Program} {g : Operand} {ps : Array Tmp} {assign body : Code} {Q : Exit → Act → World → Prop} {a : Act} {w w0 : World}
    {gf : Nat} {lb : Array Value} (hg : a.eval g = .func (.func gf) #[] lb) (eg : ∀ args w, (callFunc gf args).run P w = .ok (.enter gf args) w)
    {vals : Nat → Array Value} {N : Nat} {Kp : Nat → World → World → Prop} (hseq : HandsC P gf lb vals N Kp w0) (hb0 : Below w0.heap.size w0 w) (hps : ∀ k, (vals k).size = ps.size)
    (hKt : ∀ {A B C : World}, Kp (w.heap.size + 1 + 1) A B → Kp (w.heap.size + 1 + 1) B C → Kp (w.heap.size + 1 + 1) A C) (hKb : ∀ (W : World) (o o' : Obj), W.heap[w.heap.size + 1]? = some o → o.isCells = false → o.isWalk = false → Kp (w.heap.size + 1 + 1) W (W.putObj (w.heap.size + 1) o'))
    (I : Nat → World → Prop) (hI : OwnFrom w.heap.size I) (Ix : World → Prop) (hIx : OwnFrom w.heap.size (fun (_ : Unit) X => Ix X)) (h0 : I 0 w)
    (Ax : Nat → Act → World → Prop) (hAx : ∀ k a', OwnFrom w.heap.size (fun (_ : Unit) X => Ax k a' X))
    (hassign : ∀ (l k : Nat) (W : World) (K : Act → World → Prop), k < N → w.heap.size + 1 + 1 ≤ W.heap.size → I k W → (∀ a' W', KeepsFrom w.heap.size W W' → Kp (w.heap.size + 1 + 1) W W' → I k W' → Ax k a' W' → K a' W') →
      assign.wpIn (Fence.wide.inRound l) (n - 1 - 1) P (Exit.then K (fun _ _ _ => False)) { tmps := (ps.zip (vals k)).foldl (fun t (p, v) => t.setIfInBounds p v) a.tmps, defers := [] } W)
    (hbody : ∀ (l k : Nat) (a' : Act) (W : World), k < N → w.heap.size + 1 + 1 ≤ W.heap.size → I k W → Ax k a' W → body.wpIn (Fence.wide.inRound l) (n - 1 - 1) P (GoesC w.heap.size (Kp (w.heap.size + 1 + 1)) I Ix k W) a' W)
    (hdone : ∀ (D : Nat) (W : World), w.heap.size ≤ D → I N W → W.heap[D]? = some (.deferred (some [])) → Q .normal { a with defers := { target := .collected D, args := #[] } :: a.defers } W)
    (hstop : ∀ (D : Nat) (W : World), w.heap.size ≤ D → Ix W → W.heap[D]? = some (.deferred (some [])) → Code.ret.wpIn Fence.wide n P Q { a with defers := { target := .collected D, args := #[] } :: a.defers } W) :
    (Code.rangeFunc g ps assign body).wpIn Fence.wide n P Q a w := by
  refine wpIn_rangeFunc fun fn hfn => ?_
  rw [show Fence.wide.round = none from rfl]
  obtain ⟨rec_, hrec⟩ : ∃ rec_ : LoopState → Option Code → Loop, rec_ = fun st pe => { state := st, pending := pe, fn := fn, tmps := a.tmps, params := ps, assign := assign, body := body, defers := w.heap.size } := ⟨_, rfl⟩
  obtain ⟨W1, hW1⟩ : ∃ W1, (w.alloc (.deferred (some []))).alloc (.loop (rec_ .ready none)) = W1 := ⟨_, rfl⟩
  have hL1 : W1.heap[w.heap.size + 1]? = some (.loop (rec_ .ready none)) := by rw [← hW1]; exact heap_alloc2_new w _ _
  have hD1 : W1.heap[w.heap.size]? = some (.deferred (some [])) := by rw [← hW1]; exact heap_alloc2_old w _ _
  have hz1 : W1.heap.size = w.heap.size + 1 + 1 := by rw [← hW1]; simp
  have hI1 : I 0 W1 := by rw [← hW1]; exact hI.alloc _ (hI.alloc _ h0)
  have hB1 : Below w0.heap.size w0 W1 := by rw [← hW1]; exact hb0.trans ((two_below w _ _).mono hb0.size)
  have keep : ∀ (A B : World) (row : Option Nat) (b : Nat) (o : Obj), A.grownBy B row → (∀ r, row = some r → W1.heap.size ≤ r ∧ ∃ o : Obj, A.heap[r]? = some o ∧ o.isCells = false) → b < w.heap.size + 1 + 1 → A.heap[b]? = some o → B.heap[b]? = some o := fun A B row b o hgr hr hlt ho => by
    refine (hgr.block b (Array.getElem?_eq_some_iff.1 ho).1 (fun e => ?_)).trans ho
    have := (hr b e.symm).1
    omega
  have low : ∀ (A : World) (row : Option Nat), (∀ r, row = some r → W1.heap.size ≤ r ∧ ∃ o : Obj, A.heap[r]? = some o ∧ o.isCells = false) → (∀ r, row = some r → w.heap.size ≤ r ∧ ∃ o : Obj, A.heap[r]? = some o ∧ o.isCells = false) := fun A row hr r e => ⟨by have := (hr r e).1; omega, (hr r e).2⟩
  refine ⟨w.heap.size + 1, [{ target := .collected w.heap.size, args := #[] }], W1, { target := .fn (.func gf) lb, args := #[.func (.yield (w.heap.size + 1)) #[] #[]] }, W1, gf, #[.func (.yield (w.heap.size + 1)) #[] #[]] ++ lb, W1, ?_, ?_, ?_, ?_, (fun h => by simp [Fence.wide] at h), ?_⟩
  · rw [← hW1, hrec]; exact run_enterLoop_outer _ _ _ _ _
  · simp only [resolve, hg]
    simp [go_sem]
  · intro f' hf'
    trivial
  · simp [invoke, go_sem, eg]
  rw [← hz1] at hKt hKb hassign hbody
  refine (hseq (n - 1) (w.heap.size + 1) (fun k W => I k W ∧ W.heap[w.heap.size + 1]? = some (.loop (rec_ .ready none)) ∧ W.heap[w.heap.size]? = some (.deferred (some []))) (fun W => Ix W ∧ W.heap[w.heap.size + 1]? = some (.loop (rec_ .done (some .ret))) ∧ W.heap[w.heap.size]? = some (.deferred (some []))) W1 hB1
    (fun k A B row hs hgr hr => ⟨hI k A B row hs.1 hgr (low A row hr), keep A B row _ _ hgr hr (by omega) hs.2.1, keep A B row _ _ hgr hr (by omega) hs.2.2⟩)
    (fun u A B row hs hgr hr => ⟨hIx u A B row hs.1 hgr (low A row hr), keep A B row _ _ hgr hr (by omega) hs.2.1, keep A B row _ _ hgr hr (by omega) hs.2.2⟩)
    (fun k W hk hs => ?_) ⟨hI1, hL1, hD1⟩).mono ?_
  · obtain ⟨hi, hl, hd⟩ := hs
    have hy := run_yield (P := P) (args := vals k) hl (by rw [hrec]; exact hps k)
    rw [hrec] at hy
    refine yield_any 0 (m := n - 1 - 1) ⟨fn, _, assign, body, hy, roundIn_of_wpIn hfn ?_⟩
    refine hassign _ k W _ hk (by have := (Array.getElem?_eq_some_iff.1 hl).1; omega) hi ?_
    intro a' Wa hka hkpa hia hax
    replace hl := hka.same _ _ (by omega) hl rfl
    replace hd := hka.same _ _ (Nat.le_refl _) hd rfl
    have hlt : w.heap.size + 1 < Wa.heap.size := (Array.getElem?_eq_some_iff.1 hl).1
    refine ⟨_, run_beginRound hl (by rw [hrec]), ?_⟩
    have hl2 : (Wa.putObj (w.heap.size + 1) (.loop { rec_ .ready none with state := .busy })).heap[w.heap.size + 1]? = some (.loop { rec_ .ready none with state := .busy }) := World.putObj_heap_same hlt
    have hd2 : (Wa.putObj (w.heap.size + 1) (.loop { rec_ .ready none with state := .busy })).heap[w.heap.size]? = some (.deferred (some [])) := (World.putObj_heap_other (by omega)).trans hd
    have hk2 : KeepsFrom W1.heap.size W (Wa.putObj (w.heap.size + 1) (.loop { rec_ .ready none with state := .busy })) := (keepsFrom_lift hka (by omega)).trans (keepsFrom_put _ (by omega))
    refine wpIn_mono (hbody _ k a' _ hk (by simp; omega) (hI.putObj _ hia (Nat.le_succ _) hl rfl) ((hAx k a').putObj (s := ()) _ hax (Nat.le_succ _) hl rfl)) ?_
    rintro e a3 W3 hp
    cases e with
    | normal =>
      obtain ⟨hk3, hkp3, hi3⟩ := hp
      have hl3 := hk3.same _ _ (by omega) hl2 rfl
      have hd3 := hk3.same _ _ (Nat.le_refl _) hd2 rfl
      have hr := run_endRound (P := P) none hl3
      rw [hrec] at hr hl3
      refine ⟨_, _, hr, .inl ⟨rfl, ⟨hI.putObj _ hi3 (by omega) hl3 rfl, ?_, ?_⟩, ?_, ?_⟩⟩
      · rw [hrec]; exact World.putObj_heap_same (Array.getElem?_eq_some_iff.1 hl3).1
      · exact (World.putObj_heap_other (by omega)).trans hd3
      · exact hKt hkpa (hKt (hKt (hKb _ _ _ hl rfl rfl) hkp3) (hKb _ _ _ hl3 rfl rfl))
      · exact (hk2.trans (keepsFrom_lift hk3 (by omega))).trans (keepsFrom_put _ (by omega))
    | ret =>
      obtain ⟨hk3, hi3⟩ := hp
      have hl3 := hk3.same _ _ (by omega) hl2 rfl
      have hd3 := hk3.same _ _ (Nat.le_refl _) hd2 rfl
      have hr := run_endRound (P := P) (some .ret) hl3
      rw [hrec] at hr hl3
      refine ⟨_, _, hr, .inr ⟨rfl, ⟨hIx.putObj (s := ()) _ hi3 (by omega) hl3 rfl, ?_, ?_⟩, ?_⟩⟩
      · rw [hrec]; exact World.putObj_heap_same (Array.getElem?_eq_some_iff.1 hl3).1
      · exact (World.putObj_heap_other (by omega)).trans hd3
      · exact (hk2.trans (keepsFrom_lift hk3 (by omega))).trans (keepsFrom_put _ (by omega))
    | exit id => exact hp.elim
    | goto t => exact hp.elim
    | panic ch => exact hp.elim
    | outgrown => exact hp.elim
  · rintro e W2 ⟨⟨v, rfl⟩, ⟨hi, hl, hd⟩ | ⟨hi, hl, hd⟩⟩
    · exact ⟨none, _, by have := run_endLoop (P := P) hl (by rw [hrec]; simp); rw [hrec] at this; exact this, hdone _ _ (Nat.le_refl _) (hI.putObj _ hi (by omega) hl rfl) ((World.putObj_heap_other (by omega)).trans hd)⟩
    · exact ⟨some .ret, _, by have := run_endLoop (P := P) hl (by rw [hrec]; simp); rw [hrec] at this; exact this, hstop _ _ (Nat.le_refl _) (hIx.putObj (s := ()) _ hi (by omega) hl rfl) ((World.putObj_heap_other (by omega)).trans hd)⟩
end Go.Proofs.YtplfpaclhapldaaDoor

/- A region that draws its order, inside a fence, walked by hand; what a call that makes new memory alone leaves to an iterator's invariants. -/
namespace Go.Proofs.YtplfpaclhapldaaDoor
set_option linter.unusedVariables false
open Go.RowKit

section
variable {F : Fence} {n : Nat} {P : Program} {l : List Oper} {Q : Exit → Act → World → Prop} {md : Region.Mode} {oi oj : Oper} {fuel : Nat} {listed : Array Bool} {a : Act} {w : World}
/-- one operation taken first: what it yields hangs on no world, and it calls nobody (of an activation of a function) -/
theorem takeF (hro : F.round = none) (i : Nat) (v : Value) (hi : l[i]? = some oi) (hs : Region.noSelect l.toArray = true) (hf : Region.free md l.toArray listed i = true) (hr : (Region.ready md l.toArray listed).contains i = true)
    (hQ : ∀ c a w, Q (.panic c) (a.put oi.dst v) w → Q (.panic c) a w) (hw : Region.wanted oi (yielded l.toArray a.tmps) = true) (hab : ∀ w, oi.about P w a.eval = none) (hrun : ∀ w, (execOp a.eval oi).run P w = .ok (.value v) w)
    (h : wpAnyIn F n P md l.toArray Q fuel (listed.setIfInBounds i true) (a.put oi.dst v) w) : wpAnyIn F n P md l.toArray Q (fuel + 1) listed a w :=
  wpAnyIn_take hro (by simpa using hi) hs hf hr hQ ⟨.inl ⟨hw, hrun⟩, hab⟩ h
theorem takeF_move (hro : F.round = none) (i : Nat) (x : Operand) (v : Value) (hi : l[i]? = some oi) (ho : oi.op = .move x) (hv : a.eval x = v) (hs : Region.noSelect l.toArray = true) (hf : Region.free md l.toArray listed i = true) (hr : (Region.ready md l.toArray listed).contains i = true)
    (hQ : ∀ c a w, Q (.panic c) (a.put oi.dst v) w → Q (.panic c) a w) (hw : Region.wanted oi (yielded l.toArray a.tmps) = true) (hab : ∀ w, oi.about P w a.eval = none)
    (h : wpAnyIn F n P md l.toArray Q fuel (listed.setIfInBounds i true) (a.put oi.dst v) w) : wpAnyIn F n P md l.toArray Q (fuel + 1) listed a w :=
  takeF hro i v hi hs hf hr hQ hw hab (fun w => by unfold execOp; simp [ho, hv]) h
/-- the only one that may come up; two that may -/
theorem oneF (i : Nat) (hr : Region.ready md l.toArray listed = [i]) (hi : l[i]? = some oi)
    (h : ∀ K' : Act → World → Prop, Shut (∀ a w, wpAnyIn F n P md l.toArray Q fuel (listed.setIfInBounds i true) a w → K' a w) → if Region.wanted oi (yielded l.toArray a.tmps) = true then Oper.wpIn F n P oi a w K' Q else (∀ f, oi.about P w a.eval = some f → F.fn f) ∧ K' (a.put oi.dst undef) w) :
    wpAnyIn F n P md l.toArray Q (fuel + 1) listed a w :=
  wpAnyIn_ready hr (by simp) (AllReadyIn.cons (by simpa using hi) h AllReadyIn.nil)
theorem twoF (i j : Nat) (hr : Region.ready md l.toArray listed = [i, j]) (hi : l[i]? = some oi) (hj : l[j]? = some oj)
    (h1 : ∀ K' : Act → World → Prop, Shut (∀ a w, wpAnyIn F n P md l.toArray Q fuel (listed.setIfInBounds i true) a w → K' a w) → if Region.wanted oi (yielded l.toArray a.tmps) = true then Oper.wpIn F n P oi a w K' Q else (∀ f, oi.about P w a.eval = some f → F.fn f) ∧ K' (a.put oi.dst undef) w)
    (h2 : ∀ K' : Act → World → Prop, Shut (∀ a w, wpAnyIn F n P md l.toArray Q fuel (listed.setIfInBounds j true) a w → K' a w) → if Region.wanted oj (yielded l.toArray a.tmps) = true then Oper.wpIn F n P oj a w K' Q else (∀ f, oj.about P w a.eval = some f → F.fn f) ∧ K' (a.put oj.dst undef) w) :
    wpAnyIn F n P md l.toArray Q (fuel + 1) listed a w :=
  wpAnyIn_ready hr (by simp) (AllReadyIn.cons (by simpa using hi) h1 (AllReadyIn.cons (by simpa using hj) h2 AllReadyIn.nil))
end
theorem below_kept {W W' : World} (h : Below W.heap.size W W') : W.grownBy W' none := ⟨h.os, h.tape, h.output, h.size, fun k hk _ => h.block k hk⟩
theorem ownFrom_below {β : Type} {B : Nat} {I : β → World → Prop} (h : OwnFrom B I) {s : β} {W W' : World} (hs : I s W) (hb : Below W.heap.size W W') : I s W' := h s W W' none hs (below_kept hb) (fun r e => by cases e)
theorem keepB_below {n : Nat} {bs : List Nat} {X Y : World} (h : Below X.heap.size X Y) (hn : n ≤ X.heap.size) : KeepB n bs X Y := ⟨h.mono hn, fun b _ o ho => (h.block b (Array.getElem?_eq_some_iff.1 ho).1).trans ho⟩
theorem keepsFrom_below {B : Nat} {X Y : World} (h : Below X.heap.size X Y) : KeepsFrom B X Y := KeepsFrom.of_grownBy (below_kept h) (fun j e => by cases e)
theorem boxed_below {w w' : World} {g : Nat} {t : TypeId} {v : Value} (h : Boxed w g t v) (hb : Below w.heap.size w w') : Boxed w' g t v := (hb.block g h.lt).trans h
theorem below_drew1 (w : World) : Below w.heap.size w w.drew := (Below.refl _ w).drew
end Go.Proofs.YtplfpaclhapldaaDoor

/- Package chain's records: whole records, handed on with the head ahead of each. -/
namespace Go.Proofs.YtplfpaclhapldaaDoor
set_option maxRecDepth 100000
set_option linter.unusedVariables false
set_option linter.unusedSimpArgs false
open Go.RowKit Go.Shelf
attribute [local go_sem] Oper.semAt_some

/-- a head, and the record behind it -/
def recV (A : Option Addr) (c : Nat) (b : List Int) (k : Nat) : Array Value := #[.agg (idv (headB (b.take (62 * k)))), .slice (A.map fun a => ⟨a.block, a.off + 62 * k, none⟩) 62 (c - 62 * k)]
def recN (n : Nat) : Nat := min (n / 62) 264
set_option maxRecDepth 100000 in
set_option maxHeartbeats 4000000 in
theorem recs_hands (A : Option Addr) (n c : Nat) (b : List Int) (Bs : Nat) (wb w0 : World) (hK : KTab wb) (hb : Bts wb A n c b) (hb0 : Below wb.heap.size wb w0) (hbox : Boxed w0 Bs 29 (.slice A n c)) :
    HandsC Tryd.prog 61 #[.pointer (some ⟨Bs, 0, none⟩)] (recV A c b) (recN n) (fun _ => KeepB wb.heap.size [Bs]) w0 := by
  intro m L J Jx W hW hJ hJx hY h0
  have hbW : Boxed W Bs 29 (.slice A n c) := (hW.block Bs hbox.lt).trans hbox
  have hboxW := hbW.cell
  have HBW := Lib.hid hbW
  have hn := hb.small
  have HBL := Lib.hid hb.len
  have HD := Lib.hid hb
  have HY := Lib.hid hY
  have HJ := Lib.hid hJ
  have HK := Lib.hid hK
  have HW := Lib.hid (hb0.trans (hW.mono hb0.size))
  have hN : recN n = min (n / 62) 264 := rfl
  obtain ⟨N, hN2⟩ : ∃ N, recN n = N := ⟨_, rfl⟩
  rw [hN2] at HY hN ⊢
  have hN62 : 62 * N ≤ n := by omega
  have hN264 : N ≤ 264 := by omega
  have HN := Lib.hid hN
  have hmin : min ((n : Int) / 62) 264 = N := by omega
  have hmx : Tryd.prog.follows .mixedOrders = true := by kernel_rfl
  clear hY hW hbox hb hJ hJx hb0 hbW hK hN hN2
  refine callsIn_of_wp Tryd.func61 rfl trivial ?_ rfl
  simp only [Tryd.ntmps61, List.size_toArray, List.length_cons, List.length_nil, Nat.reduceAdd, Nat.reduceSub, Array.replicate_succ, Array.replicate_zero, List.push_toArray, List.append_toArray, List.nil_append, List.cons_append]
  rcases (show (n : Int) / 62 ≤ 264 ∧ (n : Int) / 62 = N ∨ ¬ (n : Int) / 62 ≤ 264 ∧ (264 : Int) = N by omega) with ⟨hq, e⟩ | ⟨hq, e⟩
  all_goals
    gi_wp2
    try rw [e]
    clear e hq hmin
    gi_loopw [3, 4, 9] (fun x y i wr => ∃ k : Nat, k ≤ N ∧ i = .int .i64 k ∧ J k wr ∧ Below wb.heap.size wb wr ∧ Boxed wr Bs 29 (.slice A n c)) (fun _ _ i _ => N - (intOf i).toNat)
    case atStart => exact ⟨0, Nat.zero_le _, rfl, h0, HW.out, HBW.out⟩
    case round =>
      obtain ⟨k, hk, rfl, hJk, hB, hbr⟩ := hrel
      by_cases hlt : k < N
      · obtain ⟨hc1, hbt1⟩ := run_to (HD.out.below hB) ((k : Int) * 62) (hi := 62 * k) (by omega) (by omega)
        obtain ⟨bb, oo, rfl, hbt2, hcut2⟩ := cut_any (HD.out.below hB) (62 * k) 62 (by omega) (by omega)
        have hc2 : ∀ W : World, (Instr.slice 29 (.slice (some ⟨bb, oo, none⟩) n c) (some (.int .i64 ((k : Int) * 62))) (some (.int .i64 ((k : Int) * 62 + 62))) none).run Tryd.prog W = .ok (.slice (some ⟨bb, oo + 62 * k, none⟩) 62 (c - 62 * k)) W := fun W => hcut2 _ _ W (by omega) (by omega)
        have q0 : 0 ≤ (k : Int) := by omega
        have q1 : (k : Int) < N := by omega
        have hbx := hbr.cell
        have HB1 := Lib.hid hB
        have HBR := Lib.hid hbr
        have HJk := Lib.hid hJk
        have HHD := Lib.hid (fun (X : World) (hX : Below wr.heap.size wr X) => callsIn_wide (n := m - 1).2 (cheadof_any (some ⟨bb, oo, none⟩) (62 * k) c (b.take (62 * k)) X (HK.out.from (hB.trans (hX.mono hB.size))) (hbt1.below hX) (by omega)))
        have HYY := Lib.hid (fun (X : World) (hX : Below wr.heap.size wr X) => yield_any (m - 1) (HY.out k X hlt (ownFrom_below HJ.out hJk hX)))
        simp only [recV, Option.map_some] at HYY
        clear hB hbr hJk hbt1 hbt2 hcut2
        have hw62 : IntKind.i64.wrap ((k : Int) * 62 + 62) = (k : Int) * 62 + 62 := by rw [IntKind.wrap_i64]; omega
        gi_wp2
        refine wpIn_region_any hmx ?_
        change wpAnyIn _ _ _ _ _ _ _ _ _ (World.drew _)
        obtain ⟨Y0, hY0⟩ : ∃ Y, wr.drew = Y := ⟨_, rfl⟩
        have hS0 : Below wr.heap.size wr Y0 := by rw [← hY0]; exact below_drew1 wr
        rw [hY0]
        have hbx : Y0.cell? ⟨Bs, 0, none⟩ = some (.slice (some ⟨bb, oo, none⟩) n c) := (boxed_below HBR.out hS0).cell
        clear hY0
        refine takeF_move rfl 0 (.tmp 0) (.func (.yield L) #[] #[]) rfl rfl rfl (by kernel_rfl) (by kernel_rfl) (by kernel_rfl) (fun _ _ _ h => h) rfl (fun _ => rfl) ?_
        simp only [Act.put, List.setIfInBounds_toArray, List.set_cons_zero, List.set_cons_succ]
        refine takeF_move rfl 2 (.tmp 4) (.int .i64 ((k : Int) * 62)) rfl rfl rfl (by kernel_rfl) (by kernel_rfl) (by kernel_rfl) (fun _ _ _ h => h) rfl (fun _ => rfl) ?_
        simp only [Act.put, List.setIfInBounds_toArray, List.set_cons_zero, List.set_cons_succ]
        refine takeF_move rfl 6 (.tmp 4) (.int .i64 ((k : Int) * 62)) rfl rfl rfl (by kernel_rfl) (by kernel_rfl) (by kernel_rfl) (fun _ _ _ h => h) rfl (fun _ => rfl) ?_
        simp only [Act.put, List.setIfInBounds_toArray, List.set_cons_zero, List.set_cons_succ]
        refine takeF_move rfl 7 (.tmp 4) (.int .i64 ((k : Int) * 62)) rfl rfl rfl (by kernel_rfl) (by kernel_rfl) (by kernel_rfl) (fun _ _ _ h => h) rfl (fun _ => rfl) ?_
        simp only [Act.put, List.setIfInBounds_toArray, List.set_cons_zero, List.set_cons_succ]
        refine takeF rfl 8 (.int .i64 ((k : Int) * 62 + 62)) rfl (by kernel_rfl) (by kernel_rfl) (by kernel_rfl) (fun _ _ _ h => h) rfl (fun _ => rfl) (fun w => ?_) ?_
        · go_simp
        simp only [Act.put, List.setIfInBounds_toArray, List.set_cons_zero, List.set_cons_succ]
        refine twoF 1 5 (by kernel_rfl) rfl rfl (fun Kq hKq => ?_) (fun Kq hKq => ?_)
        · skip
          go_simp
          refine hKq.out _ _ ?_
          clear hKq Kq
          try simp only [Act.put, List.setIfInBounds_toArray, List.set_cons_zero, List.set_cons_succ]
          refine takeF rfl 3 (.slice (some ⟨bb, oo, none⟩) (62 * k) c) rfl (by kernel_rfl) (by kernel_rfl) (by kernel_rfl) (fun _ _ _ h => h) rfl (fun _ => rfl) (fun w => ?_) ?_
          · go_simp
          simp only [Act.put, List.setIfInBounds_toArray, List.set_cons_zero, List.set_cons_succ]
          refine twoF 4 5 (by kernel_rfl) rfl rfl (fun Kq hKq => ?_) (fun Kq hKq => ?_)
          · skip
            go_simp
            refine ⟨trivial, (fun h => by simp [Fence.wide] at h), ?_⟩
            gi_at_call 26
            refine (HHD.out _ hS0).mono ?_
            rintro e w4 ⟨rfl, hb4⟩
            have hSw4 : Below wr.heap.size wr w4 := hS0.trans (hb4.mono hS0.size)
            have hbx : w4.cell? ⟨Bs, 0, none⟩ = some (.slice (some ⟨bb, oo, none⟩) n c) := (boxed_below HBR.out hSw4).cell
            clear hb4
            simp only []
            refine hKq.out _ _ ?_
            clear hKq Kq
            try simp only [Act.put, List.setIfInBounds_toArray, List.set_cons_zero, List.set_cons_succ]
            refine oneF 5 (by kernel_rfl) rfl (fun Kq hKq => ?_)
            go_simp
            refine hKq.out _ _ ?_
            clear hKq Kq
            try simp only [Act.put, List.setIfInBounds_toArray, List.set_cons_zero, List.set_cons_succ]
            refine takeF rfl 9 (.slice (some ⟨bb, oo + 62 * k, none⟩) 62 (c - 62 * k)) rfl (by kernel_rfl) (by kernel_rfl) (by kernel_rfl) (fun _ _ _ h => h) rfl (fun _ => rfl) (fun w => ?_) ?_
            · go_simp
            simp only [Act.put, List.setIfInBounds_toArray, List.set_cons_zero, List.set_cons_succ]
            obtain ⟨fn, tmps, assign, body, hy, hR⟩ := HYY.out _ hSw4
            have HR := Lib.hid hR
            clear hR
            refine oneF 10 (by kernel_rfl) rfl (fun Kq hKq => ?_)
            go_simp
            refine ⟨(fun h => by simp [Fence.wide] at h), HR.out.mono ?_⟩
            rintro e W3 (⟨rfl, hJ3, hk3, -⟩ | ⟨rfl, hJx3, -⟩)
            · have HJ3 := Lib.hid hJ3
              have HK3 := Lib.hid hk3
              clear hJ3 hk3 hy HR
              simp only []
              refine hKq.out _ _ ?_
              clear hKq Kq
              try simp only [Act.put, List.setIfInBounds_toArray, List.set_cons_zero, List.set_cons_succ]
              refine takeF rfl 11 (.bool false) rfl (by kernel_rfl) (by kernel_rfl) (by kernel_rfl) (fun _ _ _ h => h) rfl (fun _ => rfl) (fun w => ?_) ?_
              · go_simp
              simp only [Act.put, List.setIfInBounds_toArray, List.set_cons_zero, List.set_cons_succ]
              refine wpAnyIn_done (by kernel_rfl) ?_ _
              gi_wp2
              go_roundw
              case rel => exact ⟨k + 1, by omega, by go_num, HJ3.out, (HB1.out.trans (hSw4.mono HB1.out.size)).trans HK3.out.1, HK3.out.2 Bs (by simp) _ (boxed_below HBR.out hSw4)⟩
              case measure => simp [intOf]; omega
            · have HJX := Lib.hid hJx3
              clear hJx3 hy HR
              simp only []
              refine hKq.out _ _ ?_
              clear hKq Kq
              try simp only [Act.put, List.setIfInBounds_toArray, List.set_cons_zero, List.set_cons_succ]
              refine takeF rfl 11 (.bool true) rfl (by kernel_rfl) (by kernel_rfl) (by kernel_rfl) (fun _ _ _ h => h) rfl (fun _ => rfl) (fun w => ?_) ?_
              · go_simp
              simp only [Act.put, List.setIfInBounds_toArray, List.set_cons_zero, List.set_cons_succ]
              refine wpAnyIn_done (by kernel_rfl) ?_ _
              gi_wp2
              refine bodyPost_ret (results_none rfl _ _ _) rfl ?_
              exact ⟨⟨_, rfl⟩, .inr HJX.out⟩
          · skip
            go_simp
            refine hKq.out _ _ ?_
            clear hKq Kq
            try simp only [Act.put, List.setIfInBounds_toArray, List.set_cons_zero, List.set_cons_succ]
            refine takeF rfl 9 (.slice (some ⟨bb, oo + 62 * k, none⟩) 62 (c - 62 * k)) rfl (by kernel_rfl) (by kernel_rfl) (by kernel_rfl) (fun _ _ _ h => h) rfl (fun _ => rfl) (fun w => ?_) ?_
            · go_simp
            simp only [Act.put, List.setIfInBounds_toArray, List.set_cons_zero, List.set_cons_succ]
            refine oneF 4 (by kernel_rfl) rfl (fun Kq hKq => ?_)
            go_simp
            refine ⟨trivial, (fun h => by simp [Fence.wide] at h), ?_⟩
            gi_at_call 26
            refine (HHD.out _ hS0).mono ?_
            rintro e w4 ⟨rfl, hb4⟩
            have hSw4 : Below wr.heap.size wr w4 := hS0.trans (hb4.mono hS0.size)
            have hbx : w4.cell? ⟨Bs, 0, none⟩ = some (.slice (some ⟨bb, oo, none⟩) n c) := (boxed_below HBR.out hSw4).cell
            clear hb4
            simp only []
            refine hKq.out _ _ ?_
            clear hKq Kq
            try simp only [Act.put, List.setIfInBounds_toArray, List.set_cons_zero, List.set_cons_succ]
            obtain ⟨fn, tmps, assign, body, hy, hR⟩ := HYY.out _ hSw4
            have HR := Lib.hid hR
            clear hR
            refine oneF 10 (by kernel_rfl) rfl (fun Kq hKq => ?_)
            go_simp
            refine ⟨(fun h => by simp [Fence.wide] at h), HR.out.mono ?_⟩
            rintro e W3 (⟨rfl, hJ3, hk3, -⟩ | ⟨rfl, hJx3, -⟩)
            · have HJ3 := Lib.hid hJ3
              have HK3 := Lib.hid hk3
              clear hJ3 hk3 hy HR
              simp only []
              refine hKq.out _ _ ?_
              clear hKq Kq
              try simp only [Act.put, List.setIfInBounds_toArray, List.set_cons_zero, List.set_cons_succ]
              refine takeF rfl 11 (.bool false) rfl (by kernel_rfl) (by kernel_rfl) (by kernel_rfl) (fun _ _ _ h => h) rfl (fun _ => rfl) (fun w => ?_) ?_
              · go_simp
              simp only [Act.put, List.setIfInBounds_toArray, List.set_cons_zero, List.set_cons_succ]
              refine wpAnyIn_done (by kernel_rfl) ?_ _
              gi_wp2
              go_roundw
              case rel => exact ⟨k + 1, by omega, by go_num, HJ3.out, (HB1.out.trans (hSw4.mono HB1.out.size)).trans HK3.out.1, HK3.out.2 Bs (by simp) _ (boxed_below HBR.out hSw4)⟩
              case measure => simp [intOf]; omega
            · have HJX := Lib.hid hJx3
              clear hJx3 hy HR
              simp only []
              refine hKq.out _ _ ?_
              clear hKq Kq
              try simp only [Act.put, List.setIfInBounds_toArray, List.set_cons_zero, List.set_cons_succ]
              refine takeF rfl 11 (.bool true) rfl (by kernel_rfl) (by kernel_rfl) (by kernel_rfl) (fun _ _ _ h => h) rfl (fun _ => rfl) (fun w => ?_) ?_
              · go_simp
              simp only [Act.put, List.setIfInBounds_toArray, List.set_cons_zero, List.set_cons_succ]
              refine wpAnyIn_done (by kernel_rfl) ?_ _
              gi_wp2
              refine bodyPost_ret (results_none rfl _ _ _) rfl ?_
              exact ⟨⟨_, rfl⟩, .inr HJX.out⟩
        · skip
          go_simp
          refine hKq.out _ _ ?_
          clear hKq Kq
          try simp only [Act.put, List.setIfInBounds_toArray, List.set_cons_zero, List.set_cons_succ]
          refine takeF rfl 9 (.slice (some ⟨bb, oo + 62 * k, none⟩) 62 (c - 62 * k)) rfl (by kernel_rfl) (by kernel_rfl) (by kernel_rfl) (fun _ _ _ h => h) rfl (fun _ => rfl) (fun w => ?_) ?_
          · go_simp
          simp only [Act.put, List.setIfInBounds_toArray, List.set_cons_zero, List.set_cons_succ]
          refine oneF 1 (by kernel_rfl) rfl (fun Kq hKq => ?_)
          go_simp
          refine hKq.out _ _ ?_
          clear hKq Kq
          try simp only [Act.put, List.setIfInBounds_toArray, List.set_cons_zero, List.set_cons_succ]
          refine takeF rfl 3 (.slice (some ⟨bb, oo, none⟩) (62 * k) c) rfl (by kernel_rfl) (by kernel_rfl) (by kernel_rfl) (fun _ _ _ h => h) rfl (fun _ => rfl) (fun w => ?_) ?_
          · go_simp
          simp only [Act.put, List.setIfInBounds_toArray, List.set_cons_zero, List.set_cons_succ]
          refine oneF 4 (by kernel_rfl) rfl (fun Kq hKq => ?_)
          go_simp
          refine ⟨trivial, (fun h => by simp [Fence.wide] at h), ?_⟩
          gi_at_call 26
          refine (HHD.out _ hS0).mono ?_
          rintro e w4 ⟨rfl, hb4⟩
          have hSw4 : Below wr.heap.size wr w4 := hS0.trans (hb4.mono hS0.size)
          have hbx : w4.cell? ⟨Bs, 0, none⟩ = some (.slice (some ⟨bb, oo, none⟩) n c) := (boxed_below HBR.out hSw4).cell
          clear hb4
          simp only []
          refine hKq.out _ _ ?_
          clear hKq Kq
          try simp only [Act.put, List.setIfInBounds_toArray, List.set_cons_zero, List.set_cons_succ]
          obtain ⟨fn, tmps, assign, body, hy, hR⟩ := HYY.out _ hSw4
          have HR := Lib.hid hR
          clear hR
          refine oneF 10 (by kernel_rfl) rfl (fun Kq hKq => ?_)
          go_simp
          refine ⟨(fun h => by simp [Fence.wide] at h), HR.out.mono ?_⟩
          rintro e W3 (⟨rfl, hJ3, hk3, -⟩ | ⟨rfl, hJx3, -⟩)
          · have HJ3 := Lib.hid hJ3
            have HK3 := Lib.hid hk3
            clear hJ3 hk3 hy HR
            simp only []
            refine hKq.out _ _ ?_
            clear hKq Kq
            try simp only [Act.put, List.setIfInBounds_toArray, List.set_cons_zero, List.set_cons_succ]
            refine takeF rfl 11 (.bool false) rfl (by kernel_rfl) (by kernel_rfl) (by kernel_rfl) (fun _ _ _ h => h) rfl (fun _ => rfl) (fun w => ?_) ?_
            · go_simp
            simp only [Act.put, List.setIfInBounds_toArray, List.set_cons_zero, List.set_cons_succ]
            refine wpAnyIn_done (by kernel_rfl) ?_ _
            gi_wp2
            go_roundw
            case rel => exact ⟨k + 1, by omega, by go_num, HJ3.out, (HB1.out.trans (hSw4.mono HB1.out.size)).trans HK3.out.1, HK3.out.2 Bs (by simp) _ (boxed_below HBR.out hSw4)⟩
            case measure => simp [intOf]; omega
          · have HJX := Lib.hid hJx3
            clear hJx3 hy HR
            simp only []
            refine hKq.out _ _ ?_
            clear hKq Kq
            try simp only [Act.put, List.setIfInBounds_toArray, List.set_cons_zero, List.set_cons_succ]
            refine takeF rfl 11 (.bool true) rfl (by kernel_rfl) (by kernel_rfl) (by kernel_rfl) (fun _ _ _ h => h) rfl (fun _ => rfl) (fun w => ?_) ?_
            · go_simp
            simp only [Act.put, List.setIfInBounds_toArray, List.set_cons_zero, List.set_cons_succ]
            refine wpAnyIn_done (by kernel_rfl) ?_ _
            gi_wp2
            refine bodyPost_ret (results_none rfl _ _ _) rfl ?_
            exact ⟨⟨_, rfl⟩, .inr HJX.out⟩
      · obtain rfl : k = N := by omega
        gi_wp2
        go_end0
        exact ⟨⟨_, rfl⟩, .inl hJk⟩
end Go.Proofs.YtplfpaclhapldaaDoor

/- The walk over the document's Put of a list of entries: its records and head. -/
namespace Go.Proofs.YtplfpaclhapldaaDoor
set_option maxRecDepth 100000
set_option linter.unusedVariables false
set_option linter.unusedSimpArgs false
open Go.RowKit

theorem results_tct {fn : Func} {p q r : Tmp} {ty : TypeId} (h : fn.results = #[.tmp p, .cell q ty, .tmp r]) (tmps : Array Value) (P : Program) (w : World) (g : Nat) (t : TypeId) (cs : Array Value) (fr : Nat × Nat) (d : TypeDesc)
    (hp : tmps.getD q undef = .pointer (some ⟨g, 0, none⟩)) (hg : w.heap[g]? = some (.cells cs t fr)) (hu : P.underlying ty = some d) (hd : d.isRow = true) (hi : (P.info? ty).map (·.size) = some cs.size) (u v : Value) (hv : tmps.getD p undef = u) (hz : tmps.getD r undef = v) :
    (results fn tmps).run P w = .ok (.tuple #[u, .agg cs, v]) w := by
  have hp' : tmps[q]?.getD undef = .pointer (some ⟨g, 0, none⟩) := by simpa using hp
  have hv' : tmps[p]?.getD undef = u := by simpa using hv
  have hz' : tmps[r]?.getD undef = v := by simpa using hz
  simp [results, h, hp', hv', hz', asAddr, run_loadVar_row w g t ty cs fr d hg hu (by cases d <;> simp_all) hi]
/-- gives bytes, a head, and a bool -/
def GP (L Z : List Int) (b : Bool) (w : World) (e : Ending) (w' : World) : Prop := ∃ A m c, e = .returned (.tuple #[.slice A m c, .agg (idv Z), .bool b]) ∧ Bts w' A m c L ∧ Below w.heap.size w w'
theorem recs_take {l : List En} {k : Nat} {u : En} (h : l[k]? = some u) : recsC (l.take (k + 1)) = recsC (l.take k) ++ putE u ++ linkC (headC (l.take k)) u := by rw [etake_more h, recsC_snoc, List.append_assoc]
theorem recs_byte {l : List En} : ∀ h, ∀ j, 0 ≤ (recsF h l).getD j 0 ∧ (recsF h l).getD j 0 < 256 := by
  induction l with
  | nil => intro h j; simp [recsF]
  | cons u l ih => intro h; rw [recsF]; exact ok_append (put_ok u) (ok_append (csum_byte _) (ih _))
theorem may_take {l : List En} {k : Nat} {u : En} (h : l[k]? = some u) (hm : mayC (l.take k) = true) : mayC (l.take (k + 1)) = mayE u := by rw [etake_more h, mayC_snoc, hm, Bool.true_and]
set_option maxRecDepth 100000 in
set_option maxHeartbeats 1000000 in
theorem rputc_long (A : Option Addr) (n c : Nat) (l : List En) (w : World) (hl : Ens w A n c l) (h : 264 < n) :
    Calls Tryd.prog 11 #[.slice A n c] w (GP [] noughtsC false w) := by
  have hn := hl.small
  have h1 : (264 : Int) < n := by omega
  have HNL := Lib.hid (show noughtsC.length = 32 from rfl)
  have hz0 : RowB (w.alloc (.cells (idv noughtsC) 24)) w.heap.size 24 noughtsC := rowb_lit _ _ _ _ rfl
  have HB0 := Lib.hid (one_alloc w (.cells (idv noughtsC) 24))
  clear hl
  go_enter Tryd.func11, Tryd.ntmps11
  go_wp2_with ((with_reducible refine wpList_store_blk rfl 24 _ _ rfl w.heap.size (idv noughtsC) ?hx7 ?hy7 24 _ (heap_alloc_new w _) (info32 HNL.out) ?hs7 (idv_one _) ?_); (case hx7 => rfl); (case hy7 => rfl); (case hs7 => rfl)
               intro w6 hg6 hX6 hs6)
  refine bodyPost_ret (v := .tuple #[.slice none 0 0, .agg (idv noughtsC), .bool false]) ?_ rfl ⟨none, 0, 0, rfl, Bts.nil _, ?_⟩
  · exact results_tct Tryd.results11 _ _ _ w.heap.size 24 _ (0, 0) _ rfl hX6 Tryd.underlying24 rfl (info32 HNL.out) _ _ rfl rfl
  · exact HB0.out.grown hg6 HB0.out.size (fun k e => by cases e; exact Nat.le_refl _)
theorem own_far {w : World} {b g : Nat} {v : Value} {l : List Int} (h : Own w b v l) (hg : g < b) : v.ownBlock = none ∨ v.ownBlock ≠ some g := by
  cases e : v.ownBlock with
  | none => exact .inl rfl
  | some k =>
    refine .inr (fun h2 => ?_)
    injection h2 with h2
    have := (h.size k e).1
    omega
theorem own_off {w w' : World} {g : Nat} {v : Value} {l : List Int} (h : Own w (g + 1) v l) (hg : w.grownBy w' (some g)) : Own w' (g + 1) v l := h.far hg (own_far h (Nat.lt_succ_self _))
theorem id_load {w : World} {g : Nat} {h : List Int} (hb : RowB w g 24 h) (hl : h.length = 32) {ρ : Operand → Value} {o : Oper} {x : Operand} (ho : o.op = .load 24 x) (hx : ρ x = .pointer (some ⟨g, 0, none⟩)) : (execOp ρ o).run Tryd.prog w = .ok (.value (.agg (idv h))) w := by
  unfold execOp
  simp only [ho, hx, Instr.loadAt, Instr.sureAddr, Sem.run_bind, Sem.run_pure, Result.andThen_ok, run_loadVar_row w g 24 24 (idv h) (0, 0) _ hb.is Tryd.underlying24 rfl (info32 hl)]
theorem step_store_b {P : Program} {ops : Array Oper} {o : Oper} {a : Act} {w : World} {K : Act → World → Prop} {Q : Exit → Act → World → Prop} {E : Prop} (ty : TypeId) (x y : Operand) (ho : o.op = .store ty x y)
    (g : Nat) (m l : List Int) (hx : a.eval x = .pointer (some ⟨g, 0, none⟩)) (hy : a.eval y = .agg (idv m)) (t : TypeId) (hg : RowB w g t l) (hi : (P.info? ty).map (·.size) = some (idv m).size) (hl : l.length = m.length) (hw : Region.wanted o (yielded ops a.tmps) = true)
    (h : ∀ w', w.grownBy w' (some g) → RowB w' g t m → w'.heap.size = w.heap.size → K (a.put o.dst undef) w') : if Region.wanted o (yielded ops a.tmps) = true then Oper.wp P o a w K Q else E := by
  rw [if_pos hw]
  exact wp_store_row ty x y ho g (idv m) hx hy t (idv l) hg hi (by rw [idv_size, idv_size, hl]) (idv_one m) (h _ (grown_setRow _ _ _) (hg.all m) (by simp))
set_option maxRecDepth 100000 in
set_option maxHeartbeats 4000000 in
theorem rputc_short (A : Option Addr) (n c : Nat) (l : List En) (w : World) (hl : Ens w A n c l) (ho : ∀ u ∈ l, u.ok) (h264 : n ≤ 264) :
    Calls Tryd.prog 11 #[.slice A n c] w (GP (if mayC l then recsC l else []) (if mayC l then headC l else noughtsC) (mayC l) w) := by
  have hn := hl.small
  have h1 : (n : Int) ≤ 264 := by omega
  have HL := Lib.hid hl
  have HLL := Lib.hid hl.len
  have HO := Lib.hid ho
  have hal := run_all32
  have HHD := Lib.hid (show ∀ W : World, Calls Tryd.prog 22 #[.slice none 0 0] W (fun e w' => e = .returned (.agg (idv startC)) ∧ Below W.heap.size W w') from fun W => rheadc_any none 0 0 [] W (Ens.nil W) rfl (fun u hu => by cases hu))
  have HSL := Lib.hid (show startC.length = 32 from csum_len [0])
  have HNL := Lib.hid (show noughtsC.length = 32 from rfl)
  obtain ⟨MC, hMC⟩ : ∃ M, mayC l = M := ⟨_, rfl⟩
  obtain ⟨RC, hRC⟩ : ∃ R, (if mayC l = true then recsC l else []) = R := ⟨_, rfl⟩
  obtain ⟨ZC, hZC⟩ : ∃ Z, (if mayC l = true then headC l else noughtsC) = Z := ⟨_, rfl⟩
  rw [hRC, hZC, hMC]
  rw [hMC] at hRC hZC
  have HMC := Lib.hid hMC
  have HRC := Lib.hid hRC
  have HZC := Lib.hid hZC
  clear hl ho hMC hRC hZC
  go_enter Tryd.func11, Tryd.ntmps11
  go_wp2_with (first
    | (go_at_call 22; (with_reducible refine (HHD.out _).mono ?_); rintro e w1 ⟨rfl, hb1⟩
       obtain ⟨hb0, -, hz1⟩ := after_one hb1
       have hz1 : RowB w1 w.heap.size 24 noughtsC := hz1
       have HB1 := Lib.hid hb0
       clear hb1 hb0)
    | ((with_reducible refine wpList_store_blk rfl 24 _ _ rfl w1.heap.size (idv startC) ?hx2 ?hy2 24 _ (heap_alloc_new w1 _) (info32 HSL.out) ?hs2 (idv_one _) ?_); (case hx2 => rfl); (case hy2 => rfl); (case hs2 => rw [idv_size, HSL.out]; rfl)
       intro w2 hg2 hX2 hs2
       have hb2 : Below w1.heap.size w1 w2 := Below.grows (one_alloc w1 _) hg2 (size_le_alloc _ _) (Nat.le_refl _)
       have hz2 := hz1.keep hb2
       have hX2 : RowB w2 w1.heap.size 24 startC := hX2
       have HB2 := Lib.hid (HB1.out.trans (hb2.mono HB1.out.size))
       clear hb2 hg2 hs2))
  have hg3 : w.heap.size < w1.heap.size := hz1.lt
  clear hz1
  go_loopw [5, 7, 8, 9, 10, 11] (fun v i x y z t wr => ∃ k : Nat, k ≤ n ∧ i = .int .i64 k ∧ mayC (l.take k) = true ∧ Own wr (w1.heap.size + 1) v (recsC (l.take k)) ∧ RowB wr w1.heap.size 24 (headC (l.take k)) ∧ RowB wr w.heap.size 24 noughtsC ∧ Below w.heap.size w wr) (fun _ i _ _ _ _ _ => n - (intOf i).toNat)
  case atStart => exact ⟨0, by omega, rfl, rfl, Own.nil _ _, hX2, hz2, HB2.out⟩
  case round =>
    clear hX2 hz2
    obtain ⟨k, hk, rfl, hmk, hown, hX, hz, hB⟩ := hrel
    by_cases hlt : k < n
    · obtain ⟨b, off, u, rfl, hu, hr⟩ := (HL.out.below hB).range k hlt
      have hou := HO.out u (List.mem_of_getElem? hu)
      have hmx := may_take hu hmk
      have HNX := Lib.hid (head_take hu)
      have HRX := Lib.hid (recs_take hu)
      obtain ⟨R, hR⟩ : ∃ R, recsC (l.take k) = R := ⟨_, rfl⟩
      obtain ⟨h, hh⟩ : ∃ h, headC (l.take k) = h := ⟨_, rfl⟩
      have hhl : h.length = 32 := by rw [← hh]; exact headC_len _
      have hhb : ∀ j, 0 ≤ h.getD j 0 ∧ h.getD j 0 < 256 := by rw [← hh]; exact headC_byte _
      have HRL := Lib.hid (show R.length ≤ 62 * 264 by rw [← hR, recsC, recsF_len, List.length_take]; omega)
      rw [hh] at hX
      rw [hR] at hown
      have HNX := Lib.hid (show headC (l.take (k + 1)) = linkC h u by rw [HNX.out, hh])
      have HRX := Lib.hid (show recsC (l.take (k + 1)) = R ++ putE u ++ linkC h u by rw [HRX.out, hh, hR])
      obtain ⟨X, hXe⟩ : ∃ X, linkP h u = X := ⟨_, rfl⟩
      have HXL := Lib.hid (show X.length = 32 by rw [← hXe]; exact linkP_len _ _)
      have HXB := Lib.hid (show ∀ j, 0 ≤ X.getD j 0 ∧ X.getD j 0 < 256 by rw [← hXe]; exact linkP_byte _ _)
      have HPE := Lib.hid (fun W => erput_own u W hou)
      have HLK := Lib.hid (fun W => rlink_any h u W hhl hhb hou)
      have HXE := Lib.hid (show mayE u = true → linkC h u = X from fun e => by rw [← hXe, linkP, if_pos e])
      have HPB := Lib.hid (put_ok u)
      have HPL := Lib.hid (put_len u)
      rw [hXe] at HLK
      obtain ⟨M, hM⟩ : ∃ M, mayE u = M := ⟨_, rfl⟩
      rw [hM] at HPE HLK HXE hmx
      have HMX := Lib.hid hmx
      have HHL := Lib.hid hhl
      have HHB := Lib.hid hhb
      unfold enV at HPE HLK
      obtain ⟨P, hP⟩ : ∃ P, (if M = true then putE u else []) = P := ⟨_, rfl⟩
      rw [hP] at HPE
      have HPP := Lib.hid hP
      have q0 : 0 ≤ (k : Int) := by omega
      have q1 : (k : Int) < n := by omega
      have HBr := Lib.hid hB
      have HLT1 := Lib.hid hX.lt
      have HMK := Lib.hid hmk
      have HUU := Lib.hid hu
      clear hu hou hh hhl hhb hXe hM hmx hP hR hB hmk
      go_wp2_with (first
        | ((with_reducible refine wpList_load_on 28 _ rfl b (off + k * 9) ?hx1 u.row (enA u) ?ht1 _ hr Tryd.underlying28 ?hd1 ?hi1 ?_ ?hw1); (case hx1 => rfl); (case ht1 => rfl); (case hd1 => rfl); (case hi1 => exact info_en (enA_size u)); (case hw1 => rfl))
        | (go_at_call 27; (with_reducible refine (HPE.out _).mono ?_); rintro e w3 ⟨A1, m1, c1, rfl, hbt1, hop1, hb1⟩
           have hX1 := hX.keep hb1
           have hz1 := hz.keep hb1
           have hr1 := rangeAt_below hr hb1
           have hown1 := (hown.below hb1)
           have HB1 := Lib.hid (HBr.out.trans (hb1.mono HBr.out.size))
           have HS1 := Lib.hid (Nat.le_trans (Nat.succ_le_of_lt HLT1.out) hb1.size)
           have hop1 := hop1.mono (Nat.succ_le_of_lt HLT1.out)
           clear hb1 hX hz hr hown))
      have KX := Lib.hid (show ∀ w', Below w3.heap.size w3 w' → RowB w' w1.heap.size 24 h from fun w' h => hX1.keep h)
      have KZ := Lib.hid (show ∀ w', Below w3.heap.size w3 w' → RowB w' w.heap.size 24 noughtsC from fun w' h => hz1.keep h)
      have KR := Lib.hid (show ∀ w', Below w3.heap.size w3 w' → w'.rangeAt b (off + k * 9) u.row from fun w' h => rangeAt_below hr1 h)
      have KP := Lib.hid (show ∀ w', Below w3.heap.size w3 w' → Bts w' A1 m1 c1 P from fun w' h => hbt1.below h)
      have KO := Lib.hid (show ∀ w', Below w3.heap.size w3 w' → Own w' (w1.heap.size + 1) u5 R from fun w' h => hown1.below h)
      have KQ := Lib.hid (show ∀ w', Below w3.heap.size w3 w' → Own w' (w1.heap.size + 1) (.slice A1 m1 c1) P from fun w' h => hop1.below h)
      clear hX1 hz1 hr1 hbt1 hown1 hop1
      obtain ⟨Y0, hY0⟩ : ∃ Y, w3.drew = Y := ⟨_, rfl⟩
      have hSd : (fun w' => Below w3.heap.size w3 w') Y0 := by rw [← hY0]; exact (Below.refl _ w3).drew
      refine wp_region_held_drew (S := (fun w' => Below w3.heap.size w3 w')) (by kernel_rfl) (by rw [hY0]; exact hSd) (fun hHeld => ?_)
      rw [hY0] at hHeld ⊢
      clear hY0
      refine take_if 0 (.agg (idv h)) rfl (by kernel_rfl) (by kernel_rfl) (by kernel_rfl) (fun _ _ _ h => h) rfl hHeld (fun w' hw' => ?_) ?_
      · exact id_load (KX.out _ hw') HHL.out rfl rfl
      simp only [Act.put, List.setIfInBounds_toArray, List.set_cons_zero, List.set_cons_succ]
      refine take_move 1 (.tmp 0) (.slice (some ⟨b, off, none⟩) n c) rfl rfl rfl (by kernel_rfl) (by kernel_rfl) (by kernel_rfl) (fun _ _ _ h => h) rfl hHeld ?_
      simp only [Act.put, List.setIfInBounds_toArray, List.set_cons_zero, List.set_cons_succ]
      refine take_move 2 (.tmp 7) (.int .i64 k) rfl rfl rfl (by kernel_rfl) (by kernel_rfl) (by kernel_rfl) (fun _ _ _ h => h) rfl hHeld ?_
      simp only [Act.put, List.setIfInBounds_toArray, List.set_cons_zero, List.set_cons_succ]
      refine take_run 3 (.pointer (some ⟨b, off + k * 9, none⟩)) rfl (by kernel_rfl) (by kernel_rfl) (by kernel_rfl) (fun _ _ _ h => h) rfl hHeld (fun w => ?_) ?_
      · go_simp
      simp only [Act.put, List.setIfInBounds_toArray, List.set_cons_zero, List.set_cons_succ]
      refine take_if 4 (.agg (enA u)) rfl (by kernel_rfl) (by kernel_rfl) (by kernel_rfl) (fun _ _ _ h => h) rfl hHeld (fun w' hw' => ?_) ?_
      · exact run_load_en rfl rfl (KR.out _ hw')
      simp only [Act.put, List.setIfInBounds_toArray, List.set_cons_zero, List.set_cons_succ]
      refine two_steps 5 9 (by kernel_rfl) rfl rfl (fun Kq hKq => ?_) (fun Kq hKq => ?_)
      go_simp
      go_at_call 13
      refine (HLK.out _).mono ?_
      rintro e w4 ⟨rfl, hb4⟩
      have hS4 : Below w3.heap.size w3 w4 := hSd.trans (hb4.mono hSd.size)
      refine hKq.out _ _ hS4 (fun hHeld0 => ?_)
      clear hKq Kq hHeld hb4
      have hHeld := hHeld0
      clear hHeld0
      try simp only [Act.put, List.setIfInBounds_toArray, List.set_cons_zero, List.set_cons_succ]
      refine take_run 6 (.tuple #[.agg (idv X), .bool M]) rfl (by kernel_rfl) (by kernel_rfl) (by kernel_rfl) (fun _ _ _ h => h) rfl hHeld (fun w => ?_) ?_
      · go_simp
      simp only [Act.put, List.setIfInBounds_toArray, List.set_cons_zero, List.set_cons_succ]
      refine take_run 7 (.agg (idv X)) rfl (by kernel_rfl) (by kernel_rfl) (by kernel_rfl) (fun _ _ _ h => h) rfl hHeld (fun w => ?_) ?_
      · go_simp
      simp only [Act.put, List.setIfInBounds_toArray, List.set_cons_zero, List.set_cons_succ]
      refine take_run 8 (.bool M) rfl (by kernel_rfl) (by kernel_rfl) (by kernel_rfl) (fun _ _ _ h => h) rfl hHeld (fun w => ?_) ?_
      · go_simp
      simp only [Act.put, List.setIfInBounds_toArray, List.set_cons_zero, List.set_cons_succ]
      refine one_step 9 (by kernel_rfl) rfl (fun Kq hKq => ?_)
      have hz4 : RowB (w4.alloc (.cells (idv noughtsC) 24)) w4.heap.size 24 noughtsC := rowb_lit _ _ _ _ rfl
      have hS5 : Below w3.heap.size w3 (w4.alloc (.cells (idv noughtsC) 24)) := hS4.alloc hS4.size _
      go_simp
      refine hKq.out _ _ hS5 (fun hHeld0 => ?_)
      clear hKq Kq hHeld 
      have hHeld := hHeld0
      clear hHeld0
      try simp only [Act.put, List.setIfInBounds_toArray, List.set_cons_zero, List.set_cons_succ]
      refine one_step 10 (by kernel_rfl) rfl (fun Kq hKq => ?_)
      refine step_store_b 24 _ _ rfl w4.heap.size X noughtsC rfl rfl 24 hz4 (info32 HXL.out) (by rw [HXL.out]; rfl) rfl ?_
      intro wM hgM hXM hsM
      have hgx : w3.heap.size ≤ w4.heap.size := hS4.size
      have hSM : Below w3.heap.size w3 wM := hS5.grown hgM hS5.size (fun q e => by cases e; exact hgx)
      refine hKq.out _ _ hSM (fun hHeld0 => ?_)
      clear hKq Kq hHeld 
      have hHeld := hHeld0
      clear hHeld0
      try simp only [Act.put, List.setIfInBounds_toArray, List.set_cons_zero, List.set_cons_succ]
      refine take_run 11 (.bool M) rfl (by kernel_rfl) (by kernel_rfl) (by kernel_rfl) (fun _ _ _ h => h) rfl hHeld (fun w => ?_) ?_
      · go_simp
      simp only [Act.put, List.setIfInBounds_toArray, List.set_cons_zero, List.set_cons_succ]
      refine wpAnyH_done (by kernel_rfl) ?_ _
      obtain ⟨gx, hgxe⟩ : ∃ q, w4.heap.size = q := ⟨_, rfl⟩
      rw [hgxe] at hXM hgx ⊢
      clear hgxe hHeld hgM hsM
      rotate_left
      have hz4 : RowB (Y0.alloc (.cells (idv noughtsC) 24)) Y0.heap.size 24 noughtsC := rowb_lit _ _ _ _ rfl
      have hS5 : Below w3.heap.size w3 (Y0.alloc (.cells (idv noughtsC) 24)) := hSd.alloc hSd.size _
      go_simp
      refine hKq.out _ _ hS5 (fun hHeld0 => ?_)
      clear hKq Kq hHeld 
      have hHeld := hHeld0
      clear hHeld0
      try simp only [Act.put, List.setIfInBounds_toArray, List.set_cons_zero, List.set_cons_succ]
      refine one_step 5 (by kernel_rfl) rfl (fun Kq hKq => ?_)
      go_simp
      go_at_call 13
      refine (HLK.out _).mono ?_
      rintro e w4 ⟨rfl, hb4⟩
      have hz6 := hz4.keep hb4
      have hS6 : Below w3.heap.size w3 w4 := hS5.trans (hb4.mono hS5.size)
      refine hKq.out _ _ hS6 (fun hHeld0 => ?_)
      clear hKq Kq hHeld hb4
      have hHeld := hHeld0
      clear hHeld0
      try simp only [Act.put, List.setIfInBounds_toArray, List.set_cons_zero, List.set_cons_succ]
      refine take_run 6 (.tuple #[.agg (idv X), .bool M]) rfl (by kernel_rfl) (by kernel_rfl) (by kernel_rfl) (fun _ _ _ h => h) rfl hHeld (fun w => ?_) ?_
      · go_simp
      simp only [Act.put, List.setIfInBounds_toArray, List.set_cons_zero, List.set_cons_succ]
      refine take_run 7 (.agg (idv X)) rfl (by kernel_rfl) (by kernel_rfl) (by kernel_rfl) (fun _ _ _ h => h) rfl hHeld (fun w => ?_) ?_
      · go_simp
      simp only [Act.put, List.setIfInBounds_toArray, List.set_cons_zero, List.set_cons_succ]
      refine take_run 8 (.bool M) rfl (by kernel_rfl) (by kernel_rfl) (by kernel_rfl) (fun _ _ _ h => h) rfl hHeld (fun w => ?_) ?_
      · go_simp
      simp only [Act.put, List.setIfInBounds_toArray, List.set_cons_zero, List.set_cons_succ]
      refine one_step 10 (by kernel_rfl) rfl (fun Kq hKq => ?_)
      refine step_store_b 24 _ _ rfl Y0.heap.size X noughtsC rfl rfl 24 hz6 (info32 HXL.out) (by rw [HXL.out]; rfl) rfl ?_
      intro wM hgM hXM hsM
      have hgx : w3.heap.size ≤ Y0.heap.size := hSd.size
      have hSM : Below w3.heap.size w3 wM := hS6.grown hgM hS6.size (fun q e => by cases e; exact hgx)
      refine hKq.out _ _ hSM (fun hHeld0 => ?_)
      clear hKq Kq hHeld 
      have hHeld := hHeld0
      clear hHeld0
      try simp only [Act.put, List.setIfInBounds_toArray, List.set_cons_zero, List.set_cons_succ]
      refine take_run 11 (.bool M) rfl (by kernel_rfl) (by kernel_rfl) (by kernel_rfl) (fun _ _ _ h => h) rfl hHeld (fun w => ?_) ?_
      · go_simp
      simp only [Act.put, List.setIfInBounds_toArray, List.set_cons_zero, List.set_cons_succ]
      refine wpAnyH_done (by kernel_rfl) ?_ _
      obtain ⟨gx, hgxe⟩ : ∃ q, Y0.heap.size = q := ⟨_, rfl⟩
      rw [hgxe] at hXM hgx ⊢
      clear hgxe hHeld hgM hsM
      all_goals
        cases M with
        | false =>
          have hf : mayC l = false := mayC_part HMX.out
          have hMf : MC = false := HMC.out.symm.trans hf
          have hRf : RC = [] := by have := HRC.out; rw [hMf] at this; simpa using this.symm
          have hZf : ZC = noughtsC := by have := HZC.out; rw [hMf] at this; simpa using this.symm
          subst hMf hRf hZf
          have hzM := KZ.out _ hSM
          have HSMh := Lib.hid (HB1.out.trans (hSM.mono HB1.out.size))
          clear hSM
          go_wp2_with ((with_reducible refine wpList_store_blk rfl 24 _ _ rfl w.heap.size (idv noughtsC) ?hx7 ?hy7 24 _ hzM.is (info32 HNL.out) ?hs7 (idv_one _) ?_); (case hx7 => rfl); (case hy7 => rfl); (case hs7 => rfl)
                       intro w6 hg6 hX6 hs6)
          refine bodyPost_ret (v := .tuple #[.slice none 0 0, .agg (idv noughtsC), .bool false]) ?_ rfl ⟨none, 0, 0, rfl, Bts.nil _, ?_⟩
          · exact results_tct Tryd.results11 _ _ _ w.heap.size 24 _ (0, 0) _ rfl hX6 Tryd.underlying24 rfl (info32 HNL.out) _ _ rfl rfl
          · exact HSMh.out.grown hg6 HSMh.out.size (fun k e => by cases e; exact Nat.le_refl _)
        | true =>
          have hPe : putE u = P := by have := HPP.out; simpa using this
          have hXM1 := KX.out _ hSM
          have hzM := KZ.out _ hSM
          have hoM := KO.out _ hSM
          have hqM := KQ.out _ hSM
          have HBM := Lib.hid (HB1.out.trans (hSM.mono HB1.out.size))
          have HPl := Lib.hid (show P.length = 30 by rw [← hPe]; exact put_len u)
          have HPok := Lib.hid (show ∀ j, 0 ≤ P.getD j 0 ∧ P.getD j 0 < 256 by rw [← hPe]; exact put_ok u)
          have HPe := Lib.hid hPe
          clear hSM hgx hPe
          go_wp2_with (first
            | ((with_reducible refine wpList_load_blk 24 _ rfl gx ?hx8 24 (idv X) (0, 0) _ hXM.is Tryd.underlying24 ?hd8 (info32 HXL.out) ?_ ?hw8); (case hx8 => rfl); (case hd8 => rfl); (case hw8 => rfl))
            | ((with_reducible refine wpList_store_blk rfl 24 _ _ rfl w1.heap.size (idv X) ?hx7 ?hy7 24 _ hXM1.is (info32 HXL.out) ?hs7 (idv_one _) ?_); (case hx7 => rfl); (case hy7 => rfl); (case hs7 => rw [idv_size, idv_size, HXL.out, HHL.out])
               intro w6 hg6 hX6 hs6
               have hX6 : RowB w6 w1.heap.size 24 X := hX6
               have hz6 := rowb_grown hzM hg6 (by omega)
               have ho6 := own_off hoM hg6
               have hq6 := own_off hqM hg6
               have hbq6 : Bts w6 A1 m1 c1 P := by obtain ⟨A, n, c, he, hb⟩ := hq6.slice HPok.out; cases he; exact hb
               have HB6 := Lib.hid (HBM.out.grown hg6 HBM.out.size (fun k e => by cases e; omega))
               have HS6 := Lib.hid (show w1.heap.size + 1 ≤ w6.heap.size from hX6.lt)
               clear hg6 hs6 hzM hoM hqM hXM hXM1)
            | (at_builtin
               refine wpList_append_b rfl _ _ rfl (w1.heap.size + 1) u5 R rfl ho6 A1 m1 c1 P rfl hbq6 (by have := HRL.out; have := HPl.out; have := hbq6.len; omega) HS6.out ?_
               intro v7 w7 ho7 hg7
               have hb7 : Below (w1.heap.size + 1) w6 w7 := (Below.refl _ w6).grown hg7 HS6.out (fun g e => (ho6.size g e).1)
               have ho7 : Own w7 (w1.heap.size + 1) v7 (R ++ P) := ho7
               have hX7 : RowB w7 w1.heap.size 24 X := hX6.below hb7 (Nat.lt_succ_self _)
               have hz7 := hz6.below hb7 (Nat.lt_succ_of_lt hg3)
               have HB7 := Lib.hid (HB6.out.trans (hb7.mono (Nat.le_of_lt (Nat.lt_succ_of_lt hg3))))
               have HS7 := Lib.hid (show w1.heap.size + 1 ≤ w7.heap.size from hX7.lt)
               clear hg7 hb7 hX6 hz6 ho6 hq6 hbq6)
            | (at_builtin
               refine wpList_append_b rfl _ _ rfl (w1.heap.size + 1) v7 (R ++ P) rfl ho7 (some ⟨w1.heap.size, 0, none⟩) 32 32 X rfl (hX7.btsAt HXL.out (by unfold maxLen; omega) HXB.out) (by have := HRL.out; have := HPl.out; rw [List.length_append]; omega) HS7.out ?_
               intro v8 w8 ho8 hg8
               have hb8 : Below (w1.heap.size + 1) w7 w8 := (Below.refl _ w7).grown hg8 HS7.out (fun g e => (ho7.size g e).1)
               have ho8 : Own w8 (w1.heap.size + 1) v8 ((R ++ P) ++ X) := ho8
               have hX8 : RowB w8 w1.heap.size 24 X := hX7.below hb8 (Nat.lt_succ_self _)
               have hz8 := hz7.below hb8 (Nat.lt_succ_of_lt hg3)
               have HB8 := Lib.hid (HB7.out.trans (hb8.mono (Nat.le_of_lt (Nat.lt_succ_of_lt hg3))))
               clear hg8 hb8 hX7 hz7 ho7))
          go_roundw
          case rel => exact ⟨k + 1, by omega, by go_num, HMX.out, by rw [HRX.out, HPe.out, HXE.out rfl]; exact ho8, by rw [HNX.out, HXE.out rfl]; exact hX8, hz8, HB8.out⟩
          case measure => simp [intOf]; omega
    · have hkn : k = n := by omega
      rw [hkn, List.take_of_length_le (by rw [HLL.out]; exact Nat.le_refl _)] at hmk hown hX
      have hMf : MC = true := HMC.out.symm.trans hmk
      have hRf : RC = recsC l := by have := HRC.out; rw [hMf] at this; simpa using this.symm
      have hZf : ZC = headC l := by have := HZC.out; rw [hMf] at this; simpa using this.symm
      rw [← hRf] at hown
      rw [← hZf] at hX
      subst hMf
      have HROK := Lib.hid (show ∀ j, 0 ≤ RC.getD j 0 ∧ RC.getD j 0 < 256 by rw [hRf]; exact recs_byte _)
      have HZL := Lib.hid (show ZC.length = 32 by rw [hZf]; exact headC_len _)
      have HBr := Lib.hid hB
      clear hB hmk hRf hZf
      go_wp2
      have hzd := hz.draw1
      refine wp_region_held_drew (S := (fun w' => RowB w' w1.heap.size 24 ZC ∧ Below w.heap.size w w' ∧ Own w' (w1.heap.size + 1) u5 RC)) (by kernel_rfl) ⟨hX.draw1, HBr.out.drew, hown.draw1⟩ (fun hHeld => ?_)
      have hSd := hHeld
      clear hX hz hown
      refine take_move 0 (.tmp 5) (u5) rfl rfl rfl (by kernel_rfl) (by kernel_rfl) (by kernel_rfl) (fun _ _ _ h => h) rfl hHeld ?_
      simp only [Act.put, List.setIfInBounds_toArray, List.set_cons_zero, List.set_cons_succ]
      refine take_if 1 (.agg (idv ZC)) rfl (by kernel_rfl) (by kernel_rfl) (by kernel_rfl) (fun _ _ _ h => h) rfl hHeld (fun w' hw' => ?_) ?_
      · exact id_load hw'.1 HZL.out rfl rfl
      simp only [Act.put, List.setIfInBounds_toArray, List.set_cons_zero, List.set_cons_succ]
      refine take_run 2 (u5) rfl (by kernel_rfl) (by kernel_rfl) (by kernel_rfl) (fun _ _ _ h => h) rfl hHeld (fun w => ?_) ?_
      · go_simp
      simp only [Act.put, List.setIfInBounds_toArray, List.set_cons_zero, List.set_cons_succ]
      refine one_step 3 (by kernel_rfl) rfl (fun Kq hKq => ?_)
      refine step_store_b 24 _ _ rfl w.heap.size ZC noughtsC rfl rfl 24 hzd (info32 HZL.out) (by rw [HZL.out]; rfl) rfl ?_
      intro wM hgM hXM hsM
      have hSM : RowB wM w1.heap.size 24 ZC ∧ Below w.heap.size w wM ∧ Own wM (w1.heap.size + 1) u5 RC := ⟨rowb_grown hSd.1 hgM (by omega), hSd.2.1.grown hgM hSd.2.1.size (fun q e => by cases e; exact Nat.le_refl _), hSd.2.2.far hgM (own_far hSd.2.2 (by omega))⟩
      refine hKq.out _ _ hSM (fun hHeld0 => ?_)
      clear hKq Kq hHeld
      have hHeld := hHeld0
      clear hHeld0
      try simp only [Act.put, List.setIfInBounds_toArray, List.set_cons_zero, List.set_cons_succ]
      refine take_run 4 (.bool true) rfl (by kernel_rfl) (by kernel_rfl) (by kernel_rfl) (fun _ _ _ h => h) rfl hHeld (fun w => ?_) ?_
      · go_simp
      simp only [Act.put, List.setIfInBounds_toArray, List.set_cons_zero, List.set_cons_succ]
      refine wpAnyH_done (by kernel_rfl) ?_ _
      obtain ⟨A9, n9, c9, rfl, hbt9⟩ := hSM.2.2.slice HROK.out
      go_wp2
      refine bodyPost_ret (v := .tuple #[.slice A9 n9 c9, .agg (idv ZC), .bool true]) ?_ rfl ⟨A9, n9, c9, rfl, hbt9, hSM.2.1⟩
      exact results_tct Tryd.results11 _ _ _ w.heap.size 24 _ (0, 0) _ rfl hXM Tryd.underlying24 rfl (info32 HZL.out) _ _ rfl rfl
theorem rputc_any (A : Option Addr) (n c : Nat) (l : List En) (w : World) (hl : Ens w A n c l) (ho : ∀ u ∈ l, u.ok) :
    Calls Tryd.prog 11 #[.slice A n c] w (GP (if putC l then recsC l else []) (if putC l then headC l else noughtsC) (putC l) w) := by
  have hlen := hl.len
  by_cases h : n ≤ 264
  · have e : putC l = mayC l := by rw [putC, decide_eq_true (by omega), Bool.true_and]
    rw [e]
    exact rputc_short A n c l w hl ho h
  · have e : putC l = false := by rw [putC, decide_eq_false (by omega), Bool.false_and]
    rw [e]
    exact rputc_long A n c l w hl (by omega)
end Go.Proofs.YtplfpaclhapldaaDoor
