/- Joined texts: The walks over package frame's isWhole and Body, and the library's bytes.Equal and bytes.Clone. A range over a function whose values are known ahead, in order: the k-th round is asked at the k-th value alone. Bytes as frames, one behind the other; the walk over package frame's frames. The walk over the document's answer told: how many bytes the first frame has. The walk over package frame's Split: the frames of bytes, and what is left. -/
import Derived.Test.YtncedbjbooemjaaFtJD
import Derived.Lib.SliceRun
import Derived.Test.YtncedbjbooemjaaFtJA
import Derived.RangeFuncNested
import Derived.RangeFuncBound
import Derived.RangeFuncCalls
import Derived.RangeFuncLeaves
import Derived.RangeFuncBox
import Derived.Shelf.Abstract
import Derived.OwnWalkIn
import Derived.TacticsInMore
import Derived.LoopNIn
import Derived.LoopIn
import Derived.BigQuiet
import Derived.Test.YtncedbjbooemjaaFtJB
import Derived.Shelf.RegionOpen
/- The walks over package frame's isWhole and Body, and the library's bytes.Equal and bytes.Clone. -/
namespace Go.Proofs.Ytncedbjbooemjaa
set_option linter.unusedVariables false
set_option linter.unusedSimpArgs false
open Go.RowKit

/-- do as many bytes follow as the first two tell? -/
def wholeB (l : List Int) : Bool := decide (2 ≤ l.length ∧ numL (l.take 2) + 2 ≤ l.length)
theorem two_small {l : List Int} (h : ∀ j, 0 ≤ l.getD j 0 ∧ l.getD j 0 < 256) : numL (l.take 2) < 65536 := by
  have h1 := numL_bound (l.take 2) (fun x hx => mem_ok h x (List.mem_of_mem_take hx))
  refine Nat.lt_of_lt_of_le h1 ?_
  have : (256 : Nat) ^ (l.take 2).length ≤ 256 ^ 2 := Nat.pow_le_pow_right (by omega) (by rw [List.length_take]; omega)
  exact this
set_option maxHeartbeats 1000000 in
theorem whole_any (A : Option Addr) (n c : Nat) (l : List Int) (w : World) (hb : Bts w A n c l) :
    Calls Try.prog 26 #[.slice A n c] w fun e w' => e = .returned (.bool (wholeB l)) ∧ w = w' := by
  have hn := hb.small
  by_cases h : 2 ≤ n
  · have hg := get_at A n c l 0 2 0 2 w rfl rfl hb (by omega) (by omega) (by omega)
    have hx := two_small hb.ok
    rw [List.drop_zero] at hg
    obtain ⟨x, hxe⟩ : ∃ x, numL (l.take 2) = x := ⟨_, rfl⟩
    rw [hxe] at hg hx
    have hx' : (x : Int) < 65536 := by omega
    have k1 : decide ((x : Int) ≤ (n : Int) - 2) = wholeB l := by
      unfold wholeB
      rw [hxe, hb.len, Bool.eq_iff_iff]
      simp only [decide_eq_true_eq]
      omega
    have h2 : (2 : Int) ≤ n := by omega
    have K1 := Lib.hid k1
    have HG := Lib.hid hg
    clear hg hxe k1 hx h hb
    go_enter Try.func26, Try.ntmps26
    go_wp2_with (go_at_call 38; (with_reducible refine HG.out.mono ?_); rintro e w2 ⟨rfl, rfl⟩)
    go_ret
    exact ⟨ret_bool K1.out, rfl⟩
  · have hg := get_no A n c l 0 2 w hb (by omega) (by omega) (by omega) (by omega) (by unfold mayGet; rw [decide_eq_false_iff_not]; omega)
    have k1 : false = wholeB l := by
      unfold wholeB
      rw [hb.len, eq_comm, decide_eq_false_iff_not]
      omega
    have K1 := Lib.hid k1
    have HG := Lib.hid hg
    clear hg k1 hb
    go_enter Try.func26, Try.ntmps26
    go_wp2_with (go_at_call 38; (with_reducible refine HG.out.mono ?_); rintro e w2 ⟨rfl, rfl⟩)
    go_ret
    exact ⟨ret_bool K1.out, rfl⟩
theorem equal_any (A B : Option Addr) (n c m d : Nat) (a b : List Int) (w : World) (ha : Bts w A n c a) (hb : Bts w B m d b) :
    Calls Try.prog 28 #[.slice A n c, .slice B m d] w fun e w' => e = .returned (.bool (a == b)) ∧ w = w' := by
  have k1 := conv_bts ha
  have k2 := conv_bts hb
  have k3 := run_eq_bstr a b ha.ok hb.ok
  obtain ⟨x, hx⟩ : ∃ x, bstr a = x := ⟨_, rfl⟩
  obtain ⟨y, hy⟩ : ∃ x, bstr b = x := ⟨_, rfl⟩
  rw [hx] at k1 k3
  rw [hy] at k2 k3
  have K3 := Lib.hid k3
  clear k3 hx hy ha hb
  go_enter Try.func28, Try.ntmps28
  go_wp2
  go_ret
  exact ⟨ret_bool K3.out, rfl⟩
theorem none_own (w : World) : Own (w.alloc (.cells #[] 5)) w.heap.size (.slice (some ⟨w.heap.size, 0, none⟩) 0 0) [] :=
  ⟨rfl, .inr ⟨w.heap.size, 0, #[], rfl, Nat.le_refl _, heap_alloc_new w _, Nat.le_refl _, by unfold maxLen; omega, rfl, rfl⟩⟩
set_option maxHeartbeats 1000000 in
theorem clone_any (A : Option Addr) (n c : Nat) (l : List Int) (w : World) (hb : Bts w A n c l) (hsm : n ≤ 140737488355328) :
    Calls Try.prog 34 #[.slice A n c] w fun e w' => ∃ v, e = .returned v ∧ Own w' w.heap.size v l ∧ Below w.heap.size w w' := by
  have q22 : ∀ (w : World) (a : Option Addr) (n c n' c' : Nat), (binOp .eql 27 (.slice a n c) (.slice none n' c')).run Try.prog w = .ok (.bool a.isNone) w := fun w a n c n' c' => Lib.run_eql_slice_nil w _ _ a n c n' c' Try.underlying27
  cases A with
  | none =>
    have h0 := hb.bare rfl
    have hn : n = 0 := by have := hb.le; omega
    have hl : l = [] := List.eq_nil_of_length_eq_zero (hb.len.trans hn)
    have HL := Lib.hid hl
    clear hl hb h0
    go_enter Try.func34, Try.ntmps34
    go_wp2
    go_ret
    exact ⟨_, rfl, by rw [HL.out]; exact Own.nil _ _, Below.refl _ _⟩
  | some a =>
    have hb1 := hb.more (.cells #[] 5)
    go_enter Try.func34, Try.ntmps34
    go_wp2_with (at_builtin
                 refine wpList_append_b rfl _ _ rfl w.heap.size _ [] rfl (none_own w) _ n c l rfl hb1 (by simp; omega) (size_le_alloc _ _) ?_
                 intro v5 w5 hown5 hg5
                 rw [List.nil_append] at hown5
                 have hB5 : Below w.heap.size w w5 := (one_alloc w _).grown hg5 (size_le_alloc _ _) (fun k hk => by cases hk; exact Nat.le_refl _)
                 clear hg5)
    go_ret
    exact ⟨_, rfl, hown5, hB5⟩
/-- what a frame's tag is of -/
def bodyF (f : Fr) : List Int := if plainB f && tagK f.kind.toNat then frontF f else []
theorem bodyF_ok (f : Fr) : ∀ j, 0 ≤ (bodyF f).getD j 0 ∧ (bodyF f).getD j 0 < 256 := by
  unfold bodyF
  split
  · exact catL_ok _
  · simp
theorem shape_some (k : Int) : ∃ S t, S.length = 8 ∧ (kindB k = true → S = szK k.toNat ∧ t = tagK k.toNat) ∧ ∀ w, Calls Try.prog 19 #[.int .i64 k] w fun e w' => e = .returned (.tuple #[shV S t, .bool (kindB k)]) ∧ Below w.heap.size w w' := by
  cases h : kindB k with
  | true => exact ⟨_, _, szK_length _, fun _ => ⟨rfl, rfl⟩, fun w => shape_yes k w h⟩
  | false => exact ⟨_, _, rfl, (fun h => by cases h), fun w => shape_no k w h⟩
/-- a call that hands back bytes -/
def GivesS (L : List Int) (w : World) (e : Ending) (w' : World) : Prop := ∃ A m c, e = .returned (.slice A m c) ∧ Bts w' A m c L ∧ Below w.heap.size w w'
set_option maxHeartbeats 1000000 in
theorem body_any (f : Fr) (w : World) (hok : f.ok) :
    Calls Try.prog 17 #[frV f] w (GivesS (bodyF f) w) := by
  have hh := hasF f
  have hCs : (frA f).size = 40 := frA_size hok.len
  obtain ⟨S, t, hS, hSt, hsc⟩ := shape_some f.kind
  obtain ⟨b, hbe⟩ : ∃ b, plainB f = b := ⟨_, rfl⟩
  have hpc := fun w => put_plain_b f w hok b hbe
  have hno : (b && t) = false → bodyF f = [] := fun h => by
    unfold bodyF
    rw [hbe]
    cases b with
    | false => rfl
    | true =>
      have := (hSt (plain_facts hbe).1).2
      rw [← this]
      rw [Bool.true_and] at h
      rw [h]; rfl
  have hyes : b = true → t = true → bodyF f = (putF f).take ((putF f).length - 32) ∧ 32 ≤ (putF f).length := fun h1 h2 => by
    have h3 := (hSt (plain_facts (hbe.trans h1)).1).2
    have h4 : tagK f.kind.toNat = true := by rw [← h3]; exact h2
    have h5 : putF f = frontF f ++ f.tag := by rw [putF, h4]; simp
    have hl : (putF f).length = (frontF f).length + 32 := by rw [h5, List.length_append, hok.len]
    refine ⟨?_, by omega⟩
    rw [bodyF, hbe, h1, h4, hl, h5]
    simp
  have hpl := putF_small f hok.len
  obtain ⟨s0, s1, s2, s3, s4, s5, s6, s7, hl⟩ := list8 S hS
  rw [shV_lit hl] at hsc
  obtain ⟨b2, hb2⟩ : ∃ b2, kindB f.kind = b2 := ⟨_, rfl⟩
  rw [hb2] at hsc
  unfold frV at hpc ⊢
  obtain ⟨C, hC⟩ : ∃ C, C = frA f := ⟨_, rfl⟩
  rw [← hC] at hh hCs hpc ⊢
  have HSC := Lib.hid hsc
  have HPC := Lib.hid hpc
  have HCS := Lib.hid hCs
  have HCC := Lib.hid hC
  have HNO := Lib.hid hno
  have HYES := Lib.hid hyes
  have HPL := Lib.hid hpl
  have HOK := Lib.hid hok
  obtain ⟨d0, _, _, _, _, _, _, _⟩ := hh
  clear hsc hpc hCs hC hno hyes hpl hok hl hS hSt hbe hb2
  cases b with
  | false =>
    have hbo := HNO.out rfl
    have HB := Lib.hid hbo
    clear hbo
    go_enter Try.func17, Try.ntmps17
    go_wp2_with (first
      | ((with_reducible refine wpList_load_blk 26 _ rfl w.heap.size ?hx2 26 C (0, 0) _ (heap_alloc_new _ _) Try.underlying26 ?hd2 (info_frame HCS.out) ?_ ?hw2); (case hx2 => rfl); (case hd2 => rfl); (case hw2 => rfl))
      | (go_at_call 10; (with_reducible refine (HPC.out _).mono ?_); rintro e w2 ⟨A2, m2, c2, rfl, hv2, hb2⟩
         have hF2 : RowF w2 w.heap.size f := rowF_of (by rw [← HCC.out]; exact after_alloc hb2)
         have hk2 := hF2.kind
         have hB2 := (after_one hb2).1
         clear hb2)
      | (go_at_call 19; (with_reducible refine (HSC.out _).mono ?_); rintro e w3 ⟨rfl, hb3⟩))
    go_ret
    exact ⟨none, 0, 0, rfl, by rw [HB.out]; exact Bts.nil _, (hB2.trans (hb3.mono hB2.size)).alloc (Nat.le_trans hB2.size hb3.size) _⟩
  | true =>
    cases t with
    | false =>
      have hbo := HNO.out rfl
      have HB := Lib.hid hbo
      clear hbo
      go_enter Try.func17, Try.ntmps17
      go_wp2_with (first
        | ((with_reducible refine wpList_load_blk 26 _ rfl w.heap.size ?hx2 26 C (0, 0) _ (heap_alloc_new _ _) Try.underlying26 ?hd2 (info_frame HCS.out) ?_ ?hw2); (case hx2 => rfl); (case hd2 => rfl); (case hw2 => rfl))
        | (go_at_call 10; (with_reducible refine (HPC.out _).mono ?_); rintro e w2 ⟨A2, m2, c2, rfl, hv2, hb2⟩
           have hF2 : RowF w2 w.heap.size f := rowF_of (by rw [← HCC.out]; exact after_alloc hb2)
           have hk2 := hF2.kind
           have hB2 := (after_one hb2).1
           clear hb2)
        | (go_at_call 19; (with_reducible refine (HSC.out _).mono ?_); rintro e w3 ⟨rfl, hb3⟩))
      go_ret
      exact ⟨none, 0, 0, rfl, by rw [HB.out]; exact Bts.nil _, (hB2.trans (hb3.mono hB2.size)).alloc (Nat.le_trans hB2.size hb3.size) _⟩
    | true =>
      have hbo := HYES.out rfl rfl
      have HB := Lib.hid hbo
      clear hbo
      go_enter Try.func17, Try.ntmps17
      go_wp2_with (first
        | ((with_reducible refine wpList_load_blk 26 _ rfl w.heap.size ?hx2 26 C (0, 0) _ (heap_alloc_new _ _) Try.underlying26 ?hd2 (info_frame HCS.out) ?_ ?hw2); (case hx2 => rfl); (case hd2 => rfl); (case hw2 => rfl))
        | (go_at_call 10; (with_reducible refine (HPC.out _).mono ?_); rintro e w2 ⟨A2, m2, c2, rfl, hv2, hb2⟩
           have hF2 : RowF w2 w.heap.size f := rowF_of (by rw [← HCC.out]; exact after_alloc hb2)
           have hk2 := hF2.kind
           have hB2 := (after_one hb2).1
           have hv2 : Bts w2 A2 m2 c2 (putF f) := hv2
           have hm2 : (m2 : Int) ≤ 54 := by have := HPL.out; have := hv2.len; omega
           have hm3 : (32 : Int) ≤ m2 := by have := HB.out.2; have := hv2.len; omega
           obtain ⟨hto, hbt⟩ := run_to hv2 ((m2 : Int) - 32) (hi := m2 - 32) (by omega) (by omega)
           have HBT := Lib.hid hbt
           have HL2 := Lib.hid hv2.len
           clear hb2 hv2 hbt hF2)
        | (go_at_call 19; (with_reducible refine (HSC.out _).mono ?_); rintro e w3 ⟨rfl, hb3⟩))
      go_ret
      exact ⟨A2, m2 - 32, c2, rfl, by rw [HB.out.1, HL2.out]; exact (HBT.out.below hb3).more _, (hB2.trans (hb3.mono hB2.size)).alloc (Nat.le_trans hB2.size hb3.size) _⟩
end Go.Proofs.Ytncedbjbooemjaa

/- A range over a function whose values are known ahead, in order: the k-th round is asked at the k-th value alone. -/
namespace Go.Proofs.Ytncedbjbooemjaa
set_option linter.unusedVariables false
open Go.RowKit

/-- an iterator that hands over vals 0, .., vals (N - 1), and then ends; between two rounds it makes no memory -/
def Hands (F : Fence) (n : Nat) (P : Program) (g : Nat) (lb : Array Value) (vals : Nat → Value) (N : Nat) (Kp : World → World → Prop) (w0 : World) : Prop :=
  ∀ (l : Nat) (J : Nat → World → Prop) (W : World), Below w0.heap.size w0 W →
    (∀ k W1, k < N → J k W1 → YieldAt F (n - 1) P l #[vals k] W1 fun e W' => e = .returned (.bool true) ∧ J (k + 1) W' ∧ Kp W1 W') → J 0 W →
    CallsIn F n P g (#[.func (.yield l) #[] #[]] ++ lb) W fun e W' => (∃ v, e = .returned v) ∧ J N W'
/-- a round that goes on -/
def GoesOn (Kp : World → World → Prop) (I : Nat → World → Prop) (k : Nat) (W : World) : Exit → Act → World → Prop
  | .normal, _, W' => KeepsOthers W W' ∧ Kp W W' ∧ I (k + 1) W'
  | _, _, _ => False
theorem range_known {F : Fence} {n : Nat} {P : Program} {g : Operand} {p : Tmp} {assign body : Code} {Q : Exit → Act → World → Prop} {a : Act} {w w0 : World} (hro : F.round = none) (h1 : 1 ≤ n)
    {gf : Nat} {lb : Array Value} (hg : a.eval g = .func (.func gf) #[] lb) (hF : F.fn gf) (eg : ∀ args w, (callFunc gf args).run P w = .ok (.enter gf args) w)
    {vals : Nat → Value} {N : Nat} {Kp : World → World → Prop} (hseq : Hands F (n - 1) P gf lb vals N Kp w0) (hb0 : Below w0.heap.size w0 w)
    (hKt : ∀ {A B C : World}, Kp A B → Kp B C → Kp A C) (hKb : ∀ (W : World) (l : Nat) (o o' : Obj), w.heap.size ≤ l → W.heap[l]? = some o → o.isCells = false → o.isWalk = false → Kp W (W.putObj l o'))
    (I : Nat → World → Prop) (hI : ∀ k W l o o', I k W → w.heap.size ≤ l → W.heap[l]? = some o → o.isCells = false → I k (W.putObj l o'))
    (h0 : ∀ o, I 0 ((w.alloc (.deferred (some []))).alloc o)) (a1 : Nat → Act)
    (hassign : ∀ (l k : Nat) (W : World) (K : Act → World → Prop), k < N → K (a1 k) W → assign.wpIn (F.inRound l) (n - 1 - 1) P (Exit.then K (fun _ _ _ => False)) { tmps := (#[p].zip #[vals k]).foldl (fun t (p, v) => t.setIfInBounds p v) a.tmps, defers := [] } W)
    (hbody : ∀ (l k : Nat) (W : World), k < N → I k W → body.wpIn (F.inRound l) (n - 1 - 1) P (GoesOn Kp I k W) (a1 k) W)
    (hdone : ∀ (D : Nat) (W : World), w.heap.size ≤ D → I N W → W.heap[D]? = some (.deferred (some [])) → Q .normal { a with defers := { target := .collected D, args := #[] } :: a.defers } W) :
    (Code.rangeFunc g #[p] assign body).wpIn F n P Q a w := by
  refine wpIn_rangeFunc fun fn hfn => ?_
  rw [hro]
  let rec_ : LoopState → Loop := fun st => { state := st, pending := none, fn := fn, tmps := a.tmps, params := #[p], assign := assign, body := body, defers := w.heap.size }
  let L := w.heap.size + 1
  let W1 := (w.alloc (.deferred (some []))).alloc (.loop (rec_ .ready))
  have hL1 : W1.heap[L]? = some (.loop (rec_ .ready)) := heap_alloc2_new w _ _
  have hD1 : W1.heap[w.heap.size]? = some (.deferred (some [])) := heap_alloc2_old w _ _
  have hB1 : Below w0.heap.size w0 W1 := hb0.trans ((two_below w _ _).mono hb0.size)
  refine ⟨L, [{ target := .collected w.heap.size, args := #[] }], W1, { target := .fn (.func gf) lb, args := #[.func (.yield L) #[] #[]] }, W1, gf, #[.func (.yield L) #[] #[]] ++ lb, W1, run_enterLoop_outer _ _ _ _ _, ?_, ?_, ?_, fun _ => h1, ?_⟩
  · simp only [resolve, hg]
    simp [go_sem]
  · intro f' hf'
    simp [Target.leads] at hf'
    subst hf'
    exact hF
  · simp [invoke, go_sem, eg]
  refine (hseq L (fun k W => I k W ∧ W.heap[L]? = some (.loop (rec_ .ready)) ∧ W.heap[w.heap.size]? = some (.deferred (some []))) W1 hB1 (fun k W hk ⟨hi, hl, hd⟩ => ?_) ⟨h0 _, hL1, hD1⟩).mono ?_
  · have hlt : L < W.heap.size := (Array.getElem?_eq_some_iff.1 hl).1
    refine ⟨fn, _, assign, body, run_yield (args := #[vals k]) hl rfl, roundIn_of_wpIn hfn ?_⟩
    refine hassign L k W _ hk ?_
    refine ⟨_, run_beginRound hl rfl, ?_⟩
    have hl2 : (W.putObj L (.loop { rec_ .ready with state := .busy })).heap[L]? = some (.loop { rec_ .ready with state := .busy }) := World.putObj_heap_same hlt
    have hd2 : (W.putObj L (.loop { rec_ .ready with state := .busy })).heap[w.heap.size]? = some (.deferred (some [])) := (World.putObj_heap_other (by show w.heap.size ≠ w.heap.size + 1; omega)).trans hd
    refine wpIn_mono (hbody L k _ hk (hI k _ _ _ _ hi (Nat.le_succ _) hl rfl)) ?_
    rintro e a3 W3 hp
    cases e with
    | normal =>
      obtain ⟨hk3, hkp3, hi3⟩ := hp
      have hl3 := hk3.same _ _ hl2 rfl
      have hd3 := hk3.same _ _ hd2 rfl
      exact ⟨_, _, run_endRound none hl3, rfl, ⟨hI _ _ _ _ _ hi3 (Nat.le_succ _) hl3 rfl, World.putObj_heap_same (Array.getElem?_eq_some_iff.1 hl3).1, (World.putObj_heap_other (by show w.heap.size ≠ w.heap.size + 1; omega)).trans hd3⟩, hKt (hKt (hKb _ _ _ _ (Nat.le_succ _) hl rfl rfl) hkp3) (hKb _ _ _ _ (Nat.le_succ _) hl3 rfl rfl)⟩
    | ret => exact hp.elim
    | exit id => exact hp.elim
    | goto t => exact hp.elim
    | panic ch => exact hp.elim
    | outgrown => exact hp.elim
  · rintro e W2 ⟨⟨v, rfl⟩, hi, hl, hd⟩
    exact ⟨none, _, run_endLoop hl (by simp [rec_]), hdone _ _ (Nat.le_refl _) (hI _ _ _ _ _ hi (Nat.le_succ _) hl rfl) ((World.putObj_heap_other (by show w.heap.size ≠ w.heap.size + 1; omega)).trans hd)⟩
end Go.Proofs.Ytncedbjbooemjaa

/- Bytes as frames, one behind the other; the walk over package frame's frames. -/
namespace Go.Proofs.Ytncedbjbooemjaa
set_option linter.unusedVariables false
set_option linter.unusedSimpArgs false
open Go.RowKit Go.Shelf
attribute [local go_sem] Oper.semAt_some

/-- how many bytes the first frame has -/
def told (l : List Int) : Nat := 2 + numL (l.take 2)
/-- where the k-th frame begins -/
def pos (l : List Int) : Nat → Nat
  | 0 => 0
  | k + 1 => pos l k + told (l.drop (pos l k))
def cntF : Nat → List Int → Nat
  | 0, _ => 0
  | f + 1, l => if wholeB l then 1 + cntF f (l.drop (told l)) else 0
/-- how many frames bytes begin with -/
def cnt (l : List Int) : Nat := cntF l.length l
theorem whole_len {l : List Int} (h : wholeB l = true) : 2 ≤ told l ∧ told l ≤ l.length := by
  unfold wholeB at h
  rw [decide_eq_true_eq] at h
  unfold told
  omega
theorem whole_nil {l : List Int} (h : l.length < 2) : wholeB l = false := by
  unfold wholeB
  rw [decide_eq_false_iff_not]
  omega
theorem cntF_more : ∀ (f g : Nat) (l : List Int), l.length ≤ f → l.length ≤ g → cntF f l = cntF g l
  | 0, 0, _, _, _ => rfl
  | 0, g + 1, l, h, _ => by rw [cntF, cntF, whole_nil (by omega)]; rfl
  | f + 1, 0, l, _, h => by rw [cntF, cntF, whole_nil (by omega)]; rfl
  | f + 1, g + 1, l, h1, h2 => by
    rw [cntF, cntF]
    cases h : wholeB l with
    | false => rfl
    | true =>
      have := whole_len h
      rw [if_pos rfl, if_pos rfl, cntF_more f g (l.drop (told l)) (by rw [List.length_drop]; omega) (by rw [List.length_drop]; omega)]
theorem cnt_whole {l : List Int} (h : wholeB l = true) : cnt l = 1 + cnt (l.drop (told l)) := by
  have h2 := whole_len h
  unfold cnt
  obtain ⟨m, hm⟩ : ∃ m, l.length = m + 1 := ⟨l.length - 1, by omega⟩
  rw [hm, cntF, if_pos h, cntF_more m (l.drop (told l)).length _ (by rw [List.length_drop]; omega) (Nat.le_refl _)]
theorem cnt_not {l : List Int} (h : wholeB l = false) : cnt l = 0 := by
  unfold cnt
  cases l.length with
  | zero => rfl
  | succ m => rw [cntF, h]; rfl
theorem pos_succ (l : List Int) (k : Nat) : pos l (k + 1) = told l + pos (l.drop (told l)) k := by
  induction k with
  | zero => simp [pos]
  | succ k ih =>
    rw [pos, ih, pos, ← List.drop_drop]
    omega
theorem whole_at (m : Nat) : ∀ (l : List Int), l.length ≤ m → (∀ k, k < cnt l → wholeB (l.drop (pos l k)) = true) ∧ wholeB (l.drop (pos l (cnt l))) = false ∧ pos l (cnt l) ≤ l.length := by
  induction m with
  | zero =>
    intro l hl
    have h := whole_nil (l := l) (by omega)
    rw [cnt_not h]
    exact ⟨fun k hk => by omega, h, Nat.zero_le _⟩
  | succ m ih =>
    intro l hl
    cases h : wholeB l with
    | false =>
      rw [cnt_not h]
      exact ⟨fun k hk => by omega, h, Nat.zero_le _⟩
    | true =>
      have h2 := whole_len h
      obtain ⟨i1, i2, i3⟩ := ih (l.drop (told l)) (by rw [List.length_drop]; omega)
      rw [cnt_whole h, Nat.add_comm 1]
      refine ⟨fun k hk => ?_, ?_, ?_⟩
      · cases k with
        | zero => exact h
        | succ k =>
          rw [pos_succ, ← List.drop_drop]
          exact i1 k (by omega)
      · rw [pos_succ, ← List.drop_drop]
        exact i2
      · rw [pos_succ]
        rw [List.length_drop] at i3
        omega
/-- what is left, as a slice, behind k frames -/
def leftAt (l : List Int) (A : Option Addr) (n c : Nat) : Nat → Option Addr × Nat × Nat
  | 0 => (A, n, c)
  | k + 1 =>
    let r := leftAt l A n c k
    let t := told (l.drop (pos l k))
    (if r.2.2 = t then r.1 else r.1.map (·.add t), r.2.1 - t, r.2.2 - t)
/-- the k-th frame, as a slice -/
def pieceAt (l : List Int) (A : Option Addr) (n c : Nat) (k : Nat) : Value := .slice (leftAt l A n c k).1 (told (l.drop (pos l k))) (leftAt l A n c k).2.2
theorem run_from_at {w0 : World} {A : Option Addr} {n cap lo : Nat} {l : List Int} (hb : Bts w0 A n cap l) (x : Int) (hx : x = lo) (hlo : lo ≤ n) :
    (∀ w : World, (Instr.slice 27 (.slice A n cap) (some (.int .i64 x)) none none).run Try.prog w = .ok (.slice (if cap = lo then A else A.map (·.add lo)) (n - lo) (cap - lo)) w) ∧ Bts w0 (if cap = lo then A else A.map (·.add lo)) (n - lo) (cap - lo) (l.drop lo) := by
  obtain ⟨A2, h1, h2⟩ := run_from hb x hx hlo
  have h3 : ∀ w : World, (Instr.slice 27 (.slice A n cap) (some (.int .i64 x)) none none).run Try.prog w = .ok (.slice (if cap = lo then A else A.map (·.add lo)) (n - lo) (cap - lo)) w := fun w => by
    subst hx
    rw [run_slice_l (P := Try.prog) w 27 A n cap (by kernel_rfl) .i64 lo (by omega) (by omega), size_u8]
    simp only [Result.andThen_ok, sliced, Int.toNat_natCast, Nat.mul_one]
  have h4 := (h1 w0).symm.trans (h3 w0)
  simp only [Result.ok.injEq, Value.slice.injEq, and_true] at h4
  rw [← h4]
  exact ⟨fun w => by rw [h4]; exact h3 w, h2⟩
theorem left_bts {w0 : World} {A : Option Addr} {n c : Nat} {l : List Int} (hb : Bts w0 A n c l) : ∀ k, k ≤ cnt l → Bts w0 (leftAt l A n c k).1 (leftAt l A n c k).2.1 (leftAt l A n c k).2.2 (l.drop (pos l k))
  | 0, _ => by simpa [leftAt, pos] using hb
  | k + 1, hk => by
    have ih := left_bts hb k (by omega)
    have hw := whole_len ((whole_at _ l (Nat.le_refl _)).1 k (by omega))
    have := (run_from_at ih (told (l.drop (pos l k)) : Int) (lo := told (l.drop (pos l k))) rfl (by rw [← ih.len]; exact hw.2)).2
    rw [List.drop_drop] at this
    exact this
def sliceLen : Value → Nat
  | .slice _ n _ => n
  | _ => 0

set_option maxRecDepth 100000 in
set_option maxHeartbeats 2000000 in
theorem iter_hands (n Bs : Nat) (A : Option Addr) (m c : Nat) (l : List Int) (wb w0 : World) (hn : 1 ≤ n) (hb : Bts wb A m c l) (hwb : Below wb.heap.size wb w0) (hBs : Bs < w0.heap.size) (hbox : w0.cell? ⟨Bs, 0, none⟩ = some (.slice A m c)) :
    Hands Fence.wide n Try.prog 43 #[.pointer (some ⟨Bs, 0, none⟩)] (pieceAt l A m c) (cnt l) (Below wb.heap.size) w0 := by
  intro L J W hW hY h0
  have hWb := hwb.trans (hW.mono hwb.size)
  have hboxW := (hW.cell (p := ⟨Bs, 0, none⟩) hBs).trans hbox
  have hlb := fun k hk => left_bts hb k hk
  have hwa := whole_at _ l (Nat.le_refl _)
  have HY := Lib.hid hY
  have HLB := Lib.hid hlb
  have HWA := Lib.hid hwa
  have HW := Lib.hid hWb
  clear hlb hwa hY hW hWb hwb hbox hb
  refine callsIn_of_wp Try.func43 rfl trivial ?_ rfl
  simp only [Try.ntmps43, List.size_toArray, List.length_cons, List.length_nil, Nat.reduceAdd, Nat.reduceSub, Array.replicate_succ, Array.replicate_zero, List.push_toArray, List.append_toArray, List.nil_append, List.cons_append]
  gi_wp2
  gi_loopw [3] (fun v wr => ∃ k, k ≤ cnt l ∧ v = .slice (leftAt l A m c k).1 (leftAt l A m c k).2.1 (leftAt l A m c k).2.2 ∧ J k wr ∧ Below wb.heap.size wb wr) (fun v _ => sliceLen v)
  case atStart => exact ⟨0, Nat.zero_le _, rfl, h0, HW.out⟩
  case round =>
    obtain ⟨k, hk, rfl, hJ, hB⟩ := hrel
    have hbk := (HLB.out k hk).below hB
    by_cases hlt : k < cnt l
    · have hwk := HWA.out.1 k hlt
      have hwl := whole_len hwk
      have hts := two_small hbk.ok
      have hg := get_at _ _ _ _ 0 2 0 2 wr rfl rfl hbk (by omega) (by omega) (by rw [← hbk.len]; omega)
      rw [List.drop_zero] at hg
      have hwc := whole_any _ _ _ _ wr hbk
      rw [hwk] at hwc
      obtain ⟨fn, tmps, assign, body, hy, hR⟩ := HY.out k wr hlt hJ
      have hpc : pieceAt l A m c k = .slice (leftAt l A m c k).1 (told (l.drop (pos l k))) (leftAt l A m c k).2.2 := rfl
      rw [hpc] at hy
      have hnx : leftAt l A m c (k + 1) = (if (leftAt l A m c k).2.2 = told (l.drop (pos l k)) then (leftAt l A m c k).1 else (leftAt l A m c k).1.map (·.add (told (l.drop (pos l k)))), (leftAt l A m c k).2.1 - told (l.drop (pos l k)), (leftAt l A m c k).2.2 - told (l.drop (pos l k))) := rfl
      have hln : (l.drop (pos l k)).length = (leftAt l A m c k).2.1 := hbk.len
      have htd : told (l.drop (pos l k)) = 2 + numL ((l.drop (pos l k)).take 2) := rfl
      obtain ⟨x, hx⟩ : ∃ x, numL ((l.drop (pos l k)).take 2) = x := ⟨_, rfl⟩
      rw [hx] at hg hts htd
      obtain ⟨t, ht⟩ : ∃ t, told (l.drop (pos l k)) = t := ⟨_, rfl⟩
      rw [ht] at hwl hy hnx htd
      obtain ⟨r, hr⟩ : ∃ r, leftAt l A m c k = r := ⟨_, rfl⟩
      rw [hr] at hbk hg hwc hy hnx hln ⊢
      obtain ⟨A1, m1, c1⟩ := r
      simp only at hbk hg hwc hy hnx hln ⊢
      have htm : t ≤ m1 := by omega
      have hto := (run_to hbk ((2 : Int) + x) (hi := t) (by omega) htm).1
      have hfrom := (run_from_at hbk ((2 : Int) + x) (lo := t) (by omega) htm).1
      have hts' : (x : Int) < 65536 := by omega
      have HNX := Lib.hid hnx
      have HG := Lib.hid (callsIn_wide (n := n - 1).2 hg)
      have HWC := Lib.hid (callsIn_wide (n := n - 1).2 hwc)
      have HB := Lib.hid hB
      have htw := hwl.1
      have HTM := Lib.hid htm
      have HTW := Lib.hid htw
      clear hnx hg hwc hB hbk hln htd hx ht hr hwl hts htm htw hpc hwk
      gi_wp2_with (first
        | (refine ⟨trivial, ?_⟩; gi_at_call 26; refine HWC.out.mono ?_; rintro e w1 ⟨rfl, rfl⟩)
        | (refine ⟨trivial, ?_⟩; gi_at_call 38; refine HG.out.mono ?_; rintro e w2 ⟨rfl, rfl⟩))
      refine hR.mono ?_
      rintro e W3 ⟨rfl, hJ3, hk3⟩
      gi_wp2
      go_roundw
      case rel => exact ⟨k + 1, by omega, by rw [HNX.out], hJ3, HB.out.trans hk3⟩
      case measure => have := HTM.out; have := HTW.out; simp [sliceLen]; omega
    · have hkn : k = cnt l := by omega
      have hwk := HWA.out.2.1
      rw [← hkn] at hwk
      have hwc := whole_any _ _ _ _ wr hbk
      rw [hwk] at hwc
      obtain ⟨r, hr⟩ : ∃ r, leftAt l A m c k = r := ⟨_, rfl⟩
      rw [hr] at hwc ⊢
      obtain ⟨A1, m1, c1⟩ := r
      have HWC := Lib.hid (callsIn_wide (n := n - 1).2 hwc)
      rw [hkn] at hJ
      clear hwc hkn hwk hr hbk
      gi_wp2_with (refine ⟨trivial, ?_⟩; gi_at_call 26; refine HWC.out.mono ?_; rintro e w1 ⟨rfl, rfl⟩)
      go_end0
      exact ⟨⟨_, rfl⟩, hJ⟩
theorem frames_any (A : Option Addr) (m c : Nat) (w : World) :
    Calls Try.prog 33 #[.slice A m c] w fun e w' => e = .returned (.func (.func 43) #[] #[.pointer (some ⟨w.heap.size, 0, none⟩)]) ∧ w.alloc (.cells #[.slice A m c] 27) = w' := by
  go_enter Try.func33, Try.ntmps33
  go_wp2
  go_ret
  exact ⟨rfl, rfl⟩
end Go.Proofs.Ytncedbjbooemjaa

/- The walk over the document's answer told: how many bytes the first frame has. -/
namespace Go.Proofs.Ytncedbjbooemjaa
set_option linter.unusedVariables false
set_option linter.unusedSimpArgs false
open Go.RowKit

/-- what told hands back -/
def toldZ (l : List Int) : Int := if wholeB l then (told l : Int) else -1
theorem two_num {l : List Int} (hl : ∀ j, 0 ≤ l.getD j 0 ∧ l.getD j 0 < 256) (h : 2 ≤ l.length) : ((numL (l.take 2) : Nat) : Int) = 256 * l.getD 0 0 + l.getD 1 0 := by
  have h0 := (hl 0).1
  have h1 := (hl 1).1
  match l, h with
  | a :: b :: r, _ =>
    simp [numL, numOf] at h0 h1 ⊢
    omega

set_option maxRecDepth 100000 in
set_option maxHeartbeats 2000000 in
theorem rtold_any (A : Option Addr) (n c : Nat) (l : List Int) (w : World) (hb : Bts w A n c l) :
    Calls Try.prog 29 #[.slice A n c] w fun e w' => e = .returned (.int .i64 (toldZ l)) ∧ ∃ j, w' = w.drewN j := by
  have hn := hb.small
  by_cases h : 2 ≤ n
  · obtain ⟨b, off, rfl, hc⟩ := hb.at_ (by omega)
    have c0 := hc 0 (by omega)
    have c1 := hc 1 (by omega)
    rw [Nat.add_zero] at c0
    have htn := two_num hb.ok (by rw [hb.len]; exact h)
    have x0 := hb.ok 0
    have y0 := hb.ok 1
    have hlen := hb.len
    obtain ⟨x, hx⟩ : ∃ x, l.getD 0 0 = x := ⟨_, rfl⟩
    obtain ⟨y, hy⟩ : ∃ y, l.getD 1 0 = y := ⟨_, rfl⟩
    rw [hx] at c0 x0 htn
    rw [hy] at c1 y0 htn
    obtain ⟨x0, x1⟩ := x0
    obtain ⟨y0, y1⟩ := y0
    have hn2 : (2 : Int) ≤ n := by omega
    have hlt2 : ¬ ((n : Int) < 2) := by omega
    have hd : decide ((n : Int) < 2) = false := by rw [decide_eq_false_iff_not]; omega
    by_cases hw : (n : Int) - 2 < 256 * x + y
    · have hz : toldZ l = -1 := by
        unfold toldZ wholeB
        rw [if_neg (by rw [decide_eq_true_eq]; omega)]
      rw [hz]
      clear hx hy hc htn hz hb hlen
      go_enter Try.func29, Try.ntmps29
      go_wp2_with fail
      go_quiet (fail)
      go_wp2
      go_ret
      exact ⟨rfl, _, rfl⟩
    · have hz : toldZ l = 2 + 256 * x + y := by
        unfold toldZ wholeB told
        rw [if_pos (by rw [decide_eq_true_eq]; omega)]
        omega
      rw [hz]
      clear hx hy hc htn hz hb hlen
      go_enter Try.func29, Try.ntmps29
      go_wp2_with fail
      go_quiet (fail)
      go_wp2_with fail
      go_quiet (fail)
      go_wp2
      go_ret
      exact ⟨rfl, _, World.drewN_drewN _ _ _⟩
  · have hz : toldZ l = -1 := by
      unfold toldZ
      rw [whole_nil (by rw [hb.len]; omega)]
      rfl
    rw [hz]
    have hlt2 : (n : Int) < 2 := by omega
    have hd : decide ((n : Int) < 2) = true := by rw [decide_eq_true_eq]; omega
    clear hz hb h
    go_enter Try.func29, Try.ntmps29
    go_wp2_with fail
    go_quiet (fail)
    go_wp2
    go_ret
    exact ⟨rfl, _, rfl⟩
end Go.Proofs.Ytncedbjbooemjaa

/- The walk over package frame's Split: the frames of bytes, and what is left. -/
namespace Go.Proofs.Ytncedbjbooemjaa
set_option linter.unusedVariables false
set_option linter.unusedSimpArgs false
open Go.RowKit Go.Shelf
attribute [local go_sem] Oper.semAt_some

theorem cells_at {w : World} {a : Addr} {v : Value} (h : w.cell? a = some v) : ∃ o : Obj, w.heap[a.block]? = some o ∧ o.isCells = true := cells_of_cell h
theorem other_block {w : World} {b l : Nat} {o o2 : Obj} (hb : w.heap[b]? = some o2) (hc : o2.isCells = true) (hl : w.heap[l]? = some o) (hn : o.isCells = false) : b ≠ l := by
  rintro rfl
  rw [hb] at hl
  cases hl
  rw [hc] at hn
  cases hn
theorem Bts.turned {w : World} {A : Option Addr} {n c l : Nat} {b : List Int} {o : Obj} (o' : Obj) (h : Bts w A n c b) (hl : w.heap[l]? = some o) (hn : o.isCells = false) : Bts (w.putObj l o') A n c b := by
  refine ⟨h.len, h.le, h.max, h.ok, h.bare, fun hn0 => ?_⟩
  obtain ⟨bb, off, hA, hc⟩ := h.at_ hn0
  refine ⟨bb, off, hA, fun j hj => ?_⟩
  obtain ⟨o2, h1, h2⟩ := cells_at (hc j hj)
  rw [World.cell?_of_block (w := w) (a := ⟨bb, off + j, none⟩) (World.putObj_heap_other (other_block h1 h2 hl hn))]
  exact hc j hj
theorem OwnR.turned {e k : Nat} {w : World} {base l : Nat} {v : Value} {rows : List (List Value)} {o : Obj} (o' : Obj) (h : OwnR e k w base v rows) (hl : w.heap[l]? = some o) (hn : o.isCells = false) : OwnR e k (w.putObj l o') base v rows := by
  refine h.far (grownBy_putObj' w l o') ?_
  rcases h.row.2 with ⟨hv, _⟩ | ⟨g, cap, cur, hv, _, hh, _⟩
  · left; rw [hv]; rfl
  · right
    rw [hv]
    intro e
    injection e with e
    exact other_block hh rfl hl hn e
theorem boxed_turned {w : World} {B l : Nat} {t : TypeId} {v : Value} {o : Obj} (o' : Obj) (h : Boxed w B t v) (hl : w.heap[l]? = some o) (hn : o.isCells = false) : Boxed (w.putObj l o') B t v :=
  h.kept (grownBy_putObj' w l o') (fun e => by injection e with e; exact other_block h rfl hl hn e)
/-- a slice, as its three parts -/
abbrev Sl := Option Addr × Nat × Nat
def slV (r : Sl) : Value := .slice r.1 r.2.1 r.2.2
def slR (r : Sl) : List Value := [slV r]
/-- slices of bytes that the call made itself, from B on -/
structure Parts (w : World) (B : Nat) (sl : List Sl) (L : List (List Int)) : Prop where
  len : sl.length = L.length
  own : ∀ i, i < L.length → Own w B (slV (sl.getD i (none, 0, 0))) (L.getD i [])
  ok : ∀ i, ∀ j, 0 ≤ (L.getD i []).getD j 0 ∧ (L.getD i []).getD j 0 < 256
theorem Parts.nil (w : World) (B : Nat) : Parts w B [] [] := ⟨rfl, fun i h => by simp at h, fun i j => by simp⟩
theorem Own.turned {w : World} {base l : Nat} {v : Value} {b : List Int} {o : Obj} (o' : Obj) (h : Own w base v b) (hl : w.heap[l]? = some o) (hn : o.isCells = false) : Own (w.putObj l o') base v b := by
  refine h.far (grownBy_putObj' w l o') ?_
  rcases h.2 with ⟨hv, _⟩ | ⟨g, cap, cur, hv, _, hh, _⟩
  · left; rw [hv]; rfl
  · right
    rw [hv]
    intro e
    injection e with e
    exact other_block hh rfl hl hn e
/-- bytes and rows of slices lie in blocks of two types -/
theorem own_apart {w : World} {B B' : Nat} {u v : Value} {l : List Int} {rows : List (List Value)} (h : Own w B u l) (hr : OwnR 27 1 w B' v rows) : u.ownBlock = none ∨ u.ownBlock ≠ v.ownBlock := by
  rcases h.2 with ⟨hv, _⟩ | ⟨g, cap, cur, hv, _, hh, _⟩
  · left; rw [hv]; rfl
  · rcases hr.row.2 with ⟨hv2, _⟩ | ⟨g2, cap2, cur2, hv2, _, hh2, _⟩
    · right; rw [hv, hv2]; simp [Value.ownBlock]
    · right
      rw [hv, hv2]
      intro e
      have e : g = g2 := by simpa [Value.ownBlock] using e
      subst e
      rw [hh] at hh2
      simp at hh2
theorem Own.under {w : World} {base b : Nat} {u x : Value} {l : List Int} (h : Own w base u l) (hb : b < base) : Own (w.setCell ⟨b, 0, none⟩ x) base u l := by
  refine h.far (grownBy_setCell' w b x) ?_
  cases hu : u.ownBlock with
  | none => exact .inl rfl
  | some g => exact .inr fun e => by injection e with e; have := (h.size g hu).1; omega
theorem OwnR.under {e k : Nat} {w : World} {base b : Nat} {u x : Value} {rows : List (List Value)} (h : OwnR e k w base u rows) (hb : b < base) : OwnR e k (w.setCell ⟨b, 0, none⟩ x) base u rows := by
  refine h.far (grownBy_setCell' w b x) ?_
  cases hu : u.ownBlock with
  | none => exact .inl rfl
  | some g => exact .inr fun e => by injection e with e; have := (h.size g hu).1; omega
theorem OwnR.mono {e k b : Nat} {w : World} {base : Nat} {v : Value} {rows : List (List Value)} (h : OwnR e k w base v rows) (hb : b ≤ base) : OwnR e k w b v rows := by
  refine ⟨⟨h.row.1, ?_⟩, h.wid, h.one⟩
  rcases h.row.2 with h0 | ⟨g, cap, cur, hv, hg, rest⟩
  · exact .inl h0
  · exact .inr ⟨g, cap, cur, hv, Nat.le_trans hb hg, rest⟩
section
variable {w w' : World} {B : Nat} {sl : List Sl} {L : List (List Int)}
theorem Parts.turned {l : Nat} {o : Obj} (o' : Obj) (h : Parts w B sl L) (hl : w.heap[l]? = some o) (hn : o.isCells = false) : Parts (w.putObj l o') B sl L := ⟨h.len, fun i hi => (h.own i hi).turned o' hl hn, h.ok⟩
theorem Parts.below (h : Parts w B sl L) (hb : Below w.heap.size w w') : Parts w' B sl L := ⟨h.len, fun i hi => (h.own i hi).below hb, h.ok⟩
theorem Parts.grown {v : Value} {B' : Nat} {rows : List (List Value)} (h : Parts w B sl L) (hr : OwnR 27 1 w B' v rows) (hg : w.grownBy w' v.ownBlock) : Parts w' B sl L := ⟨h.len, fun i hi => (h.own i hi).far hg (own_apart (h.own i hi) hr), h.ok⟩
theorem Parts.under {b : Nat} {x : Value} (h : Parts w B sl L) (hb : b < B) : Parts (w.setCell ⟨b, 0, none⟩ x) B sl L := ⟨h.len, fun i hi => (h.own i hi).under hb, h.ok⟩
theorem Parts.mono {b : Nat} (h : Parts w B sl L) (hb : b ≤ B) : Parts w b sl L := ⟨h.len, fun i hi => (h.own i hi).mono hb, h.ok⟩
theorem Parts.snoc {r : Sl} {l : List Int} (h : Parts w B sl L) (ho : Own w B (slV r) l) (hok : ∀ j, 0 ≤ l.getD j 0 ∧ l.getD j 0 < 256) : Parts w B (sl ++ [r]) (L ++ [l]) := by
  refine ⟨by simp [h.len], fun i hi => ?_, fun i j => ?_⟩
  · by_cases hl : i < L.length
    · have := h.own i hl
      rw [List.getD_eq_getElem?_getD, List.getD_eq_getElem?_getD] at this ⊢
      rw [List.getElem?_append_left (by rw [h.len]; exact hl), List.getElem?_append_left hl]
      exact this
    · have e : i = L.length := by simp at hi; omega
      subst e
      rw [List.getD_eq_getElem?_getD, List.getD_eq_getElem?_getD, List.getElem?_append_right (by rw [h.len]; omega), List.getElem?_append_right (by omega), h.len]
      simpa using ho
  · by_cases hl : i < L.length
    · have e1 : (L ++ [l]).getD i [] = L.getD i [] := by rw [List.getD_eq_getElem?_getD, List.getElem?_append_left hl, ← List.getD_eq_getElem?_getD]
      rw [e1]
      exact h.ok i j
    · by_cases e : i = L.length
      · subst e
        simpa [List.getD_eq_getElem?_getD] using hok j
      · have hn : (L ++ [l]).getD i [] = [] := by
          rw [List.getD_eq_getElem?_getD, List.getElem?_eq_none (by simp; omega)]
          rfl
        rw [hn]
        simp
end
theorem info_sl : (Try.prog.info? 27).map (fun i => (i.zero, i.size, i.bytes)) = some (some (.slice none 0 0), 1, 24) := by kernel_rfl
/-- one slice more, behind others of the call's own -/
theorem run_append_sl {w : World} (base : Nat) (ty : TypeId) (v : Value) (sl : List Sl) (r : Sl) (hown : OwnR 27 1 w base v (sl.map slR)) (g : Nat) (hg : w.cell? ⟨g, 0, none⟩ = some (slV r)) (hl : sl.length ≤ 1000000) (hbase : base ≤ w.heap.size) :
    ∃ v' w', (Builtin.append_ #[34, 34] ty #[v, .slice (some ⟨g, 0, none⟩) 1 1]).run Try.prog w = .ok v' w' ∧ OwnR 27 1 w' base v' ((sl ++ [r]).map slR) ∧ w.grownBy w' v.ownBlock := by
  obtain ⟨i, hi, hz, h1, h2⟩ := info_parts info_sl
  have hone : ∀ u ∈ [slV r], u.oneCell' = true := fun u hu => by rw [List.mem_singleton.1 hu]; rfl
  obtain ⟨v', w', hr, ho, hgr, _⟩ := run_append_own (P := Try.prog) w base 34 ty 27 i (.slice none 0 0) 1 24 Try.underlying34 hi hz h1 h2 rfl (by omega) v (sl.map slR).length (sl.map slR).flatten hown.row ⟨g, 0, none⟩ 1 1 [slV r] rfl
    (fun j u hu => by
      have hj : j = 0 := by have := (List.getElem?_eq_some_iff.1 hu).1; simp at this; omega
      subst hj
      simp only [List.getElem?_cons_zero, Option.some.injEq] at hu
      rw [← hu]
      exact hg) hone (by unfold maxLen; simp; omega) (by simp; omega) hbase
  refine ⟨v', w', hr, ⟨?_, ?_, ?_⟩, hgr⟩
  · have e1 : ((sl ++ [r]).map slR).length = (sl.map slR).length + 1 := by simp
    have e2 : ((sl ++ [r]).map slR).flatten = (sl.map slR).flatten ++ [slV r] := by simp [slR]
    rw [e1, e2]
    exact ho
  · intro x hx
    obtain ⟨y, _, rfl⟩ := List.mem_map.1 hx
    rfl
  · intro x hx u hu
    obtain ⟨y, _, rfl⟩ := List.mem_map.1 hx
    rw [List.mem_singleton.1 hu]
    rfl
theorem cnt_le (m : Nat) : ∀ l : List Int, l.length ≤ m → cnt l ≤ l.length := by
  induction m with
  | zero => intro l hl; rw [cnt_not (whole_nil (by omega))]; omega
  | succ m ih =>
    intro l hl
    cases h : wholeB l with
    | false => rw [cnt_not h]; omega
    | true =>
      have h2 := whole_len h
      have := ih (l.drop (told l)) (by rw [List.length_drop]; omega)
      rw [cnt_whole h]
      rw [List.length_drop] at this
      omega
/-- the frames of bytes -/
def framesTo (l : List Int) (k : Nat) : List (List Int) := (List.range k).map fun i => (l.drop (pos l i)).take (told (l.drop (pos l i)))
def framesL (l : List Int) : List (List Int) := framesTo l (cnt l)
def restL (l : List Int) : List Int := l.drop (pos l (cnt l))
theorem framesTo_succ (l : List Int) (k : Nat) : framesTo l (k + 1) = framesTo l k ++ [(l.drop (pos l k)).take (told (l.drop (pos l k)))] := by simp [framesTo, List.range_succ]
/-- what Split hands back -/
def SplitPost (l : List Int) (w : World) (e : Ending) (w' : World) : Prop :=
  ∃ v u sl, e = .returned (.tuple #[v, u]) ∧ OwnR 27 1 w' w.heap.size v (sl.map slR) ∧ Parts w' w.heap.size sl (framesL l) ∧ Own w' w.heap.size u (restL l) ∧ Below w.heap.size w w'
/-- between two rounds -/
def SplitInv (l : List Int) (A : Option Addr) (n c : Nat) (w : World) (k : Nat) (W : World) : Prop :=
  (∃ v sl, Boxed W w.heap.size 34 v ∧ OwnR 27 1 W (w.heap.size + 2) v (sl.map slR) ∧ Parts W (w.heap.size + 2) sl (framesTo l k)) ∧ Boxed W (w.heap.size + 1) 27 (slV (leftAt l A n c k)) ∧ Below w.heap.size w W

theorem keeps_below {w w' : World} (h : Below w.heap.size w w') : KeepsOthers w w' := ⟨h.size, fun i o hi _ => (h.block i (Array.getElem?_eq_some_iff.1 hi).1).trans hi⟩
theorem keeps_grown {w w' : World} {base : Nat} {v : Value} {rows : List (List Value)} (h : OwnR 27 1 w base v rows) (hg : w.grownBy w' v.ownBlock) : KeepsOthers w w' := by
  refine KeepsOthers.of_grownBy hg fun j o hj ho => ?_
  rcases h.row.2 with ⟨hv, _⟩ | ⟨g, cap, cur, hv, _, hh, _⟩
  · rw [hv] at hj; cases hj
  · rw [hv] at hj
    have e : g = j := by simpa [Value.ownBlock] using hj
    subst e
    rw [hh] at ho
    cases ho
    rfl
set_option maxRecDepth 100000 in
set_option maxHeartbeats 2000000 in
theorem split_any (A : Option Addr) (n c : Nat) (l : List Int) (w : World) (hb : Bts w A n c l) (hsm : n ≤ 1000000) :
    Calls Try.prog 14 #[.slice A n c] w (SplitPost l w) := by
  have hn := hb.small
  have hmx : Try.prog.follows .mixedOrders = true := by kernel_rfl
  refine (callsIn_wide (n := 9)).1 ?_
  refine callsIn_of_wp_marks Try.func14 rfl trivial ?_ rfl
  simp only [Try.ntmps14, List.size_toArray, List.length_cons, List.length_nil, Nat.reduceAdd, Nat.reduceSub, Array.replicate_succ, Array.replicate_zero, List.push_toArray, List.append_toArray, List.nil_append, List.cons_append]
  gi_wp2_with (refine ⟨trivial, ?_⟩; gi_at_call 33; refine (callsIn_wide.2 (frames_any _ _ _ _)).mono ?_; rintro e w1 ⟨rfl, rfl⟩)
  have b4 := Boxed.new w 34 (.slice none 0 0)
  have b5 := Boxed.new (w.alloc (.cells #[.slice none 0 0] 34)) 27 (.slice A n c)
  have b6 := Boxed.new ((w.alloc (.cells #[.slice none 0 0] 34)).alloc (.cells #[.slice A n c] 27)) 27 (.slice A n c)
  rw [World.size_alloc] at b5
  rw [World.size_alloc, World.size_alloc] at b6
  obtain ⟨W0, hW0⟩ : ∃ W0, ((w.alloc (.cells #[.slice none 0 0] 34)).alloc (.cells #[.slice A n c] 27)).alloc (.cells #[.slice A n c] 27) = W0 := ⟨_, rfl⟩
  have hB0 : Below w.heap.size w W0 := by rw [← hW0]; exact three_below w _ _ _
  have hsz : W0.heap.size = w.heap.size + 3 := by rw [← hW0]; simp
  have b4' : Boxed W0 w.heap.size 34 (.slice none 0 0) := by rw [← hW0]; exact (b4.alloc _).alloc _
  have b5' : Boxed W0 (w.heap.size + 1) 27 (.slice A n c) := by rw [← hW0]; exact b5.alloc _
  rw [hW0] at b6 ⊢
  clear b4 b5 hW0
  have hih := iter_hands 8 (w.heap.size + 1 + 1) A n c l w W0 (by omega) hb hB0 (by omega) b6.cell
  have HB := Lib.hid hb
  have HB0 := Lib.hid hB0
  refine range_known (F := Fence.wide) rfl (by omega) (gf := 43) (lb := #[.pointer (some ⟨w.heap.size + 1 + 1, 0, none⟩)]) rfl trivial (enters_of Try.func43 (by kernel_rfl) rfl) hih (Below.refl _ _) (fun h k => h.trans k) (belowK_b (w := W0) (by omega))
    (SplitInv l A n c w) ?hI ?h0
    (fun k => { tmps := #[.slice A n c, undef, .slice none 0 0, .slice none 0 0, .pointer (some ⟨w.heap.size, 0, none⟩), .pointer (some ⟨w.heap.size + 1, 0, none⟩), pieceAt l A n c k, .slice A n c, .slice A n c, .func (.func 43) #[] #[.pointer (some ⟨w.heap.size + 1 + 1, 0, none⟩)], pieceAt l A n c k, undef, undef, undef, undef, undef, undef, undef, undef, undef, undef, undef, undef], defers := [] }) ?assign ?body ?done
  case hI =>
    rintro k W x o o' ⟨⟨v, sl, q1, q2, q3⟩, q4, q5⟩ hx ho hc
    exact ⟨⟨v, sl, boxed_turned o' q1 ho hc, q2.turned o' ho hc, q3.turned o' ho hc⟩, boxed_turned o' q4 ho hc, q5.grown (grownBy_putObj' W x o') q5.size (fun g e => by cases e; omega)⟩
  case h0 =>
    intro o
    exact ⟨⟨.slice none 0 0, [], (b4'.alloc _).alloc _, OwnR.nil _ _ _ _, Parts.nil _ _⟩, (b5'.alloc _).alloc _, HB0.out.trans ((two_below W0 _ _).mono HB0.out.size)⟩
  case assign =>
    intro x k W K hk hK
    gi_wp2
    exact hK
  case body =>
    rintro x k W hk ⟨⟨v, sl, q1, q2, q3⟩, q4, q5⟩
    have c4 := q1.cell
    have c5 := q4.cell
    have f4 := q1.frozen
    have f5 := q4.frozen
    have hbk := left_bts HB.out k (by omega)
    have hwl := whole_len ((whole_at _ l (Nat.le_refl _)).1 k hk)
    have hll := hbk.len
    have hsl : sl.length = k := by rw [q3.len]; simp [framesTo]
    have hkn := cnt_le _ l (Nat.le_refl _)
    have hnx : slV (leftAt l A n c (k + 1)) = .slice (if (leftAt l A n c k).2.2 = told (l.drop (pos l k)) then (leftAt l A n c k).1 else (leftAt l A n c k).1.map (·.add (told (l.drop (pos l k))))) ((leftAt l A n c k).2.1 - told (l.drop (pos l k))) ((leftAt l A n c k).2.2 - told (l.drop (pos l k))) := rfl
    have hpv : pieceAt l A n c k = .slice (leftAt l A n c k).1 (told (l.drop (pos l k))) (leftAt l A n c k).2.2 := rfl
    have hlv : slV (leftAt l A n c k) = .slice (leftAt l A n c k).1 (leftAt l A n c k).2.1 (leftAt l A n c k).2.2 := rfl
    have hft := framesTo_succ l k
    rw [hpv]
    rw [hlv] at c5
    have hn1 : (leftAt l A n c k).2.1 ≤ n := by rw [← hll, List.length_drop, HB.out.len]; omega
    obtain ⟨r, hr⟩ : ∃ r, leftAt l A n c k = r := ⟨_, rfl⟩
    obtain ⟨t, ht⟩ : ∃ t, told (l.drop (pos l k)) = t := ⟨_, rfl⟩
    rw [hr] at hbk hll hnx c5 hn1 hlv q4 ⊢
    rw [ht] at hwl hnx hft ⊢
    obtain ⟨A1, m1, c1⟩ := r
    simp only at hbk hll hnx c5 hn1 ⊢
    have hlv2 : slV (A1, m1, c1) = .slice A1 m1 c1 := rfl
    obtain ⟨hto, hbt⟩ := run_to hbk (t : Int) (hi := t) rfl (by omega)
    have hfrom := (run_from_at hbk (t : Int) (lo := t) rfl (by omega)).1
    obtain ⟨X1, hX1⟩ : ∃ X1, (if c1 = t then A1 else A1.map (·.add t)) = X1 := ⟨_, rfl⟩
    rw [hX1] at hfrom hnx
    have hcl := clone_any A1 t c1 _ W.drew ((hbt.below q5).draw1) (by omega)
    have hokp : ∀ j, 0 ≤ (((l.drop (pos l k)).take t).getD j 0) ∧ (((l.drop (pos l k)).take t).getD j 0) < 256 := hbt.ok
    obtain ⟨pc, hpc⟩ : ∃ pc, (l.drop (pos l k)).take t = pc := ⟨_, rfl⟩
    rw [hpc] at hcl hft hokp
    have htm : (t : Int) ≤ m1 := by omega
    have HCL := Lib.hid ((callsIn_wide (n := 9 - 1 - 1 - 1).2 hcl).inRound x)
    have HFT := Lib.hid hft
    have HNX := Lib.hid hnx
    have HSL : sl.length ≤ 1000000 := by rw [hsl]; rw [HB.out.len] at hkn; omega
    have hW2 : w.heap.size + 2 ≤ W.heap.size := by have h1 := q4.lt; omega
    have q4b : Boxed W (w.heap.size + 1) 27 (.slice A1 m1 c1) := by rw [hlv2] at q4; exact q4
    have q4' := Lib.hid q4b
    have q2' := Lib.hid q2
    have q3' := Lib.hid q3
    have HOKP := Lib.hid hokp
    clear hX1 q4b hlv2 hcl hft hnx hbk hwl hll hsl hkn hpv hlv hn1 hr ht hbt hpc hto q2 q3 hokp hb
    gi_wp2
    gi_region_with_o (first
      | (refine ⟨trivial, ?_⟩
         gi_at_call 34
         refine HCL.out.mono ?_
         rintro e w3 ⟨v3, rfl, hown3, hb3⟩
         have hb3 : Below W.heap.size W w3 := below_draw hb3
         obtain ⟨A3, m3, c3, rfl, hbt3⟩ := hown3.slice HOKP.out
         have hcell3 : (w3.alloc (.cells #[.slice A3 m3 c3] 27)).cell? ⟨w3.heap.size, 0, none⟩ = some (slV (A3, m3, c3)) := (Boxed.new w3 27 _).cell
         have q2w := (q2'.out.below hb3).more (.cells #[.slice A3 m3 c3] 27)
         obtain ⟨v4, w4, hrun, hown4, hg4⟩ := run_append_sl (w.heap.size + 2) 34 v sl (A3, m3, c3) q2w w3.heap.size hcell3 HSL (by have := hb3.size; simp; omega)
         obtain ⟨A4, m4, e4, rfl, hrw4⟩ := hown4.rws
         have c43 := (hb3.cell (p := ⟨w.heap.size, 0, none⟩) (by show w.heap.size < W.heap.size; omega)).trans c4
         have q13 : Boxed w3 w.heap.size 34 v := (hb3.block _ q1.lt).trans q1
         have q14 : Boxed w4 w.heap.size 34 v := (q13.alloc _).kept hg4 (fun e => by have := (q2w.size _ e.symm).1; omega)
         have c43a := (q13.alloc (.cells #[.slice A3 m3 c3] 27)).cell
         have c44 := q14.cell
         have f44 := q14.frozen)
      | (have hrun2 := hrun
         simp [go_sem] at hrun2
         rw [hrun2]
         go_simp))
    all_goals
      have p5 : Boxed w4 (w.heap.size + 1) 27 (.slice A1 m1 c1) := (Boxed.alloc (show Boxed w3 (w.heap.size + 1) 27 (.slice A1 m1 c1) from (hb3.block _ q4'.out.lt).trans q4'.out) _).kept hg4 (fun e => by have := (q2w.size _ e.symm).1; omega)
      have hsz4 : W.heap.size ≤ w4.heap.size := Nat.le_trans hb3.size (Nat.le_trans (size_le_alloc _ _) hg4.size)
      have hk4 : KeepsOthers W w4 := (keeps_below hb3).trans ((KeepsOthers.alloc _ _).trans (keeps_grown q2w hg4))
      have hbel4 : Below w.heap.size W w4 := ((hb3.mono (Nat.le_of_lt q1.lt)).alloc (Nat.le_trans (Nat.le_of_lt q1.lt) hb3.size) _).grown hg4 (Nat.le_trans (Nat.le_of_lt q1.lt) (Nat.le_trans hb3.size (size_le_alloc _ _))) (fun g e => by have := (q2w.size g e).1; omega)
      have pp4 : Parts w4 (w.heap.size + 2) (sl ++ [(A3, m3, c3)]) (framesTo l (k + 1)) := by
        rw [HFT.out]
        refine Parts.snoc (Parts.grown ((q3'.out.below hb3).below (one_alloc _ _)) q2w hg4) ?_ HOKP.out
        have ho : Own (w3.alloc (.cells #[.slice A3 m3 c3] 27)) (w.heap.size + 2) (slV (A3, m3, c3)) pc := (Own.mono hown3 (by show w.heap.size + 2 ≤ W.heap.size; omega)).more _
        exact ho.far hg4 (own_apart ho q2w)
      obtain ⟨W5, hW5⟩ : ∃ W5, w4.setCell ⟨w.heap.size, 0, none⟩ (.slice A4 m4 e4) = W5 := ⟨_, rfl⟩
      have t4 : Boxed W5 w.heap.size 34 (.slice A4 m4 e4) := by rw [← hW5]; exact q14.set _
      have t5 : Boxed W5 (w.heap.size + 1) 27 (.slice A1 m1 c1) := by rw [← hW5]; exact p5.kept (grownBy_setCell' w4 _ _) (by simp)
      have to5 : OwnR 27 1 W5 (w.heap.size + 2) (.slice A4 m4 e4) ((sl ++ [(A3, m3, c3)]).map slR) := by rw [← hW5]; exact hown4.under (by omega)
      have tp5 : Parts W5 (w.heap.size + 2) (sl ++ [(A3, m3, c3)]) (framesTo l (k + 1)) := by rw [← hW5]; exact pp4.under (by omega)
      have tk5 : KeepsOthers W W5 := by rw [← hW5]; exact hk4.trans (KeepsOthers.setCell _ _ _)
      have tb5 : Below w.heap.size W W5 := by rw [← hW5]; exact hbel4.setCell (p := ⟨w.heap.size, 0, none⟩) (Nat.le_refl _) _
      rw [hW5]
      have x5 := t5.cell
      have y5 := t5.frozen
      have TO5 := Lib.hid to5
      have TP5 := Lib.hid tp5
      have TK5 := Lib.hid tk5
      have TB5 := Lib.hid tb5
      have Q5 := Lib.hid q5
      clear to5 tp5 tk5 tb5 q5 hW5 pp4 hbel4 hk4 p5 hown4 hg4 hrun q2w hcell3 hbt3 hown3 hb3 q13 q14 c43 c43a c44 f44 hrw4 c4 c5 f4 f5
      gi_wp2
      exact ⟨TK5.out.trans (KeepsOthers.setCell _ _ _), TB5.out.setCell (p := ⟨w.heap.size + 1, 0, none⟩) (Nat.le_succ _) _, ⟨_, _, t4.kept (grownBy_setCell' W5 _ _) (by simp), TO5.out.under (by omega), TP5.out.under (by omega)⟩, by rw [HNX.out]; exact t5.set _, Q5.out.trans (TB5.out.setCell (p := ⟨w.heap.size + 1, 0, none⟩) (Nat.le_succ _) _)⟩
  case done =>
    rintro D W hD ⟨⟨v, sl, q1, q2, q3⟩, q4, q5⟩ hDD
    have c4 := q1.cell
    have hbk := left_bts HB.out (cnt l) (Nat.le_refl _)
    have hll := hbk.len
    have hn1 : (leftAt l A n c (cnt l)).2.1 ≤ n := by rw [← hll, List.length_drop, HB.out.len]; omega
    obtain ⟨r, hr⟩ : ∃ r, leftAt l A n c (cnt l) = r := ⟨_, rfl⟩
    rw [hr] at hbk hn1 q4
    obtain ⟨A1, m1, c1⟩ := r
    simp only at hbk hn1
    have q4b : Boxed W (w.heap.size + 1) 27 (.slice A1 m1 c1) := q4
    have c5 := q4b.cell
    have hcl := clone_any A1 m1 c1 (restL l) W.drew ((hbk.below q5).draw1) (by omega)
    obtain ⟨A0, m0, e0, rfl, hrw0⟩ := q2.rws
    have HCL := Lib.hid (callsIn_wide (n := 9 - 1).2 hcl)
    have Q1 := Lib.hid q1
    have Q2 := Lib.hid q2
    have Q3 := Lib.hid q3
    have Q4 := Lib.hid q4b
    have Q5 := Lib.hid q5
    have hlt1 : w.heap.size < W.heap.size := q1.lt
    have hlt2 : w.heap.size + 1 < W.heap.size := q4b.lt
    clear hcl q1 q2 q3 q4 q4b q5 hbk hll hn1 hr hrw0 hb
    gi_wp2
    refine wpIn_region_any hmx ?_
    change wpAnyIn _ _ _ _ _ _ _ _ _ (World.drew _)
    refine wpAnyIn_ready (rs := [0, 1]) (by kernel_rfl) (by simp) (AllReadyIn.cons rfl (fun K hK => ?_) (AllReadyIn.cons rfl (fun K hK => ?_) AllReadyIn.nil))
    · go_simp
      refine hK _ _ ?_
      clear hK K
      refine wpAnyIn_ready (rs := [1]) (by kernel_rfl) (by simp) (AllReadyIn.cons rfl (fun K hK => ?_) AllReadyIn.nil)
      go_simp
      refine hK _ _ ?_
      clear hK K
      refine wpAnyIn_ready (rs := [2]) (by kernel_rfl) (by simp) (AllReadyIn.cons rfl (fun K hK => ?_) AllReadyIn.nil)
      go_simp
      refine ⟨trivial, ?_⟩
      gi_at_call 34
      refine HCL.out.mono ?_
      rintro e w3 ⟨v3, rfl, hown3, hb3⟩
      have hb3 : Below W.heap.size W w3 := below_draw hb3
      have c43 := (hb3.cell (p := ⟨w.heap.size, 0, none⟩) hlt1).trans c4
      have c53 := (hb3.cell (p := ⟨w.heap.size + 1, 0, none⟩) hlt2).trans c5
      simp only []
      refine hK _ _ ?_
      clear hK K
      refine wpAnyIn_ready (rs := [3]) (by kernel_rfl) (by simp) (AllReadyIn.cons rfl (fun K hK => ?_) AllReadyIn.nil)
      go_simp
      refine hK _ _ ?_
      clear hK K
      refine wpAnyIn_ready (rs := [4]) (by kernel_rfl) (by simp) (AllReadyIn.cons rfl (fun K hK => ?_) AllReadyIn.nil)
      go_simp
      refine hK _ _ ?_
      clear hK K
      refine wpAnyIn_done (by kernel_rfl) ?_ _
      gi_wp2
      have hD3 : w3.heap[D]? = some (.deferred (some [])) := (hb3.block _ (Array.getElem?_eq_some_iff.1 hDD).1).trans hDD
      refine ⟨by simp, .inl ⟨_, _, rfl, run_takeDeferred hD3, ?_⟩⟩
      refine ⟨_, results_tmp2 Try.results14 _ _ _, _, _, sl, rfl, ?_, ?_, ?_, ?_⟩
      · exact ((Q2.out.below hb3).turned _ hD3 rfl).mono (by omega)
      · exact ((Q3.out.below hb3).turned _ hD3 rfl).mono (by omega)
      · exact Own.turned _ (Own.mono hown3 (by show w.heap.size ≤ W.heap.size; omega)) hD3 rfl
      · exact (Q5.out.trans (hb3.mono (Nat.le_of_lt hlt1))).grown (grownBy_putObj' w3 D _) (Nat.le_trans (Nat.le_of_lt hlt1) hb3.size) (fun g e => by cases e; omega)
    · go_simp
      refine hK _ _ ?_
      clear hK K
      refine wpAnyIn_ready (rs := [0, 2]) (by kernel_rfl) (by simp) (AllReadyIn.cons rfl (fun K hK => ?_) (AllReadyIn.cons rfl (fun K hK => ?_) AllReadyIn.nil))
      · go_simp
        refine hK _ _ ?_
        clear hK K
        refine wpAnyIn_ready (rs := [2]) (by kernel_rfl) (by simp) (AllReadyIn.cons rfl (fun K hK => ?_) AllReadyIn.nil)
        go_simp
        refine ⟨trivial, ?_⟩
        gi_at_call 34
        refine HCL.out.mono ?_
        rintro e w3 ⟨v3, rfl, hown3, hb3⟩
        have hb3 : Below W.heap.size W w3 := below_draw hb3
        have c43 := (hb3.cell (p := ⟨w.heap.size, 0, none⟩) hlt1).trans c4
        have c53 := (hb3.cell (p := ⟨w.heap.size + 1, 0, none⟩) hlt2).trans c5
        simp only []
        refine hK _ _ ?_
        clear hK K
        refine wpAnyIn_ready (rs := [3]) (by kernel_rfl) (by simp) (AllReadyIn.cons rfl (fun K hK => ?_) AllReadyIn.nil)
        go_simp
        refine hK _ _ ?_
        clear hK K
        refine wpAnyIn_ready (rs := [4]) (by kernel_rfl) (by simp) (AllReadyIn.cons rfl (fun K hK => ?_) AllReadyIn.nil)
        go_simp
        refine hK _ _ ?_
        clear hK K
        refine wpAnyIn_done (by kernel_rfl) ?_ _
        gi_wp2
        have hD3 : w3.heap[D]? = some (.deferred (some [])) := (hb3.block _ (Array.getElem?_eq_some_iff.1 hDD).1).trans hDD
        refine ⟨by simp, .inl ⟨_, _, rfl, run_takeDeferred hD3, ?_⟩⟩
        refine ⟨_, results_tmp2 Try.results14 _ _ _, _, _, sl, rfl, ?_, ?_, ?_, ?_⟩
        · exact ((Q2.out.below hb3).turned _ hD3 rfl).mono (by omega)
        · exact ((Q3.out.below hb3).turned _ hD3 rfl).mono (by omega)
        · exact Own.turned _ (Own.mono hown3 (by show w.heap.size ≤ W.heap.size; omega)) hD3 rfl
        · exact (Q5.out.trans (hb3.mono (Nat.le_of_lt hlt1))).grown (grownBy_putObj' w3 D _) (Nat.le_trans (Nat.le_of_lt hlt1) hb3.size) (fun g e => by cases e; omega)
      · go_simp
        refine ⟨trivial, ?_⟩
        gi_at_call 34
        refine HCL.out.mono ?_
        rintro e w3 ⟨v3, rfl, hown3, hb3⟩
        have hb3 : Below W.heap.size W w3 := below_draw hb3
        have c43 := (hb3.cell (p := ⟨w.heap.size, 0, none⟩) hlt1).trans c4
        have c53 := (hb3.cell (p := ⟨w.heap.size + 1, 0, none⟩) hlt2).trans c5
        simp only []
        refine hK _ _ ?_
        clear hK K
        refine wpAnyIn_ready (rs := [0]) (by kernel_rfl) (by simp) (AllReadyIn.cons rfl (fun K hK => ?_) AllReadyIn.nil)
        go_simp
        refine hK _ _ ?_
        clear hK K
        refine wpAnyIn_ready (rs := [3]) (by kernel_rfl) (by simp) (AllReadyIn.cons rfl (fun K hK => ?_) AllReadyIn.nil)
        go_simp
        refine hK _ _ ?_
        clear hK K
        refine wpAnyIn_ready (rs := [4]) (by kernel_rfl) (by simp) (AllReadyIn.cons rfl (fun K hK => ?_) AllReadyIn.nil)
        go_simp
        refine hK _ _ ?_
        clear hK K
        refine wpAnyIn_done (by kernel_rfl) ?_ _
        gi_wp2
        have hD3 : w3.heap[D]? = some (.deferred (some [])) := (hb3.block _ (Array.getElem?_eq_some_iff.1 hDD).1).trans hDD
        refine ⟨by simp, .inl ⟨_, _, rfl, run_takeDeferred hD3, ?_⟩⟩
        refine ⟨_, results_tmp2 Try.results14 _ _ _, _, _, sl, rfl, ?_, ?_, ?_, ?_⟩
        · exact ((Q2.out.below hb3).turned _ hD3 rfl).mono (by omega)
        · exact ((Q3.out.below hb3).turned _ hD3 rfl).mono (by omega)
        · exact Own.turned _ (Own.mono hown3 (by show w.heap.size ≤ W.heap.size; omega)) hD3 rfl
        · exact (Q5.out.trans (hb3.mono (Nat.le_of_lt hlt1))).grown (grownBy_putObj' w3 D _) (Nat.le_trans (Nat.le_of_lt hlt1) hb3.size) (fun g e => by cases e; omega)
end Go.Proofs.Ytncedbjbooemjaa
