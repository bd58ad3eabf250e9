/- The walk over package term's Size: a closure that calls itself. -/
import Derived.Test.YtgldbjlifcfjlaaTrmSpec
import Derived.LoopN
namespace Go.Proofs.Ytgldbjlifcfjlaa
set_option linter.unusedVariables false
set_option linter.unusedSimpArgs false
open Go.RowKit

/-- behind a call that counts: the counter's box has risen, nothing else has turned -/
def Counts (g : Nat) (s : Int) (w : World) (e : Ending) (w' : World) : Prop := e = .returned (.tuple #[]) ∧ But g w w' ∧ Boxed w' g 3 (.int .i64 s)

set_option maxHeartbeats 1000000 in
theorem count_any (B g f : Nat) (hBg : B ≤ g) (hgf : f ≠ g) (w0 : World) : ∀ (t : Te) (k n : Int) (A : Option Addr) (m c : Nat), Is (· < B) w0 t k n A m c →
    ∀ (w : World) (i : Int), Below B w0 w → 0 ≤ i → i + t.size ≤ 4611686018427387904 → Boxed w g 3 (.int .i64 i) → Boxed w f 46 (.func (.func 32) #[] #[.pointer (some ⟨g, 0, none⟩), .pointer (some ⟨f, 0, none⟩)]) →
    Calls Try.prog 32 #[.agg #[.int .i64 k, .int .i64 n, .slice A m c], .pointer (some ⟨g, 0, none⟩), .pointer (some ⟨f, 0, none⟩)] w (Counts g (i + t.size) w) := by
  refine Is.ind fun k n l A m c hI ih w i hb hi0 hi1 hg hf => ?_
  have cg := hg.cell
  have fg := hg.frozen
  have lg := hg.lt
  have cf := hf.cell
  have IH := Lib.hid ih
  obtain ⟨hl, -, -, hm⟩ := hI.len
  have HI := Lib.hid hI
  have HL := Lib.hid hl
  clear ih hl hI
  simp only [Te.size] at hi1 ⊢
  go_enter Try.func32, Try.ntmps32
  go_wp2
  obtain ⟨W1, hW1⟩ : ∃ W1, (w.setCell ⟨g, 0, none⟩ (.int .i64 (i + 1))).alloc (.cells #[.int .i64 k, .int .i64 n, .slice A m c] 24) = W1 := ⟨_, rfl⟩
  have b1 : But g w W1 := by rw [← hW1]; exact ((But.refl g w).set _).alloc _
  have g1 : Boxed W1 g 3 (.int .i64 (i + 1)) := by rw [← hW1]; exact (hg.set _).alloc _
  rw [hW1]
  have B1 := Lib.hid b1
  have G1 := Lib.hid g1
  have HF := Lib.hid hf
  have HB := Lib.hid hb
  clear hW1 b1 g1 cg fg cf hg hf hb
  go_loopw [11] (fun v wr => ∃ j : Nat, j ≤ m ∧ v = .int .i64 j ∧ But g w wr ∧ Boxed wr g 3 (.int .i64 (i + 1 + Te.sizes (l.take j)))) (fun v _ => m - (intOf v).toNat)
  case atStart => exact ⟨0, Nat.zero_le _, rfl, B1.out, by simpa [Te.sizes] using G1.out⟩
  case round =>
    obtain ⟨j, hj, rfl, hbw, hgw⟩ := hrel
    by_cases hlt : j < m
    · have hjl : j < l.length := by rw [HL.out]; exact hlt
      have hb2 : Below B w0 wr := HB.out.trans (hbw.below hBg (by omega))
      obtain ⟨b, off, k', n', A', m', c', rfl, hPb, hbl, hI', h0, h1, h2⟩ := HI.out.arg j hlt hjl
      have c0 := (hb2.cell (p := ⟨b, off + j * 3, none⟩) hPb).trans h0
      have c1 := (hb2.cell (p := ⟨b, off + j * 3 + 1, none⟩) hPb).trans h1
      have c2 := (hb2.cell (p := ⟨b, off + j * 3 + 2, none⟩) hPb).trans h2
      have hfw := hbw.boxed HF.out hgf
      have hpw := (hgw.alloc (.cells #[.int .i64 k', .int .i64 n', .slice A' m' c'] 24))
      have hfw2 := (hfw.alloc (.cells #[.int .i64 k', .int .i64 n', .slice A' m' c'] 24))
      have cf := hfw2.cell
      have hb3 := hb2.alloc (by have := hgw.lt; omega) (.cells #[.int .i64 k', .int .i64 n', .slice A' m' c'] 24)
      have hcall := IH.out j hjl k' n' A' m' c' hI' _ _ hb3 (by omega) (by have := Te.size_mem hjl; omega) hpw hfw2
      have HC := Lib.hid hcall
      have HBW := Lib.hid hbw
      have HST := Lib.hid (Te.sizes_take l j hjl)
      clear h0 h1 h2 hb2 hbw hgw hfw hpw hfw2 hb3 hcall hI'
      go_wp2_with (go_at_call 32; refine HC.out.mono ?_; rintro e w1 ⟨rfl, hb4, hg4⟩)
      go_roundw
      case rel => exact ⟨j + 1, by omega, by go_num, HBW.out.trans (((But.refl g _).alloc _).trans hb4), by rw [HST.out, Int.natCast_add, ← Int.add_assoc]; exact hg4⟩
      case measure => simp [intOf]; omega
    · have hjm : j = m := by omega
      rw [hjm, ← HL.out, List.take_length] at hgw
      have HG := Lib.hid hgw
      have HBW := Lib.hid hbw
      clear hgw hbw
      go_wp2
      go_end0
      have e : i + ((Te.sizes l + 1 : Nat) : Int) = i + 1 + (Te.sizes l : Int) := by omega
      exact ⟨rfl, HBW.out, by rw [e]; exact HG.out⟩

/-- behind a call that gives a number, and leaves all that was there -/
def GivesN (s : Int) (w : World) (e : Ending) (w' : World) : Prop := e = .returned (.int .i64 s) ∧ Below w.heap.size w w'
theorem hmf : ∀ (fn : Fn) (first cap : Array Value) (w : World), (Instr.makeFunc fn first cap).run Try.prog w = .ok (.func fn first cap) w := fun _ _ _ _ => rfl
/-- the world in which a closure that calls itself is called: what came in, a variable, the closure -/
theorem three_boxes (w : World) (o : Obj) (t2 t3 : TypeId) (v2 v3 : Value) : Below w.heap.size w (((w.alloc o).alloc (.cells #[v2] t2)).alloc (.cells #[v3] t3)) ∧
    Boxed (((w.alloc o).alloc (.cells #[v2] t2)).alloc (.cells #[v3] t3)) (w.heap.size + 1) t2 v2 ∧ Boxed (((w.alloc o).alloc (.cells #[v2] t2)).alloc (.cells #[v3] t3)) (w.heap.size + 1 + 1) t3 v3 := by
  have e1 : (w.alloc o).heap.size = w.heap.size + 1 := by simp
  have e2 : ((w.alloc o).alloc (.cells #[v2] t2)).heap.size = w.heap.size + 1 + 1 := by simp
  refine ⟨three_below w _ _ _, ?_, ?_⟩
  · have := (Boxed.new (w.alloc o) t2 v2).alloc (.cells #[v3] t3)
    rwa [e1] at this
  · have := Boxed.new ((w.alloc o).alloc (.cells #[v2] t2)) t3 v3
    rwa [e2] at this

set_option maxHeartbeats 1000000 in
theorem size_any (P : Nat → Prop) (t : Te) (k n : Int) (A : Option Addr) (m c : Nat) (w : World) (hI : Is P w t k n A m c) (hs : (t.size : Int) ≤ 4611686018427387904) :
    Calls Try.prog 19 #[.agg #[.int .i64 k, .int .i64 n, .slice A m c]] w (GivesN t.size w) := by
  have hmf := hmf
  obtain ⟨hb, hg, hf⟩ := three_boxes w (.cells #[.int .i64 k, .int .i64 n, .slice A m c] 24) 3 46 (.int .i64 0) (.func (.func 32) #[] #[.pointer (some ⟨w.heap.size + 1, 0, none⟩), .pointer (some ⟨w.heap.size + 1 + 1, 0, none⟩)])
  have HC := Lib.hid (count_any w.heap.size (w.heap.size + 1) (w.heap.size + 1 + 1) (by omega) (by omega) w t k n A m c hI.old _ 0 hb (by omega) (by omega) hg hf)
  have HB := Lib.hid hb
  clear hb hg hf hI
  go_enter Try.func19, Try.ntmps19
  go_wp2_with (go_at_call 32; refine HC.out.mono ?_; rintro e w1 ⟨rfl, hb4, hg4⟩; have cg := hg4.cell; have HG := Lib.hid hg4; have HB4 := Lib.hid hb4; clear hg4 hb4)
  go_ret
  exact ⟨rfl, HB.out.trans (HB4.out.below (by omega) (by simp; omega))⟩
end Go.Proofs.Ytgldbjlifcfjlaa
