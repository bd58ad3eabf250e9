/- Joined texts: Worlds: what a call leaves as it was; blocks behind new blocks; cells that are overwritten. Slices and arrays of bytes: what they read as; the call's own; append, make, copy, pieces, text. Stores, plainly: room, bytes, how many are sure; which may be, and what is done to one. What is done to stores, plainly: what stays, and what a crash leaves. Numbers as bytes, the highest byte first, as functions of lists. -/
import Derived.Test.YtafmompplcaadaaGreatDoorRows
import Derived.WalkKit
import Derived.WalkSpells
import Derived.WalkLawsBesides
import Derived.Deep.QuietTactic
import Derived.BigQuiet
import Derived.StillTailTactics
import Derived.Lib.Hide
import Derived.Laws.CopyOwn
import Derived.OwnWalk
import Derived.Deep.MidRow
import Derived.Deep.RegionHeld3
import Derived.Laws.AppendOwnNone
import Derived.Laws.OwnMore
import Derived.Laws.StructEq
import Derived.Laws.BytesString
import Derived.Laws.Concat
import Derived.Lib.AppendStr
import Derived.Laws.ResultCell
import GoSem.Claim
/- Worlds: what a call leaves as it was; blocks behind new blocks; cells that are overwritten. -/
namespace Go.Proofs.YtafmompplcaadaaGreatDoor
open Go.RowKit

/-- a call behind two new blocks: what is left of them -/
theorem after_two {w w1 : World} {o1 o2 : Obj} (h : Below ((w.alloc o1).alloc o2).heap.size ((w.alloc o1).alloc o2) w1) :
    Below w.heap.size w w1 ∧ w.heap.size + 2 ≤ w1.heap.size ∧ w1.heap[w.heap.size]? = some o1 ∧ w1.heap[w.heap.size + 1]? = some o2 := by
  have hs : ((w.alloc o1).alloc o2).heap.size = w.heap.size + 2 := by simp
  have hb : Below w.heap.size w ((w.alloc o1).alloc o2) := ((Below.refl _ _).alloc (Nat.le_refl _) _).alloc (by simp) _
  rw [hs] at h
  exact ⟨hb.trans (h.mono (by omega)), by have := h.size; omega, (h.block _ (by omega)).trans (heap_alloc2_old w _ _), (h.block _ (by omega)).trans (heap_alloc2_new w _ _)⟩
theorem after_one {w w1 : World} {o1 : Obj} (h : Below (w.alloc o1).heap.size (w.alloc o1) w1) :
    Below w.heap.size w w1 ∧ w.heap.size + 1 ≤ w1.heap.size ∧ w1.heap[w.heap.size]? = some o1 := by
  have hs : (w.alloc o1).heap.size = w.heap.size + 1 := by simp
  have hb : Below w.heap.size w (w.alloc o1) := (Below.refl _ _).alloc (Nat.le_refl _) _
  rw [hs] at h
  exact ⟨hb.trans (h.mono (by omega)), by have := h.size; omega, (h.block _ (by omega)).trans (heap_alloc_new w _)⟩
theorem two_below (w : World) (o1 o2 : Obj) : Below w.heap.size w ((w.alloc o1).alloc o2) := ((Below.refl _ _).alloc (Nat.le_refl _) _).alloc (by simp) _
theorem below_draw {w w' : World} (h : Below w.drew.heap.size w.drew w') : Below w.heap.size w w' := (Below.refl _ w).drew.trans h
theorem Below.grows {B g : Nat} {w w1 w2 : World} (h : Below B w w1) (hg : w1.grownBy w2 (some g)) (hB : B ≤ w1.heap.size) (hr : B ≤ g) : Below B w w2 :=
  h.grown hg hB (fun k e => by injection e with e; omega)
theorem ne_some {a b : Nat} (h : a ≠ b) : some a ≠ some b := fun e => h (Option.some.inj e)
theorem grown_setRow (w : World) (g : Nat) (cs : Array Value) : w.grownBy (w.setRow g cs) (some g) :=
  ⟨rfl, rfl, rfl, by simp, fun k _ hk => setRow_other w g k _ (fun e => hk (by rw [e]))⟩
theorem three_below (w : World) (o1 o2 o3 : Obj) : Below w.heap.size w (((w.alloc o1).alloc o2).alloc o3) := (two_below w o1 o2).alloc (by simp; omega) _
theorem size_le_alloc (w : World) (o : Obj) : w.heap.size ≤ (w.alloc o).heap.size := by simp
/-- a world of three new blocks, under a name -/
theorem named_three {w W : World} {o1 o2 o3 : Obj} (h : ((w.alloc o1).alloc o2).alloc o3 = W) :
    Below w.heap.size w W ∧ w.heap.size + 3 = W.heap.size ∧ W.heap[w.heap.size]? = some o1 ∧ W.heap[w.heap.size + 1]? = some o2 := by
  subst h
  have hs2 : ((w.alloc o1).alloc o2).heap.size = w.heap.size + 2 := by simp
  refine ⟨three_below w o1 o2 o3, by simp, ?_, ?_⟩
  · exact (Below.heap_alloc _ _ _ (by omega)).trans (heap_alloc2_old w _ _)
  · exact (Below.heap_alloc _ _ _ (by omega)).trans (heap_alloc2_new w _ _)
/-- a call behind three new blocks: what is left of them -/
theorem after_3 {w w1 : World} {o1 o2 o3 : Obj} (h : Below (((w.alloc o1).alloc o2).alloc o3).heap.size (((w.alloc o1).alloc o2).alloc o3) w1) :
    Below w.heap.size w w1 ∧ w.heap.size + 3 ≤ w1.heap.size ∧ w1.heap[w.heap.size]? = some o1 ∧ w1.heap[w.heap.size + 1]? = some o2 ∧ w1.heap[w.heap.size + 2]? = some o3 := by
  have hs : (((w.alloc o1).alloc o2).alloc o3).heap.size = w.heap.size + 3 := by simp
  have hs2 : ((w.alloc o1).alloc o2).heap.size = w.heap.size + 2 := by simp
  rw [hs] at h
  refine ⟨(three_below w o1 o2 o3).trans (h.mono (by omega)), by have := h.size; omega, (h.block _ (by omega)).trans ?_, (h.block _ (by omega)).trans ?_, (h.block _ (by omega)).trans ?_⟩
  · exact (Below.heap_alloc _ _ _ (by omega)).trans (heap_alloc2_old w _ _)
  · exact (Below.heap_alloc _ _ _ (by omega)).trans (heap_alloc2_new w _ _)
  · rw [← hs2]
    exact heap_alloc_new _ _
/-- whole cells of a block, overwritten -/
theorem setCells_heap (g : Nat) (t : TypeId) : ∀ (vs : List Value) (o : Nat) (w : World) (cs : List Value), w.heap[g]? = some (.cells cs.toArray t (0, 0)) → o + vs.length ≤ cs.length →
    (w.setCells g o vs).heap[g]? = some (.cells (cs.take o ++ vs ++ cs.drop (o + vs.length)).toArray t (0, 0))
  | [], o, w, cs, h, _ => by
    simp only [World.setCells, List.append_nil, List.length_nil, Nat.add_zero, List.take_append_drop]
    exact h
  | v :: r, o, w, cs, h, hl => by
    have h1 := heap_setCell_same w g o cs.toArray t v h
    simp only [List.setIfInBounds_toArray] at h1
    have h2 := setCells_heap g t r (o + 1) (w.setCell ⟨g, o, none⟩ v) (cs.set o v) h1 (by simp at hl ⊢; omega)
    rw [World.setCells, h2]
    congr 2
    have ho : o < cs.length := by simp at hl; omega
    rw [List.take_set, List.drop_set_of_lt (by omega)]
    have e1 : (cs.take (o + 1)).set o v = cs.take o ++ [v] := by
      rw [List.take_succ_eq_append_getElem ho, List.set_append_right _ _ (by simp; omega)]
      simp [List.length_take, Nat.min_eq_left (Nat.le_of_lt ho)]
    rw [e1]
    simp [List.append_assoc, Nat.add_comm, Nat.add_left_comm]
theorem setCells_all {g : Nat} {t : TypeId} {vs cs : List Value} {w : World} (h : w.heap[g]? = some (.cells cs.toArray t (0, 0))) (hl : vs.length = cs.length) :
    (w.setCells g 0 vs).heap[g]? = some (.cells vs.toArray t (0, 0)) := by
  rw [setCells_heap g t vs 0 w cs h (by omega)]
  congr 2
  rw [List.take_zero, List.nil_append, Nat.zero_add, hl, List.drop_length, List.append_nil]
theorem setCells_below {B : Nat} {w0 : World} {g : Nat} (hg : B ≤ g) : ∀ (vs : List Value) (o : Nat) (w : World), Below B w0 w → Below B w0 (w.setCells g o vs)
  | [], _, _, h => h
  | v :: r, o, _, h => setCells_below hg r (o + 1) _ (h.setCell hg v)
theorem setCells_off {g k : Nat} (hk : k ≠ g) : ∀ (vs : List Value) (o : Nat) (w : World), (w.setCells g o vs).heap[k]? = w.heap[k]?
  | [], _, _ => rfl
  | _ :: r, o, _ => (setCells_off hk r (o + 1) _).trans (heap_setCell_other _ _ _ _ hk)
theorem there_of {w : World} {g : Nat} {t : TypeId} {cs : Array Value} (h : w.heap[g]? = some (.cells cs t (0, 0))) {n : Nat} (hn : cs.size = n) : w.there g 0 n := by
  intro j hj
  rw [Nat.zero_add]
  exact ⟨by rw [cell_of_row _ _ _ _ _ _ h]; simp; omega, frozen_of_row _ _ j _ _ h⟩
/-- a world of one new block, under a name -/
theorem named_one {w W : World} {o1 : Obj} (h : w.alloc o1 = W) : Below w.heap.size w W ∧ w.heap.size + 1 = W.heap.size ∧ W.heap[w.heap.size]? = some o1 := by
  subst h
  exact ⟨(Below.refl _ _).alloc (Nat.le_refl _) _, by simp, heap_alloc_new w _⟩
theorem below_then {B : Nat} {w W w' : World} (h : Below B w W) (hB : B ≤ W.heap.size) (hb : Below W.heap.size W w') : Below B w w' := h.trans (hb.mono hB)
theorem drew_alloc (w : World) (o : Obj) : Below w.heap.size w (w.drew.alloc o) := ((Below.refl _ w).drew).alloc (Nat.le_refl _) o
theorem one_alloc (w : World) (o : Obj) : Below w.heap.size w (w.alloc o) := (Below.refl _ w).alloc (Nat.le_refl _) o
theorem after_drew {w w1 : World} {o1 : Obj} (h : Below (w.drew.alloc o1).heap.size (w.drew.alloc o1) w1) : w1.heap[w.heap.size]? = some o1 := (after_one (w := w.drew) h).2.2
theorem after_alloc {w w1 : World} {o1 : Obj} (h : Below (w.alloc o1).heap.size (w.alloc o1) w1) : w1.heap[w.heap.size]? = some o1 := (after_one h).2.2
theorem mac_alloc (w : World) (o : Obj) : Below w.heap.size w (w.alloc o) := (Below.refl _ w).alloc (Nat.le_refl _) o
theorem size_next (w : World) (o : Obj) : (w.alloc o).heap.size = w.heap.size + 1 := by simp
theorem mac_one (w : World) (o : Obj) : Below w.heap.size w (w.alloc o) := (Below.refl _ w).alloc (Nat.le_refl _) o
theorem size_next1 (w : World) (o : Obj) : (w.alloc o).heap.size = w.heap.size + 1 := by simp
theorem size_two (w : World) (o1 o2 : Obj) : w.heap.size + 1 ≤ ((w.alloc o1).alloc o2).heap.size ∧ w.heap.size < ((w.alloc o1).alloc o2).heap.size := by
  simp; omega
theorem ret_bool {a b : Bool} (h : a = b) : Ending.returned (.bool a) = .returned (.bool b) := by rw [h]
theorem ret_int {a b : Int} (h : a = b) : Ending.returned (.int .i64 a) = .returned (.int .i64 b) := by rw [h]
end Go.Proofs.YtafmompplcaadaaGreatDoor

/- Slices and arrays of bytes: what they read as; the call's own; append, make, copy, pieces, text. -/
namespace Go.Proofs.YtafmompplcaadaaGreatDoor
set_option maxRecDepth 100000
open Go.RowKit

/-- bytes, as cells -/
def byv (l : List Int) : List Value := l.map (Value.int .u8)
theorem byv_length (l : List Int) : (byv l).length = l.length := by simp [byv]
theorem byv_get (l : List Int) (i : Nat) (h : i < l.length) : (byv l)[i]? = some (.int .u8 (l.getD i 0)) := by
  simp [byv, List.getD_eq_getElem?_getD, h]
theorem byv_append (l m : List Int) : byv (l ++ m) = byv l ++ byv m := by simp [byv]
theorem byv_one (l : List Int) : ∀ u ∈ byv l, u.oneCell' = true := by
  intro u hu
  simp only [byv, List.mem_map] at hu
  obtain ⟨x, _, rfl⟩ := hu
  rfl
/-- the slice value A, n, cap reads as the bytes l -/
structure Bts (w : World) (A : Option Addr) (n cap : Nat) (l : List Int) : Prop where
  len : l.length = n
  le : n ≤ cap
  max : cap ≤ maxLen
  ok : ∀ j, 0 ≤ l.getD j 0 ∧ l.getD j 0 < 256
  bare : A = none → cap = 0
  at_ : 0 < n → ∃ b off, A = some ⟨b, off, none⟩ ∧ ∀ j, j < n → w.cell? ⟨b, off + j, none⟩ = some (.int .u8 (l.getD j 0))
theorem size_u8 (w : World) : (sizeOf (Tryz.prog.elem 22)).run Tryz.prog w = .ok 1 w := by
  have he : Tryz.prog.elem 22 = 5 := by kernel_rfl
  have hq : (Tryz.prog.info? 5).map (·.size) = some 1 := by kernel_rfl
  rw [he]
  cases hi : Tryz.prog.info? 5 with
  | none => simp [hi] at hq
  | some i => simp [hi] at hq; simp [sizeOf, typeInfo, hi, hq]
/-- a piece of a slice of bytes -/
theorem run_cut (b off n cap lo hi : Nat) (l h : Int) (hl : l = lo) (hh : h = hi) (h1 : lo ≤ hi) (h2 : hi ≤ cap) (hlt : lo < cap) (w : World) :
    (Instr.slice 22 (.slice (some ⟨b, off, none⟩) n cap) (some (.int .i64 l)) (some (.int .i64 h)) none).run Tryz.prog w = .ok (.slice (some ⟨b, off + lo, none⟩) (hi - lo) (cap - lo)) w := by
  subst hl hh
  rw [run_slice_lh (P := Tryz.prog) w 22 (some ⟨b, off, none⟩) n cap (by kernel_rfl) .i64 .i64 lo hi (by omega) (by omega) (by omega), size_u8]
  simp only [Result.andThen_ok, sliced, Int.toNat_natCast]
  rw [if_neg (by omega)]
  simp only [Option.map_some, Nat.mul_one]
  congr 3
  unfold Addr.add
  split
  · rename_i h0; subst h0; rfl
  · rfl
theorem add_addr (b off j : Nat) : (⟨b, off, none⟩ : Addr).add j = ⟨b, off + j, none⟩ := by
  unfold Addr.add
  split
  · rename_i h0; subst h0; rfl
  · rfl
/-- a piece with an end to its room -/
theorem run_cut3 (b off n cap lo hi mx : Nat) (l h m : Int) (hl : l = lo) (hh : h = hi) (hm : m = mx) (h1 : lo ≤ hi) (h2 : hi ≤ mx) (h3 : mx ≤ cap) (hlt : lo < mx) (w : World) :
    (Instr.slice 22 (.slice (some ⟨b, off, none⟩) n cap) (some (.int .i64 l)) (some (.int .i64 h)) (some (.int .i64 m))).run Tryz.prog w = .ok (.slice (some ⟨b, off + lo, none⟩) (hi - lo) (mx - lo)) w := by
  subst hl hh hm
  rw [run_slice_lhm (P := Tryz.prog) w 22 (some ⟨b, off, none⟩) n cap (by kernel_rfl) .i64 .i64 .i64 lo hi mx (by omega) (by omega) (by omega) (by omega), size_u8]
  simp only [Result.andThen_ok, sliced, Int.toNat_natCast]
  rw [if_neg (by omega)]
  simp only [Option.map_some, Nat.mul_one, add_addr]
theorem Bts.below {w w' : World} {A : Option Addr} {n cap : Nat} {l : List Int} (h : Bts w A n cap l) (hb : Below w.heap.size w w') : Bts w' A n cap l := by
  refine ⟨h.len, h.le, h.max, h.ok, h.bare, fun hn => ?_⟩
  obtain ⟨b, off, hA, hc⟩ := h.at_ hn
  exact ⟨b, off, hA, fun j hj => (hb.cell (p := ⟨b, off + j, none⟩) (block_lt_of_cell (hc j hj))).trans (hc j hj)⟩
theorem Bts.draw {w : World} {A : Option Addr} {n cap : Nat} {l : List Int} (h : Bts w A n cap l) (k : Nat) : Bts (w.drewN k) A n cap l := ⟨h.len, h.le, h.max, h.ok, h.bare, h.at_⟩
theorem Bts.draw1 {w : World} {A : Option Addr} {n cap : Nat} {l : List Int} (h : Bts w A n cap l) : Bts w.drew A n cap l := ⟨h.len, h.le, h.max, h.ok, h.bare, h.at_⟩
theorem Bts.more {w : World} {A : Option Addr} {n cap : Nat} {l : List Int} (h : Bts w A n cap l) (o : Obj) : Bts (w.alloc o) A n cap l := h.below ((Below.refl _ _).alloc (Nat.le_refl _) _)
theorem Bts.nil (w : World) : Bts w none 0 0 [] := ⟨rfl, Nat.le_refl _, by unfold maxLen; omega, fun j => by simp, fun _ => rfl, fun h => by omega⟩
theorem ok_append {l m : List Int} (h : ∀ j, 0 ≤ l.getD j 0 ∧ l.getD j 0 < 256) (k : ∀ j, 0 ≤ m.getD j 0 ∧ m.getD j 0 < 256) : ∀ j, 0 ≤ (l ++ m).getD j 0 ∧ (l ++ m).getD j 0 < 256 := by
  intro j
  have h1 := h j
  have h2 := k (j - l.length)
  simp only [List.getD_eq_getElem?_getD, List.getElem?_append] at *
  split
  · exact h1
  · exact h2
/-- a slice of bytes that the call made itself -/
def Own (w : World) (base : Nat) (v : Value) (l : List Int) : Prop := w.ownsRow base 5 1 v l.length (byv l)
theorem Own.is {w : World} {base : Nat} {v : Value} {l : List Int} (h : Own w base v l) : w.ownsRow base 5 1 v l.length (byv l) := h
theorem Own.of {w : World} {base : Nat} {v : Value} {l : List Int} (h : w.ownsRow base 5 1 v l.length (byv l)) : Own w base v l := h
theorem Own.nil (w : World) (base : Nat) : Own w base (.slice none 0 0) [] := World.ownsRow_nil _ _ _ _
theorem Own.more {w : World} {base : Nat} {v : Value} {l : List Int} (h : Own w base v l) (o : Obj) : Own (w.alloc o) base v l := World.ownsRow.alloc h o
theorem Own.draw {w : World} {base : Nat} {v : Value} {l : List Int} (h : Own w base v l) (k : Nat) : Own (w.drewN k) base v l := h
theorem Own.draw1 {w : World} {base : Nat} {v : Value} {l : List Int} (h : Own w base v l) : Own w.drew base v l := h
theorem Own.mono {w : World} {base b : Nat} {v : Value} {l : List Int} (h : Own w base v l) (hb : b ≤ base) : Own w b v l := by
  refine ⟨h.1, ?_⟩
  rcases h.2 with h0 | ⟨g, cap, cur, hv, hg, rest⟩
  · exact .inl h0
  · exact .inr ⟨g, cap, cur, hv, Nat.le_trans hb hg, rest⟩
theorem Own.below {w w' : World} {base : Nat} {v : Value} {l : List Int} (h : Own w base v l) (hb : Below w.heap.size w w') : Own w' base v l := by
  refine ⟨h.1, ?_⟩
  rcases h.2 with h0 | ⟨g, cap, cur, hv, hg, hh, rest⟩
  · exact .inl h0
  · exact .inr ⟨g, cap, cur, hv, hg, (hb.block g (Array.getElem?_eq_some_iff.1 hh).1).trans hh, rest⟩
theorem Own.far {w w' : World} {base : Nat} {v : Value} {l : List Int} {row : Option Nat} (h : Own w base v l) (hg : w.grownBy w' row) (hne : v.ownBlock = none ∨ v.ownBlock ≠ row) : Own w' base v l := World.ownsRow.kept h hg hne
theorem Own.bts {w : World} {base : Nat} {v : Value} {l : List Int} (h : Own w base v l) (hok : ∀ j, 0 ≤ l.getD j 0 ∧ l.getD j 0 < 256) : ∃ A cap, v = .slice A l.length cap ∧ Bts w A l.length cap l := by
  rcases h.2 with ⟨hv, hn⟩ | ⟨g, cap, cur, hv, _, hh, hnc, hcm, hcs, htake⟩
  · refine ⟨none, 0, by rw [hv, hn], ?_⟩
    obtain rfl : l = [] := List.eq_nil_of_length_eq_zero hn
    exact Bts.nil w
  · refine ⟨some ⟨g, 0, none⟩, cap, hv, rfl, hnc, hcm, hok, (fun e => by cases e), fun hn => ⟨g, 0, rfl, fun j hj => ?_⟩⟩
    rw [Nat.zero_add, cell_of_row _ _ _ _ _ _ hh, ← byv_get l j hj, ← htake, List.getElem?_take, if_pos (by omega)]
    simp
theorem Own.size {w : World} {base : Nat} {v : Value} {l : List Int} (h : Own w base v l) : ∀ k, v.ownBlock = some k → base ≤ k ∧ k < w.heap.size := World.ownsRow.lt h
theorem info_u8 : (Tryz.prog.info? 5).map (fun i => (i.zero, i.size, i.bytes)) = some (some (.int .u8 0), 1, 1) := by kernel_rfl
/-- append(v, s...): v the call's own, s whatever -/
theorem wpList_append_b {w : World} {ops : Array Oper} {rest : List Oper} {o : Oper} {a : Act} {Q : Exit → Act → World → Prop} (hgd : o.guard = none) (s x : Operand)
    (ho : o.op = .call { callee := .builtin .append, args := #[s, x], argTypes := #[22, 22] })
    (base : Nat) (v : Value) (l : List Int) (hs : a.eval s = v) (hown : Own w base v l) (A : Option Addr) (m c : Nat) (l2 : List Int) (hx : a.eval x = .slice A m c) (hr : Bts w A m c l2)
    (hsmall : l.length + m ≤ 140737488355328) (hbase : base ≤ w.heap.size)
    (h : ∀ v' w', Own w' base v' (l ++ l2) → w.grownBy w' v.ownBlock → wpList Tryz.prog ops Q rest (a.put o.dst v') w') : wpList Tryz.prog ops Q (o :: rest) a w := by
  obtain ⟨i, hi, hz, h1, h2⟩ := info_parts info_u8
  have hl2 : (byv l2).length = m * 1 := by rw [byv_length, hr.len, Nat.mul_one]
  rcases A with _ | ad
  · obtain rfl := hr.bare rfl
    have hm : m = 0 := by have := hr.le; omega
    subst hm
    obtain rfl : l2 = [] := List.eq_nil_of_length_eq_zero hr.len
    refine wpList_append_own_none hgd s x 22 ho base 5 i 1 Tryz.underlying22 hi v l.length (byv l) hs hown hx ?_
    exact h v w (by simpa using hown) (World.grownBy.refl w _)
  · refine wpList_append_own (P := Tryz.prog) w hgd s x 22 ho base 5 i (.int .u8 0) 1 1 Tryz.underlying22 hi hz h1 h2 rfl (by omega) v l.length (byv l) hs hown ad m c (byv l2) hx hl2 ?_ (byv_one l2) (by unfold maxLen; omega) (by omega) hbase ?_
    · intro j u hu
      have hj : j < l2.length := by
        have := (List.getElem?_eq_some_iff.1 hu).1
        rwa [byv_length] at this
      rw [byv_get l2 j hj] at hu
      obtain ⟨b, off, hA, hc⟩ := hr.at_ (by have := hr.len; omega)
      have hA := Option.some.inj hA
      subst hA
      have hadd : (⟨b, off, none⟩ : Addr).add j = ⟨b, off + j, none⟩ := by
        unfold Addr.add
        split
        · rename_i h0; subst h0; rfl
        · rfl
      rw [hadd, hc j (by have := hr.len; omega), hu]
    · intro v' w' hown' hg _
      refine h v' w' ?_ hg
      unfold Own
      rw [byv_append, List.length_append, hr.len]
      exact hown'
/-- make([]byte, 0, n) -/
theorem wpList_make_b {w : World} {ops : Array Oper} {rest : List Oper} {o : Oper} {a : Act} {Q : Exit → Act → World → Prop} (hgd : o.guard = none) (l c : Operand) (ho : o.op = Op.makeSlice 22 l c)
    (base : Nat) (C : Int) (n : Nat) (hl : a.eval l = .int .i64 0) (hc : a.eval c = .int .i64 C) (hC : C = (n : Int)) (hn : n ≤ 281474976710656) (hb : base ≤ w.heap.size)
    (h : ∀ v' w', Own w' base v' [] → w.grownBy w' none → wpList Tryz.prog ops Q rest (a.put o.dst v') w') : wpList Tryz.prog ops Q (o :: rest) a w := by
  obtain ⟨i, hi, hz, h1, h2⟩ := info_parts info_u8
  exact wpList_make_own w hgd l c 22 ho base 5 i (.int .u8 0) 1 Tryz.underlying22 hi hz h1 .i64 .i64 C n hl hc hC (by rw [h2]; omega) (by unfold maxLen; omega) hb
    (fun w' r1 r2 => h _ w' r1 r2)
theorem getD_piece (l : List Int) (a j : Nat) (h : j < 64) : ((l.drop a).take 64).getD j 0 = l.getD (a + j) 0 := by
  simp [List.getD_eq_getElem?_getD, h, List.getElem?_drop]
theorem ok_piece (l : List Int) (h : ∀ j, 0 ≤ l.getD j 0 ∧ l.getD j 0 < 256) (a n : Nat) : ∀ j, 0 ≤ ((l.drop a).take n).getD j 0 ∧ ((l.drop a).take n).getD j 0 < 256 := by
  intro j
  have := h (a + j)
  simp only [List.getD_eq_getElem?_getD, List.getElem?_take, List.getElem?_drop] at this ⊢
  split
  · exact this
  · simp
def lenV : Value → Nat
  | .slice _ n _ => n
  | _ => 0
theorem ok_rep (k : Nat) : ∀ j, 0 ≤ (List.replicate k (0 : Int)).getD j 0 ∧ (List.replicate k (0 : Int)).getD j 0 < 256 := by
  intro j
  simp only [List.getD_eq_getElem?_getD, List.getElem?_replicate]
  split <;> simp
theorem ok_one1 (x : Int) (h0 : 0 ≤ x) (h : x < 256) : ∀ j, 0 ≤ ([x] : List Int).getD j 0 ∧ ([x] : List Int).getD j 0 < 256 := by
  intro j
  match j with
  | 0 => exact ⟨h0, h⟩
  | j + 1 => simp
theorem ok_map (f : Nat → Int) (hf : ∀ i, 0 ≤ f i ∧ f i < 256) (k : Nat) : ∀ j, 0 ≤ ((List.range k).map f).getD j 0 ∧ ((List.range k).map f).getD j 0 < 256 := by
  intro j
  simp only [List.getD_eq_getElem?_getD, List.getElem?_map]
  cases h : (List.range k)[j]? with
  | none => simp
  | some i => exact hf i
theorem one_bts (w : World) (x : Int) (h0 : 0 ≤ x) (h : x < 256) : Bts (w.alloc (.cells #[.int .u8 x] 5)) (some ⟨w.heap.size, 0, none⟩) 1 1 [x] := by
  refine ⟨rfl, Nat.le_refl _, by unfold maxLen; omega, ok_one1 x h0 h, (fun e => by cases e), fun _ => ⟨w.heap.size, 0, rfl, fun j hj => ?_⟩⟩
  obtain rfl : j = 0 := by omega
  exact (cell_of_row _ _ _ _ _ _ (heap_alloc_new w _)).trans rfl
theorem one_own (w : World) (x : Int) : Own (w.alloc (.cells #[.int .u8 x] 5)) w.heap.size (.slice (some ⟨w.heap.size, 0, none⟩) 1 1) [x] :=
  ⟨rfl, .inr ⟨w.heap.size, 1, #[.int .u8 x], rfl, Nat.le_refl _, heap_alloc_new w _, Nat.le_refl _, by unfold maxLen; omega, rfl, rfl⟩⟩
/-- an array of bytes, as cells -/
def idv (l : List Int) : Array Value := (byv l).toArray
theorem idv_size (l : List Int) : (idv l).size = l.length := by simp [idv, byv]
theorem idv_get (l : List Int) (i : Nat) (h : i < l.length) : (idv l)[i]? = some (.int .u8 (l.getD i 0)) := by
  simp [idv, byv, List.getD_eq_getElem?_getD, h]
theorem idv_set (l : List Int) (i : Nat) (v : Int) : (idv l).setIfInBounds i (.int .u8 v) = idv (l.set i v) := by
  simp [idv, byv, List.map_set]
theorem idv_one (l : List Int) : (idv l).all (·.oneCell') = true := by
  simp only [idv, byv, List.all_toArray, List.all_map, List.all_eq_true]
  intro x _
  rfl
def RowB (w : World) (g : Nat) (t : TypeId) (l : List Int) : Prop := w.heap[g]? = some (.cells (idv l) t (0, 0))
section
variable {w w' : World} {g : Nat} {t : TypeId} {l : List Int}
theorem RowB.lt (h : RowB w g t l) : g < w.heap.size := (Array.getElem?_eq_some_iff.1 h).1
theorem RowB.is (h : RowB w g t l) : w.heap[g]? = some (.cells (idv l) t (0, 0)) := h
theorem RowB.cell (h : RowB w g t l) (i : Nat) (hi : i < l.length) : w.cell? ⟨g, i, none⟩ = some (.int .u8 (l.getD i 0)) := by
  rw [cell_of_row _ _ _ _ _ _ h, idv_get _ _ hi]
theorem RowB.free (h : RowB w g t l) (i : Nat) : w.frozen? ⟨g, i, none⟩ = false := frozen_of_row _ _ i _ _ h
theorem RowB.draw (h : RowB w g t l) (n : Nat) : RowB (w.drewN n) g t l := h
theorem RowB.draw1 (h : RowB w g t l) : RowB w.drew g t l := h
theorem RowB.put (h : RowB w g t l) (i : Nat) (v : Int) : RowB (w.setCell ⟨g, i, none⟩ (.int .u8 v)) g t (l.set i v) :=
  (heap_setCell_same _ _ _ _ _ _ h).trans (by rw [idv_set])
theorem RowB.far (h : RowB w g t l) {a : Addr} (ha : g ≠ a.block) (v : Value) : RowB (w.setCell a v) g t l := (heap_setCell_other _ _ _ _ ha).trans h
theorem RowB.more (h : RowB w g t l) (o : Obj) : RowB (w.alloc o) g t l := (Below.heap_alloc w o g h.lt).trans h
theorem RowB.below {B : Nat} (h : RowB w g t l) (hb : Below B w w') (hg : g < B) : RowB w' g t l := (hb.block g hg).trans h
theorem RowB.all (h : RowB w g t l) (m : List Int) : RowB (w.setRow g (idv m)) g t m := setRow_heap _ _ _ _ _ _ h
theorem RowB.grown {row : Option Nat} (h : RowB w g t l) (hb : w.grownBy w' row) (hg : some g ≠ row) : RowB w' g t l := (hb.block g h.lt hg).trans h
theorem rowb_lit (w : World) (t : TypeId) (cs : Array Value) (l : List Int) (h : cs = idv l) : RowB (w.alloc (.cells cs t)) w.heap.size t l := by
  subst h
  exact heap_alloc_new w _
end
theorem wpList_load_b {P : Program} {ops : Array Oper} {rest : List Oper} {o : Oper} {a : Act} {w : World} {Q : Exit → Act → World → Prop} (hgd : o.guard = none) (ty : TypeId) (d : TypeDesc) (x : Operand) (ho : o.op = .load ty x)
    (g : Nat) (hx : a.eval x = .pointer (some ⟨g, 0, none⟩)) (t : TypeId) (l : List Int) (hg : RowB w g t l)
    (hu : P.underlying ty = some d) (hd : (match d with | .struct _ | .array _ _ => true | _ => false) = true) (hi : (P.info? ty).map (·.size) = some (idv l).size)
    (h : wpList P ops Q rest (a.put o.dst (.agg (idv l))) w) : wpList P ops Q (o :: rest) a w :=
  wpList_load_row hgd ty x ho g hx t (idv l) (0, 0) d hg hu hd hi h
theorem wpList_store_b {P : Program} {ops : Array Oper} {rest : List Oper} {o : Oper} {a : Act} {w : World} {Q : Exit → Act → World → Prop} (hgd : o.guard = none) (ty : TypeId) (x y : Operand) (ho : o.op = .store ty x y)
    (g : Nat) (m : List Int) (hx : a.eval x = .pointer (some ⟨g, 0, none⟩)) (hy : a.eval y = .agg (idv m)) (t : TypeId) (l : List Int) (hg : RowB w g t l) (hi : (P.info? ty).map (·.size) = some (idv m).size) (hl : l.length = m.length)
    (h : ∀ w', w.grownBy w' (some g) → RowB w' g t m → w'.heap.size = w.heap.size → wpList P ops Q rest (a.put o.dst undef) w') : wpList P ops Q (o :: rest) a w :=
  wpList_store_row hgd ty x y ho g (idv m) hx hy t (idv l) hg hi (by rw [idv_size, idv_size, hl]) (idv_one m) (h _ (grown_setRow _ _ _) (hg.all m) (by simp))
theorem two_rows (w : World) (o1 : Obj) (t : TypeId) (c2 c3 : Array Value) (l : List Int) (h2 : c2 = idv l) (h3 : c3 = idv l) :
    RowB (((w.alloc o1).alloc (.cells c2 t)).alloc (.cells c3 t)) (w.heap.size + 1) t l ∧ RowB (((w.alloc o1).alloc (.cells c2 t)).alloc (.cells c3 t)) (w.heap.size + 2) t l := by
  have e1 : (w.alloc o1).heap.size = w.heap.size + 1 := by simp
  have e2 : ((w.alloc o1).alloc (.cells c2 t)).heap.size = w.heap.size + 2 := by simp
  have a := (rowb_lit (w.alloc o1) t c2 l h2).more (.cells c3 t)
  have b := rowb_lit ((w.alloc o1).alloc (.cells c2 t)) t c3 l h3
  rw [e1] at a
  rw [e2] at b
  exact ⟨a, b⟩
/-- an array that is filled from its head on -/
def fillTo (f : Nat → Int) (n : Nat) : Nat → List Int
  | 0 => List.replicate n 0
  | k + 1 => (fillTo f n k).set k (f k)
theorem fillTo_eq (f : Nat → Int) (n k : Nat) (h : k ≤ n) : fillTo f n k = (List.range k).map f ++ List.replicate (n - k) 0 := by
  induction k with
  | zero => simp [fillTo]
  | succ k ih =>
    rw [fillTo, ih (by omega), List.range_succ, List.map_append, List.append_assoc]
    have e : n - k = (n - (k + 1)) + 1 := by omega
    rw [List.set_append_right _ _ (by simp), e, List.replicate_succ]
    simp
theorem fillTo_length (f : Nat → Int) (n k : Nat) : (fillTo f n k).length = n := by
  induction k with
  | zero => simp [fillTo]
  | succ k ih => simp [fillTo, ih]
theorem fillTo_all (f : Nat → Int) (n : Nat) : fillTo f n n = (List.range n).map f := by
  rw [fillTo_eq f n n (Nat.le_refl _)]; simp
/-- pieces of a slice of bytes, whatever its address is -/
theorem run_from {w0 : World} {A : Option Addr} {n cap lo : Nat} {l : List Int} (hb : Bts w0 A n cap l) (x : Int) (hx : x = lo) (hlo : lo ≤ n) :
    ∃ A2, (∀ w : World, (Instr.slice 22 (.slice A n cap) (some (.int .i64 x)) none none).run Tryz.prog w = .ok (.slice A2 (n - lo) (cap - lo)) w) ∧ Bts w0 A2 (n - lo) (cap - lo) (l.drop lo) := by
  subst hx
  refine ⟨if cap = lo then A else A.map (·.add lo), fun w => ?_, ?_⟩
  · rw [run_slice_l (P := Tryz.prog) w 22 A n cap (by kernel_rfl) .i64 lo (by omega) (by omega), size_u8]
    simp only [Result.andThen_ok, sliced, Int.toNat_natCast, Nat.mul_one]
  · have hle := hb.le
    have hmax := hb.max
    refine ⟨by rw [List.length_drop, hb.len], by omega, by omega, ?_, ?_, ?_⟩
    · intro j
      have := hb.ok (lo + j)
      simpa [List.getD_eq_getElem?_getD, List.getElem?_drop] using this
    · intro h
      by_cases hc : cap = lo
      · omega
      · rw [if_neg hc] at h
        have : A = none := by cases A <;> simp at h ⊢
        have := hb.bare this
        omega
    · intro hn
      obtain ⟨b, off, hA, hcell⟩ := hb.at_ (by omega)
      rw [if_neg (by omega), hA]
      refine ⟨b, off + lo, ?_, fun j hj => ?_⟩
      · simp only [Option.map_some]
        congr 1
        unfold Addr.add
        split
        · rename_i h0; subst h0; rfl
        · rfl
      · have := hcell (lo + j) (by omega)
        rw [← Nat.add_assoc] at this
        rw [this]
        simp [List.getD_eq_getElem?_getD, List.getElem?_drop]
theorem run_to {w0 : World} {A : Option Addr} {n cap hi : Nat} {l : List Int} (hb : Bts w0 A n cap l) (x : Int) (hx : x = hi) (hhi : hi ≤ n) :
    (∀ w : World, (Instr.slice 22 (.slice A n cap) none (some (.int .i64 x)) none).run Tryz.prog w = .ok (.slice A hi cap) w) ∧ Bts w0 A hi cap (l.take hi) := by
  subst hx
  have hle := hb.le
  refine ⟨fun w => ?_, ?_⟩
  · rw [run_slice_h (P := Tryz.prog) w 22 A n cap (by kernel_rfl) .i64 hi (by omega) (by omega), size_u8]
    simp only [Result.andThen_ok, sliced, Int.toNat_natCast, Nat.zero_mul, Nat.sub_zero]
    have e : A.map (fun x => x.add 0) = A := by
      cases A with
      | none => rfl
      | some a => simp [Addr.add]
    rw [e]
    simp
  · refine ⟨by rw [List.length_take, hb.len]; omega, by omega, hb.max, ?_, hb.bare, ?_⟩
    · have := ok_piece l hb.ok 0 hi
      simpa using this
    · intro hn
      obtain ⟨b, off, hA, hcell⟩ := hb.at_ (by omega)
      refine ⟨b, off, hA, fun j hj => ?_⟩
      rw [hcell j (by omega)]
      simp [List.getD_eq_getElem?_getD, hj]
theorem Own.slice {w : World} {base : Nat} {v : Value} {l : List Int} (h : Own w base v l) (hok : ∀ j, 0 ≤ l.getD j 0 ∧ l.getD j 0 < 256) : ∃ A n cap, v = .slice A n cap ∧ Bts w A n cap l := by
  obtain ⟨A, cap, hv, hb⟩ := h.bts hok
  exact ⟨A, l.length, cap, hv, hb⟩
theorem all_eq : ∀ (xs ys : List Int), xs.length = ys.length → ((List.range xs.length).all fun i => xs.getD i 0 == ys.getD i 0) = (xs == ys)
  | [], [], _ => rfl
  | x :: xs, y :: ys, h => by
    have ih := all_eq xs ys (by simpa using h)
    rw [List.length_cons, List.range_succ_eq_map, List.all_cons, List.all_map]
    simp only [List.getD_cons_zero, Function.comp_def, List.getD_cons_succ, ih]
    simp [List.cons_beq_cons]
  | [], _ :: _, h => by simp at h
  | _ :: _, [], h => by simp at h
theorem run_equalIn_ints {P : Program} (w : World) (d : Nat) (t e : TypeId) (n : Nat) (k : IntKind) (ht : P.underlying t = some (.array n e)) (he : P.underlying e = some (.int k)) (hsz : ∀ w, (sizeOf e).run P w = .ok 1 w)
    (xs ys : List Int) (hx : xs.length = n) (hy : ys.length = n) :
    (Op.equalIn (d + 2) t (.agg (xs.map (Value.int k)).toArray) (.agg (ys.map (Value.int k)).toArray)).run P w = .ok (xs == ys) w := by
  rw [← all_eq xs ys (hx.trans hy.symm), hx, List.range_eq_range', Op.equalIn]
  simp only [Sem.run_bind, run_underlying ht, Result.andThen_ok, hsz, Std.Legacy.Range.forIn_eq_forIn_range', Std.Legacy.Range.size, Nat.sub_zero, Nat.add_sub_cancel, Nat.div_one]
  have hl : ∀ i ∈ List.range' 0 n 1, i < n := fun i hi => by simpa using (List.mem_range'_1.1 hi).2
  generalize List.range' 0 n 1 = l at hl ⊢
  induction l with
  | nil => simp
  | cons i l ih =>
    have hi : i < n := hl i (by simp)
    have px : (part e (xs.map (Value.int k)).toArray (i * 1)).run P w = .ok (Value.int k (xs.getD i 0)) w := by
      simp [part, isAgg, run_underlying he, List.getD, List.getElem?_eq_getElem (show i < xs.length by omega)]
    have py : (part e (ys.map (Value.int k)).toArray (i * 1)).run P w = .ok (Value.int k (ys.getD i 0)) w := by
      simp [part, isAgg, run_underlying he, List.getD, List.getElem?_eq_getElem (show i < ys.length by omega)]
    have pe : (Op.equalIn (d + 1) e (Value.int k (xs.getD i 0)) (Value.int k (ys.getD i 0))).run P w = .ok (xs.getD i 0 == ys.getD i 0) w :=
      run_equalIn_int w d e k k _ _ he
    simp only [List.forIn_cons, Sem.run_bind, px, py, pe, Result.andThen_ok, List.all_cons]
    cases hb : (xs.getD i 0 == ys.getD i 0)
    · simp
    · simp only [Bool.not_true, Bool.false_eq_true, if_false, Sem.run_pure, Result.andThen_ok, Bool.true_and]
      exact ih fun j hj => hl j (by simp [hj])
theorem size_of {t : TypeId} (h : (Tryz.prog.info? t).map (·.size) = some 1) (w : World) : (sizeOf t).run Tryz.prog w = .ok 1 w := by
  cases hi : Tryz.prog.info? t with
  | none => simp [hi] at h
  | some i => simp [hi] at h; simp [sizeOf, typeInfo, hi, h]
def bstr (l : List Int) : ByteArray := ⟨(l.map fun n => UInt8.ofNat n.toNat).toArray⟩
theorem foldl_push (l : List Int) (x : List UInt8) : l.foldl (fun (r : ByteArray) n => r.push (UInt8.ofNat n.toNat)) ⟨x.toArray⟩ = ⟨(x ++ l.map fun n => UInt8.ofNat n.toNat).toArray⟩ := by
  induction l generalizing x with
  | nil => simp
  | cons a l ih =>
    rw [List.foldl_cons]
    have e : (⟨x.toArray⟩ : ByteArray).push (UInt8.ofNat a.toNat) = ⟨(x ++ [UInt8.ofNat a.toNat]).toArray⟩ := by
      show (⟨x.toArray.push _⟩ : ByteArray) = _
      simp
    rw [e, ih]
    simp
theorem conv_bts {w : World} {A : Option Addr} {n c : Nat} {l : List Int} (h : Bts w A n c l) : (convert 22 9 (.slice A n c)).run Tryz.prog w = .ok (.string (bstr l)) w := by
  rw [run_convert_bytes_string w 22 9 5 A n c Tryz.underlying22 Tryz.underlying5 Tryz.underlying9]
  rcases A with _ | a
  · have h0 := h.bare rfl
    have hn : n = 0 := by have := h.le; omega
    subst hn
    obtain rfl : l = [] := List.eq_nil_of_length_eq_zero h.len
    simp [Conv.bytesToString, bstr]
    rfl
  · have hl : (loadCells a n).run Tryz.prog w = .ok (l.map (Value.int .u8)).toArray w := by
      have := run_loadCells_list (P := Tryz.prog) w a (byv l) (fun j v hv => by
        have hj : j < l.length := by
          have := (List.getElem?_eq_some_iff.1 hv).1
          rwa [byv_length] at this
        rw [byv_get l j hj] at hv
        obtain ⟨b, off, hA, hc⟩ := h.at_ (by have := h.len; omega)
        have hA := Option.some.inj hA
        subst hA
        have hadd : (⟨b, off, none⟩ : Addr).add j = ⟨b, off + j, none⟩ := by
          unfold Addr.add
          split
          · rename_i h0; subst h0; rfl
          · rfl
        rw [hadd, hc j (by have := h.len; omega), hv])
      rw [byv_length, h.len] at this
      exact this
    rw [run_bytesToString w a n c l hl]
    have := foldl_push l []
    simp only [List.nil_append] at this
    show Result.ok (Value.string (l.foldl _ (⟨([] : List UInt8).toArray⟩ : ByteArray))) w = _
    rw [this]
    rfl
theorem add_bstr (l m : List Int) (hl : l.length ≤ 8388608) (hm : m.length ≤ 8388608) (w : World) : (Op.stringOp .add (bstr l) (bstr m)).run Tryz.prog w = .ok (.string (bstr (l ++ m))) w := by
  have := run_string_add_lists (P := Tryz.prog) w (l.map fun n => UInt8.ofNat n.toNat) (m.map fun n => UInt8.ofNat n.toNat) (by simp; omega) (by simp; omega)
  unfold bstr
  rw [this, List.map_append]
/-- two texts are the same just if the bytes are -/
theorem bstr_inj {l m : List Int} (hl : ∀ j, 0 ≤ l.getD j 0 ∧ l.getD j 0 < 256) (hm : ∀ j, 0 ≤ m.getD j 0 ∧ m.getD j 0 < 256) (h : (bstr l).toList = (bstr m).toList) : l = m := by
  have hd : (bstr l).data = (bstr m).data := by
    have e : ∀ b : ByteArray, b.toList = b.data.toList := fun b => by
      rcases b with ⟨⟨d⟩⟩
      simp
    rw [e, e] at h
    exact Array.ext' h
  have h2 : (l.map fun n => UInt8.ofNat n.toNat) = (m.map fun n => UInt8.ofNat n.toNat) := by
    have := congrArg Array.toList hd
    simpa [bstr] using this
  have hlen : l.length = m.length := by simpa using congrArg List.length h2
  apply List.ext_getElem hlen
  intro i h1 h3
  have hi := congrArg (fun x => x[i]?) h2
  simp only [List.getElem?_map, List.getElem?_eq_getElem h1, List.getElem?_eq_getElem h3, Option.map_some, Option.some.injEq] at hi
  have a := hl i
  have b := hm i
  simp only [List.getD_eq_getElem?_getD, List.getElem?_eq_getElem h1, List.getElem?_eq_getElem h3, Option.getD_some] at a b
  have := congrArg UInt8.toNat hi
  simp only [UInt8.toNat_ofNat'] at this
  omega
theorem RowB.bts {w : World} {g : Nat} {l : List Int} {n : Nat} (h : RowB w g 5 l) (hl : l.length = n) (hm : n ≤ maxLen) (hok : ∀ j, 0 ≤ l.getD j 0 ∧ l.getD j 0 < 256) : Bts w (some ⟨g, 0, none⟩) n n l :=
  ⟨hl, Nat.le_refl _, hm, hok, (fun e => by cases e), fun _ => ⟨g, 0, rfl, fun j hj => by rw [Nat.zero_add]; exact h.cell j (by omega)⟩⟩
/-- an array's block, sliced -/
theorem RowB.btsAt {w : World} {g : Nat} {t : TypeId} {l : List Int} {n : Nat} (h : RowB w g t l) (hl : l.length = n) (hm : n ≤ maxLen) (hok : ∀ j, 0 ≤ l.getD j 0 ∧ l.getD j 0 < 256) : Bts w (some ⟨g, 0, none⟩) n n l :=
  ⟨hl, Nat.le_refl _, hm, hok, (fun e => by cases e), fun _ => ⟨g, 0, rfl, fun j hj => by rw [Nat.zero_add]; exact h.cell j (by omega)⟩⟩
theorem RowB.own {w : World} {base g : Nat} {l : List Int} {n : Nat} (h : RowB w g 5 l) (hb : base ≤ g) (hl : l.length = n) (hm : n ≤ maxLen) : Own w base (.slice (some ⟨g, 0, none⟩) n n) l := by
  subst hl
  refine ⟨by rw [byv_length, Nat.mul_one], .inr ⟨g, l.length, idv l, rfl, hb, h, Nat.le_refl _, hm, by rw [idv_size, Nat.mul_one], ?_⟩⟩
  rw [Nat.mul_one, idv]
  exact List.take_of_length_le (by rw [byv_length]; omega)
/-- make([]byte, n) -/
theorem wpList_make_n {w : World} {ops : Array Oper} {rest : List Oper} {o : Oper} {a : Act} {Q : Exit → Act → World → Prop} (hgd : o.guard = none) (l c : Operand) (ho : o.op = Op.makeSlice 22 l c)
    (L C : Int) (n : Nat) (hl : a.eval l = .int .i64 L) (hc : a.eval c = .int .i64 C) (hL : L = (n : Int)) (hC : C = (n : Int)) (hn : n ≤ 281474976710656)
    (h : ∀ w', RowB w' w.heap.size 5 (List.replicate n 0) → w.grownBy w' none → w'.heap.size = w.heap.size + 1 → wpList Tryz.prog ops Q rest (a.put o.dst (.slice (some ⟨w.heap.size, 0, none⟩) n n)) w') : wpList Tryz.prog ops Q (o :: rest) a w := by
  obtain ⟨i, hi, hz, h1, h2⟩ := info_parts info_u8
  refine wpList_plain hgd fun K hK => ?_
  subst hL hC
  have hr := run_make (P := Tryz.prog) w 22 5 i (.int .u8 0) Tryz.underlying22 hi hz .i64 .i64 n n (by omega) (Int.le_refl _) (by rw [h2]; omega) (by omega)
  simp only [Int.toNat_natCast] at hr
  unfold Oper.wp
  simp [execOp, ho, hl, hc, hr, Result.andThen]
  refine hK _ _ (h _ ?_ (World.grownBy_alloc w _ none) (by simp))
  refine rowb_lit w 5 _ _ ?_
  rw [← Array.toList_inj]
  simp only [h1, Nat.mul_one]
  have := toList_madeCells_one (.int .u8 0) n
  show (madeCells #[Value.int .u8 0] n).toList = _
  rw [this]
  simp [idv, byv]
/-- copy(dst, src) into a row from its head on -/
theorem wpList_copy_b {w : World} {ops : Array Oper} {rest : List Oper} {o : Oper} {a : Act} {Q : Exit → Act → World → Prop} (hgd : o.guard = none) (d s : Operand)
    (ho : o.op = .call { callee := .builtin .copy, args := #[d, s], argTypes := #[22, 22] })
    (g n : Nat) (l : List Int) (hd : a.eval d = .slice (some ⟨g, 0, none⟩) n n) (hg : RowB w g 5 l) (hl : l.length = n)
    (A : Option Addr) (m c : Nat) (k : List Int) (hs : a.eval s = .slice A m c) (hr : Bts w A m c k) (hm : m ≤ n) (B : Nat) (w0 : World) (hb : Below B w0 w) (hBg : B ≤ g)
    (h : ∀ w', RowB w' g 5 (k ++ l.drop m) → Below B w0 w' → wpList Tryz.prog ops Q rest (a.put o.dst (goInt m)) w') : wpList Tryz.prog ops Q (o :: rest) a w := by
  have hkl := hr.len
  have hcl : (byv k).length = m := by rw [byv_length, hkl]
  refine wpList_copy_splice hgd d s 22 22 ho 5 Tryz.underlying22 (by kernel_rfl) (some ⟨g, 0, none⟩) A n n m c hd hs g 0 (byv l) 5 hg (byv k) (by rw [hcl]; exact (show min m n = m from Nat.min_eq_left hm).symm) ?_ (by rw [hcl, byv_length]; omega) (byv_one k) B w0 hb hBg ?_
  · intro h0
    rw [hcl] at h0
    obtain ⟨b, off, hA, hc⟩ := hr.at_ h0
    refine ⟨rfl, ⟨b, off, none⟩, hA, fun j v hv => ?_⟩
    have hj : j < k.length := by
      have := (List.getElem?_eq_some_iff.1 hv).1
      rwa [byv_length] at this
    rw [byv_get k j hj] at hv
    have hadd : (⟨b, off, none⟩ : Addr).add j = ⟨b, off + j, none⟩ := by
      unfold Addr.add
      split
      · rename_i h0; subst h0; rfl
      · rfl
    rw [hadd, hc j (by omega), hv]
  · intro w' hw hB
    rw [hcl]
    refine h w' ?_ hB
    have h2 := hw.out
    unfold splice at h2
    rw [List.take_zero, List.nil_append, Nat.zero_add, hcl] at h2
    unfold RowB
    rw [h2]
    simp [idv, byv, List.map_drop]
theorem Bts.small {w : World} {A : Option Addr} {n c : Nat} {l : List Int} (h : Bts w A n c l) : n ≤ 9223372036854775807 := Nat.le_trans h.le (by have := h.max; unfold maxLen at this; omega)
theorem at_next {w w1 : World} {o : Obj} {t : TypeId} {l : List Int} (h : RowB w1 (w.alloc o).heap.size t l) : RowB w1 (w.heap.size + 1) t l := by
  have e : (w.alloc o).heap.size = w.heap.size + 1 := by simp
  rw [← e]; exact h
theorem RowB.keep {w w' : World} {g : Nat} {t : TypeId} {l : List Int} (h : RowB w g t l) (hb : Below w.heap.size w w') : RowB w' g t l := h.below hb h.lt
theorem Own.form {w : World} {base : Nat} {v : Value} {l : List Int} (h : Own w base v l) (hn : 0 < l.length) :
    ∃ g cap, v = .slice (some ⟨g, 0, none⟩) l.length cap ∧ base ≤ g ∧ g < w.heap.size ∧ l.length ≤ cap ∧ cap ≤ maxLen := by
  rcases h.2 with ⟨_, h0⟩ | ⟨g, cap, cur, hv, hg, hh, hnc, hcm, _⟩
  · omega
  · exact ⟨g, cap, hv, hg, (Array.getElem?_eq_some_iff.1 hh).1, hnc, hcm⟩
section
variable {w : World} {base g n cap : Nat} {l : List Int}
theorem Own.cell (h : Own w base (.slice (some ⟨g, 0, none⟩) n cap) l) (j : Nat) (hj : j < l.length) (hl : l.length = n) : w.cell? ⟨g, j, none⟩ = some (.int .u8 (l.getD j 0)) := by
  subst hl
  rw [World.ownsRow.cellAt h j (by omega), byv_get l j hj]
theorem Own.free (h : Own w base (.slice (some ⟨g, 0, none⟩) n cap) l) (j : Nat) (hl : l.length = n) : w.frozen? ⟨g, j, none⟩ = false := by
  subst hl
  exact World.ownsRow.frozenAt h j
theorem Own.put (h : Own w base (.slice (some ⟨g, 0, none⟩) n cap) l) (j : Nat) (x : Int) (hl : l.length = n) :
    Own (w.setCell ⟨g, j, none⟩ (.int .u8 x)) base (.slice (some ⟨g, 0, none⟩) n cap) (l.set j x) ∧ w.grownBy (w.setCell ⟨g, j, none⟩ (.int .u8 x)) (some g) := by
  subst hl
  have := World.ownsRow.stored h j (.int .u8 x)
  refine ⟨?_, this.2⟩
  unfold Own
  rw [List.length_set, byv, List.map_set]
  exact this.1
end
theorem ext_getD {a b : List Int} (hl : a.length = b.length) (h : ∀ j, j < a.length → a.getD j 0 = b.getD j 0) : a = b := by
  apply List.ext_getElem hl
  intro i h1 h2
  have := h i h1
  simpa [List.getD_eq_getElem?_getD, List.getElem?_eq_getElem h1, List.getElem?_eq_getElem h2] using this
/-- append as one step of a region that draws its order: v the call's own, s whatever; guarded or not -/
theorem step_append_o {ops : Array Oper} {o : Oper} {a : Act} {w : World} {K : Act → World → Prop} {Q : Exit → Act → World → Prop} {E : Prop} (s x : Operand)
    (ho : o.op = .call { callee := .builtin .append, args := #[s, x], argTypes := #[22, 22] })
    (base : Nat) (v : Value) (l : List Int) (hs : a.eval s = v) (hown : Own w base v l) (A : Option Addr) (m c : Nat) (l2 : List Int) (hx : a.eval x = .slice A m c) (hr : Bts w A m c l2)
    (hsmall : l.length + m ≤ 140737488355328) (hbase : base ≤ w.heap.size) (hw : Region.wanted o (yielded ops a.tmps) = true)
    (h : ∀ v' w', Own w' base v' (l ++ l2) → w.grownBy w' v.ownBlock → K (a.put o.dst v') w') : if Region.wanted o (yielded ops a.tmps) = true then Oper.wp Tryz.prog o a w K Q else E := by
  rw [if_pos hw]
  obtain ⟨i, hi, hz, h1, h2⟩ := info_parts info_u8
  have hl2 : (byv l2).length = m * 1 := by rw [byv_length, hr.len, Nat.mul_one]
  rcases A with _ | ad
  · obtain rfl := hr.bare rfl
    have hm : m = 0 := by have := hr.le; omega
    subst hm
    obtain rfl : l2 = [] := List.eq_nil_of_length_eq_zero hr.len
    have hrun := run_append_owned_none (P := Tryz.prog) (w := w) base 22 o.type 5 i 1 Tryz.underlying22 hi v l.length (byv l) hown
    unfold Oper.wp
    simp [execOp, ho, resolve, invoke, builtin, hs, hx, hrun, Result.andThen]
    exact h v w (by simpa using hown) (World.grownBy.refl w _)
  · refine wp_append_own (P := Tryz.prog) w s x 22 ho base 5 i (.int .u8 0) 1 1 Tryz.underlying22 hi hz h1 h2 rfl (by omega) v l.length (byv l) hs hown ad m c (byv l2) hx hl2 ?_ (byv_one l2) (by unfold maxLen; omega) (by omega) hbase ?_
    · intro j u hu
      have hj : j < l2.length := by
        have := (List.getElem?_eq_some_iff.1 hu).1
        rwa [byv_length] at this
      rw [byv_get l2 j hj] at hu
      obtain ⟨b, off, hA, hc⟩ := hr.at_ (by have := hr.len; omega)
      have hA := Option.some.inj hA
      subst hA
      have hadd : (⟨b, off, none⟩ : Addr).add j = ⟨b, off + j, none⟩ := by
        unfold Addr.add
        split
        · rename_i h0; subst h0; rfl
        · rfl
      rw [hadd, hc j (by have := hr.len; omega), hu]
    · intro v' w' hown' hg _
      refine h v' w' ?_ hg
      unfold Own
      rw [byv_append, List.length_append, hr.len]
      exact hown'
theorem RowB.range {w : World} {g : Nat} {t : TypeId} {l : List Int} (h : RowB w g t l) : w.rangeAt g 0 (byv l) := fun j v hv => by
  have hj : j < l.length := by
    have := (List.getElem?_eq_some_iff.1 hv).1
    rwa [byv_length] at this
  rw [Nat.zero_add, h.cell j hj, ← byv_get l j hj, hv]
theorem ok_all {l : List Int} (h : l.all (fun x => decide (0 ≤ x ∧ x < 256)) = true) : ∀ j, 0 ≤ l.getD j 0 ∧ l.getD j 0 < 256 := by
  intro j
  simp only [List.getD_eq_getElem?_getD]
  cases hj : l[j]? with
  | none => simp
  | some y =>
    have := List.all_eq_true.1 h y (List.mem_of_getElem? hj)
    simpa using this
theorem const_bts (w : World) (cs : Array Value) (l : List Int) (n : Nat) (fr : Nat × Nat) (hcs : cs = idv l) (hl : l.length = n) (hm : n ≤ maxLen) (hok : ∀ j, 0 ≤ l.getD j 0 ∧ l.getD j 0 < 256) :
    Bts (w.alloc (.cells cs 5 fr)) (some ⟨w.heap.size, 0, none⟩) n n l := by
  subst hcs
  refine ⟨hl, Nat.le_refl _, hm, hok, (fun e => by cases e), fun _ => ⟨w.heap.size, 0, rfl, fun j hj => ?_⟩⟩
  rw [Nat.zero_add, cell_of_row _ _ _ _ _ _ (heap_alloc_new w _), idv_get l j (by omega)]
theorem const_bts_next (w : World) (o : Obj) (cs : Array Value) (l : List Int) (n : Nat) (fr : Nat × Nat) (hcs : cs = idv l) (hl : l.length = n) (hm : n ≤ maxLen) (hok : ∀ j, 0 ≤ l.getD j 0 ∧ l.getD j 0 < 256) :
    Bts ((w.alloc o).alloc (.cells cs 5 fr)) (some ⟨w.heap.size + 1, 0, none⟩) n n l := by
  have h := const_bts (w.alloc o) cs l n fr hcs hl hm hok
  rw [size_next] at h
  exact h
theorem Bts.grown {w w' : World} {A : Option Addr} {n c : Nat} {l : List Int} {row : Option Nat} (h : Bts w A n c l) (hg : w.grownBy w' row) (hne : ∀ b off, A = some ⟨b, off, none⟩ → some b ≠ row) : Bts w' A n c l := by
  refine ⟨h.len, h.le, h.max, h.ok, h.bare, fun hn => ?_⟩
  obtain ⟨b, off, hA, hc⟩ := h.at_ hn
  refine ⟨b, off, hA, fun j hj => ?_⟩
  rw [World.cell?_of_block (w := w) (a := ⟨b, off + j, none⟩) (hg.block b (block_lt_of_cell (hc j hj)) (hne b off hA))]
  exact hc j hj
theorem run_eq_bstr (l m : List Int) (hl : ∀ j, 0 ≤ l.getD j 0 ∧ l.getD j 0 < 256) (hm : ∀ j, 0 ≤ m.getD j 0 ∧ m.getD j 0 < 256) : ((bstr l).toList == (bstr m).toList) = (l == m) := by
  rw [Bool.eq_iff_iff, beq_iff_eq, beq_iff_eq]
  exact ⟨bstr_inj hl hm, fun h => by rw [h]⟩
theorem comm_beq (a b : List Int) : (b == a) = (a == b) := by
  rw [Bool.eq_iff_iff, beq_iff_eq, beq_iff_eq]
  exact eq_comm
theorem Own.btsAt {w : World} {base g n cap : Nat} {l : List Int} (h : Own w base (.slice (some ⟨g, 0, none⟩) n cap) l) (hl : l.length = n) (hok : ∀ j, 0 ≤ l.getD j 0 ∧ l.getD j 0 < 256) : Bts w (some ⟨g, 0, none⟩) n cap l := by
  obtain ⟨A, cap', hv, hb⟩ := h.bts hok
  simp only [Value.slice.injEq] at hv
  obtain ⟨rfl, h2, rfl⟩ := hv
  rw [hl] at hb
  exact hb
theorem ok_set {l : List Int} (h : ∀ j, 0 ≤ l.getD j 0 ∧ l.getD j 0 < 256) (k : Nat) (x : Int) (h0 : 0 ≤ x) (h1 : x < 256) : ∀ j, 0 ≤ (l.set k x).getD j 0 ∧ (l.set k x).getD j 0 < 256 := by
  intro j
  have := h j
  simp only [List.getD_eq_getElem?_getD, List.getElem?_set] at this ⊢
  split
  · split
    · exact ⟨h0, h1⟩
    · simp
  · exact this
theorem lit_bts (w : World) (cs : Array Value) (l : List Int) (n : Nat) (hcs : cs = idv l) (hl : l.length = n) (hm : n ≤ maxLen) (hok : ∀ j, 0 ≤ l.getD j 0 ∧ l.getD j 0 < 256) :
    Bts (w.alloc (.cells cs 5)) (some ⟨w.heap.size, 0, none⟩) n n l := by
  subst hcs
  refine ⟨hl, Nat.le_refl _, hm, hok, (fun e => by cases e), fun _ => ⟨w.heap.size, 0, rfl, fun j hj => ?_⟩⟩
  rw [Nat.zero_add, cell_of_row _ _ _ _ _ _ (heap_alloc_new w _), idv_get l j (by omega)]
/-- a text's bytes, as numbers -/
def strL (s : ByteArray) : List Int := s.data.toList.map fun b => (b.toNat : Int)
theorem strL_length (s : ByteArray) : (strL s).length = s.size := by
  rw [strL, List.length_map, Array.length_toList]
  rfl
theorem strL_ok (s : ByteArray) : ∀ j, 0 ≤ (strL s).getD j 0 ∧ (strL s).getD j 0 < 256 := by
  intro j
  simp only [strL, List.getD_eq_getElem?_getD, List.getElem?_map]
  cases h : s.data.toList[j]? with
  | none => simp
  | some b =>
    have := b.toNat_lt
    simp only [Option.map_some, Option.getD_some]
    omega
theorem byv_strL (s : ByteArray) : byv (strL s) = Lib.strCells s := by
  simp [byv, strL, Lib.strCells]
theorem str_empty (s : ByteArray) : s.toList.isEmpty = decide (s.size = 0) := by
  have e : s.toList = s.data.toList := by
    rcases s with ⟨⟨d⟩⟩
    simp
  rw [e, Bool.eq_iff_iff, List.isEmpty_iff, decide_eq_true_eq]
  rw [show s.size = s.data.toList.length by rw [Array.length_toList]; rfl]
  exact List.length_eq_zero_iff.symm
theorem wpList_append_str {w : World} {ops : Array Oper} {rest : List Oper} {o : Oper} {a : Act} {Q : Exit → Act → World → Prop} (hgd : o.guard = none) (sl x : Operand)
    (ho : o.op = .call { callee := .builtin .append, args := #[sl, x], argTypes := #[22, 9] })
    (base : Nat) (v : Value) (l : List Int) (hs : a.eval sl = v) (hown : Own w base v l) (s : ByteArray) (hx : a.eval x = .string s)
    (hsmall : l.length + s.size ≤ 140737488355328) (hbase : base ≤ w.heap.size)
    (h : ∀ v' w', Own w' base v' (l ++ strL s) → w.grownBy w' v.ownBlock → wpList Tryz.prog ops Q rest (a.put o.dst v') w') : wpList Tryz.prog ops Q (o :: rest) a w := by
  obtain ⟨i, hi, hz, h1, h2⟩ := info_parts info_u8
  refine Lib.wpList_append_own_string w hgd sl x 22 9 ho base 5 i Tryz.underlying22 Tryz.underlying9 hi hz h1 h2 v l.length (byv l) hs hown s hx (by unfold maxLen; omega) hsmall hbase ?_
  intro v' w' h3 h4 _
  refine h v' w' ?_ h4
  unfold Own
  rw [byv_append, List.length_append, strL_length, byv_strL]
  exact h3
theorem one_own_next (w : World) (o : Obj) (x : Int) : Own ((w.alloc o).alloc (.cells #[.int .u8 x] 5)) (w.heap.size + 1) (.slice (some ⟨w.heap.size + 1, 0, none⟩) 1 1) [x] := by
  have h := one_own (w.alloc o) x
  have e : (w.alloc o).heap.size = w.heap.size + 1 := by simp
  rw [e] at h
  exact h
/-- an array and a bool, handed back -/
theorem results_row_tmp {fn : Func} {p u : Tmp} {ty e : TypeId} {n : Nat} (h : fn.results = #[.cell p ty, .tmp u]) (tmps : Array Value) (P : Program) (w : World) (g : Nat) (t : TypeId) (cs : Array Value) (fr : Nat × Nat)
    (hp : tmps.getD p undef = .pointer (some ⟨g, 0, none⟩)) (hg : w.heap[g]? = some (.cells cs t fr))
    (hu : P.underlying ty = some (.array n e)) (hi : (P.info? ty).map (·.size) = some cs.size) (v : Value) (hv : tmps.getD u undef = v) :
    (results fn tmps).run P w = .ok (.tuple #[.agg cs, v]) w := by
  rw [results_cell_tmp h, hp, hv]
  simp [asAddr, run_loadVar_row w g t ty cs fr _ hg hu rfl hi]
end Go.Proofs.YtafmompplcaadaaGreatDoor

/- Stores, plainly: room, bytes, how many are sure; which may be, and what is done to one. -/
namespace Go.Proofs.YtafmompplcaadaaGreatDoor
set_option maxRecDepth 100000
set_option linter.unusedVariables false
set_option linter.unusedSimpArgs false
open Go.RowKit

/-- a store: room, bytes, how many of them are sure -/
structure Sp where
  cap : Int
  data : List Int
  sure : Int
/-- its value, the bytes lying at A -/
def Sp.val (s : Sp) (A : Option Addr) (n c : Nat) : Value := .agg #[.int .i64 s.cap, .slice A n c, .int .i64 s.sure]
def mayT (cap : Int) (n : Nat) (sure : Int) : Bool := decide (0 ≤ cap ∧ cap ≤ 16384 ∧ (n : Int) ≤ cap ∧ 0 ≤ sure ∧ sure ≤ (n : Int))
def mayP (s : Sp) : Bool := mayT s.cap s.data.length s.sure
theorem mayT_iff {cap : Int} {n : Nat} {sure : Int} : mayT cap n sure = true ↔ 0 ≤ cap ∧ cap ≤ 16384 ∧ (n : Int) ≤ cap ∧ 0 ≤ sure ∧ sure ≤ (n : Int) := by
  unfold mayT
  rw [decide_eq_true_eq]
theorem mayT_no {cap : Int} {n : Nat} {sure : Int} (h : ¬ (0 ≤ cap ∧ cap ≤ 16384 ∧ (n : Int) ≤ cap ∧ 0 ≤ sure ∧ sure ≤ (n : Int))) : false = mayT cap n sure := by
  unfold mayT
  rw [eq_comm, decide_eq_false_iff_not]
  exact h
def sameP (a b : Sp) : Bool := a.cap == b.cap && a.sure == b.sure && a.data == b.data
theorem sameP_self (a : Sp) : sameP a a = true := by simp [sameP]
theorem sameP_iff {a b : Sp} : sameP a b = true ↔ a = b := by
  obtain ⟨c, d, s⟩ := a
  obtain ⟨c', d', s'⟩ := b
  simp only [sameP, Bool.and_eq_true, beq_iff_eq, Sp.mk.injEq]
  exact ⟨fun ⟨⟨h1, h2⟩, h3⟩ => ⟨h1, h3, h2⟩, fun ⟨h1, h2, h3⟩ => ⟨⟨h1, h3⟩, h2⟩⟩
def leftP (s : Sp) : Int := if mayP s then s.cap - s.data.length else 0
/-- n bytes stay, all of them sure -/
def Sp.upto (s : Sp) (n : Nat) : Sp := ⟨s.cap, s.data.take n, n⟩
def fwriteP (s : Sp) (b : List Int) : Sp × Int := if s.cap - s.data.length < b.length then (s, 12) else (⟨s.cap, s.data ++ b, s.sure⟩, 0)
def fcutP (s : Sp) (n : Int) : Sp × Int := if n < 0 ∨ (s.data.length : Int) < n then (s, 1) else (s.upto n.toNat, 0)
/-- how many there are behind a crash -/
def keptP (s : Sp) (keep : Int) : Int := s.sure + min (max keep 0) (s.data.length - s.sure)
def writeP (s : Sp) (b : List Int) : Sp × Int := if mayP s then fwriteP s b else (s, 1)
def cutP (s : Sp) (n : Int) : Sp × Int := if mayP s then fcutP s n else (s, 1)
def syncP (s : Sp) : Sp × Int := cutP s s.data.length
def crashP (s : Sp) (keep : Int) : Sp := if mayP s then s.upto (keptP s keep).toNat else s
def newP (room : Int) : Sp × Bool := if 0 ≤ room ∧ room ≤ 16384 then (⟨room, [], 0⟩, true) else (⟨0, [], 0⟩, false)
/-- where the bytes lie that are handed back: where they came from, or in new memory -/
def Loc (A : Option Addr) (n : Nat) (A' : Option Addr) (n' : Nat) (w : World) : Prop := (A' = A ∧ n' ≤ n) ∨ ∀ a, A' = some a → w.heap.size ≤ a.block
/-- gives a store, and an error; a store, and a bool; a store -/
def GSE (r : Sp × Int) (A : Option Addr) (n : Nat) (w : World) (e : Ending) (w' : World) : Prop := ∃ A' n' c', e = .returned (.tuple #[r.1.val A' n' c', .int .i64 r.2]) ∧ Bts w' A' n' c' r.1.data ∧ Loc A n A' n' w ∧ Below w.heap.size w w'
def GSB (r : Sp × Bool) (w : World) (e : Ending) (w' : World) : Prop := e = .returned (.tuple #[r.1.val none 0 0, .bool r.2]) ∧ Below w.heap.size w w'
def GS (r : Sp) (A : Option Addr) (n : Nat) (w : World) (e : Ending) (w' : World) : Prop := ∃ A' n' c', e = .returned (r.val A' n' c') ∧ Bts w' A' n' c' r.data ∧ Loc A n A' n' w ∧ Below w.heap.size w w'
def GBool (b : Bool) (w : World) (e : Ending) (w' : World) : Prop := e = .returned (.bool b) ∧ Below w.heap.size w w'
def GInt (i : Int) (w : World) (e : Ending) (w' : World) : Prop := e = .returned (.int .i64 i) ∧ Below w.heap.size w w'
end Go.Proofs.YtafmompplcaadaaGreatDoor

/- What is done to stores, plainly: what stays, and what a crash leaves. -/
namespace Go.Proofs.YtafmompplcaadaaGreatDoor
set_option maxRecDepth 100000
set_option linter.unusedVariables false
set_option linter.unusedSimpArgs false
open Go.RowKit

theorem write_cases {s : Sp} {b : List Int} (hm : mayP s = true) : writeP s b = (s, 12) ∧ s.cap - s.data.length < b.length ∨ writeP s b = (⟨s.cap, s.data ++ b, s.sure⟩, 0) ∧ ¬ s.cap - s.data.length < b.length := by
  rw [writeP, if_pos hm]
  unfold fwriteP
  split
  · rename_i h; exact .inl ⟨rfl, h⟩
  · rename_i h; exact .inr ⟨rfl, h⟩
theorem may_data {s : Sp} (hm : mayP s = true) : 0 ≤ s.cap ∧ s.cap ≤ 16384 ∧ (s.data.length : Int) ≤ s.cap ∧ 0 ≤ s.sure ∧ s.sure ≤ (s.data.length : Int) := mayT_iff.1 hm
theorem may_of {s : Sp} (h : 0 ≤ s.cap ∧ s.cap ≤ 16384 ∧ (s.data.length : Int) ≤ s.cap ∧ 0 ≤ s.sure ∧ s.sure ≤ (s.data.length : Int)) : mayP s = true := mayT_iff.2 h
theorem write_may {s t : Sp} {b : List Int} {e : Int} (hm : mayP s = true) (h : writeP s b = (t, e)) : mayP t = true ∧ t.cap = s.cap ∧ t.sure = s.sure ∧ s.data.length ≤ t.data.length ∧ t.data.take s.data.length = s.data := by
  obtain ⟨q1, q2, q3, q4, q5⟩ := may_data hm
  rcases write_cases (b := b) hm with ⟨h1, h2⟩ | ⟨h1, h2⟩
  · rw [h1] at h
    injection h with h3 h4
    subst h3
    exact ⟨hm, rfl, rfl, Nat.le_refl _, List.take_length⟩
  · rw [h1] at h
    injection h with h3 h4
    subst h3
    refine ⟨may_of ?_, rfl, rfl, ?_, ?_⟩
    · simp only [List.length_append]; omega
    · simp only [List.length_append]; omega
    · simp
theorem write_few {s t : Sp} {b : List Int} {e : Int} (hm : mayP s = true) (h : writeP s b = (t, e)) : t.data.length ≤ 16384 := by
  obtain ⟨h1, _⟩ := write_may hm h
  have := may_data h1
  omega
theorem kept_at {s : Sp} {keep : Int} (hm : mayP s = true) : ∃ j : Nat, keptP s keep = j ∧ s.sure ≤ j ∧ j ≤ s.data.length ∧ crashP s keep = ⟨s.cap, s.data.take j, j⟩ := by
  obtain ⟨q1, q2, q3, q4, q5⟩ := may_data hm
  obtain ⟨j, hj⟩ := Int.eq_ofNat_of_zero_le (show 0 ≤ keptP s keep by unfold keptP; omega)
  refine ⟨j, hj, by unfold keptP at hj; omega, by unfold keptP at hj; omega, ?_⟩
  rw [crashP, if_pos hm, hj]
  rfl
theorem crash_may {s t : Sp} {keep : Int} (hm : mayP s = true) (h : crashP s keep = t) : mayP t = true ∧ t.cap = s.cap ∧ t.sure = (t.data.length : Int) ∧ s.sure ≤ (t.data.length : Int) ∧ t.data.length ≤ s.data.length ∧ t.data = s.data.take t.data.length := by
  obtain ⟨q1, q2, q3, q4, q5⟩ := may_data hm
  obtain ⟨j, hj, h1, h2, h3⟩ := kept_at (keep := keep) hm
  rw [h3] at h
  subst h
  have hl : (s.data.take j).length = j := by rw [List.length_take]; omega
  refine ⟨may_of ?_, rfl, ?_, ?_, ?_, ?_⟩
  · simp only [hl]; omega
  · simp only [hl]
  · simp only [hl]; exact h1
  · simp only [hl]; omega
  · simp only [hl]
theorem crash_more {s t u : Sp} {a b : Int} (hm : mayP s = true) (hab : a ≤ b) (h1 : crashP s a = t) (h2 : crashP s b = u) : t.data.length ≤ u.data.length ∧ t.data = u.data.take t.data.length := by
  obtain ⟨j, hj, j1, j2, j3⟩ := kept_at (keep := a) hm
  obtain ⟨k, hk, k1, k2, k3⟩ := kept_at (keep := b) hm
  have hjk : j ≤ k := by unfold keptP at hj hk; omega
  rw [j3] at h1
  rw [k3] at h2
  subst h1 h2
  have l1 : (s.data.take j).length = j := by rw [List.length_take]; omega
  have l2 : (s.data.take k).length = k := by rw [List.length_take]; omega
  simp only [l1, l2]
  exact ⟨hjk, by rw [List.take_take, Nat.min_eq_left hjk]⟩
theorem crash_all {s t : Sp} (hm : mayP s = true) (h : crashP s s.data.length = t) : t.data = s.data := by
  obtain ⟨q1, q2, q3, q4, q5⟩ := may_data hm
  obtain ⟨j, hj, j1, j2, j3⟩ := kept_at (keep := s.data.length) hm
  have e : j = s.data.length := by unfold keptP at hj; omega
  rw [j3] at h
  subst h e
  exact List.take_length
/-- of a store of which all is sure a crash takes nothing -/
theorem crash_again {t : Sp} {k : Int} (hm : mayP t = true) (hs : t.sure = (t.data.length : Int)) : crashP t k = t := by
  obtain ⟨j, hj, j1, j2, j3⟩ := kept_at (keep := k) hm
  have e : j = t.data.length := by omega
  rw [j3, e, List.take_length, ← hs]
theorem write_no {s : Sp} {b : List Int} (hm : mayP s = false) : writeP s b = (s, 1) := by rw [writeP, if_neg (by rw [hm]; simp)]
theorem stcut_no {s : Sp} {k : Int} (hm : mayP s = false) : cutP s k = (s, 1) := by rw [cutP, if_neg (by rw [hm]; simp)]
theorem crash_no {s : Sp} {k : Int} (hm : mayP s = false) : crashP s k = s := by rw [crashP, if_neg (by rw [hm]; simp)]
theorem cut_cases {s : Sp} {k : Int} (hm : mayP s = true) : (cutP s k = (s, 1) ∧ ¬ (0 ≤ k ∧ k ≤ (s.data.length : Int))) ∨ ∃ j : Nat, k = j ∧ j ≤ s.data.length ∧ cutP s k = (⟨s.cap, s.data.take j, j⟩, 0) := by
  rw [cutP, if_pos hm]
  unfold fcutP
  split
  · rename_i h; exact .inl ⟨rfl, by omega⟩
  · rename_i h
    obtain ⟨j, rfl⟩ := Int.eq_ofNat_of_zero_le (show 0 ≤ k by omega)
    exact .inr ⟨j, rfl, by omega, rfl⟩
theorem write_stays {s t : Sp} {b : List Int} {e : Int} (h : writeP s b = (t, e)) : mayP t = mayP s ∧ t.cap = s.cap ∧ (e ≠ 0 → t = s) := by
  cases hm : mayP s with
  | false =>
    rw [write_no hm] at h
    injection h with h1 h2
    subst h1
    exact ⟨hm, rfl, fun _ => rfl⟩
  | true =>
    refine ⟨(write_may hm h).1, (write_may hm h).2.1, fun he => ?_⟩
    rcases write_cases (b := b) hm with ⟨h1, _⟩ | ⟨h1, _⟩
    · rw [h1] at h; injection h with h3 h4; exact h3.symm
    · rw [h1] at h; injection h with h3 h4; exact absurd h4.symm he
theorem cut_stays {s t : Sp} {k e : Int} (h : cutP s k = (t, e)) : mayP t = mayP s ∧ t.cap = s.cap ∧ (e ≠ 0 → t = s) := by
  cases hm : mayP s with
  | false =>
    rw [stcut_no hm] at h
    injection h with h1 h2
    subst h1
    exact ⟨hm, rfl, fun _ => rfl⟩
  | true =>
    obtain ⟨q1, q2, q3, q4, q5⟩ := may_data hm
    rcases cut_cases (k := k) hm with ⟨h1, _⟩ | ⟨j, rfl, hj, h1⟩
    · rw [h1] at h; injection h with h3 h4; subst h3; exact ⟨hm, rfl, fun _ => rfl⟩
    · rw [h1] at h; injection h with h3 h4; subst h3
      refine ⟨may_of ?_, rfl, fun he => absurd h4.symm he⟩
      have l1 : (s.data.take j).length = j := by rw [List.length_take]; omega
      simp only [l1]
      omega
theorem crash_stays {s t : Sp} {k : Int} (h : crashP s k = t) : mayP t = mayP s ∧ t.cap = s.cap := by
  cases hm : mayP s with
  | false => rw [crash_no hm] at h; subst h; exact ⟨hm, rfl⟩
  | true => exact ⟨(crash_may hm h).1, (crash_may hm h).2.1⟩
theorem sync_ok {s : Sp} (hm : mayP s = true) : syncP s = (⟨s.cap, s.data, s.data.length⟩, 0) := by
  rcases cut_cases (k := s.data.length) hm with ⟨h1, h2⟩ | ⟨j, hj, hj2, h1⟩
  · exact absurd ⟨by omega, Int.le_refl _⟩ h2
  · have e : j = s.data.length := by omega
    rw [syncP, h1]
    subst e
    rw [List.take_length]
/-- the errors of all three, one way or another -/
theorem three_ways (s : Sp) (b : List Int) (k : Int) : (mayP s = false ∧ (writeP s b).2 = 1 ∧ (syncP s).2 = 1 ∧ (cutP s k).2 = 1) ∨ mayP s = true ∧ (syncP s).2 = 0 ∧ ((writeP s b).2 = 0 ∨ (writeP s b).2 = 12) ∧ ((cutP s k).2 = 0 ∨ (cutP s k).2 = 1) := by
  cases hm : mayP s with
  | false => exact .inl ⟨rfl, by rw [write_no hm], by rw [syncP, stcut_no hm], by rw [stcut_no hm]⟩
  | true =>
    refine .inr ⟨rfl, by rw [sync_ok hm], ?_, ?_⟩
    · rcases write_cases (b := b) hm with ⟨h1, _⟩ | ⟨h1, _⟩
      · exact .inr (by rw [h1])
      · exact .inl (by rw [h1])
    · rcases cut_cases (k := k) hm with ⟨h1, _⟩ | ⟨j, _, _, h1⟩
      · exact .inr (by rw [h1])
      · exact .inl (by rw [h1])
end Go.Proofs.YtafmompplcaadaaGreatDoor

/- Numbers as bytes, the highest byte first, as functions of lists. -/
namespace Go.Proofs.YtafmompplcaadaaGreatDoor
open Go

/-- the byte of N at place i of k -/
def putAt (N k i : Nat) : Int := ((N / 256 ^ (k - 1 - i) % 256 : Nat) : Int)
def putL (N k : Nat) : List Int := (List.range k).map (putAt N k)
/-- the number of bytes -/
def numOf : List Int → Nat → Nat
  | [], a => a
  | x :: l, a => numOf l (256 * a + x.toNat)
def numL (l : List Int) : Nat := numOf l 0
/-- filled from behind: the last j bytes are set -/
def fillBack (N k : Nat) : Nat → List Int
  | 0 => List.replicate k 0
  | j + 1 => (fillBack N k j).set (k - 1 - j) ((N / 256 ^ j % 256 : Nat) : Int)

theorem putL_length (N k : Nat) : (putL N k).length = k := by simp [putL]
theorem putAt_ok (N k i : Nat) : 0 ≤ putAt N k i ∧ putAt N k i < 256 := by unfold putAt; omega
theorem fillBack_length (N k j : Nat) : (fillBack N k j).length = k := by
  induction j with
  | zero => simp [fillBack]
  | succ j ih => simp [fillBack, ih]
theorem fillBack_get (N k j i : Nat) (hj : j ≤ k) (hi : i < k) : (fillBack N k j)[i]? = some (if k - j ≤ i then putAt N k i else 0) := by
  induction j with
  | zero => simp [fillBack, hi]; omega
  | succ j ih =>
    have ih := ih (by omega)
    rw [fillBack, List.getElem?_set, fillBack_length]
    by_cases h : k - 1 - j = i
    · rw [if_pos h, if_pos (by omega), if_pos (by omega)]
      subst h
      rw [putAt, show k - 1 - (k - 1 - j) = j by omega]
    · rw [if_neg h, ih]
      by_cases h2 : k - j ≤ i
      · rw [if_pos h2, if_pos (by omega)]
      · rw [if_neg h2, if_neg (by omega)]
theorem fillBack_all (N k : Nat) : fillBack N k k = putL N k := by
  apply List.ext_getElem?
  intro i
  by_cases hi : i < k
  · rw [fillBack_get N k k i (Nat.le_refl _) hi, if_pos (by omega)]
    simp [putL, hi]
  · rw [List.getElem?_eq_none (by rw [fillBack_length]; omega), List.getElem?_eq_none (by rw [putL_length]; omega)]

theorem numOf_append (l m : List Int) (a : Nat) : numOf (l ++ m) a = numOf m (numOf l a) := by
  induction l generalizing a with
  | nil => rfl
  | cons x l ih => rw [List.cons_append, numOf, numOf, ih]
theorem numOf_bound (l : List Int) (hl : ∀ x ∈ l, 0 ≤ x ∧ x < 256) (a : Nat) : numOf l a < (a + 1) * 256 ^ l.length := by
  induction l generalizing a with
  | nil => simp [numOf]
  | cons x l ih =>
    have hx := hl x (by simp)
    have h := ih (fun y hy => hl y (by simp [hy])) (256 * a + x.toNat)
    rw [numOf, List.length_cons, Nat.pow_succ]
    refine Nat.lt_of_lt_of_le h ?_
    have : 256 * a + x.toNat + 1 ≤ (a + 1) * 256 := by omega
    calc (256 * a + x.toNat + 1) * 256 ^ l.length ≤ ((a + 1) * 256) * 256 ^ l.length := Nat.mul_le_mul_right _ this
      _ = (a + 1) * (256 ^ l.length * 256) := by rw [Nat.mul_assoc, Nat.mul_comm 256]
theorem numL_bound (l : List Int) (hl : ∀ x ∈ l, 0 ≤ x ∧ x < 256) : numL l < 256 ^ l.length := by
  have := numOf_bound l hl 0
  simpa [numL] using this
theorem putL_succ (N k : Nat) : putL N (k + 1) = putL (N / 256) k ++ [((N % 256 : Nat) : Int)] := by
  rw [putL, putL, List.range_succ, List.map_append]
  congr 1
  · apply List.map_congr_left
    intro i hi
    have hi : i < k := List.mem_range.1 hi
    rw [putAt, putAt, Nat.div_div_eq_div_mul, show k + 1 - 1 - i = (k - 1 - i) + 1 by omega, Nat.pow_succ, Nat.mul_comm]
  · simp [putAt]
/-- what is put is got -/
theorem num_put (N k : Nat) (h : N < 256 ^ k) : numL (putL N k) = N := by
  induction k generalizing N with
  | zero => simp at h; subst h; rfl
  | succ k ih =>
    have h2 : N / 256 < 256 ^ k := by
      rw [Nat.div_lt_iff_lt_mul (by omega)]
      rw [Nat.pow_succ] at h
      exact h
    have := ih (N / 256) h2
    rw [putL_succ, numL, numOf_append]
    rw [numL] at this
    rw [this]
    simp only [numOf]
    omega
theorem numOf_snoc (l : List Int) (x : Int) (a : Nat) : numOf (l ++ [x]) a = 256 * numOf l a + x.toNat := by
  rw [numOf_append]; rfl
/-- what is got is put as the same bytes -/
theorem put_num (l : List Int) (hl : ∀ x ∈ l, 0 ≤ x ∧ x < 256) : putL (numL l) l.length = l := by
  obtain ⟨k, hk⟩ : ∃ k, k = l.length := ⟨_, rfl⟩
  induction k generalizing l with
  | zero =>
    have : l = [] := List.eq_nil_of_length_eq_zero hk.symm
    subst this
    rfl
  | succ k ih =>
    have hne : l ≠ [] := by intro h; subst h; simp at hk
    obtain ⟨m, x, rfl⟩ : ∃ m x, l = m ++ [x] := ⟨l.dropLast, l.getLast hne, (List.dropLast_concat_getLast hne).symm⟩
    have hm : m.length = k := by simp at hk; omega
    have hx := hl x (by simp)
    have h := ih m (fun y hy => hl y (by simp [hy])) hm.symm
    rw [List.length_append, List.length_cons, List.length_nil, Nat.zero_add, hm, putL_succ, numL, numOf_snoc]
    rw [numL, hm] at h
    rw [show (256 * numOf m 0 + x.toNat) / 256 = numOf m 0 by omega, h, show (256 * numOf m 0 + x.toNat) % 256 = x.toNat by omega]
    congr 2
    omega
end Go.Proofs.YtafmompplcaadaaGreatDoor
