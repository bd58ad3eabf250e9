/- The walk over package sha's spelt: the bytes of a register. Arrays of bytes that lie in a block of their own. -/
import Derived.Test.YtomfnnhdihbpfaaDoorShaBts
import Derived.Test.YtomfnnhdihbpfaaDoorShaRounded
namespace Go.Proofs.YtomfnnhdihbpfaaDoor
open Go.RowKit

/-- an array of bytes, as cells -/
def idv (l : List Int) : Array Value := (byv l).toArray
theorem idv_size (l : List Int) : (idv l).size = l.length := by simp [idv, byv]
theorem idv_get (l : List Int) (i : Nat) (h : i < l.length) : (idv l)[i]? = some (.int .u8 (l.getD i 0)) := by
  simp [idv, byv, List.getD_eq_getElem?_getD, h]
theorem idv_set (l : List Int) (i : Nat) (v : Int) : (idv l).setIfInBounds i (.int .u8 v) = idv (l.set i v) := by
  simp [idv, byv, List.map_set]
theorem idv_one (l : List Int) : (idv l).all (·.oneCell') = true := by
  simp only [idv, byv, List.all_toArray, List.all_map, List.all_eq_true]
  intro x _
  rfl
def RowB (w : World) (g : Nat) (t : TypeId) (l : List Int) : Prop := w.heap[g]? = some (.cells (idv l) t (0, 0))
section
variable {w w' : World} {g : Nat} {t : TypeId} {l : List Int}
theorem RowB.lt (h : RowB w g t l) : g < w.heap.size := (Array.getElem?_eq_some_iff.1 h).1
theorem RowB.is (h : RowB w g t l) : w.heap[g]? = some (.cells (idv l) t (0, 0)) := h
theorem RowB.cell (h : RowB w g t l) (i : Nat) (hi : i < l.length) : w.cell? ⟨g, i, none⟩ = some (.int .u8 (l.getD i 0)) := by
  rw [cell_of_row _ _ _ _ _ _ h, idv_get _ _ hi]
theorem RowB.free (h : RowB w g t l) (i : Nat) : w.frozen? ⟨g, i, none⟩ = false := frozen_of_row _ _ i _ _ h
theorem RowB.draw (h : RowB w g t l) (n : Nat) : RowB (w.drewN n) g t l := h
theorem RowB.draw1 (h : RowB w g t l) : RowB w.drew g t l := h
theorem RowB.put (h : RowB w g t l) (i : Nat) (v : Int) : RowB (w.setCell ⟨g, i, none⟩ (.int .u8 v)) g t (l.set i v) :=
  (heap_setCell_same _ _ _ _ _ _ h).trans (by rw [idv_set])
theorem RowB.far (h : RowB w g t l) {a : Addr} (ha : g ≠ a.block) (v : Value) : RowB (w.setCell a v) g t l := (heap_setCell_other _ _ _ _ ha).trans h
theorem RowB.more (h : RowB w g t l) (o : Obj) : RowB (w.alloc o) g t l := (Below.heap_alloc w o g h.lt).trans h
theorem RowB.below {B : Nat} (h : RowB w g t l) (hb : Below B w w') (hg : g < B) : RowB w' g t l := (hb.block g hg).trans h
theorem RowB.all (h : RowB w g t l) (m : List Int) : RowB (w.setRow g (idv m)) g t m := setRow_heap _ _ _ _ _ _ h
theorem RowB.grown {row : Option Nat} (h : RowB w g t l) (hb : w.grownBy w' row) (hg : some g ≠ row) : RowB w' g t l := (hb.block g h.lt hg).trans h
theorem rowb_lit (w : World) (t : TypeId) (cs : Array Value) (l : List Int) (h : cs = idv l) : RowB (w.alloc (.cells cs t)) w.heap.size t l := by
  subst h
  exact heap_alloc_new w _
end
theorem wpList_load_b {P : Program} {ops : Array Oper} {rest : List Oper} {o : Oper} {a : Act} {w : World} {Q : Exit → Act → World → Prop} (hgd : o.guard = none) (ty : TypeId) (d : TypeDesc) (x : Operand) (ho : o.op = .load ty x)
    (g : Nat) (hx : a.eval x = .pointer (some ⟨g, 0, none⟩)) (t : TypeId) (l : List Int) (hg : RowB w g t l)
    (hu : P.underlying ty = some d) (hd : (match d with | .struct _ | .array _ _ => true | _ => false) = true) (hi : (P.info? ty).map (·.size) = some (idv l).size)
    (h : wpList P ops Q rest (a.put o.dst (.agg (idv l))) w) : wpList P ops Q (o :: rest) a w :=
  wpList_load_row hgd ty x ho g hx t (idv l) (0, 0) d hg hu hd hi h
theorem wpList_store_b {P : Program} {ops : Array Oper} {rest : List Oper} {o : Oper} {a : Act} {w : World} {Q : Exit → Act → World → Prop} (hgd : o.guard = none) (ty : TypeId) (x y : Operand) (ho : o.op = .store ty x y)
    (g : Nat) (m : List Int) (hx : a.eval x = .pointer (some ⟨g, 0, none⟩)) (hy : a.eval y = .agg (idv m)) (t : TypeId) (l : List Int) (hg : RowB w g t l) (hi : (P.info? ty).map (·.size) = some (idv m).size) (hl : l.length = m.length)
    (h : ∀ w', w.grownBy w' (some g) → RowB w' g t m → w'.heap.size = w.heap.size → wpList P ops Q rest (a.put o.dst undef) w') : wpList P ops Q (o :: rest) a w :=
  wpList_store_row hgd ty x y ho g (idv m) hx hy t (idv l) hg hi (by rw [idv_size, idv_size, hl]) (idv_one m) (h _ (grown_setRow _ _ _) (hg.all m) (by simp))

theorem two_rows (w : World) (o1 : Obj) (t : TypeId) (c2 c3 : Array Value) (l : List Int) (h2 : c2 = idv l) (h3 : c3 = idv l) :
    RowB (((w.alloc o1).alloc (.cells c2 t)).alloc (.cells c3 t)) (w.heap.size + 1) t l ∧ RowB (((w.alloc o1).alloc (.cells c2 t)).alloc (.cells c3 t)) (w.heap.size + 2) t l := by
  have e1 : (w.alloc o1).heap.size = w.heap.size + 1 := by simp
  have e2 : ((w.alloc o1).alloc (.cells c2 t)).heap.size = w.heap.size + 2 := by simp
  have a := (rowb_lit (w.alloc o1) t c2 l h2).more (.cells c3 t)
  have b := rowb_lit ((w.alloc o1).alloc (.cells c2 t)) t c3 l h3
  rw [e1] at a
  rw [e2] at b
  exact ⟨a, b⟩
theorem three_below (w : World) (o1 o2 o3 : Obj) : Below w.heap.size w (((w.alloc o1).alloc o2).alloc o3) := (two_below w o1 o2).alloc (by simp; omega) _
theorem info32 {l : List Int} (h : l.length = 32) : (Tryd.prog.info? 33).map (·.size) = some (idv l).size := by rw [idv_size, h]; kernel_rfl

/-- an array that is filled from its head on -/
def fillTo (f : Nat → Int) (n : Nat) : Nat → List Int
  | 0 => List.replicate n 0
  | k + 1 => (fillTo f n k).set k (f k)
theorem fillTo_eq (f : Nat → Int) (n k : Nat) (h : k ≤ n) : fillTo f n k = (List.range k).map f ++ List.replicate (n - k) 0 := by
  induction k with
  | zero => simp [fillTo]
  | succ k ih =>
    rw [fillTo, ih (by omega), List.range_succ, List.map_append, List.append_assoc]
    have e : n - k = (n - (k + 1)) + 1 := by omega
    rw [List.set_append_right _ _ (by simp), e, List.replicate_succ]
    simp
theorem fillTo_length (f : Nat → Int) (n k : Nat) : (fillTo f n k).length = n := by
  induction k with
  | zero => simp [fillTo]
  | succ k ih => simp [fillTo, ih]
theorem fillTo_all (f : Nat → Int) (n : Nat) : fillTo f n n = (List.range n).map f := by
  rw [fillTo_eq f n n (Nat.le_refl _)]; simp

set_option maxRecDepth 100000 in
set_option maxHeartbeats 1000000 in
theorem spelt_any (r : List Int) (w : World) (hr : r.length = 8) :
    Calls Tryd.prog 40 #[.agg (regv r)] w fun e w' => e = .returned (.agg (idv (speltL r))) ∧ Below w.heap.size w w' := by
  have HR := Lib.hid hr
  clear hr
  go_enter Tryd.func40, Tryd.ntmps40
  go_wp2
  go_loopw [5] (fun i wr => ∃ k : Nat, k ≤ 32 ∧ i = .int .i64 k ∧ Row wr w.heap.size 23 r ∧ RowB wr (w.heap.size + 1) 33 (List.replicate 32 0) ∧ RowB wr (w.heap.size + 2) 33 (fillTo (speltAt r) 32 k) ∧ Below w.heap.size w wr)
    (fun i _ => 32 - (intOf i).toNat)
  case atStart =>
    have h := two_rows w (.cells (regv r) 23) 33 _ _ (List.replicate 32 0) rfl rfl
    exact ⟨0, by omega, rfl, Row.more (heap_alloc2_old w _ _) _, h.1, h.2, three_below w _ _ _⟩
  case round =>
    obtain ⟨k, hk, rfl, hR, hO, hX, hB⟩ := hrel
    have hXl := fillTo_length (speltAt r) 32 k
    by_cases hlt : k < 32
    · have hRc := hR.cell (k / 4) (by rw [HR.out]; omega)
      have hXc := hX.cell k (by rw [hXl]; exact hlt)
      have hXf := hX.free k
      have hnext : fillTo (speltAt r) 32 (k + 1) = (fillTo (speltAt r) 32 k).set k (speltAt r k) := rfl
      obtain ⟨x, hx⟩ : ∃ x, x = r.getD (k / 4) 0 := ⟨_, rfl⟩
      rw [← hx] at hRc
      have hval : speltAt r k = x / 2 ^ (24 - 8 * (k % 4)) % 256 := by rw [speltAt, hx]
      rw [hval] at hnext
      have HN := Lib.hid hnext
      clear hx hnext hval hXl
      go_wp2
      go_roundw
      case rel =>
        refine ⟨k + 1, by omega, by go_num, ?_, ?_, ?_, ?_⟩
        · exact hR.draw1.far (a := ⟨w.heap.size + 2, k, none⟩) (by simp) _
        · exact hO.draw1.far (a := ⟨w.heap.size + 2, k, none⟩) (by simp) _
        · rw [HN.out]; exact hX.draw1.put k _
        · exact hB.setCell (p := ⟨w.heap.size + 2, k, none⟩) (by simp) _
      case measure => simp [intOf]; omega
    · have hge : 32 ≤ k := by omega
      rw [show k = 32 by omega] at hX hXl
      rw [fillTo_all] at hX hXl
      obtain ⟨Z, hZ⟩ : ∃ Z, Z = speltL r := ⟨_, rfl⟩
      have hX : RowB wr (w.heap.size + 2) 33 Z := by rw [hZ]; exact hX
      have hXl : Z.length = 32 := by rw [hZ]; exact hXl
      have HZ := Lib.hid hZ
      have HXL := Lib.hid hXl
      clear hlt hk hXl hZ hR
      go_wp2_with (first
        | ((with_reducible refine wpList_load_b rfl 33 _ _ rfl (w.heap.size + 2) ?hx6 33 Z hX Tryd.underlying33 ?hd6 (info32 HXL.out) ?_); (case hx6 => rfl); (case hd6 => rfl))
        | ((with_reducible refine wpList_store_b rfl 33 _ _ rfl (w.heap.size + 1) Z ?hx7 ?hy7 33 (List.replicate 32 0) hO (info32 HXL.out) ?hl7 ?hm7); (case hx7 => rfl); (case hy7 => rfl); (case hl7 => rw [HXL.out]; rfl)
           intro w6 hg6 hX6 hs6))
      refine bodyPost_ret (v := .agg (idv Z)) ?_ ?_ ?_
      · exact results_cell_row Tryd.results40 _ _ (w.heap.size + 1) 33 _ (0, 0) _ rfl hX6.is Tryd.underlying33 rfl (info32 HXL.out)
      · rfl
      · exact ⟨by rw [HZ.out], Below.grows hB hg6 hB.size (by omega)⟩
end Go.Proofs.YtomfnnhdihbpfaaDoor
