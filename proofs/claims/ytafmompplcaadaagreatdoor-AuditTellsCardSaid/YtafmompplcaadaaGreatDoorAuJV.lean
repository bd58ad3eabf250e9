/- Joined texts: Loads and stores of whole rows inside a fence; a load out of the middle of a block. The walk over package chain's read: the entries of bytes, and what is wrong. The walk over package chain's textOf: the text that stands at the end of records. The walks over package chain's Read, Verify and Clash. The walk over package audit's Open of a store. AudOk: what package audit does, of the landed code. The laws' arguments, opened: an entry by value; a slice of entries. The laws' arguments, opened: a head. -/
import Derived.Test.YtafmompplcaadaaGreatDoorAuJA
import Derived.OwnWalkIn
import Derived.TacticsInMore
import Derived.Test.YtafmompplcaadaaGreatDoorAuJP
import Derived.Test.YtafmompplcaadaaGreatDoorAuJU
import Derived.Test.YtafmompplcaadaaGreatDoorAuJK
import Derived.Test.YtafmompplcaadaaGreatDoorAuJQ
import Derived.Test.YtafmompplcaadaaGreatDoorAuJG
import Derived.Test.YtafmompplcaadaaGreatDoorAuJH
import Derived.Test.YtafmompplcaadaaGreatDoorAuJJ
import Derived.Test.YtafmompplcaadaaGreatDoorAuJL
import Derived.Test.YtafmompplcaadaaGreatDoorAuJI
import Derived.Test.YtafmompplcaadaaGreatDoorAuJD
import Derived.Deep.Slices
import Derived.Deep.SlicePairs
import Derived.Test.YtafmompplcaadaaGreatDoorAuJB
import Derived.Test.YtafmompplcaadaaGreatDoorAuJF
/- Loads and stores of whole rows inside a fence; a load out of the middle of a block. -/
namespace Go.Proofs.YtafmompplcaadaaGreatDoor
set_option linter.unusedVariables false
open Go.RowKit

section
variable {F : Fence} {n : Nat} {P : Program} {ops : Array Oper} {rest : List Oper} {o : Oper} {a : Act} {w : World} {K : Act → World → Prop} {Q : Exit → Act → World → Prop}
theorem wpIn_load_blk (ty : TypeId) (x : Operand) (ho : o.op = .load ty x) (g : Nat) (hx : a.eval x = .pointer (some ⟨g, 0, none⟩)) (t : TypeId) (cs : Array Value) (fr : Nat × Nat) (d : TypeDesc) (hg : w.heap[g]? = some (.cells cs t fr))
    (hu : P.underlying ty = some d) (hd : (match d with | .struct _ | .array _ _ => true | _ => false) = true) (hi : (P.info? ty).map (·.size) = some cs.size)
    (h : K (a.put o.dst (.agg cs)) w) : o.wpIn F n P a w K Q := by
  unfold Oper.wpIn
  refine ⟨?_, ?_⟩
  · simp [Oper.about, ho]
  · rw [Oper.semAt_plain F _ _ (by rw [ho]; intro c hc; cases hc)]
    unfold execOp
    simp only [ho, hx, Instr.loadAt, Instr.sureAddr, Sem.run_bind, Sem.run_pure, Result.andThen_ok, run_loadVar_row w g t ty cs fr d hg hu hd hi]
    exact h
theorem wpIn_store_blk (ty : TypeId) (x y : Operand) (ho : o.op = .store ty x y) (g : Nat) (cells : Array Value) (hx : a.eval x = .pointer (some ⟨g, 0, none⟩)) (hy : a.eval y = .agg cells)
    (t : TypeId) (old : Array Value) (hg : w.heap[g]? = some (.cells old t (0, 0))) (hi : (P.info? ty).map (·.size) = some cells.size) (hold : old.size = cells.size) (h1 : cells.all (·.oneCell') = true)
    (h : K (a.put o.dst undef) (w.setRow g cells)) : o.wpIn F n P a w K Q := by
  unfold Oper.wpIn
  refine ⟨?_, ?_⟩
  · simp [Oper.about, ho]
  · rw [Oper.semAt_plain F _ _ (by rw [ho]; intro c hc; cases hc)]
    unfold execOp
    simp only [ho, hx, hy, Instr.storeAt, Instr.sureAddr, Sem.run_bind, Sem.run_pure, Result.andThen_ok, run_storeVar_row w g t ty old cells hg hi hold h1]
    exact h
theorem wpListIn_load_blk (ty : TypeId) (x : Operand) (ho : o.op = .load ty x) (g : Nat) (hx : a.eval x = .pointer (some ⟨g, 0, none⟩)) (t : TypeId) (cs : Array Value) (fr : Nat × Nat) (d : TypeDesc) (hg : w.heap[g]? = some (.cells cs t fr))
    (hu : P.underlying ty = some d) (hd : (match d with | .struct _ | .array _ _ => true | _ => false) = true) (hi : (P.info? ty).map (·.size) = some cs.size)
    (h : wpListIn F n P ops Q rest (a.put o.dst (.agg cs)) w) (hw : Region.wanted o (yielded ops a.tmps) = true) : wpListIn F n P ops Q (o :: rest) a w :=
  wpListIn_step fun K hK => by rw [if_pos hw]; exact wpIn_load_blk ty x ho g hx t cs fr d hg hu hd hi (hK _ _ h)
theorem wpListIn_store_blk (hgd : o.guard = none) (ty : TypeId) (x y : Operand) (ho : o.op = .store ty x y)
    (g : Nat) (cells : Array Value) (hx : a.eval x = .pointer (some ⟨g, 0, none⟩)) (hy : a.eval y = .agg cells) (t : TypeId) (old : Array Value) (hg : w.heap[g]? = some (.cells old t (0, 0))) (hi : (P.info? ty).map (·.size) = some cells.size) (hold : old.size = cells.size) (h1 : cells.all (·.oneCell') = true)
    (h : ∀ w', w.grownBy w' (some g) → w'.heap[g]? = some (.cells cells t (0, 0)) → w'.heap.size = w.heap.size → wpListIn F n P ops Q rest (a.put o.dst undef) w') : wpListIn F n P ops Q (o :: rest) a w :=
  wpListIn_plain hgd fun K hK => wpIn_store_blk ty x y ho g cells hx hy t old hg hi hold h1 (hK _ _ (h _ (grown_setRow _ _ _) (setRow_heap _ _ _ _ _ _ hg) (by simp)))
/-- an operation that runs to a value, one step of a region that draws its order -/
theorem stepF_run (v : Value) (w' : World) (hw : Region.wanted o (yielded ops a.tmps) = true) (hd : ∀ c, o.op ≠ .defer c) (hab : o.about P w a.eval = none) (hrun : (execOp a.eval o).run P w = .ok (.value v) w') {E : Prop}
    (h : K (a.put o.dst v) w') : if Region.wanted o (yielded ops a.tmps) = true then Oper.wpIn F n P o a w K Q else E := by
  rw [if_pos hw]
  unfold Oper.wpIn
  refine ⟨fun f hf => by (rw [hab] at hf; cases hf), ?_⟩
  rw [Oper.semAt_plain F _ _ hd, hrun]
  exact h
theorem stepF_load (ty : TypeId) (x : Operand) (ho : o.op = .load ty x) (g : Nat) (hx : a.eval x = .pointer (some ⟨g, 0, none⟩)) (t : TypeId) (cs : Array Value) (fr : Nat × Nat) (d : TypeDesc) (hg : w.heap[g]? = some (.cells cs t fr))
    (hu : P.underlying ty = some d) (hd : (match d with | .struct _ | .array _ _ => true | _ => false) = true) (hi : (P.info? ty).map (·.size) = some cs.size) (hw : Region.wanted o (yielded ops a.tmps) = true) {E : Prop}
    (h : K (a.put o.dst (.agg cs)) w) : if Region.wanted o (yielded ops a.tmps) = true then Oper.wpIn F n P o a w K Q else E := by
  rw [if_pos hw]
  exact wpIn_load_blk ty x ho g hx t cs fr d hg hu hd hi h
end
end Go.Proofs.YtafmompplcaadaaGreatDoor

/- The walk over package chain's read: the entries of bytes, and what is wrong. -/
namespace Go.Proofs.YtafmompplcaadaaGreatDoor
set_option maxRecDepth 100000
set_option linter.unusedVariables false
set_option linter.unusedSimpArgs false
open Go.RowKit Go.Shelf
attribute [local go_sem] Oper.semAt_some

/-- gives entries, and a number -/
def GEr (L : List En) (x : Int) (w : World) (e : Ending) (w' : World) : Prop := ∃ A n c, e = .returned (.tuple #[.slice A n c, .int .i64 x]) ∧ Ens w' A n c L ∧ OwnR 33 9 w' w.heap.size (.slice A n c) (L.map En.row) ∧ Below w.heap.size w w'
theorem records_any (A : Option Addr) (n c : Nat) (w : World) :
    Calls Tryz.prog 72 #[.slice A n c] w fun e w' => e = .returned (.func (.func 84) #[] #[.pointer (some ⟨w.heap.size, 0, none⟩)]) ∧ w.alloc (.cells #[.slice A n c] 22) = w' := by
  go_enter Tryz.func72, Tryz.ntmps72
  go_wp2
  go_ret
  exact ⟨rfl, rfl⟩
theorem cells_own_c {b l : Nat} {X : World} {cs : Array Value} {t : TypeId} {o : Obj} (hb : X.heap[b]? = some (.cells cs t (0, 0))) (hl : X.heap[l]? = some o) (hc : o.isCells = false) : b ≠ l := by
  rintro rfl
  rw [hb] at hl
  cases hl
  cases hc
/-- between two rounds -/
def RdInv (w : World) (rA rB B : Nat) (R : List En) (k : Nat) (X : World) : Prop :=
  k ≤ R.length ∧ (∃ v, Boxed X rB 25 v ∧ OwnR 33 9 X B v ((R.take k).map En.row)) ∧ Boxed X w.heap.size 25 (.slice none 0 0) ∧ Boxed X rA 31 (.int .i64 0) ∧ Below w.heap.size w X
/-- at the end -/
def RdEnd (w : World) (rA B : Nat) (R : List En) (x : Int) (X : World) : Prop :=
  ∃ v, Boxed X w.heap.size 25 v ∧ OwnR 33 9 X B v (R.map En.row) ∧ Boxed X rA 31 (.int .i64 x) ∧ Below w.heap.size w X
theorem rdInv_turn {w X Y : World} {rA rB B : Nat} {R : List En} {k : Nat} {row : Option Nat} (h : RdInv w rA rB B R k X) (hg : X.grownBy Y row) (hr : ∀ r, row = some r → w.heap.size ≤ r ∧ ∃ o : Obj, X.heap[r]? = some o ∧ o.isCells = false) : RdInv w rA rB B R k Y := by
  obtain ⟨h1, ⟨v, h2, h3⟩, h4, h5, h6⟩ := h
  have hr2 := fun r e => (hr r e).2
  exact ⟨h1, ⟨v, boxed_turn h2 hg hr2, ownR_turn h3 hg hr2⟩, boxed_turn h4 hg hr2, boxed_turn h5 hg hr2, h6.grown hg h6.size (fun r e => (hr r e).1)⟩
theorem rdEnd_turn {w X Y : World} {rA B : Nat} {R : List En} {x : Int} {row : Option Nat} (h : RdEnd w rA B R x X) (hg : X.grownBy Y row) (hr : ∀ r, row = some r → w.heap.size ≤ r ∧ ∃ o : Obj, X.heap[r]? = some o ∧ o.isCells = false) : RdEnd w rA B R x Y := by
  obtain ⟨v, h2, h3, h5, h6⟩ := h
  have hr2 := fun r e => (hr r e).2
  exact ⟨v, boxed_turn h2 hg hr2, ownR_turn h3 hg hr2, boxed_turn h5 hg hr2, h6.grown hg h6.size (fun r e => (hr r e).1)⟩
theorem rdEnd_put {w X : World} {rA B : Nat} {R : List En} {v v0 v1 : Value} (x : Int) (h0 : Boxed X w.heap.size 25 v0) (h1 : Boxed X rA 31 v1) (ho : OwnR 33 9 X B v (R.map En.row)) (hB : Below w.heap.size w X) (hlt : w.heap.size < rA) (hlt2 : rA < B) :
    RdEnd w rA B R x ((X.setCell ⟨w.heap.size, 0, none⟩ v).setCell ⟨rA, 0, none⟩ (.int .i64 x)) := by
  have k0 : Boxed ((X.setCell ⟨w.heap.size, 0, none⟩ v).setCell ⟨rA, 0, none⟩ (.int .i64 x)) w.heap.size 25 v := (h0.set v).kept (grownBy_setCell' _ rA _) (fun e => by injection e with e; omega)
  have k1 : Boxed (X.setCell ⟨w.heap.size, 0, none⟩ v) rA 31 v1 := h1.kept (grownBy_setCell' X w.heap.size v) (fun e => by injection e with e; omega)
  exact ⟨v, k0, ownR_set (ownR_set ho (by omega)) hlt2, k1.set _, (hB.setCell (p := ⟨w.heap.size, 0, none⟩) (Nat.le_refl _) v).setCell (p := ⟨rA, 0, none⟩) (Nat.le_of_lt hlt) _⟩
theorem two_cells_keep (X : World) (a b : Addr) (u v : Value) : KeepsOthers X ((X.setCell a u).setCell b v) := (KeepsOthers.setCell X a u).trans (KeepsOthers.setCell _ b v)
set_option maxRecDepth 100000 in
set_option maxHeartbeats 8000000 in
theorem cread0_any (A : Option Addr) (n c : Nat) (b : List Int) (w : World) (hK : KTab w) (hb : Bts w A n c b) :
    Calls Tryz.prog 57 #[.slice A n c] w (GEr (readC b) (errC b) w) := by
  have hn := hb.small
  have hbl := hb.len
  have hbm := bytes_mem hb.ok
  have HRL := Lib.hid (readC_le b)
  have HAH := Lib.hid (fun (k : Nat) => @head_ahead b hbm k)
  have HON := Lib.hid (fun (k : Nat) (h : List Int) => @read_on b k h)
  have HFO := Lib.hid (fun (k : Nat) (h : List Int) => @err_form b k h)
  have HTG := Lib.hid (fun (k : Nat) (h : List Int) => @err_tag b k h)
  have HEN := Lib.hid (fun (k : Nat) => @err_end b k)
  obtain ⟨R, hR⟩ : ∃ R, readC b = R := ⟨_, rfl⟩
  obtain ⟨E, hE⟩ : ∃ E, errC b = E := ⟨_, rfl⟩
  rw [hR] at HRL HAH HON HFO HTG HEN ⊢
  rw [hE] at HFO HTG HEN ⊢
  refine (callsIn_wide (n := 9)).1 ?_
  refine callsIn_of_wp_marks Tryz.func57 rfl trivial ?_ rfl
  simp only [Tryz.ntmps57, List.size_toArray, List.length_cons, List.length_nil, Nat.reduceAdd, Nat.reduceSub, Array.replicate_succ, Array.replicate_zero, List.push_toArray, List.append_toArray, List.nil_append, List.cons_append]
  gi_wp2_with (refine ⟨trivial, ?_⟩; gi_at_call 72; refine (callsIn_wide.2 (records_any _ _ _ _)).mono ?_; rintro e w1 ⟨rfl, rfl⟩)
  clear hR hE
  have HD := Lib.hid hb
  have HK := Lib.hid hK
  have HBM := Lib.hid hbm
  have o1 := Boxed.new w 25 (.slice none 0 0)
  obtain ⟨V1, hV1⟩ : ∃ V1, w.alloc (.cells #[.slice none 0 0] 25) = V1 := ⟨_, rfl⟩
  have s1 : V1.heap.size = w.heap.size + 1 := by rw [← hV1]; simp
  rw [hV1] at o1 ⊢
  have o2 := Boxed.new V1 31 (.int .i64 0)
  obtain ⟨V2, hV2⟩ : ∃ V2, V1.alloc (.cells #[.int .i64 0] 31) = V2 := ⟨_, rfl⟩
  have s2 : V2.heap.size = w.heap.size + 1 + 1 := by rw [← hV2]; simp [s1]
  rw [s1] at o2
  have o1 := o1.alloc (.cells #[.int .i64 0] 31)
  rw [hV2] at o1 o2 ⊢
  have o3 := Boxed.new V2 25 (.slice none 0 0)
  obtain ⟨V3, hV3⟩ : ∃ V3, V2.alloc (.cells #[.slice none 0 0] 25) = V3 := ⟨_, rfl⟩
  have s3 : V3.heap.size = w.heap.size + 1 + 1 + 1 := by rw [← hV3]; simp [s2]
  rw [s2] at o3
  have o1 := o1.alloc (.cells #[.slice none 0 0] 25)
  have o2 := o2.alloc (.cells #[.slice none 0 0] 25)
  rw [hV3] at o1 o2 o3 ⊢
  have o4 := Boxed.new V3 22 (.slice A n c)
  obtain ⟨W0, hW0⟩ : ∃ W0, V3.alloc (.cells #[.slice A n c] 22) = W0 := ⟨_, rfl⟩
  have s4 : W0.heap.size = w.heap.size + 4 := by rw [← hW0]; simp [s3]
  rw [s3] at o4
  have o1 := o1.alloc (.cells #[.slice A n c] 22)
  have o2 := o2.alloc (.cells #[.slice A n c] 22)
  have o3 := o3.alloc (.cells #[.slice A n c] 22)
  have hB0 : Below w.heap.size w W0 := by
    rw [← hW0, ← hV3, ← hV2, ← hV1]
    exact (((one_alloc w _).alloc (by simp) _).alloc (by simp; omega) _).alloc (by simp; omega) _
  rw [hW0] at o1 o2 o3 o4 ⊢
  clear hV1 hV2 hV3 hW0 s1 s2 s3 hbm
  have hks := recs_hands A n c b (w.heap.size + 1 + 1 + 1) w W0 hK hb hB0 o4
  obtain ⟨rB, hrB⟩ : ∃ r, w.heap.size + 1 + 1 = r := ⟨_, rfl⟩
  obtain ⟨rA, hrA⟩ : ∃ r, w.heap.size + 1 = r := ⟨_, rfl⟩
  obtain ⟨bx, hbx⟩ : ∃ r, w.heap.size + 1 + 1 + 1 = r := ⟨_, rfl⟩
  rw [hbx] at hks ⊢
  rw [hrB] at o3 ⊢
  rw [hrA] at o2 ⊢
  have HrA := Lib.hid hrA
  have HrB := Lib.hid hrB
  have HBX := Lib.hid hbx
  clear hrA hrB hb hK o4 hbx
  refine range_c (w0 := W0) (gf := 84) (lb := #[.pointer (some ⟨bx, 0, none⟩)]) rfl (enters_of Tryz.func84 (by kernel_rfl) rfl) hks (Below.refl _ _) (fun _ => rfl) (fun h k => h.trans k)
    (fun X o o' hx hc hw => KeepB.put o' hx (by omega) (fun b hb => by have := HBX.out; simp only [List.mem_cons, List.not_mem_nil, or_false] at hb; omega))
    (fun k X => RdInv w rA rB W0.heap.size R k X) ?hI (RdEnd w rA W0.heap.size R E) ?hIx ⟨Nat.zero_le _, ⟨_, o3, by rw [List.take_zero]; exact OwnR.nil _ _ _ _⟩, o1, o2, hB0⟩
    (fun k a' X => ∃ h, X.heap[h]? = some (.cells (idv (headB (b.take (62 * k)))) 27 (0, 0)) ∧ a' = { tmps := #[.slice A n c, undef, .pointer (some ⟨w.heap.size, 0, none⟩), .pointer (some ⟨rA, 0, none⟩), .pointer (some ⟨rB, 0, none⟩), .pointer (some ⟨h, 0, none⟩), .slice (A.map fun a => ⟨a.block, a.off + 62 * k, none⟩) 62 (c - 62 * k), undef, undef, undef, undef, .slice A n c, .func (.func 84) #[] #[.pointer (some ⟨bx, 0, none⟩)], .agg (idv (headB (b.take (62 * k)))), .slice (A.map fun a => ⟨a.block, a.off + 62 * k, none⟩) 62 (c - 62 * k), undef, undef, undef, undef, undef, undef, undef, undef, undef, undef, undef, undef, undef, undef, undef, undef, undef, undef, undef, undef, undef, undef, undef, undef, undef, undef, undef, undef, undef, undef, undef, undef], defers := [] }) ?hAx ?assign ?body ?done ?stop
  case hI =>
    intro k X Y row p hg hr
    exact rdInv_turn p hg (fun r e => ⟨by have := (hr r e).1; omega, (hr r e).2⟩)
  case hIx =>
    intro u X Y row p hg hr
    exact rdEnd_turn p hg (fun r e => ⟨by have := (hr r e).1; omega, (hr r e).2⟩)
  case hAx =>
    rintro k a' u X Y row ⟨h, hh, rfl⟩ hg hr
    refine ⟨h, (hg.block h (Array.getElem?_eq_some_iff.1 hh).1 (fun e => ?_)).trans hh, rfl⟩
    obtain ⟨_, o, ho, hc⟩ := hr _ e.symm
    exact cells_own_c hh ho hc rfl
  case assign =>
    intro x k X K hk hsx p hK
    have hlen : (headB (b.take (62 * k))).length = 32 := headB_len (by rw [List.length_take]; unfold recN at hk; omega)
    obtain ⟨H, hH⟩ : ∃ H, headB (b.take (62 * k)) = H := ⟨_, rfl⟩
    rw [hH] at hlen hK
    unfold recV
    rw [hH]
    have HHL := Lib.hid hlen
    have HKK := Lib.hid hK
    have HP := Lib.hid p
    clear hlen hK p hH
    gi_wp2_with ((with_reducible refine wpListIn_store_blk rfl 27 _ _ rfl X.heap.size (idv H) ?hx2 ?hy2 27 _ (heap_alloc_new X _) (info32 HHL.out) ?hs2 (idv_one _) ?_); (case hx2 => rfl); (case hy2 => rfl); (case hs2 => rw [idv_size, HHL.out]; rfl)
                 intro X2 hg2 hX2 hs2)
    have hb2 : Below X.heap.size X X2 := Below.grows (one_alloc X _) hg2 (size_le_alloc _ _) (Nat.le_refl _)
    exact HKK.out _ _ (keepsFrom_below hb2) (keepB_below hb2 (by omega)) (rdInv_turn HP.out (below_kept hb2) (fun r e => by cases e)) ⟨X.heap.size, hX2, rfl⟩
  case body =>
    rintro x k a' X hk hsx ⟨hkR, ⟨v, p2, p3⟩, p0, p1, pB⟩ ⟨h, hh, rfl⟩
    have hkn : 62 * k + 62 ≤ n ∧ k < 264 := by unfold recN at hk; omega
    obtain ⟨bb, oo, hA, hbt, -⟩ := cut_any (HD.out.below pB) (62 * k) 62 (by omega) (by omega)
    subst hA
    obtain ⟨hc1, hbt1⟩ := run_to hbt 30 (hi := 30) rfl (by omega)
    have e30 : ((b.drop (62 * k)).take 62).take 30 = (b.drop (62 * k)).take 30 := by rw [List.take_take]; rfl
    rw [e30] at hbt1
    have hah := HAH.out k hkR
    have hho := head_of (b := b) (k := k) (by omega)
    obtain ⟨H, hH⟩ : ∃ H, headC (R.take k) = H := ⟨_, rfl⟩
    have hHL : H.length = 32 := by rw [← hH]; exact headC_len _
    have hHB : ∀ j, 0 ≤ H.getD j 0 ∧ H.getD j 0 < 256 := by rw [← hH]; exact headC_byte _
    rw [hah, hH] at hh ⊢
    have hon := HON.out k H hkR hkn.2 (by omega) hH
    have hfo := HFO.out k H hkR hkn.2 (by omega) hH
    have htg := HTG.out k H hkR hkn.2 (by omega) hH
    have hgo := gete_ok (b := (b.drop (62 * k)).take 30) (fun x hx => HBM.out x (List.mem_of_mem_drop (List.mem_of_mem_take hx)))
    obtain ⟨q1, hq1⟩ : ∃ p, (b.drop (62 * k)).take 30 = p := ⟨_, rfl⟩
    obtain ⟨q2, hq2⟩ : ∃ p, (b.drop (62 * k + 30)).take 32 = p := ⟨_, rfl⟩
    obtain ⟨rc, hrc⟩ : ∃ p, (b.drop (62 * k)).take 62 = p := ⟨_, rfl⟩
    rw [hq1] at hbt1 hon hfo htg hgo
    rw [hq2] at hho hon htg
    rw [hrc] at hbt hho
    have HGE := Lib.hid ((callsIn_wide (n := 9 - 1 - 1 - 1).2 (eget_any _ 30 _ q1 X hbt1)).inRound x)
    obtain ⟨G, hG⟩ : ∃ G, getE q1 = G := ⟨_, rfl⟩
    obtain ⟨g, hg⟩ : ∃ g, gotB q1 = g := ⟨_, rfl⟩
    unfold GE at HGE
    rw [hG, hg] at hon HGE htg
    rw [hg] at hfo
    rw [hG] at hgo
    obtain ⟨Y, hY⟩ : ∃ Y, linkP H G = Y := ⟨_, rfl⟩
    have HYL := Lib.hid (show Y.length = 32 by rw [← hY]; exact linkP_len _ _)
    have HLK := Lib.hid (fun (W : World) (hk' : KTab W) => (callsIn_wide (n := 9 - 1 - 1 - 1).2 (clink_any H G W hk' hHL hHB hgo)).inRound x)
    rw [hY] at hon htg HLK
    have HHD := Lib.hid (fun (W : World) (hk' : KTab W) (hb' : Below X.heap.size X W) => (callsIn_wide (n := 9 - 1 - 1 - 1).2 (cheadof_any _ 62 _ rc W hk' (hbt.below hb') (by omega))).inRound x)
    rw [hho] at HHD
    have HQ2 := Lib.hid (show q2.length = 32 by rw [← hq2, List.length_take, List.length_drop]; omega)
    obtain ⟨M, hM⟩ : ∃ M, mayE G = M := ⟨_, rfl⟩
    rw [hM] at HLK
    have HON2 := Lib.hid hon
    have HFO2 := Lib.hid hfo
    have HTG2 := Lib.hid htg
    obtain ⟨A5, n5, c5, rfl, hen5⟩ := own_ens p3
    have h264 : n5 ≤ 264 := by have := hen5.len; rw [List.length_take] at this; omega
    have HKX := Lib.hid (HK.out.from pB)
    have hlA : w.heap.size < rA := by have := HrA.out; omega
    have hlB : rA < W0.heap.size := by have := HrA.out; omega
    have hwX : W0.heap.size ≤ X.heap.size := by omega
    have hrB : rB < W0.heap.size := by have := HrB.out; omega
    have hrBA : rA < rB := by have := HrA.out; have := HrB.out; omega
    have HP := Lib.hid (⟨p0, p1, p2, p3, pB⟩ : Boxed X w.heap.size 25 (.slice none 0 0) ∧ Boxed X rA 31 (.int .i64 0) ∧ Boxed X rB 25 (.slice A5 n5 c5) ∧ OwnR 33 9 X W0.heap.size (.slice A5 n5 c5) ((R.take k).map En.row) ∧ Below w.heap.size w X)
    have HNF := Lib.hid hen5.len
    have HHL := Lib.hid hHL
    have HKR := Lib.hid hkR
    have HSX := Lib.hid hwX
    unfold enV at HGE HLK
    dsimp only [Option.map_some]
    clear hah hho hH hHL hHB hon hfo htg hgo hq1 hq2 hrc hG hg hY hM hbt hbt1 e30 hen5 p0 p1 p2 p3 pB hkR hkn
    have hmx : Tryz.prog.follows .mixedOrders = true := by kernel_rfl
    cases g with
    | false =>
      have HFO3 := Lib.hid (HFO2.out (by trivial))
      gi_wp2_with (first
        | (refine ⟨trivial, ?_⟩; gi_at_call 73; (with_reducible refine HGE.out.mono ?_); rintro e w3 ⟨rfl, hb3⟩
           have HB3 := Lib.hid hb3
           have hh3 := (hb3.block _ (Array.getElem?_eq_some_iff.1 hh).1).trans hh
           clear hb3 hh)
        | ((with_reducible refine wpListIn_store_blk rfl 33 _ _ rfl w3.heap.size (enA G) ?hx4 ?hy4 33 _ (heap_alloc_new w3 _) (info_en (enA_size _)) ?hs4 (enA_one _) ?_); (case hx4 => rfl); (case hy4 => rfl); (case hs4 => rfl)
           intro w4 hg4 hE4 hs4
           have hb4 : Below w3.heap.size w3 w4 := Below.grows (one_alloc w3 _) hg4 (size_le_alloc _ _) (Nat.le_refl _)
           have hh4 := (hb4.block _ (Array.getElem?_eq_some_iff.1 hh3).1).trans hh3
           have HB4 := Lib.hid (HB3.out.trans (hb4.mono HB3.out.size))
           have HS3 := Lib.hid HB3.out.size
           have p0 := boxed_below HP.out.1 HB4.out
           have p1 := boxed_below HP.out.2.1 HB4.out
           have p2 := boxed_below HP.out.2.2.1 HB4.out
           have p3 : OwnR 33 9 w4 W0.heap.size (.slice A5 n5 c5) (R.map En.row) := by
             have h1 := HP.out.2.2.2.1.below HB4.out
             rw [HFO3.out.1, List.take_length] at h1
             exact h1
           have pB := HP.out.2.2.2.2.trans (HB4.out.mono HP.out.2.2.2.2.size)
           have K0 := Lib.hid (rdEnd_put (w := w) 3 p0 p1 p3 pB hlA hlB)
           have y2 := p2.cell
           have y0 := p0.cell
           have f0 := p0.frozen
           have y1' : ∀ u, (w4.setCell ⟨w.heap.size, 0, none⟩ u).cell? ⟨rA, 0, none⟩ = some (.int .i64 0) := fun u => (p1.kept (grownBy_setCell' w4 w.heap.size u) (fun e => by injection e with e; omega)).cell
           have f1' : ∀ u, (w4.setCell ⟨w.heap.size, 0, none⟩ u).frozen? ⟨rA, 0, none⟩ = false := fun u => (p1.kept (grownBy_setCell' w4 w.heap.size u) (fun e => by injection e with e; omega)).frozen
           clear p0 p1 p2 p3 pB
           clear hb4 hg4 hs4 hh3))
      exact ⟨(keepsFrom_below HB4.out).trans ((two_cells_keep _ _ _ _ _).from _), by rw [HFO3.out.2]; exact K0.out⟩
    | true =>
      gi_wp2_with (first
        | (refine ⟨trivial, ?_⟩; gi_at_call 73; (with_reducible refine HGE.out.mono ?_); rintro e w3 ⟨rfl, hb3⟩
           have HB3 := Lib.hid hb3
           have hh3 := (hb3.block _ (Array.getElem?_eq_some_iff.1 hh).1).trans hh
           clear hb3 hh)
        | ((with_reducible refine wpListIn_store_blk rfl 33 _ _ rfl w3.heap.size (enA G) ?hx4 ?hy4 33 _ (heap_alloc_new w3 _) (info_en (enA_size _)) ?hs4 (enA_one _) ?_); (case hx4 => rfl); (case hy4 => rfl); (case hs4 => rfl)
           intro w4 hg4 hE4 hs4
           have hb4 : Below w3.heap.size w3 w4 := Below.grows (one_alloc w3 _) hg4 (size_le_alloc _ _) (Nat.le_refl _)
           have hh4 := (hb4.block _ (Array.getElem?_eq_some_iff.1 hh3).1).trans hh3
           have HB4 := Lib.hid (HB3.out.trans (hb4.mono HB3.out.size))
           have HS3 := Lib.hid HB3.out.size
           clear hb4 hg4 hs4 hh3)
        | ((with_reducible refine wpListIn_load_blk 27 _ rfl h ?hx5 27 (idv H) (0, 0) _ hh4 Tryz.underlying27 ?hd5 (info32 HHL.out) ?_ ?hw5); (case hx5 => rfl); (case hd5 => rfl); (case hw5 => rfl))
        | ((with_reducible refine wpListIn_load_blk 33 _ rfl w3.heap.size ?hx6 33 (enA G) (0, 0) _ hE4 Tryz.underlying33 ?hd6 (info_en (enA_size _)) ?_ ?hw6); (case hx6 => rfl); (case hd6 => rfl); (case hw6 => rfl))
        | (refine ⟨trivial, ?_⟩; gi_at_call 51; (with_reducible refine (HLK.out _ (HKX.out.from HB4.out)).mono ?_); rintro e w5 ⟨rfl, hb5⟩
           have HB5 := Lib.hid (HB4.out.trans (hb5.mono HB4.out.size))
           have hE5 := (hb5.block _ (Array.getElem?_eq_some_iff.1 hE4).1).trans hE4
           clear hb5 hE4 hh4)
        | ((with_reducible refine wpListIn_store_blk rfl 27 _ _ rfl w5.heap.size (idv Y) ?hx7 ?hy7 27 _ (heap_alloc_new w5 _) (info32 HYL.out) ?hs7 (idv_one _) ?_); (case hx7 => rfl); (case hy7 => rfl); (case hs7 => rw [idv_size, HYL.out]; rfl)
           intro w6 hg6 hY6 hs6
           have hb6 : Below w5.heap.size w5 w6 := Below.grows (one_alloc w5 _) hg6 (size_le_alloc _ _) (Nat.le_refl _)
           have hE6 := (hb6.block _ (Array.getElem?_eq_some_iff.1 hE5).1).trans hE5
           have HB6 := Lib.hid (HB5.out.trans (hb6.mono HB5.out.size))
           clear hb6 hg6 hs6 hE5))
      obtain ⟨ge, hge⟩ : ∃ q, w3.heap.size = q := ⟨_, rfl⟩
      obtain ⟨gy, hgy⟩ : ∃ q, w5.heap.size = q := ⟨_, rfl⟩
      rw [hge] at hE6 ⊢
      rw [hgy] at hY6 ⊢
      obtain ⟨D, hD⟩ : ∃ D, decide (Y = q2) = D := ⟨_, rfl⟩
      have HQ := Lib.hid (show ∀ w, (Op.equalIn 10000 27 (.agg (idv Y)) (.agg (idv q2))).run Tryz.prog w = .ok D w from fun w => by rw [eq_ids _ _ HYL.out HQ2.out, hD])
      have HDD := Lib.hid hD
      clear hge hgy hD
      refine wpIn_region_any hmx ?_
      change wpAnyIn _ _ _ _ _ _ _ _ _ (World.drew _)
      obtain ⟨Y8, hY8⟩ : ∃ Y, w6.drew = Y := ⟨_, rfl⟩
      have HB8 := Lib.hid (show Below X.heap.size X Y8 by rw [← hY8]; exact HB6.out.drew)
      have hE8 : Y8.heap[ge]? = some (.cells (enA G) 33 (0, 0)) := by rw [← hY8]; exact hE6
      have hY8b : Y8.heap[gy]? = some (.cells (idv Y) 27 (0, 0)) := by rw [← hY8]; exact hY6
      rw [hY8]
      clear hY8 hE6 hY6
      refine twoF 0 1 (by kernel_rfl) rfl rfl (fun Kq hKq => ?_) (fun Kq hKq => ?_)
      refine stepF_load 27 _ rfl gy rfl 27 (idv Y) (0, 0) _ hY8b Tryz.underlying27 rfl (info32 HYL.out) rfl ?_
      refine hKq.out _ _ ?_
      clear hKq Kq
      try simp only [Act.put, List.setIfInBounds_toArray, List.set_cons_zero, List.set_cons_succ]
      refine oneF 1 (by kernel_rfl) rfl (fun Kq hKq => ?_)
      go_simp
      refine hKq.out _ _ ?_
      clear hKq Kq
      try simp only [Act.put, List.setIfInBounds_toArray, List.set_cons_zero, List.set_cons_succ]
      refine oneF 2 (by kernel_rfl) rfl (fun Kq hKq => ?_)
      go_simp
      refine ⟨trivial, ?_⟩
      gi_at_call 58
      refine (HHD.out _ (HKX.out.from HB8.out) HB8.out).mono ?_
      rintro e w9 ⟨rfl, hb9⟩
      have HB9 := Lib.hid (HB8.out.trans (hb9.mono HB8.out.size))
      have hE9 := (hb9.block _ (Array.getElem?_eq_some_iff.1 hE8).1).trans hE8
      have hY8b := (hb9.block _ (Array.getElem?_eq_some_iff.1 hY8b).1).trans hY8b
      clear hb9 hE8
      simp only []
      refine hKq.out _ _ ?_
      clear hKq Kq
      try simp only [Act.put, List.setIfInBounds_toArray, List.set_cons_zero, List.set_cons_succ]
      refine oneF 3 (by kernel_rfl) rfl (fun Kq hKq => ?_)
      refine stepF_run (.bool (!D)) w9 rfl (fun c h => by cases h) rfl (run_eq_id rfl rfl rfl (.inr ⟨rfl, rfl⟩) (HQ.out w9)) ?_
      refine hKq.out _ _ ?_
      clear hKq Kq
      try simp only [Act.put, List.setIfInBounds_toArray, List.set_cons_zero, List.set_cons_succ]
      refine wpAnyIn_done (by kernel_rfl) ?_ _
      clear hY8b
      rotate_left
      go_simp
      refine hKq.out _ _ ?_
      clear hKq Kq
      try simp only [Act.put, List.setIfInBounds_toArray, List.set_cons_zero, List.set_cons_succ]
      refine twoF 0 2 (by kernel_rfl) rfl rfl (fun Kq hKq => ?_) (fun Kq hKq => ?_)
      refine stepF_load 27 _ rfl gy rfl 27 (idv Y) (0, 0) _ hY8b Tryz.underlying27 rfl (info32 HYL.out) rfl ?_
      refine hKq.out _ _ ?_
      clear hKq Kq
      try simp only [Act.put, List.setIfInBounds_toArray, List.set_cons_zero, List.set_cons_succ]
      refine oneF 2 (by kernel_rfl) rfl (fun Kq hKq => ?_)
      go_simp
      refine ⟨trivial, ?_⟩
      gi_at_call 58
      refine (HHD.out _ (HKX.out.from HB8.out) HB8.out).mono ?_
      rintro e w9 ⟨rfl, hb9⟩
      have HB9 := Lib.hid (HB8.out.trans (hb9.mono HB8.out.size))
      have hE9 := (hb9.block _ (Array.getElem?_eq_some_iff.1 hE8).1).trans hE8
      have hY8b := (hb9.block _ (Array.getElem?_eq_some_iff.1 hY8b).1).trans hY8b
      clear hb9 hE8
      simp only []
      refine hKq.out _ _ ?_
      clear hKq Kq
      try simp only [Act.put, List.setIfInBounds_toArray, List.set_cons_zero, List.set_cons_succ]
      refine oneF 3 (by kernel_rfl) rfl (fun Kq hKq => ?_)
      refine stepF_run (.bool (!D)) w9 rfl (fun c h => by cases h) rfl (run_eq_id rfl rfl rfl (.inr ⟨rfl, rfl⟩) (HQ.out w9)) ?_
      refine hKq.out _ _ ?_
      clear hKq Kq
      try simp only [Act.put, List.setIfInBounds_toArray, List.set_cons_zero, List.set_cons_succ]
      refine wpAnyIn_done (by kernel_rfl) ?_ _
      clear hY8b
      rotate_left
      go_simp
      refine ⟨trivial, ?_⟩
      gi_at_call 58
      refine (HHD.out _ (HKX.out.from HB8.out) HB8.out).mono ?_
      rintro e w9 ⟨rfl, hb9⟩
      have HB9 := Lib.hid (HB8.out.trans (hb9.mono HB8.out.size))
      have hE9 := (hb9.block _ (Array.getElem?_eq_some_iff.1 hE8).1).trans hE8
      have hY8b := (hb9.block _ (Array.getElem?_eq_some_iff.1 hY8b).1).trans hY8b
      clear hb9 hE8
      simp only []
      refine hKq.out _ _ ?_
      clear hKq Kq
      try simp only [Act.put, List.setIfInBounds_toArray, List.set_cons_zero, List.set_cons_succ]
      refine oneF 0 (by kernel_rfl) rfl (fun Kq hKq => ?_)
      refine stepF_load 27 _ rfl gy rfl 27 (idv Y) (0, 0) _ hY8b Tryz.underlying27 rfl (info32 HYL.out) rfl ?_
      refine hKq.out _ _ ?_
      clear hKq Kq
      try simp only [Act.put, List.setIfInBounds_toArray, List.set_cons_zero, List.set_cons_succ]
      refine oneF 3 (by kernel_rfl) rfl (fun Kq hKq => ?_)
      refine stepF_run (.bool (!D)) w9 rfl (fun c h => by cases h) rfl (run_eq_id rfl rfl rfl (.inr ⟨rfl, rfl⟩) (HQ.out w9)) ?_
      refine hKq.out _ _ ?_
      clear hKq Kq
      try simp only [Act.put, List.setIfInBounds_toArray, List.set_cons_zero, List.set_cons_succ]
      refine wpAnyIn_done (by kernel_rfl) ?_ _
      clear hY8b
      all_goals
        cases D with
        | false =>
          have HTG3 := Lib.hid (HTG2.out (by trivial) (of_decide_eq_false HDD.out))
          skip
          have p0 := boxed_below HP.out.1 HB9.out
          have p1 := boxed_below HP.out.2.1 HB9.out
          have p2 := boxed_below HP.out.2.2.1 HB9.out
          have p3 : OwnR 33 9 w9 W0.heap.size (.slice A5 n5 c5) (R.map En.row) := by
            have h1 := HP.out.2.2.2.1.below HB9.out
            rw [HTG3.out.1, List.take_length] at h1
            exact h1
          have pB := HP.out.2.2.2.2.trans (HB9.out.mono HP.out.2.2.2.2.size)
          have K0 := Lib.hid (rdEnd_put (w := w) 7 p0 p1 p3 pB hlA hlB)
          have y2 := p2.cell
          have y0 := p0.cell
          have f0 := p0.frozen
          have y1' : ∀ u, (w9.setCell ⟨w.heap.size, 0, none⟩ u).cell? ⟨rA, 0, none⟩ = some (.int .i64 0) := fun u => (p1.kept (grownBy_setCell' w9 w.heap.size u) (fun e => by injection e with e; omega)).cell
          have f1' : ∀ u, (w9.setCell ⟨w.heap.size, 0, none⟩ u).frozen? ⟨rA, 0, none⟩ = false := fun u => (p1.kept (grownBy_setCell' w9 w.heap.size u) (fun e => by injection e with e; omega)).frozen
          clear p0 p1 p2 p3 pB
          gi_wp2
          exact ⟨(keepsFrom_below HB9.out).trans ((two_cells_keep _ _ _ _ _).from _), by rw [HTG3.out.2]; exact K0.out⟩
        | true =>
          obtain ⟨t1, t2, -⟩ := HON2.out (by trivial) (of_decide_eq_true HDD.out)
          have htk := etake_more t2
          have p2 := boxed_below HP.out.2.2.1 HB9.out
          have p3 := HP.out.2.2.2.1.below HB9.out
          have y2 := p2.cell
          have y2f := p2.frozen
          have hRl : ((R.take k).map En.row).length = n5 := by rw [List.length_map]; exact HNF.out
          have hmap : (R.take (k + 1)).map En.row = (R.take k).map En.row ++ [En.row G] := by rw [htk, List.map_append]; rfl
          obtain ⟨RW, hRW⟩ : ∃ RW, (R.take k).map En.row = RW := ⟨_, rfl⟩
          rw [hRW] at p3 hRl hmap
          have HT1 := Lib.hid t1
          have HMP := Lib.hid hmap
          have P2 := Lib.hid p2
          have P3 := Lib.hid p3
          have HRl := Lib.hid hRl
          clear t1 t2 htk p2 p3 hmap hRW hRl
          clear HGE HLK HON2 HTG2 HFO2
          rcases G with ⟨g0, g1, g2, g3, g4, g5, g6, g7, g8⟩
          obtain ⟨z0, z1, z2, z3, z4, z5, z6, z7, z8⟩ := (BoxE.mk hE9).cells
          simp only at z0 z1 z2 z3 z4 z5 z6 z7 z8
          simp only [enA, En.row]
          clear hE9
          gi_wp2_with (gi_at_builtin
                       refine wpListIn_append_r rfl 25 33 9 72 _ _ rfl Tryz.underlying25 info_entry (by omega) W0.heap.size (.slice A5 n5 c5) RW rfl (P3.out.more _) w9.heap.size 0 1 1 [En.row ⟨g0, g1, g2, g3, g4, g5, g6, g7, g8⟩] rfl (one_rws 9 33 w9 _ rfl (row_one9 ⟨g0, g1, g2, g3, g4, g5, g6, g7, g8⟩)) (by have := HRl.out; omega) (by have := HRl.out; omega) (by have := HB9.out.size; have := HSX.out; simp; omega) ?_
                       intro v10 w10 hown10 hg10
                       rw [← HMP.out] at hown10
                       obtain ⟨A10, n10, c10, rfl, -⟩ := own_ens hown10
                       have b10 := (P2.out.alloc (.cells (En.row ⟨g0, g1, g2, g3, g4, g5, g6, g7, g8⟩).toArray 33)).kept hg10 (fun e => by have := (P3.out.size _ e.symm).1; omega)
                       have y10 := b10.cell
                       have f10 := b10.frozen
                       have B10 := Lib.hid b10
                       have HO10 := Lib.hid hown10
                       have HG10 := Lib.hid hg10
                       clear hown10 hg10 b10)
          have hfar : ∀ q, (Value.slice A5 n5 c5).ownBlock = some q → W0.heap.size ≤ q := fun q e => (P3.out.size q e).1
          have hal : Below X.heap.size X (w9.alloc (.cells (En.row ⟨g0, g1, g2, g3, g4, g5, g6, g7, g8⟩).toArray 33)) := HB9.out.alloc HB9.out.size _
          have hk10 : KeepsFrom W0.heap.size X w10 := (keepsFrom_below hal).trans ((ownR_keeps (P3.out.more _) HG10.out).from _)
          have hwl : w.heap.size ≤ W0.heap.size := by omega
          have hb10 : Below w.heap.size X w10 := (hal.mono (by have := HSX.out; omega)).grown HG10.out (by have := hal.size; have := HSX.out; omega) (fun q e => by have := hfar q e; omega)
          have hbxl : bx < W0.heap.size ∧ bx ≠ rB := by have := HBX.out; have := HrB.out; omega
          refine ⟨hk10.trans ((KeepsOthers.setCell _ _ _).from _), ⟨hb10.setCell (p := ⟨rB, 0, none⟩) (by show w.heap.size ≤ rB; omega) _, ?_⟩, HT1.out, ⟨_, B10.out.set _, ownR_set HO10.out hrB⟩, ?_, ?_, ?_⟩
          · intro bq hbq o ho
            simp only [List.mem_cons, List.not_mem_nil, or_false] at hbq
            subst hbq
            have h1 : (w9.alloc (.cells (En.row ⟨g0, g1, g2, g3, g4, g5, g6, g7, g8⟩).toArray 33)).heap[bq]? = some o := (hal.block _ (Array.getElem?_eq_some_iff.1 ho).1).trans ho
            have h2 : w10.heap[bq]? = some o := (HG10.out.block _ (Array.getElem?_eq_some_iff.1 h1).1 (fun e => by have := hfar _ e.symm; omega)).trans h1
            exact (heap_setCell_other _ _ _ _ hbxl.2).trans h2
          · have q := (boxed_below HP.out.1 hal).kept HG10.out (fun e => by have := hfar _ e.symm; omega)
            exact q.kept (grownBy_setCell' w10 rB _) (fun e => by injection e with e; omega)
          · have q := (boxed_below HP.out.2.1 hal).kept HG10.out (fun e => by have := hfar _ e.symm; omega)
            exact q.kept (grownBy_setCell' w10 rB _) (fun e => by injection e with e; omega)
          · exact (HP.out.2.2.2.2.trans hb10).setCell (p := ⟨rB, 0, none⟩) (by show w.heap.size ≤ rB; omega) _
  case done =>
    rintro D X hD ⟨hk, ⟨v, p2, p3⟩, p0, p1, pB⟩ hDD
    obtain ⟨hNR, hE⟩ := HEN.out _ hk (by unfold recN; rw [hbl])
    have htk : R.take (recN n) = R := by rw [hNR]; exact List.take_length
    rw [htk] at p3
    obtain ⟨A5, n5, c5, rfl, hen⟩ := own_ens p3
    have hn5 : recN n = n5 := by have := hen.len; omega
    rw [hn5, hbl] at hE
    have h264 : n5 ≤ 264 := by rw [← hn5]; unfold recN; omega
    have y2 := p2.cell
    have y0 := p0.cell
    have f0 := p0.frozen
    have y1 := p1.cell
    have f1 := p1.frozen
    have hlA : w.heap.size < rA := by have := HrA.out; omega
    have hlB : rA < W0.heap.size := by have := HrA.out; omega
    have y1' : ∀ u, (X.setCell ⟨w.heap.size, 0, none⟩ u).cell? ⟨rA, 0, none⟩ = some (.int .i64 0) := fun u => (p1.kept (grownBy_setCell' X w.heap.size u) (fun e => by injection e with e; omega)).cell
    have f1' : ∀ u, (X.setCell ⟨w.heap.size, 0, none⟩ u).frozen? ⟨rA, 0, none⟩ = false := fun u => (p1.kept (grownBy_setCell' X w.heap.size u) (fun e => by injection e with e; omega)).frozen
    have K0 := Lib.hid (fun x => rdEnd_put (w := w) x p0 p1 p3 pB hlA hlB)
    have hw0 : IntKind.i64.wrap ((n5 : Int) * 62) = (n5 : Int) * 62 := by rw [IntKind.wrap_i64]; omega
    have HLT := Lib.hid hlA
    clear hen p0 p1 p2 p3 pB htk hk hn5 hlB hNR
    by_cases h0 : 62 * n5 = n
    · have hE0 := hE
      rw [if_pos h0] at hE0
      have hq : ((n : Int) == (n5 : Int) * 62) = true := by rw [beq_iff_eq]; omega
      have HE := Lib.hid hE0
      clear hE hE0 h0 hlA
      gi_wp2
      have hd2 : ((X.setCell ⟨w.heap.size, 0, none⟩ (.slice A5 n5 c5)).setCell ⟨rA, 0, none⟩ (.int .i64 0)).heap[D]? = some (.deferred (some [])) := (two_cells_keep X _ _ _ _).same D _ hDD rfl
      obtain ⟨v, q0, q3, q1, qB⟩ := rdEnd_turn (K0.out 0) (grownBy_putObj' _ D (.deferred none)) (fun r e => by cases e; exact ⟨by omega, _, hd2, rfl⟩)
      have hc5 := q0.cell
      have hc6 := q1.cell
      obtain ⟨A6, n6, c6, rfl, hen6⟩ := own_ens q3
      refine ⟨by simp, .inl ⟨_, _, rfl, run_takeDeferred hd2, ?_⟩⟩
      refine ⟨.tuple #[.slice A6 n6 c6, .int .i64 0], ?_, A6, n6, c6, by rw [HE.out], hen6, ownR_mono q3 (by omega), qB⟩
      simp [results, Tryz.results57, go_sem, hc5, hc6]
    · have hE0 := hE
      rw [if_neg h0] at hE0
      have hq : ((n : Int) == (n5 : Int) * 62) = false := by rw [beq_eq_false_iff_ne]; omega
      have HE := Lib.hid hE0
      clear hE hE0 h0 hlA
      gi_wp2
      have hd2 : ((X.setCell ⟨w.heap.size, 0, none⟩ (.slice A5 n5 c5)).setCell ⟨rA, 0, none⟩ (.int .i64 4)).heap[D]? = some (.deferred (some [])) := (two_cells_keep X _ _ _ _).same D _ hDD rfl
      obtain ⟨v, q0, q3, q1, qB⟩ := rdEnd_turn (K0.out 4) (grownBy_putObj' _ D (.deferred none)) (fun r e => by cases e; exact ⟨by omega, _, hd2, rfl⟩)
      have hc5 := q0.cell
      have hc6 := q1.cell
      obtain ⟨A6, n6, c6, rfl, hen6⟩ := own_ens q3
      refine ⟨by simp, .inl ⟨_, _, rfl, run_takeDeferred hd2, ?_⟩⟩
      refine ⟨.tuple #[.slice A6 n6 c6, .int .i64 4], ?_, A6, n6, c6, by rw [HE.out], hen6, ownR_mono q3 (by omega), qB⟩
      simp [results, Tryz.results57, go_sem, hc5, hc6]
  case stop =>
    rintro D X hD p hDD
    obtain ⟨v, q0, q3, q1, qB⟩ := rdEnd_turn p (grownBy_putObj' _ D (.deferred none)) (fun r e => by cases e; exact ⟨by omega, _, hDD, rfl⟩)
    have hc5 := q0.cell
    have hc6 := q1.cell
    obtain ⟨A5, n5, c5, rfl, hen⟩ := own_ens q3
    gi_wp2
    refine ⟨by simp, .inl ⟨_, _, rfl, run_takeDeferred hDD, ?_⟩⟩
    refine ⟨.tuple #[.slice A5 n5 c5, .int .i64 E], ?_, A5, n5, c5, rfl, hen, ownR_mono q3 (by omega), qB⟩
    simp [results, Tryz.results57, go_sem, hc5, hc6]
end Go.Proofs.YtafmompplcaadaaGreatDoor

/- The walk over package chain's textOf: the text that stands at the end of records. -/
namespace Go.Proofs.YtafmompplcaadaaGreatDoor
set_option maxRecDepth 100000
set_option linter.unusedVariables false
set_option linter.unusedSimpArgs false
open Go.RowKit

end Go.Proofs.YtafmompplcaadaaGreatDoor

/- The walks over package chain's Read, Verify and Clash. -/
namespace Go.Proofs.YtafmompplcaadaaGreatDoor
set_option maxRecDepth 100000
set_option linter.unusedVariables false
set_option linter.unusedSimpArgs false
open Go.RowKit

theorem reads_len {b : List Int} (hb : ∀ x ∈ b, 0 ≤ x ∧ x < 256) : headB (b.take (62 * (readC b).length)) = headC (readC b) := by
  rw [← (reads_all hb).2.1, headB_recs]
set_option maxHeartbeats 2000000 in
theorem creadl_any (A : Option Addr) (n c : Nat) (b : List Int) (w : World) (hK : KTab w) (hb : Bts w A n c b) :
    Calls Tryz.prog 29 #[.slice A n c] w (GRl (readC b) (headC (readC b)) (readC b).length w) := by
  have hn := hb.small
  have hro := readC_room b
  have hrl := readC_le b
  have hbl := hb.len
  have HRD := Lib.hid (fun (W : World) (hk : KTab W) (h : Bts W A n c b) => cread0_any A n c b W hk h)
  have hrh := reads_len (bytes_mem hb.ok)
  obtain ⟨hcut, hbt⟩ := run_to hb (((readC b).length : Int) * 62) (hi := 62 * (readC b).length) (by omega) (by omega)
  obtain ⟨R, hR⟩ : ∃ R, readC b = R := ⟨_, rfl⟩
  rw [hR] at HRD hro hrl hrh hcut hbt ⊢
  obtain ⟨E, hE⟩ : ∃ E, errC b = E := ⟨_, rfl⟩
  rw [hE] at HRD
  obtain ⟨Z, hZ⟩ : ∃ Z, headC R = Z := ⟨_, rfl⟩
  have HZL := Lib.hid (show Z.length = 32 by rw [← hZ]; exact headC_len _)
  rw [hZ] at hrh ⊢
  have HBT := Lib.hid hbt
  have HHD := Lib.hid (fun (W : World) (hk : KTab W) (hW : Below w.heap.size w W) => cheadof_any A (62 * R.length) c _ W hk (hbt.below hW) (by omega))
  rw [hrh] at HHD
  have HD := Lib.hid hb
  have HK := Lib.hid hK
  have hw0 : IntKind.i64.wrap ((R.length : Int) * 62) = (R.length : Int) * 62 := by rw [IntKind.wrap_i64]; omega
  clear hb hR hE hZ hbt hrh hK hbl
  go_enter Tryz.func29, Tryz.ntmps29
  go_wp2_with (first
    | (go_at_call 57; (with_reducible refine (HRD.out _ (HK.out.from (one_alloc w _)) (HD.out.more _)).mono ?_); rintro e w1 ⟨A5, n5, c5, rfl, hen, hown, hb1⟩
       obtain ⟨hb0, -, hz1⟩ := after_one hb1
       have hz1 : RowB w1 w.heap.size 27 noughtsC := hz1
       have hn5 : R.length = n5 := hen.len
       subst hn5
       have HB1 := Lib.hid hb0
       have hown1 := Lib.hid hown
       rw [size_next] at hown1
       clear hb1 hb0 hen hown)
    | (go_at_call 58; (with_reducible refine (HHD.out _ (HK.out.from HB1.out) HB1.out).mono ?_); rintro e w2 ⟨rfl, hb2⟩
       have hz2 := hz1.keep hb2
       have hown2 := Lib.hid (hown1.out.below hb2)
       have HB2 := Lib.hid (HB1.out.trans (hb2.mono HB1.out.size))
       clear hb2 hz1 hown1)
    | ((with_reducible refine wpList_store_blk rfl 27 _ _ rfl w.heap.size (idv Z) ?hx7 ?hy7 27 _ hz2.is (info32 HZL.out) ?hs7 (idv_one _) ?_); (case hx7 => rfl); (case hy7 => rfl); (case hs7 => rw [idv_size, idv_size, HZL.out]; rfl)
       intro w7 hg7 hX7 hs7))
  have hown7 := hown2.out.far hg7 (ownr_far hown2.out (Nat.lt_succ_self _))
  obtain ⟨A6, n6, c6, he6, hen6⟩ := own_ens hown7
  cases he6
  refine bodyPost_ret (v := .tuple #[.slice A5 R.length c5, .agg (idv Z), .int .i64 ((R.length : Int) * 62)]) ?_ rfl ⟨A5, R.length, c5, by rw [Int.mul_comm], hen6, fun a ha => Nat.le_trans (Nat.le_succ _) (ownr_loc hown7 a ha), ?_⟩
  · exact results_tct Tryz.results29 _ _ _ w.heap.size 27 _ (0, 0) _ rfl hX7 Tryz.underlying27 rfl (info32 HZL.out) _ _ rfl rfl
  · exact HB2.out.grown hg7 HB2.out.size (fun k e => by cases e; exact Nat.le_refl _)
theorem cread_any (A : Option Addr) (n c : Nat) (b : List Int) (w : World) (hK : KTab w) (hb : Bts w A n c b) :
    Calls Tryz.prog 29 #[.slice A n c] w (GRd (readC b) (headC (readC b)) (readC b).length w) :=
  (creadl_any A n c b w hK hb).mono fun e w' ⟨A, n, c, he, h1, _, h2⟩ => ⟨A, n, c, he, h1, h2⟩
theorem ver_all {b : List Int} (hb : ∀ x ∈ b, 0 ≤ x ∧ x < 256) (he : errC b = 0) : headB b = headC (readC b) := by
  have h := (err_ok b).1 he
  have h2 := reads_len hb
  rwa [h, List.take_length] at h2
end Go.Proofs.YtafmompplcaadaaGreatDoor

/- The walk over package audit's Open of a store. -/
namespace Go.Proofs.YtafmompplcaadaaGreatDoor
set_option maxRecDepth 100000
set_option linter.unusedVariables false
set_option linter.unusedSimpArgs false
open Go.RowKit

set_option maxHeartbeats 4000000 in
theorem aopen_yes (s : Sp) (A : Option Addr) (n c : Nat) (w : World) (hK : KTab w) (hb : Bts w A n c s.data) (hsm : n ≤ 1000000) (hm : mayP s = true) :
    Calls Tryz.prog 8 #[.agg #[.int .i64 s.cap, .slice A n c, .int .i64 s.sure]] w (GLE (openG s) w) := by
  have HRD := Lib.hid (fun (X : World) (hX : Below w.heap.size w X) => creadl_any A n c s.data X (hK.from hX) (hb.below hX))
  have HCV := Lib.hid (show ∀ X, Below w.heap.size w X → Calls Tryz.prog 30 #[.agg #[.int .i64 s.cap, .slice A n c, .int .i64 s.sure], .int .i64 (62 * ((readC s.data).length : Int))] X (GSEn (cutP s (62 * ((readC s.data).length : Int))) X) from fun X hX => stcut_new s _ A n c X (hb.below hX) (by omega))
  obtain ⟨e0, -, hok⟩ := open_any hm (bytes_mem hb.ok)
  have hz2 := cut_read hm (bytes_mem hb.ok)
  have hd := may_data hm
  have hop : openG s = (⟨(cutP s (62 * ((readC s.data).length : Int))).1, readC s.data, headC (readC s.data)⟩, 0) := by rw [openG, if_pos hm]
  have hcp : -9223372036854775808 ≤ (cutP s (62 * ((readC s.data).length : Int))).1.cap ∧ (cutP s (62 * ((readC s.data).length : Int))).1.cap ≤ 9223372036854775807 := by
    rw [hop] at e0
    have := congrArg (fun q : Lg × Int => q.1.st.cap) e0
    simp only at this
    rw [this]
    omega
  rw [e0] at hok
  simp only at hok
  clear e0 hd
  have hZL := headC_len (readC s.data)
  have hZB := headC_byte (readC s.data)
  obtain ⟨R, hR⟩ : ∃ R, readC s.data = R := ⟨_, rfl⟩
  simp only [hR] at HRD HCV hok hZL hZB hz2 hop hcp
  obtain ⟨Z, hZ⟩ : ∃ Z, headC R = Z := ⟨_, rfl⟩
  simp only [hZ] at HRD hok hZL hZB hop
  obtain ⟨T, hT⟩ : ∃ T, cutP s (62 * (R.length : Int)) = T := ⟨_, rfl⟩
  simp only [hT] at HCV hz2 hop hcp
  obtain ⟨⟨C1, D1, S1⟩, E1⟩ := T
  simp only at hz2 hop hcp
  subst hz2
  have HOP := Lib.hid hop
  have HOK := Lib.hid (show Lg.ok ⟨⟨C1, D1, S1⟩, R, Z⟩ from ⟨hok, hZL, hZB⟩)
  have HFT := Lib.hid hcp
  have HZL := Lib.hid hZL
  unfold GSEn GRl at *
  simp only at HCV
  obtain ⟨cap, hcap⟩ : ∃ x, s.cap = x := ⟨_, rfl⟩
  obtain ⟨sure, hsure⟩ : ∃ x, s.sure = x := ⟨_, rfl⟩
  obtain ⟨OG, hOG⟩ : ∃ x, openG s = x := ⟨_, rfl⟩
  rw [hOG] at HOP ⊢
  rw [hcap, hsure] at ⊢
  simp only [hcap, hsure] at HCV
  have HLS := Lib.hid (fun (A' : Option Addr) (n' c' : Nat) (B : Option Addr) (m d : Nat) => (show (Lp.arr ⟨C1, A', n', c', S1, B, m, d, Z⟩).size = 36 from lp_size HZL.out))
  have HZS := Lib.hid (info_log (C := Lp.zero.arr) (lp_size rfl))
  clear hb hcap hsure hT hZ hR hok hZL hZB hop hcp hK hsm hOG
  go_enter Tryz.func8, Tryz.ntmps8
  go_wp2
  refine wp_scope_ahead 0 rfl ?_
  go_wp2_with (first
    | (refine wp_goto ⟨rfl, ?_⟩)
    | (apply wp_label)
    | (go_at_call 29
       (with_reducible refine (HRD.out _ (three_below w _ _ _)).mono ?_)
       rintro e w1 ⟨B, m, d, rfl, hen, hloc, hb1⟩
       obtain ⟨hB1, y0, y1, y2⟩ := after_three_c hb1
       have hst : w1.heap[w.heap.size]? = some (.cells #[.int .i64 cap, .slice A n c, .int .i64 sure] 24 (0, 0)) := y0
       have hres : w1.heap[w.heap.size + 1]? = some (.cells Lp.zero.arr 29 (0, 0)) := y1
       have hdk : w1.heap[w.heap.size + 1 + 1]? = some (.cells Lp.zero.arr 48 (0, 0)) := y2
       have hz1 : w.heap.size + 3 ≤ w1.heap.size := by have := hb1.size; simpa using this
       have hfe := blk_far (n := m) (lo := w.heap.size) hloc (show w.heap.size + 3 ≤ _ by simp)
       have d3 : w1.cell? ⟨w.heap.size + 1 + 1, 3, none⟩ = some (.slice none 0 0) := (dk_cells hdk).2.2.2
       have f3 := dk_free hdk 3
       have hdk3 := dk_set3 hdk B m d
       have hg3 := dk_grown3 hdk B m d
       have hst3 := blk_other hst hg3 (by omega)
       have hres3 := blk_other hres hg3 (by omega)
       have hen3 := ens_kept hen hfe hg3 (by omega) (by omega)
       have hB3 := hB1.grown hg3 hB1.size (fun k e => by cases e; omega)
       have hz3 : w.heap.size + 3 ≤ (w1.setCell ⟨w.heap.size + 1 + 1, 3, none⟩ (.slice B m d)).heap.size := by simpa using hz1
       clear hb1 hloc y0 y1 y2 hen hB1 hst hres hg3 hz1 hdk)
    | ((with_reducible refine wpList_store_in rfl 27 _ _ rfl (w.heap.size + 1 + 1) 4 (.agg (idv Z)) (idv Z) ?hx4 ?hy4 (agg_cells _) 48 (Lp.zero.putB B m d).arr ((Lp.zero.putB B m d).putH Z).arr hdk3 (info32 HZL.out) ?hl4 (idv_one _) (new_h (Lp.zero.putB B m d) Z (putB_len _ _ _) HZL.out) ?_); (case hx4 => rfl); (case hy4 => rfl); (case hl4 => rw [idv_size, HZL.out, lp_size (putB_len B m d)]; exact Nat.le_refl _)
       intro w4 hg4 hdk4 hs4
       have hdk4 : w4.heap[w.heap.size + 1 + 1]? = some (.cells (Lp.arr ⟨0, none, 0, 0, 0, B, m, d, Z⟩) 48 (0, 0)) := hdk4
       have hst4 := blk_other hst3 hg4 (by omega)
       have hres4 := blk_other hres3 hg4 (by omega)
       have hen4 := ens_kept hen3 hfe hg4 (by omega) (by omega)
       have hB4 := hB3.grown hg4 hB3.size (fun k e => by cases e; omega)
       have hz4 : w.heap.size + 3 ≤ w4.heap.size := by omega
       clear hst3 hres3 hen3 hg4 hs4 hdk3 d3 f3 hB3 hz3)
    | ((with_reducible refine wpList_load_blk 24 _ rfl w.heap.size ?hx5 24 #[.int .i64 cap, .slice A n c, .int .i64 sure] (0, 0) _ hst4 Tryz.underlying24 ?hd5 (size_st3 _ _ _) ?_ ?hw5); (case hx5 => rfl); (case hd5 => rfl); (case hw5 => rfl))
    | (go_at_call 30
       (with_reducible refine (HCV.out _ hB4).mono ?_)
       rintro e w5 ⟨A', n', c', rfl, hbt, hloc, hbx⟩
       have hfd := blk_far (n := n') (lo := w.heap.size) hloc hz4
       have hdk5 := blk_below hdk4 hbx
       have hres5 := blk_below hres4 hbx
       have hen5 := hen4.below hbx
       have hB5 := hB4.trans (hbx.mono hB4.size)
       obtain ⟨c0, c1, c2, -⟩ := dk_cells hdk5
       have f0 := dk_free hdk5 0
       have f1 := dk_free hdk5 1
       have f2 := dk_free hdk5 2
       have hdk6 := dk_set012 hdk5 C1 A' n' c' S1
       simp only [Lp.putS] at hdk6
       have hg6 := dk_grown012 hdk5 C1 A' n' c' S1
       have hres6 := blk_other hres5 hg6 (by omega)
       have hen6 := ens_kept hen5 hfe hg6 (by omega) (by omega)
       have hbt6 := hbt.kept hfd hg6 (by omega) (by omega)
       have hB6 := hB5.grown hg6 hB5.size (fun k e => by cases e; omega)
       clear hloc hbt hbx hdk4 hst4 hres4 hen4 hB4 hz4 hdk5 hres5 hen5 hB5 hg6)
    | ((with_reducible refine wpList_load_blk 29 _ rfl (w.heap.size + 1 + 1) ?hx7 48 (Lp.arr ⟨C1, A', n', c', S1, B, m, d, Z⟩) (0, 0) _ hdk6 Tryz.underlying29 ?hd7 (info_log (HLS.out _ _ _ _ _ _)) ?_ ?hw7); (case hx7 => rfl); (case hd7 => rfl); (case hw7 => rfl))
    | ((with_reducible refine wpList_store_blk rfl 29 _ _ rfl (w.heap.size + 1) (Lp.arr ⟨C1, A', n', c', S1, B, m, d, Z⟩) ?hx8 ?hy8 29 _ hres6 (info_log (HLS.out _ _ _ _ _ _)) ?hs8 (lp_one _) ?_); (case hx8 => rfl); (case hy8 => rfl); (case hs8 => exact (lp_size (p := Lp.zero) rfl).trans (HLS.out _ _ _ _ _ _).symm)
       intro w7 hg7 hX7 hs7))
  have hda7 := hbt6.kept hfd hg7 (Nat.le_succ _) (by omega)
  have hen7 := ens_kept hen6 hfe hg7 (Nat.le_succ _) (by omega)
  have hb7 := hB6.grown hg7 hB6.size (fun k e => by cases e; exact Nat.le_succ _)
  first | rw [Exit.noGoto_ret] | rw [jump_ret] | skip
  refine bodyPost_ret (v := .tuple #[.agg (Lp.arr ⟨C1, A', n', c', S1, B, m, d, Z⟩), .int .i64 0]) ?_ rfl ?_
  · exact results_blk_tmp Tryz.results8 _ _ _ (w.heap.size + 1) 29 _ (0, 0) _ rfl hX7 Tryz.underlying29 rfl (info_log (HLS.out _ _ _ _ _ _)) _ rfl
  · rw [HOP.out]
    exact ⟨_, rfl, ⟨rfl, rfl, rfl, hda7, hen7, HOK.out, HFT.out⟩, hb7⟩
set_option maxHeartbeats 4000000 in
theorem aopen_no (s : Sp) (A : Option Addr) (n c : Nat) (w : World) (hK : KTab w) (hb : Bts w A n c s.data) (hsm : n ≤ 1000000) (hm : mayP s = false) :
    Calls Tryz.prog 8 #[.agg #[.int .i64 s.cap, .slice A n c, .int .i64 s.sure]] w (GLE (openG s) w) := by
  have HRD := Lib.hid (fun (X : World) (hX : Below w.heap.size w X) => creadl_any A n c s.data X (hK.from hX) (hb.below hX))
  have HCV := Lib.hid (show ∀ X, Below w.heap.size w X → Calls Tryz.prog 30 #[.agg #[.int .i64 s.cap, .slice A n c, .int .i64 s.sure], .int .i64 (62 * ((readC s.data).length : Int))] X (GSEn (cutP s (62 * ((readC s.data).length : Int))) X) from fun X hX => stcut_new s _ A n c X (hb.below hX) (by omega))
  have hz2 := congrArg (·.2) (cut_no_st hm (62 * ((readC s.data).length : Int)))
  simp only at hz2
  have hop : openG s = (zeroG, 1) := by rw [openG, if_neg (by rw [hm]; simp)]
  have hok : ∀ u ∈ readC s.data, u.ok := (reads_all (bytes_mem hb.ok)).2.2.2
  have hcp : (62 * ((readC s.data).length : Int)) = 62 * ((readC s.data).length : Int) := rfl
  have hZL := headC_len (readC s.data)
  have hZB := headC_byte (readC s.data)
  obtain ⟨R, hR⟩ : ∃ R, readC s.data = R := ⟨_, rfl⟩
  simp only [hR] at HRD HCV hok hZL hZB hz2 hop hcp
  obtain ⟨Z, hZ⟩ : ∃ Z, headC R = Z := ⟨_, rfl⟩
  simp only [hZ] at HRD hok hZL hZB hop
  obtain ⟨T, hT⟩ : ∃ T, cutP s (62 * (R.length : Int)) = T := ⟨_, rfl⟩
  simp only [hT] at HCV hz2 hop hcp
  obtain ⟨⟨C1, D1, S1⟩, E1⟩ := T
  simp only at hz2 hop hcp
  subst hz2
  have HOP := Lib.hid hop
  have HOK := Lib.hid (show Lg.ok ⟨⟨C1, D1, S1⟩, R, Z⟩ from ⟨hok, hZL, hZB⟩)
  have HFT := Lib.hid hcp
  have HZL := Lib.hid hZL
  unfold GSEn GRl at *
  simp only at HCV
  obtain ⟨cap, hcap⟩ : ∃ x, s.cap = x := ⟨_, rfl⟩
  obtain ⟨sure, hsure⟩ : ∃ x, s.sure = x := ⟨_, rfl⟩
  obtain ⟨OG, hOG⟩ : ∃ x, openG s = x := ⟨_, rfl⟩
  rw [hOG] at HOP ⊢
  rw [hcap, hsure] at ⊢
  simp only [hcap, hsure] at HCV
  have HLS := Lib.hid (fun (A' : Option Addr) (n' c' : Nat) (B : Option Addr) (m d : Nat) => (show (Lp.arr ⟨C1, A', n', c', S1, B, m, d, Z⟩).size = 36 from lp_size HZL.out))
  have HZS := Lib.hid (info_log (C := Lp.zero.arr) (lp_size rfl))
  clear hb hcap hsure hT hZ hR hok hZL hZB hop hcp hK hsm hOG
  go_enter Tryz.func8, Tryz.ntmps8
  go_wp2
  refine wp_scope_ahead 0 rfl ?_
  go_wp2_with (first
    | (refine wp_goto ⟨rfl, ?_⟩)
    | (apply wp_label)
    | (go_at_call 29
       (with_reducible refine (HRD.out _ (three_below w _ _ _)).mono ?_)
       rintro e w1 ⟨B, m, d, rfl, hen, hloc, hb1⟩
       obtain ⟨hB1, y0, y1, y2⟩ := after_three_c hb1
       have hst : w1.heap[w.heap.size]? = some (.cells #[.int .i64 cap, .slice A n c, .int .i64 sure] 24 (0, 0)) := y0
       have hres : w1.heap[w.heap.size + 1]? = some (.cells Lp.zero.arr 29 (0, 0)) := y1
       have hdk : w1.heap[w.heap.size + 1 + 1]? = some (.cells Lp.zero.arr 48 (0, 0)) := y2
       have hz1 : w.heap.size + 3 ≤ w1.heap.size := by have := hb1.size; simpa using this
       have hfe := blk_far (n := m) (lo := w.heap.size) hloc (show w.heap.size + 3 ≤ _ by simp)
       have d3 : w1.cell? ⟨w.heap.size + 1 + 1, 3, none⟩ = some (.slice none 0 0) := (dk_cells hdk).2.2.2
       have f3 := dk_free hdk 3
       have hdk3 := dk_set3 hdk B m d
       have hg3 := dk_grown3 hdk B m d
       have hst3 := blk_other hst hg3 (by omega)
       have hres3 := blk_other hres hg3 (by omega)
       have hen3 := ens_kept hen hfe hg3 (by omega) (by omega)
       have hB3 := hB1.grown hg3 hB1.size (fun k e => by cases e; omega)
       have hz3 : w.heap.size + 3 ≤ (w1.setCell ⟨w.heap.size + 1 + 1, 3, none⟩ (.slice B m d)).heap.size := by simpa using hz1
       clear hb1 hloc y0 y1 y2 hen hB1 hst hres hg3 hz1 hdk)
    | ((with_reducible refine wpList_store_in rfl 27 _ _ rfl (w.heap.size + 1 + 1) 4 (.agg (idv Z)) (idv Z) ?hx4 ?hy4 (agg_cells _) 48 (Lp.zero.putB B m d).arr ((Lp.zero.putB B m d).putH Z).arr hdk3 (info32 HZL.out) ?hl4 (idv_one _) (new_h (Lp.zero.putB B m d) Z (putB_len _ _ _) HZL.out) ?_); (case hx4 => rfl); (case hy4 => rfl); (case hl4 => rw [idv_size, HZL.out, lp_size (putB_len B m d)]; exact Nat.le_refl _)
       intro w4 hg4 hdk4 hs4
       have hdk4 : w4.heap[w.heap.size + 1 + 1]? = some (.cells (Lp.arr ⟨0, none, 0, 0, 0, B, m, d, Z⟩) 48 (0, 0)) := hdk4
       have hst4 := blk_other hst3 hg4 (by omega)
       have hres4 := blk_other hres3 hg4 (by omega)
       have hen4 := ens_kept hen3 hfe hg4 (by omega) (by omega)
       have hB4 := hB3.grown hg4 hB3.size (fun k e => by cases e; omega)
       have hz4 : w.heap.size + 3 ≤ w4.heap.size := by omega
       clear hst3 hres3 hen3 hg4 hs4 hdk3 d3 f3 hB3 hz3)
    | ((with_reducible refine wpList_load_blk 24 _ rfl w.heap.size ?hx5 24 #[.int .i64 cap, .slice A n c, .int .i64 sure] (0, 0) _ hst4 Tryz.underlying24 ?hd5 (size_st3 _ _ _) ?_ ?hw5); (case hx5 => rfl); (case hd5 => rfl); (case hw5 => rfl))
    | (go_at_call 30
       (with_reducible refine (HCV.out _ hB4).mono ?_)
       rintro e w5 ⟨A', n', c', rfl, hbt, hloc, hbx⟩
       have hfd := blk_far (n := n') (lo := w.heap.size) hloc hz4
       have hdk5 := blk_below hdk4 hbx
       have hres5 := blk_below hres4 hbx
       have hen5 := hen4.below hbx
       have hB5 := hB4.trans (hbx.mono hB4.size)
       obtain ⟨c0, c1, c2, -⟩ := dk_cells hdk5
       have f0 := dk_free hdk5 0
       have f1 := dk_free hdk5 1
       have f2 := dk_free hdk5 2
       have hdk6 := dk_set012 hdk5 C1 A' n' c' S1
       simp only [Lp.putS] at hdk6
       have hg6 := dk_grown012 hdk5 C1 A' n' c' S1
       have hres6 := blk_other hres5 hg6 (by omega)
       have hen6 := ens_kept hen5 hfe hg6 (by omega) (by omega)
       have hbt6 := hbt.kept hfd hg6 (by omega) (by omega)
       have hB6 := hB5.grown hg6 hB5.size (fun k e => by cases e; omega)
       clear hloc hbt hbx hdk4 hst4 hres4 hen4 hB4 hz4 hdk5 hres5 hen5 hB5 hg6)
    | ((with_reducible refine wpList_build_to rfl 29 _ rfl [] _ rfl built_zero_g ?_))
    | ((with_reducible refine wpList_store_blk rfl 29 _ _ rfl (w.heap.size + 1) Lp.zero.arr ?hx8 ?hy8 29 _ hres6 HZS.out ?hs8 (lp_one _) ?_); (case hx8 => rfl); (case hy8 => rfl); (case hs8 => rfl)
       intro w7 hg7 hX7 hs7))
  have hb7 := hB6.grown hg7 hB6.size (fun k e => by cases e; exact Nat.le_succ _)
  first | rw [Exit.noGoto_ret] | rw [jump_ret] | skip
  refine bodyPost_ret (v := .tuple #[.agg Lp.zero.arr, .int .i64 1]) ?_ rfl ?_
  · exact results_blk_tmp Tryz.results8 _ _ _ (w.heap.size + 1) 29 _ (0, 0) _ rfl hX7 Tryz.underlying29 rfl HZS.out _ rfl
  · rw [HOP.out]
    exact ⟨Lp.zero, rfl, zero_at _, hb7⟩
theorem aopen_any (s : Sp) (A : Option Addr) (n c : Nat) (w : World) (hK : KTab w) (hb : Bts w A n c s.data) (hsm : n ≤ 1000000) :
    Calls Tryz.prog 8 #[.agg #[.int .i64 s.cap, .slice A n c, .int .i64 s.sure]] w (GLE (openG s) w) := by
  cases hm : mayP s with
  | false => exact aopen_no s A n c w hK hb hsm hm
  | true => exact aopen_yes s A n c w hK hb hsm hm
end Go.Proofs.YtafmompplcaadaaGreatDoor

/- AudOk: what package audit does, of the landed code. -/
namespace Go.Proofs.YtafmompplcaadaaGreatDoor
set_option maxRecDepth 100000
set_option linter.unusedVariables false
set_option linter.unusedSimpArgs false
open Go.RowKit

theorem aud_ok : AudOk where
  new := fun room X hK => anew_any room X hK
  may := fun p g X hK h _ => amay_any p g X hK h
  same := fun p q a b X _ ha hb _ _ => asame_any p q a b X ha hb
  open_ := fun s A n c X hK hb hn => aopen_any s A n c X hK hb hn
  room := fun p g X hK h hs => aroom_any p g X hK h (by have := h.ents.len; have := hs.2; omega)
  add := fun p g u urg X hK h hs hu => aadd_any p g u urg X hK h hs hu
  torn := fun p g u keep X hK h hs hu => atorn_any p g u keep X hK h hs hu
end Go.Proofs.YtafmompplcaadaaGreatDoor

/- The laws' arguments, opened: an entry by value; a slice of entries. -/
namespace Go.Proofs.YtafmompplcaadaaGreatDoor
set_option maxRecDepth 100000
set_option linter.unusedVariables false
set_option linter.unusedSimpArgs false
open Go.ChangeShapes Go.WideShapes Go.ChangeAt Go.RowKit

theorem cellsEntry : Tryz.prog.cellsOf 33 = 9 := by kernel_rfl
theorem cellsU64e : Tryz.prog.cellsOf 30 = 1 := by kernel_rfl
theorem cellsErrno : Tryz.prog.cellsOf 31 = 1 := by kernel_rfl
theorem at_take_e {l : List Value} {i : Nat} {v : Value} (h : (l.drop i).take 1 = [v]) : l[i]? = some v := by
  have h1 : ((l.drop i).take 1)[0]? = some v := by rw [h]; rfl
  rw [List.getElem?_take, if_pos (by omega), List.getElem?_drop, Nat.add_zero] at h1
  exact h1
theorem add_two9 (b o m i : Nat) : (((⟨b, o, none⟩ : Addr).add m).add i) = ⟨b, o + m + i, none⟩ := by rw [Addr.add_mid, Addr.add_mid]
section
variable {H : Type} {enc : TypeId × Value → H} {W : World} {base : Nat} {spare : Nat → Bool} {held : Bool}
theorem entry_cells (fuel : Nat) (cs : List Value) (x : DataW H × List MemPlace) (hl : cs.length = 9) (h : DataW.trod enc Tryz.prog W base spare held fuel 33 cs = some x) : ∃ u : En, cs = u.row ∧ u.ok := by
  obtain ⟨xs, n, rfl, hx, _, hlen, hg⟩ := DataW.trod_struct Tryz.underlying33 h
  match xs, hlen with
  | [y0, y1, y2, y3, y4, y5, y6, y7, y8], _ =>
    have g0 : DataW.trod enc Tryz.prog W base spare held n 3 ((cs.drop 0).take (Tryz.prog.cellsOf 3)) = some y0 := hg 0 _ rfl
    have g1 : DataW.trod enc Tryz.prog W base spare held n 3 ((cs.drop 1).take (Tryz.prog.cellsOf 3)) = some y1 := hg 1 _ rfl
    have g2 : DataW.trod enc Tryz.prog W base spare held n 3 ((cs.drop 2).take (Tryz.prog.cellsOf 3)) = some y2 := hg 2 _ rfl
    have g3 : DataW.trod enc Tryz.prog W base spare held n 3 ((cs.drop 3).take (Tryz.prog.cellsOf 3)) = some y3 := hg 3 _ rfl
    have g4 : DataW.trod enc Tryz.prog W base spare held n 30 ((cs.drop 4).take (Tryz.prog.cellsOf 30)) = some y4 := hg 4 _ rfl
    have g5 : DataW.trod enc Tryz.prog W base spare held n 30 ((cs.drop 5).take (Tryz.prog.cellsOf 30)) = some y5 := hg 5 _ rfl
    have g6 : DataW.trod enc Tryz.prog W base spare held n 3 ((cs.drop 6).take (Tryz.prog.cellsOf 3)) = some y6 := hg 6 _ rfl
    have g7 : DataW.trod enc Tryz.prog W base spare held n 3 ((cs.drop 7).take (Tryz.prog.cellsOf 3)) = some y7 := hg 7 _ rfl
    have g8 : DataW.trod enc Tryz.prog W base spare held n 31 ((cs.drop 8).take (Tryz.prog.cellsOf 31)) = some y8 := hg 8 _ rfl
    rw [cellsInt] at g0 g1 g2 g3 g6 g7
    rw [cellsU64e] at g4 g5
    rw [cellsErrno] at g8
    obtain ⟨x0, e0, _, w0⟩ := DataW.trod_int Tryz.underlying3 (x := y0) g0
    obtain ⟨x1, e1, _, w1⟩ := DataW.trod_int Tryz.underlying3 (x := y1) g1
    obtain ⟨x2, e2, _, w2⟩ := DataW.trod_int Tryz.underlying3 (x := y2) g2
    obtain ⟨x3, e3, _, w3⟩ := DataW.trod_int Tryz.underlying3 (x := y3) g3
    obtain ⟨x4, e4, _, w4⟩ := DataW.trod_int Tryz.underlying30 (x := y4) g4
    obtain ⟨x5, e5, _, w5⟩ := DataW.trod_int Tryz.underlying30 (x := y5) g5
    obtain ⟨x6, e6, _, w6⟩ := DataW.trod_int Tryz.underlying3 (x := y6) g6
    obtain ⟨x7, e7, _, w7⟩ := DataW.trod_int Tryz.underlying3 (x := y7) g7
    obtain ⟨x8, e8, _, w8⟩ := DataW.trod_int Tryz.underlying31 (x := y8) g8
    have b4 := bounds_u64 w4
    have b5 := bounds_u64 w5
    have q0 := at_take_e e0
    have q1 := at_take_e e1
    have q2 := at_take_e e2
    have q3 := at_take_e e3
    have q4 := at_take_e e4
    have q5 := at_take_e e5
    have q6 := at_take_e e6
    have q7 := at_take_e e7
    have q8 := at_take_e e8
    refine ⟨⟨x0, x1, x2, x3, x4, x5, x6, x7, x8⟩, ?_, ⟨⟨b4.1, Int.lt_of_le_of_lt b4.2 (by decide)⟩, ⟨b5.1, Int.lt_of_le_of_lt b5.2 (by decide)⟩⟩⟩
    match cs, hl with
    | [u0, u1, u2, u3, u4, u5, u6, u7, u8], _ =>
      simp only [List.getElem?_cons_zero, List.getElem?_cons_succ, Option.some.injEq] at q0 q1 q2 q3 q4 q5 q6 q7 q8
      rw [q0, q1, q2, q3, q4, q5, q6, q7, q8]
      rfl
/-- an argument that is an entry -/
theorem open_entry {v : Value} {r : Reach} {b0 : Nat} {d : DataW H} {p : List MemPlace} (hv : Value.okWide Tryz.prog W r b0 33 v) (h : DataW.Trod enc Tryz.prog W base spare held 33 v d p) :
    ∃ u : En, v = enV u ∧ u.ok := by
  obtain ⟨cs, rfl, hsz⟩ := okWide_struct Tryz.underlying33 hv
  obtain ⟨l⟩ := cs
  obtain ⟨fuel, hf⟩ := h
  obtain ⟨u, rfl, hb⟩ := entry_cells fuel l _ (hsz.trans cellsEntry) hf
  exact ⟨u, rfl, hb⟩
/-- an argument that is a slice of entries, each of numbers that fit -/
theorem open_entries_ok {v : Value} {r : Reach} {b0 : Nat} {d : DataW H} {p : List MemPlace} (hv : Value.okWide Tryz.prog W r b0 25 v) (h : DataW.Trod enc Tryz.prog W base spare held 25 v d p) :
    ∃ (A : Option Addr) (n c : Nat) (l : List En), v = .slice A n c ∧ Ens W A n c l ∧ ∀ u ∈ l, u.ok := by
  obtain ⟨A, n, c, rfl⟩ := okWide_slice Tryz.underlying25 hv
  obtain ⟨fuel, hf⟩ := h
  rcases Go.Deep.open_slice Tryz.underlying25 hf with ⟨hcs, _⟩ | ⟨a, len, cap, m, n', D, Pl, hcs, _, hl, hm, hz, _, hx⟩
  · simp only [Value.cells, List.cons.injEq, Value.slice.injEq, and_true] at hcs
    obtain ⟨rfl, rfl, rfl⟩ := hcs
    exact ⟨none, 0, 0, [], rfl, Ens.nil W, fun u hu => by cases hu⟩
  · simp only [Value.cells, List.cons.injEq, Value.slice.injEq, and_true] at hcs
    obtain ⟨rfl, rfl, rfl⟩ := hcs
    have hlm : n ≤ m := by rw [hz]; split <;> omega
    have each : ∀ i, i < n → ∃ u : En, (∀ j, j < 9 → W.cell? ((a.add (i * 9)).add j) = u.row[j]?) ∧ u.ok := by
      intro i hi
      obtain ⟨cs', h1, h2⟩ := hx i (by omega)
      rw [cellsEntry] at h1
      obtain ⟨_, h3, h4⟩ := World.cells?_some h1
      obtain ⟨u, rfl, hb⟩ := entry_cells n' cs' _ h3 h2
      exact ⟨u, h4, hb⟩
    haveI : Inhabited En := ⟨En.zero⟩
    obtain ⟨q, hq⟩ := Go.Deep.choose_lt each
    refine ⟨some a, n, c, (List.range n).map q, rfl, ⟨by simp, ?_, ?_, hl, hm, (fun e => by cases e), ?_⟩, fun u hu => ?_⟩
    · intro r hr
      obtain ⟨u, _, rfl⟩ := List.mem_map.1 hr
      rfl
    · intro r hr v hv
      obtain ⟨u, _, rfl⟩ := List.mem_map.1 hr
      exact row_one9 u v hv
    · intro hn
      obtain ⟨ab, ao, am⟩ := a
      have h0 := (hq 0 hn).1 0 (by omega)
      have ham : am = none := by
        have h1 : (q 0).row[0]? = some (.int .i64 (q 0).kind) := rfl
        rw [h1] at h0
        simpa [Addr.add] using World.cell?_spot h0
      subst ham
      refine ⟨ab, ao, rfl, fun j hj i hi => ?_⟩
      have h1 := (hq j hj).1 i hi
      rw [add_two9] at h1
      rw [h1]
      have hl9 : i < (q j).row.length := hi
      simp [List.getD_eq_getElem?_getD, List.getElem?_range hj, hl9]
    · obtain ⟨i, hi, rfl⟩ := List.mem_map.1 hu
      exact (hq i (List.mem_range.1 hi)).2
/-- an argument that is a slice of entries -/
theorem open_entries {v : Value} {r : Reach} {b0 : Nat} {d : DataW H} {p : List MemPlace} (hv : Value.okWide Tryz.prog W r b0 25 v) (h : DataW.Trod enc Tryz.prog W base spare held 25 v d p) :
    ∃ (A : Option Addr) (n c : Nat) (l : List En), v = .slice A n c ∧ Ens W A n c l := by
  obtain ⟨A, n, c, l, h1, h2, _⟩ := open_entries_ok hv h
  exact ⟨A, n, c, l, h1, h2⟩
end
end Go.Proofs.YtafmompplcaadaaGreatDoor

/- The laws' arguments, opened: a head. -/
namespace Go.Proofs.YtafmompplcaadaaGreatDoor
set_option maxRecDepth 100000
set_option linter.unusedVariables false
set_option linter.unusedSimpArgs false
open Go.ChangeShapes Go.WideShapes Go.ChangeAt Go.RowKit

theorem cellsIdC : Tryz.prog.cellsOf 27 = 32 := by kernel_rfl
theorem at_take_c {l : List Value} {i : Nat} {v : Value} (h : (l.drop i).take 1 = [v]) : l[i]? = some v := by
  have h1 : ((l.drop i).take 1)[0]? = some v := by rw [h]; rfl
  rw [List.getElem?_take, if_pos (by omega), List.getElem?_drop, Nat.add_zero] at h1
  exact h1
section
variable {H : Type} {enc : TypeId × Value → H} {W : World} {base : Nat} {spare : Nat → Bool} {held : Bool}
/-- the cells of a head -/
theorem id_cells {fuel : Nat} {cs : List Value} {x : DataW H × List MemPlace} (hl : cs.length = 32) (h : DataW.trod enc Tryz.prog W base spare held fuel 27 cs = some x) :
    ∃ z : List Int, cs = byv z ∧ z.length = 32 ∧ ∀ j, 0 ≤ z.getD j 0 ∧ z.getD j 0 < 256 := by
  obtain ⟨zs, m, _, _, _, hzl, hz⟩ := DataW.trod_array Tryz.underlying27 h
  have each : ∀ i, i < 32 → ∃ z : Int, cs[i]? = some (.int .u8 z) ∧ (0 ≤ z ∧ z < 256) := by
    intro i hi
    have e := hz i (by omega)
    rw [cellsU8] at e
    obtain ⟨y, hy⟩ : ∃ y, zs[i]? = some y := ⟨_, List.getElem?_eq_getElem (by omega)⟩
    rw [hy] at e
    obtain ⟨z, ez, _, wz⟩ := DataW.trod_int Tryz.underlying5 e
    have bz := bounds_u8 wz
    have qz := at_take_c ez
    rw [Nat.mul_one] at qz
    exact ⟨z, qz, bz.1, by omega⟩
  obtain ⟨q, hq⟩ := Go.Deep.choose_lt each
  refine ⟨(List.range 32).map q, ?_, by simp, ?_⟩
  · apply List.ext_getElem?
    intro i
    by_cases h32 : i < 32
    · rw [(hq i h32).1]
      simp [byv, List.getElem?_range h32]
    · rw [List.getElem?_eq_none (by omega), List.getElem?_eq_none (by simp [byv]; omega)]
  · intro j
    by_cases h32 : j < 32
    · simp only [List.getD_eq_getElem?_getD, List.getElem?_map, List.getElem?_range h32, Option.map_some, Option.getD_some]
      exact (hq j h32).2
    · rw [List.getD_eq_getElem?_getD, List.getElem?_eq_none (by simp; omega)]
      simp
theorem okWide_arr {P : Program} {w : World} {r : Reach} {b0 : Nat} {t e : TypeId} {n : Nat} {v : Value} (ht : P.underlying t = some (.array n e)) (h : Value.okWide P w r b0 t v) : ∃ cs, v = .agg cs ∧ cs.size = P.cellsOf t := by
  simp only [Value.okWide, ht] at h
  obtain ⟨cs, h1, h2, _⟩ := h
  exact ⟨cs, h1, h2⟩
/-- an argument that is a head -/
theorem open_id {v : Value} {r : Reach} {b0 : Nat} {d : DataW H} {p : List MemPlace} (hv : Value.okWide Tryz.prog W r b0 27 v) (h : DataW.Trod enc Tryz.prog W base spare held 27 v d p) :
    ∃ z : List Int, v = .agg (idv z) ∧ z.length = 32 ∧ ∀ j, 0 ≤ z.getD j 0 ∧ z.getD j 0 < 256 := by
  obtain ⟨cs, rfl, hsz⟩ := okWide_arr Tryz.underlying27 hv
  obtain ⟨l⟩ := cs
  obtain ⟨fuel, hf⟩ := h
  obtain ⟨z, rfl, hz⟩ := id_cells (hsz.trans cellsIdC) hf
  exact ⟨z, rfl, hz⟩
end
end Go.Proofs.YtafmompplcaadaaGreatDoor
