/- Joined texts: The walks over package frame's following, sizes, upTo: what a shape tells. A frame by value: its cells; the walks over package frame's numbersOf and frameOf. Loads and stores of whole rows: guarded ones; a store, with the world behind it under a name; a row that is built. The walk over package frame's frameOf: the frame of numbers, and a tag. The walk over package frame's isPlain. The walk over package frame's isPlain, where the integers are in range. Frames as bytes: what is put fits; its length; what it is read as. The walk over package frame's Put, where a frame is not plain. The laws' arguments, opened: a slice of numbers with sizes. The walk over package frame's Put, where a frame is plain: its bytes. -/
import Derived.Test.YtncedbjbooemjaaFtJC
import Derived.Test.YtncedbjbooemjaaFtJA
import Derived.Test.YtncedbjbooemjaaFtJB
/- The walks over package frame's following, sizes, upTo: what a shape tells. -/
namespace Go.Proofs.Ytncedbjbooemjaa
set_option linter.unusedVariables false
set_option linter.unusedSimpArgs false
open Go.RowKit

theorem list8 {α : Type} (S : List α) (h : S.length = 8) : ∃ s0 s1 s2 s3 s4 s5 s6 s7, S = [s0, s1, s2, s3, s4, s5, s6, s7] := by
  match S, h with
  | [s0, s1, s2, s3, s4, s5, s6, s7], _ => exact ⟨s0, s1, s2, s3, s4, s5, s6, s7, rfl⟩
theorem shV_lit {S : List Nat} {s0 s1 s2 s3 s4 s5 s6 s7 : Nat} {t : Bool} (h : S = [s0, s1, s2, s3, s4, s5, s6, s7]) :
    shV S t = .agg #[.int .i64 s0, .int .i64 s1, .int .i64 s2, .int .i64 s3, .int .i64 s4, .int .i64 s5, .int .i64 s6, .int .i64 s7, .bool t] := by
  subst h; rfl
def sizC (S : List Nat) : List Value := S.map fun s : Nat => Value.int .i64 (s : Int)
theorem sizC_lit {S : List Nat} {s0 s1 s2 s3 s4 s5 s6 s7 : Nat} (h : S = [s0, s1, s2, s3, s4, s5, s6, s7]) :
    (sizC S).toArray = #[.int .i64 s0, .int .i64 s1, .int .i64 s2, .int .i64 s3, .int .i64 s4, .int .i64 s5, .int .i64 s6, .int .i64 s7] := by
  subst h; rfl
theorem size_index {S : List Nat} (hS : S.length = 8) {cs : Array Value} (hc : (sizC S).toArray = cs) (k : Nat) (hk : k < 8) (w : World) :
    (Instr.index 45 (.agg cs) (.int .i64 k)).run Try.prog w = .ok (.int .i64 (S.getD k 0 : Nat)) w := by
  refine run_index_arr 45 3 8 .i64 _ k k _ Try.underlying45 Try.underlying3 (by kernel_rfl) rfl hk ?_ w
  rw [← hc]
  simp [sizC, List.getD_eq_getElem?_getD, hS, hk]
theorem sumS_snoc (S : List Nat) (k : Nat) (h : k < S.length) : (S.take (k + 1)).sum = (S.take k).sum + S.getD k 0 := by
  rw [List.take_succ_eq_append_getElem h, List.sum_append]
  simp [List.getD_eq_getElem?_getD, h]
theorem sumS_le (S : List Nat) (k : Nat) : (S.take k).sum ≤ S.sum := by
  have h := congrArg List.sum (List.take_append_drop k S)
  rw [List.sum_append] at h
  omega
theorem getS_le (S : List Nat) (k : Nat) : S.getD k 0 ≤ S.sum := by
  induction S generalizing k with
  | nil => simp
  | cons s S ih =>
    rw [List.sum_cons]
    cases k with
    | zero => simp
    | succ k => have := ih k; simp at this ⊢; omega

set_option maxHeartbeats 1000000 in
theorem fol_any (S : List Nat) (t : Bool) (w : World) (hS : S.length = 8) (hsm : S.sum ≤ 1000) :
    Calls Try.prog 21 #[shV S t] w fun e w' => e = .returned (.int .i64 (folL S t : Nat)) ∧ Below w.heap.size w w' := by
  obtain ⟨s0, s1, s2, s3, s4, s5, s6, s7, hl⟩ := list8 S hS
  rw [shV_lit hl]
  have hc := sizC_lit hl
  have HS := Lib.hid hS
  have HC := Lib.hid hc
  have HM := Lib.hid hsm
  clear hS hl hc hsm
  obtain ⟨T, hT⟩ : ∃ T, folL S t = T := ⟨_, rfl⟩
  have hTe : t = true → S.sum + 32 = T := by intro h; rw [← hT, folL, if_pos h]
  have hTf : t = false → S.sum = T := by intro h; rw [← hT, folL, h]; simp
  have HT := Lib.hid hT
  have HTE := Lib.hid hTe
  have HTF := Lib.hid hTf
  rw [hT]
  clear hT hTe hTf
  go_enter Try.func21, Try.ntmps21
  go_wp2
  go_loop [3, 5, 8] (fun n u i => ∃ (k z : Nat), k ≤ 8 ∧ i = .int .i64 k ∧ n = .int .i64 z ∧ z = (S.take k).sum) (fun _ _ i => 8 - (intOf i).toNat)
  case atStart => exact ⟨0, 0, Nat.zero_le _, rfl, rfl, rfl⟩
  case round =>
    obtain ⟨k, z, hk, rfl, rfl, hz⟩ := hrel
    have hzb : (z : Int) ≤ 1000 := by have h1 := sumS_le S k; have h2 := HM.out; omega
    have HZ := Lib.hid hz
    clear hz
    by_cases hlt : k < 8
    · have hix := size_index HS.out HC.out k hlt
      obtain ⟨x, hx⟩ : ∃ x, S.getD k 0 = x := ⟨_, rfl⟩
      rw [hx] at hix
      have hxb : (x : Int) ≤ 1000 := by have h1 := getS_le S k; have h2 := HM.out; omega
      have hnx : z + x = (S.take (k + 1)).sum := by rw [sumS_snoc S k (by rw [HS.out]; exact hlt), HZ.out, hx]
      have HNX := Lib.hid hnx
      clear hx hnx
      go_wp2
      go_round
      case rel => exact ⟨k + 1, z + x, by omega, by go_num, by go_num, HNX.out⟩
      case measure => simp [intOf]; omega
    · have hkn : k = 8 := by omega
      have hzs : z = S.sum := by rw [HZ.out, hkn, ← HS.out, List.take_length]
      have HZS := Lib.hid hzs
      clear hzs hkn
      cases t with
      | true =>
        have h1 : ((z : Int) + 32) = T := by rw [HZS.out, ← HTE.out rfl]; omega
        have H1 := Lib.hid h1
        clear h1
        go_wp2
        go_ret
        exact ⟨congrArg (fun x => Ending.returned (Value.int .i64 x)) H1.out, one_alloc _ _⟩
      | false =>
        have h1 : ((z : Int)) = T := by rw [HZS.out, ← HTF.out rfl]
        have H1 := Lib.hid h1
        clear h1
        go_wp2
        go_ret
        exact ⟨congrArg (fun x => Ending.returned (Value.int .i64 x)) H1.out, one_alloc _ _⟩
def upB (n m : Int) : Bool := decide (0 ≤ n ∧ n ≤ m)
set_option maxHeartbeats 1000000 in
theorem upto_any (n m : Int) (w : World) :
    Calls Try.prog 35 #[.int .i64 n, .int .i64 m] w fun e w' => e = .returned (.bool (upB n m)) ∧ w = w' := by
  have k1 : 0 ≤ n → decide (n ≤ m) = upB n m := by intro h; unfold upB; rw [Bool.eq_iff_iff]; simp; omega
  have k2 : n < 0 → false = upB n m := by intro h; unfold upB; rw [Bool.eq_iff_iff]; simp; omega
  have K1 := Lib.hid k1
  have K2 := Lib.hid k2
  clear k1 k2
  by_cases h : 0 ≤ n
  · go_enter Try.func35, Try.ntmps35
    go_wp2
    go_ret
    exact ⟨ret_bool (K1.out h), rfl⟩
  · have h2 : n < 0 := by omega
    clear h
    go_enter Try.func35, Try.ntmps35
    go_wp2
    go_ret
    exact ⟨ret_bool (K2.out h2), rfl⟩
end Go.Proofs.Ytncedbjbooemjaa

/- A frame by value: its cells; the walks over package frame's numbersOf and frameOf. -/
namespace Go.Proofs.Ytncedbjbooemjaa
set_option linter.unusedVariables false
set_option linter.unusedSimpArgs false
open Go.RowKit

/-- a frame, as cells -/
def frC (f : Fr) : List Value := [.int .i64 f.kind, .int .i64 f.user, .int .u64 f.sess, .int .u64 f.cn, .int .i64 f.epoch, .int .u64 f.count, .int .i64 f.cmd, .int .i64 f.arg] ++ byv f.tag
def frA (f : Fr) : Array Value := (frC f).toArray
theorem frC_length {f : Fr} (h : f.tag.length = 32) : (frC f).length = 40 := by simp [frC, byv, h]
/-- the block g holds this frame -/
structure RowF (w : World) (g : Nat) (f : Fr) : Prop where
  blk : w.heap[g]? = some (.cells (frA f) 26 (0, 0))
  kind : w.cell? ⟨g, 0, none⟩ = some (.int .i64 f.kind)
  user : w.cell? ⟨g, 1, none⟩ = some (.int .i64 f.user)
  sess : w.cell? ⟨g, 2, none⟩ = some (.int .u64 f.sess)
  cn : w.cell? ⟨g, 3, none⟩ = some (.int .u64 f.cn)
  epoch : w.cell? ⟨g, 4, none⟩ = some (.int .i64 f.epoch)
  count : w.cell? ⟨g, 5, none⟩ = some (.int .u64 f.count)
  cmd : w.cell? ⟨g, 6, none⟩ = some (.int .i64 f.cmd)
  arg : w.cell? ⟨g, 7, none⟩ = some (.int .i64 f.arg)
theorem rowF_of {w : World} {g : Nat} {f : Fr} (h : w.heap[g]? = some (.cells (frA f) 26 (0, 0))) : RowF w g f := by
  refine ⟨h, ?_, ?_, ?_, ?_, ?_, ?_, ?_, ?_⟩ <;> rw [cell_of_row _ _ _ _ _ _ h] <;> rfl
theorem RowF.below {w w' : World} {g : Nat} {f : Fr} (h : RowF w g f) (hb : Below w.heap.size w w') : RowF w' g f :=
  rowF_of ((hb.block g (Array.getElem?_eq_some_iff.1 h.blk).1).trans h.blk)
theorem RowF.next {w : World} (f : Fr) : RowF (w.alloc (.cells (frA f) 26)) w.heap.size f := rowF_of (heap_alloc_new w _)
def frV (f : Fr) : Value := .agg (frA f)
/-- an array that holds a frame's cells -/
structure HasF (C : Array Value) (f : Fr) : Prop where
  d0 : C[0]? = some (.int .i64 f.kind)
  d1 : C[1]? = some (.int .i64 f.user)
  d2 : C[2]? = some (.int .u64 f.sess)
  d3 : C[3]? = some (.int .u64 f.cn)
  d4 : C[4]? = some (.int .i64 f.epoch)
  d5 : C[5]? = some (.int .u64 f.count)
  d6 : C[6]? = some (.int .i64 f.cmd)
  d7 : C[7]? = some (.int .i64 f.arg)
theorem hasF (f : Fr) : HasF (frA f) f := ⟨rfl, rfl, rfl, rfl, rfl, rfl, rfl, rfl⟩
def numC (f : Fr) : List Value := f.nums.map (Value.int .u64)
def numV (f : Fr) : Value := .agg (numC f).toArray
/-- none of its integers is below nought -/
structure Fr.pos (f : Fr) : Prop where
  kind : 0 ≤ f.kind
  user : 0 ≤ f.user
  epoch : 0 ≤ f.epoch
  cmd : 0 ≤ f.cmd
  arg : 0 ≤ f.arg
set_option maxHeartbeats 2000000 in
theorem nums_any (f : Fr) (w : World) (hok : f.ok) (hp : f.pos) :
    Calls Try.prog 22 #[frV f] w fun e w' => e = .returned (numV f) ∧ Below w.heap.size w w' := by
  have hh := hasF f
  obtain ⟨p0, p1, p2, p3, p4⟩ := hp
  obtain ⟨⟨_, a0⟩, ⟨_, a1⟩, ⟨b2, a2⟩, ⟨b3, a3⟩, ⟨_, a4⟩, ⟨b5, a5⟩, ⟨_, a6⟩, ⟨_, a7⟩, _, _⟩ := hok
  unfold frV
  obtain ⟨C, hC⟩ : ∃ C, C = frA f := ⟨_, rfl⟩
  rw [← hC] at hh ⊢
  obtain ⟨d0, d1, d2, d3, d4, d5, d6, d7⟩ := hh
  rcases f with ⟨kind, user, sess, cn, epoch, count, cmd, arg, tag⟩
  simp only at *
  clear hC
  go_enter Try.func22, Try.ntmps22
  go_wp2
  refine bodyPost_ret (v := .agg #[.int .u64 kind, .int .u64 user, .int .u64 sess, .int .u64 cn, .int .u64 epoch, .int .u64 count, .int .u64 cmd, .int .u64 arg]) (by simp [results, Try.results22, go_sem]) rfl ⟨rfl, two_below _ _ _⟩
end Go.Proofs.Ytncedbjbooemjaa

/- Loads and stores of whole rows: guarded ones; a store, with the world behind it under a name; a row that is built. -/
namespace Go.Proofs.Ytncedbjbooemjaa
open Go.RowKit

section
variable {P : Program} {ops : Array Oper} {rest : List Oper} {o : Oper} {a : Act} {w : World} {Q : Exit → Act → World → Prop}
/-- a load out of the middle of a block, guarded or not -/
theorem wpList_load_on (ty : TypeId) (x : Operand) (ho : o.op = .load ty x) (b off : Nat) (hx : a.eval x = .pointer (some ⟨b, off, none⟩)) (cs : List Value) (T : Array Value) (hT : cs.toArray = T) (d : TypeDesc) (hc : w.rangeAt b off cs)
    (hu : P.underlying ty = some d) (hd : d.isRow = true) (hi : (P.info? ty).map (·.size) = some cs.length)
    (h : wpList P ops Q rest (a.put o.dst (.agg T)) w) (hw : Region.wanted o (yielded ops a.tmps) = true) : wpList P ops Q (o :: rest) a w := by
  subst hT
  exact wpList_step fun K hK => by rw [if_pos hw]; exact wp_load_mid ty x ho b off hx cs d hc hu hd hi (hK _ _ h)
/-- a load of a whole block, guarded or not -/
theorem wpList_load_blk (ty : TypeId) (x : Operand) (ho : o.op = .load ty x) (g : Nat) (hx : a.eval x = .pointer (some ⟨g, 0, none⟩)) (t : TypeId) (cs : Array Value) (fr : Nat × Nat) (d : TypeDesc) (hg : w.heap[g]? = some (.cells cs t fr))
    (hu : P.underlying ty = some d) (hd : (match d with | .struct _ | .array _ _ => true | _ => false) = true) (hi : (P.info? ty).map (·.size) = some cs.size)
    (h : wpList P ops Q rest (a.put o.dst (.agg cs)) w) (hw : Region.wanted o (yielded ops a.tmps) = true) : wpList P ops Q (o :: rest) a w :=
  wpList_step fun K hK => by rw [if_pos hw]; exact wp_load_row ty x ho g hx t cs fr d hg hu hd hi (hK _ _ h)
/-- a store of a whole block; the world behind it under a name -/
theorem wpList_store_blk (hgd : o.guard = none) (ty : TypeId) (x y : Operand) (ho : o.op = .store ty x y)
    (g : Nat) (cells : Array Value) (hx : a.eval x = .pointer (some ⟨g, 0, none⟩)) (hy : a.eval y = .agg cells) (t : TypeId) (old : Array Value) (hg : w.heap[g]? = some (.cells old t (0, 0))) (hi : (P.info? ty).map (·.size) = some cells.size) (hold : old.size = cells.size) (h1 : cells.all (·.oneCell') = true)
    (h : ∀ w', w.grownBy w' (some g) → w'.heap[g]? = some (.cells cells t (0, 0)) → w'.heap.size = w.heap.size → wpList P ops Q rest (a.put o.dst undef) w') : wpList P ops Q (o :: rest) a w :=
  wpList_store_row hgd ty x y ho g cells hx hy t old hg hi hold h1 (h _ (grown_setRow _ _ _) (setRow_heap _ _ _ _ _ _ hg) (by simp))
/-- a row that is built of its parts -/
theorem wpList_build_to (hg : o.guard = none) (t : TypeId) (parts : Array (Nat × Operand)) (ho : o.op = .build t parts)
    (l : List (Nat × Value)) (Y : Array Value) (hl' : parts.toList.map (fun (i, x) => (i, a.eval x)) = l) (hb : P.built t l = some Y) (h : wpList P ops Q rest (a.put o.dst (.agg Y)) w) : wpList P ops Q (o :: rest) a w := by
  have hl : (parts.map fun (i, x) => (i, a.eval x)).toList = l := by rw [Array.toList_map]; exact hl'
  refine wpList_build hg t parts ho ?_ ?_
  · rw [hl, hb]; rfl
  · rw [hl, hb]; exact h
/-- the same, guarded or not -/
theorem wpList_build_on (t : TypeId) (parts : Array (Nat × Operand)) (ho : o.op = .build t parts)
    (l : List (Nat × Value)) (Y : Array Value) (hl' : parts.toList.map (fun (i, x) => (i, a.eval x)) = l) (hb : P.built t l = some Y) (h : wpList P ops Q rest (a.put o.dst (.agg Y)) w) (hw : Region.wanted o (yielded ops a.tmps) = true) : wpList P ops Q (o :: rest) a w := by
  have hl : (parts.map fun (i, x) => (i, a.eval x)).toList = l := by rw [Array.toList_map]; exact hl'
  refine wpList_step fun K hK => ?_
  rw [if_pos hw]
  refine wp_build t parts ho ?_ ?_
  · rw [hl, hb]; rfl
  · rw [hl, hb]; exact hK _ _ h
end
/-- a whole block and a value, handed back -/
theorem results_blk_tmp {fn : Func} {p u : Tmp} {ty : TypeId} (h : fn.results = #[.cell p ty, .tmp u]) (tmps : Array Value) (P : Program) (w : World) (g : Nat) (t : TypeId) (cs : Array Value) (fr : Nat × Nat) (d : TypeDesc)
    (hp : tmps.getD p undef = .pointer (some ⟨g, 0, none⟩)) (hg : w.heap[g]? = some (.cells cs t fr))
    (hu : P.underlying ty = some d) (hd : d.isRow = true) (hi : (P.info? ty).map (·.size) = some cs.size) (v : Value) (hv : tmps.getD u undef = v) :
    (results fn tmps).run P w = .ok (.tuple #[.agg cs, v]) w := by
  rw [results_cell_tmp h, hp, hv]
  simp [asAddr, run_loadVar_row w g t ty cs fr d hg hu (by cases d <;> simp_all) hi]
theorem built_of {P : Program} {t : TypeId} {fs : Array Field} {z : Value} {places : List (Nat × Nat)} {parts : List (Nat × Value)} {cells : Array Value} (hu : P.underlying t = some (.struct fs)) (hz : (P.info? t).bind (·.zero) = some z)
    (hp : fs.toList.mapM (fun f => (P.info? f.type).map fun i => (f.offset, i.size)) = some places) (hf : Instr.fill (places.toArray[·]?) z.cells parts = some cells) : P.built t parts = some cells := by
  unfold Program.built
  cases hi : P.info? t with
  | none => simp [hi] at hz
  | some i =>
    simp only [hi, Option.bind_some] at hz
    simp only [hu, hz, hp, hf]
/-- of no parts: the zero one -/
theorem built_none {P : Program} {t e : TypeId} {n : Nat} {z : Value} (hu : P.underlying t = some (.array n e)) (hz : (P.info? t).bind (·.zero) = some z) (he : (P.info? e).isSome = true) : P.built t [] = some z.cells := by
  unfold Program.built
  cases hi : P.info? t with
  | none => simp [hi] at hz
  | some i =>
    simp only [hi, Option.bind_some] at hz
    obtain ⟨j, hj⟩ := Option.isSome_iff_exists.1 he
    simp only [hu, hz, hj, Instr.fill]
end Go.Proofs.Ytncedbjbooemjaa

/- The walk over package frame's frameOf: the frame of numbers, and a tag. -/
namespace Go.Proofs.Ytncedbjbooemjaa
set_option linter.unusedVariables false
set_option linter.unusedSimpArgs false
open Go.RowKit

/-- a frame of numbers, and a tag -/
def frOf (n : List Nat) (T : List Int) : Fr := ⟨n.getD 0 0, n.getD 1 0, n.getD 2 0, n.getD 3 0, n.getD 4 0, n.getD 5 0, n.getD 6 0, n.getD 7 0, T⟩
theorem list32 {α : Type} (S : List α) (h : S.length = 32) : ∃ a0 a1 a2 a3 a4 a5 a6 a7 a8 a9 b0 b1 b2 b3 b4 b5 b6 b7 b8 b9 c0 c1 c2 c3 c4 c5 c6 c7 c8 c9 d0 d1, S = [a0, a1, a2, a3, a4, a5, a6, a7, a8, a9, b0, b1, b2, b3, b4, b5, b6, b7, b8, b9, c0, c1, c2, c3, c4, c5, c6, c7, c8, c9, d0, d1] := by
  match S, h with
  | [a0, a1, a2, a3, a4, a5, a6, a7, a8, a9, b0, b1, b2, b3, b4, b5, b6, b7, b8, b9, c0, c1, c2, c3, c4, c5, c6, c7, c8, c9, d0, d1], _ => exact ⟨_, _, _, _, _, _, _, _, _, _, _, _, _, _, _, _, _, _, _, _, _, _, _, _, _, _, _, _, _, _, _, _, rfl⟩
theorem fill_frame (f : Fr) (hT : f.tag.length = 32) : Instr.fill (([(0, 1), (1, 1), (2, 1), (3, 1), (4, 1), (5, 1), (6, 1), (7, 1), (8, 32)] : List (Nat × Nat)).toArray[·]?) (frA Fr.zero)
    [(0, .int .i64 f.kind), (1, .int .i64 f.user), (2, .int .u64 f.sess), (3, .int .u64 f.cn), (4, .int .i64 f.epoch), (5, .int .u64 f.count), (6, .int .i64 f.cmd), (7, .int .i64 f.arg), (8, .agg (idv f.tag))] = some (frA f) := by
  rcases f with ⟨kind, user, sess, cn, epoch, count, cmd, arg, tag⟩
  obtain ⟨a0, a1, a2, a3, a4, a5, a6, a7, a8, a9, b0, b1, b2, b3, b4, b5, b6, b7, b8, b9, c0, c1, c2, c3, c4, c5, c6, c7, c8, c9, d0, d1, rfl⟩ := list32 tag hT
  kernel_rfl
theorem built_frame (f : Fr) (hT : f.tag.length = 32) : Try.prog.built 26 [(0, .int .i64 f.kind), (1, .int .i64 f.user), (2, .int .u64 f.sess), (3, .int .u64 f.cn), (4, .int .i64 f.epoch), (5, .int .u64 f.count), (6, .int .i64 f.cmd), (7, .int .i64 f.arg), (8, .agg (idv f.tag))] = some (frA f) :=
  built_of (z := .agg (frA Fr.zero)) (places := [(0, 1), (1, 1), (2, 1), (3, 1), (4, 1), (5, 1), (6, 1), (7, 1), (8, 32)]) Try.underlying26 (by kernel_rfl) (by kernel_rfl) (fill_frame f hT)
theorem build_frame (f : Fr) (hT : f.tag.length = 32) (w : World) :
    (Instr.build 26 #[(0, .int .i64 f.kind), (1, .int .i64 f.user), (2, .int .u64 f.sess), (3, .int .u64 f.cn), (4, .int .i64 f.epoch), (5, .int .u64 f.count), (6, .int .i64 f.cmd), (7, .int .i64 f.arg), (8, .agg (idv f.tag))]).run Try.prog w = .ok (.agg (frA f)) w :=
  run_build w _ _ _ (built_of (z := .agg (frA Fr.zero)) (places := [(0, 1), (1, 1), (2, 1), (3, 1), (4, 1), (5, 1), (6, 1), (7, 1), (8, 32)]) Try.underlying26 (by kernel_rfl) (by kernel_rfl) (fill_frame f hT))
theorem build_zero (w : World) : (Instr.build 26 #[]).run Try.prog w = .ok (.agg (frA Fr.zero)) w :=
  run_build w _ _ _ (built_of (z := .agg (frA Fr.zero)) (places := [(0, 1), (1, 1), (2, 1), (3, 1), (4, 1), (5, 1), (6, 1), (7, 1), (8, 32)]) Try.underlying26 (by kernel_rfl) (by kernel_rfl) rfl)
theorem of_three (w : World) (o1 o2 o3 : Obj) : (((w.alloc o1).alloc o2).alloc o3).heap[w.heap.size + 1]? = some o2 ∧ (((w.alloc o1).alloc o2).alloc o3).heap[w.heap.size + 2]? = some o3 := by
  have e : (w.alloc o1).heap.size = w.heap.size + 1 := by simp
  have h1 := heap_alloc2_old (w.alloc o1) o2 o3
  have h2 := heap_alloc2_new (w.alloc o1) o2 o3
  rw [e] at h1 h2
  exact ⟨h1, h2⟩
theorem info_frame {C : Array Value} (h : C.size = 40) : (Try.prog.info? 26).map (·.size) = some C.size := by rw [h]; kernel_rfl
theorem info_id {C : Array Value} (h : C.size = 32) : (Try.prog.info? 24).map (·.size) = some C.size := by rw [h]; kernel_rfl
theorem frA_size {f : Fr} (h : f.tag.length = 32) : (frA f).size = 40 := by rw [frA, List.size_toArray, frC_length h]
theorem frA_one (f : Fr) : (frA f).all (·.oneCell') = true := by
  refine all_oneCell_toArray fun v hv => ?_
  rcases List.mem_append.1 hv with h | h
  · simp only [List.mem_cons, List.not_mem_nil, or_false] at h
    rcases h with rfl | rfl | rfl | rfl | rfl | rfl | rfl | rfl <;> rfl
  · exact byv_one _ v h
set_option maxHeartbeats 1000000 in
theorem frame_of (n0 n1 n2 n3 n4 n5 n6 n7 : Nat) (T : List Int) (w : World) (hT : T.length = 32) (h0 : n0 < 9223372036854775808) (h1 : n1 < 9223372036854775808) (h4 : n4 < 9223372036854775808) (h6 : n6 < 9223372036854775808) (h7 : n7 < 9223372036854775808)
    (h2 : n2 < 18446744073709551616) (h3 : n3 < 18446744073709551616) (h5 : n5 < 18446744073709551616) :
    Calls Try.prog 41 #[.agg #[.int .u64 n0, .int .u64 n1, .int .u64 n2, .int .u64 n3, .int .u64 n4, .int .u64 n5, .int .u64 n6, .int .u64 n7], .agg (idv T)] w fun e w' => e = .returned (frV (frOf [n0, n1, n2, n3, n4, n5, n6, n7] T)) ∧ Below w.heap.size w w' := by
  have hl : (idv T).size = 32 := by rw [idv_size, hT]
  have hb := built_frame (frOf [n0, n1, n2, n3, n4, n5, n6, n7] T) hT
  obtain ⟨Y, hY⟩ : ∃ Y, Y = frA (frOf [n0, n1, n2, n3, n4, n5, n6, n7] T) := ⟨_, rfl⟩
  have hYs : Y.size = 40 := by rw [hY]; exact frA_size hT
  have hY1 : Y.all (·.oneCell') = true := by rw [hY]; exact frA_one _
  simp only [frOf, List.getD_cons_zero, List.getD_cons_succ] at hb
  rw [show (frA { kind := (n0 : Int), user := n1, sess := n2, cn := n3, epoch := n4, count := n5, cmd := n6, arg := n7, tag := T }) = Y from hY.symm] at hb
  unfold frV
  rw [← hY]
  obtain ⟨Z, hZ⟩ : ∃ Z, Z = idv T := ⟨_, rfl⟩
  rw [← hZ] at hl hb ⊢
  have g0 : (n0 : Int) ≤ 9223372036854775807 := by omega
  have g1 : (n1 : Int) ≤ 9223372036854775807 := by omega
  have g4 : (n4 : Int) ≤ 9223372036854775807 := by omega
  have g6 : (n6 : Int) ≤ 9223372036854775807 := by omega
  have g7 : (n7 : Int) ≤ 9223372036854775807 := by omega
  have HB := Lib.hid hb
  have HS := Lib.hid hYs
  have HL := Lib.hid hl
  have H1 := Lib.hid hY1
  clear hb hZ hY h0 h1 h2 h3 h4 h5 h6 h7 hYs hl hY1 hT
  go_enter Try.func41, Try.ntmps41
  go_wp2_with (first
    | ((with_reducible refine wpList_load_row rfl 24 _ rfl (w.heap.size + 1) ?hx1 24 Z (0, 0) _ (of_three _ _ _ _).1 Try.underlying24 ?hd1 (info_id HL.out) ?_); (case hx1 => rfl); (case hd1 => rfl))
    | ((with_reducible refine wpList_build_to rfl 26 _ rfl _ Y ?hb3 HB.out ?_); (case hb3 => rfl))
    | ((with_reducible refine wpList_store_blk rfl 26 _ _ rfl (w.heap.size + 2) Y ?hx2 ?hy2 26 _ (of_three _ _ _ _).2 (info_frame HS.out) ?hs2 H1.out ?_); (case hx2 => rfl); (case hy2 => rfl); (case hs2 => rw [HS.out]; rfl)
       intro w6 hg6 hX6 hs6))
  refine bodyPost_ret (v := .agg Y) ?_ ?_ ?_
  · exact results_cell_row Try.results41 _ _ (w.heap.size + 2) 26 _ (0, 0) _ rfl hX6 Try.underlying26 rfl (info_frame HS.out)
  · rfl
  · exact ⟨rfl, (three_below w _ _ _).grown hg6 (by simp; omega) (fun k e => by cases e; omega)⟩
end Go.Proofs.Ytncedbjbooemjaa

/- The walk over package frame's isPlain. -/
namespace Go.Proofs.Ytncedbjbooemjaa
set_option linter.unusedVariables false
set_option linter.unusedSimpArgs false
open Go.RowKit

theorem rangeB_of (f : Fr) : rangeB f = (upB f.user 255 && upB f.epoch 1073741824 && upB f.cmd 255 && upB f.arg 65535) := by
  unfold rangeB upB
  rw [Bool.eq_iff_iff]
  simp only [decide_eq_true_eq, Bool.and_eq_true]
  omega
theorem plain_no {f : Fr} {S : List Nat} {t : Bool} (h : rangeB f = false) : false = plainS f S t := by rw [plainS, h]; rfl
theorem blank_at : ∀ (ns : List Int) (S : List Nat) (k : Nat), k < ns.length → k < S.length → S.getD k 0 = 0 → ns.getD k 0 ≠ 0 → blankB ns S = false
  | n :: ns, s :: S, 0, _, _, hs, hn => by
    simp only [List.getD_cons_zero] at hs hn
    rw [blankB]
    simp [hs, hn]
  | n :: ns, s :: S, k + 1, h1, h2, hs, hn => by
    simp only [List.getD_cons_succ, List.length_cons] at hs hn h1 h2
    rw [blankB, blank_at ns S k (by omega) (by omega) hs hn, Bool.and_false]
theorem blank_all : ∀ (ns : List Int) (S : List Nat), (∀ k, k < ns.length → S.getD k 0 = 0 → ns.getD k 0 = 0) → blankB ns S = true
  | n :: ns, s :: S, h => by
    rw [blankB, Bool.and_eq_true]
    refine ⟨?_, blank_all ns S fun k hk hs => ?_⟩
    · have := h 0 (by simp)
      simp only [List.getD_cons_zero] at this
      by_cases hs : s = 0
      · simp [this hs]
      · simp; omega
    · have := h (k + 1) (by simpa using hk)
      simp only [List.getD_cons_succ] at this
      exact this hs
  | [], _, _ => by simp [blankB]
  | _ :: _, [], _ => by simp [blankB]
theorem num_index {f : Fr} {cs : Array Value} (hc : (numC f).toArray = cs) (k : Nat) (hk : k < 8) (w : World) :
    (Instr.index 55 (.agg cs) (.int .i64 k)).run Try.prog w = .ok (.int .u64 (f.nums.getD k 0)) w := by
  refine run_index_arr 55 22 8 .u64 _ k k _ Try.underlying55 Try.underlying22 (by kernel_rfl) rfl hk ?_ w
  have hl : k < f.nums.length := hk
  rw [← hc]
  simp only [numC, List.getElem?_toArray, List.getElem?_map, List.getD_eq_getElem?_getD, List.getElem?_eq_getElem hl, Option.map_some, Option.getD_some]
/-- the block g holds this shape -/
structure RowS (w : World) (g : Nat) (S : List Nat) (t : Bool) : Prop where
  at_ : ∀ k, k < 8 → w.cell? ⟨g, k, none⟩ = some (.int .i64 (S.getD k 0 : Nat))
  tag : w.cell? ⟨g, 8, none⟩ = some (.bool t)
  lt : g < w.heap.size
  blk : w.heap[g]? = some (.cells (shC S t).toArray 47 (0, 0))
theorem rowS_of {w : World} {g : Nat} {S : List Nat} {t : Bool} (hS : S.length = 8) (h : w.heap[g]? = some (.cells (shC S t).toArray 47 (0, 0))) : RowS w g S t := by
  refine ⟨fun k hk => ?_, ?_, (Array.getElem?_eq_some_iff.1 h).1, h⟩
  · rw [cell_of_row _ _ _ _ _ _ h, shC, List.getElem?_toArray, List.getElem?_append_left (by simp [hS, hk])]
    simp [List.getD_eq_getElem?_getD, hS, hk]
  · rw [cell_of_row _ _ _ _ _ _ h, shC, List.getElem?_toArray, List.getElem?_append_right (by simp [hS])]
    simp [hS]
theorem RowS.below {w w' : World} {g : Nat} {S : List Nat} {t : Bool} (hS : S.length = 8) (h : RowS w g S t) (hb : Below w.heap.size w w') : RowS w' g S t :=
  rowS_of hS ((hb.block g h.lt).trans h.blk)
theorem frA_tag (f : Fr) : (frA f).toList.drop 8 = byv f.tag := rfl
theorem RowF.range {w : World} {g : Nat} {f : Fr} (h : RowF w g f) : w.rangeAt g 8 (byv f.tag) := fun j v hv => by
  rw [cell_of_row _ _ _ _ _ _ h.blk, frA, frC, List.getElem?_toArray, List.getElem?_append_right (by simp)]
  simpa using hv
theorem load_tag {w : World} {g : Nat} {f : Fr} (hT : f.tag.length = 32) (h : RowF w g f) : (Instr.loadAt 24 (.pointer (some ⟨g, 8, none⟩))).run Try.prog w = .ok (.agg (idv f.tag)) w :=
  run_loadAt_mid w g 8 24 (byv f.tag) _ h.range Try.underlying24 rfl (by rw [byv_length, hT]; kernel_rfl)
theorem eq_tag (x : List Int) (hx : x.length = 32) (w : World) : (Op.equalIn 10000 24 (.agg (idv x)) (.agg (idv noTag))).run Try.prog w = .ok (x == noTag) w :=
  run_equalIn_ints w 9998 24 5 32 .u8 Try.underlying24 Try.underlying5 (size_of (by kernel_rfl)) x noTag hx rfl

set_option maxHeartbeats 1000000 in
theorem plain_low (f : Fr) (S : List Nat) (t : Bool) (w : World) (hS : S.length = 8) (h : rangeB f = false) :
    Calls Try.prog 20 #[frV f, shV S t] w fun e w' => e = .returned (.bool (plainS f S t)) ∧ Below w.heap.size w w' := by
  obtain ⟨s0, s1, s2, s3, s4, s5, s6, s7, hl⟩ := list8 S hS
  have hres := plain_no (S := S) (t := t) h
  rw [← hres, shV_lit hl]
  rw [rangeB_of] at h
  have hh := hasF f
  unfold frV
  obtain ⟨C, hC⟩ : ∃ C, C = frA f := ⟨_, rfl⟩
  rw [← hC] at hh ⊢
  obtain ⟨d0, d1, d2, d3, d4, d5, d6, d7⟩ := hh
  obtain ⟨a, ha⟩ : ∃ a, upB f.user 255 = a := ⟨_, rfl⟩
  obtain ⟨b, hb⟩ : ∃ a, upB f.epoch 1073741824 = a := ⟨_, rfl⟩
  obtain ⟨c, hc⟩ : ∃ a, upB f.cmd 255 = a := ⟨_, rfl⟩
  obtain ⟨d, hd⟩ : ∃ a, upB f.arg 65535 = a := ⟨_, rfl⟩
  rw [ha, hb, hc, hd] at h
  have HA := Lib.hid ha
  have HB := Lib.hid hb
  have HC := Lib.hid hc
  have HD := Lib.hid hd
  rcases f with ⟨kind, user, sess, cn, epoch, count, cmd, arg, tag⟩
  simp only at *
  clear hC hl hres ha hb hc hd hS
  cases a <;> cases b <;> cases c <;> cases d <;> first
    | (exfalso; revert h; simp; done)
    | (clear h
       go_enter Try.func20, Try.ntmps20
       go_wp2_with (first
         | (go_at_call 35; (with_reducible refine (upto_any user 255 _).mono ?_); rintro e w1 ⟨he, rfl⟩; rw [HA.out] at he; subst he)
         | (go_at_call 35; (with_reducible refine (upto_any epoch 1073741824 _).mono ?_); rintro e w1 ⟨he, rfl⟩; rw [HB.out] at he; subst he)
         | (go_at_call 35; (with_reducible refine (upto_any cmd 255 _).mono ?_); rintro e w1 ⟨he, rfl⟩; rw [HC.out] at he; subst he)
         | (go_at_call 35; (with_reducible refine (upto_any arg 65535 _).mono ?_); rintro e w1 ⟨he, rfl⟩; rw [HD.out] at he; subst he))
       go_ret
       exact ⟨rfl, two_below _ _ _⟩)
end Go.Proofs.Ytncedbjbooemjaa

/- The walk over package frame's isPlain, where the integers are in range. -/
namespace Go.Proofs.Ytncedbjbooemjaa
set_option linter.unusedVariables false
set_option linter.unusedSimpArgs false
open Go.RowKit

theorem plain_blank {f : Fr} {S : List Nat} {t : Bool} (h : blankB f.nums S = false) : false = plainS f S t := by rw [plainS, h]; simp
theorem plain_last {f : Fr} {S : List Nat} {t : Bool} (h : rangeB f = true) (h2 : blankB f.nums S = true) : (t || f.tag == noTag) = plainS f S t := by rw [plainS, h, h2]; simp
theorem nums_range {f : Fr} (hok : f.ok) (hp : f.pos) (k : Nat) : 0 ≤ f.nums.getD k 0 ∧ f.nums.getD k 0 < 18446744073709551616 := by
  obtain ⟨p0, p1, p2, p3, p4⟩ := hp
  obtain ⟨⟨_, a0⟩, ⟨_, a1⟩, ⟨b2, a2⟩, ⟨b3, a3⟩, ⟨_, a4⟩, ⟨b5, a5⟩, ⟨_, a6⟩, ⟨_, a7⟩, _, _⟩ := hok
  match k with
  | 0 | 1 | 2 | 3 | 4 | 5 | 6 | 7 => simp [Fr.nums, List.getD_cons_zero, List.getD_cons_succ]; omega
  | k + 8 => simp [Fr.nums]
theorem pos_of {f : Fr} (hk : 0 ≤ f.kind) (h : rangeB f = true) : f.pos := by
  unfold rangeB at h
  rw [decide_eq_true_eq] at h
  exact ⟨hk, h.1, h.2.2.1, h.2.2.2.2.1, h.2.2.2.2.2.2.1⟩

set_option maxHeartbeats 2000000 in
theorem plain_high (f : Fr) (S : List Nat) (t : Bool) (w : World) (hok : f.ok) (hk : 0 ≤ f.kind) (hS : S.length = 8) (hsm : S.sum ≤ 1000) (h : rangeB f = true) :
    Calls Try.prog 20 #[frV f, shV S t] w fun e w' => e = .returned (.bool (plainS f S t)) ∧ Below w.heap.size w w' := by
  obtain ⟨s0, s1, s2, s3, s4, s5, s6, s7, hl⟩ := list8 S hS
  have hp := pos_of hk h
  have hcs : (shC S t).toArray = #[.int .i64 s0, .int .i64 s1, .int .i64 s2, .int .i64 s3, .int .i64 s4, .int .i64 s5, .int .i64 s6, .int .i64 s7, .bool t] := by rw [hl]; rfl
  rw [shV_lit hl]
  have hr := h
  rw [rangeB_of] at h
  simp only [Bool.and_eq_true] at h
  obtain ⟨⟨⟨ha, hb⟩, hc⟩, hd⟩ := h
  have HA := Lib.hid ha
  have HB := Lib.hid hb
  have HC := Lib.hid hc
  have HD := Lib.hid hd
  have hh := hasF f
  have hTl : f.tag.length = 32 := hok.len
  have htag : ∀ w, (Op.equalIn 10000 24 (.agg (idv f.tag)) (.agg (idv noTag))).run Try.prog w = .ok (f.tag == noTag) w := eq_tag f.tag hTl
  obtain ⟨r, hrT⟩ : ∃ r, (f.tag == noTag) = r := ⟨_, rfl⟩
  obtain ⟨V, hV⟩ : ∃ V, V = plainS f S t := ⟨_, rfl⟩
  rw [← hV]
  have hno : blankB f.nums S = false → false = V := fun h => (plain_blank h).trans hV.symm
  have hyes : blankB f.nums S = true → (t || r) = V := fun h => by rw [← hrT, hV]; exact plain_last hr h
  obtain ⟨C, hC⟩ : ∃ C, C = frA f := ⟨_, rfl⟩
  have hCs : C.size = 40 := by rw [hC]; exact frA_size hTl
  have hCV : (Value.agg C) = frV f := by rw [hC]; rfl
  rw [← hCV]
  rw [← hC] at hh
  obtain ⟨d0, d1, d2, d3, d4, d5, d6, d7⟩ := hh
  obtain ⟨M, hM⟩ : ∃ M, (numC f).toArray = M := ⟨_, rfl⟩
  have hnum : numV f = .agg M := by rw [← hM]; rfl
  have hnr := nums_range hok hp
  obtain ⟨T, hT⟩ : ∃ T, T = idv f.tag := ⟨_, rfl⟩
  rw [← hT, hrT] at htag
  obtain ⟨Z, hZ⟩ : ∃ Z, Z = idv noTag := ⟨_, rfl⟩
  rw [← hZ] at htag
  have HTL := Lib.hid hTl
  have HNO := Lib.hid hno
  have HYES := Lib.hid hyes
  have HCS := Lib.hid hCs
  have HCV := Lib.hid hCV
  have HCC := Lib.hid hC
  have HM := Lib.hid hM
  have HN := Lib.hid hnum
  have HNR := Lib.hid hnr
  have hT2 : (byv f.tag).toArray = T := by rw [hT]; rfl
  have HT := Lib.hid hT2
  have hZB : Try.prog.built 24 [] = some Z := by rw [hZ]; exact built_none (z := .agg (idv noTag)) Try.underlying24 (by kernel_rfl) (by kernel_rfl)
  have HZB := Lib.hid hZB
  have HZ := Lib.hid hZ
  have HTAG := Lib.hid htag
  have HS := Lib.hid hS
  have HSM := Lib.hid hsm
  have HOK := Lib.hid hok
  have HP := Lib.hid hp
  have HSC := Lib.hid hcs
  clear hT2 hZB hTl hno hyes hCs hCV hC hM hnum hnr hT hZ htag hS hsm hok hp hcs ha hb hc hd hrT hV hl hr
  go_enter Try.func20, Try.ntmps20
  go_wp2_with (first
    | (go_at_call 35; (with_reducible refine (upto_any _ 255 _).mono ?_); rintro e w1 ⟨he, rfl⟩; (first | rw [HA.out] at he | rw [HC.out] at he); subst he)
    | (go_at_call 35; (with_reducible refine (upto_any _ 1073741824 _).mono ?_); rintro e w1 ⟨he, rfl⟩; rw [HB.out] at he; subst he)
    | (go_at_call 35; (with_reducible refine (upto_any _ 65535 _).mono ?_); rintro e w1 ⟨he, rfl⟩; rw [HD.out] at he; subst he)
    | ((with_reducible refine wpList_load_row rfl 26 _ rfl w.heap.size ?hx1 26 C (0, 0) _ (heap_alloc2_old _ _ _) Try.underlying26 ?hd1 (info_frame HCS.out) ?_); (case hx1 => rfl); (case hd1 => rfl))
    | (go_at_call 22
       rw [HCV.out]
       (with_reducible refine (nums_any f _ HOK.out HP.out).mono ?_); rintro e w2 ⟨he, hb2⟩
       rw [HN.out] at he
       subst he
       have hr2 : RowS w2 (w.heap.size + 1) S t := rowS_of HS.out (by rw [HSC.out]; exact (after_two hb2).2.2.2)
       have hf2 : RowF w2 w.heap.size f := rowF_of (by rw [← HCC.out]; exact (after_two hb2).2.2.1)
       have hB2 := (after_two hb2).1
       clear hb2))
  have HS2 := Lib.hid hr2
  have HF2 := Lib.hid hf2
  clear hr2 hf2
  go_loop [5, 6, 31] (fun u v i => ∃ k : Nat, k ≤ 8 ∧ i = .int .i64 k ∧ ∀ j, j < k → S.getD j 0 = 0 → f.nums.getD j 0 = 0) (fun _ _ i => 8 - (intOf i).toNat)
  case atStart => exact ⟨0, by omega, rfl, fun j hj => by omega⟩
  case round =>
    obtain ⟨k, hk8, rfl, hall⟩ := hrel
    have HALL := Lib.hid hall
    clear hall
    by_cases hlt : k < 8
    · have hix := num_index HM.out k hlt
      have hcell := HS2.out.at_ k hlt
      obtain ⟨y0, y1⟩ := HNR.out k
      obtain ⟨y, hy⟩ : ∃ y, f.nums.getD k 0 = y := ⟨_, rfl⟩
      obtain ⟨x, hx⟩ : ∃ x, S.getD k 0 = x := ⟨_, rfl⟩
      rw [hy] at hix y0 y1
      rw [hx] at hcell
      have HY := Lib.hid hy
      have HX := Lib.hid hx
      clear hy hx
      by_cases hx0 : x = 0
      · have ex : ((x : Int) == 0) = true := by rw [hx0]; rfl
        by_cases hy0 : y = 0
        · have ey : (y != 0) = false := by rw [hy0]; rfl
          have hnx : ∀ j, j < k + 1 → S.getD j 0 = 0 → f.nums.getD j 0 = 0 := fun j hj hs => by
            by_cases e : j = k
            · rw [e, HY.out, hy0]
            · exact HALL.out j (by omega) hs
          have HNX := Lib.hid hnx
          clear hnx hx0 hy0
          go_wp2
          go_round
          case rel => exact ⟨k + 1, by omega, by go_num, HNX.out⟩
          case measure => simp [intOf]; omega
        · have ey : (y != 0) = true := by rw [bne_iff_ne]; exact hy0
          have hb : blankB f.nums S = false := blank_at _ _ k hlt (by rw [HS.out]; exact hlt) (by rw [HX.out, hx0]) (by rw [HY.out]; exact hy0)
          have HBF := Lib.hid hb
          clear hx0 hy0 hb
          go_wp2
          go_ret
          exact ⟨ret_bool (HNO.out HBF.out), hB2⟩
      · have ex : ((x : Int) == 0) = false := by rw [beq_eq_false_iff_ne]; omega
        have hnx : ∀ j, j < k + 1 → S.getD j 0 = 0 → f.nums.getD j 0 = 0 := fun j hj hs => by
          by_cases e : j = k
          · rw [e, HX.out] at hs
            exact absurd hs hx0
          · exact HALL.out j (by omega) hs
        have HNX := Lib.hid hnx
        clear hnx hx0
        go_wp2
        go_round
        case rel => exact ⟨k + 1, by omega, by go_num, HNX.out⟩
        case measure => simp [intOf]; omega
    · have hkn : k = 8 := by omega
      have hb : blankB f.nums S = true := blank_all _ _ fun j hj hs => HALL.out j (by rw [hkn]; exact hj) hs
      have hres := HYES.out hb
      have HRES := Lib.hid hres
      have hct := HS2.out.tag
      have htg := HTAG.out w2
      clear hb hres hkn
      cases t with
      | true =>
        clear htg
        go_wp2
        go_ret
        exact ⟨ret_bool HRES.out, hB2⟩
      | false =>
        go_wp2_with (first
          | ((with_reducible refine wpList_load_on 24 _ rfl w.heap.size 8 ?hx4 (byv f.tag) T HT.out _ HF2.out.range Try.underlying24 ?hd4 ?hi4 ?_ ?hw4); (case hx4 => rfl); (case hd4 => rfl); (case hi4 => rw [byv_length, HTL.out]; kernel_rfl); (case hw4 => rfl))
          | ((with_reducible refine wpList_build_on 24 _ rfl _ Z ?hl5 HZB.out ?_ ?hw5); (case hl5 => rfl); (case hw5 => rfl)))
        go_ret
        exact ⟨ret_bool HRES.out, hB2⟩
end Go.Proofs.Ytncedbjbooemjaa

/- Frames as bytes: what is put fits; its length; what it is read as. -/
namespace Go.Proofs.Ytncedbjbooemjaa
set_option linter.unusedVariables false
set_option linter.unusedSimpArgs false
open Go

def pickI : List Int → List Nat → List (Int × Int)
  | n :: ns, s :: S => if 0 < s then (n, (s : Int)) :: pickI ns S else pickI ns S
  | _, _ => []
def rowI (f : Fr) (S : List Nat) (t : Bool) : List (Int × Int) := ((folL S t : Nat), 2) :: pickI f.nums S
theorem pickI_toN : ∀ (ns : List Int) (S : List Nat), toN (pickI ns S) = pick (ns.map Int.toNat) S
  | n :: ns, s :: S => by
    rw [pickI, List.map_cons, pick]
    by_cases h : 0 < s
    · rw [if_pos h, if_pos h, toN, List.map_cons]
      congr 1
      exact pickI_toN ns S
    · rw [if_neg h, if_neg h]
      exact pickI_toN ns S
  | [], _ => by simp [pickI, pick, toN]
  | _ :: _, [] => by simp [pickI, pick, toN]
theorem rowI_toN (f : Fr) (S : List Nat) (t : Bool) : toN (rowI f S t) = rowS f S t := by
  rw [rowI, toN, List.map_cons, rowS]
  congr 1
  exact pickI_toN _ _
theorem pickI_snoc : ∀ (ns : List Int) (S : List Nat) (k : Nat), k < ns.length → k < S.length → pickI (ns.take (k + 1)) (S.take (k + 1)) = pickI (ns.take k) (S.take k) ++ if 0 < S.getD k 0 then [(ns.getD k 0, ((S.getD k 0 : Nat) : Int))] else []
  | n :: ns, s :: S, 0, _, _ => by
    simp only [List.take_succ_cons, List.take_zero, pickI, List.getD_cons_zero]
    by_cases h : 0 < s
    · simp [h, pickI]
    · simp [h, pickI]
  | n :: ns, s :: S, k + 1, h1, h2 => by
    have ih := pickI_snoc ns S k (by simpa using h1) (by simpa using h2)
    simp only [List.getD_cons_succ]
    rw [List.take_succ_cons, List.take_succ_cons, List.take_succ_cons (i := k), List.take_succ_cons (i := k), pickI, pickI, ih]
    by_cases h : 0 < s
    · rw [if_pos h, if_pos h, List.cons_append]
    · rw [if_neg h, if_neg h]
theorem pickI_len (ns : List Int) (S : List Nat) : (pickI ns S).length ≤ S.length := by
  induction ns generalizing S with
  | nil => simp [pickI]
  | cons n ns ih =>
    cases S with
    | nil => simp [pickI]
    | cons s S =>
      rw [pickI]
      have := ih S
      split <;> simp <;> omega
theorem plain_facts {f : Fr} (h : plainB f = true) : kindB f.kind = true ∧ rangeB f = true ∧ blankB f.nums (szK f.kind.toNat) = true ∧ (tagK f.kind.toNat = false → f.tag = noTag) := by
  rw [plainB, Bool.and_eq_true, plainS, Bool.and_eq_true, Bool.and_eq_true] at h
  refine ⟨h.1, h.2.1, h.2.2.1, fun ht => ?_⟩
  have := h.2.2.2
  rw [ht, Bool.false_or, beq_iff_eq] at this
  exact this
/-- all numbers of a plain frame fit -/
theorem plain_fits {f : Fr} (hok : f.ok) (h : plainB f = true) : catB (rowI f (szK f.kind.toNat) (tagK f.kind.toNat)) = true := by
  obtain ⟨h1, h2, h3, h4⟩ := plain_facts h
  unfold rangeB at h2
  rw [decide_eq_true_eq] at h2
  obtain ⟨_, _, ⟨b2, a2⟩, ⟨b3, a3⟩, _, ⟨b5, a5⟩, _, _, _, _⟩ := hok
  rcases f with ⟨kind, user, sess, cn, epoch, count, cmd, arg, tag⟩
  simp only at *
  clear h h3 h4
  rcases kind_cases h1 with rfl | rfl | rfl | rfl | rfl | rfl | rfl
  all_goals
    simp [rowI, pickI, Fr.nums, szK, tagK, folL, catB, fitsB, fitB]
    omega
theorem rowS_sum (f : Fr) (S : List Nat) (t : Bool) (hS : S.length = 8) : (catL (rowS f S t)).length = 2 + S.sum := by
  rw [catL_length, rowS, List.map_cons, List.sum_cons, pick_length _ _ (by rw [natsOf_length, hS]), there_sum]
theorem putF_length {f : Fr} (hT : f.tag.length = 32) : (putF f).length = 2 + folL (szK f.kind.toNat) (tagK f.kind.toNat) := by
  rw [putF, List.length_append, frontF, rowS_sum _ _ _ (szK_length _), folL]
  cases tagK f.kind.toNat <;> simp [hT] <;> omega
theorem putF_ok {f : Fr} (hok : f.ok) : ∀ j, 0 ≤ (putF f).getD j 0 ∧ (putF f).getD j 0 < 256 := by
  rw [putF]
  refine ok_append (catL_ok _) ?_
  split
  · exact hok.bytes
  · simp
theorem putF_small (f : Fr) (hT : f.tag.length = 32) : (putF f).length ≤ 54 := by
  rw [putF_length hT]
  have := folK_small f.kind.toNat
  omega
end Go.Proofs.Ytncedbjbooemjaa

/- The walk over package frame's Put, where a frame is not plain. -/
namespace Go.Proofs.Ytncedbjbooemjaa
set_option linter.unusedVariables false
set_option linter.unusedSimpArgs false
open Go.RowKit

theorem plain_any (f : Fr) (S : List Nat) (t : Bool) (w : World) (hok : f.ok) (hk : 0 ≤ f.kind) (hS : S.length = 8) (hsm : S.sum ≤ 1000) :
    Calls Try.prog 20 #[frV f, shV S t] w fun e w' => e = .returned (.bool (plainS f S t)) ∧ Below w.heap.size w w' := by
  cases h : rangeB f with
  | true => exact plain_high f S t w hok hk hS hsm h
  | false => exact plain_low f S t w hS h
theorem szK_small (k : Nat) : (szK k).sum ≤ 1000 := by
  have := folK_small k
  unfold folL at this
  omega
theorem kind_pos {k : Int} (h : kindB k = true) : 0 ≤ k := by unfold kindB at h; rw [decide_eq_true_eq] at h; exact h.1
theorem two_rows_of {w w1 : World} {o1 : Obj} (h : Below (w.alloc o1).heap.size (w.alloc o1) w1) (o : Obj) : (w1.alloc o).heap[w.heap.size]? = some o1 := by
  have h1 := after_alloc h
  exact (Below.heap_alloc w1 o _ (Array.getElem?_eq_some_iff.1 h1).1).trans h1

set_option maxHeartbeats 1000000 in
theorem put_kind (f : Fr) (w : World) (h : kindB f.kind = false) :
    Calls Try.prog 10 #[frV f] w fun e w' => e = .returned (.tuple #[.slice none 0 0, .bool false]) ∧ Below w.heap.size w w' := by
  have hh := hasF f
  have hsh : shV [0, 0, 0, 0, 0, 0, 0, 0] false = .agg #[.int .i64 0, .int .i64 0, .int .i64 0, .int .i64 0, .int .i64 0, .int .i64 0, .int .i64 0, .int .i64 0, .bool false] := rfl
  have hc : ∀ w, Calls Try.prog 19 #[.int .i64 f.kind] w fun e w' => e = .returned (.tuple #[.agg #[.int .i64 0, .int .i64 0, .int .i64 0, .int .i64 0, .int .i64 0, .int .i64 0, .int .i64 0, .int .i64 0, .bool false], .bool false]) ∧ Below w.heap.size w w' := fun w => by
    rw [← hsh]; exact shape_no f.kind w h
  unfold frV
  obtain ⟨C, hC⟩ : ∃ C, C = frA f := ⟨_, rfl⟩
  rw [← hC] at hh ⊢
  obtain ⟨d0, _, _, _, _, _, _, _⟩ := hh
  have HCC := Lib.hid hc
  clear hc hsh hC h
  go_enter Try.func10, Try.ntmps10
  go_wp2_with (go_at_call 19; (with_reducible refine (HCC.out _).mono ?_); rintro e w1 ⟨rfl, hb1⟩)
  go_ret2
  exact ⟨rfl, (after_one hb1).1.alloc (Nat.le_trans (Nat.le_succ _) (after_one hb1).2.1) _⟩

set_option maxHeartbeats 1000000 in
theorem put_plain_no (f : Fr) (w : World) (hok : f.ok) (h : kindB f.kind = true) (hp : plainB f = false) :
    Calls Try.prog 10 #[frV f] w fun e w' => e = .returned (.tuple #[.slice none 0 0, .bool false]) ∧ Below w.heap.size w w' := by
  have hps : plainS f (szK f.kind.toNat) (tagK f.kind.toNat) = false := by rw [plainB, h, Bool.true_and] at hp; exact hp
  have hh := hasF f
  have hCs : (frA f).size = 40 := frA_size hok.len
  have hS := szK_length f.kind.toNat
  have hsm := szK_small f.kind.toNat
  have hsc := fun w => shape_yes f.kind w h
  obtain ⟨S, hSS⟩ : ∃ S, szK f.kind.toNat = S := ⟨_, rfl⟩
  obtain ⟨t, ht⟩ : ∃ t, tagK f.kind.toNat = t := ⟨_, rfl⟩
  rw [hSS] at hps hS hsm hsc
  rw [ht] at hps hsc
  have hpc := fun w => plain_any f S t w hok (kind_pos h) hS hsm
  rw [hps] at hpc
  obtain ⟨s0, s1, s2, s3, s4, s5, s6, s7, hl⟩ := list8 S hS
  rw [shV_lit hl] at hsc hpc
  unfold frV at hpc ⊢
  obtain ⟨C, hC⟩ : ∃ C, C = frA f := ⟨_, rfl⟩
  rw [← hC] at hh hCs hpc ⊢
  obtain ⟨d0, _, _, _, _, _, _, _⟩ := hh
  have HSC := Lib.hid hsc
  have HPC := Lib.hid hpc
  have HCS := Lib.hid hCs
  clear hsc hpc hCs hC h hl hS hsm hSS ht hps hp hok
  go_enter Try.func10, Try.ntmps10
  go_wp2_with (first
    | (go_at_call 19; (with_reducible refine (HSC.out _).mono ?_); rintro e w1 ⟨rfl, hb1⟩)
    | ((with_reducible refine wpList_load_blk 26 _ rfl w.heap.size ?hx2 26 C (0, 0) _ (two_rows_of hb1 _) Try.underlying26 ?hd2 (info_frame HCS.out) ?_ ?hw2); (case hx2 => rfl); (case hd2 => rfl); (case hw2 => rfl))
    | (go_at_call 20; (with_reducible refine (HPC.out _).mono ?_); rintro e w2 ⟨rfl, hb2⟩
       have hb3 := (after_one hb2).1))
  go_ret2
  exact ⟨rfl, (after_one hb1).1.trans (hb3.mono (Nat.le_trans (Nat.le_succ _) (after_one hb1).2.1))⟩
end Go.Proofs.Ytncedbjbooemjaa

/- The laws' arguments, opened: a slice of numbers with sizes. -/
namespace Go.Proofs.Ytncedbjbooemjaa
set_option linter.unusedVariables false
set_option linter.unusedSimpArgs false
open Go.ChangeShapes Go.WideShapes Go.ChangeAt Go.RowKit

theorem cellsNum : Try.prog.cellsOf 53 = 2 := by kernel_rfl
theorem cellsU64 : Try.prog.cellsOf 22 = 1 := by kernel_rfl
theorem open_nums {H : Type} {enc : TypeId × Value → H} {W : World} {base : Nat} {spare : Nat → Bool} {held : Bool} {fuel : Nat} {cs : List Value} {x : DataW H × List MemPlace} (h : DataW.trod enc Try.prog W base spare held fuel 54 cs = some x) :
    ∃ (A : Option Addr) (n c : Nat) (l : List (Int × Int)), cs = [.slice A n c] ∧ Nms W A n c l := by
  rcases Go.Deep.open_slice_pairs Try.underlying54 Try.underlying53 cellsNum rfl rfl cellsU64 cellsInt h with ⟨hcs, _⟩ | ⟨a, len, cap, m, n, V0, V1, D0, D1, P0, P1, hcs, _, hl, hm, hz, _, hcell⟩
  · exact ⟨none, 0, 0, [], hcs, Rws.nil 2 W, fun p hp => by cases hp⟩
  · have hlm : len ≤ m := by rw [hz]; split <;> omega
    have each : ∀ i, i < len → ∃ p : Int × Int, W.cell? (a.add (i * 2)) = some (.int .u64 p.1) ∧ W.cell? (a.add (i * 2 + 1)) = some (.int .i64 p.2) ∧ (0 ≤ p.1 ∧ p.1 < 18446744073709551616 ∧ -9223372036854775808 ≤ p.2 ∧ p.2 ≤ 9223372036854775807) := by
      intro i hi
      obtain ⟨h0, h1, t0, t1⟩ := hcell i (by omega)
      obtain ⟨x0, e0, _, w0⟩ := DataW.trod_int Try.underlying22 t0
      obtain ⟨x1, e1, _, w1⟩ := DataW.trod_int Try.underlying3 t1
      simp only [List.cons.injEq, and_true] at e0 e1
      have b0 := bounds_u64 w0
      have b1 := bounds_i64 w1
      exact ⟨(x0, x1), by rw [h0, e0], by rw [h1, e1], b0.1, by omega, b1.1, b1.2⟩
    obtain ⟨q, hq⟩ := Go.Deep.choose_lt each
    refine ⟨some a, len, cap, (List.range len).map q, hcs, ⟨by simp, ?_, ?_, hl, hm, (fun e => by cases e), ?_⟩, ?_⟩
    · intro r hr
      obtain ⟨p, _, rfl⟩ := List.mem_map.1 hr
      rfl
    · intro r hr u hu
      obtain ⟨p, _, rfl⟩ := List.mem_map.1 hr
      simp only [numR, List.mem_cons, List.not_mem_nil, or_false] at hu
      rcases hu with rfl | rfl <;> rfl
    · intro hn
      obtain ⟨ab, ao, am⟩ := a
      have h0 := (hq 0 hn).1
      have ham : am = none := by simpa [Addr.add] using World.cell?_spot h0
      subst ham
      refine ⟨ab, ao, rfl, fun j hj i hi => ?_⟩
      obtain ⟨c0, c1, _⟩ := hq j hj
      rw [add_addr] at c0 c1
      simp only [List.getD_eq_getElem?_getD, List.getElem?_map, List.getElem?_range hj, Option.map_some, Option.getD_some, numR]
      match i, hi with
      | 0, _ => simpa using c0
      | 1, _ => rw [Nat.add_assoc]; simpa using c1
    · intro p hp
      obtain ⟨i, hi, rfl⟩ := List.mem_map.1 hp
      exact (hq i (List.mem_range.1 hi)).2.2
end Go.Proofs.Ytncedbjbooemjaa

/- The walk over package frame's Put, where a frame is plain: its bytes. -/
namespace Go.Proofs.Ytncedbjbooemjaa
set_option linter.unusedVariables false
set_option linter.unusedSimpArgs false
open Go.RowKit

theorem two_rows_in {w1 : World} {g : Nat} {o1 : Obj} (h1 : w1.heap[g]? = some o1) (o : Obj) : (w1.alloc o).heap[g]? = some o1 := (Below.heap_alloc w1 o _ (Array.getElem?_eq_some_iff.1 h1).1).trans h1
theorem one_ownr (e : TypeId) (k : Nat) (w : World) (r : List Value) (hr : r.length = k) (h1 : ∀ u ∈ r, u.oneCell' = true) : OwnR e k (w.alloc (.cells r.toArray e)) w.heap.size (.slice (some ⟨w.heap.size, 0, none⟩) 1 1) [r] := by
  refine ⟨⟨by simp [hr], .inr ⟨w.heap.size, 1, r.toArray, rfl, Nat.le_refl _, heap_alloc_new w _, Nat.le_refl _, by unfold maxLen; omega, by simp [hr], ?_⟩⟩, fun x hx => ?_, fun x hx => ?_⟩
  · simp only [List.flatten_cons, List.flatten_nil, List.append_nil, List.length_singleton, Nat.one_mul]
    exact List.take_of_length_le (by omega)
  · rw [List.mem_singleton.1 hx]; exact hr
  · rw [List.mem_singleton.1 hx]; exact h1
theorem numR_one (p : Int × Int) : ∀ u ∈ numR p, u.oneCell' = true := by
  intro u hu
  simp only [numR, List.mem_cons, List.not_mem_nil, or_false] at hu
  rcases hu with rfl | rfl <;> rfl
theorem RowF.bts {w : World} {g : Nat} {f : Fr} (h : RowF w g f) (hok : f.ok) : Bts w (some ⟨g, 8, none⟩) 32 32 f.tag := by
  refine ⟨hok.len, Nat.le_refl _, by unfold maxLen; omega, hok.bytes, (fun e => by cases e), fun _ => ⟨g, 8, rfl, fun j hj => ?_⟩⟩
  have := h.range j (.int .u8 (f.tag.getD j 0)) (byv_get _ _ (by rw [hok.len]; exact hj))
  exact this
theorem pick_nums {f : Fr} (hok : f.ok) (hp : f.pos) (S : List Nat) (t : Bool) (hsm : S.sum ≤ 1000) : ∀ p ∈ rowI f S t, 0 ≤ p.1 ∧ p.1 < 18446744073709551616 ∧ -9223372036854775808 ≤ p.2 ∧ p.2 ≤ 9223372036854775807 := by
  have key : ∀ (ns : List Int) (S : List Nat), (∀ n ∈ ns, 0 ≤ n ∧ n < 18446744073709551616) → S.sum ≤ 1000 → ∀ p ∈ pickI ns S, 0 ≤ p.1 ∧ p.1 < 18446744073709551616 ∧ -9223372036854775808 ≤ p.2 ∧ p.2 ≤ 9223372036854775807 := by
    intro ns
    induction ns with
    | nil => intro S _ _ p hp; simp [pickI] at hp
    | cons n ns ih =>
      intro S hn hs p hp
      cases S with
      | nil => simp [pickI] at hp
      | cons s S =>
        rw [List.sum_cons] at hs
        rw [pickI] at hp
        have h1 := ih S (fun x hx => hn x (by simp [hx])) (by omega)
        split at hp
        · rcases List.mem_cons.1 hp with rfl | hp
          · have := hn n (by simp)
            exact ⟨this.1, this.2, by simp only; omega, by simp only; omega⟩
          · exact h1 p hp
        · exact h1 p hp
  intro p hp'
  rcases List.mem_cons.1 hp' with rfl | h
  · have h1 : folL S t ≤ 1032 := by unfold folL; split <;> omega
    exact ⟨by simp only; omega, by simp only; omega, by simp only; omega, by simp only; omega⟩
  · refine key f.nums S (fun n hn => ?_) hsm p h
    obtain ⟨i, hi, rfl⟩ := List.getElem_of_mem hn
    have := nums_range hok hp i
    simpa [List.getD_eq_getElem?_getD, hi] using this
/-- what Put hands back -/
def PutPost (f : Fr) (w : World) (e : Ending) (w' : World) : Prop := ∃ v, e = .returned (.tuple #[v, .bool true]) ∧ Own w' w.heap.size v (putF f) ∧ Below w.heap.size w w'

set_option maxRecDepth 100000 in
set_option maxHeartbeats 2000000 in
theorem put_plain (f : Fr) (w : World) (hok : f.ok) (hp : plainB f = true) :
    Calls Try.prog 10 #[frV f] w (PutPost f w) := by
  obtain ⟨h, hrg, hbl, _⟩ := plain_facts hp
  have hpos := pos_of (kind_pos h) hrg
  have hps : plainS f (szK f.kind.toNat) (tagK f.kind.toNat) = true := by rw [plainB, h, Bool.true_and] at hp; exact hp
  have hcat := plain_fits hok hp
  have hh := hasF f
  have hCs : (frA f).size = 40 := frA_size hok.len
  have hS := szK_length f.kind.toNat
  have hsm := szK_small f.kind.toNat
  have hTb := folK_small f.kind.toNat
  have hsc := fun w => shape_yes f.kind w h
  have hput : putF f = catL (rowS f (szK f.kind.toNat) (tagK f.kind.toNat)) ++ if tagK f.kind.toNat then f.tag else [] := rfl
  obtain ⟨S, hSS⟩ : ∃ S, szK f.kind.toNat = S := ⟨_, rfl⟩
  obtain ⟨t, ht⟩ : ∃ t, tagK f.kind.toNat = t := ⟨_, rfl⟩
  rw [hSS] at hps hS hsm hsc hput hcat hTb
  rw [ht] at hps hsc hput hcat hTb
  have hpc := fun w => plain_any f S t w hok (kind_pos h) hS hsm
  rw [hps] at hpc
  have hfc := fun w => fol_any S t w hS hsm
  have hnc := fun w => nums_any f w hok hpos
  have hnm := pick_nums hok hpos S t hsm
  obtain ⟨s0, s1, s2, s3, s4, s5, s6, s7, hl⟩ := list8 S hS
  have hcs : (shC S t).toArray = #[.int .i64 s0, .int .i64 s1, .int .i64 s2, .int .i64 s3, .int .i64 s4, .int .i64 s5, .int .i64 s6, .int .i64 s7, .bool t] := by rw [hl]; rfl
  rw [shV_lit hl] at hsc hpc hfc
  obtain ⟨M, hM⟩ : ∃ M, (numC f).toArray = M := ⟨_, rfl⟩
  have hnum : numV f = .agg M := by rw [← hM]; rfl
  rw [hnum] at hnc
  unfold frV at hpc hnc ⊢
  obtain ⟨C, hC⟩ : ∃ C, C = frA f := ⟨_, rfl⟩
  rw [← hC] at hh hCs hpc hnc ⊢
  obtain ⟨d0, _, _, _, _, _, _, _⟩ := hh
  obtain ⟨T, hT⟩ : ∃ T, folL S t = T := ⟨_, rfl⟩
  rw [hT] at hfc hTb
  have hT' : (T : Int) ≤ 52 := by omega
  have hnr := nums_range hok hpos
  have HSC := Lib.hid hsc
  have HPC := Lib.hid hpc
  have HFC := Lib.hid hfc
  have HNC := Lib.hid hnc
  have HCS := Lib.hid hCs
  have HC := Lib.hid hC
  have HM := Lib.hid hM
  have HT := Lib.hid hT
  have HS := Lib.hid hS
  have HSM := Lib.hid hsm
  have HPUT := Lib.hid hput
  have HCAT := Lib.hid hcat
  have HNR := Lib.hid hnr
  have HNM := Lib.hid hnm
  have HOK := Lib.hid hok
  have HSHC := Lib.hid hcs
  clear hsc hpc hfc hnc hCs hC h hl hS hsm hSS ht hps hp hok hM hT hTb hput hcat hnr hnm hcs hnum hbl hrg hpos
  go_enter Try.func10, Try.ntmps10
  go_wp2_with (first
    | (go_at_call 19; (with_reducible refine (HSC.out _).mono ?_); rintro e w1 ⟨rfl, hb1⟩
       have hF1 : RowF w1 w.heap.size f := rowF_of (by rw [← HC.out]; exact after_alloc hb1)
       have hB1 := (after_one hb1).1)
    | ((with_reducible refine wpList_load_blk 26 _ rfl w.heap.size ?hx2 26 C (0, 0) _ (two_rows_of hb1 _) Try.underlying26 ?hd2 (info_frame HCS.out) ?_ ?hw2); (case hx2 => rfl); (case hd2 => rfl); (case hw2 => rfl))
    | (go_at_call 20; (with_reducible refine (HPC.out _).mono ?_); rintro e w2 ⟨rfl, hb2⟩
       have hS2 : RowS w2 w1.heap.size S t := rowS_of HS.out (by rw [HSHC.out]; exact after_alloc hb2)
       have hF2 : RowF w2 w.heap.size f := hF1.below (after_one hb2).1
       have hB2 : Below w.heap.size w w2 := hB1.trans ((after_one hb2).1.mono hB1.size)
       have hZ2 := after_alloc hb2
       clear hb2)
    | ((with_reducible refine wpList_load_blk 47 _ rfl w1.heap.size ?hx3 47 _ (0, 0) _ hZ2 Try.underlying47 ?hd3 ?hi3 ?_ ?hw3); (case hx3 => rfl); (case hd3 => rfl); (case hi3 => kernel_rfl); (case hw3 => rfl))
    | (go_at_call 21; (with_reducible refine (HFC.out _).mono ?_); rintro e w3 ⟨rfl, hb3⟩
       have hS3 := hS2.below HS.out hb3
       have hF3 := hF2.below hb3
       have hB3 : Below w.heap.size w w3 := hB2.trans (hb3.mono hB2.size)
       have hC3 : w3.heap[w.heap.size]? = some (.cells C 26 (0, 0)) := by rw [HC.out]; exact hF3.blk
       clear hb3 hZ2)
    | ((with_reducible refine wpList_load_blk 26 _ rfl w.heap.size ?hx4 26 C (0, 0) _ (two_rows_in hC3 _) Try.underlying26 ?hd4 (info_frame HCS.out) ?_ ?hw4); (case hx4 => rfl); (case hd4 => rfl); (case hw4 => rfl))
    | (go_at_call 22
       (with_reducible refine (HNC.out _).mono ?_); rintro e w4 ⟨rfl, hb4⟩
       have hb5 : Below w3.heap.size w3 w4 := (one_alloc _ _).trans (hb4.mono (by simp))
       have hown4 : OwnR 53 2 w4 w3.heap.size (.slice (some ⟨w3.heap.size, 0, none⟩) 1 1) [numR ((T : Int), 2)] := (one_ownr 53 2 w3 (numR ((T : Int), 2)) rfl (numR_one _)).below hb4
       clear hb4))
  have HS3 := Lib.hid hS3
  have HF3 := Lib.hid hF3
  have HB3 := Lib.hid hB3
  have hlt3 : w1.heap.size < w3.heap.size := hS3.lt
  clear hS3 hF3 hB3 hC3 hS2 hF2 hB2 hF1 hB1 hb1
  go_loopw [6, 7, 8, 31] (fun v u y i wr => ∃ k : Nat, k ≤ 8 ∧ i = .int .i64 k ∧ OwnR 53 2 wr w3.heap.size v ((((T : Int), 2) :: pickI (f.nums.take k) (S.take k)).map numR) ∧ Below w3.heap.size w3 wr) (fun _ _ _ i _ => 8 - (intOf i).toNat)
  case atStart => exact ⟨0, by omega, rfl, hown4, hb5⟩
  case round =>
    clear hown4 hb5
    obtain ⟨k, hk8, rfl, hown, hB⟩ := hrel
    have HO := Lib.hid hown
    clear hown
    by_cases hlt : k < 8
    · have hix := num_index HM.out k hlt
      have hcell := (hB.cell (p := ⟨w1.heap.size, k, none⟩) hlt3).trans (HS3.out.at_ k hlt)
      obtain ⟨y0, y1⟩ := HNR.out k
      have hsn := pickI_snoc f.nums S k hlt (by rw [HS.out]; exact hlt)
      have hlen : (pickI (f.nums.take k) (S.take k)).length ≤ 8 := by
        have h1 := pickI_len (f.nums.take k) (S.take k)
        have h2 := List.length_take_le k S
        omega
      obtain ⟨y, hy⟩ : ∃ y, f.nums.getD k 0 = y := ⟨_, rfl⟩
      obtain ⟨x, hx⟩ : ∃ x, S.getD k 0 = x := ⟨_, rfl⟩
      rw [hy] at hix y0 y1 hsn
      rw [hx] at hcell hsn
      by_cases hx0 : 0 < x
      · have hx0' : (0 : Int) < x := by omega
        rw [if_pos hx0] at hsn
        have hnx : ((((T : Int), 2) :: pickI (f.nums.take (k + 1)) (S.take (k + 1))).map numR) = ((((T : Int), 2) :: pickI (f.nums.take k) (S.take k)).map numR) ++ [numR (y, (x : Int))] := by
          rw [hsn]; simp
        obtain ⟨L, hL⟩ : ∃ L, L = ((((T : Int), 2) :: pickI (f.nums.take k) (S.take k)).map numR) := ⟨_, rfl⟩
        have hLl : L.length ≤ 9 := by rw [hL]; simp; exact hlen
        rw [← hL] at hnx
        have hown := HO.out
        rw [← hL] at hown
        have HNX := Lib.hid hnx
        have HLL := Lib.hid hLl
        clear hx hy hsn hnx hL hlen hx0 HO hLl
        go_wp2_with (at_builtin
                     refine wpList_append_r rfl 54 53 2 16 _ _ rfl Try.underlying54 (by kernel_rfl) (by omega) w3.heap.size u6 L rfl (hown.more _) _ 1 1 [numR (y, (x : Int))] rfl (one_rws 2 53 _ _ rfl (numR_one (y, (x : Int)))) (by have := HLL.out; omega) (by have := HLL.out; omega) (Nat.le_trans hB.size (size_le_alloc _ _)) ?_
                     intro v5 w5 hown5 hg5
                     have hB5 : Below w3.heap.size w3 w5 := (hB.alloc hB.size _).grown hg5 (Nat.le_trans hB.size (size_le_alloc _ _)) (fun k hk => (hown.size k hk).1)
                     rw [← HNX.out] at hown5
                     clear hg5)
        go_roundw
        case rel => exact ⟨k + 1, by omega, by go_num, hown5, hB5⟩
        case measure => simp [intOf]; omega
      · have hx0' : (x : Int) ≤ 0 := by omega
        rw [if_neg hx0, List.append_nil] at hsn
        have hown := HO.out
        rw [← hsn] at hown
        have HO2 := Lib.hid hown
        clear hx hy hsn hlen hown hx0 HO
        go_wp2
        go_roundw
        case rel => exact ⟨k + 1, by omega, by go_num, HO2.out, hB⟩
        case measure => simp [intOf]; omega
    · have hkn : k = 8 := by omega
      have htk : f.nums.take k = f.nums := by rw [hkn]; rfl
      have htS : S.take k = S := by rw [hkn, ← HS.out, List.take_length]
      have hown := HO.out
      rw [htk, htS, ← HT.out] at hown
      obtain ⟨A, n, cap, rfl, hrw⟩ := hown.rws
      have hnms : Nms wr A n cap (rowI f S t) := ⟨hrw, HNM.out⟩
      have hca := (cat_any A n cap (rowI f S t) wr hnms).mono (R' := fun e w' => ∃ v, e = .returned (.tuple #[v, .bool true]) ∧ Own w' wr.heap.size v (catL (rowS f S t)) ∧ Below wr.heap.size wr w') fun e w' h => by
        obtain ⟨v, he, ho⟩ := h.1 HCAT.out
        rw [rowI_toN] at ho
        exact ⟨v, he, ho, h.2.2⟩
      have HCA := Lib.hid hca
      have hB3 := HB3.out
      have hB9 : Below w.heap.size w wr := hB3.trans (hB.mono hB3.size)
      have hFr := HF3.out.below hB
      have hctag := (hB.cell (p := ⟨w1.heap.size, 8, none⟩) hlt3).trans HS3.out.tag
      have hLl : (catL (rowS f S t)).length ≤ 1002 := by rw [rowS_sum _ _ _ HS.out]; have := HSM.out; omega
      obtain ⟨L, hL⟩ : ∃ L, L = catL (rowS f S t) := ⟨_, rfl⟩
      rw [← hL] at hLl
      have HL := Lib.hid hL
      have HLL := Lib.hid hLl
      have HFR := Lib.hid hFr
      clear htk htS hkn hown hrw hnms hca hB HO hL hLl hFr
      cases t with
      | false =>
        have hput : putF f = L := by rw [HPUT.out, HL.out]; simp
        have HP := Lib.hid hput
        clear hput
        go_wp2_with (go_at_call 23; (with_reducible refine HCA.out.mono ?_); rintro e w6 ⟨v6, rfl, hown6, hb6⟩
                     have hc6 := (hb6.cell (p := ⟨w1.heap.size, 8, none⟩) (block_lt_of_cell hctag)).trans hctag)
        go_ret2
        exact ⟨v6, rfl, by rw [HP.out, HL.out]; exact hown6.mono hB9.size, hB9.trans (hb6.mono hB9.size)⟩
      | true =>
        have hput : putF f = L ++ f.tag := by rw [HPUT.out, HL.out]; simp
        have HP := Lib.hid hput
        clear hput
        go_wp2_with (first
          | (go_at_call 23; (with_reducible refine HCA.out.mono ?_); rintro e w6 ⟨v6, rfl, hown6, hb6⟩
             have hc6 := (hb6.cell (p := ⟨w1.heap.size, 8, none⟩) (block_lt_of_cell hctag)).trans hctag
             have hbt6 := (HFR.out.below hb6).bts HOK.out
             rw [← HL.out] at hown6
             have hB6 := hB9.trans (hb6.mono hB9.size)
             clear hb6)
          | (at_builtin
             refine wpList_append_b rfl _ _ rfl w.heap.size v6 L rfl (hown6.mono hB9.size) _ 32 32 f.tag rfl hbt6 (by have := HLL.out; omega) hB6.size ?_
             intro v7 w7 hown7 hg7
             have hB7 : Below w.heap.size w w7 := hB6.grown hg7 hB6.size (fun k hk => (by have := (hown6.size k hk).1; have := hB9.size; omega))
             rw [← HP.out] at hown7
             clear hg7))
        go_ret2
        exact ⟨v7, rfl, hown7, hB7⟩
theorem put_plain_b (f : Fr) (w : World) (hok : f.ok) (b : Bool) (hp : plainB f = b) :
    Calls Try.prog 10 #[frV f] w fun e w' => GivesB (if b then putF f else []) b w e w' := by
  cases b with
  | true =>
    refine (put_plain f w hok hp).mono ?_
    rintro e w' ⟨v, rfl, ho, hb⟩
    exact ho.gives (putF_ok hok) hb
  | false =>
    have h0 : Calls Try.prog 10 #[frV f] w fun e w' => e = .returned (.tuple #[.slice none 0 0, .bool false]) ∧ Below w.heap.size w w' := by
      cases hk : kindB f.kind with
      | true => exact put_plain_no f w hok hk hp
      | false => exact put_kind f w hk
    exact h0.mono fun e w' ⟨he, hb⟩ => ⟨none, 0, 0, he, Bts.nil w', hb⟩
end Go.Proofs.Ytncedbjbooemjaa
