/- Appends, and loads of arrays of bytes, inside regions that draw their order. -/
import Derived.Test.YtomfnnhdihbpfaaDoorMacTag
import Derived.Deep.MidRow
import Derived.Deep.RegionHeld3
import Derived.Test.YtomfnnhdihbpfaaDoorShaEq
namespace Go.Proofs.YtomfnnhdihbpfaaDoor
open Go.RowKit

/-- append as one step of a region that draws its order: v the call's own, s whatever; guarded or not -/
theorem step_append_o {ops : Array Oper} {o : Oper} {a : Act} {w : World} {K : Act → World → Prop} {Q : Exit → Act → World → Prop} {E : Prop} (s x : Operand)
    (ho : o.op = .call { callee := .builtin .append, args := #[s, x], argTypes := #[24, 24] })
    (base : Nat) (v : Value) (l : List Int) (hs : a.eval s = v) (hown : Own w base v l) (A : Option Addr) (m c : Nat) (l2 : List Int) (hx : a.eval x = .slice A m c) (hr : Bts w A m c l2)
    (hsmall : l.length + m ≤ 140737488355328) (hbase : base ≤ w.heap.size) (hw : Region.wanted o (yielded ops a.tmps) = true)
    (h : ∀ v' w', Own w' base v' (l ++ l2) → w.grownBy w' v.ownBlock → K (a.put o.dst v') w') : if Region.wanted o (yielded ops a.tmps) = true then Oper.wp Tryd.prog o a w K Q else E := by
  rw [if_pos hw]
  obtain ⟨i, hi, hz, h1, h2⟩ := info_parts info_u8
  have hl2 : (byv l2).length = m * 1 := by rw [byv_length, hr.len, Nat.mul_one]
  rcases A with _ | ad
  · obtain rfl := hr.bare rfl
    have hm : m = 0 := by have := hr.le; omega
    subst hm
    obtain rfl : l2 = [] := List.eq_nil_of_length_eq_zero hr.len
    have hrun := run_append_owned_none (P := Tryd.prog) (w := w) base 24 o.type 5 i 1 Tryd.underlying24 hi v l.length (byv l) hown
    unfold Oper.wp
    simp [execOp, ho, resolve, invoke, builtin, hs, hx, hrun, Result.andThen]
    exact h v w (by simpa using hown) (World.grownBy.refl w _)
  · refine wp_append_own (P := Tryd.prog) w s x 24 ho base 5 i (.int .u8 0) 1 1 Tryd.underlying24 hi hz h1 h2 rfl (by omega) v l.length (byv l) hs hown ad m c (byv l2) hx hl2 ?_ (byv_one l2) (by unfold maxLen; omega) (by omega) hbase ?_
    · intro j u hu
      have hj : j < l2.length := by
        have := (List.getElem?_eq_some_iff.1 hu).1
        rwa [byv_length] at this
      rw [byv_get l2 j hj] at hu
      obtain ⟨b, off, hA, hc⟩ := hr.at_ (by have := hr.len; omega)
      injection hA with hA
      subst hA
      have hadd : (⟨b, off, none⟩ : Addr).add j = ⟨b, off + j, none⟩ := by
        unfold Addr.add
        split
        · rename_i h0; subst h0; rfl
        · rfl
      rw [hadd, hc j (by have := hr.len; omega), hu]
    · intro v' w' hown' hg _
      refine h v' w' ?_ hg
      unfold Own
      rw [byv_append, List.length_append, hr.len]
      exact hown'
theorem RowB.range {w : World} {g : Nat} {t : TypeId} {l : List Int} (h : RowB w g t l) : w.rangeAt g 0 (byv l) := fun j v hv => by
  have hj : j < l.length := by
    have := (List.getElem?_eq_some_iff.1 hv).1
    rwa [byv_length] at this
  rw [Nat.zero_add, h.cell j hj, ← byv_get l j hj, hv]
theorem agg32 {l : List Int} (hl : l.length = 32) : (#[.int .u8 (l.getD 0 0), .int .u8 (l.getD 1 0), .int .u8 (l.getD 2 0), .int .u8 (l.getD 3 0), .int .u8 (l.getD 4 0), .int .u8 (l.getD 5 0), .int .u8 (l.getD 6 0), .int .u8 (l.getD 7 0), .int .u8 (l.getD 8 0), .int .u8 (l.getD 9 0), .int .u8 (l.getD 10 0), .int .u8 (l.getD 11 0), .int .u8 (l.getD 12 0), .int .u8 (l.getD 13 0), .int .u8 (l.getD 14 0), .int .u8 (l.getD 15 0), .int .u8 (l.getD 16 0), .int .u8 (l.getD 17 0), .int .u8 (l.getD 18 0), .int .u8 (l.getD 19 0), .int .u8 (l.getD 20 0), .int .u8 (l.getD 21 0), .int .u8 (l.getD 22 0), .int .u8 (l.getD 23 0), .int .u8 (l.getD 24 0), .int .u8 (l.getD 25 0), .int .u8 (l.getD 26 0), .int .u8 (l.getD 27 0), .int .u8 (l.getD 28 0), .int .u8 (l.getD 29 0), .int .u8 (l.getD 30 0), .int .u8 (l.getD 31 0)] : Array Value) = idv l := by
  match l, hl with
  | [x0, x1, x2, x3, x4, x5, x6, x7, x8, x9, x10, x11, x12, x13, x14, x15, x16, x17, x18, x19, x20, x21, x22, x23, x24, x25, x26, x27, x28, x29, x30, x31], _ => rfl
theorem RowB.cells32 {w : World} {g : Nat} {t : TypeId} {l : List Int} (h : RowB w g t l) (hl : l.length = 32) : w.cell? ⟨g, 0, none⟩ = some (.int .u8 (l.getD 0 0)) ∧ w.cell? ⟨g, 1, none⟩ = some (.int .u8 (l.getD 1 0)) ∧ w.cell? ⟨g, 2, none⟩ = some (.int .u8 (l.getD 2 0)) ∧ w.cell? ⟨g, 3, none⟩ = some (.int .u8 (l.getD 3 0)) ∧ w.cell? ⟨g, 4, none⟩ = some (.int .u8 (l.getD 4 0)) ∧ w.cell? ⟨g, 5, none⟩ = some (.int .u8 (l.getD 5 0)) ∧ w.cell? ⟨g, 6, none⟩ = some (.int .u8 (l.getD 6 0)) ∧ w.cell? ⟨g, 7, none⟩ = some (.int .u8 (l.getD 7 0)) ∧ w.cell? ⟨g, 8, none⟩ = some (.int .u8 (l.getD 8 0)) ∧ w.cell? ⟨g, 9, none⟩ = some (.int .u8 (l.getD 9 0)) ∧ w.cell? ⟨g, 10, none⟩ = some (.int .u8 (l.getD 10 0)) ∧ w.cell? ⟨g, 11, none⟩ = some (.int .u8 (l.getD 11 0)) ∧ w.cell? ⟨g, 12, none⟩ = some (.int .u8 (l.getD 12 0)) ∧ w.cell? ⟨g, 13, none⟩ = some (.int .u8 (l.getD 13 0)) ∧ w.cell? ⟨g, 14, none⟩ = some (.int .u8 (l.getD 14 0)) ∧ w.cell? ⟨g, 15, none⟩ = some (.int .u8 (l.getD 15 0)) ∧ w.cell? ⟨g, 16, none⟩ = some (.int .u8 (l.getD 16 0)) ∧ w.cell? ⟨g, 17, none⟩ = some (.int .u8 (l.getD 17 0)) ∧ w.cell? ⟨g, 18, none⟩ = some (.int .u8 (l.getD 18 0)) ∧ w.cell? ⟨g, 19, none⟩ = some (.int .u8 (l.getD 19 0)) ∧ w.cell? ⟨g, 20, none⟩ = some (.int .u8 (l.getD 20 0)) ∧ w.cell? ⟨g, 21, none⟩ = some (.int .u8 (l.getD 21 0)) ∧ w.cell? ⟨g, 22, none⟩ = some (.int .u8 (l.getD 22 0)) ∧ w.cell? ⟨g, 23, none⟩ = some (.int .u8 (l.getD 23 0)) ∧ w.cell? ⟨g, 24, none⟩ = some (.int .u8 (l.getD 24 0)) ∧ w.cell? ⟨g, 25, none⟩ = some (.int .u8 (l.getD 25 0)) ∧ w.cell? ⟨g, 26, none⟩ = some (.int .u8 (l.getD 26 0)) ∧ w.cell? ⟨g, 27, none⟩ = some (.int .u8 (l.getD 27 0)) ∧ w.cell? ⟨g, 28, none⟩ = some (.int .u8 (l.getD 28 0)) ∧ w.cell? ⟨g, 29, none⟩ = some (.int .u8 (l.getD 29 0)) ∧ w.cell? ⟨g, 30, none⟩ = some (.int .u8 (l.getD 30 0)) ∧ w.cell? ⟨g, 31, none⟩ = some (.int .u8 (l.getD 31 0)) :=
  ⟨h.cell 0 (by omega), h.cell 1 (by omega), h.cell 2 (by omega), h.cell 3 (by omega), h.cell 4 (by omega), h.cell 5 (by omega), h.cell 6 (by omega), h.cell 7 (by omega), h.cell 8 (by omega), h.cell 9 (by omega), h.cell 10 (by omega), h.cell 11 (by omega), h.cell 12 (by omega), h.cell 13 (by omega), h.cell 14 (by omega), h.cell 15 (by omega), h.cell 16 (by omega), h.cell 17 (by omega), h.cell 18 (by omega), h.cell 19 (by omega), h.cell 20 (by omega), h.cell 21 (by omega), h.cell 22 (by omega), h.cell 23 (by omega), h.cell 24 (by omega), h.cell 25 (by omega), h.cell 26 (by omega), h.cell 27 (by omega), h.cell 28 (by omega), h.cell 29 (by omega), h.cell 30 (by omega), h.cell 31 (by omega)⟩
theorem eq32l (x y : List Int) (hx : x.length = 32) (hy : y.length = 32) (w : World) :
    (Op.equalIn 10000 33 (.agg #[.int .u8 (x.getD 0 0), .int .u8 (x.getD 1 0), .int .u8 (x.getD 2 0), .int .u8 (x.getD 3 0), .int .u8 (x.getD 4 0), .int .u8 (x.getD 5 0), .int .u8 (x.getD 6 0), .int .u8 (x.getD 7 0), .int .u8 (x.getD 8 0), .int .u8 (x.getD 9 0), .int .u8 (x.getD 10 0), .int .u8 (x.getD 11 0), .int .u8 (x.getD 12 0), .int .u8 (x.getD 13 0), .int .u8 (x.getD 14 0), .int .u8 (x.getD 15 0), .int .u8 (x.getD 16 0), .int .u8 (x.getD 17 0), .int .u8 (x.getD 18 0), .int .u8 (x.getD 19 0), .int .u8 (x.getD 20 0), .int .u8 (x.getD 21 0), .int .u8 (x.getD 22 0), .int .u8 (x.getD 23 0), .int .u8 (x.getD 24 0), .int .u8 (x.getD 25 0), .int .u8 (x.getD 26 0), .int .u8 (x.getD 27 0), .int .u8 (x.getD 28 0), .int .u8 (x.getD 29 0), .int .u8 (x.getD 30 0), .int .u8 (x.getD 31 0)]) (.agg (idv y))).run Tryd.prog w = .ok (x == y) w := by
  rw [agg32 hx]
  exact eq32 x y hx hy w
theorem eq32z (w : World) : (Op.equalIn 10000 33 (.agg #[.int .u8 0, .int .u8 0, .int .u8 0, .int .u8 0, .int .u8 0, .int .u8 0, .int .u8 0, .int .u8 0, .int .u8 0, .int .u8 0, .int .u8 0, .int .u8 0, .int .u8 0, .int .u8 0, .int .u8 0, .int .u8 0, .int .u8 0, .int .u8 0, .int .u8 0, .int .u8 0, .int .u8 0, .int .u8 0, .int .u8 0, .int .u8 0, .int .u8 0, .int .u8 0, .int .u8 0, .int .u8 0, .int .u8 0, .int .u8 0, .int .u8 0, .int .u8 0]) (.agg #[.int .u8 0, .int .u8 0, .int .u8 0, .int .u8 0, .int .u8 0, .int .u8 0, .int .u8 0, .int .u8 0, .int .u8 0, .int .u8 0, .int .u8 0, .int .u8 0, .int .u8 0, .int .u8 0, .int .u8 0, .int .u8 0, .int .u8 0, .int .u8 0, .int .u8 0, .int .u8 0, .int .u8 0, .int .u8 0, .int .u8 0, .int .u8 0, .int .u8 0, .int .u8 0, .int .u8 0, .int .u8 0, .int .u8 0, .int .u8 0, .int .u8 0, .int .u8 0])).run Tryd.prog w = .ok true w :=
  eq32 (List.replicate 32 0) (List.replicate 32 0) rfl rfl w
theorem RowB.zero32 {w : World} {g : Nat} {t : TypeId} (h : RowB w g t (List.replicate 32 0)) : w.cell? ⟨g, 0, none⟩ = some (.int .u8 0) ∧ w.cell? ⟨g, 1, none⟩ = some (.int .u8 0) ∧ w.cell? ⟨g, 2, none⟩ = some (.int .u8 0) ∧ w.cell? ⟨g, 3, none⟩ = some (.int .u8 0) ∧ w.cell? ⟨g, 4, none⟩ = some (.int .u8 0) ∧ w.cell? ⟨g, 5, none⟩ = some (.int .u8 0) ∧ w.cell? ⟨g, 6, none⟩ = some (.int .u8 0) ∧ w.cell? ⟨g, 7, none⟩ = some (.int .u8 0) ∧ w.cell? ⟨g, 8, none⟩ = some (.int .u8 0) ∧ w.cell? ⟨g, 9, none⟩ = some (.int .u8 0) ∧ w.cell? ⟨g, 10, none⟩ = some (.int .u8 0) ∧ w.cell? ⟨g, 11, none⟩ = some (.int .u8 0) ∧ w.cell? ⟨g, 12, none⟩ = some (.int .u8 0) ∧ w.cell? ⟨g, 13, none⟩ = some (.int .u8 0) ∧ w.cell? ⟨g, 14, none⟩ = some (.int .u8 0) ∧ w.cell? ⟨g, 15, none⟩ = some (.int .u8 0) ∧ w.cell? ⟨g, 16, none⟩ = some (.int .u8 0) ∧ w.cell? ⟨g, 17, none⟩ = some (.int .u8 0) ∧ w.cell? ⟨g, 18, none⟩ = some (.int .u8 0) ∧ w.cell? ⟨g, 19, none⟩ = some (.int .u8 0) ∧ w.cell? ⟨g, 20, none⟩ = some (.int .u8 0) ∧ w.cell? ⟨g, 21, none⟩ = some (.int .u8 0) ∧ w.cell? ⟨g, 22, none⟩ = some (.int .u8 0) ∧ w.cell? ⟨g, 23, none⟩ = some (.int .u8 0) ∧ w.cell? ⟨g, 24, none⟩ = some (.int .u8 0) ∧ w.cell? ⟨g, 25, none⟩ = some (.int .u8 0) ∧ w.cell? ⟨g, 26, none⟩ = some (.int .u8 0) ∧ w.cell? ⟨g, 27, none⟩ = some (.int .u8 0) ∧ w.cell? ⟨g, 28, none⟩ = some (.int .u8 0) ∧ w.cell? ⟨g, 29, none⟩ = some (.int .u8 0) ∧ w.cell? ⟨g, 30, none⟩ = some (.int .u8 0) ∧ w.cell? ⟨g, 31, none⟩ = some (.int .u8 0) :=
  h.cells32 rfl

section
variable {P : Program} {l : List Oper} {Q : Exit → Act → World → Prop} {md : Region.Mode} {S : World → Prop} {oi : Oper} {fuel : Nat} {listed : Array Bool} {a : Act} {w : World}
/-- one operation of a region that draws its order, taken first: what it yields hangs on no world -/
theorem take_run (i : Nat) (v : Value) (hi : l[i]? = some oi) (hs : Region.noSelect l.toArray = true) (hf : Region.free md l.toArray listed i = true) (hr : (Region.ready md l.toArray listed).contains i = true)
    (hQ : ∀ c a w, Q (.panic c) (a.put oi.dst v) w → Q (.panic c) a w) (hw : Region.wanted oi (yielded l.toArray a.tmps) = true) (hS : S w) (hrun : ∀ w, (execOp a.eval oi).run P w = .ok (.value v) w)
    (h : wpAnyH P md l.toArray Q S fuel (listed.setIfInBounds i true) (a.put oi.dst v) w) : wpAnyH P md l.toArray Q S (fuel + 1) listed a w :=
  wpAnyH_take (by simpa using hi) hs hf hr hQ (.inl ⟨hw, fun w _ => hrun w⟩) hS h
theorem take_move (i : Nat) (x : Operand) (v : Value) (hi : l[i]? = some oi) (ho : oi.op = .move x) (hv : a.eval x = v) (hs : Region.noSelect l.toArray = true) (hf : Region.free md l.toArray listed i = true) (hr : (Region.ready md l.toArray listed).contains i = true)
    (hQ : ∀ c a w, Q (.panic c) (a.put oi.dst v) w → Q (.panic c) a w) (hw : Region.wanted oi (yielded l.toArray a.tmps) = true) (hS : S w)
    (h : wpAnyH P md l.toArray Q S fuel (listed.setIfInBounds i true) (a.put oi.dst v) w) : wpAnyH P md l.toArray Q S (fuel + 1) listed a w :=
  take_run i v hi hs hf hr hQ hw hS (fun w => by unfold execOp; simp [ho, hv]) h
/-- one that a guard leaves out -/
theorem take_off (i : Nat) (hi : l[i]? = some oi) (hs : Region.noSelect l.toArray = true) (hf : Region.free md l.toArray listed i = true) (hr : (Region.ready md l.toArray listed).contains i = true)
    (hQ : ∀ c a w, Q (.panic c) (a.put oi.dst undef) w → Q (.panic c) a w) (hw : Region.wanted oi (yielded l.toArray a.tmps) = false) (hS : S w)
    (h : wpAnyH P md l.toArray Q S fuel (listed.setIfInBounds i true) (a.put oi.dst undef) w) : wpAnyH P md l.toArray Q S (fuel + 1) listed a w :=
  wpAnyH_take (by simpa using hi) hs hf hr hQ (.inr ⟨hw, rfl⟩) hS h
/-- a load of a long array -/
theorem take_long (i : Nat) (ty : TypeId) (x : Operand) (g : Nat) (cs : List Value) (d : TypeDesc) (hi : l[i]? = some oi) (ho : oi.op = .load ty x) (hx : a.eval x = .pointer (some ⟨g, 0, none⟩)) (hs : Region.noSelect l.toArray = true) (hf : Region.free md l.toArray listed i = true) (hr : (Region.ready md l.toArray listed).contains i = true)
    (hQ : ∀ c a w, Q (.panic c) (a.put oi.dst (.agg cs.toArray)) w → Q (.panic c) a w) (hw : Region.wanted oi (yielded l.toArray a.tmps) = true) (hS : S w) (hat : ∀ w, S w → w.rangeAt g 0 cs)
    (hu : P.underlying ty = some d) (hd : d.isRow = true) (hsz : (P.info? ty).map (·.size) = some cs.length)
    (h : wpAnyH P md l.toArray Q S fuel (listed.setIfInBounds i true) (a.put oi.dst (.agg cs.toArray)) w) : wpAnyH P md l.toArray Q S (fuel + 1) listed a w :=
  wpAnyH_take (by simpa using hi) hs hf hr hQ (yieldsIf_load_mid hw ty x ho g 0 hx cs d hat hu hd hsz) hS h
/-- the only one that may come up -/
theorem one_step (i : Nat) (hr : Region.ready md l.toArray listed = [i]) (hi : l[i]? = some oi)
    (h : ∀ K' : Act → World → Prop, Shut (∀ a w, S w → (S w → wpAnyH P md l.toArray Q S fuel (listed.setIfInBounds i true) a w) → K' a w) → if Region.wanted oi (yielded l.toArray a.tmps) = true then Oper.wp P oi a w K' Q else K' (a.put oi.dst undef) w) :
    wpAnyH P md l.toArray Q S (fuel + 1) listed a w :=
  wpAnyH_ready hr (by simp) (AllReadyH.cons (by simpa using hi) h AllReadyH.nil)
end
end Go.Proofs.YtomfnnhdihbpfaaDoor
