/- Towards the walk over package know's Lacks: a list in a box, that grows; a region of many orders, its operations taken by hand. -/
import Derived.Test.YtcpeaeefphgbaaaKnwMakes2
import Derived.Test.YtcpeaeefphgbaaaKnwRLack
namespace Go.Proofs.Ytcpeaeefphgbaaa
set_option linter.unusedVariables false
set_option linter.unusedSimpArgs false
open Go.RowKit

/-- the slice in the box q grows: nothing else turns but that box -/
structure Grows (q : Nat) (w w' : World) (v v' : Value) : Prop where
  os : w'.os = w.os
  tape : w'.tape = w.tape
  output : w'.output = w.output
  size : w.heap.size ≤ w'.heap.size
  block : ∀ b, b < w.heap.size → b ≠ q → v.ownBlock ≠ some b → w'.heap[b]? = w.heap[b]?
  at_ : v'.ownBlock = v.ownBlock ∨ ∃ g, v'.ownBlock = some g ∧ w.heap.size ≤ g
section
variable {q : Nat} {w w1 w2 : World} {v v1 v2 : Value}
theorem Grows.below (q : Nat) (v : Value) (h : Below w.heap.size w w1) : Grows q w w1 v v := ⟨h.os, h.tape, h.output, h.size, fun b hb _ _ => h.block b hb, .inl rfl⟩
theorem Grows.refl (q : Nat) (w : World) (v : Value) : Grows q w w v v := Grows.below q v (Below.refl _ _)
theorem Grows.of_turns (q : Nat) (h : Turns w w1 v v1) : Grows q w w1 v v1 := ⟨h.grown.os, h.grown.tape, h.grown.output, h.grown.size, fun b hb _ hn => h.block hb hn, h.at_⟩
theorem Grows.ne (h : Grows q w w1 v v1) {b : Nat} (hb : b < w.heap.size) (hn : v.ownBlock ≠ some b) : v1.ownBlock ≠ some b := by
  rcases h.at_ with e | ⟨g, e, hg⟩
  · rw [e]; exact hn
  · rw [e]; intro e2; injection e2 with e2; omega
theorem Grows.trans (h : Grows q w w1 v v1) (k : Grows q w1 w2 v1 v2) : Grows q w w2 v v2 := by
  refine ⟨k.os.trans h.os, k.tape.trans h.tape, k.output.trans h.output, Nat.le_trans h.size k.size, fun b hb hq hn => (k.block b (Nat.lt_of_lt_of_le hb h.size) hq (h.ne hb hn)).trans (h.block b hb hq hn), ?_⟩
  rcases k.at_ with e | ⟨g, e, hg⟩
  · rw [e]; exact h.at_
  · exact .inr ⟨g, e, Nat.le_trans h.size hg⟩
theorem Grows.but {w0 : World} (h : Grows q w w1 v v1) (h0 : But q w0 w) (hv : ∀ g, v.ownBlock = some g → w0.heap.size ≤ g) : But q w0 w1 :=
  ⟨h.os.trans h0.os, h.tape.trans h0.tape, h.output.trans h0.output, Nat.le_trans h0.size h.size, fun b hb hq => (h.block b (Nat.lt_of_lt_of_le hb h0.size) hq fun e => by have := hv b e; omega).trans (h0.block b hb hq)⟩
theorem Cup.grows {g : Nat} {k n : Int} {A : Option Addr} {m c : Nat} (hc : Cup w g k n A m c) (h : Grows q w w1 v v1) (hq : g ≠ q) (hn : v.ownBlock ≠ some g) : Cup w1 g k n A m c := (h.block g hc.lt hq hn).trans hc
/-- a cell of the box q overwritten -/
theorem Grows.set (h : Grows q w w1 v v1) (x : Value) : Grows q w (w1.setCell ⟨q, 0, none⟩ x) v v1 :=
  ⟨h.os, h.tape, h.output, by simpa [World.setCell] using h.size, fun b hb hq hn => (Below.heap_setCell _ _ _ _ hq).trans (h.block b hb hq hn), h.at_⟩
/-- cells of the slice overwritten -/
theorem Grows.put (h : Grows q w w1 v v1) {g : Nat} (hg : v1.ownBlock = some g) (o : Nat) (x : Value) : Grows q w (w1.setCell ⟨g, o, none⟩ x) v v1 :=
  ⟨h.os, h.tape, h.output, by simpa [World.setCell] using h.size, fun b hb hq hn => (Below.heap_setCell _ _ _ _ (fun e => by rw [e] at hb hn; exact h.ne hb hn hg)).trans (h.block b hb hq hn), h.at_⟩
end
/-- one row overwritten by another term's -/
theorem Made.turn {w : World} {B g m c : Nat} {rows : List (List Value)} {l : List Te} (h : Made w B (.slice (some ⟨g, 0, none⟩) m c) rows l) (j : Nat) (hj : j < l.length) {t : Te} {k n : Int} {A : Option Addr} {m2 c2 : Nat}
    (ht : Lies (fun b => B ≤ b ∧ (Value.slice (some ⟨g, 0, none⟩) m c).ownBlock ≠ some b) w t [.int .i64 k, .int .i64 n, .slice A m2 c2]) :
    Made (((w.setCell ⟨g, j * 3, none⟩ (.int .i64 k)).setCell ⟨g, j * 3 + 1, none⟩ (.int .i64 n)).setCell ⟨g, j * 3 + 2, none⟩ (.slice A m2 c2)) B (.slice (some ⟨g, 0, none⟩) m c) (rows.set j [.int .i64 k, .int .i64 n, .slice A m2 c2]) (l.set j t) := by
  have hjr : j < rows.length := by rw [h.len]; exact hj
  have hoth : ∀ b, (Value.slice (some ⟨g, 0, none⟩) m c).ownBlock ≠ some b → (((w.setCell ⟨g, j * 3, none⟩ (.int .i64 k)).setCell ⟨g, j * 3 + 1, none⟩ (.int .i64 n)).setCell ⟨g, j * 3 + 2, none⟩ (.slice A m2 c2)).heap[b]? = w.heap[b]? := by
    intro b hb
    have hne : b ≠ g := fun e => hb (by rw [e]; rfl)
    exact (Below.heap_setCell _ _ _ _ hne).trans ((Below.heap_setCell _ _ _ _ hne).trans (Below.heap_setCell _ _ _ _ hne))
  have hput := h.own
  refine ⟨?_, by rw [List.length_set, List.length_set, h.len], fun i hi => ?_⟩
  · obtain ⟨h1, h2⟩ := hput.row
    have hfl : rows.flatten.length = rows.length * 3 := flat_len hput.wid
    refine ⟨?_, ?_, ?_⟩
    · rcases h2 with ⟨hv, _⟩ | ⟨g', cap, cur, hv, hBg, hg, hnc, hcm, hcs, htk⟩
      · cases hv
      · injection hv with e1 e2 e3
        injection e1 with e1
        injection e1 with e1 _ _
        subst e1 e3
        have hsz : j * 3 + 3 ≤ cur.size := by
          rw [hcs]
          have : (j + 1) * 3 ≤ c * 3 := Nat.mul_le_mul_right _ (by omega)
          omega
        refine ⟨by rw [List.length_set, flat_set hput.wid j hjr]; simp [hfl]; have : (j + 1) * 3 ≤ rows.length * 3 := Nat.mul_le_mul_right _ hjr; omega, .inr ⟨g, c, _, ?_, hBg, set3_heap hg hsz, ?_, hcm, ?_, ?_⟩⟩
        · rw [List.length_set, ← e2]
        · rw [List.length_set]; exact hnc
        · simp [← hcs]; omega
        · rw [List.length_set, flat_set hput.wid j hjr]
          refine take_put cur.toList rows.flatten _ (rows.length * 3) (j * 3) htk hfl rfl ?_
          have : (j + 1) * 3 ≤ rows.length * 3 := Nat.mul_le_mul_right _ hjr
          omega
    · intro r hr
      rcases List.mem_or_eq_of_mem_set hr with h1 | h1
      · exact hput.wid r h1
      · rw [h1]; rfl
    · intro r hr
      rcases List.mem_or_eq_of_mem_set hr with h1 | h1
      · exact hput.one r h1
      · rw [h1]; exact row_one k n A m2 c2
  · have hil : i < l.length := by rw [List.length_set] at hi; exact hi
    by_cases hij : j = i
    · subst hij
      have e : (rows.set j [Value.int .i64 k, .int .i64 n, .slice A m2 c2]).getD j [] = [.int .i64 k, .int .i64 n, .slice A m2 c2] := by
        simp [List.getD_eq_getElem?_getD, hjr]
      rw [e, List.getElem_set_self]
      exact ht.keep fun b hb => hoth b hb.2
    · have e : (rows.set j [Value.int .i64 k, .int .i64 n, .slice A m2 c2]).getD i [] = rows.getD i [] := by
        simp [List.getD_eq_getElem?_getD, List.getElem?_set, hij]
      rw [e, List.getElem_set_ne hij]
      exact (h.lies i hil).keep fun b hb => hoth b hb.2
/-- a cell elsewhere overwritten -/
theorem Made.elsewhere {w : World} {B q : Nat} {v : Value} {rows : List (List Value)} {l : List Te} (h : Made w B v rows l) (hq : q < B) (x : Value) : Made (w.setCell ⟨q, 0, none⟩ x) B v rows l := by
  refine ⟨h.own.far (grownBy_setCell' w q x) ?_, h.len, fun i hi => (h.lies i hi).keep fun b hb => Below.heap_setCell _ _ _ _ (show b ≠ q by omega)⟩
  cases hv : v.ownBlock with
  | none => exact .inl rfl
  | some g => exact .inr fun e => by injection e with e; have := (h.own.size g hv).1; omega
theorem Turns.liesB {B : Nat} {w w1 : World} {v v1 : Value} (h : Turns w w1 v v1) {t : Te} {row : List Value} (ht : Lies (fun b => B ≤ b ∧ v.ownBlock ≠ some b) w t row) : Lies (fun b => B ≤ b ∧ v1.ownBlock ≠ some b) w1 t row :=
  ((ht.both.keep fun b hb => h.block hb.2 hb.1.2).mono fun b hb => ⟨hb.1.1, h.ne hb.2 hb.1.2⟩)
/-- behind an append of one row, which lies elsewhere -/
theorem Made.add {w w' : World} {B : Nat} {v v' : Value} {rows : List (List Value)} {l : List Te} (h : Made w B v rows l) {t : Te} {row : List Value} (ht : Lies (fun b => B ≤ b ∧ v.ownBlock ≠ some b) w t row)
    (hown : OwnR 24 3 w' B v' (rows ++ [row])) (hg : w.grownBy w' v.ownBlock) (hat : v'.ownBlock = v.ownBlock ∨ v'.ownBlock = some w.heap.size) : Made w' B v' (rows ++ [row]) (l ++ [t]) ∧ Turns w w' v v' := by
  have hT : Turns w w' v v' := ⟨hg, hat.imp_right fun e => ⟨_, e, Nat.le_refl _⟩⟩
  refine ⟨⟨hown, by simp [h.len], fun i hi => ?_⟩, hT⟩
  by_cases hil : i < l.length
  · have e1 : (l ++ [t])[i] = l[i] := List.getElem_append_left hil
    have e2 : (rows ++ [row]).getD i [] = rows.getD i [] := by
      simp only [List.getD_eq_getElem?_getD]
      rw [List.getElem?_append_left (by rw [h.len]; exact hil)]
    rw [e1, e2]
    exact hT.liesB (h.lies i hil)
  · have hi2 : i = l.length := by rw [List.length_append, List.length_singleton] at hi; omega
    subst hi2
    have e1 : (l ++ [t])[l.length] = t := by simp
    have e2 : (rows ++ [row]).getD l.length [] = row := by simp [List.getD_eq_getElem?_getD, ← h.len]
    rw [e1, e2]
    exact hT.liesB ht
theorem Made.had {w : World} {B : Nat} {v : Value} {rows : List (List Value)} {l : List Te} (h : Made w B v rows l) : Had w B v rows l := ⟨h.own, h.len, fun i hi => (h.lies i hi).mono fun b hb => hb.2⟩
/-- a term that has nothing below it lies anywhere -/
theorem lies_zero (P : Nat → Prop) (w : World) (k n : Int) : Lies P w (.node k n []) [.int .i64 k, .int .i64 n, .slice none 0 0] := .mk (Rws.nil 3 w) (fun h => by omega) rfl fun i hi => by simp at hi
section
variable {P : Program} {l : List Oper} {Q : Exit → Act → World → Prop} {md : Region.Mode} {S : World → Prop} {oi oj ok : Oper} {fuel : Nat} {listed : Array Bool} {a : Act} {w : World}
theorem two_steps (i j : Nat) (hr : Region.ready md l.toArray listed = [i, j]) (hi : l[i]? = some oi) (hj : l[j]? = some oj)
    (h1 : ∀ K' : Act → World → Prop, Shut (∀ a w, S w → (S w → wpAnyH P md l.toArray Q S fuel (listed.setIfInBounds i true) a w) → K' a w) → if Region.wanted oi (yielded l.toArray a.tmps) = true then Oper.wp P oi a w K' Q else K' (a.put oi.dst undef) w)
    (h2 : ∀ K' : Act → World → Prop, Shut (∀ a w, S w → (S w → wpAnyH P md l.toArray Q S fuel (listed.setIfInBounds j true) a w) → K' a w) → if Region.wanted oj (yielded l.toArray a.tmps) = true then Oper.wp P oj a w K' Q else K' (a.put oj.dst undef) w) :
    wpAnyH P md l.toArray Q S (fuel + 1) listed a w :=
  wpAnyH_ready hr (by simp) (AllReadyH.cons (by simpa using hi) h1 (AllReadyH.cons (by simpa using hj) h2 AllReadyH.nil))
theorem three_steps (i j k : Nat) (hr : Region.ready md l.toArray listed = [i, j, k]) (hi : l[i]? = some oi) (hj : l[j]? = some oj) (hk : l[k]? = some ok)
    (h1 : ∀ K' : Act → World → Prop, Shut (∀ a w, S w → (S w → wpAnyH P md l.toArray Q S fuel (listed.setIfInBounds i true) a w) → K' a w) → if Region.wanted oi (yielded l.toArray a.tmps) = true then Oper.wp P oi a w K' Q else K' (a.put oi.dst undef) w)
    (h2 : ∀ K' : Act → World → Prop, Shut (∀ a w, S w → (S w → wpAnyH P md l.toArray Q S fuel (listed.setIfInBounds j true) a w) → K' a w) → if Region.wanted oj (yielded l.toArray a.tmps) = true then Oper.wp P oj a w K' Q else K' (a.put oj.dst undef) w)
    (h3 : ∀ K' : Act → World → Prop, Shut (∀ a w, S w → (S w → wpAnyH P md l.toArray Q S fuel (listed.setIfInBounds k true) a w) → K' a w) → if Region.wanted ok (yielded l.toArray a.tmps) = true then Oper.wp P ok a w K' Q else K' (a.put ok.dst undef) w) :
    wpAnyH P md l.toArray Q S (fuel + 1) listed a w :=
  wpAnyH_ready hr (by simp) (AllReadyH.cons (by simpa using hi) h1 (AllReadyH.cons (by simpa using hj) h2 (AllReadyH.cons (by simpa using hk) h3 AllReadyH.nil)))
end
/-- append onto rows of the call's own, as one step of a region, and where it lies -/
theorem step_append_r_at {P : Program} {ops : Array Oper} {o : Oper} {a : Act} {w : World} {K : Act → World → Prop} {Q : Exit → Act → World → Prop} {E : Prop} (t e : TypeId) (k B : Nat) (s x : Operand)
    (ho : o.op = .call { callee := .builtin .append, args := #[s, x], argTypes := #[t, t] }) (hu : P.underlying t = some (.slice e)) (hinfo : (P.info? e).map (fun i => (i.zero.map (·.cells.size), i.size, i.bytes)) = some (some k, k, B)) (hk : 0 < k)
    (base : Nat) (v : Value) (rows : List (List Value)) (hs : a.eval s = v) (hown : OwnR e k w base v rows) (ad : Addr) (m c : Nat) (news : List (List Value)) (hx : a.eval x = .slice (some ad) m c) (hr : Rws k w (some ad) m c news)
    (hsmall : (rows.length + m) * B ≤ 140737488355328) (hm63 : rows.length + m ≤ 140737488355328) (hbase : base ≤ w.heap.size) (hw : Region.wanted o (yielded ops a.tmps) = true)
    (h : ∀ v' w', OwnR e k w' base v' (rows ++ news) → w.grownBy w' v.ownBlock → (v'.ownBlock = v.ownBlock ∨ v'.ownBlock = some w.heap.size) → K (a.put o.dst v') w') : if Region.wanted o (yielded ops a.tmps) = true then Oper.wp P o a w K Q else E := by
  rw [if_pos hw]
  cases hi : P.info? e with
  | none => simp [hi] at hinfo
  | some i =>
    simp only [hi, Option.map_some, Option.some.injEq, Prod.mk.injEq] at hinfo
    obtain ⟨hz, h1, h2⟩ := hinfo
    cases hzz : i.zero with
    | none => simp [hzz] at hz
    | some z =>
      simp only [hzz, Option.map_some, Option.some.injEq] at hz
      have hnews : ∀ (j : Nat) (u : Value), news.flatten[j]? = some u → w.cell? (ad.add j) = some u := by
        intro j u hu
        have hm0 : 0 < m := by
          have h3 := (List.getElem?_eq_some_iff.1 hu).1
          rw [flat_len hr.wid, hr.len] at h3
          rcases Nat.eq_zero_or_pos m with h4 | h4
          · rw [h4, Nat.zero_mul] at h3; omega
          · exact h4
        obtain ⟨b, off, hA, _⟩ := hr.at_ hm0
        injection hA with hA
        subst hA
        exact hr.news hk j u hu
      obtain ⟨v', w', hrun, g2, g3, g4, g5⟩ := run_append_own_at (P := P) w base t o.type e i z k B hu hi hzz h1 h2 hz hk v rows.length rows.flatten hown.row ad m c news.flatten (by rw [flat_len hr.wid, hr.len]) hnews (flat_one hr.one) (by unfold maxLen; omega) hsmall hbase
      unfold Oper.wp execOp
      simp only [ho, resolve, invoke, builtin, Sem.run_bind, Sem.run_pure, Result.andThen_ok, List.map_toArray, List.map_cons, List.map_nil, hs, hx, hrun]
      refine h v' w' ⟨?_, mem_app hown.wid hr.wid, mem_app hown.one hr.one⟩ g3 g5
      rw [List.flatten_append, List.length_append, hr.len]
      exact g2
end Go.Proofs.Ytcpeaeefphgbaaa
