/- Slices whose elements are rows of k cells (structs, or one cell): what they read as; the call's own; append. -/
import Derived.Test.YtjjjfckkglcdfaaBasWorld
import Derived.Laws.AppendOwnNone
import Derived.Laws.OwnMore
import Derived.Laws.ResultCell
import Derived.Maps.AppendAt
namespace Go.Proofs.Ytjjjfckkglcdfaa
open Go.RowKit

theorem flat_len {k : Nat} {rows : List (List Value)} (h : ∀ r ∈ rows, r.length = k) : rows.flatten.length = rows.length * k := by
  induction rows with
  | nil => simp
  | cons r rows ih =>
    rw [List.flatten_cons, List.length_append, h r (by simp), ih (fun x hx => h x (by simp [hx])), List.length_cons, Nat.add_mul, Nat.one_mul, Nat.add_comm]
theorem flat_get {k : Nat} {rows : List (List Value)} (h : ∀ r ∈ rows, r.length = k) (j i : Nat) (hj : j < rows.length) (hi : i < k) : rows.flatten[j * k + i]? = some ((rows.getD j []).getD i undef) := by
  induction rows generalizing j with
  | nil => simp at hj
  | cons r rows ih =>
    have hr := h r (by simp)
    rw [List.flatten_cons]
    cases j with
    | zero =>
      rw [Nat.zero_mul, Nat.zero_add, List.getElem?_append_left (by omega)]
      simp [List.getD_eq_getElem?_getD, List.getElem?_eq_getElem (show i < r.length by omega)]
    | succ j =>
      rw [Nat.add_mul, Nat.one_mul, List.getElem?_append_right (by rw [hr]; omega), hr, show j * k + k + i - k = j * k + i by omega]
      rw [ih (fun x hx => h x (by simp [hx])) j (by simpa using hj)]
      simp
/-- the slice value A, n, cap reads as the rows, of k cells each -/
structure Rws (k : Nat) (w : World) (A : Option Addr) (n cap : Nat) (rows : List (List Value)) : Prop where
  len : rows.length = n
  wid : ∀ r ∈ rows, r.length = k
  one : ∀ r ∈ rows, ∀ u ∈ r, u.oneCell' = true
  le : n ≤ cap
  max : cap ≤ maxLen
  bare : A = none → cap = 0
  at_ : 0 < n → ∃ b off, A = some ⟨b, off, none⟩ ∧ ∀ j, j < n → ∀ i, i < k → w.cell? ⟨b, off + j * k + i, none⟩ = some ((rows.getD j []).getD i undef)
section
variable {k : Nat} {w w' : World} {A : Option Addr} {n cap : Nat} {rows : List (List Value)}
theorem Rws.below (h : Rws k w A n cap rows) (hb : Below w.heap.size w w') : Rws k w' A n cap rows := by
  refine ⟨h.len, h.wid, h.one, h.le, h.max, h.bare, fun hn => ?_⟩
  obtain ⟨b, off, hA, hc⟩ := h.at_ hn
  exact ⟨b, off, hA, fun j hj i hi => (hb.cell (p := ⟨b, off + j * k + i, none⟩) (block_lt_of_cell (hc j hj i hi))).trans (hc j hj i hi)⟩
theorem Rws.draw (h : Rws k w A n cap rows) (m : Nat) : Rws k (w.drewN m) A n cap rows := ⟨h.len, h.wid, h.one, h.le, h.max, h.bare, h.at_⟩
theorem Rws.draw1 (h : Rws k w A n cap rows) : Rws k w.drew A n cap rows := ⟨h.len, h.wid, h.one, h.le, h.max, h.bare, h.at_⟩
theorem Rws.more (h : Rws k w A n cap rows) (o : Obj) : Rws k (w.alloc o) A n cap rows := h.below ((Below.refl _ _).alloc (Nat.le_refl _) _)
theorem Rws.small (h : Rws k w A n cap rows) : n ≤ 9223372036854775807 := Nat.le_trans h.le (by have := h.max; unfold maxLen at this; omega)
theorem Rws.grown {row : Option Nat} (h : Rws k w A n cap rows) (hg : w.grownBy w' row) (hne : ∀ b off, A = some ⟨b, off, none⟩ → some b ≠ row) : Rws k w' A n cap rows := by
  refine ⟨h.len, h.wid, h.one, h.le, h.max, h.bare, fun hn => ?_⟩
  obtain ⟨b, off, hA, hc⟩ := h.at_ hn
  refine ⟨b, off, hA, fun j hj i hi => ?_⟩
  rw [World.cell?_of_block (w := w) (a := ⟨b, off + j * k + i, none⟩) (hg.block b (block_lt_of_cell (hc j hj i hi)) (hne b off hA))]
  exact hc j hj i hi
end
theorem Rws.nil (k : Nat) (w : World) : Rws k w none 0 0 [] := ⟨rfl, (fun _ h => by cases h), (fun _ h => by cases h), Nat.le_refl _, by unfold maxLen; omega, fun _ => rfl, fun h => by omega⟩
/-- a slice of rows that the call made itself; e: the element's type -/
structure OwnR (e : TypeId) (k : Nat) (w : World) (base : Nat) (v : Value) (rows : List (List Value)) : Prop where
  row : w.ownsRow base e k v rows.length rows.flatten
  wid : ∀ r ∈ rows, r.length = k
  one : ∀ r ∈ rows, ∀ u ∈ r, u.oneCell' = true
section
variable {e : TypeId} {k : Nat} {w w' : World} {base : Nat} {v : Value} {rows : List (List Value)}
theorem OwnR.nil (e : TypeId) (k : Nat) (w : World) (base : Nat) : OwnR e k w base (.slice none 0 0) [] := ⟨World.ownsRow_nil _ _ _ _, (fun _ h => by cases h), (fun _ h => by cases h)⟩
theorem OwnR.more (h : OwnR e k w base v rows) (o : Obj) : OwnR e k (w.alloc o) base v rows := ⟨World.ownsRow.alloc h.row o, h.wid, h.one⟩
theorem OwnR.draw1 (h : OwnR e k w base v rows) : OwnR e k w.drew base v rows := ⟨h.row, h.wid, h.one⟩
theorem OwnR.draw (h : OwnR e k w base v rows) (m : Nat) : OwnR e k (w.drewN m) base v rows := ⟨h.row, h.wid, h.one⟩
theorem OwnR.size (h : OwnR e k w base v rows) : ∀ g, v.ownBlock = some g → base ≤ g ∧ g < w.heap.size := World.ownsRow.lt h.row
theorem OwnR.below (h : OwnR e k w base v rows) (hb : Below w.heap.size w w') : OwnR e k w' base v rows := by
  refine ⟨⟨h.row.1, ?_⟩, h.wid, h.one⟩
  rcases h.row.2 with h0 | ⟨g, cap, cur, hv, hg, hh, rest⟩
  · exact .inl h0
  · exact .inr ⟨g, cap, cur, hv, hg, (hb.block g (Array.getElem?_eq_some_iff.1 hh).1).trans hh, rest⟩
theorem OwnR.far {row : Option Nat} (h : OwnR e k w base v rows) (hg : w.grownBy w' row) (hne : v.ownBlock = none ∨ v.ownBlock ≠ row) : OwnR e k w' base v rows := ⟨World.ownsRow.kept h.row hg hne, h.wid, h.one⟩
theorem OwnR.rws (h : OwnR e k w base v rows) : ∃ A n cap, v = .slice A n cap ∧ Rws k w A n cap rows := by
  rcases h.row.2 with ⟨hv, hn⟩ | ⟨g, cap, cur, hv, _, hh, hnc, hcm, hcs, htake⟩
  · obtain rfl : rows = [] := List.eq_nil_of_length_eq_zero hn
    exact ⟨none, 0, 0, hv, Rws.nil k w⟩
  · refine ⟨some ⟨g, 0, none⟩, rows.length, cap, hv, rfl, h.wid, h.one, hnc, hcm, (fun e => by cases e), fun hn => ⟨g, 0, rfl, fun j hj i hi => ?_⟩⟩
    have hlt : j * k + i < rows.length * k := by
      have : (j + 1) * k ≤ rows.length * k := Nat.mul_le_mul_right _ hj
      rw [Nat.add_mul, Nat.one_mul] at this
      omega
    rw [Nat.zero_add, cell_of_row _ _ _ _ _ _ hh, ← flat_get h.wid j i hj hi, ← htake, List.getElem?_take, if_pos hlt]
    simp
end
theorem Rws.news {k : Nat} {w : World} {b off n cap : Nat} {rows : List (List Value)} (h : Rws k w (some ⟨b, off, none⟩) n cap rows) (hk : 0 < k) : ∀ (j : Nat) (u : Value), rows.flatten[j]? = some u → w.cell? ((⟨b, off, none⟩ : Addr).add j) = some u := by
  intro j u hu
  have hj : j < rows.length * k := by
    have := (List.getElem?_eq_some_iff.1 hu).1
    rwa [flat_len h.wid] at this
  have hq : j / k < rows.length := (Nat.div_lt_iff_lt_mul hk).2 hj
  have hr : j % k < k := Nat.mod_lt _ hk
  have hjk : j / k * k + j % k = j := by rw [Nat.mul_comm]; exact Nat.div_add_mod j k
  rw [← hjk, flat_get h.wid _ _ hq hr] at hu
  obtain ⟨b', off', hA, hc⟩ := h.at_ (by rw [← h.len]; exact Nat.lt_of_le_of_lt (Nat.zero_le _) hq)
  injection hA with hA
  injection hA with e1 e2 _
  subst e1 e2
  have hadd : (⟨b, off, none⟩ : Addr).add j = ⟨b, off + j, none⟩ := by
    unfold Addr.add
    split
    · rename_i h0; subst h0; rfl
    · rfl
  have := hc (j / k) (by rw [← h.len]; exact hq) (j % k) hr
  rw [Nat.add_assoc, hjk] at this
  rw [hadd, this, hu]
theorem flat_one {rows : List (List Value)} (h : ∀ r ∈ rows, ∀ u ∈ r, u.oneCell' = true) : ∀ u ∈ rows.flatten, u.oneCell' = true := by
  intro u hu
  obtain ⟨r, hr, hu⟩ := List.mem_flatten.1 hu
  exact h r hr u hu
theorem mem_app {α : Type} {p : α → Prop} {l m : List α} (h : ∀ x ∈ l, p x) (k : ∀ x ∈ m, p x) : ∀ x ∈ l ++ m, p x := fun x hx => (List.mem_append.1 hx).elim (h x) (k x)
/-- append(v, s...): v the call's own, s whatever; t: the slice's type, e the element's, of k cells and B bytes -/
theorem wp_append_r {P : Program} {w : World} {o : Oper} {a : Act} {K : Act → World → Prop} {Q : Exit → Act → World → Prop} (t e : TypeId) (k B : Nat) (s x : Operand)
    (ho : o.op = .call { callee := .builtin .append, args := #[s, x], argTypes := #[t, t] }) (hu : P.underlying t = some (.slice e)) (hinfo : (P.info? e).map (fun i => (i.zero.map (·.cells.size), i.size, i.bytes)) = some (some k, k, B)) (hk : 0 < k)
    (base : Nat) (v : Value) (rows : List (List Value)) (hs : a.eval s = v) (hown : OwnR e k w base v rows) (A : Option Addr) (m c : Nat) (news : List (List Value)) (hx : a.eval x = .slice A m c) (hr : Rws k w A m c news)
    (hsmall : (rows.length + m) * B ≤ 140737488355328) (hm63 : rows.length + m ≤ 140737488355328) (hbase : base ≤ w.heap.size)
    (h : ∀ v' w', OwnR e k w' base v' (rows ++ news) → w.grownBy w' v.ownBlock → K (a.put o.dst v') w') : o.wp P a w K Q := by
  cases hi : P.info? e with
  | none => simp [hi] at hinfo
  | some i =>
    simp only [hi, Option.map_some, Option.some.injEq, Prod.mk.injEq] at hinfo
    obtain ⟨hz, h1, h2⟩ := hinfo
    cases hzz : i.zero with
    | none => simp [hzz] at hz
    | some z =>
      simp only [hzz, Option.map_some, Option.some.injEq] at hz
      rcases A with _ | ad
      · obtain rfl := hr.bare rfl
        have hm : m = 0 := by have := hr.le; omega
        subst hm
        obtain rfl : news = [] := List.eq_nil_of_length_eq_zero hr.len
        have hrun := run_append_owned_none (P := P) (w := w) base t o.type e i k hu hi v rows.length rows.flatten hown.row
        unfold Oper.wp
        simp [execOp, ho, resolve, invoke, builtin, hs, hx, hrun, Result.andThen]
        exact h v w (by simpa using hown) (World.grownBy.refl w _)
      · have hnews : ∀ (j : Nat) (u : Value), news.flatten[j]? = some u → w.cell? (ad.add j) = some u := by
          intro j u hu
          have hm0 : 0 < m := by
            have h3 := (List.getElem?_eq_some_iff.1 hu).1
            rw [flat_len hr.wid, hr.len] at h3
            rcases Nat.eq_zero_or_pos m with h4 | h4
            · rw [h4, Nat.zero_mul] at h3; omega
            · exact h4
          obtain ⟨b, off, hA, _⟩ := hr.at_ hm0
          injection hA with hA
          subst hA
          exact hr.news hk j u hu
        refine wp_append_own (P := P) w s x t ho base e i z k B hu hi hzz h1 h2 hz hk v rows.length rows.flatten hs hown.row ad m c news.flatten hx (by rw [flat_len hr.wid, hr.len]) hnews (flat_one hr.one) (by unfold maxLen; omega) hsmall hbase ?_
        intro v' w' hown' hg _
        refine h v' w' ⟨?_, mem_app hown.wid hr.wid, mem_app hown.one hr.one⟩ hg
        rw [List.flatten_append, List.length_append, hr.len]
        exact hown'
theorem wpList_append_r {P : Program} {w : World} {ops : Array Oper} {rest : List Oper} {o : Oper} {a : Act} {Q : Exit → Act → World → Prop} (hgd : o.guard = none) (t e : TypeId) (k B : Nat) (s x : Operand)
    (ho : o.op = .call { callee := .builtin .append, args := #[s, x], argTypes := #[t, t] }) (hu : P.underlying t = some (.slice e)) (hinfo : (P.info? e).map (fun i => (i.zero.map (·.cells.size), i.size, i.bytes)) = some (some k, k, B)) (hk : 0 < k)
    (base : Nat) (v : Value) (rows : List (List Value)) (hs : a.eval s = v) (hown : OwnR e k w base v rows) (A : Option Addr) (m c : Nat) (news : List (List Value)) (hx : a.eval x = .slice A m c) (hr : Rws k w A m c news)
    (hsmall : (rows.length + m) * B ≤ 140737488355328) (hm63 : rows.length + m ≤ 140737488355328) (hbase : base ≤ w.heap.size)
    (h : ∀ v' w', OwnR e k w' base v' (rows ++ news) → w.grownBy w' v.ownBlock → wpList P ops Q rest (a.put o.dst v') w') : wpList P ops Q (o :: rest) a w :=
  wpList_plain hgd fun _ hK => wp_append_r t e k B s x ho hu hinfo hk base v rows hs hown A m c news hx hr hsmall hm63 hbase fun v' w' h2 h3 => hK _ _ (h v' w' h2 h3)
/-- the same as one step of a region that draws its order -/
theorem step_append_r {P : Program} {ops : Array Oper} {o : Oper} {a : Act} {w : World} {K : Act → World → Prop} {Q : Exit → Act → World → Prop} {E : Prop} (t e : TypeId) (k B : Nat) (s x : Operand)
    (ho : o.op = .call { callee := .builtin .append, args := #[s, x], argTypes := #[t, t] }) (hu : P.underlying t = some (.slice e)) (hinfo : (P.info? e).map (fun i => (i.zero.map (·.cells.size), i.size, i.bytes)) = some (some k, k, B)) (hk : 0 < k)
    (base : Nat) (v : Value) (rows : List (List Value)) (hs : a.eval s = v) (hown : OwnR e k w base v rows) (A : Option Addr) (m c : Nat) (news : List (List Value)) (hx : a.eval x = .slice A m c) (hr : Rws k w A m c news)
    (hsmall : (rows.length + m) * B ≤ 140737488355328) (hm63 : rows.length + m ≤ 140737488355328) (hbase : base ≤ w.heap.size) (hw : Region.wanted o (yielded ops a.tmps) = true)
    (h : ∀ v' w', OwnR e k w' base v' (rows ++ news) → w.grownBy w' v.ownBlock → K (a.put o.dst v') w') : if Region.wanted o (yielded ops a.tmps) = true then Oper.wp P o a w K Q else E := by
  rw [if_pos hw]
  exact wp_append_r t e k B s x ho hu hinfo hk base v rows hs hown A m c news hx hr hsmall hm63 hbase h
/-- the same, and where it lies -/
theorem wpList_append_r_at {P : Program} {w : World} {ops : Array Oper} {rest : List Oper} {o : Oper} {a : Act} {Q : Exit → Act → World → Prop} (hgd : o.guard = none) (t e : TypeId) (k B : Nat) (s x : Operand)
    (ho : o.op = .call { callee := .builtin .append, args := #[s, x], argTypes := #[t, t] }) (hu : P.underlying t = some (.slice e)) (hinfo : (P.info? e).map (fun i => (i.zero.map (·.cells.size), i.size, i.bytes)) = some (some k, k, B)) (hk : 0 < k)
    (base : Nat) (v : Value) (rows : List (List Value)) (hs : a.eval s = v) (hown : OwnR e k w base v rows) (A : Option Addr) (m c : Nat) (news : List (List Value)) (hx : a.eval x = .slice A m c) (hr : Rws k w A m c news)
    (hsmall : (rows.length + m) * B ≤ 140737488355328) (hm63 : rows.length + m ≤ 140737488355328) (hbase : base ≤ w.heap.size)
    (h : ∀ v' w', OwnR e k w' base v' (rows ++ news) → w.grownBy w' v.ownBlock → (v'.ownBlock = v.ownBlock ∨ v'.ownBlock = some w.heap.size) → wpList P ops Q rest (a.put o.dst v') w') : wpList P ops Q (o :: rest) a w := by
  cases hi : P.info? e with
  | none => simp [hi] at hinfo
  | some i =>
    simp only [hi, Option.map_some, Option.some.injEq, Prod.mk.injEq] at hinfo
    obtain ⟨hz, h1, h2⟩ := hinfo
    cases hzz : i.zero with
    | none => simp [hzz] at hz
    | some z =>
      simp only [hzz, Option.map_some, Option.some.injEq] at hz
      rcases A with _ | ad
      · obtain rfl := hr.bare rfl
        have hm : m = 0 := by have := hr.le; omega
        subst hm
        obtain rfl : news = [] := List.eq_nil_of_length_eq_zero hr.len
        refine wpList_append_own_none hgd s x t ho base e i k hu hi v rows.length rows.flatten hs hown.row hx ?_
        exact h v w (by simpa using hown) (World.grownBy.refl w _) (.inl rfl)
      · have hnews : ∀ (j : Nat) (u : Value), news.flatten[j]? = some u → w.cell? (ad.add j) = some u := by
          intro j u hu
          have hm0 : 0 < m := by
            have h3 := (List.getElem?_eq_some_iff.1 hu).1
            rw [flat_len hr.wid, hr.len] at h3
            rcases Nat.eq_zero_or_pos m with h4 | h4
            · rw [h4, Nat.zero_mul] at h3; omega
            · exact h4
          obtain ⟨b, off, hA, _⟩ := hr.at_ hm0
          injection hA with hA
          subst hA
          exact hr.news hk j u hu
        refine wpList_append_own_at (P := P) w hgd s x t ho base e i z k B hu hi hzz h1 h2 hz hk v rows.length rows.flatten hs hown.row ad m c news.flatten hx (by rw [flat_len hr.wid, hr.len]) hnews (flat_one hr.one) (by unfold maxLen; omega) hsmall hbase ?_
        intro v' w' hown' hg _ hat
        refine h v' w' ⟨?_, mem_app hown.wid hr.wid, mem_app hown.one hr.one⟩ hg hat
        rw [List.flatten_append, List.length_append, hr.len]
        exact hown'
/-- a literal of one row -/
theorem one_rws (k : Nat) (e : TypeId) (w : World) (r : List Value) (hr : r.length = k) (h1 : ∀ u ∈ r, u.oneCell' = true) : Rws k (w.alloc (.cells r.toArray e)) (some ⟨w.heap.size, 0, none⟩) 1 1 [r] := by
  refine ⟨rfl, fun x hx => ?_, fun x hx => ?_, Nat.le_refl _, by unfold maxLen; omega, (fun e => by cases e), fun _ => ⟨w.heap.size, 0, rfl, fun j hj i hi => ?_⟩⟩
  · rw [List.mem_singleton.1 hx]; exact hr
  · rw [List.mem_singleton.1 hx]; exact h1
  · obtain rfl : j = 0 := by omega
    rw [Nat.zero_mul, Nat.add_zero, Nat.zero_add, cell_of_row _ _ _ _ _ _ (heap_alloc_new w _)]
    simp [List.getD_eq_getElem?_getD, List.getElem?_eq_getElem (show i < r.length by omega)]
end Go.Proofs.Ytjjjfckkglcdfaa
