/- Joined texts: Slices whose elements are rows of k cells (structs, or one cell): what they read as; the call's own; append. Slices of numbers of any kind: what they read as; the call's own, and one more appended. What package role answers, plainly; the tables as cells; Is, May, Turns, Name, and the document's own answers to them. Turns, Name, and the document's own Is, May, Turns, Name; two lists of numbers held against one another. Users, plainly: a slice of users as it lies; which may be, where one is found, which role. The walk over package user's May. The walk over package user's Find: by halves, by a closure; and over Role. -/
import Derived.Test.YtcfkpepohnjdfaaDoorUtJA
import Derived.Laws.AppendOwnNone
import Derived.Laws.OwnMore
import Derived.Laws.ResultCell
import Derived.Maps.AppendAt
import Derived.Deep.LoopGhost
/- Slices whose elements are rows of k cells (structs, or one cell): what they read as; the call's own; append. -/
namespace Go.Proofs.YtcfkpepohnjdfaaDoor
open Go.RowKit

theorem flat_len {k : Nat} {rows : List (List Value)} (h : ∀ r ∈ rows, r.length = k) : rows.flatten.length = rows.length * k := by
  induction rows with
  | nil => simp
  | cons r rows ih =>
    rw [List.flatten_cons, List.length_append, h r (by simp), ih (fun x hx => h x (by simp [hx])), List.length_cons, Nat.add_mul, Nat.one_mul, Nat.add_comm]
theorem flat_get {k : Nat} {rows : List (List Value)} (h : ∀ r ∈ rows, r.length = k) (j i : Nat) (hj : j < rows.length) (hi : i < k) : rows.flatten[j * k + i]? = some ((rows.getD j []).getD i undef) := by
  induction rows generalizing j with
  | nil => simp at hj
  | cons r rows ih =>
    have hr := h r (by simp)
    rw [List.flatten_cons]
    cases j with
    | zero =>
      rw [Nat.zero_mul, Nat.zero_add, List.getElem?_append_left (by omega)]
      simp [List.getD_eq_getElem?_getD, List.getElem?_eq_getElem (show i < r.length by omega)]
    | succ j =>
      rw [Nat.add_mul, Nat.one_mul, List.getElem?_append_right (by rw [hr]; omega), hr, show j * k + k + i - k = j * k + i by omega]
      rw [ih (fun x hx => h x (by simp [hx])) j (by simpa using hj)]
      simp
/-- the slice value A, n, cap reads as the rows, of k cells each -/
structure Rws (k : Nat) (w : World) (A : Option Addr) (n cap : Nat) (rows : List (List Value)) : Prop where
  len : rows.length = n
  wid : ∀ r ∈ rows, r.length = k
  one : ∀ r ∈ rows, ∀ u ∈ r, u.oneCell' = true
  le : n ≤ cap
  max : cap ≤ maxLen
  bare : A = none → cap = 0
  at_ : 0 < n → ∃ b off, A = some ⟨b, off, none⟩ ∧ ∀ j, j < n → ∀ i, i < k → w.cell? ⟨b, off + j * k + i, none⟩ = some ((rows.getD j []).getD i undef)
section
variable {k : Nat} {w w' : World} {A : Option Addr} {n cap : Nat} {rows : List (List Value)}
theorem Rws.below (h : Rws k w A n cap rows) (hb : Below w.heap.size w w') : Rws k w' A n cap rows := by
  refine ⟨h.len, h.wid, h.one, h.le, h.max, h.bare, fun hn => ?_⟩
  obtain ⟨b, off, hA, hc⟩ := h.at_ hn
  exact ⟨b, off, hA, fun j hj i hi => (hb.cell (p := ⟨b, off + j * k + i, none⟩) (block_lt_of_cell (hc j hj i hi))).trans (hc j hj i hi)⟩
theorem Rws.draw (h : Rws k w A n cap rows) (m : Nat) : Rws k (w.drewN m) A n cap rows := ⟨h.len, h.wid, h.one, h.le, h.max, h.bare, h.at_⟩
theorem Rws.draw1 (h : Rws k w A n cap rows) : Rws k w.drew A n cap rows := ⟨h.len, h.wid, h.one, h.le, h.max, h.bare, h.at_⟩
theorem Rws.more (h : Rws k w A n cap rows) (o : Obj) : Rws k (w.alloc o) A n cap rows := h.below ((Below.refl _ _).alloc (Nat.le_refl _) _)
theorem Rws.small (h : Rws k w A n cap rows) : n ≤ 9223372036854775807 := Nat.le_trans h.le (by have := h.max; unfold maxLen at this; omega)
theorem Rws.grown {row : Option Nat} (h : Rws k w A n cap rows) (hg : w.grownBy w' row) (hne : ∀ b off, A = some ⟨b, off, none⟩ → some b ≠ row) : Rws k w' A n cap rows := by
  refine ⟨h.len, h.wid, h.one, h.le, h.max, h.bare, fun hn => ?_⟩
  obtain ⟨b, off, hA, hc⟩ := h.at_ hn
  refine ⟨b, off, hA, fun j hj i hi => ?_⟩
  rw [World.cell?_of_block (w := w) (a := ⟨b, off + j * k + i, none⟩) (hg.block b (block_lt_of_cell (hc j hj i hi)) (hne b off hA))]
  exact hc j hj i hi
end
theorem Rws.nil (k : Nat) (w : World) : Rws k w none 0 0 [] := ⟨rfl, (fun _ h => by cases h), (fun _ h => by cases h), Nat.le_refl _, by unfold maxLen; omega, fun _ => rfl, fun h => by omega⟩
/-- a slice of rows that the call made itself; e: the element's type -/
structure OwnR (e : TypeId) (k : Nat) (w : World) (base : Nat) (v : Value) (rows : List (List Value)) : Prop where
  row : w.ownsRow base e k v rows.length rows.flatten
  wid : ∀ r ∈ rows, r.length = k
  one : ∀ r ∈ rows, ∀ u ∈ r, u.oneCell' = true
section
variable {e : TypeId} {k : Nat} {w w' : World} {base : Nat} {v : Value} {rows : List (List Value)}
theorem OwnR.nil (e : TypeId) (k : Nat) (w : World) (base : Nat) : OwnR e k w base (.slice none 0 0) [] := ⟨World.ownsRow_nil _ _ _ _, (fun _ h => by cases h), (fun _ h => by cases h)⟩
theorem OwnR.more (h : OwnR e k w base v rows) (o : Obj) : OwnR e k (w.alloc o) base v rows := ⟨World.ownsRow.alloc h.row o, h.wid, h.one⟩
theorem OwnR.draw1 (h : OwnR e k w base v rows) : OwnR e k w.drew base v rows := ⟨h.row, h.wid, h.one⟩
theorem OwnR.draw (h : OwnR e k w base v rows) (m : Nat) : OwnR e k (w.drewN m) base v rows := ⟨h.row, h.wid, h.one⟩
theorem OwnR.size (h : OwnR e k w base v rows) : ∀ g, v.ownBlock = some g → base ≤ g ∧ g < w.heap.size := World.ownsRow.lt h.row
theorem OwnR.below (h : OwnR e k w base v rows) (hb : Below w.heap.size w w') : OwnR e k w' base v rows := by
  refine ⟨⟨h.row.1, ?_⟩, h.wid, h.one⟩
  rcases h.row.2 with h0 | ⟨g, cap, cur, hv, hg, hh, rest⟩
  · exact .inl h0
  · exact .inr ⟨g, cap, cur, hv, hg, (hb.block g (Array.getElem?_eq_some_iff.1 hh).1).trans hh, rest⟩
theorem OwnR.far {row : Option Nat} (h : OwnR e k w base v rows) (hg : w.grownBy w' row) (hne : v.ownBlock = none ∨ v.ownBlock ≠ row) : OwnR e k w' base v rows := ⟨World.ownsRow.kept h.row hg hne, h.wid, h.one⟩
theorem OwnR.rws (h : OwnR e k w base v rows) : ∃ A n cap, v = .slice A n cap ∧ Rws k w A n cap rows := by
  rcases h.row.2 with ⟨hv, hn⟩ | ⟨g, cap, cur, hv, _, hh, hnc, hcm, hcs, htake⟩
  · obtain rfl : rows = [] := List.eq_nil_of_length_eq_zero hn
    exact ⟨none, 0, 0, hv, Rws.nil k w⟩
  · refine ⟨some ⟨g, 0, none⟩, rows.length, cap, hv, rfl, h.wid, h.one, hnc, hcm, (fun e => by cases e), fun hn => ⟨g, 0, rfl, fun j hj i hi => ?_⟩⟩
    have hlt : j * k + i < rows.length * k := by
      have : (j + 1) * k ≤ rows.length * k := Nat.mul_le_mul_right _ hj
      rw [Nat.add_mul, Nat.one_mul] at this
      omega
    rw [Nat.zero_add, cell_of_row _ _ _ _ _ _ hh, ← flat_get h.wid j i hj hi, ← htake, List.getElem?_take, if_pos hlt]
    simp
end
theorem Rws.news {k : Nat} {w : World} {b off n cap : Nat} {rows : List (List Value)} (h : Rws k w (some ⟨b, off, none⟩) n cap rows) (hk : 0 < k) : ∀ (j : Nat) (u : Value), rows.flatten[j]? = some u → w.cell? ((⟨b, off, none⟩ : Addr).add j) = some u := by
  intro j u hu
  have hj : j < rows.length * k := by
    have := (List.getElem?_eq_some_iff.1 hu).1
    rwa [flat_len h.wid] at this
  have hq : j / k < rows.length := (Nat.div_lt_iff_lt_mul hk).2 hj
  have hr : j % k < k := Nat.mod_lt _ hk
  have hjk : j / k * k + j % k = j := by rw [Nat.mul_comm]; exact Nat.div_add_mod j k
  rw [← hjk, flat_get h.wid _ _ hq hr] at hu
  obtain ⟨b', off', hA, hc⟩ := h.at_ (by rw [← h.len]; exact Nat.lt_of_le_of_lt (Nat.zero_le _) hq)
  injection hA with hA
  injection hA with e1 e2 _
  subst e1 e2
  have hadd : (⟨b, off, none⟩ : Addr).add j = ⟨b, off + j, none⟩ := by
    unfold Addr.add
    split
    · rename_i h0; subst h0; rfl
    · rfl
  have := hc (j / k) (by rw [← h.len]; exact hq) (j % k) hr
  rw [Nat.add_assoc, hjk] at this
  rw [hadd, this, hu]
theorem flat_one {rows : List (List Value)} (h : ∀ r ∈ rows, ∀ u ∈ r, u.oneCell' = true) : ∀ u ∈ rows.flatten, u.oneCell' = true := by
  intro u hu
  obtain ⟨r, hr, hu⟩ := List.mem_flatten.1 hu
  exact h r hr u hu
theorem mem_app {α : Type} {p : α → Prop} {l m : List α} (h : ∀ x ∈ l, p x) (k : ∀ x ∈ m, p x) : ∀ x ∈ l ++ m, p x := fun x hx => (List.mem_append.1 hx).elim (h x) (k x)
/-- append(v, s...): v the call's own, s whatever; t: the slice's type, e the element's, of k cells and B bytes -/
theorem wp_append_r {P : Program} {w : World} {o : Oper} {a : Act} {K : Act → World → Prop} {Q : Exit → Act → World → Prop} (t e : TypeId) (k B : Nat) (s x : Operand)
    (ho : o.op = .call { callee := .builtin .append, args := #[s, x], argTypes := #[t, t] }) (hu : P.underlying t = some (.slice e)) (hinfo : (P.info? e).map (fun i => (i.zero.map (·.cells.size), i.size, i.bytes)) = some (some k, k, B)) (hk : 0 < k)
    (base : Nat) (v : Value) (rows : List (List Value)) (hs : a.eval s = v) (hown : OwnR e k w base v rows) (A : Option Addr) (m c : Nat) (news : List (List Value)) (hx : a.eval x = .slice A m c) (hr : Rws k w A m c news)
    (hsmall : (rows.length + m) * B ≤ 140737488355328) (hm63 : rows.length + m ≤ 140737488355328) (hbase : base ≤ w.heap.size)
    (h : ∀ v' w', OwnR e k w' base v' (rows ++ news) → w.grownBy w' v.ownBlock → K (a.put o.dst v') w') : o.wp P a w K Q := by
  cases hi : P.info? e with
  | none => simp [hi] at hinfo
  | some i =>
    simp only [hi, Option.map_some, Option.some.injEq, Prod.mk.injEq] at hinfo
    obtain ⟨hz, h1, h2⟩ := hinfo
    cases hzz : i.zero with
    | none => simp [hzz] at hz
    | some z =>
      simp only [hzz, Option.map_some, Option.some.injEq] at hz
      rcases A with _ | ad
      · obtain rfl := hr.bare rfl
        have hm : m = 0 := by have := hr.le; omega
        subst hm
        obtain rfl : news = [] := List.eq_nil_of_length_eq_zero hr.len
        have hrun := run_append_owned_none (P := P) (w := w) base t o.type e i k hu hi v rows.length rows.flatten hown.row
        unfold Oper.wp
        simp [execOp, ho, resolve, invoke, builtin, hs, hx, hrun, Result.andThen]
        exact h v w (by simpa using hown) (World.grownBy.refl w _)
      · have hnews : ∀ (j : Nat) (u : Value), news.flatten[j]? = some u → w.cell? (ad.add j) = some u := by
          intro j u hu
          have hm0 : 0 < m := by
            have h3 := (List.getElem?_eq_some_iff.1 hu).1
            rw [flat_len hr.wid, hr.len] at h3
            rcases Nat.eq_zero_or_pos m with h4 | h4
            · rw [h4, Nat.zero_mul] at h3; omega
            · exact h4
          obtain ⟨b, off, hA, _⟩ := hr.at_ hm0
          injection hA with hA
          subst hA
          exact hr.news hk j u hu
        refine wp_append_own (P := P) w s x t ho base e i z k B hu hi hzz h1 h2 hz hk v rows.length rows.flatten hs hown.row ad m c news.flatten hx (by rw [flat_len hr.wid, hr.len]) hnews (flat_one hr.one) (by unfold maxLen; omega) hsmall hbase ?_
        intro v' w' hown' hg _
        refine h v' w' ⟨?_, mem_app hown.wid hr.wid, mem_app hown.one hr.one⟩ hg
        rw [List.flatten_append, List.length_append, hr.len]
        exact hown'
theorem wpList_append_r {P : Program} {w : World} {ops : Array Oper} {rest : List Oper} {o : Oper} {a : Act} {Q : Exit → Act → World → Prop} (hgd : o.guard = none) (t e : TypeId) (k B : Nat) (s x : Operand)
    (ho : o.op = .call { callee := .builtin .append, args := #[s, x], argTypes := #[t, t] }) (hu : P.underlying t = some (.slice e)) (hinfo : (P.info? e).map (fun i => (i.zero.map (·.cells.size), i.size, i.bytes)) = some (some k, k, B)) (hk : 0 < k)
    (base : Nat) (v : Value) (rows : List (List Value)) (hs : a.eval s = v) (hown : OwnR e k w base v rows) (A : Option Addr) (m c : Nat) (news : List (List Value)) (hx : a.eval x = .slice A m c) (hr : Rws k w A m c news)
    (hsmall : (rows.length + m) * B ≤ 140737488355328) (hm63 : rows.length + m ≤ 140737488355328) (hbase : base ≤ w.heap.size)
    (h : ∀ v' w', OwnR e k w' base v' (rows ++ news) → w.grownBy w' v.ownBlock → wpList P ops Q rest (a.put o.dst v') w') : wpList P ops Q (o :: rest) a w :=
  wpList_plain hgd fun _ hK => wp_append_r t e k B s x ho hu hinfo hk base v rows hs hown A m c news hx hr hsmall hm63 hbase fun v' w' h2 h3 => hK _ _ (h v' w' h2 h3)
/-- the same as one step of a region that draws its order -/
theorem step_append_r {P : Program} {ops : Array Oper} {o : Oper} {a : Act} {w : World} {K : Act → World → Prop} {Q : Exit → Act → World → Prop} {E : Prop} (t e : TypeId) (k B : Nat) (s x : Operand)
    (ho : o.op = .call { callee := .builtin .append, args := #[s, x], argTypes := #[t, t] }) (hu : P.underlying t = some (.slice e)) (hinfo : (P.info? e).map (fun i => (i.zero.map (·.cells.size), i.size, i.bytes)) = some (some k, k, B)) (hk : 0 < k)
    (base : Nat) (v : Value) (rows : List (List Value)) (hs : a.eval s = v) (hown : OwnR e k w base v rows) (A : Option Addr) (m c : Nat) (news : List (List Value)) (hx : a.eval x = .slice A m c) (hr : Rws k w A m c news)
    (hsmall : (rows.length + m) * B ≤ 140737488355328) (hm63 : rows.length + m ≤ 140737488355328) (hbase : base ≤ w.heap.size) (hw : Region.wanted o (yielded ops a.tmps) = true)
    (h : ∀ v' w', OwnR e k w' base v' (rows ++ news) → w.grownBy w' v.ownBlock → K (a.put o.dst v') w') : if Region.wanted o (yielded ops a.tmps) = true then Oper.wp P o a w K Q else E := by
  rw [if_pos hw]
  exact wp_append_r t e k B s x ho hu hinfo hk base v rows hs hown A m c news hx hr hsmall hm63 hbase h
/-- the same, and where it lies -/
theorem wpList_append_r_at {P : Program} {w : World} {ops : Array Oper} {rest : List Oper} {o : Oper} {a : Act} {Q : Exit → Act → World → Prop} (hgd : o.guard = none) (t e : TypeId) (k B : Nat) (s x : Operand)
    (ho : o.op = .call { callee := .builtin .append, args := #[s, x], argTypes := #[t, t] }) (hu : P.underlying t = some (.slice e)) (hinfo : (P.info? e).map (fun i => (i.zero.map (·.cells.size), i.size, i.bytes)) = some (some k, k, B)) (hk : 0 < k)
    (base : Nat) (v : Value) (rows : List (List Value)) (hs : a.eval s = v) (hown : OwnR e k w base v rows) (A : Option Addr) (m c : Nat) (news : List (List Value)) (hx : a.eval x = .slice A m c) (hr : Rws k w A m c news)
    (hsmall : (rows.length + m) * B ≤ 140737488355328) (hm63 : rows.length + m ≤ 140737488355328) (hbase : base ≤ w.heap.size)
    (h : ∀ v' w', OwnR e k w' base v' (rows ++ news) → w.grownBy w' v.ownBlock → (v'.ownBlock = v.ownBlock ∨ v'.ownBlock = some w.heap.size) → wpList P ops Q rest (a.put o.dst v') w') : wpList P ops Q (o :: rest) a w := by
  cases hi : P.info? e with
  | none => simp [hi] at hinfo
  | some i =>
    simp only [hi, Option.map_some, Option.some.injEq, Prod.mk.injEq] at hinfo
    obtain ⟨hz, h1, h2⟩ := hinfo
    cases hzz : i.zero with
    | none => simp [hzz] at hz
    | some z =>
      simp only [hzz, Option.map_some, Option.some.injEq] at hz
      rcases A with _ | ad
      · obtain rfl := hr.bare rfl
        have hm : m = 0 := by have := hr.le; omega
        subst hm
        obtain rfl : news = [] := List.eq_nil_of_length_eq_zero hr.len
        refine wpList_append_own_none hgd s x t ho base e i k hu hi v rows.length rows.flatten hs hown.row hx ?_
        exact h v w (by simpa using hown) (World.grownBy.refl w _) (.inl rfl)
      · have hnews : ∀ (j : Nat) (u : Value), news.flatten[j]? = some u → w.cell? (ad.add j) = some u := by
          intro j u hu
          have hm0 : 0 < m := by
            have h3 := (List.getElem?_eq_some_iff.1 hu).1
            rw [flat_len hr.wid, hr.len] at h3
            rcases Nat.eq_zero_or_pos m with h4 | h4
            · rw [h4, Nat.zero_mul] at h3; omega
            · exact h4
          obtain ⟨b, off, hA, _⟩ := hr.at_ hm0
          injection hA with hA
          subst hA
          exact hr.news hk j u hu
        refine wpList_append_own_at (P := P) w hgd s x t ho base e i z k B hu hi hzz h1 h2 hz hk v rows.length rows.flatten hs hown.row ad m c news.flatten hx (by rw [flat_len hr.wid, hr.len]) hnews (flat_one hr.one) (by unfold maxLen; omega) hsmall hbase ?_
        intro v' w' hown' hg _ hat
        refine h v' w' ⟨?_, mem_app hown.wid hr.wid, mem_app hown.one hr.one⟩ hg hat
        rw [List.flatten_append, List.length_append, hr.len]
        exact hown'
/-- a literal of one row -/
theorem one_rws (k : Nat) (e : TypeId) (w : World) (r : List Value) (hr : r.length = k) (h1 : ∀ u ∈ r, u.oneCell' = true) : Rws k (w.alloc (.cells r.toArray e)) (some ⟨w.heap.size, 0, none⟩) 1 1 [r] := by
  refine ⟨rfl, fun x hx => ?_, fun x hx => ?_, Nat.le_refl _, by unfold maxLen; omega, (fun e => by cases e), fun _ => ⟨w.heap.size, 0, rfl, fun j hj i hi => ?_⟩⟩
  · rw [List.mem_singleton.1 hx]; exact hr
  · rw [List.mem_singleton.1 hx]; exact h1
  · obtain rfl : j = 0 := by omega
    rw [Nat.zero_mul, Nat.add_zero, Nat.zero_add, cell_of_row _ _ _ _ _ _ (heap_alloc_new w _)]
    simp [List.getD_eq_getElem?_getD, List.getElem?_eq_getElem (show i < r.length by omega)]
end Go.Proofs.YtcfkpepohnjdfaaDoor

/- Slices of numbers of any kind: what they read as; the call's own, and one more appended. -/
namespace Go.Proofs.YtcfkpepohnjdfaaDoor
open Go.RowKit

/-- numbers of kind K, as cells -/
def inv (K : IntKind) (l : List Int) : List Value := l.map (Value.int K)
theorem inv_length (K : IntKind) (l : List Int) : (inv K l).length = l.length := by simp [inv]
theorem inv_get (K : IntKind) (l : List Int) (i : Nat) (h : i < l.length) : (inv K l)[i]? = some (.int K (l.getD i 0)) := by
  simp [inv, List.getD_eq_getElem?_getD, h]
theorem inv_append (K : IntKind) (l m : List Int) : inv K (l ++ m) = inv K l ++ inv K m := by simp [inv]
theorem inv_one (K : IntKind) (l : List Int) : ∀ u ∈ inv K l, u.oneCell' = true := by
  intro u hu
  simp only [inv, List.mem_map] at hu
  obtain ⟨x, _, rfl⟩ := hu
  rfl

/-- the slice value A, n, cap reads as the numbers l, of kind K -/
structure Its (K : IntKind) (w : World) (A : Option Addr) (n cap : Nat) (l : List Int) : Prop where
  len : l.length = n
  le : n ≤ cap
  max : cap ≤ maxLen
  bare : A = none → cap = 0
  at_ : 0 < n → ∃ b off, A = some ⟨b, off, none⟩ ∧ ∀ j, j < n → w.cell? ⟨b, off + j, none⟩ = some (.int K (l.getD j 0))
section
variable {K : IntKind} {w w' : World} {A : Option Addr} {n cap : Nat} {l : List Int}
theorem Its.below (h : Its K w A n cap l) (hb : Below w.heap.size w w') : Its K w' A n cap l := by
  refine ⟨h.len, h.le, h.max, h.bare, fun hn => ?_⟩
  obtain ⟨b, off, hA, hc⟩ := h.at_ hn
  exact ⟨b, off, hA, fun j hj => (hb.cell (p := ⟨b, off + j, none⟩) (block_lt_of_cell (hc j hj))).trans (hc j hj)⟩
theorem Its.draw (h : Its K w A n cap l) (k : Nat) : Its K (w.drewN k) A n cap l := ⟨h.len, h.le, h.max, h.bare, h.at_⟩
theorem Its.draw1 (h : Its K w A n cap l) : Its K w.drew A n cap l := ⟨h.len, h.le, h.max, h.bare, h.at_⟩
theorem Its.more (h : Its K w A n cap l) (o : Obj) : Its K (w.alloc o) A n cap l := h.below ((Below.refl _ _).alloc (Nat.le_refl _) _)
theorem Its.small (h : Its K w A n cap l) : n ≤ 9223372036854775807 := Nat.le_trans h.le (by have := h.max; unfold maxLen at this; omega)
theorem Its.grown {row : Option Nat} (h : Its K w A n cap l) (hg : w.grownBy w' row) (hne : ∀ b off, A = some ⟨b, off, none⟩ → some b ≠ row) : Its K w' A n cap l := by
  refine ⟨h.len, h.le, h.max, h.bare, fun hn => ?_⟩
  obtain ⟨b, off, hA, hc⟩ := h.at_ hn
  refine ⟨b, off, hA, fun j hj => ?_⟩
  rw [World.cell?_of_block (w := w) (a := ⟨b, off + j, none⟩) (hg.block b (block_lt_of_cell (hc j hj)) (hne b off hA))]
  exact hc j hj
end
theorem Its.nil (K : IntKind) (w : World) : Its K w none 0 0 [] := ⟨rfl, Nat.le_refl _, by unfold maxLen; omega, fun _ => rfl, fun h => by omega⟩

/-- a slice of numbers that the call made itself; e: the element's type -/
def OwnI (K : IntKind) (e : TypeId) (w : World) (base : Nat) (v : Value) (l : List Int) : Prop := w.ownsRow base e 1 v l.length (inv K l)
section
variable {K : IntKind} {e : TypeId} {w w' : World} {base : Nat} {v : Value} {l : List Int}
theorem OwnI.nil (K : IntKind) (e : TypeId) (w : World) (base : Nat) : OwnI K e w base (.slice none 0 0) [] := World.ownsRow_nil _ _ _ _
theorem OwnI.more (h : OwnI K e w base v l) (o : Obj) : OwnI K e (w.alloc o) base v l := World.ownsRow.alloc h o
theorem OwnI.draw1 (h : OwnI K e w base v l) : OwnI K e w.drew base v l := h
theorem OwnI.draw (h : OwnI K e w base v l) (k : Nat) : OwnI K e (w.drewN k) base v l := h
theorem OwnI.size (h : OwnI K e w base v l) : ∀ k, v.ownBlock = some k → base ≤ k ∧ k < w.heap.size := World.ownsRow.lt h
theorem OwnI.mono {b : Nat} (h : OwnI K e w base v l) (hb : b ≤ base) : OwnI K e w b v l := by
  refine ⟨h.1, ?_⟩
  rcases h.2 with h0 | ⟨g, cap, cur, hv, hg, rest⟩
  · exact .inl h0
  · exact .inr ⟨g, cap, cur, hv, Nat.le_trans hb hg, rest⟩
theorem OwnI.below (h : OwnI K e w base v l) (hb : Below w.heap.size w w') : OwnI K e w' base v l := by
  refine ⟨h.1, ?_⟩
  rcases h.2 with h0 | ⟨g, cap, cur, hv, hg, hh, rest⟩
  · exact .inl h0
  · exact .inr ⟨g, cap, cur, hv, hg, (hb.block g (Array.getElem?_eq_some_iff.1 hh).1).trans hh, rest⟩
theorem OwnI.far {row : Option Nat} (h : OwnI K e w base v l) (hg : w.grownBy w' row) (hne : v.ownBlock = none ∨ v.ownBlock ≠ row) : OwnI K e w' base v l := World.ownsRow.kept h hg hne
theorem OwnI.its (h : OwnI K e w base v l) : ∃ A n cap, v = .slice A n cap ∧ Its K w A n cap l := by
  rcases h.2 with ⟨hv, hn⟩ | ⟨g, cap, cur, hv, _, hh, hnc, hcm, hcs, htake⟩
  · obtain rfl : l = [] := List.eq_nil_of_length_eq_zero hn
    exact ⟨none, 0, 0, hv, Its.nil K w⟩
  · refine ⟨some ⟨g, 0, none⟩, l.length, cap, hv, rfl, hnc, hcm, (fun e => by cases e), fun hn => ⟨g, 0, rfl, fun j hj => ?_⟩⟩
    rw [Nat.zero_add, cell_of_row _ _ _ _ _ _ hh, ← inv_get K l j hj, ← htake, List.getElem?_take, if_pos (by omega)]
    simp
end

/-- append(v, s...): v the call's own, s whatever; t: the slice's type, e the element's, of B bytes -/
theorem wpList_append_i {P : Program} {w : World} {ops : Array Oper} {rest : List Oper} {o : Oper} {a : Act} {Q : Exit → Act → World → Prop} (hgd : o.guard = none) (t e : TypeId) (K : IntKind) (B : Nat) (s x : Operand)
    (ho : o.op = .call { callee := .builtin .append, args := #[s, x], argTypes := #[t, t] }) (hu : P.underlying t = some (.slice e)) (hinfo : (P.info? e).map (fun i => (i.zero, i.size, i.bytes)) = some (some (.int K 0), 1, B)) (hB : B ≤ 8)
    (base : Nat) (v : Value) (l : List Int) (hs : a.eval s = v) (hown : OwnI K e w base v l) (A : Option Addr) (m c : Nat) (l2 : List Int) (hx : a.eval x = .slice A m c) (hr : Its K w A m c l2)
    (hsmall : l.length + m ≤ 17592186044416) (hbase : base ≤ w.heap.size)
    (h : ∀ v' w', OwnI K e w' base v' (l ++ l2) → w.grownBy w' v.ownBlock → wpList P ops Q rest (a.put o.dst v') w') : wpList P ops Q (o :: rest) a w := by
  obtain ⟨i, hi, hz, h1, h2⟩ := info_parts hinfo
  have hl2 : (inv K l2).length = m * 1 := by rw [inv_length, hr.len, Nat.mul_one]
  rcases A with _ | ad
  · obtain rfl := hr.bare rfl
    have hm : m = 0 := by have := hr.le; omega
    subst hm
    obtain rfl : l2 = [] := List.eq_nil_of_length_eq_zero hr.len
    refine wpList_append_own_none hgd s x t ho base e i 1 hu hi v l.length (inv K l) hs hown hx ?_
    exact h v w (by simpa using hown) (World.grownBy.refl w _)
  · have hb8 : (l.length + m) * B ≤ (l.length + m) * 8 := Nat.mul_le_mul_left _ hB
    refine wpList_append_own (P := P) w hgd s x t ho base e i (.int K 0) 1 B hu hi hz h1 h2 rfl (by omega) v l.length (inv K l) hs hown ad m c (inv K l2) hx hl2 ?_ (inv_one K l2) (by unfold maxLen; omega) (by omega) hbase ?_
    · intro j u hu'
      have hj : j < l2.length := by
        have := (List.getElem?_eq_some_iff.1 hu').1
        rwa [inv_length] at this
      rw [inv_get K l2 j hj] at hu'
      obtain ⟨b, off, hA, hc⟩ := hr.at_ (by have := hr.len; omega)
      injection hA with hA
      subst hA
      have hadd : (⟨b, off, none⟩ : Addr).add j = ⟨b, off + j, none⟩ := by
        unfold Addr.add
        split
        · rename_i h0; subst h0; rfl
        · rfl
      rw [hadd, hc j (by have := hr.len; omega), hu']
    · intro v' w' hown' hg _
      refine h v' w' ?_ hg
      unfold OwnI
      rw [inv_append, List.length_append, hr.len]
      exact hown'
/-- the same, and where it lies: v the call's own, s whatever; t: the slice's type, e the element's, of B bytes -/
theorem wpList_append_i_at {P : Program} {w : World} {ops : Array Oper} {rest : List Oper} {o : Oper} {a : Act} {Q : Exit → Act → World → Prop} (hgd : o.guard = none) (t e : TypeId) (K : IntKind) (B : Nat) (s x : Operand)
    (ho : o.op = .call { callee := .builtin .append, args := #[s, x], argTypes := #[t, t] }) (hu : P.underlying t = some (.slice e)) (hinfo : (P.info? e).map (fun i => (i.zero, i.size, i.bytes)) = some (some (.int K 0), 1, B)) (hB : B ≤ 8)
    (base : Nat) (v : Value) (l : List Int) (hs : a.eval s = v) (hown : OwnI K e w base v l) (A : Option Addr) (m c : Nat) (l2 : List Int) (hx : a.eval x = .slice A m c) (hr : Its K w A m c l2)
    (hsmall : l.length + m ≤ 17592186044416) (hbase : base ≤ w.heap.size)
    (h : ∀ v' w', OwnI K e w' base v' (l ++ l2) → w.grownBy w' v.ownBlock → (v'.ownBlock = v.ownBlock ∨ v'.ownBlock = some w.heap.size) → wpList P ops Q rest (a.put o.dst v') w') : wpList P ops Q (o :: rest) a w := by
  obtain ⟨i, hi, hz, h1, h2⟩ := info_parts hinfo
  have hl2 : (inv K l2).length = m * 1 := by rw [inv_length, hr.len, Nat.mul_one]
  rcases A with _ | ad
  · obtain rfl := hr.bare rfl
    have hm : m = 0 := by have := hr.le; omega
    subst hm
    obtain rfl : l2 = [] := List.eq_nil_of_length_eq_zero hr.len
    refine wpList_append_own_none hgd s x t ho base e i 1 hu hi v l.length (inv K l) hs hown hx ?_
    exact h v w (by simpa using hown) (World.grownBy.refl w _) (.inl rfl)
  · have hb8 : (l.length + m) * B ≤ (l.length + m) * 8 := Nat.mul_le_mul_left _ hB
    refine wpList_append_own_at (P := P) w hgd s x t ho base e i (.int K 0) 1 B hu hi hz h1 h2 rfl (by omega) v l.length (inv K l) hs hown ad m c (inv K l2) hx hl2 ?_ (inv_one K l2) (by unfold maxLen; omega) (by omega) hbase ?_
    · intro j u hu'
      have hj : j < l2.length := by
        have := (List.getElem?_eq_some_iff.1 hu').1
        rwa [inv_length] at this
      rw [inv_get K l2 j hj] at hu'
      obtain ⟨b, off, hA, hc⟩ := hr.at_ (by have := hr.len; omega)
      injection hA with hA
      subst hA
      have hadd : (⟨b, off, none⟩ : Addr).add j = ⟨b, off + j, none⟩ := by
        unfold Addr.add
        split
        · rename_i h0; subst h0; rfl
        · rfl
      rw [hadd, hc j (by have := hr.len; omega), hu']
    · intro v' w' hown' hg _ hat
      refine h v' w' ?_ hg hat
      unfold OwnI
      rw [inv_append, List.length_append, hr.len]
      exact hown'
/-- make([]T, 0, n), T a number of kind K -/
theorem wpList_make_i {P : Program} {w : World} {ops : Array Oper} {rest : List Oper} {o : Oper} {a : Act} {Q : Exit → Act → World → Prop} (hgd : o.guard = none) (t e : TypeId) (K : IntKind) (B : Nat) (l c : Operand) (ho : o.op = Op.makeSlice t l c)
    (hu : P.underlying t = some (.slice e)) (hinfo : (P.info? e).map (fun i => (i.zero, i.size, i.bytes)) = some (some (.int K 0), 1, B)) (hB : B ≤ 8)
    (base : Nat) (C : Int) (n : Nat) (hl : a.eval l = .int .i64 0) (hc : a.eval c = .int .i64 C) (hC : C = (n : Int)) (hn : n ≤ 17592186044416) (hb : base ≤ w.heap.size)
    (h : ∀ v' w', OwnI K e w' base v' [] → w.grownBy w' none → wpList P ops Q rest (a.put o.dst v') w') : wpList P ops Q (o :: rest) a w := by
  obtain ⟨i, hi, hz, h1, h2⟩ := info_parts hinfo
  have hb8 : B * n ≤ 8 * n := Nat.mul_le_mul_right _ hB
  exact wpList_make_own w hgd l c t ho base e i (.int K 0) 1 hu hi hz h1 .i64 .i64 C n hl hc hC (by rw [h2]; omega) (by unfold maxLen; omega) hb
    (fun w' r1 r2 => h _ w' r1 r2)
/-- a literal of one number -/
theorem one_its (K : IntKind) (e : TypeId) (w : World) (x : Int) : Its K (w.alloc (.cells #[.int K x] e)) (some ⟨w.heap.size, 0, none⟩) 1 1 [x] := by
  refine ⟨rfl, Nat.le_refl _, by unfold maxLen; omega, (fun e => by cases e), fun _ => ⟨w.heap.size, 0, rfl, fun j hj => ?_⟩⟩
  obtain rfl : j = 0 := by omega
  exact (cell_of_row _ _ _ _ _ _ (heap_alloc_new w _)).trans rfl
/-- two slices that lie in blocks of their own -/
def Sep (a b : Value) : Prop := ∀ g, a.ownBlock = some g → b.ownBlock ≠ some g
theorem Sep.symm {a b : Value} (h : Sep a b) : Sep b a := fun g hb ha => h g ha hb
theorem Sep.nil (b : Value) : Sep (.slice none 0 0) b := fun g h => by simp [Value.ownBlock] at h
theorem Sep.row {a b : Value} (h : Sep a b) : a.ownBlock = none ∨ a.ownBlock ≠ b.ownBlock := by
  cases ha : a.ownBlock with
  | none => exact .inl rfl
  | some g => exact .inr fun e => h g ha e.symm
/-- one of them grows -/
theorem Sep.step {a a' b : Value} {n : Nat} (h : Sep a b) (hb : ∀ g, b.ownBlock = some g → g < n) (ha : a'.ownBlock = a.ownBlock ∨ a'.ownBlock = some n) : Sep a' b := by
  intro g hg hbg
  rcases ha with e | e
  · exact h g (e ▸ hg) hbg
  · rw [hg] at e
    have := hb g hbg
    injection e with e
    omega
end Go.Proofs.YtcfkpepohnjdfaaDoor

/- What package role answers, plainly; the tables as cells; Is, May, Turns, Name, and the document's own answers to them. -/
namespace Go.Proofs.YtcfkpepohnjdfaaDoor
set_option linter.unusedVariables false
set_option linter.unusedSimpArgs false
open Go.RowKit

def isB (r : Int) : Bool := decide (0 ≤ r) && decide (r < 4)
def cmdB (c : Int) : Bool := decide (0 ≤ c) && decide (c < 8)
def maysT : List (List Bool) := [[true, true, true, true], [false, true, true, false], [false, true, true, false], [false, true, true, false], [false, false, true, false], [false, false, true, true], [false, false, true, true], [true, true, true, true]]
def mayN (c r : Nat) : Bool := (maysT.getD c []).getD r false
def mayRB (r c : Int) : Bool := isB r && cmdB c && mayN c.toNat r.toNat
def turnsB (c : Int) : Bool := decide (1 ≤ c) && decide (c ≤ 6)
def namesT : List ByteArray := [⟨#[103, 101, 116]⟩, ⟨#[104, 111, 108, 100]⟩, ⟨#[102, 114, 101, 101]⟩, ⟨#[110, 101, 120, 116]⟩, ⟨#[112, 108, 97, 110]⟩, ⟨#[114, 101, 100]⟩, ⟨#[99, 108, 101, 97, 114]⟩, ⟨#[99, 108, 111, 115, 101]⟩]
def nameB (c : Int) : ByteArray := if cmdB c then namesT.getD c.toNat ⟨#[]⟩ else ⟨#[]⟩
def readL (s : ByteArray) : List ByteArray → Int → Int
  | [], _ => -1
  | n :: r, i => if n.toList == s.toList then i else readL s r (i + 1)
def readB (s : ByteArray) : Int := readL s namesT 0
def cmds : List Int := [0, 1, 2, 3, 4, 5, 6, 7]
def roles : List Int := [0, 1, 2, 3]
def allB (r : Int) : List Int := cmds.filter fun c => mayRB r c
def whoB (c : Int) : List Int := roles.filter fun r => mayRB r c

theorem is_any (r : Int) (w : World) : Calls Tryd.prog 21 #[.int .i64 r] w fun e w' => e = .returned (.bool (isB r)) ∧ w' = w := by
  by_cases h0 : 0 ≤ r
  · by_cases h1 : r < 4
    · have hb : isB r = true := by simp [isB, h0, h1]
      rw [hb]
      clear hb
      go_enter Tryd.func21, Tryd.ntmps21
      go_wp2
      go_ret
      exact ⟨rfl, rfl⟩
    · have hb : isB r = false := by simp [isB, h1]
      rw [hb]
      clear hb
      go_enter Tryd.func21, Tryd.ntmps21
      go_wp2
      go_ret
      exact ⟨rfl, rfl⟩
  · have hb : isB r = false := by simp [isB, h0]
    rw [hb]
    clear hb
    go_enter Tryd.func21, Tryd.ntmps21
    go_wp2
    go_ret
    exact ⟨rfl, rfl⟩
theorem nat_of {r : Int} (h : 0 ≤ r) : ∃ n : Nat, r = n := ⟨r.toNat, by omega⟩
end Go.Proofs.YtcfkpepohnjdfaaDoor

/- Turns, Name, and the document's own Is, May, Turns, Name; two lists of numbers held against one another. -/
namespace Go.Proofs.YtcfkpepohnjdfaaDoor
set_option linter.unusedVariables false
set_option linter.unusedSimpArgs false
open Go.RowKit

theorem eight_of {c : Int} (h : cmdB c = true) : c = 0 ∨ c = 1 ∨ c = 2 ∨ c = 3 ∨ c = 4 ∨ c = 5 ∨ c = 6 ∨ c = 7 := by
  have h2 : 0 ≤ c ∧ c < 8 := by simpa [cmdB] using h
  omega
theorem four_of {r : Int} (h : isB r = true) : r = 0 ∨ r = 1 ∨ r = 2 ∨ r = 3 := by
  have h2 : 0 ≤ r ∧ r < 4 := by simpa [isB] using h
  omega
theorem no_cmd {c : Int} (h : cmdB c = false) : (c == 0) = false ∧ (c == 1) = false ∧ (c == 2) = false ∧ (c == 3) = false ∧ (c == 4) = false ∧ (c == 5) = false ∧ (c == 6) = false ∧ (c == 7) = false := by
  have h2 : ¬ (0 ≤ c ∧ c < 8) := by
    intro h3
    simp [cmdB, h3.1, h3.2] at h
  simp only [beq_eq_false_iff_ne, ne_eq]
  omega
theorem no_role {r : Int} (h : isB r = false) : (r == 0) = false ∧ (r == 1) = false ∧ (r == 2) = false ∧ (r == 3) = false := by
  have h2 : ¬ (0 ≤ r ∧ r < 4) := by
    intro h3
    simp [isB, h3.1, h3.2] at h
  simp only [beq_eq_false_iff_ne, ne_eq]
  omega

theorem ris_any (r : Int) (w : World) : Calls Tryd.prog 27 #[.int .i64 r] w fun e w' => e = .returned (.bool (isB r)) ∧ w' = w := by
  by_cases h0 : 0 ≤ r
  · by_cases h1 : r < 4
    · have hb : isB r = true := by simp [isB, h0, h1]
      rw [hb]
      clear hb
      go_enter Tryd.func27, Tryd.ntmps27
      go_wp2
      go_ret
      exact ⟨rfl, rfl⟩
    · have hb : isB r = false := by simp [isB, h1]
      rw [hb]
      clear hb
      go_enter Tryd.func27, Tryd.ntmps27
      go_wp2
      go_ret
      exact ⟨rfl, rfl⟩
  · have hb : isB r = false := by simp [isB, h0]
    rw [hb]
    clear hb
    go_enter Tryd.func27, Tryd.ntmps27
    go_wp2
    go_ret
    exact ⟨rfl, rfl⟩
theorem ints_differ (a b : List Int) (k : Nat) (h : a.getD k 0 ≠ b.getD k 0) : (a == b) = false := by
  rw [beq_eq_false_iff_ne]
  rintro rfl
  exact h rfl
theorem ints_same (a b : List Int) (k : Nat) (ha : a.length = k) (hb : b.length = k) (h : ∀ j, j < k → a.getD j 0 = b.getD j 0) : (a == b) = true := by
  rw [beq_iff_eq]
  refine List.ext_getElem (by omega) fun j h1 h2 => ?_
  have := h j (by omega)
  simpa [List.getD_eq_getElem?_getD, h1, h2] using this
end Go.Proofs.YtcfkpepohnjdfaaDoor

/- Users, plainly: a slice of users as it lies; which may be, where one is found, which role. -/
namespace Go.Proofs.YtcfkpepohnjdfaaDoor
set_option linter.unusedVariables false
set_option linter.unusedSimpArgs false
open Go.RowKit

/-- a user: number, role, where the key lies, and its bytes -/
structure Us where
  no : Int
  role : Int
  A : Option Addr
  n : Nat
  c : Nat
  key : List Int
def Us.zero : Us := ⟨0, 0, none, 0, 0, []⟩
def Us.row (u : Us) : List Value := [.int .i64 u.no, .int .i64 u.role, .slice u.A u.n u.c]
theorem row_len (u : Us) : u.row.length = 3 := rfl
theorem row_one3 (u : Us) : ∀ v ∈ u.row, v.oneCell' = true := by
  intro v hv
  simp only [Us.row, List.mem_cons, List.not_mem_nil, or_false] at hv
  rcases hv with rfl | rfl | rfl <;> rfl
/-- a slice of users -/
structure Uss (w : World) (A : Option Addr) (n c : Nat) (l : List Us) : Prop where
  rws : Rws 3 w A n c (l.map Us.row)
  key : ∀ u ∈ l, Bts w u.A u.n u.c u.key
section
variable {w w' : World} {A : Option Addr} {n c : Nat} {l : List Us}
theorem Uss.len (h : Uss w A n c l) : l.length = n := by rw [← h.rws.len, List.length_map]
theorem Uss.small (h : Uss w A n c l) : n ≤ 9223372036854775807 := h.rws.small
theorem Uss.below (h : Uss w A n c l) (hb : Below w.heap.size w w') : Uss w' A n c l := ⟨h.rws.below hb, fun u hu => (h.key u hu).below hb⟩
theorem Uss.draw (h : Uss w A n c l) (k : Nat) : Uss (w.drewN k) A n c l := ⟨h.rws.draw k, fun u hu => (h.key u hu).draw k⟩
theorem Uss.draw1 (h : Uss w A n c l) : Uss w.drew A n c l := ⟨h.rws.draw1, fun u hu => (h.key u hu).draw1⟩
theorem Uss.more (h : Uss w A n c l) (o : Obj) : Uss (w.alloc o) A n c l := h.below ((Below.refl _ _).alloc (Nat.le_refl _) _)
theorem Uss.nil (w : World) : Uss w none 0 0 [] := ⟨Rws.nil 3 w, fun u hu => by cases hu⟩
/-- one of them -/
theorem Uss.at_ (h : Uss w A n c l) (j : Nat) (hj : j < n) : ∃ b off u, A = some ⟨b, off, none⟩ ∧ l.getD j Us.zero = u ∧ u ∈ l ∧ l[j]? = some u ∧ w.cell? ⟨b, off + j * 3, none⟩ = some (.int .i64 u.no) ∧ w.cell? ⟨b, off + j * 3 + 1, none⟩ = some (.int .i64 u.role) ∧ w.cell? ⟨b, off + j * 3 + 2, none⟩ = some (.slice u.A u.n u.c) ∧ Bts w u.A u.n u.c u.key ∧ u.key.length = u.n := by
  obtain ⟨b, off, hA, hc⟩ := h.rws.at_ (by omega)
  have hl : j < l.length := by rw [h.len]; exact hj
  have hm : l[j] ∈ l := List.getElem_mem hl
  have hr : (l.map Us.row).getD j [] = l[j].row := by simp [List.getD_eq_getElem?_getD, hl]
  refine ⟨b, off, l[j], hA, by simp [List.getD_eq_getElem?_getD, hl], hm, by simp [hl], ?_, ?_, ?_, h.key _ hm, (h.key _ hm).len⟩
  · have := hc j hj 0 (by omega)
    rw [hr] at this
    exact this
  · have := hc j hj 1 (by omega)
    rw [hr] at this
    exact this
  · have := hc j hj 2 (by omega)
    rw [hr] at this
    exact this
end
/-- may this one stand behind the number x? -/
def goodU (x : Int) (u : Us) : Bool := decide (x < u.no) && decide (u.no ≤ 255) && isB u.role && decide (16 ≤ u.n) && decide (u.n ≤ 64)
def mayFrom : Int → List Us → Bool
  | _, [] => true
  | x, u :: l => goodU x u && mayFrom u.no l
def lastFrom : Int → List Us → Int
  | x, [] => x
  | _, u :: l => lastFrom u.no l
def mayU (l : List Us) : Bool := decide (l.length ≤ 8) && mayFrom 0 l
theorem mayFrom_app (l m : List Us) : ∀ x, mayFrom x (l ++ m) = (mayFrom x l && mayFrom (lastFrom x l) m) := by
  induction l with
  | nil => intro x; simp [mayFrom, lastFrom]
  | cons u l ih => intro x; simp [mayFrom, lastFrom, ih, Bool.and_assoc]
theorem lastFrom_app (l m : List Us) : ∀ x, lastFrom x (l ++ m) = lastFrom (lastFrom x l) m := by
  induction l with
  | nil => intro x; rfl
  | cons u l ih => intro x; simp [lastFrom, ih]
theorem take_more {α : Type} {l : List α} {j : Nat} {u : α} (h : l[j]? = some u) : l.take (j + 1) = l.take j ++ [u] := by
  obtain ⟨hj, rfl⟩ := List.getElem?_eq_some_iff.1 h
  exact List.take_succ_eq_append_getElem hj
theorem mayFrom_more {l : List Us} {j : Nat} {u : Us} (h : l[j]? = some u) (x : Int) : mayFrom x (l.take (j + 1)) = (mayFrom x (l.take j) && goodU (lastFrom x (l.take j)) u) := by
  rw [take_more h, mayFrom_app]
  simp [mayFrom]
theorem lastFrom_more {l : List Us} {j : Nat} {u : Us} (h : l[j]? = some u) (x : Int) : lastFrom x (l.take (j + 1)) = u.no := by
  rw [take_more h, lastFrom_app]
  rfl
theorem mayFrom_part {l : List Us} {k : Nat} {x : Int} (h : mayFrom x (l.take k) = false) : mayFrom x l = false := by
  rw [← List.take_append_drop k l, mayFrom_app, h, Bool.false_and]
theorem mayFrom_stop {l : List Us} {j : Nat} {u : Us} {x : Int} (h : l[j]? = some u) (hg : goodU (lastFrom x (l.take j)) u = false) : mayFrom x l = false :=
  mayFrom_part (k := j + 1) (by rw [mayFrom_more h, hg, Bool.and_false])
theorem good_iff {x : Int} {u : Us} : goodU x u = true ↔ x < u.no ∧ u.no ≤ 255 ∧ isB u.role = true ∧ 16 ≤ u.n ∧ u.n ≤ 64 := by
  simp [goodU, and_assoc]
theorem last_low {l : List Us} : ∀ {x : Int}, mayFrom x l = true → x ≤ lastFrom x l := by
  induction l with
  | nil => intro x _; exact Int.le_refl _
  | cons u l ih =>
    intro x h
    rw [mayFrom, Bool.and_eq_true] at h
    have h1 := (good_iff.1 h.1).1
    have h2 := ih h.2
    rw [lastFrom]
    omega
theorem may_all {l : List Us} : ∀ {x : Int}, mayFrom x l = true → ∀ u ∈ l, x < u.no ∧ u.no ≤ 255 ∧ isB u.role = true ∧ 16 ≤ u.n ∧ u.n ≤ 64 := by
  induction l with
  | nil => intro x _ u hu; cases hu
  | cons v l ih =>
    intro x h u hu
    rw [mayFrom, Bool.and_eq_true] at h
    have h1 := good_iff.1 h.1
    rcases List.mem_cons.1 hu with rfl | hu
    · exact h1
    · have := ih h.2 u hu
      exact ⟨by omega, this.2⟩
/-- the numbers rise -/
theorem may_rise {l : List Us} : ∀ {x : Int}, mayFrom x l = true → ∀ (i j : Nat) (u v : Us), i < j → l[i]? = some u → l[j]? = some v → u.no < v.no := by
  induction l with
  | nil => intro x _ i j u v _ h; simp at h
  | cons t l ih =>
    intro x h i j u v hij hi hj
    rw [mayFrom, Bool.and_eq_true] at h
    cases j with
    | zero => omega
    | succ j =>
      rw [List.getElem?_cons_succ] at hj
      cases i with
      | zero =>
        rw [List.getElem?_cons_zero, Option.some.injEq] at hi
        subst hi
        exact (may_all h.2 v (List.mem_of_getElem? hj)).1
      | succ i => exact ih h.2 i j u v (by omega) (by rwa [List.getElem?_cons_succ] at hi) hj
/-- where a number first stands -/
def findIx (no : Int) : List Us → Int → Int
  | [], _ => -1
  | u :: l, i => if u.no = no then i else findIx no l (i + 1)
def findU (l : List Us) (no : Int) : Int := if mayU l = true then findIx no l 0 else -1
def roleU (l : List Us) (no : Int) : Int := if 0 ≤ findU l no then (l.getD (findU l no).toNat Us.zero).role else -1
theorem findIx_no {no : Int} {l : List Us} : ∀ (i : Int), (∀ u ∈ l, u.no ≠ no) → findIx no l i = -1 := by
  induction l with
  | nil => intro i _; rfl
  | cons u l ih =>
    intro i h
    rw [findIx, if_neg (h u (by simp)), ih _ fun v hv => h v (by simp [hv])]
theorem findIx_at {no : Int} {l : List Us} : ∀ (i : Int) (j : Nat) (u : Us), l[j]? = some u → u.no = no → (∀ k v, k < j → l[k]? = some v → v.no ≠ no) → findIx no l i = i + j := by
  induction l with
  | nil => intro i j u h; simp at h
  | cons t l ih =>
    intro i j u h hu hk
    cases j with
    | zero =>
      rw [List.getElem?_cons_zero, Option.some.injEq] at h
      subst h
      rw [findIx, if_pos hu]; simp
    | succ j =>
      rw [List.getElem?_cons_succ] at h
      rw [findIx, if_neg (hk 0 t (by omega) rfl), ih (i + 1) j u h hu fun k v h1 h2 => hk (k + 1) v (by omega) (by rwa [List.getElem?_cons_succ])]
      omega
theorem findIx_take {no : Int} {l : List Us} {n : Nat} (hl : l.length = n) (h : ∀ k v, k < n → l[k]? = some v → v.no ≠ no) : findIx no l 0 = -1 :=
  findIx_no 0 fun u hu => by
    obtain ⟨k, hk, rfl⟩ := List.getElem_of_mem hu
    exact h k _ (by omega) (by simp [hk])
/-- two of them are the same -/
def Us.same (u v : Us) : Bool := u.no == v.no && u.role == v.role && u.key == v.key
def sameU : List Us → List Us → Bool
  | [], [] => true
  | u :: l, v :: m => u.same v && sameU l m
  | _, _ => false
theorem sameU_len : ∀ {l m : List Us}, sameU l m = true → l.length = m.length
  | [], [], _ => rfl
  | u :: l, v :: m, h => by
    rw [sameU, Bool.and_eq_true] at h
    simp [sameU_len h.2]
  | [], v :: m, h => by simp [sameU] at h
  | u :: l, [], h => by simp [sameU] at h
theorem sameU_ne {l m : List Us} (h : l.length ≠ m.length) : sameU l m = false := by
  rw [← Bool.not_eq_true]
  exact fun h2 => h (sameU_len h2)
theorem sameU_take : ∀ {l m : List Us} {j : Nat} {u v : Us}, l[j]? = some u → m[j]? = some v → sameU (l.take (j + 1)) (m.take (j + 1)) = (sameU (l.take j) (m.take j) && u.same v)
  | [], _, j, u, v, h, _ => by simp at h
  | _ :: _, [], j, u, v, _, h => by simp at h
  | s :: l, t :: m, 0, u, v, h, h2 => by
    simp only [List.getElem?_cons_zero, Option.some.injEq] at h h2
    subst h h2
    simp [sameU]
  | s :: l, t :: m, j + 1, u, v, h, h2 => by
    simp only [List.getElem?_cons_succ] at h h2
    rw [List.take_succ_cons, List.take_succ_cons, List.take_succ_cons, List.take_succ_cons, sameU, sameU, sameU_take h h2, Bool.and_assoc]
theorem sameU_stop : ∀ {l m : List Us} {j : Nat} {u v : Us}, l[j]? = some u → m[j]? = some v → u.same v = false → sameU l m = false
  | [], _, j, u, v, h, _, _ => by simp at h
  | _ :: _, [], j, u, v, _, h, _ => by simp at h
  | s :: l, t :: m, 0, u, v, h, h2, h3 => by
    simp only [List.getElem?_cons_zero, Option.some.injEq] at h h2
    subst h h2
    rw [sameU, h3, Bool.false_and]
  | s :: l, t :: m, j + 1, u, v, h, h2, h3 => by
    simp only [List.getElem?_cons_succ] at h h2
    rw [sameU, sameU_stop h h2 h3, Bool.and_false]
/-- gives a bool, a number -/
def GB (b : Bool) (w : World) (e : Ending) (w' : World) : Prop := e = .returned (.bool b) ∧ Below w.heap.size w w'
def GI (i : Int) (w : World) (e : Ending) (w' : World) : Prop := e = .returned (.int .i64 i) ∧ Below w.heap.size w w'
end Go.Proofs.YtcfkpepohnjdfaaDoor

/- The walk over package user's May. -/
namespace Go.Proofs.YtcfkpepohnjdfaaDoor
set_option linter.unusedVariables false
set_option linter.unusedSimpArgs false
open Go.RowKit

set_option maxHeartbeats 1000000 in
theorem umay_any (A : Option Addr) (n c : Nat) (l : List Us) (w : World) (hl : Uss w A n c l) :
    Calls Tryd.prog 15 #[.slice A n c] w (GB (mayU l) w) := by
  have hn := hl.small
  have HLL := Lib.hid hl.len
  by_cases h8 : n ≤ 8
  · have q8 : (n : Int) ≤ 8 := by omega
    go_enter Tryd.func15, Tryd.ntmps15
    go_wp2
    go_step3
    go_wp2
    go_step3
    go_wp2
    go_loopw [3, 4, 12] (fun g x i wr => ∃ k : Nat, k ≤ n ∧ g = .int .i64 k ∧ i = .int .i64 k ∧ x = .int .i64 (lastFrom 0 (l.take k)) ∧ mayFrom 0 (l.take k) = true ∧ Below w.heap.size w wr) (fun _ _ i _ => n - (intOf i).toNat)
    case atStart => exact ⟨0, by omega, rfl, rfl, rfl, rfl, Below.refl _ _⟩
    case round =>
      obtain ⟨k, hk, rfl, rfl, rfl, hm, hb⟩ := hrel
      by_cases hlt : k < n
      · obtain ⟨b, off, u, rfl, -, hul, hu, z0, z1, z2, hkey, hkn⟩ := (hl.below hb).at_ k hlt
        have hmore := mayFrom_more hu 0
        have hlast := lastFrom_more hu 0
        rw [hm, Bool.true_and] at hmore
        obtain ⟨no, role, A', n', c', key⟩ := u
        simp only at z0 z1 z2 hlast
        obtain ⟨x, hx⟩ : ∃ x, x = lastFrom 0 (l.take k) := ⟨_, rfl⟩
        rw [← hx] at hmore ⊢
        have q0 : 0 ≤ (k : Int) := by omega
        have q1 : (k : Int) < n := by omega
        have HB := Lib.hid hb
        have HU := Lib.hid hu
        have HM := Lib.hid hmore
        have HLA := Lib.hid hlast
        have HX := Lib.hid hx
        have hone := one_alloc wr (.cells #[.int .i64 no, .int .i64 role, .slice A' n' c'] 25)
        have HB1 := Lib.hid (hb.trans (hone.mono hb.size))
        have hbad : goodU x ⟨no, role, A', n', c', key⟩ = false → false = mayU l := fun h => by
          have h2 : mayFrom 0 l = false := mayFrom_stop hu (by rw [← hx]; exact h)
          rw [mayU, h2, Bool.and_false]
        have qne : ((k : Int) == (n : Int)) = false := by rw [beq_eq_false_iff_ne]; omega
        clear hb hu hmore hlast hx hone hul hkey hkn hm
        by_cases h1 : x < no
        · by_cases h2 : no ≤ 255
          · cases h3 : isB role with
            | false =>
              have h0 : goodU x ⟨no, role, A', n', c', key⟩ = false := by simp [goodU, h3]
              have HR := Lib.hid h3
              clear h3
              have HR2 := Lib.hid (hbad h0)
              clear hbad h0
              go_wp2_with (go_at_call 21; refine (is_any role _).mono ?_; rintro e w1 ⟨he, rfl⟩; rw [HR.out] at he; subst he)
              try rw [Exit.noGoto_ret]
              go_ret
              exact ⟨congrArg (fun b => Ending.returned (Value.bool b)) HR2.out, HB1.out⟩
            | true =>
              have HR := Lib.hid h3
              by_cases h4 : 16 ≤ n'
              · have h4' : (16 : Int) ≤ n' := by omega
                by_cases h5 : n' ≤ 64
                · have h5' : (n' : Int) ≤ 64 := by omega
                  have hgood : goodU x ⟨no, role, A', n', c', key⟩ = true := good_iff.2 ⟨h1, h2, h3, h4, h5⟩
                  have HM2 := Lib.hid (HM.out.trans hgood)
                  clear hgood hbad h3
                  go_wp2_with (go_at_call 21; refine (is_any role _).mono ?_; rintro e w1 ⟨he, rfl⟩; rw [HR.out] at he; subst he)
                  go_roundw
                  case rel => exact ⟨k + 1, by omega, by go_num, by go_num, by rw [HLA.out], HM2.out, HB1.out⟩
                  case measure => simp [intOf]; omega
                · have h5' : (64 : Int) < n' := by omega
                  have h0 : goodU x ⟨no, role, A', n', c', key⟩ = false := by simp [goodU, h5]
                  clear h3
                  have HR2 := Lib.hid (hbad h0)
                  clear hbad h0
                  go_wp2_with (go_at_call 21; refine (is_any role _).mono ?_; rintro e w1 ⟨he, rfl⟩; rw [HR.out] at he; subst he)
                  try rw [Exit.noGoto_ret]
                  go_ret
                  exact ⟨congrArg (fun b => Ending.returned (Value.bool b)) HR2.out, HB1.out⟩
              · have h4' : (n' : Int) < 16 := by omega
                have h0 : goodU x ⟨no, role, A', n', c', key⟩ = false := by simp [goodU, h4]
                clear h3
                have HR2 := Lib.hid (hbad h0)
                clear hbad h0
                go_wp2_with (go_at_call 21; refine (is_any role _).mono ?_; rintro e w1 ⟨he, rfl⟩; rw [HR.out] at he; subst he)
                try rw [Exit.noGoto_ret]
                go_ret
                exact ⟨congrArg (fun b => Ending.returned (Value.bool b)) HR2.out, HB1.out⟩
          · have h2' : 255 < no := by omega
            have h0 : goodU x ⟨no, role, A', n', c', key⟩ = false := by simp [goodU, h2]
            have HR2 := Lib.hid (hbad h0)
            clear hbad h0
            go_wp2
            try rw [Exit.noGoto_ret]
            go_ret
            exact ⟨congrArg (fun b => Ending.returned (Value.bool b)) HR2.out, HB1.out⟩
        · have h1' : no ≤ x := by omega
          have h0 : goodU x ⟨no, role, A', n', c', key⟩ = false := by simp [goodU, h1]
          have HR2 := Lib.hid (hbad h0)
          clear hbad h0
          go_wp2
          try rw [Exit.noGoto_ret]
          go_ret
          exact ⟨congrArg (fun b => Ending.returned (Value.bool b)) HR2.out, HB1.out⟩
      · have hkn : k = n := by omega
        have hge : ¬ ((k : Int) < n) := by omega
        have qeq : ((k : Int) == (n : Int)) = true := by rw [beq_iff_eq]; omega
        have hr : true = mayU l := by
          rw [hkn, List.take_of_length_le (by rw [HLL.out]; exact Nat.le_refl _)] at hm
          rw [mayU, HLL.out, decide_eq_true h8, hm]
          rfl
        have HR2 := Lib.hid hr
        have HB := Lib.hid hb
        clear hr hm hb
        go_wp2
        try rw [Exit.noGoto_ret]
        go_ret
        exact ⟨congrArg (fun b => Ending.returned (Value.bool b)) HR2.out, HB.out⟩
  · have q8 : (8 : Int) < n := by omega
    have hr : false = mayU l := by rw [mayU, HLL.out, decide_eq_false h8, Bool.false_and]
    have HR := Lib.hid hr
    clear hr
    go_enter Tryd.func15, Tryd.ntmps15
    go_wp2
    go_step3
    go_wp2
    rw [Exit.noGoto_ret]
    go_ret
    exact ⟨congrArg (fun b => Ending.returned (Value.bool b)) HR.out, Below.refl _ _⟩
end Go.Proofs.YtcfkpepohnjdfaaDoor

/- The walk over package user's Find: by halves, by a closure; and over Role. -/
namespace Go.Proofs.YtcfkpepohnjdfaaDoor
set_option linter.unusedVariables false
set_option linter.unusedSimpArgs false
open Go.RowKit

/-- a slice, and a number, that stand in boxes of their own -/
def BoxS (w : World) (g : Nat) (A : Option Addr) (n c : Nat) : Prop := w.heap[g]? = some (.cells #[.slice A n c] 22 (0, 0))
def BoxI (w : World) (g : Nat) (x : Int) : Prop := w.heap[g]? = some (.cells #[.int .i64 x] 3 (0, 0))
theorem BoxS.cell {w : World} {g : Nat} {A : Option Addr} {n c : Nat} (h : BoxS w g A n c) : w.cell? ⟨g, 0, none⟩ = some (.slice A n c) := (cell_of_row _ _ _ _ _ _ h).trans rfl
theorem BoxI.cell {w : World} {g : Nat} {x : Int} (h : BoxI w g x) : w.cell? ⟨g, 0, none⟩ = some (.int .i64 x) := (cell_of_row _ _ _ _ _ _ h).trans rfl
theorem BoxS.below {w w' : World} {g : Nat} {A : Option Addr} {n c : Nat} (h : BoxS w g A n c) (hb : Below w.heap.size w w') : BoxS w' g A n c := (hb.block g (Array.getElem?_eq_some_iff.1 h).1).trans h
theorem BoxI.below {w w' : World} {g : Nat} {x : Int} (h : BoxI w g x) (hb : Below w.heap.size w w') : BoxI w' g x := (hb.block g (Array.getElem?_eq_some_iff.1 h).1).trans h

set_option maxHeartbeats 1000000 in
theorem ufind1_any (A : Option Addr) (n c : Nat) (l : List Us) (no : Int) (g h : Nat) (j : Nat) (u : Us) (w : World) (hl : Uss w A n c l) (hg : BoxS w g A n c) (hh : BoxI w h no) (hj : j < n) (hu : l[j]? = some u) :
    Calls Tryd.prog 32 #[.int .i64 j, .pointer (some ⟨g, 0, none⟩), .pointer (some ⟨h, 0, none⟩)] w fun e w' => e = .returned (.bool (decide (no ≤ u.no))) ∧ ∃ k, w' = w.drewN k := by
  obtain ⟨b, off, u', rfl, -, -, hu', z0, -, -, -, -⟩ := hl.at_ j hj
  obtain rfl : u' = u := by rw [hu] at hu'; exact (Option.some.inj hu').symm
  have q0 : 0 ≤ (j : Int) := by omega
  have q1 : (j : Int) < n := by omega
  have hn := hl.small
  have b1 := hg.cell
  have b2 := hh.cell
  obtain ⟨x, hx⟩ : ∃ x, u'.no = x := ⟨_, rfl⟩
  rw [hx] at z0 ⊢
  clear hx hu hu' hl hg hh
  go_enter Tryd.func32, Tryd.ntmps32
  go_wp2
  go_quiet (fail)
  go_wp2
  go_ret
  exact ⟨rfl, _, rfl⟩
set_option maxHeartbeats 1000000 in
/-- the first one that is not below -/
theorem search_any (A : Option Addr) (n c : Nat) (l : List Us) (no : Int) (g h : Nat) (w : World) (hl : Uss w A n c l) (hg : BoxS w g A n c) (hh : BoxI w h no) (hm : mayFrom 0 l = true) (h8 : n ≤ 8) :
    Calls Tryd.prog 31 #[.int .i64 n, .func (.func 32) #[] #[.pointer (some ⟨g, 0, none⟩), .pointer (some ⟨h, 0, none⟩)]] w fun e w' => ∃ at_ : Nat, e = .returned (.int .i64 at_) ∧ at_ ≤ n ∧ (∀ k v, k < at_ → l[k]? = some v → v.no < no) ∧ (∀ k v, at_ ≤ k → l[k]? = some v → no ≤ v.no) ∧ ∃ k, w' = w.drewN k := by
  have HLL := Lib.hid hl.len
  have HM := Lib.hid hm
  clear hm
  go_enter Tryd.func31, Tryd.ntmps31
  go_wp2
  go_loopw [5, 6] (fun i j wr => ∃ a b : Nat, a ≤ b ∧ b ≤ n ∧ i = .int .i64 a ∧ j = .int .i64 b ∧ (∀ k v, k < a → l[k]? = some v → v.no < no) ∧ (∀ k v, b ≤ k → l[k]? = some v → no ≤ v.no) ∧ ∃ k, wr = w.drewN k) (fun i j _ => (intOf j).toNat - (intOf i).toNat)
  case atStart =>
    refine ⟨0, n, by omega, Nat.le_refl _, rfl, rfl, (fun k v hk => by omega), (fun k v hk hv => ?_), 0, rfl⟩
    have := (List.getElem?_eq_some_iff.1 hv).1
    rw [HLL.out] at this
    omega
  case round =>
    obtain ⟨a, b, hab, hbn, rfl, rfl, hlo, hhi, d, rfl⟩ := hrel
    by_cases hlt : a < b
    · have hlt' : (a : Int) < b := by omega
      obtain ⟨m, hm⟩ : ∃ m, m = (a + b) / 2 := ⟨_, rfl⟩
      have hma : a ≤ m := by omega
      have hmb : m < b := by omega
      have hml : m < l.length := by rw [HLL.out]; omega
      have hu : l[m]? = some l[m] := List.getElem?_eq_getElem hml
      obtain ⟨u, hu2⟩ : ∃ u, u = l[m] := ⟨_, rfl⟩
      rw [← hu2] at hu
      have HC := Lib.hid (ufind1_any A n c l no g h m u (w.drewN d) (hl.draw d) hg hh (by omega) hu)
      have hlo2 : ¬ no ≤ u.no → ∀ k v, k < m + 1 → l[k]? = some v → v.no < no := fun hno k v hk hv => by
        by_cases e : k = m
        · subst e
          rw [hu] at hv
          obtain rfl := Option.some.inj hv
          omega
        · have := may_rise HM.out k m v u (by omega) hv hu
          omega
      have hhi2 : no ≤ u.no → ∀ k v, m ≤ k → l[k]? = some v → no ≤ v.no := fun hno k v hk hv => by
        by_cases e : k = m
        · subst e
          rw [hu] at hv
          obtain rfl := Option.some.inj hv
          exact hno
        · have := may_rise HM.out m k u v (by omega) hu hv
          omega
      have HLO := Lib.hid hlo
      have HHI := Lib.hid hhi
      have HLO2 := Lib.hid hlo2
      have HHI2 := Lib.hid hhi2
      clear hlo hhi hlo2 hhi2 hu hu2 hml
      have em : ((m : Nat) : Int) = ((a : Int) + b) / 2 := by omega
      rw [em] at HC
      have HEM := Lib.hid em
      clear em
      obtain ⟨x, hx⟩ : ∃ x, u.no = x := ⟨_, rfl⟩
      rw [hx] at HC HLO2 HHI2
      clear hx
      by_cases hno : no ≤ x
      · have hd : decide (no ≤ x) = true := by rw [decide_eq_true_eq]; exact hno
        rw [hd] at HC
        have HHI3 := Lib.hid (HHI2.out hno)
        clear HHI2 HLO2 hd HHI
        go_wp2_with (go_at_call 32; refine HC.out.mono ?_; rintro e w1 ⟨rfl, j1, rfl⟩)
        go_roundw
        case rel => exact ⟨a, m, by omega, by omega, rfl, by rw [HEM.out], HLO.out, HHI3.out, _, rfl⟩
        case measure => simp [intOf]; omega
      · have hd : decide (no ≤ x) = false := by rw [decide_eq_false_iff_not]; exact hno
        rw [hd] at HC
        have HLO3 := Lib.hid (HLO2.out hno)
        clear HHI2 HLO2 hd HLO
        go_wp2_with (go_at_call 32; refine HC.out.mono ?_; rintro e w1 ⟨rfl, j1, rfl⟩)
        go_roundw
        case rel => exact ⟨m + 1, b, by omega, by omega, by rw [← HEM.out]; go_num, rfl, HLO3.out, HHI.out, _, rfl⟩
        case measure => simp [intOf]; omega
    · have hge : ¬ ((a : Int) < b) := by omega
      obtain rfl : a = b := by omega
      have HLO := Lib.hid hlo
      have HHI := Lib.hid hhi
      clear hlo hhi
      go_wp2
      go_ret
      exact ⟨a, rfl, hbn, HLO.out, HHI.out, _, rfl⟩
end Go.Proofs.YtcfkpepohnjdfaaDoor
