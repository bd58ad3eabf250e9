/- Messages as terms: a term as a datum of its own; its size, its depth, whether it may be, whether two are the same. -/
import Derived.Test.YtcpeaeefphgbaaaBasStops
import Derived.RangeFuncBox
import Derived.Laws.EntriesVeiled
namespace Go.Proofs.Ytcpeaeefphgbaaa
set_option linter.unusedVariables false
set_option linter.unusedSimpArgs false
open Go.RowKit

/-- a term: its kind, its number, its Args -/
inductive Te where
  | node (k n : Int) (l : List Te)
theorem Te.ind {p : Te → Prop} (h : ∀ k n l, (∀ t ∈ l, p t) → p (.node k n l)) : ∀ t, p t := by
  intro t
  refine Te.rec (motive_1 := p) (motive_2 := fun l => ∀ t ∈ l, p t) (fun k n l ih => h k n l ih) (fun t ht => by cases ht) (fun a l ha hl t ht => ?_) t
  rcases List.mem_cons.1 ht with rfl | ht
  · exact ha
  · exact hl t ht
mutual
def Te.size : Te → Nat
  | .node _ _ l => Te.sizes l + 1
def Te.sizes : List Te → Nat
  | [] => 0
  | t :: l => t.size + Te.sizes l
end
mutual
def Te.depth : Te → Nat
  | .node _ _ l => Te.depths l + 1
def Te.depths : List Te → Nat
  | [] => 0
  | t :: l => max t.depth (Te.depths l)
end
/-- may a node be, whatever its Args are? -/
def nodeB (k n : Int) (m : Nat) : Bool := decide ((k = 0 ∨ k = 1) ∧ 0 ≤ n ∧ m = 0 ∨ (k = 2 ∨ k = 3) ∧ n = 0 ∧ m = 2)
mutual
def Te.good : Te → Bool
  | .node k n l => nodeB k n l.length && Te.goods l
def Te.goods : List Te → Bool
  | [] => true
  | t :: l => t.good && Te.goods l
end
def Te.may (t : Te) : Bool := t.good && decide (t.size ≤ 60) && decide (t.depth ≤ 12)
mutual
def Te.same : Te → Te → Bool
  | .node k n l, .node k' n' l' => decide (k = k') && decide (n = n') && Te.sames l l'
def Te.sames : List Te → List Te → Bool
  | [], [] => true
  | t :: l, u :: l' => t.same u && Te.sames l l'
  | _, _ => false
end
theorem Te.same_iff : ∀ t u : Te, t.same u = true ↔ t = u := by
  intro t
  refine Te.rec (motive_1 := fun t => ∀ u, t.same u = true ↔ t = u) (motive_2 := fun l => ∀ l', Te.sames l l' = true ↔ l = l') ?_ ?_ ?_ t
  · rintro k n l ih ⟨k', n', l'⟩
    simp only [Te.same, Bool.and_eq_true, decide_eq_true_eq, ih, Te.node.injEq, and_assoc]
  · rintro (_ | ⟨u, l'⟩) <;> simp [Te.sames]
  · rintro a l ha hl (_ | ⟨u, l'⟩)
    · simp [Te.sames]
    · simp only [Te.sames, Bool.and_eq_true, ha, hl, List.cons.injEq]
theorem Te.same_refl (t : Te) : t.same t = true := (Te.same_iff t t).2 rfl
theorem Te.same_comm (t u : Te) : t.same u = u.same t := by
  rw [Bool.eq_iff_iff, Te.same_iff, Te.same_iff]
  exact ⟨Eq.symm, Eq.symm⟩
theorem Te.sizes_take (l : List Te) (k : Nat) (h : k < l.length) : Te.sizes (l.take (k + 1)) = Te.sizes (l.take k) + l[k].size := by
  induction l generalizing k with
  | nil => simp at h
  | cons t l ih =>
    cases k with
    | zero => simp [Te.sizes]
    | succ k =>
      simp only [List.take_succ_cons, Te.sizes, List.getElem_cons_succ]
      rw [ih k (by simpa using h)]
      omega
theorem Te.sizes_le (l : List Te) (k : Nat) : Te.sizes (l.take k) ≤ Te.sizes l := by
  induction l generalizing k with
  | nil => simp
  | cons t l ih =>
    cases k with
    | zero => simp [Te.sizes]
    | succ k => simp only [List.take_succ_cons, Te.sizes]; have := ih k; omega
theorem Te.depths_take (l : List Te) (k : Nat) (h : k < l.length) : Te.depths (l.take (k + 1)) = max (Te.depths (l.take k)) l[k].depth := by
  induction l generalizing k with
  | nil => simp at h
  | cons t l ih =>
    cases k with
    | zero => simp [Te.depths]
    | succ k =>
      simp only [List.take_succ_cons, Te.depths, List.getElem_cons_succ]
      rw [ih k (by simpa using h)]
      omega
theorem Te.depths_le (l : List Te) (k : Nat) : Te.depths (l.take k) ≤ Te.depths l := by
  induction l generalizing k with
  | nil => simp
  | cons t l ih =>
    cases k with
    | zero => simp [Te.depths]
    | succ k => simp only [List.take_succ_cons, Te.depths]; have := ih k; omega
theorem Te.depth_mem {l : List Te} {k : Nat} (h : k < l.length) : l[k].depth ≤ Te.depths l := by
  have h1 := Te.depths_take l k h
  have h2 := Te.depths_le l (k + 1)
  omega
theorem Te.size_mem {l : List Te} {k : Nat} (h : k < l.length) : Te.sizes (l.take k) + l[k].size ≤ Te.sizes l := by
  have h1 := Te.sizes_take l k h
  have h2 := Te.sizes_le l (k + 1)
  omega
theorem Te.size_pos (t : Te) : 0 < t.size := by cases t; simp [Te.size]
theorem Te.depth_pos (t : Te) : 0 < t.depth := by cases t; simp [Te.depth]
theorem Te.depth_le_size : ∀ t : Te, t.depth ≤ t.size := by
  intro t
  refine Te.rec (motive_1 := fun t => t.depth ≤ t.size) (motive_2 := fun l => Te.depths l ≤ Te.sizes l) ?_ ?_ ?_ t
  · intro k n l h; simp only [Te.depth, Te.size]; omega
  · simp [Te.depths]
  · intro a l h1 h2; simp only [Te.depths, Te.sizes]; omega
theorem Te.goods_iff (l : List Te) : Te.goods l = true ↔ ∀ t ∈ l, t.good = true := by
  induction l with
  | nil => simp [Te.goods]
  | cons t l ih => simp [Te.goods, ih]
theorem Te.goods_get (l : List Te) : Te.goods l = true ↔ ∀ k (h : k < l.length), l[k].good = true := by
  rw [Te.goods_iff]
  exact ⟨fun h k hk => h _ (List.getElem_mem hk), fun h t ht => by obtain ⟨k, hk, rfl⟩ := List.getElem_of_mem ht; exact h k hk⟩
theorem Te.sames_get (l l' : List Te) (h : l.length = l'.length) : Te.sames l l' = true ↔ ∀ k (h1 : k < l.length) (h2 : k < l'.length), l[k].same l'[k] = true := by
  induction l generalizing l' with
  | nil => cases l' <;> simp [Te.sames] at h ⊢
  | cons t l ih =>
    cases l' with
    | nil => simp at h
    | cons u l' =>
      simp only [Te.sames, Bool.and_eq_true]
      rw [ih l' (by simpa using h)]
      constructor
      · rintro ⟨h1, h2⟩ k hk hk'
        cases k with
        | zero => exact h1
        | succ k => exact h2 k (by simpa using hk) (by simpa using hk')
      · intro h3
        exact ⟨h3 0 (by simp) (by simp), fun k hk hk' => h3 (k + 1) (by simpa using hk) (by simpa using hk')⟩
theorem Te.sames_take (l l' : List Te) (h : l.length = l'.length) (j : Nat) (h1 : j < l.length) (h2 : j < l'.length) : Te.sames (l.take (j + 1)) (l'.take (j + 1)) = (Te.sames (l.take j) (l'.take j) && l[j].same l'[j]) := by
  induction l generalizing l' j with
  | nil => simp at h1
  | cons t l ih =>
    cases l' with
    | nil => simp at h
    | cons u l' =>
      cases j with
      | zero => simp [Te.sames]
      | succ j =>
        simp only [List.take_succ_cons, Te.sames, List.getElem_cons_succ]
        rw [ih l' (by simpa using h) j (by simpa using h1) (by simpa using h2), Bool.and_assoc]
theorem Te.sames_stop (l l' : List Te) (h : l.length = l'.length) (j : Nat) (h1 : j < l.length) (h2 : j < l'.length) (hs : l[j].same l'[j] = false) : Te.sames l l' = false := by
  rw [← Bool.not_eq_true, Te.sames_get l l' h]
  intro hh
  rw [hh j h1 h2] at hs
  cases hs
theorem Te.sames_len {l l' : List Te} (h : Te.sames l l' = true) : l.length = l'.length := by
  induction l generalizing l' with
  | nil => cases l' <;> simp [Te.sames] at h ⊢
  | cons t l ih =>
    cases l' with
    | nil => simp [Te.sames] at h
    | cons u l' =>
      simp only [Te.sames, Bool.and_eq_true] at h
      simp [ih h.2]

/-- a term as it lies in memory, in blocks of P alone -/
inductive Lies (P : Nat → Prop) (w : World) : Te → List Value → Prop
  | mk {k n : Int} {A : Option Addr} {m c : Nat} {l : List Te} {rows : List (List Value)} (hr : Rws 3 w A m c rows) (hP : 0 < m → ∀ a, A = some a → P a.block) (hl : l.length = m)
      (hx : ∀ i (hi : i < l.length), Lies P w l[i] (rows.getD i [])) : Lies P w (.node k n l) [.int .i64 k, .int .i64 n, .slice A m c]
theorem Lies.three {P : Nat → Prop} {w : World} {t : Te} {row : List Value} (h : Lies P w t row) : ∃ k n A m c, row = [.int .i64 k, .int .i64 n, .slice A m c] := by
  cases h
  exact ⟨_, _, _, _, _, rfl⟩
theorem Rws.keep {k : Nat} {w w' : World} {A : Option Addr} {n c : Nat} {rows : List (List Value)} (h : Rws k w A n c rows) (hb : 0 < n → ∀ a, A = some a → w'.heap[a.block]? = w.heap[a.block]?) : Rws k w' A n c rows := by
  refine ⟨h.len, h.wid, h.one, h.le, h.max, h.bare, fun hn => ?_⟩
  obtain ⟨b, off, hA, hc⟩ := h.at_ hn
  refine ⟨b, off, hA, fun j hj i hi => ?_⟩
  rw [World.cell?_of_block (w := w) (a := ⟨b, off + j * k + i, none⟩) (hb hn ⟨b, off, none⟩ hA)]
  exact hc j hj i hi
theorem Lies.keep {P : Nat → Prop} {w w' : World} {t : Te} {row : List Value} (h : Lies P w t row) (hb : ∀ b, P b → w'.heap[b]? = w.heap[b]?) : Lies P w' t row := by
  induction h with
  | mk hr hP hl hx ih => exact .mk (hr.keep fun hm a ha => hb _ (hP hm a ha)) hP hl ih
theorem Lies.mono {P P' : Nat → Prop} {w : World} {t : Te} {row : List Value} (h : Lies P w t row) (hp : ∀ b, P b → P' b) : Lies P' w t row := by
  induction h with
  | mk hr hP hl hx ih => exact .mk hr (fun hm a ha => hp _ (hP hm a ha)) hl ih
theorem Lies.behind {B : Nat} {w w' : World} {t : Te} {row : List Value} (h : Lies (· < B) w t row) (hb : Below B w w') : Lies (· < B) w' t row := h.keep fun b hlt => hb.block b hlt
theorem Lies.old {w : World} {t : Te} {row : List Value} {P : Nat → Prop} (h : Lies P w t row) : Lies (· < w.heap.size) w t row := by
  induction h with
  | mk hr hP hl hx ih =>
    refine .mk hr (fun hm a ha => ?_) hl ih
    obtain ⟨b, off, hA, hc⟩ := hr.at_ hm
    rw [hA] at ha
    injection ha with ha
    subst ha
    exact block_lt_of_cell (hc 0 hm 0 (by omega))
theorem Lies.both {w : World} {t : Te} {row : List Value} {P : Nat → Prop} (h : Lies P w t row) : Lies (fun b => P b ∧ b < w.heap.size) w t row := by
  induction h with
  | mk hr hP hl hx ih =>
    refine .mk hr (fun hm a ha => ⟨hP hm a ha, ?_⟩) hl ih
    obtain ⟨b, off, hA, hc⟩ := hr.at_ hm
    rw [hA] at ha
    injection ha with ha
    subst ha
    exact block_lt_of_cell (hc 0 hm 0 (by omega))
/-- the fields of a term's row, in three names -/
structure Is (P : Nat → Prop) (w : World) (t : Te) (k n : Int) (A : Option Addr) (m c : Nat) : Prop where
  lies : Lies P w t [.int .i64 k, .int .i64 n, .slice A m c]
theorem Is.inv {P : Nat → Prop} {w : World} {t : Te} {k n : Int} {A : Option Addr} {m c : Nat} (h : Is P w t k n A m c) :
    ∃ l rows, t = .node k n l ∧ l.length = m ∧ m ≤ c ∧ c ≤ maxLen ∧ Rws 3 w A m c rows ∧ (0 < m → ∀ a, A = some a → P a.block) ∧ ∀ i (hi : i < l.length), Lies P w l[i] (rows.getD i []) := by
  obtain ⟨h⟩ := h
  cases h with
  | mk hr hP hl hx => exact ⟨_, _, rfl, hl, hr.le, hr.max, hr, hP, hx⟩
/-- the cells of the i-th Arg, and what lies there -/
theorem Is.arg {P : Nat → Prop} {w : World} {k n : Int} {l : List Te} {A : Option Addr} {m c : Nat} (h : Is P w (.node k n l) k n A m c) (i : Nat) (hi : i < m) (hil : i < l.length) :
    ∃ b off k' n' A' m' c', A = some ⟨b, off, none⟩ ∧ P b ∧ b < w.heap.size ∧ Is P w l[i] k' n' A' m' c' ∧ w.cell? ⟨b, off + i * 3, none⟩ = some (.int .i64 k') ∧ w.cell? ⟨b, off + i * 3 + 1, none⟩ = some (.int .i64 n') ∧ w.cell? ⟨b, off + i * 3 + 2, none⟩ = some (.slice A' m' c') := by
  obtain ⟨l', rows, he, hl, _, _, hr, hP, hx⟩ := h.inv
  injection he with _ _ he
  subst he
  obtain ⟨b, off, hA, hc⟩ := hr.at_ (by omega)
  have hli := hx i hil
  obtain ⟨k', n', A', m', c', hrow⟩ := hli.three
  have h0 := hc i hi 0 (by omega)
  have h1 := hc i hi 1 (by omega)
  have h2 := hc i hi 2 (by omega)
  rw [hrow] at hli h0 h1 h2
  exact ⟨b, off, k', n', A', m', c', hA, hP (by omega) _ hA, block_lt_of_cell h0, ⟨hli⟩, h0, h1, h2⟩
theorem Is.len {P : Nat → Prop} {w : World} {k n : Int} {l : List Te} {k' n' : Int} {A : Option Addr} {m c : Nat} (h : Is P w (.node k n l) k' n' A m c) : l.length = m ∧ k' = k ∧ n' = n ∧ m ≤ 9223372036854775807 := by
  obtain ⟨l', rows, he, hl, h1, h2, _⟩ := h.inv
  injection he with e1 e2 e3
  subst e1 e2 e3
  unfold maxLen at h2
  exact ⟨hl, rfl, rfl, by omega⟩
/-- what holds of a term that lies there if it holds of its Args -/
theorem Is.ind {P : Nat → Prop} {w : World} {C : Te → Int → Int → Option Addr → Nat → Nat → Prop}
    (h : ∀ k n l A m c, Is P w (.node k n l) k n A m c → (∀ j (hj : j < l.length) k' n' A' m' c', Is P w l[j] k' n' A' m' c' → C l[j] k' n' A' m' c') → C (.node k n l) k n A m c) :
    ∀ t k n A m c, Is P w t k n A m c → C t k n A m c := by
  intro t
  refine Te.ind (p := fun t => ∀ k n A m c, Is P w t k n A m c → C t k n A m c) (fun k n l ih => ?_) t
  intro k' n' A m c hI
  obtain ⟨l', rows, he, _⟩ := hI.inv
  injection he with e1 e2 e3
  subst e1 e2 e3
  exact h _ _ _ _ _ _ hI fun j hj k' n' A' m' c' hI' => ih _ (List.getElem_mem hj) k' n' A' m' c' hI'
theorem Is.below {B : Nat} {w w' : World} {t : Te} {k n : Int} {A : Option Addr} {m c : Nat} (h : Is (· < B) w t k n A m c) (hb : Below B w w') : Is (· < B) w' t k n A m c := ⟨h.lies.behind hb⟩
theorem Is.mono {P P' : Nat → Prop} {w : World} {t : Te} {k n : Int} {A : Option Addr} {m c : Nat} (h : Is P w t k n A m c) (hp : ∀ b, P b → P' b) : Is P' w t k n A m c := ⟨h.lies.mono hp⟩
theorem Is.keep {P : Nat → Prop} {w w' : World} {t : Te} {k n : Int} {A : Option Addr} {m c : Nat} (h : Is P w t k n A m c) (hb : ∀ b, P b → w'.heap[b]? = w.heap[b]?) : Is P w' t k n A m c := ⟨h.lies.keep hb⟩
theorem Is.both {P : Nat → Prop} {w : World} {t : Te} {k n : Int} {A : Option Addr} {m c : Nat} (h : Is P w t k n A m c) : Is (fun b => P b ∧ b < w.heap.size) w t k n A m c := ⟨h.lies.both⟩
theorem Is.strip {P Q : Nat → Prop} {w : World} {t : Te} {k n : Int} {A : Option Addr} {m c : Nat} (h : Is (fun b => P b ∧ Q b) w t k n A m c) : Is P w t k n A m c := h.mono fun _ hb => hb.1
/-- it lies in any world that keeps what was there -/
theorem Is.later {P : Nat → Prop} {w w' : World} {t : Te} {k n : Int} {A : Option Addr} {m c : Nat} (h : Is P w t k n A m c) (hb : Below w.heap.size w w') : Is P w' t k n A m c := (h.both.keep fun b hh => hb.block b hh.2).strip
theorem Is.old {P : Nat → Prop} {w : World} {t : Te} {k n : Int} {A : Option Addr} {m c : Nat} (h : Is P w t k n A m c) : Is (· < w.heap.size) w t k n A m c := ⟨h.lies.old⟩
end Go.Proofs.Ytcpeaeefphgbaaa
