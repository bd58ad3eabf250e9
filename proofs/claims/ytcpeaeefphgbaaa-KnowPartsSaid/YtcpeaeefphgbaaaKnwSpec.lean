/- What is known: the parts of terms, each once; what is made of them; which keys are lacked. -/
import Derived.Test.YtcpeaeefphgbaaaTrmSpec
namespace Go.Proofs.Ytcpeaeefphgbaaa
set_option linter.unusedVariables false
set_option linter.unusedSimpArgs false
open Go.RowKit

/-- what a pair is opened to: its Args; any other one to nothing -/
def Te.opened : Te → List Te
  | .node k n l => if k = 2 then l else []
mutual
/-- the parts of a term: it, and, if it is a pair, those of its Args -/
def Te.parts : Te → List Te
  | .node k n l => .node k n l :: (if k = 2 then Te.partsL l else [])
def Te.partsL : List Te → List Te
  | [] => []
  | t :: l => t.parts ++ Te.partsL l
end
def isIn (L : List Te) (t : Te) : Bool := L.any fun x => x.same t
theorem isIn_iff {L : List Te} {t : Te} : isIn L t = true ↔ t ∈ L := by
  simp only [isIn, List.any_eq_true, Te.same_iff]
  exact ⟨fun ⟨x, h, e⟩ => e ▸ h, fun h => ⟨t, h, rfl⟩⟩
theorem isIn_no {L : List Te} {t : Te} : isIn L t = false ↔ t ∉ L := by
  rw [← isIn_iff, Bool.not_eq_true]
/-- the terms of a list behind others, each once -/
def adds (acc : List Te) : List Te → List Te
  | [] => acc
  | t :: l => adds (if isIn acc t then acc else acc ++ [t]) l
theorem adds_append (acc l m : List Te) : adds acc (l ++ m) = adds (adds acc l) m := by
  induction l generalizing acc with
  | nil => rfl
  | cons t l ih => exact ih _
theorem mem_adds {acc l : List Te} {t : Te} : t ∈ adds acc l ↔ t ∈ acc ∨ t ∈ l := by
  induction l generalizing acc with
  | nil => simp [adds]
  | cons u l ih =>
    rw [adds, ih]
    by_cases h : isIn acc u = true
    · rw [if_pos h]
      have := isIn_iff.1 h
      constructor
      · rintro (h1 | h1)
        · exact .inl h1
        · exact .inr (List.mem_cons_of_mem _ h1)
      · rintro (h1 | h1)
        · exact .inl h1
        · rcases List.mem_cons.1 h1 with rfl | h1
          · exact .inl this
          · exact .inr h1
    · rw [if_neg h]
      simp only [List.mem_append, List.mem_cons, List.not_mem_nil, or_false]
      constructor
      · rintro ((h1 | h1) | h1)
        · exact .inl h1
        · exact .inr (.inl h1)
        · exact .inr (.inr h1)
      · rintro (h1 | h1 | h1)
        · exact .inl (.inl h1)
        · exact .inl (.inr h1)
        · exact .inr h1
theorem adds_old {acc l : List Te} (h : ∀ t ∈ l, t ∈ acc) : adds acc l = acc := by
  induction l with
  | nil => rfl
  | cons t l ih => rw [adds, if_pos (isIn_iff.2 (h t (by simp))), ih fun u hu => h u (by simp [hu])]
theorem adds_len (acc l : List Te) : (adds acc l).length ≤ acc.length + l.length := by
  induction l generalizing acc with
  | nil => simp [adds]
  | cons t l ih =>
    rw [adds]
    have := ih (if isIn acc t = true then acc else acc ++ [t])
    split at this
    · rename_i h; rw [if_pos h]; simp only [List.length_cons]; omega
    · rename_i h; rw [if_neg h]; simp only [List.length_append, List.length_cons, List.length_nil] at this ⊢; omega
theorem adds_nodup {acc l : List Te} (h : acc.Nodup) : (adds acc l).Nodup := by
  induction l generalizing acc with
  | nil => exact h
  | cons t l ih =>
    rw [adds]
    split
    · exact ih h
    · rename_i hn
      refine ih (List.nodup_append.2 ⟨h, by simp, ?_⟩)
      intro x hx y hy
      rw [List.mem_singleton] at hy
      subst hy
      rintro rfl
      exact hn (isIn_iff.2 hx)
theorem Te.partsL_append (l m : List Te) : Te.partsL (l ++ m) = Te.partsL l ++ Te.partsL m := by
  induction l with
  | nil => rfl
  | cons t l ih => rw [List.cons_append, Te.partsL, Te.partsL, ih, List.append_assoc]
theorem Te.mem_partsL {l : List Te} {t : Te} : t ∈ Te.partsL l ↔ ∃ u ∈ l, t ∈ u.parts := by
  induction l with
  | nil => simp [Te.partsL]
  | cons u l ih => simp [Te.partsL, ih]
theorem Te.parts_eq (t : Te) : t.parts = t :: Te.partsL t.opened := by
  obtain ⟨k, n, l⟩ := t
  rw [Te.parts, Te.opened]
  split
  · rfl
  · rfl
theorem Te.mem_self (t : Te) : t ∈ t.parts := by rw [Te.parts_eq]; simp
theorem Te.sizes_append (l m : List Te) : Te.sizes (l ++ m) = Te.sizes l + Te.sizes m := by
  induction l with
  | nil => simp [Te.sizes]
  | cons t l ih => simp only [List.cons_append, Te.sizes, ih]; omega
theorem Te.sizes_mem {l : List Te} {t : Te} (h : t ∈ l) : t.size ≤ Te.sizes l := by
  induction l with
  | nil => cases h
  | cons u l ih =>
    rcases List.mem_cons.1 h with rfl | h
    · simp only [Te.sizes]; omega
    · have := ih h; simp only [Te.sizes]; omega
theorem Te.opened_size (t : Te) : Te.sizes t.opened < t.size := by
  obtain ⟨k, n, l⟩ := t
  rw [Te.opened, Te.size]
  split
  · omega
  · simp [Te.sizes]
theorem Te.opened_mem {t u : Te} (h : u ∈ t.opened) : u.size < t.size := by
  have := Te.sizes_mem h
  have := t.opened_size
  omega
theorem Te.parts_len : ∀ t : Te, t.parts.length ≤ t.size := by
  intro t
  refine Te.rec (motive_1 := fun t => t.parts.length ≤ t.size) (motive_2 := fun l => (Te.partsL l).length ≤ Te.sizes l) ?_ ?_ ?_ t
  · intro k n l h
    rw [Te.parts, Te.size]
    split
    · simp only [List.length_cons]; omega
    · simp
  · simp [Te.partsL]
  · intro t l h1 h2
    simp only [Te.partsL, Te.sizes, List.length_append]; omega
theorem Te.partsL_len (l : List Te) : (Te.partsL l).length ≤ Te.sizes l := by
  induction l with
  | nil => simp [Te.partsL]
  | cons t l ih => simp only [Te.partsL, Te.sizes, List.length_append]; have := t.parts_len; omega
/-- the parts of a part are parts -/
theorem Te.parts_trans : ∀ t u v : Te, u ∈ t.parts → v ∈ u.parts → v ∈ t.parts := by
  intro t
  refine Te.ind (p := fun t => ∀ u v : Te, u ∈ t.parts → v ∈ u.parts → v ∈ t.parts) (fun k n l ih u v hu hv => ?_) t
  rw [Te.parts] at hu ⊢
  rcases List.mem_cons.1 hu with rfl | hu
  · rw [Te.parts] at hv
    exact hv
  · by_cases hk : k = 2
    · rw [if_pos hk] at hu ⊢
      obtain ⟨x, hx, hu⟩ := Te.mem_partsL.1 hu
      exact List.mem_cons_of_mem _ (Te.mem_partsL.2 ⟨x, hx, ih x hx u v hu hv⟩)
    · rw [if_neg hk] at hu
      cases hu
/-- of all that is no greater the parts are there, too -/
def Shuts (m : Nat) (acc : List Te) : Prop := ∀ y ∈ acc, y.size ≤ m → ∀ z ∈ y.parts, z ∈ acc
theorem Shuts.adds {m : Nat} {acc : List Te} (h : Shuts m acc) (t : Te) : Shuts m (adds acc t.parts) := by
  intro y hy hm z hz
  rcases mem_adds.1 hy with h1 | h1
  · exact mem_adds.2 (.inl (h y h1 hm z hz))
  · exact mem_adds.2 (.inr (t.parts_trans y z h1 hz))
/-- what is taken by a list of what is left: the first one is behind those that are had, and its Args, if it is a pair, ahead of what is left -/
def wl (acc : List Te) : List Te → List Te
  | [] => acc
  | t :: left => if isIn acc t then wl acc left else wl (acc ++ [t]) (t.opened ++ left)
termination_by left => Te.sizes left
decreasing_by
  · simp only [Te.sizes]; have := t.size_pos; omega
  · rw [Te.sizes_append]; simp only [Te.sizes]; have := t.opened_size; omega
theorem wl_list (n : Nat) (h : ∀ t : Te, t.size ≤ n → ∀ acc left, Shuts t.size acc → wl acc (t :: left) = wl (adds acc t.parts) left) :
    ∀ (l : List Te), (∀ t ∈ l, t.size ≤ n) → ∀ acc left, Shuts n acc → wl acc (l ++ left) = wl (adds acc (Te.partsL l)) left ∧ Shuts n (adds acc (Te.partsL l)) := by
  intro l
  induction l with
  | nil => intro _ acc left ha; exact ⟨rfl, ha⟩
  | cons t l ih =>
    intro hl acc left ha
    have ht := hl t (by simp)
    rw [List.cons_append, h t ht acc _ (fun y hy hm => ha y hy (Nat.le_trans hm ht)), Te.partsL, adds_append]
    exact ih (fun u hu => hl u (by simp [hu])) _ left (ha.adds t)
theorem wl_one : ∀ (n : Nat) (t : Te), t.size ≤ n → ∀ acc left, Shuts t.size acc → wl acc (t :: left) = wl (adds acc t.parts) left := by
  intro n
  induction n with
  | zero => intro t ht; have := t.size_pos; omega
  | succ n ih =>
    intro t ht acc left ha
    rw [wl]
    by_cases hi : isIn acc t = true
    · rw [if_pos hi, adds_old (ha t (isIn_iff.1 hi) (Nat.le_refl _))]
    · rw [if_neg hi]
      have hsz : ∀ u ∈ t.opened, u.size ≤ t.size - 1 := fun u hu => by have := Te.opened_mem hu; omega
      have hsh : Shuts (t.size - 1) (acc ++ [t]) := by
        intro y hy hm z hz
        rcases List.mem_append.1 hy with h1 | h1
        · exact List.mem_append_left _ (ha y h1 (by omega) z hz)
        · rw [List.mem_singleton] at h1
          subst h1
          have := y.size_pos
          omega
      have h2 := (wl_list (t.size - 1) (fun u hu => ih u (by omega)) t.opened hsz (acc ++ [t]) left hsh).1
      rw [h2]
      have h3 : adds acc t.parts = adds (acc ++ [t]) (Te.partsL t.opened) := by
        rw [Te.parts_eq, adds, if_neg hi]
      rw [h3]
/-- the parts of all of a list, each once -/
def known (l : List Te) : List Te := adds [] (Te.partsL l)
theorem wl_known (l : List Te) : wl [] l = known l := by
  have h := (wl_list (Te.sizes l) (fun t ht => wl_one _ t ht) l (fun t ht => Te.sizes_mem ht) [] [] (fun y hy => by cases hy)).1
  rw [List.append_nil] at h
  rw [h, wl, known]
theorem mem_known {l : List Te} {t : Te} : t ∈ known l ↔ ∃ u ∈ l, t ∈ u.parts := by
  rw [known, mem_adds, Te.mem_partsL]
  simp
theorem known_shut {l : List Te} {t u : Te} (ht : t ∈ known l) (hu : u ∈ t.parts) : u ∈ known l := by
  obtain ⟨x, hx, h1⟩ := mem_known.1 ht
  exact mem_known.2 ⟨x, hx, x.parts_trans t u h1 hu⟩
theorem known_mono {l m : List Te} (h : ∀ t ∈ l, t ∈ m) {t : Te} (ht : t ∈ known l) : t ∈ known m := by
  obtain ⟨x, hx, h1⟩ := mem_known.1 ht
  exact mem_known.2 ⟨x, h x hx, h1⟩
theorem known_len (l : List Te) : (known l).length ≤ Te.sizes l := by
  have h1 := adds_len [] (Te.partsL l)
  have h2 := Te.partsL_len l
  rw [List.length_nil] at h1
  rw [known]
  omega
def mayL (l : List Te) : Bool := decide (l.length ≤ 40) && l.all Te.may
mutual
/-- is it made of these parts? -/
def Te.made (P : List Te) : Te → Bool
  | .node k n l => decide (k = 0) || isIn P (.node k n l) || (decide (k ≠ 1) && Te.mades P l)
def Te.mades (P : List Te) : List Te → Bool
  | [] => true
  | t :: l => t.made P && Te.mades P l
end
theorem Te.mades_iff {P : List Te} {l : List Te} : Te.mades P l = true ↔ ∀ t ∈ l, t.made P = true := by
  induction l with
  | nil => simp [Te.mades]
  | cons t l ih => simp [Te.mades, ih]
def makes (l : List Te) (t : Te) : Bool := mayL l && t.may && t.made (known l)
mutual
/-- which keys it lacks, behind others, each once -/
def Te.lacks (P : List Te) : Te → List Te → List Te
  | .node k n l, out => if k = 0 ∨ isIn P (.node k n l) = true then out else if k = 1 then (if isIn out (.node k n l) then out else out ++ [.node k n l]) else Te.lacksL P l out
def Te.lacksL (P : List Te) : List Te → List Te → List Te
  | [], out => out
  | t :: l, out => Te.lacksL P l (t.lacks P out)
end
def lacking (l : List Te) (t : Te) : List Te := if mayL l && t.may then t.lacks (known l) [] else []
def partsOf (l : List Te) : List Te := if mayL l then known l else []
theorem Te.part_le : ∀ t u : Te, u ∈ t.parts → u.size ≤ t.size ∧ u.depth ≤ t.depth ∧ (t.good = true → u.good = true) := by
  intro t
  refine Te.ind (p := fun t => ∀ u : Te, u ∈ t.parts → u.size ≤ t.size ∧ u.depth ≤ t.depth ∧ (t.good = true → u.good = true)) (fun k n l ih u hu => ?_) t
  rw [Te.parts] at hu
  rcases List.mem_cons.1 hu with rfl | hu
  · exact ⟨Nat.le_refl _, Nat.le_refl _, fun h => h⟩
  · by_cases hk : k = 2
    · rw [if_pos hk] at hu
      obtain ⟨x, hx, hu⟩ := Te.mem_partsL.1 hu
      obtain ⟨h1, h2, h3⟩ := ih x hx u hu
      have h4 := Te.sizes_mem hx
      obtain ⟨j, hj, rfl⟩ := List.getElem_of_mem hx
      have h5 := Te.depth_mem hj
      refine ⟨?_, ?_, fun hg => ?_⟩
      · rw [Te.size]; omega
      · rw [Te.depth]; omega
      · rw [Te.good, Bool.and_eq_true] at hg
        exact h3 ((Te.goods_iff l).1 hg.2 _ hx)
    · rw [if_neg hk] at hu
      cases hu
theorem Te.part_may {t u : Te} (h : u ∈ t.parts) (ht : t.may = true) : u.may = true := by
  obtain ⟨h1, h2, h3⟩ := t.part_le u h
  simp only [Te.may, Bool.and_eq_true, decide_eq_true_eq] at ht ⊢
  exact ⟨⟨h3 ht.1.1, by omega⟩, by omega⟩
theorem Te.may_iff (t : Te) : t.may = true ↔ t.good = true ∧ t.size ≤ 60 ∧ t.depth ≤ 12 := by
  simp [Te.may, and_assoc]
theorem Te.arg_may {k n : Int} {l : List Te} {u : Te} (h : u ∈ l) (ht : (Te.node k n l).may = true) : u.may = true := by
  rw [Te.may_iff] at ht ⊢
  obtain ⟨h6, h7, h8⟩ := ht
  rw [Te.good, Bool.and_eq_true] at h6
  rw [Te.size] at h7
  rw [Te.depth] at h8
  have h4 := Te.sizes_mem h
  have h9 := (Te.goods_iff l).1 h6.2 _ h
  obtain ⟨j, hj, rfl⟩ := List.getElem_of_mem h
  have h5 := Te.depth_mem hj
  exact ⟨h9, by omega, by omega⟩
theorem mayL_iff {l : List Te} : mayL l = true ↔ l.length ≤ 40 ∧ ∀ t ∈ l, t.may = true := by
  simp [mayL]
theorem known_may {l : List Te} (hl : mayL l = true) {t : Te} (ht : t ∈ known l) : t.may = true := by
  obtain ⟨x, hx, h1⟩ := mem_known.1 ht
  exact Te.part_may h1 ((mayL_iff.1 hl).2 x hx)
theorem Te.made_in {P : List Te} {t : Te} (h : t ∈ P) : t.made P = true := by
  obtain ⟨k, n, l⟩ := t
  rw [Te.made, isIn_iff.2 h]
  simp
theorem Te.made_by {P Q : List Te} (h : ∀ t ∈ P, t.made Q = true) : ∀ t : Te, t.made P = true → t.made Q = true := by
  intro t
  refine Te.ind (p := fun t => t.made P = true → t.made Q = true) (fun k n l ih ht => ?_) t
  rw [Te.made, Bool.or_eq_true, Bool.or_eq_true] at ht
  rcases ht with (ht | ht) | ht
  · rw [Te.made, ht]; simp
  · exact h _ (isIn_iff.1 ht)
  · rw [Bool.and_eq_true, Te.mades_iff] at ht
    rw [Te.made, ht.1, Te.mades_iff.2 fun u hu => ih u hu (ht.2 u hu)]
    simp
theorem Te.made_mono {P Q : List Te} (h : ∀ t ∈ P, t ∈ Q) {t : Te} (ht : t.made P = true) : t.made Q = true := Te.made_by (fun u hu => Te.made_in (h u hu)) t ht
theorem Te.made_parts {P : List Te} (hP : ∀ t ∈ P, ∀ u ∈ t.parts, u ∈ P) : ∀ t : Te, t.made P = true → ∀ u ∈ t.parts, u.made P = true := by
  intro t
  refine Te.ind (p := fun t => t.made P = true → ∀ u ∈ t.parts, u.made P = true) (fun k n l ih ht u hu => ?_) t
  have hu0 := hu
  rw [Te.parts] at hu
  rcases List.mem_cons.1 hu with rfl | hu
  · exact ht
  · by_cases hk : k = 2
    · rw [if_pos hk] at hu
      rw [Te.made, Bool.or_eq_true, Bool.or_eq_true] at ht
      rcases ht with (h1 | h1) | h1
      · simp at h1; omega
      · exact Te.made_in (hP _ (isIn_iff.1 h1) u hu0)
      · rw [Bool.and_eq_true, Te.mades_iff] at h1
        obtain ⟨x, hx, hu⟩ := Te.mem_partsL.1 hu
        exact ih x hx (h1.2 x hx) u hu
    · rw [if_neg hk] at hu
      cases hu
theorem makes_iff {l : List Te} {t : Te} : makes l t = true ↔ mayL l = true ∧ t.may = true ∧ t.made (known l) = true := by
  simp [makes, and_assoc]
theorem mayL_more {l : List Te} {u : Te} (h : mayL l = true) (h20 : l.length ≤ 20) (hu : u.may = true) : mayL (l ++ [u]) = true := by
  rw [mayL_iff] at h ⊢
  refine ⟨by simp; omega, fun t ht => ?_⟩
  rcases List.mem_append.1 ht with h1 | h1
  · exact h.2 t h1
  · rw [List.mem_singleton] at h1; rw [h1]; exact hu
/-- of more that is known no less is made -/
theorem makes_more {l : List Te} {u t : Te} (hl : mayL l = true) (h20 : l.length ≤ 20) (hu : u.may = true) (h : makes l t = true) : makes (l ++ [u]) t = true := by
  obtain ⟨_, h2, h3⟩ := makes_iff.1 h
  exact makes_iff.2 ⟨mayL_more hl h20 hu, h2, Te.made_mono (fun x hx => known_mono (fun y hy => List.mem_append_left _ hy) hx) h3⟩
/-- all parts are made -/
theorem makes_part {l : List Te} {t : Te} (hl : mayL l = true) (h : t ∈ known l) : makes l t = true := makes_iff.2 ⟨hl, known_may hl h, Te.made_in h⟩
/-- what is made adds nothing -/
theorem makes_cut {l : List Te} {u t : Te} (h20 : l.length ≤ 20) (h : makes l u = true) : makes (l ++ [u]) t = makes l t := by
  obtain ⟨h1, h2, h3⟩ := makes_iff.1 h
  rw [Bool.eq_iff_iff]
  constructor
  · intro h4
    obtain ⟨_, h5, h6⟩ := makes_iff.1 h4
    refine makes_iff.2 ⟨h1, h5, Te.made_by (fun x hx => ?_) t h6⟩
    obtain ⟨y, hy, hxy⟩ := mem_known.1 hx
    rcases List.mem_append.1 hy with h7 | h7
    · exact Te.made_in (mem_known.2 ⟨y, h7, hxy⟩)
    · rw [List.mem_singleton] at h7
      subst h7
      exact Te.made_parts (fun a ha b hb => known_shut ha hb) y h3 x hxy
  · exact makes_more h1 h20 h2
theorem made_key {P : List Te} {n : Int} {l : List Te} : (Te.node 1 n l).made P = isIn P (.node 1 n l) := by
  rw [Te.made]; simp
theorem made_tag {P : List Te} {n : Int} {k m : Te} : (Te.node 3 n [k, m]).made P = (isIn P (.node 3 n [k, m]) || (k.made P && m.made P)) := by
  rw [Te.made]; simp [Te.mades]
theorem made_word {P : List Te} {n : Int} {l : List Te} : (Te.node 0 n l).made P = true := by
  rw [Te.made]; simp
theorem made_in' {P : List Te} {k n : Int} {l : List Te} (h : isIn P (.node k n l) = true) : (Te.node k n l).made P = true := by
  rw [Te.made, h]; simp
theorem made_two {P : List Te} {k n : Int} {a b : Te} (h0 : k ≠ 0) (h1 : k ≠ 1) (h : isIn P (.node k n [a, b]) = false) : (Te.node k n [a, b]).made P = (a.made P && b.made P) := by
  rw [Te.made, h]; simp [Te.mades, h0, h1]
/-- what is lacked: the key itself, or of the Args -/
theorem Te.lacks_all {P : List Te} : ∀ t : Te, t.good = true → ∀ out, (∃ ex, t.lacks P out = out ++ ex ∧ 2 * ex.length ≤ t.size + 1 ∧ ∀ x ∈ ex, ∃ n, x = .node 1 n [] ∧ 0 ≤ n ∧ isIn P x = false) ∧ (t.made P = true → t.lacks P out = out) ∧ ∀ Q, (∀ x ∈ P, x ∈ Q) → (∀ x ∈ t.lacks P out, x ∈ Q) → t.made Q = true := by
  intro t
  refine Te.ind (p := fun t => t.good = true → ∀ out, (∃ ex, t.lacks P out = out ++ ex ∧ 2 * ex.length ≤ t.size + 1 ∧ ∀ x ∈ ex, ∃ n, x = .node 1 n [] ∧ 0 ≤ n ∧ isIn P x = false) ∧ (t.made P = true → t.lacks P out = out) ∧ ∀ Q, (∀ x ∈ P, x ∈ Q) → (∀ x ∈ t.lacks P out, x ∈ Q) → t.made Q = true) (fun k n l ih hg out => ?_) t
  rw [Te.good, Bool.and_eq_true, nodeB, decide_eq_true_eq] at hg
  obtain ⟨hn, hgs⟩ := hg
  rw [Te.lacks]
  by_cases h0 : k = 0 ∨ isIn P (.node k n l) = true
  · rw [if_pos h0]
    refine ⟨⟨[], by simp, by simp, fun x hx => by cases hx⟩, fun _ => rfl, fun Q hQ _ => ?_⟩
    rcases h0 with rfl | h0
    · exact made_word
    · exact Te.made_in (hQ _ (isIn_iff.1 h0))
  · rw [if_neg h0]
    have hk0 : k ≠ 0 := fun h => h0 (.inl h)
    have hni : isIn P (.node k n l) = false := by rw [← Bool.not_eq_true]; exact fun h => h0 (.inr h)
    by_cases h1 : k = 1
    · rw [if_pos h1]
      subst h1
      have hl : l = [] := by
        rcases hn with h | h
        · exact List.eq_nil_of_length_eq_zero h.2.2
        · omega
      have hn0 : 0 ≤ n := by rcases hn with h | h <;> omega
      subst hl
      refine ⟨?_, fun hm => ?_, fun Q hQ hx => ?_⟩
      · by_cases hi : isIn out (.node 1 n []) = true
        · rw [if_pos hi]; exact ⟨[], by simp, by simp, fun x hx => by cases hx⟩
        · rw [if_neg hi]
          refine ⟨[.node 1 n []], rfl, by simp [Te.size, Te.sizes], fun x hx => ?_⟩
          rw [List.mem_singleton] at hx
          exact ⟨n, hx, hn0, by rw [hx]; exact hni⟩
      · rw [made_key, hni] at hm
        cases hm
      · refine Te.made_in (hx _ ?_)
        by_cases hi : isIn out (.node 1 n []) = true
        · rw [if_pos hi]; exact isIn_iff.1 hi
        · rw [if_neg hi]; simp
    · rw [if_neg h1]
      obtain ⟨a, b, rfl⟩ : ∃ a b, l = [a, b] := by
        have hl : l.length = 2 := by
          rcases hn with h | h
          · omega
          · exact h.2.2
        match l, hl with
        | [a, b], _ => exact ⟨a, b, rfl⟩
      have hga := (Te.goods_iff _).1 hgs a (by simp)
      have hgb := (Te.goods_iff _).1 hgs b (by simp)
      obtain ⟨⟨e1, q1, s1, x1⟩, m1, c1⟩ := ih a (by simp) hga out
      obtain ⟨⟨e2, q2, s2, x2⟩, m2, c2⟩ := ih b (by simp) hgb (a.lacks P out)
      simp only [Te.lacksL]
      refine ⟨⟨e1 ++ e2, by rw [q2, q1, List.append_assoc], ?_, fun x hx => ?_⟩, fun hm => ?_, fun Q hQ hx => ?_⟩
      · simp only [List.length_append, Te.size, Te.sizes]; omega
      · rcases List.mem_append.1 hx with h | h
        · exact x1 x h
        · exact x2 x h
      · rw [made_two hk0 h1 hni, Bool.and_eq_true] at hm
        rw [m1 hm.1] at m2 ⊢
        exact m2 hm.2
      · by_cases hq : isIn Q (.node k n [a, b]) = true
        · exact made_in' hq
        · rw [Bool.not_eq_true] at hq
          rw [made_two hk0 h1 hq, Bool.and_eq_true]
          exact ⟨c1 Q hQ fun x hx' => hx x (by rw [q2]; exact List.mem_append_left _ hx'), c2 Q hQ hx⟩
theorem lacking_all {l : List Te} {t : Te} (hl : mayL l = true) (h9 : l.length ≤ 9) (ht : t.may = true) :
    (lacking l t).length ≤ 30 ∧ (∀ x ∈ lacking l t, (∃ n, x = .node 1 n []) ∧ makes l x = false) ∧ makes l t = decide ((lacking l t).length = 0) ∧ makes (l ++ lacking l t) t = true := by
  have ht' := ht
  simp only [Te.may, Bool.and_eq_true, decide_eq_true_eq] at ht'
  obtain ⟨⟨ex, he, hs, hx⟩, hm, hc⟩ := Te.lacks_all (P := known l) t ht'.1.1 []
  have hL : lacking l t = ex := by rw [lacking, if_pos (by simp [hl, ht]), he, List.nil_append]
  rw [hL]
  rw [he, List.nil_append] at hm hc
  have hmay : ∀ x ∈ ex, x.may = true := fun x h => by
    obtain ⟨n, rfl, h0, _⟩ := hx x h
    simp [Te.may, Te.good, Te.goods, nodeB, Te.size, Te.sizes, Te.depth, Te.depths, h0]
  refine ⟨by omega, fun x h => ?_, ?_, ?_⟩
  · obtain ⟨n, rfl, h0, hi⟩ := hx x h
    refine ⟨⟨n, rfl⟩, ?_⟩
    rw [← Bool.not_eq_true, makes_iff, made_key, hi]
    simp
  · rw [Bool.eq_iff_iff, decide_eq_true_eq, makes_iff]
    constructor
    · rintro ⟨_, _, h⟩
      rw [hm h, List.length_nil]
    · intro h
      obtain rfl := List.eq_nil_of_length_eq_zero h
      exact ⟨hl, ht, hc _ (fun x h => h) (fun x h => by cases h)⟩
  · refine makes_iff.2 ⟨?_, ht, hc _ (fun x h => known_mono (fun y hy => List.mem_append_left _ hy) h) (fun x h => mem_known.2 ⟨x, List.mem_append_right _ h, x.mem_self⟩)⟩
    rw [mayL_iff] at hl ⊢
    refine ⟨by rw [List.length_append]; omega, fun x h => ?_⟩
    rcases List.mem_append.1 h with h | h
    · exact hl.2 x h
    · exact hmay x h
theorem makes_tag {l : List Te} {k m : Te} (hl : mayL l = true) (ht : (Te.node 3 0 [k, m]).may = true) : makes l (.node 3 0 [k, m]) = (isIn (known l) (.node 3 0 [k, m]) || (makes l k && makes l m)) := by
  have hk := Te.arg_may (u := k) (by simp) ht
  have hm := Te.arg_may (u := m) (by simp) ht
  simp only [makes, hl, ht, hk, hm, made_tag, Bool.true_and]
theorem makes_key {l : List Te} {n : Int} (hl : mayL l = true) (hn : 0 ≤ n) : makes l (.node 1 n []) = isIn (known l) (.node 1 n []) := by
  have hm : (Te.node 1 n []).may = true := by simp [Te.may, Te.good, Te.goods, nodeB, Te.size, Te.sizes, Te.depth, Te.depths, hn]
  simp only [makes, hl, hm, made_key, Bool.true_and]
def Te.kind : Te → Int
  | .node k _ _ => k
/-- of words and tags alone there is no key -/
theorem known_plain {l : List Te} (h : ∀ t ∈ l, t.kind = 0 ∨ t.kind = 3) (n : Int) : isIn (known l) (.node 1 n []) = false := by
  rw [isIn_no]
  intro hk
  obtain ⟨⟨k, m, a⟩, hu, hp⟩ := mem_known.1 hk
  have := h _ hu
  rw [Te.parts] at hp
  simp only [Te.kind] at this
  rw [if_neg (by omega), List.mem_singleton] at hp
  injection hp with e1 _ _
  omega
/-- each is one of these, or an Arg of a pair that stands ahead of it -/
def Froms (l acc : List Te) : Prop := ∀ i (hi : i < acc.length), acc[i] ∈ l ∨ ∃ j, ∃ hj : j < i, acc[i] ∈ (acc[j]'(by omega)).opened
theorem Froms.add {l acc : List Te} (h : Froms l acc) {t : Te} (ht : t ∈ l ∨ ∃ u ∈ acc, t ∈ u.opened) : Froms l (acc ++ [t]) := by
  intro i hi
  by_cases hi2 : i < acc.length
  · have e1 : (acc ++ [t])[i] = acc[i] := List.getElem_append_left hi2
    rw [e1]
    rcases h i hi2 with h1 | ⟨j, hj, h1⟩
    · exact .inl h1
    · refine .inr ⟨j, hj, ?_⟩
      rw [List.getElem_append_left (by omega)]
      exact h1
  · have hi3 : i = acc.length := by simp at hi; omega
    subst hi3
    have e1 : (acc ++ [t])[acc.length] = t := by simp
    rw [e1]
    rcases ht with h1 | ⟨u, hu, h1⟩
    · exact .inl h1
    · obtain ⟨j, hj, rfl⟩ := List.getElem_of_mem hu
      refine .inr ⟨j, hj, ?_⟩
      rw [List.getElem_append_left hj]
      exact h1
theorem Froms.adds {l : List Te} : ∀ (t : Te) (acc : List Te), Froms l acc → (t ∈ l ∨ ∃ u ∈ acc, t ∈ u.opened) → Froms l (adds acc t.parts) := by
  intro t
  refine Te.ind (p := fun t => ∀ acc : List Te, Froms l acc → (t ∈ l ∨ ∃ u ∈ acc, t ∈ u.opened) → Froms l (Go.Proofs.Ytcpeaeefphgbaaa.adds acc t.parts)) (fun k n a ih acc h ht => ?_) t
  rw [Te.parts_eq, Go.Proofs.Ytcpeaeefphgbaaa.adds]
  have h1 : Froms l (if isIn acc (.node k n a) = true then acc else acc ++ [.node k n a]) := by
    split
    · exact h
    · exact h.add ht
  have h2 : Te.node k n a ∈ (if isIn acc (.node k n a) = true then acc else acc ++ [.node k n a]) := by
    split
    · rename_i h3; exact isIn_iff.1 h3
    · simp
  revert h1 h2
  generalize (if isIn acc (.node k n a) = true then acc else acc ++ [.node k n a]) = acc2
  intro h1 h2
  have key : ∀ (b : List Te), (∀ x ∈ b, x ∈ a ∧ x ∈ (Te.node k n a).opened) → ∀ acc3 : List Te, Froms l acc3 → Te.node k n a ∈ acc3 → Froms l (Go.Proofs.Ytcpeaeefphgbaaa.adds acc3 (Te.partsL b)) := by
    intro b
    induction b with
    | nil => intro _ acc3 h4 _; exact h4
    | cons x b ihb =>
      intro hb acc3 h4 h5
      rw [Te.partsL, adds_append]
      refine ihb (fun y hy => hb y (by simp [hy])) _ (ih x (hb x (by simp)).1 acc3 h4 (.inr ⟨_, h5, (hb x (by simp)).2⟩)) ?_
      exact mem_adds.2 (.inl h5)
  refine key _ (fun x hx => ⟨?_, hx⟩) acc2 h1 h2
  rw [Te.opened] at hx
  split at hx
  · exact hx
  · cases hx
theorem known_froms (l : List Te) : Froms l (known l) := by
  have key : ∀ (b : List Te), (∀ x ∈ b, x ∈ l) → ∀ acc : List Te, Froms l acc → Froms l (adds acc (Te.partsL b)) := by
    intro b
    induction b with
    | nil => intro _ acc h; exact h
    | cons x b ih =>
      intro hb acc h
      rw [Te.partsL, adds_append]
      exact ih (fun y hy => hb y (by simp [hy])) _ (Froms.adds x acc h (.inl (hb x (by simp))))
  exact key l (fun x hx => hx) [] (fun i hi => by simp at hi)
theorem known_nodup (l : List Te) : (known l).Nodup := adds_nodup List.nodup_nil
theorem nodup_take {l : List Te} (h : l.Nodup) {i : Nat} (hi : i < l.length) : isIn (l.take i) l[i] = false := by
  rw [isIn_no]
  intro hm
  obtain ⟨j, hj, he⟩ := List.getElem_of_mem hm
  rw [List.length_take] at hj
  rw [List.getElem_take] at he
  have := (List.getElem_inj h).1 he
  omega
theorem known_twice (l : List Te) {i : Nat} (hi : i < (known l).length) : isIn ((known l).take i) (known l)[i] = false := nodup_take (known_nodup l) hi
theorem in_known {l : List Te} {t : Te} (h : t ∈ l) : isIn (known l) t = true := isIn_iff.2 (mem_known.2 ⟨t, h, t.mem_self⟩)
end Go.Proofs.Ytcpeaeefphgbaaa
