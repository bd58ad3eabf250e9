/- Users, plainly: a slice of users as it lies; which may be, where one is found, which role. -/
import Derived.Test.YtcfkpepohnjdfaaDoorBasBytes
import Derived.Test.YtcfkpepohnjdfaaDoorBasRows
import Derived.Test.YtcfkpepohnjdfaaDoorRolPlain
namespace Go.Proofs.YtcfkpepohnjdfaaDoor
set_option linter.unusedVariables false
set_option linter.unusedSimpArgs false
open Go.RowKit

/-- a user: number, role, where the key lies, and its bytes -/
structure Us where
  no : Int
  role : Int
  A : Option Addr
  n : Nat
  c : Nat
  key : List Int
def Us.zero : Us := ⟨0, 0, none, 0, 0, []⟩
def Us.row (u : Us) : List Value := [.int .i64 u.no, .int .i64 u.role, .slice u.A u.n u.c]
theorem row_len (u : Us) : u.row.length = 3 := rfl
theorem row_one3 (u : Us) : ∀ v ∈ u.row, v.oneCell' = true := by
  intro v hv
  simp only [Us.row, List.mem_cons, List.not_mem_nil, or_false] at hv
  rcases hv with rfl | rfl | rfl <;> rfl
/-- a slice of users -/
structure Uss (w : World) (A : Option Addr) (n c : Nat) (l : List Us) : Prop where
  rws : Rws 3 w A n c (l.map Us.row)
  key : ∀ u ∈ l, Bts w u.A u.n u.c u.key
section
variable {w w' : World} {A : Option Addr} {n c : Nat} {l : List Us}
theorem Uss.len (h : Uss w A n c l) : l.length = n := by rw [← h.rws.len, List.length_map]
theorem Uss.small (h : Uss w A n c l) : n ≤ 9223372036854775807 := h.rws.small
theorem Uss.below (h : Uss w A n c l) (hb : Below w.heap.size w w') : Uss w' A n c l := ⟨h.rws.below hb, fun u hu => (h.key u hu).below hb⟩
theorem Uss.draw (h : Uss w A n c l) (k : Nat) : Uss (w.drewN k) A n c l := ⟨h.rws.draw k, fun u hu => (h.key u hu).draw k⟩
theorem Uss.draw1 (h : Uss w A n c l) : Uss w.drew A n c l := ⟨h.rws.draw1, fun u hu => (h.key u hu).draw1⟩
theorem Uss.more (h : Uss w A n c l) (o : Obj) : Uss (w.alloc o) A n c l := h.below ((Below.refl _ _).alloc (Nat.le_refl _) _)
theorem Uss.nil (w : World) : Uss w none 0 0 [] := ⟨Rws.nil 3 w, fun u hu => by cases hu⟩
/-- one of them -/
theorem Uss.at_ (h : Uss w A n c l) (j : Nat) (hj : j < n) : ∃ b off u, A = some ⟨b, off, none⟩ ∧ l.getD j Us.zero = u ∧ u ∈ l ∧ l[j]? = some u ∧ w.cell? ⟨b, off + j * 3, none⟩ = some (.int .i64 u.no) ∧ w.cell? ⟨b, off + j * 3 + 1, none⟩ = some (.int .i64 u.role) ∧ w.cell? ⟨b, off + j * 3 + 2, none⟩ = some (.slice u.A u.n u.c) ∧ Bts w u.A u.n u.c u.key ∧ u.key.length = u.n := by
  obtain ⟨b, off, hA, hc⟩ := h.rws.at_ (by omega)
  have hl : j < l.length := by rw [h.len]; exact hj
  have hm : l[j] ∈ l := List.getElem_mem hl
  have hr : (l.map Us.row).getD j [] = l[j].row := by simp [List.getD_eq_getElem?_getD, hl]
  refine ⟨b, off, l[j], hA, by simp [List.getD_eq_getElem?_getD, hl], hm, by simp [hl], ?_, ?_, ?_, h.key _ hm, (h.key _ hm).len⟩
  · have := hc j hj 0 (by omega)
    rw [hr] at this
    exact this
  · have := hc j hj 1 (by omega)
    rw [hr] at this
    exact this
  · have := hc j hj 2 (by omega)
    rw [hr] at this
    exact this
end
/-- may this one stand behind the number x? -/
def goodU (x : Int) (u : Us) : Bool := decide (x < u.no) && decide (u.no ≤ 255) && isB u.role && decide (16 ≤ u.n) && decide (u.n ≤ 64)
def mayFrom : Int → List Us → Bool
  | _, [] => true
  | x, u :: l => goodU x u && mayFrom u.no l
def lastFrom : Int → List Us → Int
  | x, [] => x
  | _, u :: l => lastFrom u.no l
def mayU (l : List Us) : Bool := decide (l.length ≤ 8) && mayFrom 0 l
theorem mayFrom_app (l m : List Us) : ∀ x, mayFrom x (l ++ m) = (mayFrom x l && mayFrom (lastFrom x l) m) := by
  induction l with
  | nil => intro x; simp [mayFrom, lastFrom]
  | cons u l ih => intro x; simp [mayFrom, lastFrom, ih, Bool.and_assoc]
theorem lastFrom_app (l m : List Us) : ∀ x, lastFrom x (l ++ m) = lastFrom (lastFrom x l) m := by
  induction l with
  | nil => intro x; rfl
  | cons u l ih => intro x; simp [lastFrom, ih]
theorem take_more {α : Type} {l : List α} {j : Nat} {u : α} (h : l[j]? = some u) : l.take (j + 1) = l.take j ++ [u] := by
  obtain ⟨hj, rfl⟩ := List.getElem?_eq_some_iff.1 h
  exact List.take_succ_eq_append_getElem hj
theorem mayFrom_more {l : List Us} {j : Nat} {u : Us} (h : l[j]? = some u) (x : Int) : mayFrom x (l.take (j + 1)) = (mayFrom x (l.take j) && goodU (lastFrom x (l.take j)) u) := by
  rw [take_more h, mayFrom_app]
  simp [mayFrom]
theorem lastFrom_more {l : List Us} {j : Nat} {u : Us} (h : l[j]? = some u) (x : Int) : lastFrom x (l.take (j + 1)) = u.no := by
  rw [take_more h, lastFrom_app]
  rfl
theorem mayFrom_part {l : List Us} {k : Nat} {x : Int} (h : mayFrom x (l.take k) = false) : mayFrom x l = false := by
  rw [← List.take_append_drop k l, mayFrom_app, h, Bool.false_and]
theorem mayFrom_stop {l : List Us} {j : Nat} {u : Us} {x : Int} (h : l[j]? = some u) (hg : goodU (lastFrom x (l.take j)) u = false) : mayFrom x l = false :=
  mayFrom_part (k := j + 1) (by rw [mayFrom_more h, hg, Bool.and_false])
theorem good_iff {x : Int} {u : Us} : goodU x u = true ↔ x < u.no ∧ u.no ≤ 255 ∧ isB u.role = true ∧ 16 ≤ u.n ∧ u.n ≤ 64 := by
  simp [goodU, and_assoc]
theorem last_low {l : List Us} : ∀ {x : Int}, mayFrom x l = true → x ≤ lastFrom x l := by
  induction l with
  | nil => intro x _; exact Int.le_refl _
  | cons u l ih =>
    intro x h
    rw [mayFrom, Bool.and_eq_true] at h
    have h1 := (good_iff.1 h.1).1
    have h2 := ih h.2
    rw [lastFrom]
    omega
theorem may_all {l : List Us} : ∀ {x : Int}, mayFrom x l = true → ∀ u ∈ l, x < u.no ∧ u.no ≤ 255 ∧ isB u.role = true ∧ 16 ≤ u.n ∧ u.n ≤ 64 := by
  induction l with
  | nil => intro x _ u hu; cases hu
  | cons v l ih =>
    intro x h u hu
    rw [mayFrom, Bool.and_eq_true] at h
    have h1 := good_iff.1 h.1
    rcases List.mem_cons.1 hu with rfl | hu
    · exact h1
    · have := ih h.2 u hu
      exact ⟨by omega, this.2⟩
/-- the numbers rise -/
theorem may_rise {l : List Us} : ∀ {x : Int}, mayFrom x l = true → ∀ (i j : Nat) (u v : Us), i < j → l[i]? = some u → l[j]? = some v → u.no < v.no := by
  induction l with
  | nil => intro x _ i j u v _ h; simp at h
  | cons t l ih =>
    intro x h i j u v hij hi hj
    rw [mayFrom, Bool.and_eq_true] at h
    cases j with
    | zero => omega
    | succ j =>
      rw [List.getElem?_cons_succ] at hj
      cases i with
      | zero =>
        rw [List.getElem?_cons_zero, Option.some.injEq] at hi
        subst hi
        exact (may_all h.2 v (List.mem_of_getElem? hj)).1
      | succ i => exact ih h.2 i j u v (by omega) (by rwa [List.getElem?_cons_succ] at hi) hj
/-- where a number first stands -/
def findIx (no : Int) : List Us → Int → Int
  | [], _ => -1
  | u :: l, i => if u.no = no then i else findIx no l (i + 1)
def findU (l : List Us) (no : Int) : Int := if mayU l = true then findIx no l 0 else -1
def roleU (l : List Us) (no : Int) : Int := if 0 ≤ findU l no then (l.getD (findU l no).toNat Us.zero).role else -1
theorem findIx_no {no : Int} {l : List Us} : ∀ (i : Int), (∀ u ∈ l, u.no ≠ no) → findIx no l i = -1 := by
  induction l with
  | nil => intro i _; rfl
  | cons u l ih =>
    intro i h
    rw [findIx, if_neg (h u (by simp)), ih _ fun v hv => h v (by simp [hv])]
theorem findIx_at {no : Int} {l : List Us} : ∀ (i : Int) (j : Nat) (u : Us), l[j]? = some u → u.no = no → (∀ k v, k < j → l[k]? = some v → v.no ≠ no) → findIx no l i = i + j := by
  induction l with
  | nil => intro i j u h; simp at h
  | cons t l ih =>
    intro i j u h hu hk
    cases j with
    | zero =>
      rw [List.getElem?_cons_zero, Option.some.injEq] at h
      subst h
      rw [findIx, if_pos hu]; simp
    | succ j =>
      rw [List.getElem?_cons_succ] at h
      rw [findIx, if_neg (hk 0 t (by omega) rfl), ih (i + 1) j u h hu fun k v h1 h2 => hk (k + 1) v (by omega) (by rwa [List.getElem?_cons_succ])]
      omega
theorem findIx_take {no : Int} {l : List Us} {n : Nat} (hl : l.length = n) (h : ∀ k v, k < n → l[k]? = some v → v.no ≠ no) : findIx no l 0 = -1 :=
  findIx_no 0 fun u hu => by
    obtain ⟨k, hk, rfl⟩ := List.getElem_of_mem hu
    exact h k _ (by omega) (by simp [hk])
/-- two of them are the same -/
def Us.same (u v : Us) : Bool := u.no == v.no && u.role == v.role && u.key == v.key
def sameU : List Us → List Us → Bool
  | [], [] => true
  | u :: l, v :: m => u.same v && sameU l m
  | _, _ => false
theorem sameU_len : ∀ {l m : List Us}, sameU l m = true → l.length = m.length
  | [], [], _ => rfl
  | u :: l, v :: m, h => by
    rw [sameU, Bool.and_eq_true] at h
    simp [sameU_len h.2]
  | [], v :: m, h => by simp [sameU] at h
  | u :: l, [], h => by simp [sameU] at h
theorem sameU_ne {l m : List Us} (h : l.length ≠ m.length) : sameU l m = false := by
  rw [← Bool.not_eq_true]
  exact fun h2 => h (sameU_len h2)
theorem sameU_take : ∀ {l m : List Us} {j : Nat} {u v : Us}, l[j]? = some u → m[j]? = some v → sameU (l.take (j + 1)) (m.take (j + 1)) = (sameU (l.take j) (m.take j) && u.same v)
  | [], _, j, u, v, h, _ => by simp at h
  | _ :: _, [], j, u, v, _, h => by simp at h
  | s :: l, t :: m, 0, u, v, h, h2 => by
    simp only [List.getElem?_cons_zero, Option.some.injEq] at h h2
    subst h h2
    simp [sameU]
  | s :: l, t :: m, j + 1, u, v, h, h2 => by
    simp only [List.getElem?_cons_succ] at h h2
    rw [List.take_succ_cons, List.take_succ_cons, List.take_succ_cons, List.take_succ_cons, sameU, sameU, sameU_take h h2, Bool.and_assoc]
theorem sameU_stop : ∀ {l m : List Us} {j : Nat} {u v : Us}, l[j]? = some u → m[j]? = some v → u.same v = false → sameU l m = false
  | [], _, j, u, v, h, _, _ => by simp at h
  | _ :: _, [], j, u, v, _, h, _ => by simp at h
  | s :: l, t :: m, 0, u, v, h, h2, h3 => by
    simp only [List.getElem?_cons_zero, Option.some.injEq] at h h2
    subst h h2
    rw [sameU, h3, Bool.false_and]
  | s :: l, t :: m, j + 1, u, v, h, h2, h3 => by
    simp only [List.getElem?_cons_succ] at h h2
    rw [sameU, sameU_stop h h2 h3, Bool.and_false]
/-- gives a bool, a number -/
def GB (b : Bool) (w : World) (e : Ending) (w' : World) : Prop := e = .returned (.bool b) ∧ Below w.heap.size w w'
def GI (i : Int) (w : World) (e : Ending) (w' : World) : Prop := e = .returned (.int .i64 i) ∧ Below w.heap.size w w'
end Go.Proofs.YtcfkpepohnjdfaaDoor
