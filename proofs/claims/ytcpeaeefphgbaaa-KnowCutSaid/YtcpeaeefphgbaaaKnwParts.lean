/- The walk over package know's Parts: each part in its place becomes one of its own. -/
import Derived.Test.YtcpeaeefphgbaaaKnwTaken
import Derived.Test.YtcpeaeefphgbaaaKnwSame
import Derived.Test.YtcpeaeefphgbaaaKnwRParts
namespace Go.Proofs.Ytcpeaeefphgbaaa
set_option linter.unusedVariables false
set_option linter.unusedSimpArgs false
open Go.RowKit

theorem mayL_sizes {l : List Te} (h : mayL l = true) : Te.sizes l ≤ 2400 := by
  obtain ⟨h1, h2⟩ := mayL_iff.1 h
  have key : ∀ l : List Te, (∀ t ∈ l, t.size ≤ 60) → Te.sizes l ≤ 60 * l.length := by
    intro l
    induction l with
    | nil => intro _; simp [Te.sizes]
    | cons t l ih =>
      intro h
      have h3 := ih fun u hu => h u (by simp [hu])
      have h4 := h t (by simp)
      simp only [Te.sizes, List.length_cons]
      omega
  have := key l fun t ht => ((Te.may_iff t).1 (h2 t ht)).2.1
  omega
theorem flat_set {rows : List (List Value)} (h : ∀ r ∈ rows, r.length = 3) (j : Nat) (hj : j < rows.length) (r : List Value) : (rows.set j r).flatten = rows.flatten.take (j * 3) ++ r ++ rows.flatten.drop (j * 3 + 3) := by
  induction rows generalizing j with
  | nil => simp at hj
  | cons a rows ih =>
    have ha := h a (by simp)
    cases j with
    | zero => simp [ha, List.drop_append]
    | succ j =>
      rw [List.set_cons_succ, List.flatten_cons, ih (fun x hx => h x (by simp [hx])) j (by simpa using hj), List.flatten_cons]
      have e1 : (j + 1) * 3 = a.length + j * 3 := by rw [ha]; omega
      have e2 : (j + 1) * 3 + 3 = a.length + (j * 3 + 3) := by rw [ha]; omega
      rw [e2, e1, List.take_length_add_append, List.drop_length_add_append]
      simp [List.append_assoc]
theorem take_put (cs F vs : List Value) (n3 o : Nat) (h : cs.take n3 = F) (hF : F.length = n3) (hv : vs.length = 3) (ho : o + 3 ≤ n3) : (cs.take o ++ vs ++ cs.drop (o + 3)).take n3 = F.take o ++ vs ++ F.drop (o + 3) := by
  obtain ⟨rest, hr⟩ : ∃ rest, cs = F ++ rest := ⟨cs.drop n3, by rw [← h, List.take_append_drop]⟩
  subst hr
  have e1 : (F ++ rest).take o = F.take o := List.take_append_of_le_length (by omega)
  have e2 : (F ++ rest).drop (o + 3) = F.drop (o + 3) ++ rest := List.drop_append_of_le_length (by omega)
  rw [e1, e2, ← List.append_assoc]
  have hlen : (F.take o ++ vs ++ F.drop (o + 3)).length = n3 := by simp [hv, hF]; omega
  rw [← hlen, List.take_left']
  rfl
theorem set3_heap {w : World} {g o : Nat} {cur : Array Value} {t : TypeId} {v0 v1 v2 : Value} (h : w.heap[g]? = some (.cells cur t (0, 0))) (ho : o + 3 ≤ cur.size) :
    (((w.setCell ⟨g, o, none⟩ v0).setCell ⟨g, o + 1, none⟩ v1).setCell ⟨g, o + 2, none⟩ v2).heap[g]? = some (.cells (cur.toList.take o ++ [v0, v1, v2] ++ cur.toList.drop (o + 3)).toArray t (0, 0)) := by
  have := setCells_heap g t [v0, v1, v2] o w cur.toList (by simpa using h) (by simpa using ho)
  simpa [World.setCells] using this
/-- one row overwritten -/
theorem Had.put {w : World} {B g m c : Nat} {rows : List (List Value)} {l : List Te} (h : Had w B (.slice (some ⟨g, 0, none⟩) m c) rows l) (j : Nat) (hj : j < l.length) {k n : Int} {A : Option Addr} {m2 c2 : Nat}
    (ht : Lies (fun b => (Value.slice (some ⟨g, 0, none⟩) m c).ownBlock ≠ some b) w l[j] [.int .i64 k, .int .i64 n, .slice A m2 c2]) :
    Had (((w.setCell ⟨g, j * 3, none⟩ (.int .i64 k)).setCell ⟨g, j * 3 + 1, none⟩ (.int .i64 n)).setCell ⟨g, j * 3 + 2, none⟩ (.slice A m2 c2)) B (.slice (some ⟨g, 0, none⟩) m c) (rows.set j [.int .i64 k, .int .i64 n, .slice A m2 c2]) l := by
  have hjr : j < rows.length := by rw [h.len]; exact hj
  have hoth : ∀ b, (Value.slice (some ⟨g, 0, none⟩) m c).ownBlock ≠ some b → (((w.setCell ⟨g, j * 3, none⟩ (.int .i64 k)).setCell ⟨g, j * 3 + 1, none⟩ (.int .i64 n)).setCell ⟨g, j * 3 + 2, none⟩ (.slice A m2 c2)).heap[b]? = w.heap[b]? := by
    intro b hb
    have hne : b ≠ g := fun e => hb (by rw [e]; rfl)
    exact (Below.heap_setCell _ _ _ _ hne).trans ((Below.heap_setCell _ _ _ _ hne).trans (Below.heap_setCell _ _ _ _ hne))
  refine ⟨⟨?_, ?_, ?_⟩, by rw [List.length_set, h.len], fun i hi => ?_⟩
  · obtain ⟨h1, h2⟩ := h.own.row
    have hfl : rows.flatten.length = rows.length * 3 := flat_len h.own.wid
    rcases h2 with ⟨hv, _⟩ | ⟨g', cap, cur, hv, hBg, hg, hnc, hcm, hcs, htk⟩
    · cases hv
    · injection hv with e1 e2 e3
      injection e1 with e1
      injection e1 with e1 _ _
      subst e1 e3
      have hsz : j * 3 + 3 ≤ cur.size := by
        rw [hcs]
        have : (j + 1) * 3 ≤ c * 3 := Nat.mul_le_mul_right _ (by omega)
        omega
      refine ⟨by rw [List.length_set, flat_set h.own.wid j hjr]; simp [hfl]; have : (j + 1) * 3 ≤ rows.length * 3 := Nat.mul_le_mul_right _ hjr; omega, .inr ⟨g, c, _, ?_, hBg, set3_heap hg hsz, ?_, hcm, ?_, ?_⟩⟩
      · rw [List.length_set, ← e2]
      · rw [List.length_set]; exact hnc
      · simp [← hcs]; omega
      · rw [List.length_set, flat_set h.own.wid j hjr]
        refine take_put cur.toList rows.flatten _ (rows.length * 3) (j * 3) htk hfl rfl ?_
        have : (j + 1) * 3 ≤ rows.length * 3 := Nat.mul_le_mul_right _ hjr
        omega
  · intro r hr
    rcases List.mem_or_eq_of_mem_set hr with h1 | h1
    · exact h.own.wid r h1
    · rw [h1]; rfl
  · intro r hr
    rcases List.mem_or_eq_of_mem_set hr with h1 | h1
    · exact h.own.one r h1
    · rw [h1]; exact row_one k n A m2 c2
  · by_cases hij : j = i
    · subst hij
      have e : (rows.set j [Value.int .i64 k, .int .i64 n, .slice A m2 c2]).getD j [] = [.int .i64 k, .int .i64 n, .slice A m2 c2] := by
        simp [List.getD_eq_getElem?_getD, hjr]
      rw [e]
      exact ht.keep hoth
    · have e : (rows.set j [Value.int .i64 k, .int .i64 n, .slice A m2 c2]).getD i [] = rows.getD i [] := by
        simp [List.getD_eq_getElem?_getD, List.getElem?_set, hij]
      rw [e]
      exact (h.lies i hi).keep hoth
/-- where it lies, and that it may be written -/
theorem Had.spot {w : World} {B m c : Nat} {A : Option Addr} {rows : List (List Value)} {l : List Te} (h : Had w B (.slice A m c) rows l) (j : Nat) (hj : j < l.length) : ∃ g k n A2 m2 c2, A = some ⟨g, 0, none⟩ ∧ B ≤ g ∧ g < w.heap.size ∧
    Is (fun b => (Value.slice A m c).ownBlock ≠ some b) w l[j] k n A2 m2 c2 ∧ (w.cell? ⟨g, j * 3, none⟩ = some (.int .i64 k) ∧ w.cell? ⟨g, j * 3 + 1, none⟩ = some (.int .i64 n) ∧ w.cell? ⟨g, j * 3 + 2, none⟩ = some (.slice A2 m2 c2)) ∧
    (w.frozen? ⟨g, j * 3, none⟩ = false ∧ w.frozen? ⟨g, j * 3 + 1, none⟩ = false ∧ w.frozen? ⟨g, j * 3 + 2, none⟩ = false) := by
  have hl := h.lies j hj
  obtain ⟨k, n, A2, m2, c2, hrow⟩ := hl.three
  have hjr : j < rows.length := by rw [h.len]; exact hj
  obtain ⟨h1, h2⟩ := h.own.row
  rcases h2 with ⟨hv, hn⟩ | ⟨g, cap, cur, hv, hBg, hg, hnc, hcm, hcs, htk⟩
  · omega
  · injection hv with e1 e2 e3
    subst e1 e2 e3
    have hlt : g < w.heap.size := (Array.getElem?_eq_some_iff.1 hg).1
    have cell : ∀ i, i < 3 → w.cell? ⟨g, j * 3 + i, none⟩ = some ((rows.getD j []).getD i undef) := by
      intro i hi
      rw [cell_of_row _ _ _ _ _ _ hg, ← flat_get h.own.wid j i hjr hi, ← htk, List.getElem?_take, if_pos]
      · simp
      · have : (j + 1) * 3 ≤ rows.length * 3 := Nat.mul_le_mul_right _ hjr
        omega
    rw [hrow] at hl
    have c0 := cell 0 (by omega)
    have c1 := cell 1 (by omega)
    have c2' := cell 2 (by omega)
    rw [hrow] at c0 c1 c2'
    exact ⟨g, k, n, A2, m2, c2, rfl, hBg, hlt, ⟨hl⟩, ⟨c0, c1, c2'⟩, frozen_of_row _ _ _ _ _ hg, frozen_of_row _ _ _ _ _ hg, frozen_of_row _ _ _ _ _ hg⟩

set_option maxHeartbeats 4000000 in
theorem kparts_any (P : Nat → Prop) (l : List Te) (A : Option Addr) (m c : Nat) (w : World) (hI : Is P w (.node 0 0 l) 0 0 A m c) :
    Calls Try.prog 14 #[.slice A m c] w (GivesL (partsOf l) w) := by
  have HM := Lib.hid (kmay_any P l A m c w hI)
  have HI := Lib.hid hI
  clear hI
  cases hmay : mayL l with
  | false =>
    rw [hmay] at HM
    have hp : partsOf l = [] := by rw [partsOf, hmay]; rfl
    have HP := Lib.hid hp
    clear hmay hp
    go_enter Try.func14, Try.ntmps14
    go_wp2_with (go_at_call 20; (with_reducible refine HM.out.mono ?_); rintro e w1 ⟨rfl, hb1⟩; have HB1 := Lib.hid hb1; clear hb1)
    go_ret
    rw [HP.out]
    exact (Had.nil w1 0).gives HB1.out
  | true =>
    rw [hmay] at HM
    have hp : partsOf l = known l := by rw [partsOf, if_pos hmay]
    have hks : ∀ t ∈ known l, t.size ≤ 100000 := fun t ht => by have := ((Te.may_iff t).1 (known_may hmay ht)).2.1; omega
    have hsz := mayL_sizes hmay
    rw [hp]
    obtain ⟨K, hK⟩ : ∃ K, known l = K := ⟨_, rfl⟩
    have hta : ∀ w1, Below w.heap.size w w1 → Calls Try.prog 30 #[.slice A m c] w1 (fun e w' => ∃ v rows, e = .returned v ∧ Had w' w1.heap.size v rows (known l) ∧ Below w1.heap.size w1 w') := fun w1 hb1 => taken_any _ l A m c w1 (HI.out.later hb1) (by omega)
    rw [hK] at hks hta ⊢
    have HKS := Lib.hid hks
    have HTA := Lib.hid hta
    clear hmay hp hsz hK hks hta
    go_enter Try.func14, Try.ntmps14
    go_wp2_with (first
      | (go_at_call 20; (with_reducible refine HM.out.mono ?_); rintro e w1 ⟨rfl, hb1⟩; have HB1 := Lib.hid hb1; clear hb1)
      | (go_at_call 30; (with_reducible refine (HTA.out w1 HB1.out).mono ?_)
         rintro e w2 ⟨v2, rows2, rfl, hH2, hb2⟩
         obtain ⟨A2, m2, c2, rfl, hI2⟩ := hH2.is
         have hlen2 : K.length = m2 := hI2.len.1
         have hm63 := hI2.len.2.2.2
         have HH2 := Lib.hid hH2
         have HB2 := Lib.hid (HB1.out.trans (hb2.mono HB1.out.size))
         have HB1S := Lib.hid HB1.out.size
         clear hH2 hb2 hI2))
    go_loopw [13] (fun i wr => ∃ (j : Nat) (rows : List (List Value)), j ≤ m2 ∧ i = .int .i64 j ∧ Had wr w1.heap.size (.slice A2 m2 c2) rows K ∧ Below w.heap.size w wr) (fun i _ => m2 - (intOf i).toNat)
    case atStart => exact ⟨0, rows2, Nat.zero_le _, rfl, HH2.out, HB2.out⟩
    case round =>
      obtain ⟨j, rows, hj, rfl, hH, hb⟩ := hrel
      by_cases hlt : j < m2
      · have hjl : j < K.length := by rw [hlen2]; exact hlt
        obtain ⟨g, k, n, A3, m3, c3, rfl, hBg, hgl, hI3, ⟨z0, z1, z2⟩, _⟩ := hH.spot j hjl
        have hone := one_alloc wr (.cells #[.int .i64 k, .int .i64 n, .slice A3 m3 c3] 24)
        have HC := Lib.hid (own_any _ K[j] k n A3 m3 c3 _ (hI3.later hone) (HKS.out _ (List.getElem_mem hjl)))
        have HH := Lib.hid hH
        have HB := Lib.hid hb
        have HONE := Lib.hid hone
        have q0 : 0 ≤ (j : Int) := by omega
        have q1 : (j : Int) < m2 := by omega
        clear hH hb hI3 hone
        go_wp2_with fail
        go_at_call 31
        (with_reducible refine HC.out.mono ?_)
        rintro e w4 ⟨k4, n4, A4, m4, c4, rfl, hI4, hb4⟩
        have hb5 := HONE.out.trans (hb4.mono HONE.out.size)
        have hH5 := HH.out.far hb5
        obtain ⟨g', k', n', A', m', c', hA', _, _, _, ⟨s0, s1, s2⟩, f0, f1, f2⟩ := hH5.spot j hjl
        have hgg : g = g' := by injection hA' with hA'; injection hA' with hA' _ _
        subst hgg
        have HH6 := Lib.hid (hH5.put j hjl (k := k4) (n := n4) (A := A4) (m2 := m4) (c2 := c4) ((hI4.lies.mono fun b hbb e => by injection e with e; have e2 : g = b := e; have := HONE.out.size; omega)))
        have HB5 := Lib.hid (HB.out.trans (hb5.mono HB.out.size))
        clear hI4 hb4 hb5 hH5 hA'
        go_wp2
        go_roundw
        case rel => exact ⟨j + 1, _, by omega, by go_num, HH6.out, ((HB5.out.setCell (p := ⟨g, j * 3, none⟩) (Nat.le_trans HB1S.out hBg) _).setCell (p := ⟨g, j * 3 + 1, none⟩) (Nat.le_trans HB1S.out hBg) _).setCell (p := ⟨g, j * 3 + 2, none⟩) (Nat.le_trans HB1S.out hBg) _⟩
        case measure => simp [intOf]; omega
      · obtain rfl : j = m2 := by omega
        have HH := Lib.hid hH
        have HB := Lib.hid hb
        clear hH hb
        go_wp2
        go_ret
        exact HH.out.gives HB.out
end Go.Proofs.Ytcpeaeefphgbaaa
