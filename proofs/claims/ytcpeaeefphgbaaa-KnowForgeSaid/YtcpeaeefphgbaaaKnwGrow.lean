/- The walks over slices.Grow (of nothing) and slices.Concat (of two slices of terms); a slice of terms without its first ones. -/
import Derived.Test.YtcpeaeefphgbaaaKnwHad
import Derived.Lib.AppendZeros
namespace Go.Proofs.Ytcpeaeefphgbaaa
set_option linter.unusedVariables false
set_option linter.unusedSimpArgs false
open Go.RowKit

theorem size_term (w : World) : (sizeOf (Try.prog.elem 22)).run Try.prog w = .ok 3 w := rfl
theorem run_to_t (A : Option Addr) (n cap hi : Nat) (x : Int) (hx : x = hi) (hhi : hi ≤ n) (hle : n ≤ cap) (w : World) :
    (Instr.slice 22 (.slice A n cap) none (some (.int .i64 x)) none).run Try.prog w = .ok (.slice A hi cap) w := by
  subst hx
  rw [run_slice_h (P := Try.prog) w 22 A n cap (by kernel_rfl) .i64 hi (by omega) (by omega), size_term]
  simp only [Result.andThen_ok, sliced, Int.toNat_natCast, Nat.zero_mul, Nat.sub_zero]
  have e : A.map (fun x => x.add 0) = A := by
    cases A with
    | none => rfl
    | some a => simp [Addr.add]
  rw [e]
  simp
theorem term_parts : ∃ i, Try.prog.info? 24 = some i ∧ (∃ z, i.zero = some z ∧ z.cells.size = 3) ∧ i.size = 3 ∧ i.bytes = 40 := by
  have h := info_term
  cases hi : Try.prog.info? 24 with
  | none => simp [hi] at h
  | some i =>
    simp only [hi, Option.map_some, Option.some.injEq, Prod.mk.injEq] at h
    obtain ⟨hz, h1, h2⟩ := h
    cases hzz : i.zero with
    | none => simp [hzz] at hz
    | some z =>
      simp only [hzz, Option.map_some, Option.some.injEq] at hz
      exact ⟨i, rfl, ⟨z, hzz, hz⟩, h1, h2⟩
set_option maxHeartbeats 1000000 in
theorem grow_any (n : Nat) (hn : n ≤ 1000000) (w : World) : Calls Try.prog 51 #[.slice none 0 0, .int .i64 n] w (fun e w' => ∃ v, e = .returned v ∧ Had w' w.heap.size v [] [] ∧ Below w.heap.size w w') := by
  by_cases h0 : n = 0
  · subst h0
    go_enter Try.func51, Try.ntmps51
    go_wp2
    go_ret
    exact ⟨_, rfl, Had.nil _ _, Below.refl _ _⟩
  · obtain ⟨i, hi, ⟨z, hz, hzs⟩, h1, h2⟩ := term_parts
    have hr := Lib.run_append_nil_zeros (P := Try.prog) w 22 3 22 24 i z .i64 .i64 Try.underlying22 Try.underlying3 hi hz n (by omega) (by omega) (by omega) (by rw [h2]; omega)
    have hge := grownCap_ge w n 0 24
    have hcm := grownCap_le_maxLen w n 0 24 (by unfold maxLen; omega)
    obtain ⟨cap, hcap⟩ : ∃ cap, grownCap w n 0 24 = cap := ⟨_, rfl⟩
    obtain ⟨cur, hcur⟩ : ∃ cur, Builtin.zeroCells z.cells n ++ Builtin.zeroCells z.cells (cap - n) = cur := ⟨_, rfl⟩
    rw [hcap] at hge hcm hr
    have hsz : cur.size = cap * 3 := by
      rw [← hcur, Array.size_append, size_zeroCells, size_zeroCells, hzs]
      omega
    rw [hcur] at hr
    have HR := Lib.hid hr
    have hs1 := run_to_t none 0 0 0 0 rfl (Nat.le_refl _) (Nat.le_refl _)
    have hs2 := run_to_t (some ⟨w.heap.size, 0, none⟩) n cap 0 0 rfl (Nat.zero_le _) hge
    have q0 : 0 < (n : Int) := by omega
    have HS := Lib.hid hsz
    have HCM := Lib.hid hcm
    clear hr hcap hcur hi hz hzs h1 h2 hsz hcm
    go_enter Try.func51, Try.ntmps51
    go_wp2_with (at_builtin
                 refine Lib.wpList_append_run _ rfl _ _ _ _ rfl _ _ rfl rfl _ _ HR.out ?_)
    go_ret
    refine ⟨_, rfl, ⟨⟨⟨by simp, .inr ⟨w.heap.size, cap, cur, rfl, Nat.le_refl _, heap_alloc_new w.drew _, Nat.zero_le _, HCM.out, HS.out, by simp⟩⟩, (fun _ h => by cases h), (fun _ h => by cases h)⟩, rfl, fun i hi => by simp at hi⟩, drew_alloc w _⟩

/-- two lists of rows, one behind the other, read as the terms of both -/
theorem is_both {P : Nat → Prop} {w w' : World} {l1 l2 : List Te} {rows1 rows2 : List (List Value)} {v : Value} (hl1 : l1.length = rows1.length) (hl2 : l2.length = rows2.length)
    (h1 : ∀ i (hi : i < l1.length), Lies P w l1[i] (rows1.getD i [])) (h2 : ∀ i (hi : i < l2.length), Lies P w l2[i] (rows2.getD i [])) (hown : OwnR 24 3 w' w.heap.size v (rows1 ++ rows2)) (hb : Below w.heap.size w w') :
    ∃ A m c, v = .slice A m c ∧ Is (fun b => P b ∨ w.heap.size ≤ b) w' (.node 0 0 (l1 ++ l2)) 0 0 A m c := by
  obtain ⟨A, m, c, rfl, hr⟩ := hown.rws
  have hlen : (l1 ++ l2).length = m := by rw [← hr.len, List.length_append, List.length_append, hl1, hl2]
  refine ⟨A, m, c, rfl, ⟨.mk hr (fun hm a ha => .inr ?_) hlen fun i hi => ?_⟩⟩
  · subst ha
    exact (hown.size a.block rfl).1
  · by_cases hil : i < l1.length
    · have e1 : (l1 ++ l2)[i] = l1[i] := List.getElem_append_left hil
      have e2 : (rows1 ++ rows2).getD i [] = rows1.getD i [] := by
        simp only [List.getD_eq_getElem?_getD]
        rw [List.getElem?_append_left (by rw [← hl1]; exact hil)]
      rw [e1, e2]
      exact ((h1 i hil).both.keep fun b hh => hb.block b hh.2).mono fun b hh => .inl hh.1
    · have e1 : (l1 ++ l2)[i] = l2[i - l1.length]'(by rw [List.length_append] at hi; omega) := List.getElem_append_right (by omega)
      have e2 : (rows1 ++ rows2).getD i [] = rows2.getD (i - l1.length) [] := by
        simp only [List.getD_eq_getElem?_getD]
        rw [List.getElem?_append_right (by rw [← hl1]; omega), hl1]
      rw [e1, e2]
      exact ((h2 (i - l1.length) _).both.keep fun b hh => hb.block b hh.2).mono fun b hh => .inl hh.1
set_option maxHeartbeats 2000000 in
theorem concat_any (P : Nat → Prop) (l1 l2 : List Te) (A1 : Option Addr) (m1 c1 : Nat) (A2 : Option Addr) (m2 c2 g : Nat) (w : World) (hI1 : Is P w (.node 0 0 l1) 0 0 A1 m1 c1) (hI2 : Is P w (.node 0 0 l2) 0 0 A2 m2 c2)
    (hg0 : w.cell? ⟨g, 0, none⟩ = some (.slice A1 m1 c1)) (hg1 : w.cell? ⟨g, 1, none⟩ = some (.slice A2 m2 c2)) (hN : m1 + m2 ≤ 1000000) :
    Calls Try.prog 43 #[.slice (some ⟨g, 0, none⟩) 2 2] w (fun e w' => ∃ A m c, e = .returned (.slice A m c) ∧ Is (fun b => P b ∨ w.heap.size ≤ b) w' (.node 0 0 (l1 ++ l2)) 0 0 A m c ∧ Below w.heap.size w w') := by
  obtain ⟨l1', rows1, e1, hl1, hle1, hmx1, hr1, hP1, hL1⟩ := hI1.inv
  obtain ⟨l2', rows2, e2, hl2, hle2, hmx2, hr2, hP2, hL2⟩ := hI2.inv
  injection e1 with _ _ e1
  injection e2 with _ _ e2
  subst e1 e2
  have H1 := Lib.hid hr1
  have H2 := Lib.hid hr2
  have hn1 : rows1.length = m1 := hr1.len
  have hn2 : rows2.length = m2 := hr2.len
  have HFIN := Lib.hid (show ∀ w' v, OwnR 24 3 w' w.heap.size v (rows1 ++ rows2) → Below w.heap.size w w' → ∃ A m c, v = .slice A m c ∧ Is (fun b => P b ∨ w.heap.size ≤ b) w' (.node 0 0 (l1 ++ l2)) 0 0 A m c from fun w' v h hb => is_both (hl1.trans hn1.symm) (hl2.trans hn2.symm) hL1 hL2 h hb)
  clear hI1 hI2 hr1 hr2 hP1 hP2 hL1 hL2 hl1 hl2 hle1 hle2 hmx1 hmx2
  go_enter Try.func43, Try.ntmps43
  go_wp2
  go_loopw [3, 11] (fun s i wr => (i = .int .i64 0 ∧ s = .int .i64 0 ∨ i = .int .i64 1 ∧ s = .int .i64 m1 ∨ i = .int .i64 2 ∧ s = .int .i64 ((m1 : Int) + (m2 : Int))) ∧ wr = w) (fun _ i _ => 2 - (intOf i).toNat)
  case atStart => exact ⟨.inl ⟨rfl, rfl⟩, rfl⟩
  case round =>
    obtain ⟨h | h | h, hwr⟩ := hrel <;> (have hwr2 := hwr.symm; clear hwr; subst hwr2)
    · obtain ⟨rfl, rfl⟩ := h
      go_wp2
      go_roundw
      case rel => exact ⟨.inr (.inl ⟨rfl, rfl⟩), trivial⟩
      case measure => simp [intOf]
    · obtain ⟨rfl, rfl⟩ := h
      have q0 : ¬ ((m1 : Int) + m2 < 0) := by omega
      go_wp2
      go_roundw
      case rel => exact ⟨.inr (.inr ⟨rfl, rfl⟩), trivial⟩
      case measure => simp [intOf]
    · obtain ⟨rfl, rfl⟩ := h
      have hgr := grow_any (m1 + m2) hN w
      rw [Int.natCast_add] at hgr
      have HGR := Lib.hid hgr
      clear hgr
      go_wp2_with (go_at_call 51
                   (with_reducible refine HGR.out.mono ?_)
                   rintro e w3 ⟨v3, rfl, hH3, hb3⟩
                   have HO3 := Lib.hid hH3.own
                   have HB3 := Lib.hid hb3
                   clear hH3 hb3)
      go_loopw [6, 27] (fun v i w' => ∃ rows : List (List Value), (i = .int .i64 0 ∧ rows = [] ∨ i = .int .i64 1 ∧ rows = rows1 ∨ i = .int .i64 2 ∧ rows = rows1 ++ rows2) ∧ OwnR 24 3 w' w.heap.size v rows ∧ Below w.heap.size w w') (fun _ i _ => 2 - (intOf i).toNat)
      case atStart => exact ⟨[], .inl ⟨rfl, rfl⟩, HO3.out, HB3.out⟩
      case round =>
        obtain ⟨rows, h, hown, hb⟩ := hrel
        have HB := Lib.hid hb
        have HO := Lib.hid hown
        have hG0 := (hb.cell (block_lt_of_cell hg0)).trans hg0
        have hG1 := (hb.cell (block_lt_of_cell hg1)).trans hg1
        clear hb hown
        rcases h with h | h | h
        · obtain ⟨rfl, rfl⟩ := h
          go_wp2_with (at_builtin
                       refine wpList_append_r rfl 22 24 3 40 _ _ rfl Try.underlying22 info_term (by omega) w.heap.size u6 [] rfl HO.out A1 m1 c1 rows1 rfl (H1.out.below HB.out) (by simp; omega) (by simp; omega) HB.out.size ?_
                       intro v4 w4 hown4 hg4
                       have hB4 := HB.out.grown hg4 HB.out.size (fun g hg => (HO.out.size g hg).1)
                       have HO4 := Lib.hid hown4
                       have HB4 := Lib.hid hB4
                       clear hown4 hg4 hB4)
          go_roundw
          case rel => exact ⟨rows1, .inr (.inl ⟨rfl, rfl⟩), HO4.out, HB4.out⟩
          case measure => simp [intOf]
        · obtain ⟨rfl, rfl⟩ := h
          go_wp2_with (at_builtin
                       refine wpList_append_r rfl 22 24 3 40 _ _ rfl Try.underlying22 info_term (by omega) w.heap.size u6 rows rfl HO.out A2 m2 c2 rows2 rfl (H2.out.below HB.out) (by omega) (by omega) HB.out.size ?_
                       intro v4 w4 hown4 hg4
                       have hB4 := HB.out.grown hg4 HB.out.size (fun g hg => (HO.out.size g hg).1)
                       have HO4 := Lib.hid hown4
                       have HB4 := Lib.hid hB4
                       clear hown4 hg4 hB4)
          go_roundw
          case rel => exact ⟨_, .inr (.inr ⟨rfl, rfl⟩), HO4.out, HB4.out⟩
          case measure => simp [intOf]
        · obtain ⟨rfl, rfl⟩ := h
          obtain ⟨A, m, c, rfl, hI⟩ := HFIN.out _ _ HO.out HB.out
          have HI := Lib.hid hI
          clear hI
          go_wp2
          go_ret
          exact ⟨A, m, c, rfl, HI.out, HB.out⟩
end Go.Proofs.Ytcpeaeefphgbaaa
