/- The walk over package know's taken: a list of what is left, and a label. -/
import Derived.Test.YtcpeaeefphgbaaaKnwGrow
import Derived.Deep.LoopGhost
namespace Go.Proofs.Ytcpeaeefphgbaaa
set_option linter.unusedVariables false
set_option linter.unusedSimpArgs false
open Go.RowKit

theorem sizes_len (l : List Te) : l.length ≤ Te.sizes l := by
  induction l with
  | nil => simp
  | cons t l ih => simp only [Te.sizes, List.length_cons]; have := Te.size_pos t; omega
/-- a slice of terms without its first one -/
theorem tms_from {P : Nat → Prop} {w : World} {x : Te} {l : List Te} {A : Option Addr} {m c : Nat} (h : Is P w (.node 0 0 (x :: l)) 0 0 A m c) :
    ∃ A2 m2 c2, (∀ w' : World, (Instr.slice 22 (.slice A m c) (some (.int .i64 1)) none none).run Try.prog w' = .ok (.slice A2 m2 c2) w') ∧ Is P w (.node 0 0 l) 0 0 A2 m2 c2 := by
  obtain ⟨l', rows, e, hl, hle, hmx, hr, hP, hx⟩ := h.inv
  injection e with _ _ e
  subst e
  have hm : 1 ≤ m := by rw [← hl]; simp
  refine ⟨if c = 1 then A else A.map (·.add (1 * 3)), m - 1, c - 1, fun w' => ?_, ⟨.mk (rows := rows.drop 1) ?_ (fun hm2 a ha => ?_) ?_ fun i hi => ?_⟩⟩
  · rw [run_slice_l (P := Try.prog) w' 22 A m c (by kernel_rfl) .i64 1 (by omega) (by omega), size_term]
    simp only [Result.andThen_ok, sliced]
    rfl
  · refine ⟨by rw [List.length_drop, hr.len], fun r hr' => hr.wid r (List.mem_of_mem_drop hr'), fun r hr' => hr.one r (List.mem_of_mem_drop hr'), by omega, by omega, ?_, ?_⟩
    · intro h0
      by_cases hc : c = 1
      · omega
      · rw [if_neg hc] at h0
        have : A = none := by cases A <;> simp at h0 ⊢
        have := hr.bare this
        omega
    · intro hn
      obtain ⟨b, off, hA, hcell⟩ := hr.at_ (by omega)
      rw [if_neg (by omega), hA]
      refine ⟨b, off + 1 * 3, ?_, fun j hj i hi => ?_⟩
      · simp only [Option.map_some]
        congr 1
      · have := hcell (j + 1) (by omega) i hi
        have e1 : off + 1 * 3 + j * 3 + i = off + (j + 1) * 3 + i := by omega
        rw [e1, this]
        simp [List.getD_eq_getElem?_getD, List.getElem?_drop, Nat.add_comm]
  · rw [if_neg (by omega)] at ha
    obtain ⟨b, off, hA, _⟩ := hr.at_ (by omega)
    rw [hA] at ha
    simp only [Option.map_some] at ha
    injection ha with ha
    subst ha
    have h3 := hP (by omega) _ hA
    simpa [Addr.add] using h3
  · have : (x :: l).length = m := hl
    simp only [List.length_cons] at this
    omega
  · have h2 := hx (i + 1) (by simp; omega)
    have e1 : (x :: l)[i + 1]'(by simp; omega) = l[i] := rfl
    have e2 : (rows.drop 1).getD i [] = rows.getD (i + 1) [] := by simp [List.getD_eq_getElem?_getD, List.getElem?_drop, Nat.add_comm]
    rw [e2, ← e1]
    exact h2
/-- the Args of a node, as a slice of terms -/
theorem Is.args {P : Nat → Prop} {w : World} {k n : Int} {l : List Te} {A : Option Addr} {m c : Nat} (h : Is P w (.node k n l) k n A m c) : Is P w (.node 0 0 l) 0 0 A m c := by
  obtain ⟨l', rows, e, hl, _, _, hr, hP, hx⟩ := h.inv
  injection e with _ _ e
  subst e
  exact ⟨.mk hr hP hl hx⟩
theorem Had.is' {w : World} {B : Nat} {A : Option Addr} {m c : Nat} {rows : List (List Value)} {l : List Te} (h : Had w B (.slice A m c) rows l) : Is (fun _ => True) w (.node 0 0 l) 0 0 A m c := by
  obtain ⟨A', m', c', e, hI⟩ := h.is
  injection e with e1 e2 e3
  subst e1 e2 e3
  exact hI
theorem cells_pair (w : World) (v u : Value) (t : TypeId) : (w.alloc (.cells #[v, u] t)).cell? ⟨w.heap.size, 0, none⟩ = some v ∧ (w.alloc (.cells #[v, u] t)).cell? ⟨w.heap.size, 1, none⟩ = some u :=
  ⟨(cell_of_row _ _ _ _ _ _ (heap_alloc_new w _)).trans rfl, (cell_of_row _ _ _ _ _ _ (heap_alloc_new w _)).trans rfl⟩
theorem wl_seen {acc left : List Te} {x : Te} (h : isIn acc x = true) : wl acc (x :: left) = wl acc left := by rw [wl, if_pos h]
theorem wl_new {acc left : List Te} {x : Te} (h : isIn acc x = false) : wl acc (x :: left) = wl (acc ++ [x]) (x.opened ++ left) := by rw [wl, if_neg (by rw [h]; simp)]

theorem opened_two (n : Int) (l : List Te) : (Te.node 2 n l).opened = l := by rw [Te.opened, if_pos rfl]
theorem opened_no {k : Int} (hk : ¬ k = 2) (n : Int) (l : List Te) : (Te.node k n l).opened = [] := by rw [Te.opened, if_neg hk]
/-- where the loop stands -/
structure Left (w : World) (R : List Te) (gk : Nat) (pv lv : Value) (wr : World) (acc left : List Te) (rows : List (List Value)) (A0 : Option Addr) (m0 c0 : Nat) (A : Option Addr) (m c : Nat) : Prop where
  pv_ : pv = .slice A0 m0 c0
  lv_ : lv = .slice A m c
  had : Had wr w.heap.size (.slice A0 m0 c0) rows acc
  lies : Is (fun b => (Value.slice A0 m0 c0).ownBlock ≠ some b) wr (.node 0 0 left) 0 0 A m c
  wl_ : wl acc left = R
  small : acc.length + Te.sizes left ≤ 1000000
  less : Te.sizes left ≤ gk
  below : Below w.heap.size w wr

set_option maxHeartbeats 4000000 in
theorem taken_any (P : Nat → Prop) (l : List Te) (A : Option Addr) (m c : Nat) (w : World) (hI : Is P w (.node 0 0 l) 0 0 A m c) (hz : Te.sizes l ≤ 1000000) :
    Calls Try.prog 30 #[.slice A m c] w (fun e w' => ∃ v rows, e = .returned v ∧ Had w' w.heap.size v rows (known l) ∧ Below w.heap.size w w') := by
  have H0 := Lib.hid (show Left w (known l) (Te.sizes l) (.slice none 0 0) (.slice A m c) w [] l [] none 0 0 A m c from
    ⟨rfl, rfl, Had.nil _ _, hI.mono fun b _ => by simp [Value.ownBlock], wl_known l, by simpa using hz, Nat.le_refl _, Below.refl _ _⟩)
  obtain ⟨R, hR⟩ : ∃ R, known l = R := ⟨_, rfl⟩
  rw [hR] at H0 ⊢
  obtain ⟨gk0, hgk0⟩ : ∃ g, Te.sizes l = g := ⟨_, rfl⟩
  rw [hgk0] at H0
  clear hI hz hR hgk0
  go_enter Try.func30, Try.ntmps30
  go_wp2
  go_step3
  go_wp2
  go_step3
  go_wp2
  go_loopg [3, 4] gk0 (fun gk pv lv wr => ∃ acc left rows A0 m0 c0 A m c, Left w R gk pv lv wr acc left rows A0 m0 c0 A m c)
  case atStart => exact ⟨_, _, _, _, _, _, _, _, _, H0.out⟩
  case round =>
    obtain ⟨acc, left, rows, A0, m0, c0, A', m', c', hL⟩ := hrel
    obtain ⟨rfl, rfl, hH, hI, hwl, hsm, hls, hb⟩ := hL
    obtain ⟨hlm, -, -, hm63⟩ := hI.len
    match left with
    | [] =>
      obtain rfl : m' = 0 := by simpa using hlm.symm
      have hfin : acc = R := by rw [← hwl, wl]
      subst hfin
      have HH := Lib.hid hH
      have HB := Lib.hid hb
      clear hH hI hb hwl hlm
      go_wp2
      try rw [Exit.noGoto_ret]
      go_ret
      exact ⟨_, rows, rfl, HH.out, HB.out⟩
    | x :: rest =>
      have hm0 : 0 < m' := by rw [← hlm]; simp
      obtain ⟨wo, hwo⟩ : ∃ wo, wo = wr := ⟨_, rfl⟩
      subst hwo
      obtain ⟨gO, hgO⟩ : ∃ g, g = gk := ⟨_, rfl⟩
      subst hgO
      obtain ⟨b, off, k1, n1, A1, m1, c1, rfl, hx, z0, z1, z2⟩ := hI.at_ (Below.refl _ wo) 0 hm0 (by simp)
      have y0 : wo.cell? ⟨b, off, none⟩ = some (.int .i64 k1) := by simpa using z0
      have y1 : wo.cell? ⟨b, off + 1, none⟩ = some (.int .i64 n1) := by simpa using z1
      have y2 : wo.cell? ⟨b, off + 2, none⟩ = some (.slice A1 m1 c1) := by simpa using z2
      obtain ⟨A2, m2, c2, hrun, hrest⟩ := tms_from hI
      obtain ⟨lx, _, hxe, _⟩ := hx.inv
      have hxe2 : x = .node k1 n1 lx := hxe
      clear hxe
      subst hxe2
      have hone := one_alloc wo (.cells #[.int .i64 k1, .int .i64 n1, .slice A1 m1 c1] 24)
      have hcup := Cup.new wo k1 n1 A1 m1 c1
      have hng : (Value.slice A0 m0 c0).ownBlock ≠ some wo.heap.size := hH.not_new (Nat.le_refl _)
      have hlen0 : acc.length = m0 := hH.is'.len.1
      have hm63' := hH.is'.len.2.2.2
      obtain ⟨W1, hW1⟩ : ∃ W1, wo.alloc (.cells #[.int .i64 k1, .int .i64 n1, .slice A1 m1 c1] 24) = W1 := ⟨_, rfl⟩
      have hb1 : Below w.heap.size w W1 := by rw [← hW1]; exact hb.trans (hone.mono hb.size)
      rw [hW1] at hone hcup
      have HH := Lib.hid (hH.far hone)
      have HX := Lib.hid (hx.later hone)
      have HR := Lib.hid (hrest.later hone)
      have HC := Lib.hid hcup
      have HNG := Lib.hid hng
      have HB1 := Lib.hid hb1
      have HW := Lib.hid hW1
      have HWL := Lib.hid hwl
      have hrl : rows.length = acc.length := hH.len
      simp only [Te.sizes] at hsm hls
      have hxs := (Te.node k1 n1 lx).size_pos
      have hxo := (Te.node k1 n1 lx).opened_size
      have hll : lx.length = m1 := hx.len.1
      have hrr : rest.length = m2 := hrest.len.1
      have hl1 := sizes_len lx
      have hl2 := sizes_len rest
      have hsx : Te.sizes lx < (Te.node k1 n1 lx).size := by simp only [Te.size]; omega
      have HLEN := Lib.hid hlen0
      clear hH hx hrest hcup hng hb1 hW1 hwl hI hb hone z0 z1 z2 hlm hlen0
      go_wp2
      rw [HW.out]
      go_loopg [19] m0 (fun g i wi => ∃ j : Nat, j ≤ m0 ∧ g = m0 - j ∧ i = .int .i64 j ∧ isIn (acc.take j) (.node k1 n1 lx) = false ∧ Below W1.heap.size W1 wi)
      case atStart => exact ⟨0, Nat.zero_le _, rfl, rfl, by simp [isIn], Below.refl _ _⟩
      case round =>
        obtain ⟨j, hj, hgk, rfl, hsn, hbi⟩ := hrel
        obtain ⟨x0, x1, x2⟩ := (HC.out.below hbi).cells
        have HBI := Lib.hid hbi
        by_cases hlt : j < m0
        · have hjl : j < acc.length := by rw [HLEN.out]; exact hlt
          have hst := isIn_take (t := .node k1 n1 lx) j hjl
          have hsp := isIn_stop (t := .node k1 n1 lx) j hjl
          rw [hsn, Bool.false_or] at hst
          obtain ⟨b2, off2, k', n', A', m3, c3, rfl, hI', t0, t1, t2⟩ := HH.out.is'.at_ hbi j hlt hjl
          have htwo := one_alloc wr (.cells #[.int .i64 k', .int .i64 n', .slice A' m3 c3] 24)
          obtain ⟨s0, s1, s2⟩ := (HC.out.below (hbi.trans (htwo.mono hbi.size))).cells
          have HCS := Lib.hid (psame_any _ _ acc[j] (.node k1 n1 lx) k' n' k1 n1 A' A1 m3 c3 m1 c1 _ (hI'.later htwo) ((HX.out.later hbi).later htwo))
          have HTWO := Lib.hid (hbi.trans (htwo.mono hbi.size))
          have q0 : 0 ≤ (j : Int) := by omega
          have q1 : (j : Int) < m0 := by omega
          cases hsj : acc[j].same (.node k1 n1 lx) with
          | false =>
            rw [hsj] at HCS hst
            have HST := Lib.hid hst
            clear hbi hI' hst hsp hsj hsn htwo
            go_wp2_with (go_at_call 40; (with_reducible refine HCS.out.mono ?_); rintro e w3 ⟨rfl, hb3⟩; have hb4 := HTWO.out.trans (hb3.mono HTWO.out.size))
            go_roundg (m0 - (j + 1))
            case rel => exact ⟨j + 1, by omega, rfl, by go_num, HST.out, hb4⟩
            case measure => omega
          | true =>
            rw [hsj] at HCS
            have HST := Lib.hid (hsp hsj)
            clear hbi hI' hst hsp hsj hsn htwo
            go_wp2_with (go_at_call 40; (with_reducible refine HCS.out.mono ?_); rintro e w3 ⟨rfl, hb3⟩; have hb4 := HTWO.out.trans (hb3.mono HTWO.out.size))
            go_roundg (Te.sizes rest)
            case rel => exact ⟨acc, rest, rows, _, _, _, A2, m2, c2, ⟨rfl, rfl, HH.out.far hb4, HR.out.later hb4, (wl_seen HST.out).symm.trans HWL.out, by omega, Nat.le_refl _, HB1.out.trans (hb4.mono HB1.out.size)⟩⟩
            case measure => omega
        · obtain rfl : j = m0 := by omega
          rw [List.take_of_length_le (by rw [HLEN.out]; exact Nat.le_refl _)] at hsn
          have HNEW := Lib.hid ((wl_new hsn).symm.trans HWL.out)
          have hBs : w.heap.size ≤ wr.heap.size := Nat.le_trans HB1.out.size hbi.size
          have hal := HLEN.out
          clear hbi hsn
          by_cases hk : k1 = 2
          · subst hk
            go_wp2_with (first
              | (at_builtin
                 refine wpList_append_r_at rfl 22 24 3 40 _ _ rfl Try.underlying22 info_term (by omega) w.heap.size (.slice A0 j c0) rows rfl ((HH.out.far HBI.out).far (one_alloc _ _)).own _ 1 1 [[.int .i64 2, .int .i64 n1, .slice A1 m1 c1]] rfl (one_rws 3 24 _ [.int .i64 2, .int .i64 n1, .slice A1 m1 c1] rfl (row_one 2 n1 A1 m1 c1)) (by omega) (by omega) (Nat.le_trans hBs (size_le_alloc _ _)) ?_
                 intro v4 w4 hown4 hg4 hat4
                 obtain ⟨hH4, hT4⟩ := ((HH.out.far HBI.out).far (one_alloc wr (.cells #[.int .i64 2, .int .i64 n1, .slice A1 m1 c1] 24))).step (((HX.out.later HBI.out).later (one_alloc wr (.cells #[.int .i64 2, .int .i64 n1, .slice A1 m1 c1] 24))).lies) hown4 hg4 hat4
                 have hT5 := (Turns.below (.slice A0 j c0) (HBI.out.trans ((one_alloc wr (.cells #[.int .i64 2, .int .i64 n1, .slice A1 m1 c1] 24)).mono HBI.out.size))).trans hT4
                 obtain ⟨s0, s1, s2⟩ := (HC.out.turns hT5 HNG.out).cells
                 have ho4 := one_alloc w4 (.cells #[.slice A1 m1 c1, .slice A2 m2 c2] 22)
                 obtain ⟨p0, p1⟩ := cells_pair w4 (.slice A1 m1 c1) (.slice A2 m2 c2) 22
                 have hcc := concat_any (fun b => v4.ownBlock ≠ some b) lx rest A1 m1 c1 A2 m2 c2 w4.heap.size _ ((hT5.is HX.out).args.later ho4) ((hT5.is HR.out).later ho4) p0 p1 (by omega)
                 have hB5 := HB1.out.trans (hT5.to_below HB1.out.size (fun g hg => (HH.out.own.size g hg).1))
                 have HB5 := Lib.hid (hB5.trans (ho4.mono hB5.size))
                 have HH4 := Lib.hid (hH4.far ho4)
                 have HCC := Lib.hid hcc
                 clear hH4 hT4 hT5 hown4 hg4 hat4 ho4 p0 p1 hcc hB5)
              | (go_at_call 43
                 (with_reducible refine HCC.out.mono ?_)
                 rintro e w5 ⟨A5, m5, c5, rfl, hI5, hb5⟩
                 have HH5 := Lib.hid (HH4.out.far hb5)
                 have HI5 := Lib.hid (hI5.mono fun b hb e => hb.elim (fun h => h e) fun h => by have := (HH4.out.own.size b e).2; omega)
                 have HB6 := Lib.hid (HB5.out.trans (hb5.mono HB5.out.size))
                 clear hI5 hb5))
            obtain ⟨A6, m6, c6, rfl, _⟩ := HH5.out.is
            have hnew := HNEW.out
            rw [opened_two] at hnew
            have HNEW2 := Lib.hid hnew
            clear hnew
            go_roundg (Te.sizes lx + Te.sizes rest)
            case rel => exact ⟨acc ++ [.node 2 n1 lx], lx ++ rest, _, A6, m6, c6, A5, m5, c5, ⟨rfl, rfl, HH5.out, HI5.out, HNEW2.out, by rw [Te.sizes_append, List.length_append, List.length_singleton]; omega, by rw [Te.sizes_append]; exact Nat.le_refl _, HB6.out⟩⟩
            case measure => omega
          · have hk2 : (k1 == 2) = false := by rw [beq_eq_false_iff_ne]; exact hk
            go_wp2_with (at_builtin
                         refine wpList_append_r_at rfl 22 24 3 40 _ _ rfl Try.underlying22 info_term (by omega) w.heap.size (.slice A0 j c0) rows rfl ((HH.out.far HBI.out).far (one_alloc _ _)).own _ 1 1 [[.int .i64 k1, .int .i64 n1, .slice A1 m1 c1]] rfl (one_rws 3 24 _ [.int .i64 k1, .int .i64 n1, .slice A1 m1 c1] rfl (row_one k1 n1 A1 m1 c1)) (by omega) (by omega) (Nat.le_trans hBs (size_le_alloc _ _)) ?_
                         intro v4 w4 hown4 hg4 hat4
                         obtain ⟨hH4, hT4⟩ := ((HH.out.far HBI.out).far (one_alloc wr (.cells #[.int .i64 k1, .int .i64 n1, .slice A1 m1 c1] 24))).step (((HX.out.later HBI.out).later (one_alloc wr (.cells #[.int .i64 k1, .int .i64 n1, .slice A1 m1 c1] 24))).lies) hown4 hg4 hat4
                         have hT5 := (Turns.below (.slice A0 j c0) (HBI.out.trans ((one_alloc wr (.cells #[.int .i64 k1, .int .i64 n1, .slice A1 m1 c1] 24)).mono HBI.out.size))).trans hT4
                         obtain ⟨s0, s1, s2⟩ := (HC.out.turns hT5 HNG.out).cells
                         have HB5 := Lib.hid (HB1.out.trans (hT5.to_below HB1.out.size (fun g hg => (HH.out.own.size g hg).1)))
                         have HH4 := Lib.hid hH4
                         have HI4 := Lib.hid (hT5.is HR.out)
                         clear hH4 hT4 hT5 hown4 hg4 hat4)
            obtain ⟨A6, m6, c6, rfl, _⟩ := HH4.out.is
            have hnew := HNEW.out
            rw [opened_no hk, List.nil_append] at hnew
            have HNEW2 := Lib.hid hnew
            clear hnew
            go_roundg (Te.sizes rest)
            case rel => exact ⟨acc ++ [.node k1 n1 lx], rest, _, A6, m6, c6, A2, m2, c2, ⟨rfl, rfl, HH4.out, HI4.out, HNEW2.out, by rw [List.length_append, List.length_singleton]; omega, Nat.le_refl _, HB5.out⟩⟩
            case measure => omega
end Go.Proofs.Ytcpeaeefphgbaaa
