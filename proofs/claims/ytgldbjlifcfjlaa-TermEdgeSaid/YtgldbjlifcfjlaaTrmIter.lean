/- The walk over package term's along: an iterator over the terms that stand in a row. -/
import Derived.Test.YtgldbjlifcfjlaaTrmAlong
import Derived.Deep.LoopGhost
namespace Go.Proofs.Ytgldbjlifcfjlaa
set_option linter.unusedVariables false
set_option linter.unusedSimpArgs false
open Go.RowKit Go.Shelf
attribute [local go_sem] Oper.semAt_some

/-- the values that the iterator hands over -/
def alV (L : List (Te × R5)) (k : Nat) : Value := r5V ((L.getD k (.node 0 0 [], (0, 0, none, 0, 0))).2)
theorem alV_at {L M : List (Te × R5)} {k : Nat} {x : Te × R5} (h : L.drop k = x :: M) : alV L k = r5V x.2 ∧ k < L.length ∧ L.drop (k + 1) = M := by
  have hk : k < L.length := by
    rcases Nat.lt_or_ge k L.length with h1 | h1
    · exact h1
    · rw [List.drop_of_length_le h1] at h; cases h
  rw [List.drop_eq_getElem_cons hk] at h
  injection h with h1 h2
  refine ⟨?_, hk, h2⟩
  unfold alV
  simp [List.getD_eq_getElem?_getD, hk, h1]
/-- what a round leaves to the iterator: what lay ahead, and the iterator's own block -/
def KpAt (B0 g : Nat) (A B : World) : Prop := Below B0 A B ∧ B.heap[g]? = A.heap[g]?
/-- q rounds are still to come, behind this one -/
def AlInv (B0 g : Nat) (wb : World) (L : List (Te × R5)) (J : Nat → World → Prop) (q : Nat) (wr : World) : Prop :=
  ∃ (k : Nat) (t : Te) (r : R5), k + q + 1 = L.length ∧ Along (· < B0) wb t r (L.drop k) ∧ Box3 wr g r.1 r.2.1 r.2.2.1 r.2.2.2.1 r.2.2.2.2 ∧ J k wr ∧ Below B0 wb wr

set_option maxRecDepth 100000 in
set_option maxHeartbeats 2000000 in
theorem along_hands (n B0 Bs : Nat) (t : Te) (k m c : Nat) (kk nn : Int) (A : Option Addr) (L : List (Te × R5)) (wb w0 : World) (hn : 1 ≤ n) (hL : Along (· < B0) wb t (kk, nn, A, m, c) L) (hwb : Below B0 wb w0) (hB0 : B0 ≤ w0.heap.size) (hBs : Bs < w0.heap.size) (hbox : Box3 w0 Bs kk nn A m c) :
    HandsX Fence.wide n Try.prog 36 #[.pointer (some ⟨Bs, 0, none⟩)] (alV L) L.length (KpAt B0) w0 := by
  intro l J Jx W hW hJ hJx hY h0
  have hboxW := hbox.below hW hBs
  obtain ⟨p0, p1, p2⟩ := hboxW.cells
  have hWb : Below B0 wb W := hwb.trans (hW.mono hB0)
  have hBW : B0 ≤ W.heap.size := Nat.le_trans hB0 hW.size
  have hg0 := Box3.new W kk nn A m c
  have hone := one_alloc W (.cells #[.int .i64 kk, .int .i64 nn, .slice A m c] 24)
  have hst : AlInv B0 W.heap.size wb L J (L.length - 1) (W.alloc (.cells #[.int .i64 kk, .int .i64 nn, .slice A m c] 24)) :=
    ⟨0, t, (kk, nn, A, m, c), by have := hL.pos; omega, by rw [List.drop_zero]; exact hL, hg0, hJ 0 _ _ h0 (But.of_below hone), hWb.trans (hone.mono hBW)⟩
  have HST := Lib.hid hst
  have HY := Lib.hid hY
  have HJ := Lib.hid hJ
  have HJX := Lib.hid hJx
  have HBW := Lib.hid hBW
  clear hst hY hJ hJx h0 hL hwb hWb hg0 hone hboxW hbox hW hBW
  refine callsIn_of_wp Try.func36 rfl trivial ?_ rfl
  simp only [Try.ntmps36, List.size_toArray, List.length_cons, List.length_nil, Nat.reduceAdd, Nat.reduceSub, Array.replicate_succ, Array.replicate_zero, List.push_toArray, List.append_toArray, List.nil_append, List.cons_append]
  gi_wp2
  gi_loopw [] (fun wr => ∃ q, AlInv B0 W.heap.size wb L J q wr) (fun wr => leastOf (fun q => AlInv B0 W.heap.size wb L J q wr))
  case atStart => exact ⟨_, HST.out⟩
  case round =>
    obtain ⟨hq, hmin⟩ := leastOf_spec hrel
    obtain ⟨q, hqe⟩ : ∃ q, leastOf (fun q => AlInv B0 W.heap.size wb L J q wr) = q := ⟨_, rfl⟩
    rw [hqe] at hq
    have HM := Lib.hid hqe
    clear hmin hqe hrel
    obtain ⟨k, t', r, hk, hal, hbx, hj, hb⟩ := hq
    have HBX := Lib.hid hbx
    have HJK := Lib.hid hj
    have HB := Lib.hid hb
    generalize hD : L.drop k = D at hal
    clear hbx hj hb
    cases hal with
    | @last _ k' n' A' m' c' hnn hI =>
      obtain ⟨hv, hkl, -⟩ := alV_at hD
      have hkN : k + 1 = L.length := by
        have := congrArg List.length hD
        rw [List.length_drop, List.length_singleton] at this
        omega
      obtain ⟨y0, y1, y2⟩ := HBX.out.cells
      simp only at y0 y1 y2 hv
      unfold r5V at hv
      obtain ⟨_, _, _, hmi⟩ : True ∧ True ∧ True ∧ m' ≤ 9223372036854775807 := by
        obtain ⟨l', rows, rfl, _⟩ := hI.inv
        exact ⟨trivial, trivial, trivial, hI.len.2.2.2⟩
      have HKN := Lib.hid hkN
      have HKL := Lib.hid hkl
      have HV := Lib.hid hv
      by_cases hk2 : k' = 2
      · subst hk2
        have hnb : nodeB 2 n' m' = false := by rw [← Bool.not_eq_true]; exact fun h => hnn ⟨rfl, h⟩
        have hic := isNode_any 2 n' A' m' c' wr hmi
        rw [hnb] at hic
        have HIC := Lib.hid (callsIn_wide (n := n - 1).2 hic)
        clear hI hnn hic hk hkN hD hkl hv hnb
        gi_wp2_with (refine ⟨trivial, ?_⟩; gi_at_call 29; refine HIC.out.mono ?_; rintro e w1 ⟨rfl, hb1⟩
                     have hbx1 := HBX.out.keep hb1
                     obtain ⟨z0, z1, z2⟩ := hbx1.cells
                     simp only at z0 z1 z2
                     obtain ⟨fn, tmps, assign, body, hy, hR⟩ := HY.out k w1 HKL.out hbx1.lt (HJ.out k _ _ HJK.out (But.of_below hb1))
                     rw [HV.out] at hy)
        refine hR.mono ?_
        rintro e W3 (⟨rfl, hJ3, -⟩ | ⟨rfl, hJ3⟩)
        · gi_wp2
          go_end0
          exact ⟨⟨_, rfl⟩, .inl (by rw [← HKN.out]; exact hJ3)⟩
        · gi_wp2
          go_end0
          exact ⟨⟨_, rfl⟩, .inr hJ3⟩
      · have hk2b : (k' == 2) = false := by rw [beq_eq_false_iff_ne]; exact hk2
        obtain ⟨fn, tmps, assign, body, hy, hR⟩ := HY.out k wr HKL.out HBX.out.lt HJK.out
        rw [HV.out] at hy
        clear hI hnn hk hkN hD hkl hv
        gi_wp2
        refine ⟨trivial, ?_⟩
        gi_wp2
        refine hR.mono ?_
        rintro e W3 (⟨rfl, hJ3, -⟩ | ⟨rfl, hJ3⟩)
        · gi_wp2
          go_end0
          exact ⟨⟨_, rfl⟩, .inl (by rw [← HKN.out]; exact hJ3)⟩
        · gi_wp2
          go_end0
          exact ⟨⟨_, rfl⟩, .inr hJ3⟩
    | @step t u b off c k1 n1 k2 n2 A1 A2 m1 c1 m2 c2 M hP hI h1 e0 e1 e2 e3 e4 e5 hr =>
      obtain ⟨hv, hkl, hdr⟩ := alV_at hD
      obtain ⟨y0, y1, y2⟩ := HBX.out.cells
      simp only at y0 y1 y2 hv
      unfold r5V at hv
      have HDR := Lib.hid hdr
      have HKL := Lib.hid hkl
      have HV := Lib.hid hv
      have HR := Lib.hid hr
      have HK := Lib.hid hk
      have HP := Lib.hid hP
      have hic := isNode_any 2 0 (some ⟨b, off, none⟩) 2 c wr (by omega)
      rw [show nodeB 2 0 2 = true from nodeB_yes (by omega)] at hic
      have HIC := Lib.hid (callsIn_wide (n := n - 1).2 hic)
      have E0 := Lib.hid e0
      have E1 := Lib.hid e1
      have E2 := Lib.hid e2
      have E3 := Lib.hid e3
      have E4 := Lib.hid e4
      have E5 := Lib.hid e5
      clear hI hic hk hD hkl hv hdr hr hP e0 e1 e2 e3 e4 e5 h1
      gi_wp2_with (refine ⟨trivial, ?_⟩; gi_at_call 29; refine HIC.out.mono ?_; rintro e w1 ⟨rfl, hb1⟩
                   have hbx1 := HBX.out.keep hb1
                   obtain ⟨z0, z1, z2⟩ := hbx1.cells
                   simp only at z0 z1 z2
                   have hbb := HB.out.trans (hb1.mono (Nat.le_trans HBW.out (by have := HBX.out.lt; omega)))
                   have g0 := (hbb.cell (p := ⟨b, off, none⟩) HP.out).trans E0.out
                   have g1 := (hbb.cell (p := ⟨b, off + 1, none⟩) HP.out).trans E1.out
                   have g2 := (hbb.cell (p := ⟨b, off + 2, none⟩) HP.out).trans E2.out
                   obtain ⟨fn, tmps, assign, body, hy, hR⟩ := HY.out k w1 HKL.out hbx1.lt (HJ.out k _ _ HJK.out (But.of_below hb1))
                   rw [HV.out] at hy
                   have HBX1 := Lib.hid hbx1
                   have HBB := Lib.hid hbb
                   clear hbx1 hbb)
      refine hR.mono ?_
      rintro e W3 (⟨rfl, hJ3, hK3⟩ | ⟨rfl, hJ3⟩)
      · obtain ⟨hK3, hK4⟩ := hK3
        have hbx3 : Box3 W3 _ _ _ _ _ _ := hK4.trans HBX1.out
        obtain ⟨x0, x1, x2⟩ := hbx3.cells
        obtain ⟨f0, f1, f2⟩ := hbx3.free
        have hb3 := HBB.out.trans hK3
        have q3 := (hb3.cell (p := ⟨b, off + 3, none⟩) HP.out).trans E3.out
        have q4 := (hb3.cell (p := ⟨b, off + 4, none⟩) HP.out).trans E4.out
        have q5 := (hb3.cell (p := ⟨b, off + 5, none⟩) HP.out).trans E5.out
        have HBX3 := Lib.hid hbx3
        have HB3 := Lib.hid hb3
        have HJ3 := Lib.hid hJ3
        clear hbx3 hb3 hJ3 hK3 hK4 z0 z1 z2 y0 y1 y2 g0 g1 g2
        gi_wp2
        have hq1 : 0 < q := by
          have h1 := HR.out.pos
          have h2 := congrArg List.length HDR.out
          have h3 := HK.out
          rw [List.length_drop] at h2
          omega
        have hnext : AlInv B0 W.heap.size wb L J (q - 1) (((W3.setCell ⟨W.heap.size, 0, none⟩ (.int .i64 k2)).setCell ⟨W.heap.size, 1, none⟩ (.int .i64 n2)).setCell ⟨W.heap.size, 2, none⟩ (.slice A2 m2 c2)) := by
          refine ⟨k + 1, u, (k2, n2, A2, m2, c2), by have := HK.out; omega, by rw [HDR.out]; exact HR.out, HBX3.out.set, ?_, set3_below HB3.out HBW.out⟩
          exact HJ.out _ _ _ HJ3.out ((((But.refl _ _).setAt 0 _).setAt 1 _).setAt 2 _)
        go_roundw
        case rel => exact ⟨_, hnext⟩
        case measure => exact Nat.lt_of_le_of_lt ((leastOf_spec ⟨_, hnext⟩).2 _ hnext) (by rw [HM.out]; omega)
      · gi_wp2
        exact bodyPost_ret (v := .tuple #[]) (by simp [results, Try.results36, go_sem]) rfl ⟨⟨_, rfl⟩, .inr hJ3⟩

theorem along_any (k n : Int) (A : Option Addr) (m c : Nat) (w : World) :
    Calls Try.prog 28 #[.agg #[.int .i64 k, .int .i64 n, .slice A m c]] w fun e w' => e = .returned (.func (.func 36) #[] #[.pointer (some ⟨w.heap.size, 0, none⟩)]) ∧ w.alloc (.cells #[.int .i64 k, .int .i64 n, .slice A m c] 24) = w' := by
  have hmf := hmf
  go_enter Try.func28, Try.ntmps28
  go_wp2
  go_ret
  exact ⟨rfl, rfl⟩
end Go.Proofs.Ytgldbjlifcfjlaa
