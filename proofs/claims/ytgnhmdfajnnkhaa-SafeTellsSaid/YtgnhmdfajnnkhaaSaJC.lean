/- Joined texts: The document's May of a machine: a stage, a phase, or what is asked for, that there is not. The document's May of a machine: one that is held as it may not be. The document's May of a machine: amber, and all red. The document's May of a machine: green. The walk over the document's May of a machine. -/
import Derived.Test.YtgnhmdfajnnkhaaSaJB
/- The document's May of a machine: a stage, a phase, or what is asked for, that there is not. -/
namespace Go.Proofs.Ytgnhmdfajnnkhaa
set_option maxRecDepth 100000
set_option linter.unusedVariables false
set_option linter.unusedSimpArgs false
open Go.RowKit

set_option maxHeartbeats 16000000 in
theorem smay_range (A : Option Addr) (n c : Nat) (l : List Pl) (s : Sg) (w : World) (hl : Pls w A n c l) (hts : SmG s) (ha : allP l = true) (hpl0 : 0 ≤ s.pl) (hpl1 : s.pl < n) (p0 : Pl) (hq : planAt l s.pl = p0) (hno : ¬ RangeS p0 n s) : Calls Try.prog 36 #[.slice A n c, sgV s] w fun e w' => e = .returned (.bool (mayS l s)) ∧ Below w.heap.size w w' := by
  have hsm := hl.small
  have HLL := Lib.hid hl.len
  have hlen := hl.len
  simp only [sgV]
  obtain ⟨W0, hW0⟩ : ∃ W0, w.alloc (.cells #[.int .i64 s.pl, .int .i64 s.st, .int .i64 s.nx, .int .i64 s.ph, .int .i64 s.t, .int .i64 s.hd, .int .i64 s.hl, .int .i64 s.ak, .int .i64 s.wt, .bool s.sp] 24) = W0 := ⟨_, rfl⟩
  have hB0 : Below w.heap.size w W0 := by rw [← hW0]; exact one_alloc w _
  have hbx : BoxG W0 w.heap.size s := by rw [← hW0]; exact BoxG.new w s
  have hl0 : Pls W0 A n c l := hl.below hB0
  have HW := Lib.hid hW0
  have HB0 := Lib.hid hB0
  have HBX := Lib.hid hbx
  have HL := Lib.hid hl0
  have HAL := Lib.hid (rall_any A n c l W0 hl0)
  clear hW0 hB0 hbx hl
  rw [ha] at HAL
  obtain ⟨h1, h3⟩ := all_three ha
  obtain ⟨pl, st, nx, ph, t, hd, hh, ak, wt, sp⟩ := s
  simp only at *
  obtain ⟨j, rfl⟩ := Int.eq_ofNat_of_zero_le (show 0 ≤ pl by omega)
  have hj : j < n := by omega
  obtain ⟨b, off, p, rfl, hp, hmem, -, hpi, -⟩ := hl0.at_ j hj
  have hff := fit_iff.1 (all_fit ha hmem)
  have hpa : planAt l (j : Int) = p := by rw [planAt, Int.toNat_natCast, hp]
  obtain rfl : p = p0 := hpa.symm.trans hq
  have hk := hpi.s.len
  have hk2 := hff.two
  have hk6 := hff.six
  have hd0 := hff.hd1
  have hd3 := hff.hd2
  have HNO := Lib.hid (fun h => mays_not (l := l) (s := ⟨j, st, nx, ph, t, hd, hh, ak, wt, sp⟩) h)
  have HMI := Lib.hid (show MayS l ⟨j, st, nx, ph, t, hd, hh, ak, wt, sp⟩ ↔ RangeS p n ⟨j, st, nx, ph, t, hd, hh, ak, wt, sp⟩ ∧ HeldS p ⟨j, st, nx, ph, t, hd, hh, ak, wt, sp⟩ ∧ (ph = 0 → GreenS p ⟨j, st, nx, ph, t, hd, hh, ak, wt, sp⟩) ∧ (ph ≠ 0 → OtherS p ⟨j, st, nx, ph, t, hd, hh, ak, wt, sp⟩) from by
    constructor
    · rintro ⟨-, -, -, a, b, c, d⟩
      rw [show (Sg.pl ⟨j, st, nx, ph, t, hd, hh, ak, wt, sp⟩) = (j : Int) from rfl, hpa] at a b c d
      rw [hlen] at a
      exact ⟨a, b, c, d⟩
    · rintro ⟨a, b, c, d⟩
      refine ⟨ha, by simp, by simp only; omega, ?_, ?_, ?_, ?_⟩
      all_goals rw [show (Sg.pl ⟨j, st, nx, ph, t, hd, hh, ak, wt, sp⟩) = (j : Int) from rfl, hpa]
      · rw [hlen]; exact a
      · exact b
      · exact c
      · exact d)
  have HYES := Lib.hid (fun h => (mayS_iff (l := l) (s := ⟨j, st, nx, ph, t, hd, hh, ak, wt, sp⟩)).2 (HMI.out.2 h))
  have HMG := Lib.hid (show st < p.k → 0 ≤ st → ∀ X, Below W0.heap.size W0 X → ∃ B off, p.B = some ⟨B, off, none⟩ ∧ X.cell? ⟨B, off + st.toNat * 3 + 2, none⟩ = some (.int .i64 (stgAt p st).mx) from fun h1 h0 X hX => by
    obtain ⟨B, off, x, hB, hx, -, -, -, -, z2⟩ := (hpi.s.below hX).at_ st.toNat (by omega)
    exact ⟨B, off, hB, by rw [stgAt, hx]; exact z2⟩)
  obtain ⟨R, hR⟩ : ∃ R, mayS l ⟨j, st, nx, ph, t, hd, hh, ak, wt, sp⟩ = R := ⟨_, rfl⟩
  rw [hR] at HNO HYES ⊢
  have HPC := Lib.hid (show ∀ X, Below W0.heap.size W0 X → X.cell? ⟨b, off + j * 5, none⟩ = some (.slice p.A p.n p.c) ∧ X.cell? ⟨b, off + j * 5 + 1, none⟩ = some (.slice p.B p.k p.d) ∧ X.cell? ⟨b, off + j * 5 + 2, none⟩ = some (.int .i64 p.am) ∧ X.cell? ⟨b, off + j * 5 + 3, none⟩ = some (.int .i64 p.rd) ∧ X.cell? ⟨b, off + j * 5 + 4, none⟩ = some (.int .i64 p.hd) from fun X hX => by
    obtain ⟨b2, off2, p2, hA2, hp2, -, -, -, z0, z1, z2, z3, z4⟩ := (HL.out.below hX).at_ j hj
    cases hA2
    obtain rfl := hp.symm.trans hp2
    exact ⟨z0, z1, z2, z3, z4⟩)
  have hj0 : 0 ≤ (j : Int) := by omega
  have hjn : (j : Int) < n := by omega
  clear hR hl0 hp hpa ha hff hmem hpi hq
  have hsk : p.s.length = p.k := hk
  have HSL := Lib.hid hk
  clear hk hsk
  obtain ⟨A, n', c', m, B, k, d, sl, am, rd, hd'⟩ := p
  simp only at *
  rw [HSL.out] at hk2 hk6
  have HNR := Lib.hid hno
  clear hno
  by_cases hc : st < 0
  · have HR := Lib.hid (HNO.out fun h => by
      have h := HMI.out.1 h
      have := h.1.s0; simp only at this; omega)
    clear HNO HYES HMI HMG
    go_enter Try.func36, Try.ntmps36
    go_wp2_with (go_at_call 53; rw [HW.out]; (with_reducible refine (HAL.out).mono ?_); rintro e w1 ⟨rfl, hb1⟩; have HB1 := Lib.hid hb1; obtain ⟨c0, c1, c2, c3, c4, c5, c6, c7, c8, c9⟩ := (HBX.out.below hb1).cells; simp only at c0 c1 c2 c3 c4 c5 c6 c7 c8 c9; obtain ⟨p0, p1, p2, p3, p4⟩ := HPC.out w1 hb1; obtain ⟨d0, d1, d2, d3, d4, d5, d6, d7, d8, d9⟩ := (HBX.out.below (hb1.trans ((one_alloc w1 (.cells #[.slice A n' c', .slice B k d, .int .i64 am, .int .i64 rd, .int .i64 hd'] 47)).mono hb1.size))).cells; simp only at d0 d1 d2 d3 d4 d5 d6 d7 d8 d9; clear hb1)
    go_ret
    exact ⟨by rw [HR.out]; rfl, HB0.out.trans ((HB1.out.trans ((one_alloc w1 _).mono HB1.out.size)).mono HB0.out.size)⟩
  have a0 : 0 ≤ st := by omega
  clear hc
  by_cases hc : (k : Int) ≤ st
  · have HR := Lib.hid (HNO.out fun h => by
      have h := HMI.out.1 h
      have := h.1.s1; have := HSL.out; simp only at *; omega)
    clear HNO HYES HMI HMG
    go_enter Try.func36, Try.ntmps36
    go_wp2_with (go_at_call 53; rw [HW.out]; (with_reducible refine (HAL.out).mono ?_); rintro e w1 ⟨rfl, hb1⟩; have HB1 := Lib.hid hb1; obtain ⟨c0, c1, c2, c3, c4, c5, c6, c7, c8, c9⟩ := (HBX.out.below hb1).cells; simp only at c0 c1 c2 c3 c4 c5 c6 c7 c8 c9; obtain ⟨p0, p1, p2, p3, p4⟩ := HPC.out w1 hb1; obtain ⟨d0, d1, d2, d3, d4, d5, d6, d7, d8, d9⟩ := (HBX.out.below (hb1.trans ((one_alloc w1 (.cells #[.slice A n' c', .slice B k d, .int .i64 am, .int .i64 rd, .int .i64 hd'] 47)).mono hb1.size))).cells; simp only at d0 d1 d2 d3 d4 d5 d6 d7 d8 d9; clear hb1)
    go_ret
    exact ⟨by rw [HR.out]; rfl, HB0.out.trans ((HB1.out.trans ((one_alloc w1 _).mono HB1.out.size)).mono HB0.out.size)⟩
  have a1 : st < k := by omega
  clear hc
  by_cases hc : nx < 0
  · have HR := Lib.hid (HNO.out fun h => by
      have h := HMI.out.1 h
      have := h.1.n0; simp only at this; omega)
    clear HNO HYES HMI HMG
    go_enter Try.func36, Try.ntmps36
    go_wp2_with (go_at_call 53; rw [HW.out]; (with_reducible refine (HAL.out).mono ?_); rintro e w1 ⟨rfl, hb1⟩; have HB1 := Lib.hid hb1; obtain ⟨c0, c1, c2, c3, c4, c5, c6, c7, c8, c9⟩ := (HBX.out.below hb1).cells; simp only at c0 c1 c2 c3 c4 c5 c6 c7 c8 c9; obtain ⟨p0, p1, p2, p3, p4⟩ := HPC.out w1 hb1; obtain ⟨d0, d1, d2, d3, d4, d5, d6, d7, d8, d9⟩ := (HBX.out.below (hb1.trans ((one_alloc w1 (.cells #[.slice A n' c', .slice B k d, .int .i64 am, .int .i64 rd, .int .i64 hd'] 47)).mono hb1.size))).cells; simp only at d0 d1 d2 d3 d4 d5 d6 d7 d8 d9; clear hb1)
    go_ret
    exact ⟨by rw [HR.out]; rfl, HB0.out.trans ((HB1.out.trans ((one_alloc w1 _).mono HB1.out.size)).mono HB0.out.size)⟩
  have a2 : 0 ≤ nx := by omega
  clear hc
  by_cases hc : (k : Int) ≤ nx
  · have HR := Lib.hid (HNO.out fun h => by
      have h := HMI.out.1 h
      have := h.1.n1; have := HSL.out; simp only at *; omega)
    clear HNO HYES HMI HMG
    go_enter Try.func36, Try.ntmps36
    go_wp2_with (go_at_call 53; rw [HW.out]; (with_reducible refine (HAL.out).mono ?_); rintro e w1 ⟨rfl, hb1⟩; have HB1 := Lib.hid hb1; obtain ⟨c0, c1, c2, c3, c4, c5, c6, c7, c8, c9⟩ := (HBX.out.below hb1).cells; simp only at c0 c1 c2 c3 c4 c5 c6 c7 c8 c9; obtain ⟨p0, p1, p2, p3, p4⟩ := HPC.out w1 hb1; obtain ⟨d0, d1, d2, d3, d4, d5, d6, d7, d8, d9⟩ := (HBX.out.below (hb1.trans ((one_alloc w1 (.cells #[.slice A n' c', .slice B k d, .int .i64 am, .int .i64 rd, .int .i64 hd'] 47)).mono hb1.size))).cells; simp only at d0 d1 d2 d3 d4 d5 d6 d7 d8 d9; clear hb1)
    go_ret
    exact ⟨by rw [HR.out]; rfl, HB0.out.trans ((HB1.out.trans ((one_alloc w1 _).mono HB1.out.size)).mono HB0.out.size)⟩
  have a3 : nx < k := by omega
  clear hc
  by_cases hc : ph < 0
  · have HR := Lib.hid (HNO.out fun h => by
      have h := HMI.out.1 h
      have := h.1.p0; simp only at this; omega)
    clear HNO HYES HMI HMG
    go_enter Try.func36, Try.ntmps36
    go_wp2_with (go_at_call 53; rw [HW.out]; (with_reducible refine (HAL.out).mono ?_); rintro e w1 ⟨rfl, hb1⟩; have HB1 := Lib.hid hb1; obtain ⟨c0, c1, c2, c3, c4, c5, c6, c7, c8, c9⟩ := (HBX.out.below hb1).cells; simp only at c0 c1 c2 c3 c4 c5 c6 c7 c8 c9; obtain ⟨p0, p1, p2, p3, p4⟩ := HPC.out w1 hb1; obtain ⟨d0, d1, d2, d3, d4, d5, d6, d7, d8, d9⟩ := (HBX.out.below (hb1.trans ((one_alloc w1 (.cells #[.slice A n' c', .slice B k d, .int .i64 am, .int .i64 rd, .int .i64 hd'] 47)).mono hb1.size))).cells; simp only at d0 d1 d2 d3 d4 d5 d6 d7 d8 d9; clear hb1)
    go_ret
    exact ⟨by rw [HR.out]; rfl, HB0.out.trans ((HB1.out.trans ((one_alloc w1 _).mono HB1.out.size)).mono HB0.out.size)⟩
  have a4 : 0 ≤ ph := by omega
  clear hc
  by_cases hc : 3 ≤ ph
  · have HR := Lib.hid (HNO.out fun h => by
      have h := HMI.out.1 h
      have := h.1.p1; simp only at this; omega)
    clear HNO HYES HMI HMG
    go_enter Try.func36, Try.ntmps36
    go_wp2_with (go_at_call 53; rw [HW.out]; (with_reducible refine (HAL.out).mono ?_); rintro e w1 ⟨rfl, hb1⟩; have HB1 := Lib.hid hb1; obtain ⟨c0, c1, c2, c3, c4, c5, c6, c7, c8, c9⟩ := (HBX.out.below hb1).cells; simp only at c0 c1 c2 c3 c4 c5 c6 c7 c8 c9; obtain ⟨p0, p1, p2, p3, p4⟩ := HPC.out w1 hb1; obtain ⟨d0, d1, d2, d3, d4, d5, d6, d7, d8, d9⟩ := (HBX.out.below (hb1.trans ((one_alloc w1 (.cells #[.slice A n' c', .slice B k d, .int .i64 am, .int .i64 rd, .int .i64 hd'] 47)).mono hb1.size))).cells; simp only at d0 d1 d2 d3 d4 d5 d6 d7 d8 d9; clear hb1)
    go_ret
    exact ⟨by rw [HR.out]; rfl, HB0.out.trans ((HB1.out.trans ((one_alloc w1 _).mono HB1.out.size)).mono HB0.out.size)⟩
  have a5 : ph < 3 := by omega
  clear hc
  by_cases hc : ak < -1
  · have HR := Lib.hid (HNO.out fun h => by
      have h := HMI.out.1 h
      have := h.1.a0; simp only at this; omega)
    clear HNO HYES HMI HMG
    go_enter Try.func36, Try.ntmps36
    go_wp2_with (go_at_call 53; rw [HW.out]; (with_reducible refine (HAL.out).mono ?_); rintro e w1 ⟨rfl, hb1⟩; have HB1 := Lib.hid hb1; obtain ⟨c0, c1, c2, c3, c4, c5, c6, c7, c8, c9⟩ := (HBX.out.below hb1).cells; simp only at c0 c1 c2 c3 c4 c5 c6 c7 c8 c9; obtain ⟨p0, p1, p2, p3, p4⟩ := HPC.out w1 hb1; obtain ⟨d0, d1, d2, d3, d4, d5, d6, d7, d8, d9⟩ := (HBX.out.below (hb1.trans ((one_alloc w1 (.cells #[.slice A n' c', .slice B k d, .int .i64 am, .int .i64 rd, .int .i64 hd'] 47)).mono hb1.size))).cells; simp only at d0 d1 d2 d3 d4 d5 d6 d7 d8 d9; clear hb1)
    go_ret
    exact ⟨by rw [HR.out]; rfl, HB0.out.trans ((HB1.out.trans ((one_alloc w1 _).mono HB1.out.size)).mono HB0.out.size)⟩
  have a6 : -1 ≤ ak := by omega
  clear hc
  by_cases hc : (k : Int) ≤ ak
  · have HR := Lib.hid (HNO.out fun h => by
      have h := HMI.out.1 h
      have := h.1.a1; have := HSL.out; simp only at *; omega)
    clear HNO HYES HMI HMG
    go_enter Try.func36, Try.ntmps36
    go_wp2_with (go_at_call 53; rw [HW.out]; (with_reducible refine (HAL.out).mono ?_); rintro e w1 ⟨rfl, hb1⟩; have HB1 := Lib.hid hb1; obtain ⟨c0, c1, c2, c3, c4, c5, c6, c7, c8, c9⟩ := (HBX.out.below hb1).cells; simp only at c0 c1 c2 c3 c4 c5 c6 c7 c8 c9; obtain ⟨p0, p1, p2, p3, p4⟩ := HPC.out w1 hb1; obtain ⟨d0, d1, d2, d3, d4, d5, d6, d7, d8, d9⟩ := (HBX.out.below (hb1.trans ((one_alloc w1 (.cells #[.slice A n' c', .slice B k d, .int .i64 am, .int .i64 rd, .int .i64 hd'] 47)).mono hb1.size))).cells; simp only at d0 d1 d2 d3 d4 d5 d6 d7 d8 d9; clear hb1)
    go_ret
    exact ⟨by rw [HR.out]; rfl, HB0.out.trans ((HB1.out.trans ((one_alloc w1 _).mono HB1.out.size)).mono HB0.out.size)⟩
  have a7 : ak < k := by omega
  clear hc
  by_cases hc : wt < -1
  · have HR := Lib.hid (HNO.out fun h => by
      have h := HMI.out.1 h
      have := h.1.w0; simp only at this; omega)
    clear HNO HYES HMI HMG
    go_enter Try.func36, Try.ntmps36
    go_wp2_with (go_at_call 53; rw [HW.out]; (with_reducible refine (HAL.out).mono ?_); rintro e w1 ⟨rfl, hb1⟩; have HB1 := Lib.hid hb1; obtain ⟨c0, c1, c2, c3, c4, c5, c6, c7, c8, c9⟩ := (HBX.out.below hb1).cells; simp only at c0 c1 c2 c3 c4 c5 c6 c7 c8 c9; obtain ⟨p0, p1, p2, p3, p4⟩ := HPC.out w1 hb1; obtain ⟨d0, d1, d2, d3, d4, d5, d6, d7, d8, d9⟩ := (HBX.out.below (hb1.trans ((one_alloc w1 (.cells #[.slice A n' c', .slice B k d, .int .i64 am, .int .i64 rd, .int .i64 hd'] 47)).mono hb1.size))).cells; simp only at d0 d1 d2 d3 d4 d5 d6 d7 d8 d9; clear hb1)
    go_ret
    exact ⟨by rw [HR.out]; rfl, HB0.out.trans ((HB1.out.trans ((one_alloc w1 _).mono HB1.out.size)).mono HB0.out.size)⟩
  have a8 : -1 ≤ wt := by omega
  clear hc
  by_cases hc : (n : Int) ≤ wt
  · have HR := Lib.hid (HNO.out fun h => by
      have h := HMI.out.1 h
      have := h.1.w1; simp only at this; omega)
    clear HNO HYES HMI HMG
    go_enter Try.func36, Try.ntmps36
    go_wp2_with (go_at_call 53; rw [HW.out]; (with_reducible refine (HAL.out).mono ?_); rintro e w1 ⟨rfl, hb1⟩; have HB1 := Lib.hid hb1; obtain ⟨c0, c1, c2, c3, c4, c5, c6, c7, c8, c9⟩ := (HBX.out.below hb1).cells; simp only at c0 c1 c2 c3 c4 c5 c6 c7 c8 c9; obtain ⟨p0, p1, p2, p3, p4⟩ := HPC.out w1 hb1; obtain ⟨d0, d1, d2, d3, d4, d5, d6, d7, d8, d9⟩ := (HBX.out.below (hb1.trans ((one_alloc w1 (.cells #[.slice A n' c', .slice B k d, .int .i64 am, .int .i64 rd, .int .i64 hd'] 47)).mono hb1.size))).cells; simp only at d0 d1 d2 d3 d4 d5 d6 d7 d8 d9; clear hb1)
    go_ret
    exact ⟨by rw [HR.out]; rfl, HB0.out.trans ((HB1.out.trans ((one_alloc w1 _).mono HB1.out.size)).mono HB0.out.size)⟩
  have a9 : wt < n := by omega
  clear hc
  exact (HNR.out ⟨a0, by simp only; rw [HSL.out]; exact a1, a2, by simp only; rw [HSL.out]; exact a3, a4, a5, a6, by simp only; rw [HSL.out]; exact a7, a8, a9⟩).elim
end Go.Proofs.Ytgnhmdfajnnkhaa


/- The document's May of a machine: one that is held as it may not be. -/
namespace Go.Proofs.Ytgnhmdfajnnkhaa
set_option maxRecDepth 100000
set_option linter.unusedVariables false
set_option linter.unusedSimpArgs false
open Go.RowKit

set_option maxHeartbeats 16000000 in
theorem smay_held (A : Option Addr) (n c : Nat) (l : List Pl) (s : Sg) (w : World) (hl : Pls w A n c l) (hts : SmG s) (ha : allP l = true) (hpl0 : 0 ≤ s.pl) (hpl1 : s.pl < n) (p0 : Pl) (hq : planAt l s.pl = p0) (hrg : RangeS p0 n s) (hno : ¬ HeldS p0 s) : Calls Try.prog 36 #[.slice A n c, sgV s] w fun e w' => e = .returned (.bool (mayS l s)) ∧ Below w.heap.size w w' := by
  have hsm := hl.small
  have HLL := Lib.hid hl.len
  have hlen := hl.len
  simp only [sgV]
  obtain ⟨W0, hW0⟩ : ∃ W0, w.alloc (.cells #[.int .i64 s.pl, .int .i64 s.st, .int .i64 s.nx, .int .i64 s.ph, .int .i64 s.t, .int .i64 s.hd, .int .i64 s.hl, .int .i64 s.ak, .int .i64 s.wt, .bool s.sp] 24) = W0 := ⟨_, rfl⟩
  have hB0 : Below w.heap.size w W0 := by rw [← hW0]; exact one_alloc w _
  have hbx : BoxG W0 w.heap.size s := by rw [← hW0]; exact BoxG.new w s
  have hl0 : Pls W0 A n c l := hl.below hB0
  have HW := Lib.hid hW0
  have HB0 := Lib.hid hB0
  have HBX := Lib.hid hbx
  have HL := Lib.hid hl0
  have HAL := Lib.hid (rall_any A n c l W0 hl0)
  clear hW0 hB0 hbx hl
  rw [ha] at HAL
  obtain ⟨h1, h3⟩ := all_three ha
  obtain ⟨pl, st, nx, ph, t, hd, hh, ak, wt, sp⟩ := s
  simp only at *
  obtain ⟨j, rfl⟩ := Int.eq_ofNat_of_zero_le (show 0 ≤ pl by omega)
  have hj : j < n := by omega
  obtain ⟨b, off, p, rfl, hp, hmem, -, hpi, -⟩ := hl0.at_ j hj
  have hff := fit_iff.1 (all_fit ha hmem)
  have hpa : planAt l (j : Int) = p := by rw [planAt, Int.toNat_natCast, hp]
  obtain rfl : p = p0 := hpa.symm.trans hq
  have hk := hpi.s.len
  have hk2 := hff.two
  have hk6 := hff.six
  have hd0 := hff.hd1
  have hd3 := hff.hd2
  have HNO := Lib.hid (fun h => mays_not (l := l) (s := ⟨j, st, nx, ph, t, hd, hh, ak, wt, sp⟩) h)
  have HMI := Lib.hid (show MayS l ⟨j, st, nx, ph, t, hd, hh, ak, wt, sp⟩ ↔ RangeS p n ⟨j, st, nx, ph, t, hd, hh, ak, wt, sp⟩ ∧ HeldS p ⟨j, st, nx, ph, t, hd, hh, ak, wt, sp⟩ ∧ (ph = 0 → GreenS p ⟨j, st, nx, ph, t, hd, hh, ak, wt, sp⟩) ∧ (ph ≠ 0 → OtherS p ⟨j, st, nx, ph, t, hd, hh, ak, wt, sp⟩) from by
    constructor
    · rintro ⟨-, -, -, a, b, c, d⟩
      rw [show (Sg.pl ⟨j, st, nx, ph, t, hd, hh, ak, wt, sp⟩) = (j : Int) from rfl, hpa] at a b c d
      rw [hlen] at a
      exact ⟨a, b, c, d⟩
    · rintro ⟨a, b, c, d⟩
      refine ⟨ha, by simp, by simp only; omega, ?_, ?_, ?_, ?_⟩
      all_goals rw [show (Sg.pl ⟨j, st, nx, ph, t, hd, hh, ak, wt, sp⟩) = (j : Int) from rfl, hpa]
      · rw [hlen]; exact a
      · exact b
      · exact c
      · exact d)
  have HYES := Lib.hid (fun h => (mayS_iff (l := l) (s := ⟨j, st, nx, ph, t, hd, hh, ak, wt, sp⟩)).2 (HMI.out.2 h))
  have HMG := Lib.hid (show st < p.k → 0 ≤ st → ∀ X, Below W0.heap.size W0 X → ∃ B off, p.B = some ⟨B, off, none⟩ ∧ X.cell? ⟨B, off + st.toNat * 3 + 2, none⟩ = some (.int .i64 (stgAt p st).mx) from fun h1 h0 X hX => by
    obtain ⟨B, off, x, hB, hx, -, -, -, -, z2⟩ := (hpi.s.below hX).at_ st.toNat (by omega)
    exact ⟨B, off, hB, by rw [stgAt, hx]; exact z2⟩)
  obtain ⟨R, hR⟩ : ∃ R, mayS l ⟨j, st, nx, ph, t, hd, hh, ak, wt, sp⟩ = R := ⟨_, rfl⟩
  rw [hR] at HNO HYES ⊢
  have HPC := Lib.hid (show ∀ X, Below W0.heap.size W0 X → X.cell? ⟨b, off + j * 5, none⟩ = some (.slice p.A p.n p.c) ∧ X.cell? ⟨b, off + j * 5 + 1, none⟩ = some (.slice p.B p.k p.d) ∧ X.cell? ⟨b, off + j * 5 + 2, none⟩ = some (.int .i64 p.am) ∧ X.cell? ⟨b, off + j * 5 + 3, none⟩ = some (.int .i64 p.rd) ∧ X.cell? ⟨b, off + j * 5 + 4, none⟩ = some (.int .i64 p.hd) from fun X hX => by
    obtain ⟨b2, off2, p2, hA2, hp2, -, -, -, z0, z1, z2, z3, z4⟩ := (HL.out.below hX).at_ j hj
    cases hA2
    obtain rfl := hp.symm.trans hp2
    exact ⟨z0, z1, z2, z3, z4⟩)
  have hj0 : 0 ≤ (j : Int) := by omega
  have hjn : (j : Int) < n := by omega
  clear hR hl0 hp hpa ha hff hmem hpi hq
  have hsk : p.s.length = p.k := hk
  have HSL := Lib.hid hk
  clear hk hsk
  obtain ⟨A, n', c', m, B, k, d, sl, am, rd, hd'⟩ := p
  simp only at *
  rw [HSL.out] at hk2 hk6
  have HRG := Lib.hid hrg
  obtain ⟨a0, a1, a2, a3, a4, a5, a6, a7, a8, a9⟩ := hrg
  simp only [HSL.out] at a0 a1 a2 a3 a4 a5 a6 a7 a8 a9
  have HNR := Lib.hid hno
  clear hno
  by_cases hc : hd < 0
  · have HR := Lib.hid (HNO.out fun h => by
      have h := HMI.out.1 h
      have := h.2.1.h0; simp only at this; omega)
    clear HNO HYES HMI HMG
    go_enter Try.func36, Try.ntmps36
    go_wp2_with (go_at_call 53; rw [HW.out]; (with_reducible refine (HAL.out).mono ?_); rintro e w1 ⟨rfl, hb1⟩; have HB1 := Lib.hid hb1; obtain ⟨c0, c1, c2, c3, c4, c5, c6, c7, c8, c9⟩ := (HBX.out.below hb1).cells; simp only at c0 c1 c2 c3 c4 c5 c6 c7 c8 c9; obtain ⟨p0, p1, p2, p3, p4⟩ := HPC.out w1 hb1; obtain ⟨d0, d1, d2, d3, d4, d5, d6, d7, d8, d9⟩ := (HBX.out.below (hb1.trans ((one_alloc w1 (.cells #[.slice A n' c', .slice B k d, .int .i64 am, .int .i64 rd, .int .i64 hd'] 47)).mono hb1.size))).cells; simp only at d0 d1 d2 d3 d4 d5 d6 d7 d8 d9; clear hb1)
    go_ret
    exact ⟨by rw [HR.out]; rfl, HB0.out.trans ((HB1.out.trans ((one_alloc w1 _).mono HB1.out.size)).mono HB0.out.size)⟩
  have b0 : 0 ≤ hd := by omega
  clear hc
  by_cases hc : hh < 0
  · have HR := Lib.hid (HNO.out fun h => by
      have h := HMI.out.1 h
      have := h.2.1.h1; simp only at this; omega)
    clear HNO HYES HMI HMG
    go_enter Try.func36, Try.ntmps36
    go_wp2_with (go_at_call 53; rw [HW.out]; (with_reducible refine (HAL.out).mono ?_); rintro e w1 ⟨rfl, hb1⟩; have HB1 := Lib.hid hb1; obtain ⟨c0, c1, c2, c3, c4, c5, c6, c7, c8, c9⟩ := (HBX.out.below hb1).cells; simp only at c0 c1 c2 c3 c4 c5 c6 c7 c8 c9; obtain ⟨p0, p1, p2, p3, p4⟩ := HPC.out w1 hb1; obtain ⟨d0, d1, d2, d3, d4, d5, d6, d7, d8, d9⟩ := (HBX.out.below (hb1.trans ((one_alloc w1 (.cells #[.slice A n' c', .slice B k d, .int .i64 am, .int .i64 rd, .int .i64 hd'] 47)).mono hb1.size))).cells; simp only at d0 d1 d2 d3 d4 d5 d6 d7 d8 d9; clear hb1)
    go_ret
    exact ⟨by rw [HR.out]; rfl, HB0.out.trans ((HB1.out.trans ((one_alloc w1 _).mono HB1.out.size)).mono HB0.out.size)⟩
  have b1 : 0 ≤ hh := by omega
  clear hc
  by_cases hc : hd' < hh
  · have HR := Lib.hid (HNO.out fun h => by
      have h := HMI.out.1 h
      have := h.2.1.h2; simp only at this; omega)
    clear HNO HYES HMI HMG
    go_enter Try.func36, Try.ntmps36
    go_wp2_with (go_at_call 53; rw [HW.out]; (with_reducible refine (HAL.out).mono ?_); rintro e w1 ⟨rfl, hb1⟩; have HB1 := Lib.hid hb1; obtain ⟨c0, c1, c2, c3, c4, c5, c6, c7, c8, c9⟩ := (HBX.out.below hb1).cells; simp only at c0 c1 c2 c3 c4 c5 c6 c7 c8 c9; obtain ⟨p0, p1, p2, p3, p4⟩ := HPC.out w1 hb1; obtain ⟨d0, d1, d2, d3, d4, d5, d6, d7, d8, d9⟩ := (HBX.out.below (hb1.trans ((one_alloc w1 (.cells #[.slice A n' c', .slice B k d, .int .i64 am, .int .i64 rd, .int .i64 hd'] 47)).mono hb1.size))).cells; simp only at d0 d1 d2 d3 d4 d5 d6 d7 d8 d9; clear hb1)
    go_ret
    exact ⟨by rw [HR.out]; rfl, HB0.out.trans ((HB1.out.trans ((one_alloc w1 _).mono HB1.out.size)).mono HB0.out.size)⟩
  have b2 : hh ≤ hd' := by omega
  clear hc
  have hw : wrap64 (hd' - hh) = hd' - hh := by unfold wrap64; omega
  by_cases hc : hd' - hh < hd
  · have HR := Lib.hid (HNO.out fun h => by
      have h := HMI.out.1 h
      have := h.2.1.h3; simp only at this; omega)
    clear HNO HYES HMI HMG
    go_enter Try.func36, Try.ntmps36
    go_wp2_with (go_at_call 53; rw [HW.out]; (with_reducible refine (HAL.out).mono ?_); rintro e w1 ⟨rfl, hb1⟩; have HB1 := Lib.hid hb1; obtain ⟨c0, c1, c2, c3, c4, c5, c6, c7, c8, c9⟩ := (HBX.out.below hb1).cells; simp only at c0 c1 c2 c3 c4 c5 c6 c7 c8 c9; obtain ⟨p0, p1, p2, p3, p4⟩ := HPC.out w1 hb1; obtain ⟨d0, d1, d2, d3, d4, d5, d6, d7, d8, d9⟩ := (HBX.out.below (hb1.trans ((one_alloc w1 (.cells #[.slice A n' c', .slice B k d, .int .i64 am, .int .i64 rd, .int .i64 hd'] 47)).mono hb1.size))).cells; simp only at d0 d1 d2 d3 d4 d5 d6 d7 d8 d9; clear hb1)
    go_ret
    exact ⟨by rw [HR.out]; rfl, HB0.out.trans ((HB1.out.trans ((one_alloc w1 _).mono HB1.out.size)).mono HB0.out.size)⟩
  have b3 : hd ≤ hd' - hh := by omega
  clear hc
  exact (HNR.out ⟨b0, b1, b2, b3⟩).elim
end Go.Proofs.Ytgnhmdfajnnkhaa


/- The document's May of a machine: amber, and all red. -/
namespace Go.Proofs.Ytgnhmdfajnnkhaa
set_option maxRecDepth 100000
set_option linter.unusedVariables false
set_option linter.unusedSimpArgs false
open Go.RowKit

set_option maxHeartbeats 16000000 in
theorem smay_other (A : Option Addr) (n c : Nat) (l : List Pl) (s : Sg) (w : World) (hl : Pls w A n c l) (hts : SmG s) (ha : allP l = true) (hpl0 : 0 ≤ s.pl) (hpl1 : s.pl < n) (p0 : Pl) (hq : planAt l s.pl = p0) (hrg : RangeS p0 n s) (hhl : HeldS p0 s) (hph : s.ph ≠ 0) : Calls Try.prog 36 #[.slice A n c, sgV s] w fun e w' => e = .returned (.bool (mayS l s)) ∧ Below w.heap.size w w' := by
  have hsm := hl.small
  have HLL := Lib.hid hl.len
  have hlen := hl.len
  simp only [sgV]
  obtain ⟨W0, hW0⟩ : ∃ W0, w.alloc (.cells #[.int .i64 s.pl, .int .i64 s.st, .int .i64 s.nx, .int .i64 s.ph, .int .i64 s.t, .int .i64 s.hd, .int .i64 s.hl, .int .i64 s.ak, .int .i64 s.wt, .bool s.sp] 24) = W0 := ⟨_, rfl⟩
  have hB0 : Below w.heap.size w W0 := by rw [← hW0]; exact one_alloc w _
  have hbx : BoxG W0 w.heap.size s := by rw [← hW0]; exact BoxG.new w s
  have hl0 : Pls W0 A n c l := hl.below hB0
  have HW := Lib.hid hW0
  have HB0 := Lib.hid hB0
  have HBX := Lib.hid hbx
  have HL := Lib.hid hl0
  have HAL := Lib.hid (rall_any A n c l W0 hl0)
  clear hW0 hB0 hbx hl
  rw [ha] at HAL
  obtain ⟨h1, h3⟩ := all_three ha
  obtain ⟨pl, st, nx, ph, t, hd, hh, ak, wt, sp⟩ := s
  simp only at *
  obtain ⟨j, rfl⟩ := Int.eq_ofNat_of_zero_le (show 0 ≤ pl by omega)
  have hj : j < n := by omega
  obtain ⟨b, off, p, rfl, hp, hmem, -, hpi, -⟩ := hl0.at_ j hj
  have hff := fit_iff.1 (all_fit ha hmem)
  have hpa : planAt l (j : Int) = p := by rw [planAt, Int.toNat_natCast, hp]
  obtain rfl : p = p0 := hpa.symm.trans hq
  have hk := hpi.s.len
  have hk2 := hff.two
  have hk6 := hff.six
  have hd0 := hff.hd1
  have hd3 := hff.hd2
  have HNO := Lib.hid (fun h => mays_not (l := l) (s := ⟨j, st, nx, ph, t, hd, hh, ak, wt, sp⟩) h)
  have HMI := Lib.hid (show MayS l ⟨j, st, nx, ph, t, hd, hh, ak, wt, sp⟩ ↔ RangeS p n ⟨j, st, nx, ph, t, hd, hh, ak, wt, sp⟩ ∧ HeldS p ⟨j, st, nx, ph, t, hd, hh, ak, wt, sp⟩ ∧ (ph = 0 → GreenS p ⟨j, st, nx, ph, t, hd, hh, ak, wt, sp⟩) ∧ (ph ≠ 0 → OtherS p ⟨j, st, nx, ph, t, hd, hh, ak, wt, sp⟩) from by
    constructor
    · rintro ⟨-, -, -, a, b, c, d⟩
      rw [show (Sg.pl ⟨j, st, nx, ph, t, hd, hh, ak, wt, sp⟩) = (j : Int) from rfl, hpa] at a b c d
      rw [hlen] at a
      exact ⟨a, b, c, d⟩
    · rintro ⟨a, b, c, d⟩
      refine ⟨ha, by simp, by simp only; omega, ?_, ?_, ?_, ?_⟩
      all_goals rw [show (Sg.pl ⟨j, st, nx, ph, t, hd, hh, ak, wt, sp⟩) = (j : Int) from rfl, hpa]
      · rw [hlen]; exact a
      · exact b
      · exact c
      · exact d)
  have HYES := Lib.hid (fun h => (mayS_iff (l := l) (s := ⟨j, st, nx, ph, t, hd, hh, ak, wt, sp⟩)).2 (HMI.out.2 h))
  have HMG := Lib.hid (show st < p.k → 0 ≤ st → ∀ X, Below W0.heap.size W0 X → ∃ B off, p.B = some ⟨B, off, none⟩ ∧ X.cell? ⟨B, off + st.toNat * 3 + 2, none⟩ = some (.int .i64 (stgAt p st).mx) from fun h1 h0 X hX => by
    obtain ⟨B, off, x, hB, hx, -, -, -, -, z2⟩ := (hpi.s.below hX).at_ st.toNat (by omega)
    exact ⟨B, off, hB, by rw [stgAt, hx]; exact z2⟩)
  obtain ⟨R, hR⟩ : ∃ R, mayS l ⟨j, st, nx, ph, t, hd, hh, ak, wt, sp⟩ = R := ⟨_, rfl⟩
  rw [hR] at HNO HYES ⊢
  have HPC := Lib.hid (show ∀ X, Below W0.heap.size W0 X → X.cell? ⟨b, off + j * 5, none⟩ = some (.slice p.A p.n p.c) ∧ X.cell? ⟨b, off + j * 5 + 1, none⟩ = some (.slice p.B p.k p.d) ∧ X.cell? ⟨b, off + j * 5 + 2, none⟩ = some (.int .i64 p.am) ∧ X.cell? ⟨b, off + j * 5 + 3, none⟩ = some (.int .i64 p.rd) ∧ X.cell? ⟨b, off + j * 5 + 4, none⟩ = some (.int .i64 p.hd) from fun X hX => by
    obtain ⟨b2, off2, p2, hA2, hp2, -, -, -, z0, z1, z2, z3, z4⟩ := (HL.out.below hX).at_ j hj
    cases hA2
    obtain rfl := hp.symm.trans hp2
    exact ⟨z0, z1, z2, z3, z4⟩)
  have hj0 : 0 ≤ (j : Int) := by omega
  have hjn : (j : Int) < n := by omega
  clear hR hl0 hp hpa ha hff hmem hpi hq
  have hsk : p.s.length = p.k := hk
  have HSL := Lib.hid hk
  clear hk hsk
  obtain ⟨A, n', c', m, B, k, d, sl, am, rd, hd'⟩ := p
  simp only at *
  rw [HSL.out] at hk2 hk6
  have HRG := Lib.hid hrg
  obtain ⟨a0, a1, a2, a3, a4, a5, a6, a7, a8, a9⟩ := hrg
  simp only [HSL.out] at a0 a1 a2 a3 a4 a5 a6 a7 a8 a9
  have HHL := Lib.hid hhl
  obtain ⟨b0, b1, b2, b3⟩ := hhl
  simp only at b0 b1 b2 b3
  have hw : wrap64 (hd' - hh) = hd' - hh := by unfold wrap64; omega
  have hp0 : (ph == 0) = false := by rw [beq_eq_false_iff_ne]; exact hph
  by_cases hc : hd ≠ 0
  · have HR := Lib.hid (HNO.out fun h => by
      have h := HMI.out.1 h
      exact hc (h.2.2.2 hph).d)
    have hq0 : (hd != 0) = true := by rw [bne_iff_ne]; exact hc
    clear HNO HYES HMI HMG
    go_enter Try.func36, Try.ntmps36
    go_wp2_with (go_at_call 53; rw [HW.out]; (with_reducible refine (HAL.out).mono ?_); rintro e w1 ⟨rfl, hb1⟩; have HB1 := Lib.hid hb1; obtain ⟨c0, c1, c2, c3, c4, c5, c6, c7, c8, c9⟩ := (HBX.out.below hb1).cells; simp only at c0 c1 c2 c3 c4 c5 c6 c7 c8 c9; obtain ⟨p0, p1, p2, p3, p4⟩ := HPC.out w1 hb1; obtain ⟨d0, d1, d2, d3, d4, d5, d6, d7, d8, d9⟩ := (HBX.out.below (hb1.trans ((one_alloc w1 (.cells #[.slice A n' c', .slice B k d, .int .i64 am, .int .i64 rd, .int .i64 hd'] 47)).mono hb1.size))).cells; simp only at d0 d1 d2 d3 d4 d5 d6 d7 d8 d9; clear hb1)
    go_ret
    exact ⟨by rw [HR.out]; rfl, HB0.out.trans ((HB1.out.trans ((one_alloc w1 _).mono HB1.out.size)).mono HB0.out.size)⟩
  have g0 : hd = 0 := by omega
  clear hc
  have hq0 : (hd != 0) = false := by rw [g0]; rfl
  have G0 := Lib.hid g0
  clear g0
  by_cases hc : hh ≠ 0
  · have HR := Lib.hid (HNO.out fun h => by
      have h := HMI.out.1 h
      exact hc (h.2.2.2 hph).l)
    have hq1 : (hh != 0) = true := by rw [bne_iff_ne]; exact hc
    clear HNO HYES HMI HMG
    go_enter Try.func36, Try.ntmps36
    go_wp2_with (go_at_call 53; rw [HW.out]; (with_reducible refine (HAL.out).mono ?_); rintro e w1 ⟨rfl, hb1⟩; have HB1 := Lib.hid hb1; obtain ⟨c0, c1, c2, c3, c4, c5, c6, c7, c8, c9⟩ := (HBX.out.below hb1).cells; simp only at c0 c1 c2 c3 c4 c5 c6 c7 c8 c9; obtain ⟨p0, p1, p2, p3, p4⟩ := HPC.out w1 hb1; obtain ⟨d0, d1, d2, d3, d4, d5, d6, d7, d8, d9⟩ := (HBX.out.below (hb1.trans ((one_alloc w1 (.cells #[.slice A n' c', .slice B k d, .int .i64 am, .int .i64 rd, .int .i64 hd'] 47)).mono hb1.size))).cells; simp only at d0 d1 d2 d3 d4 d5 d6 d7 d8 d9; clear hb1)
    go_ret
    exact ⟨by rw [HR.out]; rfl, HB0.out.trans ((HB1.out.trans ((one_alloc w1 _).mono HB1.out.size)).mono HB0.out.size)⟩
  have g1 : hh = 0 := by omega
  clear hc
  have hq1 : (hh != 0) = false := by rw [g1]; rfl
  have G1 := Lib.hid g1
  clear g1
  by_cases hc : ak ≠ -1
  · have HR := Lib.hid (HNO.out fun h => by
      have h := HMI.out.1 h
      exact hc (h.2.2.2 hph).a)
    have hq2 : (ak != -1) = true := by rw [bne_iff_ne]; exact hc
    clear HNO HYES HMI HMG
    go_enter Try.func36, Try.ntmps36
    go_wp2_with (go_at_call 53; rw [HW.out]; (with_reducible refine (HAL.out).mono ?_); rintro e w1 ⟨rfl, hb1⟩; have HB1 := Lib.hid hb1; obtain ⟨c0, c1, c2, c3, c4, c5, c6, c7, c8, c9⟩ := (HBX.out.below hb1).cells; simp only at c0 c1 c2 c3 c4 c5 c6 c7 c8 c9; obtain ⟨p0, p1, p2, p3, p4⟩ := HPC.out w1 hb1; obtain ⟨d0, d1, d2, d3, d4, d5, d6, d7, d8, d9⟩ := (HBX.out.below (hb1.trans ((one_alloc w1 (.cells #[.slice A n' c', .slice B k d, .int .i64 am, .int .i64 rd, .int .i64 hd'] 47)).mono hb1.size))).cells; simp only at d0 d1 d2 d3 d4 d5 d6 d7 d8 d9; clear hb1)
    go_ret
    exact ⟨by rw [HR.out]; rfl, HB0.out.trans ((HB1.out.trans ((one_alloc w1 _).mono HB1.out.size)).mono HB0.out.size)⟩
  have g2 : ak = -1 := by omega
  clear hc
  have hq2 : (ak != -1) = false := by rw [g2]; rfl
  have G2 := Lib.hid g2
  clear g2
  by_cases hc : t < 0
  · have HR := Lib.hid (HNO.out fun h => by
      have h := HMI.out.1 h
      have := (h.2.2.2 hph).t; simp only at this; omega)
    clear HNO HYES HMI HMG
    go_enter Try.func36, Try.ntmps36
    go_wp2_with (go_at_call 53; rw [HW.out]; (with_reducible refine (HAL.out).mono ?_); rintro e w1 ⟨rfl, hb1⟩; have HB1 := Lib.hid hb1; obtain ⟨c0, c1, c2, c3, c4, c5, c6, c7, c8, c9⟩ := (HBX.out.below hb1).cells; simp only at c0 c1 c2 c3 c4 c5 c6 c7 c8 c9; obtain ⟨p0, p1, p2, p3, p4⟩ := HPC.out w1 hb1; obtain ⟨d0, d1, d2, d3, d4, d5, d6, d7, d8, d9⟩ := (HBX.out.below (hb1.trans ((one_alloc w1 (.cells #[.slice A n' c', .slice B k d, .int .i64 am, .int .i64 rd, .int .i64 hd'] 47)).mono hb1.size))).cells; simp only at d0 d1 d2 d3 d4 d5 d6 d7 d8 d9; clear hb1)
    go_ret
    exact ⟨by rw [HR.out]; rfl, HB0.out.trans ((HB1.out.trans ((one_alloc w1 _).mono HB1.out.size)).mono HB0.out.size)⟩
  have g3 : 0 ≤ t := by omega
  clear hc
  by_cases hp1 : ph = 1
  · have hp1b : (ph == 1) = true := by rw [hp1]; rfl
    have HR := Lib.hid (show R = decide (t < am) by
      by_cases hc : t < am
      · rw [decide_eq_true hc]
        exact HYES.out ⟨HRG.out, HHL.out, fun h => (hph h).elim, fun _ => ⟨G0.out, G1.out, G2.out, g3, fun _ => hc, fun h => (h hp1).elim⟩⟩
      · rw [decide_eq_false hc]
        exact HNO.out fun h => hc (((HMI.out.1 h).2.2.2 hph).am hp1))
    clear HNO HYES HMI HMG hp1 hph
    go_enter Try.func36, Try.ntmps36
    go_wp2_with (go_at_call 53; rw [HW.out]; (with_reducible refine (HAL.out).mono ?_); rintro e w1 ⟨rfl, hb1⟩; have HB1 := Lib.hid hb1; obtain ⟨c0, c1, c2, c3, c4, c5, c6, c7, c8, c9⟩ := (HBX.out.below hb1).cells; simp only at c0 c1 c2 c3 c4 c5 c6 c7 c8 c9; obtain ⟨p0, p1, p2, p3, p4⟩ := HPC.out w1 hb1; obtain ⟨d0, d1, d2, d3, d4, d5, d6, d7, d8, d9⟩ := (HBX.out.below (hb1.trans ((one_alloc w1 (.cells #[.slice A n' c', .slice B k d, .int .i64 am, .int .i64 rd, .int .i64 hd'] 47)).mono hb1.size))).cells; simp only at d0 d1 d2 d3 d4 d5 d6 d7 d8 d9; clear hb1)
    go_ret
    exact ⟨by rw [HR.out]; rfl, HB0.out.trans ((HB1.out.trans ((one_alloc w1 _).mono HB1.out.size)).mono HB0.out.size)⟩
  · have hp1b : (ph == 1) = false := by rw [beq_eq_false_iff_ne]; exact hp1
    have HR := Lib.hid (show R = decide (t ≤ rd) by
      by_cases hc : t ≤ rd
      · rw [decide_eq_true hc]
        exact HYES.out ⟨HRG.out, HHL.out, fun h => (hph h).elim, fun _ => ⟨G0.out, G1.out, G2.out, g3, fun h => (hp1 h).elim, fun _ => hc⟩⟩
      · rw [decide_eq_false hc]
        exact HNO.out fun h => hc (((HMI.out.1 h).2.2.2 hph).rd hp1))
    clear HNO HYES HMI HMG hp1 hph
    go_enter Try.func36, Try.ntmps36
    go_wp2_with (go_at_call 53; rw [HW.out]; (with_reducible refine (HAL.out).mono ?_); rintro e w1 ⟨rfl, hb1⟩; have HB1 := Lib.hid hb1; obtain ⟨c0, c1, c2, c3, c4, c5, c6, c7, c8, c9⟩ := (HBX.out.below hb1).cells; simp only at c0 c1 c2 c3 c4 c5 c6 c7 c8 c9; obtain ⟨p0, p1, p2, p3, p4⟩ := HPC.out w1 hb1; obtain ⟨d0, d1, d2, d3, d4, d5, d6, d7, d8, d9⟩ := (HBX.out.below (hb1.trans ((one_alloc w1 (.cells #[.slice A n' c', .slice B k d, .int .i64 am, .int .i64 rd, .int .i64 hd'] 47)).mono hb1.size))).cells; simp only at d0 d1 d2 d3 d4 d5 d6 d7 d8 d9; clear hb1)
    go_ret
    exact ⟨by rw [HR.out]; rfl, HB0.out.trans ((HB1.out.trans ((one_alloc w1 _).mono HB1.out.size)).mono HB0.out.size)⟩
end Go.Proofs.Ytgnhmdfajnnkhaa


/- The document's May of a machine: green. -/
namespace Go.Proofs.Ytgnhmdfajnnkhaa
set_option maxRecDepth 100000
set_option linter.unusedVariables false
set_option linter.unusedSimpArgs false
open Go.RowKit

set_option maxHeartbeats 16000000 in
theorem smay_green (A : Option Addr) (n c : Nat) (l : List Pl) (s : Sg) (w : World) (hl : Pls w A n c l) (hts : SmG s) (ha : allP l = true) (hpl0 : 0 ≤ s.pl) (hpl1 : s.pl < n) (p0 : Pl) (hq : planAt l s.pl = p0) (hrg : RangeS p0 n s) (hhl : HeldS p0 s) (hph : s.ph = 0) : Calls Try.prog 36 #[.slice A n c, sgV s] w fun e w' => e = .returned (.bool (mayS l s)) ∧ Below w.heap.size w w' := by
  have hsm := hl.small
  have HLL := Lib.hid hl.len
  have hlen := hl.len
  have htz := hts.1
  simp only [sgV]
  obtain ⟨W0, hW0⟩ : ∃ W0, w.alloc (.cells #[.int .i64 s.pl, .int .i64 s.st, .int .i64 s.nx, .int .i64 s.ph, .int .i64 s.t, .int .i64 s.hd, .int .i64 s.hl, .int .i64 s.ak, .int .i64 s.wt, .bool s.sp] 24) = W0 := ⟨_, rfl⟩
  have hB0 : Below w.heap.size w W0 := by rw [← hW0]; exact one_alloc w _
  have hbx : BoxG W0 w.heap.size s := by rw [← hW0]; exact BoxG.new w s
  have hl0 : Pls W0 A n c l := hl.below hB0
  have HW := Lib.hid hW0
  have HB0 := Lib.hid hB0
  have HBX := Lib.hid hbx
  have HL := Lib.hid hl0
  have HAL := Lib.hid (rall_any A n c l W0 hl0)
  clear hW0 hB0 hbx hl
  rw [ha] at HAL
  obtain ⟨h1, h3⟩ := all_three ha
  obtain ⟨pl, st, nx, ph, t, hd, hh, ak, wt, sp⟩ := s
  simp only at *
  obtain ⟨j, rfl⟩ := Int.eq_ofNat_of_zero_le (show 0 ≤ pl by omega)
  have hj : j < n := by omega
  obtain ⟨b, off, p, rfl, hp, hmem, -, hpi, -⟩ := hl0.at_ j hj
  have hff := fit_iff.1 (all_fit ha hmem)
  have hpa : planAt l (j : Int) = p := by rw [planAt, Int.toNat_natCast, hp]
  obtain rfl : p = p0 := hpa.symm.trans hq
  have hk := hpi.s.len
  have hk2 := hff.two
  have hk6 := hff.six
  have hd0 := hff.hd1
  have hd3 := hff.hd2
  have HNO := Lib.hid (fun h => mays_not (l := l) (s := ⟨j, st, nx, ph, t, hd, hh, ak, wt, sp⟩) h)
  have HMI := Lib.hid (show MayS l ⟨j, st, nx, ph, t, hd, hh, ak, wt, sp⟩ ↔ RangeS p n ⟨j, st, nx, ph, t, hd, hh, ak, wt, sp⟩ ∧ HeldS p ⟨j, st, nx, ph, t, hd, hh, ak, wt, sp⟩ ∧ (ph = 0 → GreenS p ⟨j, st, nx, ph, t, hd, hh, ak, wt, sp⟩) ∧ (ph ≠ 0 → OtherS p ⟨j, st, nx, ph, t, hd, hh, ak, wt, sp⟩) from by
    constructor
    · rintro ⟨-, -, -, a, b, c, d⟩
      rw [show (Sg.pl ⟨j, st, nx, ph, t, hd, hh, ak, wt, sp⟩) = (j : Int) from rfl, hpa] at a b c d
      rw [hlen] at a
      exact ⟨a, b, c, d⟩
    · rintro ⟨a, b, c, d⟩
      refine ⟨ha, by simp, by simp only; omega, ?_, ?_, ?_, ?_⟩
      all_goals rw [show (Sg.pl ⟨j, st, nx, ph, t, hd, hh, ak, wt, sp⟩) = (j : Int) from rfl, hpa]
      · rw [hlen]; exact a
      · exact b
      · exact c
      · exact d)
  have HYES := Lib.hid (fun h => (mayS_iff (l := l) (s := ⟨j, st, nx, ph, t, hd, hh, ak, wt, sp⟩)).2 (HMI.out.2 h))
  have HMG := Lib.hid (show st < p.k → 0 ≤ st → ∀ X, Below W0.heap.size W0 X → ∃ B off, p.B = some ⟨B, off, none⟩ ∧ X.cell? ⟨B, off + st.toNat * 3 + 2, none⟩ = some (.int .i64 (stgAt p st).mx) from fun h1 h0 X hX => by
    obtain ⟨B, off, x, hB, hx, -, -, -, -, z2⟩ := (hpi.s.below hX).at_ st.toNat (by omega)
    exact ⟨B, off, hB, by rw [stgAt, hx]; exact z2⟩)
  obtain ⟨R, hR⟩ : ∃ R, mayS l ⟨j, st, nx, ph, t, hd, hh, ak, wt, sp⟩ = R := ⟨_, rfl⟩
  rw [hR] at HNO HYES ⊢
  have HPC := Lib.hid (show ∀ X, Below W0.heap.size W0 X → X.cell? ⟨b, off + j * 5, none⟩ = some (.slice p.A p.n p.c) ∧ X.cell? ⟨b, off + j * 5 + 1, none⟩ = some (.slice p.B p.k p.d) ∧ X.cell? ⟨b, off + j * 5 + 2, none⟩ = some (.int .i64 p.am) ∧ X.cell? ⟨b, off + j * 5 + 3, none⟩ = some (.int .i64 p.rd) ∧ X.cell? ⟨b, off + j * 5 + 4, none⟩ = some (.int .i64 p.hd) from fun X hX => by
    obtain ⟨b2, off2, p2, hA2, hp2, -, -, -, z0, z1, z2, z3, z4⟩ := (HL.out.below hX).at_ j hj
    cases hA2
    obtain rfl := hp.symm.trans hp2
    exact ⟨z0, z1, z2, z3, z4⟩)
  have hj0 : 0 ≤ (j : Int) := by omega
  have hjn : (j : Int) < n := by omega
  clear hR hl0 hp hpa ha hff hmem hpi hq
  have hsk : p.s.length = p.k := hk
  have HSL := Lib.hid hk
  clear hk hsk
  obtain ⟨A, n', c', m, B, k, d, sl, am, rd, hd'⟩ := p
  simp only at *
  rw [HSL.out] at hk2 hk6
  have HRG := Lib.hid hrg
  obtain ⟨a0, a1, a2, a3, a4, a5, a6, a7, a8, a9⟩ := hrg
  simp only [HSL.out] at a0 a1 a2 a3 a4 a5 a6 a7 a8 a9
  have HHL := Lib.hid hhl
  obtain ⟨b0, b1, b2, b3⟩ := hhl
  simp only at b0 b1 b2 b3
  have hw : wrap64 (hd' - hh) = hd' - hh := by unfold wrap64; omega
  obtain ⟨bs, os, hB, -⟩ := HMG.out a1 a0 W0 (Below.refl _ _)
  subst hB
  obtain ⟨mx, hmx⟩ : ∃ mx, (stgAt ⟨A, n', c', m, some ⟨bs, os, none⟩, k, d, sl, am, rd, hd'⟩ st).mx = mx := ⟨_, rfl⟩
  rw [hmx] at HMG
  have HMX := Lib.hid hmx
  have hp0b : (ph == 0) = true := by rw [hph]; rfl
  have HPH := Lib.hid hph
  clear hph
  have hstk : st.toNat < k := by omega
  have hst : (st.toNat : Int) = st := Int.toNat_of_nonneg a0
  by_cases hc1 : t < hh
  · have hc1b : decide (hh ≤ t) = false := decide_eq_false (by omega)
    have HR := Lib.hid (show R = false from HNO.out fun h => by
      have h := (HMI.out.1 h).2.2.1 HPH.out
      have := h.t0
      simp only at this
      omega)
    have HMZ := Lib.hid (show ∀ X, Below W0.heap.size W0 X → X.cell? ⟨bs, os + st.toNat * 3 + 2, none⟩ = some (.int .i64 mx) from fun X hX => by
      obtain ⟨B2, o2, hB2, hz⟩ := HMG.out a1 a0 X hX
      cases hB2
      exact hz)
    clear HNO HYES HMI HMG hmx
    go_enter Try.func36, Try.ntmps36
    go_wp2_with (go_at_call 53; rw [HW.out]; (with_reducible refine (HAL.out).mono ?_); rintro e w1 ⟨rfl, hb1⟩; have HB1 := Lib.hid hb1; obtain ⟨c0, c1, c2, c3, c4, c5, c6, c7, c8, c9⟩ := (HBX.out.below hb1).cells; simp only at c0 c1 c2 c3 c4 c5 c6 c7 c8 c9; obtain ⟨p0, p1, p2, p3, p4⟩ := HPC.out w1 hb1; obtain ⟨d0, d1, d2, d3, d4, d5, d6, d7, d8, d9⟩ := (HBX.out.below (hb1.trans ((one_alloc w1 (.cells #[.slice A n' c', .slice (some ⟨bs, os, none⟩) k d, .int .i64 am, .int .i64 rd, .int .i64 hd'] 47)).mono hb1.size))).cells; simp only at d0 d1 d2 d3 d4 d5 d6 d7 d8 d9; clear hb1)
    obtain ⟨Wa, hWa⟩ : ∃ Wa, w1.alloc (.cells #[.slice A n' c', .slice (some ⟨bs, os, none⟩) k d, .int .i64 am, .int .i64 rd, .int .i64 hd'] 47) = Wa := ⟨_, rfl⟩
    rw [hWa]
    have hBa : Below w1.heap.size w1 Wa := by rw [← hWa]; exact one_alloc w1 _
    have hBp : BoxP Wa w1.heap.size ⟨A, n', c', m, some ⟨bs, os, none⟩, k, d, sl, am, rd, hd'⟩ := by rw [← hWa]; exact BoxP.new w1 ⟨A, n', c', m, some ⟨bs, os, none⟩, k, d, sl, am, rd, hd'⟩
    have HF := Lib.hid (show ∀ X, Below Wa.heap.size Wa X → X.cell? ⟨w.heap.size, 1, none⟩ = some (.int .i64 st) ∧ X.cell? ⟨w.heap.size, 4, none⟩ = some (.int .i64 t) ∧ X.cell? ⟨w.heap.size, 5, none⟩ = some (.int .i64 hd) ∧ X.cell? ⟨w.heap.size, 6, none⟩ = some (.int .i64 hh) ∧ X.cell? ⟨w.heap.size, 9, none⟩ = some (.bool sp) ∧ X.cell? ⟨w1.heap.size, 1, none⟩ = some (.slice (some ⟨bs, os, none⟩) k d) ∧ X.cell? ⟨bs, os + st.toNat * 3 + 2, none⟩ = some (.int .i64 mx) from fun X hX => by
      have hX1 := hBa.trans (hX.mono hBa.size)
      have hX0 := HB1.out.trans (hX1.mono HB1.out.size)
      obtain ⟨y0, y1, y2, y3, y4, y5, y6, y7, y8, y9⟩ := (HBX.out.below hX0).cells
      obtain ⟨v0, v1, v2, v3, v4⟩ := (hBp.below hX).cells
      exact ⟨y1, y4, y5, y6, y9, v1, HMZ.out X hX0⟩)
    have HBA := Lib.hid hBa
    clear hBa hBp hWa c0 c1 c2 c3 c4 c5 c6 c7 c8 c9 p0 p1 p2 p3 p4
    have hSd : Below Wa.heap.size Wa Wa.drew := (Below.refl _ Wa).drew
    refine wp_region_held_drew (S := fun X => Below Wa.heap.size Wa X) (by kernel_rfl) hSd (fun hHeld => ?_)
    refine tk 0 (.pointer (some ⟨w.heap.size, 4, none⟩)) hHeld (fun w => ?_) ?_
    · go_simp
    simp only [PT]
    refine tkS 1 (.int .i64 t) hHeld (fun w hq => ?_) ?_
    · obtain ⟨c1, c4, c5, c6, c9, e1, z2⟩ := HF.out w hq
      go_simp
    simp only [PT]
    refine tk 2 (.pointer (some ⟨w.heap.size, 6, none⟩)) hHeld (fun w => ?_) ?_
    · go_simp
    simp only [PT]
    refine tkS 3 (.int .i64 hh) hHeld (fun w hq => ?_) ?_
    · obtain ⟨c1, c4, c5, c6, c9, e1, z2⟩ := HF.out w hq
      go_simp
    simp only [PT]
    refine tk 4 (.bool false) hHeld (fun w => ?_) ?_
    · go_simp
    simp only [PT]
    refine tk 5 (.bool false) hHeld (fun w => ?_) ?_
    · go_simp
    simp only [PT]
    refine tkO 6 hHeld ?_
    simp only [PT]
    refine tkO 7 hHeld ?_
    simp only [PT]
    refine tkO 8 hHeld ?_
    simp only [PT]
    refine tkO 9 hHeld ?_
    simp only [PT]
    refine tkO 10 hHeld ?_
    simp only [PT]
    refine tkO 11 hHeld ?_
    simp only [PT]
    refine tkO 12 hHeld ?_
    simp only [PT]
    refine tkO 13 hHeld ?_
    simp only [PT]
    refine tkO 14 hHeld ?_
    simp only [PT]
    refine tkO 15 hHeld ?_
    simp only [PT]
    refine tkO 16 hHeld ?_
    simp only [PT]
    refine tkO 17 hHeld ?_
    simp only [PT]
    refine tkO 18 hHeld ?_
    simp only [PT]
    refine tk 19 (.bool false) hHeld (fun w => ?_) ?_
    · go_simp
    simp only [PT]
    refine tk 20 (.bool false) hHeld (fun w => ?_) ?_
    · go_simp
    simp only [PT]
    refine tkO 21 hHeld ?_
    simp only [PT]
    refine tkO 22 hHeld ?_
    simp only [PT]
    refine tkO 23 hHeld ?_
    simp only [PT]
    refine tkO 24 hHeld ?_
    simp only [PT]
    refine tkO 25 hHeld ?_
    simp only [PT]
    refine tkO 26 hHeld ?_
    simp only [PT]
    refine tkO 27 hHeld ?_
    simp only [PT]
    refine tkO 28 hHeld ?_
    simp only [PT]
    refine tk 29 (.bool false) hHeld (fun w => ?_) ?_
    · go_simp
    simp only [PT]
    refine tk 30 (.bool false) hHeld (fun w => ?_) ?_
    · go_simp
    simp only [PT]
    refine wpAnyH_done (by kernel_rfl) ?_ _
    clear hHeld
    go_wp2
    go_ret
    exact ⟨by rw [HR.out]; rfl, HB0.out.trans ((HB1.out.trans ((HBA.out.drew).mono HB1.out.size)).mono HB0.out.size)⟩
  have c1y : hh ≤ t := by omega
  have hc1b : decide (hh ≤ t) = true := decide_eq_true c1y
  clear hc1
  have hwt : IntKind.i64.wrap (t - hh) = t - hh := by rw [IntKind.wrap_i64]; omega
  by_cases hc2 : mx ≤ t - hh
  · have hc2b : decide (t - hh < mx) = false := decide_eq_false (by omega)
    have HR := Lib.hid (show R = false from HNO.out fun h => by
      have h := (HMI.out.1 h).2.2.1 HPH.out
      have := h.t1
      simp only at this
      rw [hmx] at this
      omega)
    have HMZ := Lib.hid (show ∀ X, Below W0.heap.size W0 X → X.cell? ⟨bs, os + st.toNat * 3 + 2, none⟩ = some (.int .i64 mx) from fun X hX => by
      obtain ⟨B2, o2, hB2, hz⟩ := HMG.out a1 a0 X hX
      cases hB2
      exact hz)
    clear HNO HYES HMI HMG hmx
    go_enter Try.func36, Try.ntmps36
    go_wp2_with (go_at_call 53; rw [HW.out]; (with_reducible refine (HAL.out).mono ?_); rintro e w1 ⟨rfl, hb1⟩; have HB1 := Lib.hid hb1; obtain ⟨c0, c1, c2, c3, c4, c5, c6, c7, c8, c9⟩ := (HBX.out.below hb1).cells; simp only at c0 c1 c2 c3 c4 c5 c6 c7 c8 c9; obtain ⟨p0, p1, p2, p3, p4⟩ := HPC.out w1 hb1; obtain ⟨d0, d1, d2, d3, d4, d5, d6, d7, d8, d9⟩ := (HBX.out.below (hb1.trans ((one_alloc w1 (.cells #[.slice A n' c', .slice (some ⟨bs, os, none⟩) k d, .int .i64 am, .int .i64 rd, .int .i64 hd'] 47)).mono hb1.size))).cells; simp only at d0 d1 d2 d3 d4 d5 d6 d7 d8 d9; clear hb1)
    obtain ⟨Wa, hWa⟩ : ∃ Wa, w1.alloc (.cells #[.slice A n' c', .slice (some ⟨bs, os, none⟩) k d, .int .i64 am, .int .i64 rd, .int .i64 hd'] 47) = Wa := ⟨_, rfl⟩
    rw [hWa]
    have hBa : Below w1.heap.size w1 Wa := by rw [← hWa]; exact one_alloc w1 _
    have hBp : BoxP Wa w1.heap.size ⟨A, n', c', m, some ⟨bs, os, none⟩, k, d, sl, am, rd, hd'⟩ := by rw [← hWa]; exact BoxP.new w1 ⟨A, n', c', m, some ⟨bs, os, none⟩, k, d, sl, am, rd, hd'⟩
    have HF := Lib.hid (show ∀ X, Below Wa.heap.size Wa X → X.cell? ⟨w.heap.size, 1, none⟩ = some (.int .i64 st) ∧ X.cell? ⟨w.heap.size, 4, none⟩ = some (.int .i64 t) ∧ X.cell? ⟨w.heap.size, 5, none⟩ = some (.int .i64 hd) ∧ X.cell? ⟨w.heap.size, 6, none⟩ = some (.int .i64 hh) ∧ X.cell? ⟨w.heap.size, 9, none⟩ = some (.bool sp) ∧ X.cell? ⟨w1.heap.size, 1, none⟩ = some (.slice (some ⟨bs, os, none⟩) k d) ∧ X.cell? ⟨bs, os + st.toNat * 3 + 2, none⟩ = some (.int .i64 mx) from fun X hX => by
      have hX1 := hBa.trans (hX.mono hBa.size)
      have hX0 := HB1.out.trans (hX1.mono HB1.out.size)
      obtain ⟨y0, y1, y2, y3, y4, y5, y6, y7, y8, y9⟩ := (HBX.out.below hX0).cells
      obtain ⟨v0, v1, v2, v3, v4⟩ := (hBp.below hX).cells
      exact ⟨y1, y4, y5, y6, y9, v1, HMZ.out X hX0⟩)
    have HBA := Lib.hid hBa
    clear hBa hBp hWa c0 c1 c2 c3 c4 c5 c6 c7 c8 c9 p0 p1 p2 p3 p4
    have hSd : Below Wa.heap.size Wa Wa.drew := (Below.refl _ Wa).drew
    refine wp_region_held_drew (S := fun X => Below Wa.heap.size Wa X) (by kernel_rfl) hSd (fun hHeld => ?_)
    refine tk 0 (.pointer (some ⟨w.heap.size, 4, none⟩)) hHeld (fun w => ?_) ?_
    · go_simp
    simp only [PT]
    refine tkS 1 (.int .i64 t) hHeld (fun w hq => ?_) ?_
    · obtain ⟨c1, c4, c5, c6, c9, e1, z2⟩ := HF.out w hq
      go_simp
    simp only [PT]
    refine tk 2 (.pointer (some ⟨w.heap.size, 6, none⟩)) hHeld (fun w => ?_) ?_
    · go_simp
    simp only [PT]
    refine tkS 3 (.int .i64 hh) hHeld (fun w hq => ?_) ?_
    · obtain ⟨c1, c4, c5, c6, c9, e1, z2⟩ := HF.out w hq
      go_simp
    simp only [PT]
    refine tk 4 (.bool true) hHeld (fun w => ?_) ?_
    · go_simp
    simp only [PT]
    refine tk 5 (.bool true) hHeld (fun w => ?_) ?_
    · go_simp
    simp only [PT]
    refine tk 6 (.pointer (some ⟨w.heap.size, 4, none⟩)) hHeld (fun w => ?_) ?_
    · go_simp
    simp only [PT]
    refine tkS 7 (.int .i64 t) hHeld (fun w hq => ?_) ?_
    · obtain ⟨c1, c4, c5, c6, c9, e1, z2⟩ := HF.out w hq
      go_simp
    simp only [PT]
    refine tk 8 (.pointer (some ⟨w.heap.size, 6, none⟩)) hHeld (fun w => ?_) ?_
    · go_simp
    simp only [PT]
    refine tkS 9 (.int .i64 hh) hHeld (fun w hq => ?_) ?_
    · obtain ⟨c1, c4, c5, c6, c9, e1, z2⟩ := HF.out w hq
      go_simp
    simp only [PT]
    refine tk 10 (.int .i64 (t - hh)) hHeld (fun w => ?_) ?_
    · (go_simp; try exact hwt)
    simp only [PT]
    refine tk 11 (.pointer (some ⟨w1.heap.size, 1, none⟩)) hHeld (fun w => ?_) ?_
    · go_simp
    simp only [PT]
    refine tkS 12 (.slice (some ⟨bs, os, none⟩) k d) hHeld (fun w hq => ?_) ?_
    · obtain ⟨c1, c4, c5, c6, c9, e1, z2⟩ := HF.out w hq
      go_simp
    simp only [PT]
    refine tk 13 (.pointer (some ⟨w.heap.size, 1, none⟩)) hHeld (fun w => ?_) ?_
    · go_simp
    simp only [PT]
    refine tkS 14 (.int .i64 st) hHeld (fun w hq => ?_) ?_
    · obtain ⟨c1, c4, c5, c6, c9, e1, z2⟩ := HF.out w hq
      go_simp
    simp only [PT]
    refine tk 15 (.pointer (some ⟨bs, os + st.toNat * 3, none⟩)) hHeld (fun w => ?_) ?_
    · go_simp
    simp only [PT]
    refine tk 16 (.pointer (some ⟨bs, os + st.toNat * 3 + 2, none⟩)) hHeld (fun w => ?_) ?_
    · go_simp
    simp only [PT]
    refine tkS 17 (.int .i64 mx) hHeld (fun w hq => ?_) ?_
    · obtain ⟨c1, c4, c5, c6, c9, e1, z2⟩ := HF.out w hq
      go_simp
    simp only [PT]
    refine tk 18 (.bool false) hHeld (fun w => ?_) ?_
    · go_simp
    simp only [PT]
    refine tk 19 (.bool false) hHeld (fun w => ?_) ?_
    · go_simp
    simp only [PT]
    refine tk 20 (.bool false) hHeld (fun w => ?_) ?_
    · go_simp
    simp only [PT]
    refine tkO 21 hHeld ?_
    simp only [PT]
    refine tkO 22 hHeld ?_
    simp only [PT]
    refine tkO 23 hHeld ?_
    simp only [PT]
    refine tkO 24 hHeld ?_
    simp only [PT]
    refine tkO 25 hHeld ?_
    simp only [PT]
    refine tkO 26 hHeld ?_
    simp only [PT]
    refine tkO 27 hHeld ?_
    simp only [PT]
    refine tkO 28 hHeld ?_
    simp only [PT]
    refine tk 29 (.bool false) hHeld (fun w => ?_) ?_
    · go_simp
    simp only [PT]
    refine tk 30 (.bool false) hHeld (fun w => ?_) ?_
    · go_simp
    simp only [PT]
    refine wpAnyH_done (by kernel_rfl) ?_ _
    clear hHeld
    go_wp2
    go_ret
    exact ⟨by rw [HR.out]; rfl, HB0.out.trans ((HB1.out.trans ((HBA.out.drew).mono HB1.out.size)).mono HB0.out.size)⟩
  have c2y : t - hh < mx := by omega
  have hc2b : decide (t - hh < mx) = true := decide_eq_true c2y
  clear hc2
  cases sp
  · have HR := Lib.hid (show R = true from HYES.out ⟨HRG.out, HHL.out, fun _ => ⟨c1y, by simp only; rw [hmx]; exact c2y, fun h => by cases h⟩, fun h => (h HPH.out).elim⟩)
    have HMZ := Lib.hid (show ∀ X, Below W0.heap.size W0 X → X.cell? ⟨bs, os + st.toNat * 3 + 2, none⟩ = some (.int .i64 mx) from fun X hX => by
      obtain ⟨B2, o2, hB2, hz⟩ := HMG.out a1 a0 X hX
      cases hB2
      exact hz)
    clear HNO HYES HMI HMG hmx
    go_enter Try.func36, Try.ntmps36
    go_wp2_with (go_at_call 53; rw [HW.out]; (with_reducible refine (HAL.out).mono ?_); rintro e w1 ⟨rfl, hb1⟩; have HB1 := Lib.hid hb1; obtain ⟨c0, c1, c2, c3, c4, c5, c6, c7, c8, c9⟩ := (HBX.out.below hb1).cells; simp only at c0 c1 c2 c3 c4 c5 c6 c7 c8 c9; obtain ⟨p0, p1, p2, p3, p4⟩ := HPC.out w1 hb1; obtain ⟨d0, d1, d2, d3, d4, d5, d6, d7, d8, d9⟩ := (HBX.out.below (hb1.trans ((one_alloc w1 (.cells #[.slice A n' c', .slice (some ⟨bs, os, none⟩) k d, .int .i64 am, .int .i64 rd, .int .i64 hd'] 47)).mono hb1.size))).cells; simp only at d0 d1 d2 d3 d4 d5 d6 d7 d8 d9; clear hb1)
    obtain ⟨Wa, hWa⟩ : ∃ Wa, w1.alloc (.cells #[.slice A n' c', .slice (some ⟨bs, os, none⟩) k d, .int .i64 am, .int .i64 rd, .int .i64 hd'] 47) = Wa := ⟨_, rfl⟩
    rw [hWa]
    have hBa : Below w1.heap.size w1 Wa := by rw [← hWa]; exact one_alloc w1 _
    have hBp : BoxP Wa w1.heap.size ⟨A, n', c', m, some ⟨bs, os, none⟩, k, d, sl, am, rd, hd'⟩ := by rw [← hWa]; exact BoxP.new w1 ⟨A, n', c', m, some ⟨bs, os, none⟩, k, d, sl, am, rd, hd'⟩
    have HF := Lib.hid (show ∀ X, Below Wa.heap.size Wa X → X.cell? ⟨w.heap.size, 1, none⟩ = some (.int .i64 st) ∧ X.cell? ⟨w.heap.size, 4, none⟩ = some (.int .i64 t) ∧ X.cell? ⟨w.heap.size, 5, none⟩ = some (.int .i64 hd) ∧ X.cell? ⟨w.heap.size, 6, none⟩ = some (.int .i64 hh) ∧ X.cell? ⟨w.heap.size, 9, none⟩ = some (.bool false) ∧ X.cell? ⟨w1.heap.size, 1, none⟩ = some (.slice (some ⟨bs, os, none⟩) k d) ∧ X.cell? ⟨bs, os + st.toNat * 3 + 2, none⟩ = some (.int .i64 mx) from fun X hX => by
      have hX1 := hBa.trans (hX.mono hBa.size)
      have hX0 := HB1.out.trans (hX1.mono HB1.out.size)
      obtain ⟨y0, y1, y2, y3, y4, y5, y6, y7, y8, y9⟩ := (HBX.out.below hX0).cells
      obtain ⟨v0, v1, v2, v3, v4⟩ := (hBp.below hX).cells
      exact ⟨y1, y4, y5, y6, y9, v1, HMZ.out X hX0⟩)
    have HBA := Lib.hid hBa
    clear hBa hBp hWa c0 c1 c2 c3 c4 c5 c6 c7 c8 c9 p0 p1 p2 p3 p4
    have hSd : Below Wa.heap.size Wa Wa.drew := (Below.refl _ Wa).drew
    refine wp_region_held_drew (S := fun X => Below Wa.heap.size Wa X) (by kernel_rfl) hSd (fun hHeld => ?_)
    refine tk 0 (.pointer (some ⟨w.heap.size, 4, none⟩)) hHeld (fun w => ?_) ?_
    · go_simp
    simp only [PT]
    refine tkS 1 (.int .i64 t) hHeld (fun w hq => ?_) ?_
    · obtain ⟨c1, c4, c5, c6, c9, e1, z2⟩ := HF.out w hq
      go_simp
    simp only [PT]
    refine tk 2 (.pointer (some ⟨w.heap.size, 6, none⟩)) hHeld (fun w => ?_) ?_
    · go_simp
    simp only [PT]
    refine tkS 3 (.int .i64 hh) hHeld (fun w hq => ?_) ?_
    · obtain ⟨c1, c4, c5, c6, c9, e1, z2⟩ := HF.out w hq
      go_simp
    simp only [PT]
    refine tk 4 (.bool true) hHeld (fun w => ?_) ?_
    · go_simp
    simp only [PT]
    refine tk 5 (.bool true) hHeld (fun w => ?_) ?_
    · go_simp
    simp only [PT]
    refine tk 6 (.pointer (some ⟨w.heap.size, 4, none⟩)) hHeld (fun w => ?_) ?_
    · go_simp
    simp only [PT]
    refine tkS 7 (.int .i64 t) hHeld (fun w hq => ?_) ?_
    · obtain ⟨c1, c4, c5, c6, c9, e1, z2⟩ := HF.out w hq
      go_simp
    simp only [PT]
    refine tk 8 (.pointer (some ⟨w.heap.size, 6, none⟩)) hHeld (fun w => ?_) ?_
    · go_simp
    simp only [PT]
    refine tkS 9 (.int .i64 hh) hHeld (fun w hq => ?_) ?_
    · obtain ⟨c1, c4, c5, c6, c9, e1, z2⟩ := HF.out w hq
      go_simp
    simp only [PT]
    refine tk 10 (.int .i64 (t - hh)) hHeld (fun w => ?_) ?_
    · (go_simp; try exact hwt)
    simp only [PT]
    refine tk 11 (.pointer (some ⟨w1.heap.size, 1, none⟩)) hHeld (fun w => ?_) ?_
    · go_simp
    simp only [PT]
    refine tkS 12 (.slice (some ⟨bs, os, none⟩) k d) hHeld (fun w hq => ?_) ?_
    · obtain ⟨c1, c4, c5, c6, c9, e1, z2⟩ := HF.out w hq
      go_simp
    simp only [PT]
    refine tk 13 (.pointer (some ⟨w.heap.size, 1, none⟩)) hHeld (fun w => ?_) ?_
    · go_simp
    simp only [PT]
    refine tkS 14 (.int .i64 st) hHeld (fun w hq => ?_) ?_
    · obtain ⟨c1, c4, c5, c6, c9, e1, z2⟩ := HF.out w hq
      go_simp
    simp only [PT]
    refine tk 15 (.pointer (some ⟨bs, os + st.toNat * 3, none⟩)) hHeld (fun w => ?_) ?_
    · go_simp
    simp only [PT]
    refine tk 16 (.pointer (some ⟨bs, os + st.toNat * 3 + 2, none⟩)) hHeld (fun w => ?_) ?_
    · go_simp
    simp only [PT]
    refine tkS 17 (.int .i64 mx) hHeld (fun w hq => ?_) ?_
    · obtain ⟨c1, c4, c5, c6, c9, e1, z2⟩ := HF.out w hq
      go_simp
    simp only [PT]
    refine tk 18 (.bool true) hHeld (fun w => ?_) ?_
    · go_simp
    simp only [PT]
    refine tk 19 (.bool true) hHeld (fun w => ?_) ?_
    · go_simp
    simp only [PT]
    refine tk 20 (.bool true) hHeld (fun w => ?_) ?_
    · go_simp
    simp only [PT]
    refine tk 21 (.pointer (some ⟨w.heap.size, 9, none⟩)) hHeld (fun w => ?_) ?_
    · go_simp
    simp only [PT]
    refine tkS 22 (.bool false) hHeld (fun w hq => ?_) ?_
    · obtain ⟨c1, c4, c5, c6, c9, e1, z2⟩ := HF.out w hq
      go_simp
    simp only [PT]
    refine tk 23 (.bool true) hHeld (fun w => ?_) ?_
    · go_simp
    simp only [PT]
    refine tk 24 (.bool true) hHeld (fun w => ?_) ?_
    · go_simp
    simp only [PT]
    refine tkO 25 hHeld ?_
    simp only [PT]
    refine tkO 26 hHeld ?_
    simp only [PT]
    refine tkO 27 hHeld ?_
    simp only [PT]
    refine tk 28 (.bool true) hHeld (fun w => ?_) ?_
    · go_simp
    simp only [PT]
    refine tk 29 (.bool true) hHeld (fun w => ?_) ?_
    · go_simp
    simp only [PT]
    refine tk 30 (.bool true) hHeld (fun w => ?_) ?_
    · go_simp
    simp only [PT]
    refine wpAnyH_done (by kernel_rfl) ?_ _
    clear hHeld
    go_wp2
    go_ret
    exact ⟨by rw [HR.out]; rfl, HB0.out.trans ((HB1.out.trans ((HBA.out.drew).mono HB1.out.size)).mono HB0.out.size)⟩
  · have HR := Lib.hid (show R = (hd == 0) from by
      by_cases hz : hd = 0
      · rw [show (hd == 0) = true by rw [hz]; rfl]
        exact HYES.out ⟨HRG.out, HHL.out, fun _ => ⟨c1y, by simp only; rw [hmx]; exact c2y, fun _ => hz⟩, fun h => (h HPH.out).elim⟩
      · rw [show (hd == 0) = false by rw [beq_eq_false_iff_ne]; exact hz]
        exact HNO.out fun h => hz (((HMI.out.1 h).2.2.1 HPH.out).t2 rfl))
    have HMZ := Lib.hid (show ∀ X, Below W0.heap.size W0 X → X.cell? ⟨bs, os + st.toNat * 3 + 2, none⟩ = some (.int .i64 mx) from fun X hX => by
      obtain ⟨B2, o2, hB2, hz⟩ := HMG.out a1 a0 X hX
      cases hB2
      exact hz)
    clear HNO HYES HMI HMG hmx
    go_enter Try.func36, Try.ntmps36
    go_wp2_with (go_at_call 53; rw [HW.out]; (with_reducible refine (HAL.out).mono ?_); rintro e w1 ⟨rfl, hb1⟩; have HB1 := Lib.hid hb1; obtain ⟨c0, c1, c2, c3, c4, c5, c6, c7, c8, c9⟩ := (HBX.out.below hb1).cells; simp only at c0 c1 c2 c3 c4 c5 c6 c7 c8 c9; obtain ⟨p0, p1, p2, p3, p4⟩ := HPC.out w1 hb1; obtain ⟨d0, d1, d2, d3, d4, d5, d6, d7, d8, d9⟩ := (HBX.out.below (hb1.trans ((one_alloc w1 (.cells #[.slice A n' c', .slice (some ⟨bs, os, none⟩) k d, .int .i64 am, .int .i64 rd, .int .i64 hd'] 47)).mono hb1.size))).cells; simp only at d0 d1 d2 d3 d4 d5 d6 d7 d8 d9; clear hb1)
    obtain ⟨Wa, hWa⟩ : ∃ Wa, w1.alloc (.cells #[.slice A n' c', .slice (some ⟨bs, os, none⟩) k d, .int .i64 am, .int .i64 rd, .int .i64 hd'] 47) = Wa := ⟨_, rfl⟩
    rw [hWa]
    have hBa : Below w1.heap.size w1 Wa := by rw [← hWa]; exact one_alloc w1 _
    have hBp : BoxP Wa w1.heap.size ⟨A, n', c', m, some ⟨bs, os, none⟩, k, d, sl, am, rd, hd'⟩ := by rw [← hWa]; exact BoxP.new w1 ⟨A, n', c', m, some ⟨bs, os, none⟩, k, d, sl, am, rd, hd'⟩
    have HF := Lib.hid (show ∀ X, Below Wa.heap.size Wa X → X.cell? ⟨w.heap.size, 1, none⟩ = some (.int .i64 st) ∧ X.cell? ⟨w.heap.size, 4, none⟩ = some (.int .i64 t) ∧ X.cell? ⟨w.heap.size, 5, none⟩ = some (.int .i64 hd) ∧ X.cell? ⟨w.heap.size, 6, none⟩ = some (.int .i64 hh) ∧ X.cell? ⟨w.heap.size, 9, none⟩ = some (.bool true) ∧ X.cell? ⟨w1.heap.size, 1, none⟩ = some (.slice (some ⟨bs, os, none⟩) k d) ∧ X.cell? ⟨bs, os + st.toNat * 3 + 2, none⟩ = some (.int .i64 mx) from fun X hX => by
      have hX1 := hBa.trans (hX.mono hBa.size)
      have hX0 := HB1.out.trans (hX1.mono HB1.out.size)
      obtain ⟨y0, y1, y2, y3, y4, y5, y6, y7, y8, y9⟩ := (HBX.out.below hX0).cells
      obtain ⟨v0, v1, v2, v3, v4⟩ := (hBp.below hX).cells
      exact ⟨y1, y4, y5, y6, y9, v1, HMZ.out X hX0⟩)
    have HBA := Lib.hid hBa
    clear hBa hBp hWa c0 c1 c2 c3 c4 c5 c6 c7 c8 c9 p0 p1 p2 p3 p4
    have hSd : Below Wa.heap.size Wa Wa.drew := (Below.refl _ Wa).drew
    refine wp_region_held_drew (S := fun X => Below Wa.heap.size Wa X) (by kernel_rfl) hSd (fun hHeld => ?_)
    refine tk 0 (.pointer (some ⟨w.heap.size, 4, none⟩)) hHeld (fun w => ?_) ?_
    · go_simp
    simp only [PT]
    refine tkS 1 (.int .i64 t) hHeld (fun w hq => ?_) ?_
    · obtain ⟨c1, c4, c5, c6, c9, e1, z2⟩ := HF.out w hq
      go_simp
    simp only [PT]
    refine tk 2 (.pointer (some ⟨w.heap.size, 6, none⟩)) hHeld (fun w => ?_) ?_
    · go_simp
    simp only [PT]
    refine tkS 3 (.int .i64 hh) hHeld (fun w hq => ?_) ?_
    · obtain ⟨c1, c4, c5, c6, c9, e1, z2⟩ := HF.out w hq
      go_simp
    simp only [PT]
    refine tk 4 (.bool true) hHeld (fun w => ?_) ?_
    · go_simp
    simp only [PT]
    refine tk 5 (.bool true) hHeld (fun w => ?_) ?_
    · go_simp
    simp only [PT]
    refine tk 6 (.pointer (some ⟨w.heap.size, 4, none⟩)) hHeld (fun w => ?_) ?_
    · go_simp
    simp only [PT]
    refine tkS 7 (.int .i64 t) hHeld (fun w hq => ?_) ?_
    · obtain ⟨c1, c4, c5, c6, c9, e1, z2⟩ := HF.out w hq
      go_simp
    simp only [PT]
    refine tk 8 (.pointer (some ⟨w.heap.size, 6, none⟩)) hHeld (fun w => ?_) ?_
    · go_simp
    simp only [PT]
    refine tkS 9 (.int .i64 hh) hHeld (fun w hq => ?_) ?_
    · obtain ⟨c1, c4, c5, c6, c9, e1, z2⟩ := HF.out w hq
      go_simp
    simp only [PT]
    refine tk 10 (.int .i64 (t - hh)) hHeld (fun w => ?_) ?_
    · (go_simp; try exact hwt)
    simp only [PT]
    refine tk 11 (.pointer (some ⟨w1.heap.size, 1, none⟩)) hHeld (fun w => ?_) ?_
    · go_simp
    simp only [PT]
    refine tkS 12 (.slice (some ⟨bs, os, none⟩) k d) hHeld (fun w hq => ?_) ?_
    · obtain ⟨c1, c4, c5, c6, c9, e1, z2⟩ := HF.out w hq
      go_simp
    simp only [PT]
    refine tk 13 (.pointer (some ⟨w.heap.size, 1, none⟩)) hHeld (fun w => ?_) ?_
    · go_simp
    simp only [PT]
    refine tkS 14 (.int .i64 st) hHeld (fun w hq => ?_) ?_
    · obtain ⟨c1, c4, c5, c6, c9, e1, z2⟩ := HF.out w hq
      go_simp
    simp only [PT]
    refine tk 15 (.pointer (some ⟨bs, os + st.toNat * 3, none⟩)) hHeld (fun w => ?_) ?_
    · go_simp
    simp only [PT]
    refine tk 16 (.pointer (some ⟨bs, os + st.toNat * 3 + 2, none⟩)) hHeld (fun w => ?_) ?_
    · go_simp
    simp only [PT]
    refine tkS 17 (.int .i64 mx) hHeld (fun w hq => ?_) ?_
    · obtain ⟨c1, c4, c5, c6, c9, e1, z2⟩ := HF.out w hq
      go_simp
    simp only [PT]
    refine tk 18 (.bool true) hHeld (fun w => ?_) ?_
    · go_simp
    simp only [PT]
    refine tk 19 (.bool true) hHeld (fun w => ?_) ?_
    · go_simp
    simp only [PT]
    refine tk 20 (.bool true) hHeld (fun w => ?_) ?_
    · go_simp
    simp only [PT]
    refine tk 21 (.pointer (some ⟨w.heap.size, 9, none⟩)) hHeld (fun w => ?_) ?_
    · go_simp
    simp only [PT]
    refine tkS 22 (.bool true) hHeld (fun w hq => ?_) ?_
    · obtain ⟨c1, c4, c5, c6, c9, e1, z2⟩ := HF.out w hq
      go_simp
    simp only [PT]
    refine tk 23 (.bool false) hHeld (fun w => ?_) ?_
    · go_simp
    simp only [PT]
    refine tk 24 (.bool false) hHeld (fun w => ?_) ?_
    · go_simp
    simp only [PT]
    refine tk 25 (.pointer (some ⟨w.heap.size, 5, none⟩)) hHeld (fun w => ?_) ?_
    · go_simp
    simp only [PT]
    refine tkS 26 (.int .i64 hd) hHeld (fun w hq => ?_) ?_
    · obtain ⟨c1, c4, c5, c6, c9, e1, z2⟩ := HF.out w hq
      go_simp
    simp only [PT]
    refine tk 27 (.bool (hd == 0)) hHeld (fun w => ?_) ?_
    · go_simp
    simp only [PT]
    refine tk 28 (.bool (hd == 0)) hHeld (fun w => ?_) ?_
    · go_simp
    simp only [PT]
    refine tk 29 (.bool (hd == 0)) hHeld (fun w => ?_) ?_
    · go_simp
    simp only [PT]
    refine tk 30 (.bool (hd == 0)) hHeld (fun w => ?_) ?_
    · go_simp
    simp only [PT]
    refine wpAnyH_done (by kernel_rfl) ?_ _
    clear hHeld
    go_wp2
    go_ret
    exact ⟨by rw [HR.out]; rfl, HB0.out.trans ((HB1.out.trans ((HBA.out.drew).mono HB1.out.size)).mono HB0.out.size)⟩
end Go.Proofs.Ytgnhmdfajnnkhaa


/- The walk over the document's May of a machine. -/
namespace Go.Proofs.Ytgnhmdfajnnkhaa
set_option maxRecDepth 100000
set_option linter.unusedVariables false
set_option linter.unusedSimpArgs false
open Go.RowKit

set_option maxHeartbeats 4000000 in
theorem rsmay_any (A : Option Addr) (n c : Nat) (l : List Pl) (s : Sg) (w : World) (hl : Pls w A n c l) (hts : SmG s) : Calls Try.prog 36 #[.slice A n c, sgV s] w fun e w' => e = .returned (.bool (mayS l s)) ∧ Below w.heap.size w w' := by
  have hlen := hl.len
  by_cases hall : allP l = true ∧ 0 ≤ s.pl ∧ s.pl < n
  · obtain ⟨ha, h0, h1⟩ := hall
    by_cases hr : RangeS (planAt l s.pl) n s
    · by_cases hh : HeldS (planAt l s.pl) s
      · by_cases hp : s.ph = 0
        · exact smay_green A n c l s w hl hts ha h0 h1 _ rfl hr hh hp
        · exact smay_other A n c l s w hl hts ha h0 h1 _ rfl hr hh hp
      · exact smay_held A n c l s w hl hts ha h0 h1 _ rfl hr hh
    · exact smay_range A n c l s w hl hts ha h0 h1 _ rfl hr
  have hsm := hl.small
  have HR := Lib.hid (mays_not (l := l) (s := s) fun h => hall ⟨h.all, h.p0, by have := h.p1; omega⟩)
  simp only [sgV]
  obtain ⟨W0, hW0⟩ : ∃ W0, w.alloc (.cells #[.int .i64 s.pl, .int .i64 s.st, .int .i64 s.nx, .int .i64 s.ph, .int .i64 s.t, .int .i64 s.hd, .int .i64 s.hl, .int .i64 s.ak, .int .i64 s.wt, .bool s.sp] 24) = W0 := ⟨_, rfl⟩
  have hB0 : Below w.heap.size w W0 := by rw [← hW0]; exact one_alloc w _
  have hbx : BoxG W0 w.heap.size s := by rw [← hW0]; exact BoxG.new w s
  have hl0 : Pls W0 A n c l := hl.below hB0
  have HW := Lib.hid hW0
  have HB0 := Lib.hid hB0
  have HBX := Lib.hid hbx
  have HAL := Lib.hid (rall_any A n c l W0 hl0)
  clear hW0 hB0 hbx hl hl0
  cases ha : allP l with
  | false =>
    rw [ha] at HAL
    clear ha hall hlen
    obtain ⟨pl, st, nx, ph, t, hd, hh, ak, wt, sp⟩ := s
    simp only at *
    go_enter Try.func36, Try.ntmps36
    go_wp2_with (go_at_call 53; rw [HW.out]; (with_reducible refine (HAL.out).mono ?_); rintro e w1 ⟨rfl, hb1⟩; have HB1 := Lib.hid hb1; obtain ⟨c0, c1, c2, c3, c4, c5, c6, c7, c8, c9⟩ := (HBX.out.below hb1).cells; clear hb1)
    go_ret
    exact ⟨by rw [HR.out]; rfl, HB0.out.trans (HB1.out.mono HB0.out.size)⟩
  | true =>
    rw [ha] at HAL
    by_cases hp : s.pl < 0
    · clear ha hall hlen
      obtain ⟨pl, st, nx, ph, t, hd, hh, ak, wt, sp⟩ := s
      simp only at *
      go_enter Try.func36, Try.ntmps36
      go_wp2_with (go_at_call 53; rw [HW.out]; (with_reducible refine (HAL.out).mono ?_); rintro e w1 ⟨rfl, hb1⟩; have HB1 := Lib.hid hb1; obtain ⟨c0, c1, c2, c3, c4, c5, c6, c7, c8, c9⟩ := (HBX.out.below hb1).cells; clear hb1)
      go_ret
      exact ⟨by rw [HR.out]; rfl, HB0.out.trans (HB1.out.mono HB0.out.size)⟩
    · have hp0 : 0 ≤ s.pl := by omega
      have hpn : (n : Int) ≤ s.pl := by
        rcases Int.lt_or_le s.pl n with h | h
        · exact (hall ⟨ha, hp0, h⟩).elim
        · exact h
      clear ha hall hlen hp
      obtain ⟨pl, st, nx, ph, t, hd, hh, ak, wt, sp⟩ := s
      simp only at *
      go_enter Try.func36, Try.ntmps36
      go_wp2_with (go_at_call 53; rw [HW.out]; (with_reducible refine (HAL.out).mono ?_); rintro e w1 ⟨rfl, hb1⟩; have HB1 := Lib.hid hb1; obtain ⟨c0, c1, c2, c3, c4, c5, c6, c7, c8, c9⟩ := (HBX.out.below hb1).cells; clear hb1)
      go_ret
      exact ⟨by rw [HR.out]; rfl, HB0.out.trans (HB1.out.mono HB0.out.size)⟩
end Go.Proofs.Ytgnhmdfajnnkhaa

