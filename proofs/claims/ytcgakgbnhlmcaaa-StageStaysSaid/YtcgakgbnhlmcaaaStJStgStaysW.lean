/- The walk over the law StageStays. -/
import Derived.Test.YtcgakgbnhlmcaaaStJG
namespace Go.Proofs.Ytcgakgbnhlmcaaa
set_option maxRecDepth 100000
set_option linter.unusedVariables false
set_option linter.unusedSimpArgs false
open Go.RowKit

theorem lamps_facts {l : List Pl} {g : Sg} (h : MayS l g) : (lampsS l g).length = (planAt l g.pl).m.length ∧ mayR (lampsS l g) = true ∧ clashR (planAt l g.pl) (lampsS l g) = false := by
  have hf := plan_fit h
  obtain ⟨k, hk⟩ := Int.eq_ofNat_of_zero_le h.range.s0
  have hk1 : k < (planAt l g.pl).s.length := by have := h.range.s1; omega
  rw [lampsS, if_pos (mayS_iff.2 h), hk]
  exact ⟨show_size hf hk1 h.range.p0 h.range.p1, show_may hf hk1 h.range.p0 h.range.p1, show_free hf hk1 h.range.p0 h.range.p1⟩
theorem plans_len {l : List Pl} (h : allP l = true) {p q : Pl} (hp : p ∈ l) (hq : q ∈ l) : p.m.length = q.m.length := by
  have h1 := ((all_iff.1 h).2 p hp).2
  have h2 := ((all_iff.1 h).2 q hq).2
  rw [h1, h2]
set_option maxHeartbeats 8000000 in
theorem sstays_any (HO : StgOk) (HT : LmpText) (HC : LmpClash) (A : Option Addr) (n c : Nat) (l : List Pl) (s : Sg) (w : World) (hl : Pls w A n c l) (hts : SmG s) :
    Calls Try.prog 4 #[.slice A n c, sgV s] w fun e w' => e = .returned (.bool true) ∧ Below w.heap.size w w' := by
  have hsm := hl.small
  have hlen := hl.len
  simp only [sgV]
  obtain ⟨W0, hW0⟩ : ∃ W0, w.alloc (.cells #[.int .i64 s.pl, .int .i64 s.st, .int .i64 s.nx, .int .i64 s.ph, .int .i64 s.t, .int .i64 s.hd, .int .i64 s.hl, .int .i64 s.ak, .int .i64 s.wt, .bool s.sp] 24) = W0 := ⟨_, rfl⟩
  have hB0 : Below w.heap.size w W0 := by rw [← hW0]; exact one_alloc w _
  have hbs : BoxG W0 w.heap.size s := by rw [← hW0]; exact BoxG.new w s
  have HPL := Lib.hid (show ∀ X, Below W0.heap.size W0 X → Pls X A n c l from fun X hX => (hl.below hB0).below hX)
  have HBS := Lib.hid (show ∀ X, Below W0.heap.size W0 X → BoxG X w.heap.size s from fun X hX => hbs.below hX)
  have HLL := Lib.hid hlen
  have HB0 := Lib.hid hB0
  have HW := Lib.hid hW0
  have HAW := Lib.hid (sawake16_any HO HT W0)
  have HFW := Lib.hid (fun X hX => pfewall_any A n c l X (HPL.out X hX))
  clear hW0 hB0 hbs hl
  cases hfw : fewAllB l with
  | false =>
    rw [hfw] at HFW
    clear hfw
    go_enter Try.func4, Try.ntmps4
    go_wp2_with (first
        | (go_at_call 9
           rw [HW.out]
           (with_reducible refine (HAW.out).mono ?_)
           rintro e w1 ⟨rfl, hbx⟩
           have HX1 := Lib.hid hbx
           clear hbx)
        | (go_at_call 10
           (with_reducible refine (HFW.out _ HX1.out).mono ?_)
           rintro e w2 ⟨rfl, hbx⟩
           have HX2 := Lib.hid (HX1.out.trans (hbx.mono HX1.out.size))
           clear hbx))
    go_ret
    exact ⟨rfl, HB0.out.trans (HX2.out.mono HB0.out.size)⟩
  | true =>
  rw [hfw] at HFW
  obtain ⟨hl5, hfp⟩ := fewall_iff.1 hfw
  have hn1000 : n ≤ 1000 := by omega
  have hmem : ∀ p ∈ l, p.n ≤ 1000 ∧ p.k ≤ 1000 := fun p hp => by have := hfp p hp; omega
  have HTK := Lib.hid (fun X hX => HO.tick A n c l s X (HPL.out X hX) hts hn1000 hmem)
  have HM1 := Lib.hid (fun X hX => HO.may A n c l s X (HPL.out X hX) hts hn1000 hmem)
  cases hm : mayS l s with
  | false =>
    have HL1 := Lib.hid (fun X hX => HO.lamps A n c l s X (HPL.out X hX) hts hn1000 hmem)
    rw [hm] at HM1
    rw [show tickS l s = s from if_neg (by rw [hm]; simp)] at HTK
    rw [show lampsS l s = [] from if_neg (by rw [hm]; simp)] at HL1
    simp only [GivesG, sgV] at HTK HM1 HL1
    clear hm hmem hfp hfw
    obtain ⟨g, rfl⟩ : ∃ g, g = s := ⟨s, rfl⟩
    go_enter Try.func4, Try.ntmps4
    go_wp2_with (first
    | (go_at_call 9
       rw [HW.out]
       (with_reducible refine (HAW.out).mono ?_)
       rintro e w1 ⟨rfl, hbx⟩
       have HX1 := Lib.hid hbx
       clear hbx)
    | (go_at_call 10
       (with_reducible refine (HFW.out _ HX1.out).mono ?_)
       rintro e w2 ⟨rfl, hbx⟩
       have HX2 := Lib.hid (HX1.out.trans (hbx.mono HX1.out.size))
       obtain ⟨a0, a1, a2, a3, a4, a5, a6, a7, a8, a9⟩ := (HBS.out w2 HX2.out).cells
       clear hbx)
    | (go_at_call 18
       (with_reducible refine (HTK.out _ HX2.out).mono ?_)
       rintro e w3 ⟨rfl, hbx⟩
       have HX3 := Lib.hid (HX2.out.trans (hbx.mono HX2.out.size))
       have hb4 := one_alloc w3 (.cells #[.int .i64 g.pl, .int .i64 g.st, .int .i64 g.nx, .int .i64 g.ph, .int .i64 g.t, .int .i64 g.hd, .int .i64 g.hl, .int .i64 g.ak, .int .i64 g.wt, .bool g.sp] 24)
       have hbg := BoxG.new w3 g
       obtain ⟨d0, d1, d2, d3, d4, d5, d6, d7, d8, d9⟩ := (HBS.out _ (HX3.out.trans (hb4.mono HX3.out.size))).cells
       obtain ⟨l0, l1, l2, l3, l4, l5, l6, l7, l8, l9⟩ := (HBS.out _ HX3.out).cells
       obtain ⟨W4, hW4⟩ : ∃ W4, w3.alloc (.cells #[.int .i64 g.pl, .int .i64 g.st, .int .i64 g.nx, .int .i64 g.ph, .int .i64 g.t, .int .i64 g.hd, .int .i64 g.hl, .int .i64 g.ak, .int .i64 g.wt, .bool g.sp] 24) = W4 := ⟨_, rfl⟩
       rw [hW4] at hb4 hbg
       have HW4 := Lib.hid hW4
       have HX4 := Lib.hid (HX3.out.trans (hb4.mono HX3.out.size))
       have HG := Lib.hid (show ∀ X, Below W4.heap.size W4 X → BoxG X w3.heap.size g from fun X hX => hbg.below hX)
       clear hbx hb4 hbg hW4
       try simp only [sgV])
    | (go_at_call 17
       rw [HW4.out]
       (with_reducible refine (HM1.out _ HX4.out).mono ?_)
       rintro e w5 ⟨rfl, hbx⟩
       have HY5 := Lib.hid hbx
       have HX5 := Lib.hid (HX4.out.trans (hbx.mono HX4.out.size))
       obtain ⟨e0, e1, e2, e3, e4, e5, e6, e7, e8, e9⟩ := (HBS.out w5 HX5.out).cells
       obtain ⟨f0, f1, f2, f3, f4, f5, f6, f7, f8, f9⟩ := (HG.out w5 HY5.out).cells
       clear hbx)
    | ((with_reducible refine wpList_eq_sig _ _ rfl g g ?hx ?hy ?_ ?hw); (case hx => rfl); (case hy => rfl); (case hw => rfl)
       rw [show decide (g = g) = true from decide_eq_true rfl])
    | (go_at_call 15
       (with_reducible refine (HL1.out _ HX5.out).mono ?_)
       rintro e w6 ⟨A6, n6, c6, rfl, hi6, hbx⟩
       have HX6 := Lib.hid (HX5.out.trans (hbx.mono HX5.out.size))
       obtain rfl : n6 = 0 := hi6.len.symm
       clear hbx hi6))
    go_ret
    exact ⟨by first | rfl | simp, HB0.out.trans (HX6.out.mono HB0.out.size)⟩
  | true =>
    have hms := mayS_iff.1 hm
    have hmg := may_tick hms
    have hgs : SmG (tickS l s) := tick_small hts
    obtain ⟨f1, f2, f3⟩ := lamps_facts hmg
    obtain ⟨g, hg⟩ : ∃ g, tickS l s = g := ⟨_, rfl⟩
    rw [hg] at HTK hmg hgs f1 f2 f3
    have HM2 := Lib.hid (fun X hX => HO.may A n c l g X (HPL.out X hX) hgs hn1000 hmem)
    have HL2 := Lib.hid (fun X hX => HO.lamps A n c l g X (HPL.out X hX) hgs hn1000 hmem)
    rw [mayS_iff.2 hmg] at HM2
    rw [hm] at HM1
    obtain ⟨R, hR⟩ : ∃ R, lampsS l g = R := ⟨_, rfl⟩
    rw [hR] at HL2 f1 f2 f3
    have g0 := hmg.p0
    have g1 : g.pl < n := by have := hmg.p1; rw [hlen] at this; exact this
    obtain ⟨j, hj⟩ := Int.eq_ofNat_of_zero_le g0
    have hjn : j < n := by omega
    obtain ⟨q1, q2⟩ := plan_of (HPL.out W0 (Below.refl _ _)) hjn
    rw [← hj] at q1 q2
    obtain ⟨q, hq⟩ : ∃ q, planAt l g.pl = q := ⟨_, rfl⟩
    rw [hq] at f1 f3 q1 q2
    have HPL1 := HPL.out W0 (Below.refl _ _)
    obtain ⟨b, off, p0, rfl, hp0, hm0, -, -, -⟩ := HPL1.at_ 0 (by omega)
    obtain ⟨hqn, hqk⟩ := hmem q q2
    have HQC := Lib.hid (show ∀ X, Below W0.heap.size W0 X → X.cell? ⟨b, off + j * 5, none⟩ = some (.slice q.A q.n q.c) ∧ X.cell? ⟨b, off + j * 5 + 1, none⟩ = some (.slice q.B q.k q.d) ∧ X.cell? ⟨b, off + j * 5 + 2, none⟩ = some (.int .i64 q.am) ∧ X.cell? ⟨b, off + j * 5 + 3, none⟩ = some (.int .i64 q.rd) ∧ X.cell? ⟨b, off + j * 5 + 4, none⟩ = some (.int .i64 q.hd) ∧ X.cell? ⟨b, off, none⟩ = some (.slice p0.A p0.n p0.c) ∧ PlIn X q from fun X hX => by
      obtain ⟨b2, off2, p2, hA2, hp2, hm2, -, hi2, z0, z1, z2, z3, z4⟩ := (HPL.out X hX).at_ j hjn
      cases hA2
      have hqe : q = p2 := by rw [← hq, hj, planAt, Int.toNat_natCast, hp2]
      obtain ⟨b3, off3, p3, hA3, hp3, -, -, -, y0, -, -, -, -⟩ := (HPL.out X hX).at_ 0 (by omega)
      cases hA3
      obtain rfl := hp0.symm.trans hp3
      rw [hqe]
      exact ⟨z0, z1, z2, z3, z4, by simpa using y0, hi2⟩)
    have hlq : R.length = p0.n := by
      rw [f1, plans_len hms.all q2 hm0]
      exact ((HPL1.pl p0 hm0).m).len
    have HLQ := Lib.hid hlq
    have HLM := Lib.hid (fun A n c X (hI : Its .i64 X A n c R) hn => HC.may A n c R X hI hn)
    have HLC := Lib.hid (fun A n c X (hX : PlIn X q) (hI : Its .i64 X A n c R) hn => HC.clash q A n c R X hX hI hqn hqk hn)
    rw [f2] at HLM
    rw [f3] at HLC
    have hpn := (hmem p0 hm0).1
    simp only [GivesG, sgV, plV] at HTK HM1 HM2 HL2 HLC
    have HJ := Lib.hid hj
    clear hm hmem hfp hfw hms hmg hgs f1 f2 f3 hg hR q1 q2 hq hp0 hm0 HPL1 hlq hj
    go_enter Try.func4, Try.ntmps4
    go_wp2_with (first
    | (go_at_call 9
       rw [HW.out]
       (with_reducible refine (HAW.out).mono ?_)
       rintro e w1 ⟨rfl, hbx⟩
       have HX1 := Lib.hid hbx
       clear hbx)
    | (go_at_call 10
       (with_reducible refine (HFW.out _ HX1.out).mono ?_)
       rintro e w2 ⟨rfl, hbx⟩
       have HX2 := Lib.hid (HX1.out.trans (hbx.mono HX1.out.size))
       obtain ⟨a0, a1, a2, a3, a4, a5, a6, a7, a8, a9⟩ := (HBS.out w2 HX2.out).cells
       clear hbx)
    | (go_at_call 18
       (with_reducible refine (HTK.out _ HX2.out).mono ?_)
       rintro e w3 ⟨rfl, hbx⟩
       have HX3 := Lib.hid (HX2.out.trans (hbx.mono HX2.out.size))
       have hb4 := one_alloc w3 (.cells #[.int .i64 g.pl, .int .i64 g.st, .int .i64 g.nx, .int .i64 g.ph, .int .i64 g.t, .int .i64 g.hd, .int .i64 g.hl, .int .i64 g.ak, .int .i64 g.wt, .bool g.sp] 24)
       have hbg := BoxG.new w3 g
       obtain ⟨d0, d1, d2, d3, d4, d5, d6, d7, d8, d9⟩ := (HBS.out _ (HX3.out.trans (hb4.mono HX3.out.size))).cells
       obtain ⟨l0, l1, l2, l3, l4, l5, l6, l7, l8, l9⟩ := (HBS.out _ HX3.out).cells
       obtain ⟨W4, hW4⟩ : ∃ W4, w3.alloc (.cells #[.int .i64 g.pl, .int .i64 g.st, .int .i64 g.nx, .int .i64 g.ph, .int .i64 g.t, .int .i64 g.hd, .int .i64 g.hl, .int .i64 g.ak, .int .i64 g.wt, .bool g.sp] 24) = W4 := ⟨_, rfl⟩
       rw [hW4] at hb4 hbg
       have HW4 := Lib.hid hW4
       have HX4 := Lib.hid (HX3.out.trans (hb4.mono HX3.out.size))
       have HG := Lib.hid (show ∀ X, Below W4.heap.size W4 X → BoxG X w3.heap.size g from fun X hX => hbg.below hX)
       clear hbx hb4 hbg hW4
       try simp only [sgV])
    | (go_at_call 17
       rw [HW4.out]
       (with_reducible refine (HM1.out _ HX4.out).mono ?_)
       rintro e w5 ⟨rfl, hbx⟩
       have HY5 := Lib.hid hbx
       have HX5 := Lib.hid (HX4.out.trans (hbx.mono HX4.out.size))
       obtain ⟨f0, f1, f2, f3, f4, f5, f6, f7, f8, f9⟩ := (HG.out w5 HY5.out).cells
       clear hbx)
    | (go_at_call 17
       (with_reducible refine (HM2.out _ HX5.out).mono ?_)
       rintro e w6 ⟨rfl, hbx⟩
       have HY6 := Lib.hid (HY5.out.trans (hbx.mono HY5.out.size))
       have HX6 := Lib.hid (HX5.out.trans (hbx.mono HX5.out.size))
       obtain ⟨k0, k1, k2, k3, k4, k5, k6, k7, k8, k9⟩ := (HG.out w6 HY6.out).cells
       clear hbx)
    | (go_at_call 15
       (with_reducible refine (HL2.out _ HX6.out).mono ?_)
       rintro e w7 ⟨A7, n7, c7, rfl, hi7, hbx⟩
       have HX7 := Lib.hid (HX6.out.trans (hbx.mono HX6.out.size))
       have HY7 := Lib.hid (HY6.out.trans (hbx.mono HY6.out.size))
       obtain rfl : n7 = p0.n := by rw [← hi7.len]; exact HLQ.out
       have HI7 := Lib.hid hi7
       obtain ⟨z0, z1, z2, z3, z4, z5, -⟩ := HQC.out w7 HX7.out
       clear hbx hi7)
    | (go_at_call 22
       (with_reducible refine (HLM.out _ _ _ _ HI7.out hpn).mono ?_)
       rintro e w8 ⟨rfl, hbx⟩
       have HX8 := Lib.hid (HX7.out.trans (hbx.mono HX7.out.size))
       have HY8 := Lib.hid (HY7.out.trans (hbx.mono HY7.out.size))
       have HI8 := Lib.hid (HI7.out.below hbx)
       obtain ⟨y0, y1, y2, y3, y4, y5, -⟩ := HQC.out w8 HX8.out
       have u0 := (HG.out w8 HY8.out).cells.c0
       rw [HJ.out] at u0
       clear hbx)
    | (go_at_call 23
       (with_reducible refine (HLC.out _ _ _ _ (HQC.out w8 HX8.out).2.2.2.2.2.2 HI8.out hpn).mono ?_)
       rintro e w9 ⟨rfl, hbx⟩
       have HX9 := Lib.hid (HX8.out.trans (hbx.mono HX8.out.size))
       clear hbx))
    go_ret
    exact ⟨by first | rfl | simp, HB0.out.trans (HX9.out.mono HB0.out.size)⟩
end Go.Proofs.Ytcgakgbnhlmcaaa

