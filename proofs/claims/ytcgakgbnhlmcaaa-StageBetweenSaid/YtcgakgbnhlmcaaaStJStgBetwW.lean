/- The walk over the law StageBetween. -/
import Derived.Test.YtcgakgbnhlmcaaaStJJ
namespace Go.Proofs.Ytcgakgbnhlmcaaa
set_option maxRecDepth 100000
set_option linter.unusedVariables false
set_option linter.unusedSimpArgs false
open Go.RowKit

theorem green_over {l : List Pl} {s : Sg} (h : MayS l s) (hp : s.ph = 0) (hn : (tickS l s).ph ≠ 0) : (tickS l s).ph = 1 ∧ (tickS l s).t = 0 ∧ (tickS l s).pl = s.pl ∧ (tickS l s).sp = s.sp ∧ (tickS l s).wt = s.wt := by
  rw [tickS, if_pos (mayS_iff.2 h), if_pos hp, greenT] at hn ⊢
  by_cases hd : 0 < s.hd
  · rw [if_pos hd] at hn; exact (hn hp).elim
  · rw [if_neg hd] at hn ⊢
    by_cases he : endsS (planAt l s.pl) s = true
    · rw [if_pos he]; exact ⟨rfl, rfl, rfl, rfl, rfl⟩
    · rw [if_neg he] at hn; exact (hn hp).elim
set_option maxHeartbeats 16000000 in
theorem sbetw_any (HO : StgOk) (HT : LmpText) (A : Option Addr) (n c : Nat) (l : List Pl) (s : Sg) (w : World) (hl : Pls w A n c l) (hts : SmG s) :
    Calls Try.prog 6 #[.slice A n c, sgV s] w fun e w' => e = .returned (.bool true) ∧ Below w.heap.size w w' := by
  have hsm := hl.small
  have hlen := hl.len
  simp only [sgV]
  obtain ⟨W0, hW0⟩ : ∃ W0, w.alloc (.cells #[.int .i64 s.pl, .int .i64 s.st, .int .i64 s.nx, .int .i64 s.ph, .int .i64 s.t, .int .i64 s.hd, .int .i64 s.hl, .int .i64 s.ak, .int .i64 s.wt, .bool s.sp] 24) = W0 := ⟨_, rfl⟩
  have hB0 : Below w.heap.size w W0 := by rw [← hW0]; exact one_alloc w _
  have hbs : BoxG W0 w.heap.size s := by rw [← hW0]; exact BoxG.new w s
  have HPL := Lib.hid (show ∀ X, Below W0.heap.size W0 X → Pls X A n c l from fun X hX => (hl.below hB0).below hX)
  have HBS := Lib.hid (show ∀ X, Below W0.heap.size W0 X → BoxG X w.heap.size s from fun X hX => hbs.below hX)
  have HLL := Lib.hid hlen
  have HB0 := Lib.hid hB0
  have HW := Lib.hid hW0
  have HAW := Lib.hid (sawake16_any HO HT W0)
  have HFW := Lib.hid (fun X hX => pfewall_any A n c l X (HPL.out X hX))
  clear hW0 hB0 hbs hl
  cases hfw : fewAllB l with
  | false =>
    rw [hfw] at HFW
    clear hfw
    go_enter Try.func6, Try.ntmps6
    go_wp2_with (first
        | (go_at_call 9
           rw [HW.out]
           (with_reducible refine (HAW.out).mono ?_)
           rintro e w1 ⟨rfl, hbx⟩
           have HX1 := Lib.hid hbx
           clear hbx)
        | (go_at_call 10
           (with_reducible refine (HFW.out _ HX1.out).mono ?_)
           rintro e w2 ⟨rfl, hbx⟩
           have HX2 := Lib.hid (HX1.out.trans (hbx.mono HX1.out.size))
           clear hbx))
    go_ret
    exact ⟨rfl, HB0.out.trans (HX2.out.mono HB0.out.size)⟩
  | true =>
  rw [hfw] at HFW
  obtain ⟨hl5, hfp⟩ := fewall_iff.1 hfw
  have hn1000 : n ≤ 1000 := by omega
  have hmem : ∀ p ∈ l, p.n ≤ 1000 ∧ p.k ≤ 1000 := fun p hp => by have := hfp p hp; omega
  have HMY := Lib.hid (fun X hX => HO.may A n c l s X (HPL.out X hX) hts hn1000 hmem)
  cases hm : mayS l s with
  | false =>
    rw [hm] at HMY
    simp only [sgV] at HMY
    clear hm hmem hfp hfw
    go_enter Try.func6, Try.ntmps6
    go_wp2_with (first
        | (go_at_call 9
           rw [HW.out]
           (with_reducible refine (HAW.out).mono ?_)
           rintro e w1 ⟨rfl, hbx⟩
           have HX1 := Lib.hid hbx
           clear hbx)
        | (go_at_call 10
           (with_reducible refine (HFW.out _ HX1.out).mono ?_)
           rintro e w2 ⟨rfl, hbx⟩
           have HX2 := Lib.hid (HX1.out.trans (hbx.mono HX1.out.size))
           obtain ⟨a0, a1, a2, a3, a4, a5, a6, a7, a8, a9⟩ := (HBS.out w2 HX2.out).cells
           clear hbx)
        | (go_at_call 17
           (with_reducible refine (HMY.out _ HX2.out).mono ?_)
           rintro e w3 ⟨rfl, hbx⟩
           have HX3 := Lib.hid (HX2.out.trans (hbx.mono HX2.out.size))
           obtain ⟨l0, l1, l2, l3, l4, l5, l6, l7, l8, l9⟩ := (HBS.out w3 HX3.out).cells
           clear hbx))
    go_ret
    exact ⟨rfl, HB0.out.trans (HX3.out.mono HB0.out.size)⟩
  | true =>
  rw [hm] at HMY
  by_cases hph : s.ph = 0
  rotate_left
  · have hph1 : (s.ph != 0) = true := by rw [bne_iff_ne]; exact hph
    simp only [sgV] at HMY
    clear hm hmem hfp hfw hph
    go_enter Try.func6, Try.ntmps6
    go_wp2_with (first
        | (go_at_call 9
           rw [HW.out]
           (with_reducible refine (HAW.out).mono ?_)
           rintro e w1 ⟨rfl, hbx⟩
           have HX1 := Lib.hid hbx
           clear hbx)
        | (go_at_call 10
           (with_reducible refine (HFW.out _ HX1.out).mono ?_)
           rintro e w2 ⟨rfl, hbx⟩
           have HX2 := Lib.hid (HX1.out.trans (hbx.mono HX1.out.size))
           obtain ⟨a0, a1, a2, a3, a4, a5, a6, a7, a8, a9⟩ := (HBS.out w2 HX2.out).cells
           clear hbx)
        | (go_at_call 17
           (with_reducible refine (HMY.out _ HX2.out).mono ?_)
           rintro e w3 ⟨rfl, hbx⟩
           have HX3 := Lib.hid (HX2.out.trans (hbx.mono HX2.out.size))
           obtain ⟨l0, l1, l2, l3, l4, l5, l6, l7, l8, l9⟩ := (HBS.out w3 HX3.out).cells
           clear hbx))
    go_ret
    exact ⟨rfl, HB0.out.trans (HX3.out.mono HB0.out.size)⟩
  have hms := mayS_iff.1 hm
  have hph1 : (s.ph != 0) = false := by rw [hph]; rfl
  have HTK := Lib.hid (fun X hX => HO.tick A n c l s X (HPL.out X hX) hts hn1000 hmem)
  by_cases hg0 : (tickS l s).ph = 0
  · obtain ⟨g, hg⟩ : ∃ g, tickS l s = g := ⟨_, rfl⟩
    rw [hg] at HTK hg0
    have hgb : (g.ph == 0) = true := by rw [hg0]; rfl
    simp only [GivesG, sgV] at HTK HMY
    clear hm hmem hfp hfw hms hg hg0 hph
    go_enter Try.func6, Try.ntmps6
    go_wp2_with (first
        | (go_at_call 9
           rw [HW.out]
           (with_reducible refine (HAW.out).mono ?_)
           rintro e w1 ⟨rfl, hbx⟩
           have HX1 := Lib.hid hbx
           clear hbx)
        | (go_at_call 10
           (with_reducible refine (HFW.out _ HX1.out).mono ?_)
           rintro e w2 ⟨rfl, hbx⟩
           have HX2 := Lib.hid (HX1.out.trans (hbx.mono HX1.out.size))
           obtain ⟨a0, a1, a2, a3, a4, a5, a6, a7, a8, a9⟩ := (HBS.out w2 HX2.out).cells
           clear hbx)
        | (go_at_call 17
           (with_reducible refine (HMY.out _ HX2.out).mono ?_)
           rintro e w3 ⟨rfl, hbx⟩
           have HX3 := Lib.hid (HX2.out.trans (hbx.mono HX2.out.size))
           obtain ⟨l0, l1, l2, l3, l4, l5, l6, l7, l8, l9⟩ := (HBS.out w3 HX3.out).cells
           clear hbx)
        | (go_at_call 18
           (with_reducible refine (HTK.out _ HX3.out).mono ?_)
           rintro e w4 ⟨rfl, hbx⟩
           have HX4 := Lib.hid (HX3.out.trans (hbx.mono HX3.out.size))
           have hb5 := one_alloc w4 (.cells #[.int .i64 g.pl, .int .i64 g.st, .int .i64 g.nx, .int .i64 g.ph, .int .i64 g.t, .int .i64 g.hd, .int .i64 g.hl, .int .i64 g.ak, .int .i64 g.wt, .bool g.sp] 24)
           have HX5 := Lib.hid (HX4.out.trans (hb5.mono HX4.out.size))
           clear hb5
           clear hbx
           try simp only [sgV]))
    go_ret
    exact ⟨rfl, HB0.out.trans (HX5.out.mono HB0.out.size)⟩
  obtain ⟨o1, o2, o3, o4, o5⟩ := green_over hms hph hg0
  have hmg := may_tick hms
  obtain ⟨g, hg⟩ : ∃ g, tickS l s = g := ⟨_, rfl⟩
  rw [hg] at HTK hg0 o1 o2 o3 o4 o5 hmg
  have g0 := hmg.p0
  have g1 : g.pl < n := by have := hmg.p1; rw [hlen] at this; exact this
  obtain ⟨j, hj⟩ := Int.eq_ofNat_of_zero_le g0
  have hjn : j < n := by omega
  obtain ⟨q1, q2⟩ := plan_of (HPL.out W0 (Below.refl _ _)) hjn
  rw [← hj] at q1 q2
  have hfit := fit_iff.1 (plan_fit hmg)
  obtain ⟨Am, hAm⟩ := Int.eq_ofNat_of_zero_le (show 0 ≤ (planAt l g.pl).am - 1 by have := hfit.am1; omega)
  obtain ⟨Rd, hRd⟩ := Int.eq_ofNat_of_zero_le (show 0 ≤ (planAt l g.pl).rd - 1 by have := hfit.rd1; omega)
  have hA2 : (Am : Int) ≤ 199 := by have := hfit.am2; omega
  have hR2 : (Rd : Int) ≤ 199 := by have := hfit.rd2; omega
  obtain ⟨b1, b2, b3⟩ := between hmg o1 o2 Am Rd (by omega) (by omega)
  have hma := may_ticks hmg Am
  have hmb := may_ticks hma (Rd + 1)
  have hrr := rows_red hma (Rd + 1) (fun k hk => b3 k (by omega))
  have hre := red_end hmb (by rw [b2]) (by rw [b2]; simp only; omega)
  obtain ⟨ra1, ra2⟩ := run_may (n := (Am : Int)) (mayS_iff.2 hmg) (by omega) (by omega)
  obtain ⟨rb1, rb2⟩ := run_may (n := ((Rd + 1 : Nat) : Int)) (mayS_iff.2 hma) (by omega) (by omega)
  rw [Int.toNat_natCast] at ra1 ra2 rb1 rb2
  have hgt : SmG g := small_may hmg
  have hat := (may_small hma).2
  have hbt := (may_small hmb).2
  have HR1 := Lib.hid (fun X hX => HO.run A n c l g (Am : Int) X (HPL.out X hX) hgt hn1000 hmem)
  have HR2 := Lib.hid (fun X hX => HO.run A n c l (ticksS l g Am) ((Rd + 1 : Nat) : Int) X (HPL.out X hX) (small_may hma) hn1000 hmem)
  have HT2 := Lib.hid (fun X hX => HO.tick A n c l (ticksS l (ticksS l g Am) (Rd + 1)) X (HPL.out X hX) (small_may hmb) hn1000 hmem)
  rw [ra1, ra2] at HR1
  rw [rb1, rb2] at HR2
  have hla := rows_len l g Am
  have hlb := rows_len l (ticksS l g Am) (Rd + 1)
  obtain ⟨ra, hra⟩ : ∃ r, rowsS l g Am = r := ⟨_, rfl⟩
  obtain ⟨rb, hrb⟩ : ∃ r, rowsS l (ticksS l g Am) (Rd + 1) = r := ⟨_, rfl⟩
  rw [hra] at HR1 hla
  rw [hrb] at HR2 hlb hrr
  have f1 : ((ticksS l g Am).ph != 1) = false := by rw [b1]; simp only; rw [o1]; rfl
  have f2 : ((ticksS l (ticksS l g Am) (Rd + 1)).ph != 2) = false := by rw [b2]; rfl
  obtain ⟨va, hva⟩ : ∃ v, ticksS l g Am = v := ⟨_, rfl⟩
  rw [hva] at HR1 HR2 HT2 f1 f2 hma hmb b1 b2 hre
  obtain ⟨vb, hvb⟩ : ∃ v, ticksS l va (Rd + 1) = v := ⟨_, rfl⟩
  rw [hvb] at HR2 HT2 f2 hmb b2 hre
  obtain ⟨vc, hvc⟩ : ∃ v, tickS l vb = v := ⟨_, rfl⟩
  rw [hvc] at HT2 hre
  have hfin : (s.sp = true ∧ vc.ph = 2 ∧ vc.t = (Rd : Int) + 1) ∨ (s.sp = false ∧ s.wt = -1 ∧ vc.ph = 0 ∧ vc.t = 0 ∧ vc.pl = s.pl ∧ vc.st = g.nx) ∨ (s.sp = false ∧ s.wt ≠ -1 ∧ vc.ph = 0 ∧ vc.t = 0 ∧ vc.pl = s.wt ∧ vc.st = 0) := by
    rw [hre, b2]
    simp only
    rw [o4, o5]
    cases s.sp
    · right
      by_cases hw : s.wt = -1
      · left
        rw [if_neg (by simp), if_pos hw]
        exact ⟨rfl, hw, rfl, rfl, o3, rfl⟩
      · right
        rw [if_neg (by simp), if_neg hw]
        exact ⟨rfl, hw, rfl, rfl, rfl, rfl⟩
    · left
      rw [if_pos rfl]
      exact ⟨rfl, rfl, rfl⟩
  obtain ⟨q, hq⟩ : ∃ q, planAt l g.pl = q := ⟨_, rfl⟩
  rw [hq] at q1 q2 hAm hRd
  obtain ⟨b, off, p0, rfl, -⟩ := (HPL.out W0 (Below.refl _ _)).at_ 0 (by omega)
  have HQC := Lib.hid (show ∀ X, Below W0.heap.size W0 X → X.cell? ⟨b, off + g.pl.toNat * 5, none⟩ = some (.slice q.A q.n q.c) ∧ X.cell? ⟨b, off + g.pl.toNat * 5 + 1, none⟩ = some (.slice q.B q.k q.d) ∧ X.cell? ⟨b, off + g.pl.toNat * 5 + 2, none⟩ = some (.int .i64 q.am) ∧ X.cell? ⟨b, off + g.pl.toNat * 5 + 3, none⟩ = some (.int .i64 q.rd) ∧ X.cell? ⟨b, off + g.pl.toNat * 5 + 4, none⟩ = some (.int .i64 q.hd) from fun X hX => by
    obtain ⟨b2, off2, p2, hA2, hp2, hm2, -, hi2, z0, z1, z2, z3, z4⟩ := (HPL.out X hX).at_ j hjn
    cases hA2
    have hqe : q = p2 := by rw [← hq, hj, planAt, Int.toNat_natCast, hp2]
    rw [hqe, show g.pl.toNat = j by omega]
    exact ⟨z0, z1, z2, z3, z4⟩)
  have hjt : (g.pl.toNat : Int) = g.pl := Int.toNat_of_nonneg g0
  have hjk : g.pl.toNat < n := by omega
  have g1b : (g.ph == 0) = false := by rw [beq_eq_false_iff_ne]; exact hg0
  have hwa : wrap64 (q.am - 1) = (Am : Int) := by rw [hAm.symm]; unfold wrap64; omega
  have HAM := Lib.hid hAm
  have hrd : q.rd = ((Rd + 1 : Nat) : Int) := by omega
  have HRD := Lib.hid hrd
  have HRR := Lib.hid hrr
  have HFI := Lib.hid hfin
  have HLA := Lib.hid hla
  have HLB := Lib.hid hlb
  have HNB := Lib.hid (show ∀ x ∈ rb, x.length ≤ 10 ∧ ∀ q : Nat, x.getD q 0 = 0 from fun x hx => by
    rw [hrr x hx]
    refine ⟨by rw [List.length_replicate]; have h8 := (may_all hfit.may).1.2; exact Nat.le_trans h8 (by omega), fun q => ?_⟩
    simp [List.getD_eq_getElem?_getD, List.getElem?_replicate]
    split <;> rfl)
  simp only [GivesG, GivesGL, sgV] at HTK HMY HR1 HR2 HT2
  clear hm hmem hfp hfw hms hg hph hg0 o1 o2 o3 o4 o5 hmg hj hjn q1 q2 hfit hAm hRd b1 b2 b3 hma hmb hrr hre ra1 ra2 rb1 rb2 hgt hat hbt hla hlb hra hrb hva hvb hvc hfin hq hrd
  go_enter Try.func6, Try.ntmps6
  go_wp2_with (first
    | (go_at_call 9
       rw [HW.out]
       (with_reducible refine (HAW.out).mono ?_)
       rintro e w1 ⟨rfl, hbx⟩
       have HX1 := Lib.hid hbx
       clear hbx)
    | (go_at_call 10
       (with_reducible refine (HFW.out _ HX1.out).mono ?_)
       rintro e w2 ⟨rfl, hbx⟩
       have HX2 := Lib.hid (HX1.out.trans (hbx.mono HX1.out.size))
       obtain ⟨a0, a1, a2, a3, a4, a5, a6, a7, a8, a9⟩ := (HBS.out w2 HX2.out).cells
       clear hbx)
    | (go_at_call 17
       (with_reducible refine (HMY.out _ HX2.out).mono ?_)
       rintro e w3 ⟨rfl, hbx⟩
       have HX3 := Lib.hid (HX2.out.trans (hbx.mono HX2.out.size))
       obtain ⟨l0, l1, l2, l3, l4, l5, l6, l7, l8, l9⟩ := (HBS.out w3 HX3.out).cells
       clear hbx)
    | (go_at_call 18
       (with_reducible refine (HTK.out _ HX3.out).mono ?_)
       rintro e w4 ⟨rfl, hbx⟩
       have HX4 := Lib.hid (HX3.out.trans (hbx.mono HX3.out.size))
       have hb5 := one_alloc w4 (.cells #[.int .i64 g.pl, .int .i64 g.st, .int .i64 g.nx, .int .i64 g.ph, .int .i64 g.t, .int .i64 g.hd, .int .i64 g.hl, .int .i64 g.ak, .int .i64 g.wt, .bool g.sp] 24)
       have HX5 := Lib.hid (HX4.out.trans (hb5.mono HX4.out.size))
       have HX6 := Lib.hid (HX5.out.trans ((one_alloc _ (.cells #[.slice q.A q.n q.c, .slice q.B q.k q.d, .int .i64 q.am, .int .i64 q.rd, .int .i64 q.hd] 39)).mono HX5.out.size))
       have HBP := Lib.hid (show ∀ X, Below ((w4.alloc (.cells #[.int .i64 g.pl, .int .i64 g.st, .int .i64 g.nx, .int .i64 g.ph, .int .i64 g.t, .int .i64 g.hd, .int .i64 g.hl, .int .i64 g.ak, .int .i64 g.wt, .bool g.sp] 24)).alloc (.cells #[.slice q.A q.n q.c, .slice q.B q.k q.d, .int .i64 q.am, .int .i64 q.rd, .int .i64 q.hd] 39)).heap.size ((w4.alloc (.cells #[.int .i64 g.pl, .int .i64 g.st, .int .i64 g.nx, .int .i64 g.ph, .int .i64 g.t, .int .i64 g.hd, .int .i64 g.hl, .int .i64 g.ak, .int .i64 g.wt, .bool g.sp] 24)).alloc (.cells #[.slice q.A q.n q.c, .slice q.B q.k q.d, .int .i64 q.am, .int .i64 q.rd, .int .i64 q.hd] 39)) X → BoxP X (w4.heap.size + 1) q from fun X hX => BoxP.below (alloc2_new w4 _ _) hX)
       have HG := Lib.hid (show ∀ X, Below ((w4.alloc (.cells #[.int .i64 g.pl, .int .i64 g.st, .int .i64 g.nx, .int .i64 g.ph, .int .i64 g.t, .int .i64 g.hd, .int .i64 g.hl, .int .i64 g.ak, .int .i64 g.wt, .bool g.sp] 24)).alloc (.cells #[.slice q.A q.n q.c, .slice q.B q.k q.d, .int .i64 q.am, .int .i64 q.rd, .int .i64 q.hd] 39)).heap.size ((w4.alloc (.cells #[.int .i64 g.pl, .int .i64 g.st, .int .i64 g.nx, .int .i64 g.ph, .int .i64 g.t, .int .i64 g.hd, .int .i64 g.hl, .int .i64 g.ak, .int .i64 g.wt, .bool g.sp] 24)).alloc (.cells #[.slice q.A q.n q.c, .slice q.B q.k q.d, .int .i64 q.am, .int .i64 q.rd, .int .i64 q.hd] 39)) X → BoxG X w4.heap.size g from fun X hX => BoxG.below (alloc2_old w4 _ _) hX)
       have HY6 := Lib.hid (Below.refl ((w4.alloc (.cells #[.int .i64 g.pl, .int .i64 g.st, .int .i64 g.nx, .int .i64 g.ph, .int .i64 g.t, .int .i64 g.hd, .int .i64 g.hl, .int .i64 g.ak, .int .i64 g.wt, .bool g.sp] 24)).alloc (.cells #[.slice q.A q.n q.c, .slice q.B q.k q.d, .int .i64 q.am, .int .i64 q.rd, .int .i64 q.hd] 39)).heap.size ((w4.alloc (.cells #[.int .i64 g.pl, .int .i64 g.st, .int .i64 g.nx, .int .i64 g.ph, .int .i64 g.t, .int .i64 g.hd, .int .i64 g.hl, .int .i64 g.ak, .int .i64 g.wt, .bool g.sp] 24)).alloc (.cells #[.slice q.A q.n q.c, .slice q.B q.k q.d, .int .i64 q.am, .int .i64 q.rd, .int .i64 q.hd] 39)))
       have z5 := HQC.out _ HX5.out
       obtain ⟨z0, z1, z2, z3, z4⟩ := z5
       clear hbx hb5
       try simp only [sgV])
    | (go_at_call 12
       (with_reducible refine (HR1.out _ HX6.out).mono ?_)
       rintro e w7 ⟨A7, n7, c7, r7, rfl, hl7, hr7, hbx⟩
       have HX7 := Lib.hid (HX6.out.trans (hbx.mono HX6.out.size))
       have HY7 := Lib.hid (HY6.out.trans (hbx.mono HY6.out.size))
       have hbp := hbx
       obtain rfl : n7 = Am := by rw [← hl7.len, ← List.length_map (f := Rw.l), hr7]; exact HLA.out
       have hb8 := one_alloc w7 (.cells #[.int .i64 va.pl, .int .i64 va.st, .int .i64 va.nx, .int .i64 va.ph, .int .i64 va.t, .int .i64 va.hd, .int .i64 va.hl, .int .i64 va.ak, .int .i64 va.wt, .bool va.sp] 24)
       have hbg := BoxG.new w7 va
       have HX8 := Lib.hid (HX7.out.trans (hb8.mono HX7.out.size))
       have HY8 := Lib.hid (HY7.out.trans (hb8.mono HY7.out.size))
       have HP8 := Lib.hid (hbp.trans (hb8.mono hbp.size))
       have HVA := Lib.hid (show ∀ X, Below (w7.alloc (.cells #[.int .i64 va.pl, .int .i64 va.st, .int .i64 va.nx, .int .i64 va.ph, .int .i64 va.t, .int .i64 va.hd, .int .i64 va.hl, .int .i64 va.ak, .int .i64 va.wt, .bool va.sp] 24)).heap.size (w7.alloc (.cells #[.int .i64 va.pl, .int .i64 va.st, .int .i64 va.nx, .int .i64 va.ph, .int .i64 va.t, .int .i64 va.hd, .int .i64 va.hl, .int .i64 va.ak, .int .i64 va.wt, .bool va.sp] 24)) X → BoxG X w7.heap.size va from fun X hX => hbg.below hX)
       have pc8 := (HBP.out _ HP8.out).cells
       obtain ⟨r0, r1, r2, r3, r4⟩ := pc8
       clear hbx hl7 hr7 hb8 hbg hbp
       try simp only [sgV])
    | (go_at_call 12
       rw [HRD.out]
       (with_reducible refine (HR2.out _ HX8.out).mono ?_)
       rintro e w9 ⟨A9, n9, c9, r9, rfl, hl9, hr9, hbx⟩
       have HX9 := Lib.hid (HX8.out.trans (hbx.mono HX8.out.size))
       have HY9 := Lib.hid (HY8.out.trans (hbx.mono HY8.out.size))
       have HP9 := Lib.hid (HP8.out.trans (hbx.mono HP8.out.size))
       have HA9 := Lib.hid hbx
       obtain rfl : n9 = Rd + 1 := by rw [← hl9.len, ← List.length_map (f := Rw.l), hr9]; exact HLB.out
       have hb10 := one_alloc w9 (.cells #[.int .i64 vb.pl, .int .i64 vb.st, .int .i64 vb.nx, .int .i64 vb.ph, .int .i64 vb.t, .int .i64 vb.hd, .int .i64 vb.hl, .int .i64 vb.ak, .int .i64 vb.wt, .bool vb.sp] 24)
       have hbg := BoxG.new w9 vb
       have HX10 := Lib.hid (HX9.out.trans (hb10.mono HX9.out.size))
       have HY10 := Lib.hid (HY9.out.trans (hb10.mono HY9.out.size))
       have HP10 := Lib.hid (HP9.out.trans (hb10.mono HP9.out.size))
       have HA10 := Lib.hid (HA9.out.trans (hb10.mono HA9.out.size))
       have HVB := Lib.hid (show ∀ X, Below (w9.alloc (.cells #[.int .i64 vb.pl, .int .i64 vb.st, .int .i64 vb.nx, .int .i64 vb.ph, .int .i64 vb.t, .int .i64 vb.hd, .int .i64 vb.hl, .int .i64 vb.ak, .int .i64 vb.wt, .bool vb.sp] 24)).heap.size (w9.alloc (.cells #[.int .i64 vb.pl, .int .i64 vb.st, .int .i64 vb.nx, .int .i64 vb.ph, .int .i64 vb.t, .int .i64 vb.hd, .int .i64 vb.hl, .int .i64 vb.ak, .int .i64 vb.wt, .bool vb.sp] 24)) X → BoxG X w9.heap.size vb from fun X hX => hbg.below hX)
       have HL9 := Lib.hid (hl9.below hb10)
       have HQ9 := Lib.hid hr9
       clear hbx hl9 hr9 hb10 hbg
       try simp only [sgV])
    | (go_at_call 18
       (with_reducible refine (HT2.out _ HX10.out).mono ?_)
       rintro e w11 ⟨rfl, hbx⟩
       have HX11 := Lib.hid (HX10.out.trans (hbx.mono HX10.out.size))
       obtain ⟨W12, hW12⟩ : ∃ W12, w11.alloc (.cells #[.int .i64 vc.pl, .int .i64 vc.st, .int .i64 vc.nx, .int .i64 vc.ph, .int .i64 vc.t, .int .i64 vc.hd, .int .i64 vc.hl, .int .i64 vc.ak, .int .i64 vc.wt, .bool vc.sp] 24) = W12 := ⟨_, rfl⟩
       have hb12 := one_alloc w11 (.cells #[.int .i64 vc.pl, .int .i64 vc.st, .int .i64 vc.nx, .int .i64 vc.ph, .int .i64 vc.t, .int .i64 vc.hd, .int .i64 vc.hl, .int .i64 vc.ak, .int .i64 vc.wt, .bool vc.sp] 24)
       have hbg := BoxG.new w11 vc
       rw [hW12] at hb12 hbg
       have HW12 := Lib.hid hW12
       have HX12 := Lib.hid (HX11.out.trans (hb12.mono HX11.out.size))
       have hby := hbx.trans (hb12.mono hbx.size)
       have cs := (HBS.out W12 HX12.out).cells
       have cg := (HG.out W12 (HY10.out.trans (hby.mono HY10.out.size))).cells
       have cp := (HBP.out W12 (HP10.out.trans (hby.mono HP10.out.size))).cells
       have ca := (HVA.out W12 (HA10.out.trans (hby.mono HA10.out.size))).cells
       have cb := (HVB.out W12 hby).cells
       have cc := hbg.cells
       have HL12 := Lib.hid (HL9.out.below hby)
       have HALL := Lib.hid (show W12.cell? ⟨w.heap.size, 0, none⟩ = some (.int .i64 s.pl) ∧ W12.cell? ⟨w.heap.size, 8, none⟩ = some (.int .i64 s.wt) ∧ W12.cell? ⟨w.heap.size, 9, none⟩ = some (.bool s.sp) ∧ W12.cell? ⟨w4.heap.size, 2, none⟩ = some (.int .i64 g.nx) ∧ W12.cell? ⟨w4.heap.size + 1, 2, none⟩ = some (.int .i64 q.am) ∧ W12.cell? ⟨w4.heap.size + 1, 3, none⟩ = some (.int .i64 q.rd) ∧ W12.cell? ⟨w7.heap.size, 3, none⟩ = some (.int .i64 va.ph) ∧ W12.cell? ⟨w9.heap.size, 3, none⟩ = some (.int .i64 vb.ph) ∧ W12.cell? ⟨w11.heap.size, 0, none⟩ = some (.int .i64 vc.pl) ∧ W12.cell? ⟨w11.heap.size, 1, none⟩ = some (.int .i64 vc.st) ∧ W12.cell? ⟨w11.heap.size, 3, none⟩ = some (.int .i64 vc.ph) ∧ W12.cell? ⟨w11.heap.size, 4, none⟩ = some (.int .i64 vc.t) from ⟨cs.c0, cs.c8, cs.c9, cg.c2, cp.2.2.1, cp.2.2.2.1, ca.c3, cb.c3, cc.c0, cc.c1, cc.c3, cc.c4⟩)
       clear hbx hb12 hbg hW12 hby cs cg cp ca cb cc
       have hrdn : (((Rd : Int) + 1) != q.rd) = false := by rw [HRD.out]; simp
       have hrdm : ((((Rd + 1 : Nat) : Int)) != q.rd) = false := by rw [HRD.out]; simp
       have hall := HALL.out
       rw [← HW12.out] at hall
       obtain ⟨u0, u1, u2, u3, u4, u5, u6, u7, u8, u9, v0, v1⟩ := hall
       try simp only [sgV]))
  rw [HW12.out]
  clear u0 u1 u2 u3 u4 u5 u6 u7 u8 u9 v0 v1
  go_loop [14, 15] (fun i _ => ∃ j : Nat, j ≤ Rd + 1 ∧ i = .int .i64 j) (fun i _ => Rd + 1 - (intOf i).toNat)
  case atStart => exact ⟨0, by omega, rfl⟩
  case round =>
    obtain ⟨j, hj, rfl⟩ := hrel
    by_cases hlt : j < Rd + 1
    · have hlt2 : (j : Int) < ((Rd + 1 : Nat) : Int) := by omega
      have hj0 : 0 ≤ (j : Int) := by omega
      obtain ⟨rb', ro, x, rfl, hx, hxm, -, hix, hz⟩ := HL12.out.at_ j hlt
      have hxl := hix.len
      have hmx : x.l ∈ rb := by rw [← HQ9.out]; exact List.mem_map_of_mem hxm
      obtain ⟨hx10, hx0⟩ := HNB.out _ hmx
      clear hx hxm hmx
      go_wp2
      go_loop [15] (fun k => ∃ m : Nat, m ≤ x.n ∧ k = .int .i64 m) (fun k => x.n - (intOf k).toNat)
      case atStart => exact ⟨0, by omega, rfl⟩
      case round =>
        obtain ⟨m, hm, rfl⟩ := hrel
        by_cases hql : m < x.n
        · have hql2 : (m : Int) < x.n := by omega
          have hq0 : 0 ≤ (m : Int) := by omega
          obtain ⟨xb, xo, hA, hc⟩ := hix.at_ (by omega)
          have hcq := hc m hql
          rw [hx0] at hcq
          rw [hA] at hz
          clear hc
          go_wp2
          go_round
          case rel => exact ⟨m + 1, by omega, by go_num⟩
          case measure => simp [intOf]; omega
        · obtain rfl : m = x.n := by omega
          have hge : ¬ ((x.n : Int) < x.n) := by omega
          go_wp2
          go_round
          case rel => exact ⟨j + 1, by omega, by go_num⟩
          case measure => simp [intOf]; omega
    · obtain rfl : j = Rd + 1 := by omega
      have hge : ¬ (((Rd + 1 : Nat) : Int) < ((Rd + 1 : Nat) : Int)) := by omega
      obtain ⟨u0, u1, u2, u3, u4, u5, u6, u7, u8, u9, v0, v1⟩ := HALL.out
      have hu1 : ∀ b : Bool, ¬ ((undef : Value) = Value.bool b) := fun b h => by cases h
      have hu2 : ∀ b : Bool, ¬ (some (undef : Value) = some (Value.bool b)) := fun b h => by cases h
      rcases HFI.out with ⟨e1, e2, e3⟩ | ⟨e1, e2, e3, e4, e5, e6⟩ | ⟨e1, e2, e3, e4, e5, e6⟩
      · rw [e1] at u2
        have k1 : (vc.ph == 2) = true := by rw [e2]; rfl
        have k2 : (vc.t == q.rd) = true := by rw [e3, HRD.out]; simp
        clear e1 e2 e3
        go_wp2
        go_ret
        exact ⟨by first | rfl | simp, HB0.out.trans (HX12.out.mono HB0.out.size)⟩
      · rw [e1] at u2
        have k1 : (vc.ph == 0) = true := by rw [e3]; rfl
        have k2 : (vc.t == 0) = true := by rw [e4]; rfl
        have k3 : (s.wt == -1) = true := by rw [e2]; rfl
        have k4 : (vc.pl == s.pl) = true := by rw [e5]; simp
        have k5 : (vc.st == g.nx) = true := by rw [e6]; simp
        clear e1 e2 e3 e4 e5 e6
        go_wp2
        go_ret
        exact ⟨by first | rfl | simp, HB0.out.trans (HX12.out.mono HB0.out.size)⟩
      · rw [e1] at u2
        have k1 : (vc.ph == 0) = true := by rw [e3]; rfl
        have k2 : (vc.t == 0) = true := by rw [e4]; rfl
        have k3 : (s.wt == -1) = false := by rw [beq_eq_false_iff_ne]; exact e2
        have k3b : (s.wt != -1) = true := by rw [bne_iff_ne]; exact e2
        have k4 : (vc.pl == s.wt) = true := by rw [e5]; simp
        have k5 : (vc.st == 0) = true := by rw [e6]; rfl
        clear e1 e2 e3 e4 e5 e6
        go_wp2
        go_ret
        exact ⟨by first | rfl | simp, HB0.out.trans (HX12.out.mono HB0.out.size)⟩
end Go.Proofs.Ytcgakgbnhlmcaaa

