/- Joined texts: The law StageStops: a machine that stops. The laws' arguments, opened: a slice of numbers. The laws' arguments, opened: a plan, a slice of plans. The laws' arguments, opened: a machine. slices.Equal of numbers and of stages. A range over a function whose values are known ahead, in order; a round goes on, or leaves the function; between two rounds the iterator turns new blocks, and one of its own. A range over a function whose values are known ahead, in order, where the iterator may itself range over another one: what it turns is no cells, and lies beyond all that lay when it was called. A region that draws its order, inside a fence, walked by hand; what a call that makes new memory alone leaves to an iterator's invariants. append onto a slice of numbers of the call's own, inside a fence. Package group's small calls: has, isSet, groups. -/
import Derived.Test.YtcgakgbnhlmcaaaStJJ
import Derived.Test.YtcgakgbnhlmcaaaStJA
import Derived.ProofKit
import Derived.OpenShut
import Derived.Deep.DeepHandedRow
import Derived.Deep.Slices
import Derived.Test.YtcgakgbnhlmcaaaStJB
import Derived.RangeFuncNested
import Derived.RangeFuncBound
import Derived.RangeFuncCalls
import Derived.RangeFuncLeaves
import Derived.RangeFuncBox
import Derived.Shelf.Abstract
import Derived.OwnWalkIn
import Derived.TacticsInMore
import Derived.LoopNIn
import Derived.LoopIn
import Derived.Shelf.RegionOpen
import Derived.Deep.RegionHeld
import Derived.Test.YtcgakgbnhlmcaaaStJF
import Derived.Laws.EntriesVeiled
/- The law StageStops: a machine that stops. -/
namespace Go.Proofs.Ytcgakgbnhlmcaaa
set_option maxRecDepth 100000
set_option linter.unusedVariables false
set_option linter.unusedSimpArgs false
open Go.RowKit

set_option maxHeartbeats 16000000 in
theorem sstops_f (HO : StgOk) (HT : LmpText) (A : Option Addr) (n c : Nat) (l : List Pl) (s : Sg) (K : Nat) (w : World) (hl : Pls w A n c l) (hts : SmG s) (hfw : fewAllB l = true) (hm : mayS l s = true) (hsp : s.sp = true) (hK : K ≤ 60) :
    Calls Try.prog 7 #[.slice A n c, sgV s, .int .i64 (K : Int)] w fun e w' => e = .returned (.bool true) ∧ Below w.heap.size w w' := by
  have hsm := hl.small
  have hlen := hl.len
  simp only [sgV]
  obtain ⟨W0, hW0⟩ : ∃ W0, w.alloc (.cells #[.int .i64 s.pl, .int .i64 s.st, .int .i64 s.nx, .int .i64 s.ph, .int .i64 s.t, .int .i64 s.hd, .int .i64 s.hl, .int .i64 s.ak, .int .i64 s.wt, .bool s.sp] 24) = W0 := ⟨_, rfl⟩
  have hB0 : Below w.heap.size w W0 := by rw [← hW0]; exact one_alloc w _
  have hbs : BoxG W0 w.heap.size s := by rw [← hW0]; exact BoxG.new w s
  have HPL := Lib.hid (show ∀ X, Below W0.heap.size W0 X → Pls X A n c l from fun X hX => (hl.below hB0).below hX)
  have HBS := Lib.hid (show ∀ X, Below W0.heap.size W0 X → BoxG X w.heap.size s from fun X hX => hbs.below hX)
  have HLL := Lib.hid hlen
  have HB0 := Lib.hid hB0
  have HW := Lib.hid hW0
  have HAW := Lib.hid (sawake16_any HO HT W0)
  have HFW := Lib.hid (fun X hX => pfewall_any A n c l X (HPL.out X hX))
  clear hW0 hB0 hbs hl
  rw [hfw] at HFW
  obtain ⟨hl5, hfp⟩ := fewall_iff.1 hfw
  have hn1000 : n ≤ 1000 := by omega
  have hmem : ∀ p ∈ l, p.n ≤ 1000 ∧ p.k ≤ 1000 := fun p hp => by have := hfp p hp; omega
  have HMY := Lib.hid (fun X hX => HO.may A n c l s X (HPL.out X hX) hts hn1000 hmem)
  rw [hm] at HMY
  have hms := mayS_iff.1 hm
  have g0 := hms.p0
  have g1 : s.pl < n := by have := hms.p1; rw [hlen] at this; exact this
  obtain ⟨j, hj⟩ := Int.eq_ofNat_of_zero_le g0
  have hjn : j < n := by omega
  obtain ⟨q1, q2⟩ := plan_of (HPL.out W0 (Below.refl _ _)) hjn
  rw [← hj] at q1 q2
  have hs0 := hms.range.s0
  have hs1 := hms.range.s1
  have hfit := plan_fit hms
  have hff := fit_iff.1 hfit
  obtain ⟨mn1, mn2, mx2⟩ := stg_ok hfit hs0 hs1
  obtain ⟨N, hN⟩ := Int.eq_ofNat_of_zero_le (show 0 ≤ (stgAt (planAt l s.pl) s.st).mx + (planAt l s.pl).am + (planAt l s.pl).rd by have := hff.am1; have := hff.rd1; omega)
  have hN6 : (N : Int) ≤ 600 := by have := hff.am2; have := hff.rd2; omega
  obtain ⟨v1, v2, v3, v4⟩ := stops hms hsp N hN.symm
  have hmv := may_ticks hms N
  obtain ⟨ra1, ra2⟩ := run_may (n := (N : Int)) hm (by omega) (by omega)
  obtain ⟨rb1, rb2⟩ := run_may (n := (K : Int)) (mayS_iff.2 hmv) (by omega) (by omega)
  rw [Int.toNat_natCast] at ra1 ra2 rb1 rb2
  rw [v4] at rb1
  have hvt := (may_small hmv).2
  have HR1 := Lib.hid (fun X hX => HO.run A n c l s (N : Int) X (HPL.out X hX) hts hn1000 hmem)
  have HR2 := Lib.hid (fun X hX => HO.run A n c l (ticksS l s N) (K : Int) X (HPL.out X hX) (small_may hmv) hn1000 hmem)
  rw [ra1, ra2] at HR1
  rw [rb1, rb2] at HR2
  have hlb := rows_len l (ticksS l s N) K
  have hrs := rows_still v4 K
  have hlr := lamps_red hmv v1
  obtain ⟨v, hv⟩ : ∃ v, ticksS l s N = v := ⟨_, rfl⟩
  rw [hv] at HR1 HR2 v1 v2 v3 hmv hlb hrs hlr
  obtain ⟨rb, hrb⟩ : ∃ r, rowsS l v K = r := ⟨_, rfl⟩
  rw [hrb] at HR2 hlb hrs
  obtain ⟨q, hq⟩ : ∃ q, planAt l s.pl = q := ⟨_, rfl⟩
  rw [hq] at q1 q2 hs1 hfit hff mn1 mn2 mx2 hN v2
  have hqk := q1.s.len
  have hst1 : s.st < q.k := by rw [hqk] at hs1; exact hs1
  obtain ⟨b, off, p0, rfl, -⟩ := (HPL.out W0 (Below.refl _ _)).at_ 0 (by omega)
  obtain ⟨bs, os, u, hB, hu, -, -, -, -, -⟩ := q1.s.at_ s.st.toNat (by omega)
  have hus : stgAt q s.st = u := hu
  rw [hus] at hN mn1 mn2 mx2
  have HQC := Lib.hid (show ∀ X, Below W0.heap.size W0 X → (X.cell? ⟨b, off + s.pl.toNat * 5, none⟩ = some (.slice q.A q.n q.c) ∧ X.cell? ⟨b, off + s.pl.toNat * 5 + 1, none⟩ = some (.slice (some ⟨bs, os, none⟩) q.k q.d) ∧ X.cell? ⟨b, off + s.pl.toNat * 5 + 2, none⟩ = some (.int .i64 q.am) ∧ X.cell? ⟨b, off + s.pl.toNat * 5 + 3, none⟩ = some (.int .i64 q.rd) ∧ X.cell? ⟨b, off + s.pl.toNat * 5 + 4, none⟩ = some (.int .i64 q.hd)) ∧ X.cell? ⟨bs, os + s.st.toNat * 3 + 2, none⟩ = some (.int .i64 u.mx) from fun X hX => by
    obtain ⟨b2, off2, p2, hA2, hp2, hm2, -, hi2, z0, z1, z2, z3, z4⟩ := (HPL.out X hX).at_ j hjn
    cases hA2
    have hqe : q = p2 := by rw [← hq, hj, planAt, Int.toNat_natCast, hp2]
    rw [← hqe] at z0 z1 z2 z3 z4 hi2
    obtain ⟨b3, off3, u2, hB2, hu2, -, -, y0, y1, y2⟩ := hi2.s.at_ s.st.toNat (by omega)
    rw [hB] at hB2
    cases hB2
    obtain rfl := hu.symm.trans hu2
    rw [hB] at z1
    rw [show s.pl.toNat = j by omega]
    exact ⟨⟨z0, z1, z2, z3, z4⟩, y2⟩)
  have hstn : (s.st.toNat : Int) = s.st := Int.toNat_of_nonneg hs0
  have hstk : s.st.toNat < q.k := by omega
  have hpln : (s.pl.toNat : Int) = s.pl := Int.toNat_of_nonneg g0
  have hplk : s.pl.toNat < n := by omega
  have HW1 := Lib.hid (show IntKind.i64.wrap (u.mx + q.am) = u.mx + q.am by rw [IntKind.wrap_i64]; have := hff.am1; have := hff.am2; omega)
  have HW2 := Lib.hid (show IntKind.i64.wrap (u.mx + q.am + q.rd) = (N : Int) by rw [hN, IntKind.wrap_i64]; have := hff.am1; have := hff.am2; have := hff.rd1; have := hff.rd2; omega)
  have hvph : (v.ph != 2) = false := by rw [v1]; rfl
  have hvt2 : (v.t != q.rd) = false := by rw [v2]; simp
  have hkk : ((K : Int) != (K : Int)) = false := by simp
  have hk0 : ¬ ((K : Int) < 0) := by omega
  have hk1 : ¬ (60 < (K : Int)) := by omega
  have HSP := Lib.hid hsp
  have HLB := Lib.hid hlb
  have HNB := Lib.hid (show ∀ x ∈ rb, x.length ≤ 10 ∧ ∀ q : Nat, x.getD q 0 = 0 from fun x hx => by
    rw [hrs x hx, hlr]
    refine ⟨by rw [List.length_replicate]; have h8 := (may_all (fit_iff.1 (plan_fit hmv)).may).1.2; exact Nat.le_trans h8 (by omega), fun q => ?_⟩
    simp [List.getD_eq_getElem?_getD, List.getElem?_replicate]
    split <;> rfl)
  simp only [GivesGL, sgV] at HMY HR1 HR2
  clear hm hmem hfp hfw hms hj hjn q1 q2 hs1 hfit hff mn1 mn2 mx2 hN v1 v2 v3 v4 hmv ra1 ra2 rb1 rb2 hvt hlb hrs hlr hrb hv hqk hB hu hus hsp hq
  go_enter Try.func7, Try.ntmps7
  go_wp2_with (first
    | (go_at_call 9
       rw [HW.out]
       (with_reducible refine (HAW.out).mono ?_)
       rintro e w1 ⟨rfl, hbx⟩
       have HX1 := Lib.hid hbx
       clear hbx)
    | (go_at_call 10
       (with_reducible refine (HFW.out _ HX1.out).mono ?_)
       rintro e w2 ⟨rfl, hbx⟩
       have HX2 := Lib.hid (HX1.out.trans (hbx.mono HX1.out.size))
       clear hbx))
  have HF := Lib.hid (show ∀ X, Below w2.heap.size w2 X → X.cell? ⟨w.heap.size, 0, none⟩ = some (.int .i64 s.pl) ∧ X.cell? ⟨w.heap.size, 1, none⟩ = some (.int .i64 s.st) ∧ X.cell? ⟨w.heap.size, 2, none⟩ = some (.int .i64 s.nx) ∧ X.cell? ⟨w.heap.size, 3, none⟩ = some (.int .i64 s.ph) ∧ X.cell? ⟨w.heap.size, 4, none⟩ = some (.int .i64 s.t) ∧ X.cell? ⟨w.heap.size, 5, none⟩ = some (.int .i64 s.hd) ∧ X.cell? ⟨w.heap.size, 6, none⟩ = some (.int .i64 s.hl) ∧ X.cell? ⟨w.heap.size, 7, none⟩ = some (.int .i64 s.ak) ∧ X.cell? ⟨w.heap.size, 8, none⟩ = some (.int .i64 s.wt) ∧ X.cell? ⟨w.heap.size, 9, none⟩ = some (.bool s.sp) ∧ X.cell? ⟨b, off + s.pl.toNat * 5 + 1, none⟩ = some (.slice (some ⟨bs, os, none⟩) q.k q.d) from fun X hX => by
    have hX0 := HX2.out.trans (hX.mono HX2.out.size)
    obtain ⟨y0, y1, y2, y3, y4, y5, y6, y7, y8, y9⟩ := (HBS.out X hX0).cells
    exact ⟨y0, y1, y2, y3, y4, y5, y6, y7, y8, y9, (HQC.out X hX0).1.2.1⟩)
  have hSd : Below w2.heap.size w2 w2.drew := (Below.refl _ w2).drew
  refine wp_region_held_drew (S := fun X => Below w2.heap.size w2 X) (by kernel_rfl) hSd (fun hHeld => ?_)
  obtain ⟨y0, hY0⟩ : ∃ Y, w2.drew = Y := ⟨_, rfl⟩
  rw [hY0] at hSd hHeld ⊢
  clear hY0
  refine tk 0 (.bool true) hHeld (fun w => ?_) ?_
  · go_simp
  simp only [PT]
  refine tk 1 (.bool false) hHeld (fun w => ?_) ?_
  · go_simp
  simp only [PT]
  refine tk 2 (.bool false) hHeld (fun w => ?_) ?_
  · go_simp
  simp only [PT]
  refine tk 3 (.bool true) hHeld (fun w => ?_) ?_
  · go_simp
  simp only [PT]
  refine tk 4 (.bool false) hHeld (fun w => ?_) ?_
  · go_simp
  simp only [PT]
  refine tk 5 (.bool false) hHeld (fun w => ?_) ?_
  · go_simp
  simp only [PT]
  refine tk 6 (.bool false) hHeld (fun w => ?_) ?_
  · go_simp
  simp only [PT]
  refine tk 7 (.slice (some ⟨b, off, none⟩) n c) hHeld (fun w => ?_) ?_
  · go_simp
  simp only [PT]
  refine tkS 8 (.agg #[.int .i64 s.pl, .int .i64 s.st, .int .i64 s.nx, .int .i64 s.ph, .int .i64 s.t, .int .i64 s.hd, .int .i64 s.hl, .int .i64 s.ak, .int .i64 s.wt, .bool s.sp]) hHeld (fun w hq => ?_) ?_
  · obtain ⟨z0, z1, z2, z3, z4, z5, z6, z7, z8, z9, z10⟩ := HF.out w hq
    go_simp
  simp only [PT]
  refine one_step 9 (by kernel_rfl) rfl (fun Kq hKq => ?_)
  go_simp
  go_at_call 17
  (with_reducible refine (HMY.out _ (HX2.out.trans (hSd.mono HX2.out.size))).mono ?_)
  rintro e y1 ⟨rfl, hbx⟩
  have hS1 : Below w2.heap.size w2 y1 := hSd.trans (hbx.mono hSd.size)
  clear hbx
  refine hKq.out _ _ hS1 (fun hHeld0 => ?_)
  clear hKq Kq hHeld
  have hHeld := hHeld0
  clear hHeld0
  try simp only [PT]
  refine tk 10 (.bool false) hHeld (fun w => ?_) ?_
  · go_simp
  simp only [PT]
  refine tk 11 (.bool false) hHeld (fun w => ?_) ?_
  · go_simp
  simp only [PT]
  refine tk 12 (.bool false) hHeld (fun w => ?_) ?_
  · go_simp
  simp only [PT]
  refine tk 13 (.pointer (some ⟨w.heap.size, 9, none⟩)) hHeld (fun w => ?_) ?_
  · go_simp
  simp only [PT]
  refine tkS 14 (.bool s.sp) hHeld (fun w hq => ?_) ?_
  · obtain ⟨z0, z1, z2, z3, z4, z5, z6, z7, z8, z9, z10⟩ := HF.out w hq
    go_simp
  simp only [PT]
  refine tk 15 (.bool false) hHeld (fun w => ?_) ?_
  · (go_simp; try rw [HSP.out]; try rfl)
  simp only [PT]
  refine tk 16 (.bool false) hHeld (fun w => ?_) ?_
  · go_simp
  simp only [PT]
  refine tk 17 (.bool false) hHeld (fun w => ?_) ?_
  · go_simp
  simp only [PT]
  refine tk 18 (.int .i64 (K : Int)) hHeld (fun w => ?_) ?_
  · go_simp
  simp only [PT]
  refine tk 19 (.bool false) hHeld (fun w => ?_) ?_
  · (go_simp; try omega)
  simp only [PT]
  refine tk 20 (.bool false) hHeld (fun w => ?_) ?_
  · go_simp
  simp only [PT]
  refine tk 21 (.bool false) hHeld (fun w => ?_) ?_
  · go_simp
  simp only [PT]
  refine tk 22 (.int .i64 (K : Int)) hHeld (fun w => ?_) ?_
  · go_simp
  simp only [PT]
  refine tk 23 (.bool false) hHeld (fun w => ?_) ?_
  · (go_simp; try omega)
  simp only [PT]
  refine tk 24 (.bool false) hHeld (fun w => ?_) ?_
  · go_simp
  simp only [PT]
  refine tk 25 (.bool false) hHeld (fun w => ?_) ?_
  · go_simp
  simp only [PT]
  refine tk 26 (.pointer (some ⟨w.heap.size, 0, none⟩)) hHeld (fun w => ?_) ?_
  · go_simp
  simp only [PT]
  refine tkS 27 (.int .i64 s.pl) hHeld (fun w hq => ?_) ?_
  · obtain ⟨z0, z1, z2, z3, z4, z5, z6, z7, z8, z9, z10⟩ := HF.out w hq
    go_simp
  simp only [PT]
  refine tk 28 (.bool false) hHeld (fun w => ?_) ?_
  · (go_simp; try omega)
  simp only [PT]
  refine tk 29 (.bool false) hHeld (fun w => ?_) ?_
  · go_simp
  simp only [PT]
  refine tk 30 (.bool false) hHeld (fun w => ?_) ?_
  · go_simp
  simp only [PT]
  refine tk 31 (.pointer (some ⟨w.heap.size, 0, none⟩)) hHeld (fun w => ?_) ?_
  · go_simp
  simp only [PT]
  refine tkS 32 (.int .i64 s.pl) hHeld (fun w hq => ?_) ?_
  · obtain ⟨z0, z1, z2, z3, z4, z5, z6, z7, z8, z9, z10⟩ := HF.out w hq
    go_simp
  simp only [PT]
  refine tk 33 (.slice (some ⟨b, off, none⟩) n c) hHeld (fun w => ?_) ?_
  · go_simp
  simp only [PT]
  refine tk 34 (.int .i64 (n : Int)) hHeld (fun w => ?_) ?_
  · go_simp
  simp only [PT]
  refine tk 35 (.bool false) hHeld (fun w => ?_) ?_
  · (go_simp; try omega)
  simp only [PT]
  refine tk 36 (.bool false) hHeld (fun w => ?_) ?_
  · go_simp
  simp only [PT]
  refine tk 37 (.bool false) hHeld (fun w => ?_) ?_
  · go_simp
  simp only [PT]
  refine tk 38 (.pointer (some ⟨w.heap.size, 1, none⟩)) hHeld (fun w => ?_) ?_
  · go_simp
  simp only [PT]
  refine tkS 39 (.int .i64 s.st) hHeld (fun w hq => ?_) ?_
  · obtain ⟨z0, z1, z2, z3, z4, z5, z6, z7, z8, z9, z10⟩ := HF.out w hq
    go_simp
  simp only [PT]
  refine tk 40 (.bool false) hHeld (fun w => ?_) ?_
  · (go_simp; try omega)
  simp only [PT]
  refine tk 41 (.bool false) hHeld (fun w => ?_) ?_
  · go_simp
  simp only [PT]
  refine tk 42 (.bool false) hHeld (fun w => ?_) ?_
  · go_simp
  simp only [PT]
  refine tk 43 (.pointer (some ⟨w.heap.size, 1, none⟩)) hHeld (fun w => ?_) ?_
  · go_simp
  simp only [PT]
  refine tkS 44 (.int .i64 s.st) hHeld (fun w hq => ?_) ?_
  · obtain ⟨z0, z1, z2, z3, z4, z5, z6, z7, z8, z9, z10⟩ := HF.out w hq
    go_simp
  simp only [PT]
  refine tk 45 (.slice (some ⟨b, off, none⟩) n c) hHeld (fun w => ?_) ?_
  · go_simp
  simp only [PT]
  refine tk 46 (.pointer (some ⟨w.heap.size, 0, none⟩)) hHeld (fun w => ?_) ?_
  · go_simp
  simp only [PT]
  refine tkS 47 (.int .i64 s.pl) hHeld (fun w hq => ?_) ?_
  · obtain ⟨z0, z1, z2, z3, z4, z5, z6, z7, z8, z9, z10⟩ := HF.out w hq
    go_simp
  simp only [PT]
  refine tk 48 (.pointer (some ⟨b, off + s.pl.toNat * 5, none⟩)) hHeld (fun w => ?_) ?_
  · go_simp
  simp only [PT]
  refine tk 49 (.pointer (some ⟨b, off + s.pl.toNat * 5 + 1, none⟩)) hHeld (fun w => ?_) ?_
  · go_simp
  simp only [PT]
  refine tkS 50 (.slice (some ⟨bs, os, none⟩) q.k q.d) hHeld (fun w hq => ?_) ?_
  · obtain ⟨z0, z1, z2, z3, z4, z5, z6, z7, z8, z9, z10⟩ := HF.out w hq
    go_simp
  simp only [PT]
  refine tk 51 (.int .i64 (q.k : Int)) hHeld (fun w => ?_) ?_
  · go_simp
  simp only [PT]
  refine tk 52 (.bool false) hHeld (fun w => ?_) ?_
  · (go_simp; try omega)
  simp only [PT]
  refine tk 53 (.bool false) hHeld (fun w => ?_) ?_
  · go_simp
  simp only [PT]
  refine wpAnyH_done (by kernel_rfl) ?_ _
  clear hHeld
  have HX3 := Lib.hid (HX2.out.trans (hS1.mono HX2.out.size))
  obtain ⟨c0, c1, c2, c3, c4, c5, c6, c7, c8, c9⟩ := (HBS.out y1 HX3.out).cells
  obtain ⟨⟨k0, k1, k2, k3, k4⟩, k5⟩ := HQC.out y1 HX3.out
  go_wp2
  obtain ⟨W5, hW5⟩ : ∃ W5, y1.alloc (.cells #[.slice q.A q.n q.c, .slice (some ⟨bs, os, none⟩) q.k q.d, .int .i64 q.am, .int .i64 q.rd, .int .i64 q.hd] 39) = W5 := ⟨_, rfl⟩
  have hb5 := one_alloc y1 (.cells #[.slice q.A q.n q.c, .slice (some ⟨bs, os, none⟩) q.k q.d, .int .i64 q.am, .int .i64 q.rd, .int .i64 q.hd] 39)
  have hpx := heap_alloc_new y1 (.cells #[.slice q.A q.n q.c, .slice (some ⟨bs, os, none⟩) q.k q.d, .int .i64 q.am, .int .i64 q.rd, .int .i64 q.hd] 39)
  rw [hW5] at hb5 hpx ⊢
  have HX5 := Lib.hid (HX3.out.trans (hb5.mono HX3.out.size))
  have HPX := Lib.hid (show ∀ X, Below W5.heap.size W5 X → X.cell? ⟨y1.heap.size, 1, none⟩ = some (.slice (some ⟨bs, os, none⟩) q.k q.d) ∧ X.cell? ⟨y1.heap.size, 2, none⟩ = some (.int .i64 q.am) ∧ X.cell? ⟨y1.heap.size, 3, none⟩ = some (.int .i64 q.rd) from fun X hX => by
    have hh := (hX.block y1.heap.size (by have := (Array.getElem?_eq_some_iff.1 hpx).1; exact this)).trans hpx
    exact ⟨(cell_of_row _ _ _ _ _ _ hh).trans rfl, (cell_of_row _ _ _ _ _ _ hh).trans rfl, (cell_of_row _ _ _ _ _ _ hh).trans rfl⟩)
  have HF6 := Lib.hid (show ∀ X, Below W5.heap.size W5 X → X.cell? ⟨w.heap.size, 0, none⟩ = some (.int .i64 s.pl) ∧ X.cell? ⟨w.heap.size, 1, none⟩ = some (.int .i64 s.st) ∧ X.cell? ⟨w.heap.size, 2, none⟩ = some (.int .i64 s.nx) ∧ X.cell? ⟨w.heap.size, 3, none⟩ = some (.int .i64 s.ph) ∧ X.cell? ⟨w.heap.size, 4, none⟩ = some (.int .i64 s.t) ∧ X.cell? ⟨w.heap.size, 5, none⟩ = some (.int .i64 s.hd) ∧ X.cell? ⟨w.heap.size, 6, none⟩ = some (.int .i64 s.hl) ∧ X.cell? ⟨w.heap.size, 7, none⟩ = some (.int .i64 s.ak) ∧ X.cell? ⟨w.heap.size, 8, none⟩ = some (.int .i64 s.wt) ∧ X.cell? ⟨w.heap.size, 9, none⟩ = some (.bool s.sp) ∧ X.cell? ⟨y1.heap.size, 1, none⟩ = some (.slice (some ⟨bs, os, none⟩) q.k q.d) ∧ X.cell? ⟨y1.heap.size, 2, none⟩ = some (.int .i64 q.am) ∧ X.cell? ⟨y1.heap.size, 3, none⟩ = some (.int .i64 q.rd) ∧ X.cell? ⟨bs, os + s.st.toNat * 3 + 2, none⟩ = some (.int .i64 u.mx) from fun X hX => by
    have hX0 := HX5.out.trans (hX.mono HX5.out.size)
    obtain ⟨z0, z1, z2, z3, z4, z5, z6, z7, z8, z9⟩ := (HBS.out X hX0).cells
    obtain ⟨x1, x2, x3⟩ := HPX.out X hX
    exact ⟨z0, z1, z2, z3, z4, z5, z6, z7, z8, z9, x1, x2, x3, (HQC.out X hX0).2⟩)
  clear hb5 hpx hW5 c0 c1 c2 c3 c4 c5 c6 c7 c8 c9 k0 k1 k2 k3 k4 k5
  have hSd : Below W5.heap.size W5 W5.drew := (Below.refl _ W5).drew
  refine wp_region_held_drew (S := fun X => Below W5.heap.size W5 X) (by kernel_rfl) hSd (fun hHeld => ?_)
  obtain ⟨y0, hY0⟩ : ∃ Y, W5.drew = Y := ⟨_, rfl⟩
  rw [hY0] at hSd hHeld ⊢
  clear hY0
  refine tk 0 (.slice (some ⟨b, off, none⟩) n c) hHeld (fun w => ?_) ?_
  · go_simp
  simp only [PT]
  refine tkS 1 (.agg #[.int .i64 s.pl, .int .i64 s.st, .int .i64 s.nx, .int .i64 s.ph, .int .i64 s.t, .int .i64 s.hd, .int .i64 s.hl, .int .i64 s.ak, .int .i64 s.wt, .bool s.sp]) hHeld (fun w hq => ?_) ?_
  · obtain ⟨z0, z1, z2, z3, z4, z5, z6, z7, z8, z9, x1, x2, x3, x4⟩ := HF6.out w hq
    go_simp
  simp only [PT]
  refine tk 2 (.pointer (some ⟨y1.heap.size, 1, none⟩)) hHeld (fun w => ?_) ?_
  · go_simp
  simp only [PT]
  refine tkS 3 (.slice (some ⟨bs, os, none⟩) q.k q.d) hHeld (fun w hq => ?_) ?_
  · obtain ⟨z0, z1, z2, z3, z4, z5, z6, z7, z8, z9, x1, x2, x3, x4⟩ := HF6.out w hq
    go_simp
  simp only [PT]
  refine tk 4 (.pointer (some ⟨w.heap.size, 1, none⟩)) hHeld (fun w => ?_) ?_
  · go_simp
  simp only [PT]
  refine tkS 5 (.int .i64 s.st) hHeld (fun w hq => ?_) ?_
  · obtain ⟨z0, z1, z2, z3, z4, z5, z6, z7, z8, z9, x1, x2, x3, x4⟩ := HF6.out w hq
    go_simp
  simp only [PT]
  refine tk 6 (.pointer (some ⟨bs, os + s.st.toNat * 3, none⟩)) hHeld (fun w => ?_) ?_
  · go_simp
  simp only [PT]
  refine tk 7 (.pointer (some ⟨bs, os + s.st.toNat * 3 + 2, none⟩)) hHeld (fun w => ?_) ?_
  · go_simp
  simp only [PT]
  refine tkS 8 (.int .i64 u.mx) hHeld (fun w hq => ?_) ?_
  · obtain ⟨z0, z1, z2, z3, z4, z5, z6, z7, z8, z9, x1, x2, x3, x4⟩ := HF6.out w hq
    go_simp
  simp only [PT]
  refine tk 9 (.pointer (some ⟨y1.heap.size, 2, none⟩)) hHeld (fun w => ?_) ?_
  · go_simp
  simp only [PT]
  refine tkS 10 (.int .i64 q.am) hHeld (fun w hq => ?_) ?_
  · obtain ⟨z0, z1, z2, z3, z4, z5, z6, z7, z8, z9, x1, x2, x3, x4⟩ := HF6.out w hq
    go_simp
  simp only [PT]
  refine tk 11 (.int .i64 (u.mx + q.am)) hHeld (fun w => ?_) ?_
  · (go_simp; try exact HW1.out)
  simp only [PT]
  refine tk 12 (.pointer (some ⟨y1.heap.size, 3, none⟩)) hHeld (fun w => ?_) ?_
  · go_simp
  simp only [PT]
  refine tkS 13 (.int .i64 q.rd) hHeld (fun w hq => ?_) ?_
  · obtain ⟨z0, z1, z2, z3, z4, z5, z6, z7, z8, z9, x1, x2, x3, x4⟩ := HF6.out w hq
    go_simp
  simp only [PT]
  refine tk 14 (.int .i64 (N : Int)) hHeld (fun w => ?_) ?_
  · (go_simp; try exact HW2.out)
  simp only [PT]
  refine two_steps 15 19 (by kernel_rfl) rfl rfl (fun Kq hKq => ?_) (fun Kq hKq => ?_)
  · go_simp
    go_at_call 12
    (with_reducible refine (HR1.out _ (HX5.out.trans (hSd.mono HX5.out.size))).mono ?_)
    rintro e y1 ⟨A7, n7, c7, r7, rfl, hl7, hr7, hbx⟩
    clear hl7 hr7
    have hS1 : Below W5.heap.size W5 y1 := hSd.trans (hbx.mono hSd.size)
    clear hbx
    refine hKq.out _ _ hS1 (fun hHeld0 => ?_)
    clear hKq Kq hHeld
    have hHeld := hHeld0
    clear hHeld0
    try simp only [PT]
    refine tk 16 (.tuple #[.agg #[.int .i64 v.pl, .int .i64 v.st, .int .i64 v.nx, .int .i64 v.ph, .int .i64 v.t, .int .i64 v.hd, .int .i64 v.hl, .int .i64 v.ak, .int .i64 v.wt, .bool v.sp], .slice A7 n7 c7]) hHeld (fun w => ?_) ?_
    · (go_simp; try rfl)
    simp only [PT]
    refine tk 17 (.agg #[.int .i64 v.pl, .int .i64 v.st, .int .i64 v.nx, .int .i64 v.ph, .int .i64 v.t, .int .i64 v.hd, .int .i64 v.hl, .int .i64 v.ak, .int .i64 v.wt, .bool v.sp]) hHeld (fun w => ?_) ?_
    · (go_simp; try rfl)
    simp only [PT]
    refine tk 18 (.slice A7 n7 c7) hHeld (fun w => ?_) ?_
    · go_simp
    simp only [PT]
    refine one_step 19 (by kernel_rfl) rfl (fun Kq hKq => ?_)
    go_simp
    obtain ⟨y2, hYn⟩ : ∃ Y, y1.alloc (.cells #[.int .i64 0, .int .i64 0, .int .i64 0, .int .i64 0, .int .i64 0, .int .i64 0, .int .i64 0, .int .i64 0, .int .i64 0, .bool false] 24) = Y := ⟨_, rfl⟩
    have hbx : Below y1.heap.size y1 y2 := by rw [← hYn]; exact one_alloc _ _
    have hS2 : Below W5.heap.size W5 y2 := hS1.trans (hbx.mono hS1.size)
    have HBK := Lib.hid (show BoxG y2 y1.heap.size ⟨0, 0, 0, 0, 0, 0, 0, 0, 0, false⟩ from by rw [← hYn]; exact BoxG.new y1 ⟨0, 0, 0, 0, 0, 0, 0, 0, 0, false⟩)
    rw [hYn]
    clear hYn
    clear hbx
    refine hKq.out _ _ hS2 (fun hHeld0 => ?_)
    clear hKq Kq hHeld
    have hHeld := hHeld0
    clear hHeld0
    try simp only [PT]
    refine one_step 20 (by kernel_rfl) rfl (fun Kq hKq => ?_)
    refine step_store_part 24 _ _ rfl y1.heap.size 0 (.agg #[.int .i64 v.pl, .int .i64 v.st, .int .i64 v.nx, .int .i64 v.ph, .int .i64 v.t, .int .i64 v.hd, .int .i64 v.hl, .int .i64 v.ak, .int .i64 v.wt, .bool v.sp]) #[.int .i64 v.pl, .int .i64 v.st, .int .i64 v.nx, .int .i64 v.ph, .int .i64 v.t, .int .i64 v.hd, .int .i64 v.hl, .int .i64 v.ak, .int .i64 v.wt, .bool v.sp] rfl rfl rfl 24 #[.int .i64 0, .int .i64 0, .int .i64 0, .int .i64 0, .int .i64 0, .int .i64 0, .int .i64 0, .int .i64 0, .int .i64 0, .bool false] #[.int .i64 v.pl, .int .i64 v.st, .int .i64 v.nx, .int .i64 v.ph, .int .i64 v.t, .int .i64 v.hd, .int .i64 v.hl, .int .i64 v.ak, .int .i64 v.wt, .bool v.sp] HBK.out info_sig (by simp) (one_sig _ _ _ _ _ _ _ _ _ _) rfl rfl ?_
    intro y3 hgk hbk hzk
    have hS3 : Below W5.heap.size W5 y3 := Below.grows hS2 hgk hS2.size (by first | exact Nat.le_refl _ | exact hS1.size | exact hSd.size | omega)
    have HBA := Lib.hid (show BoxG y3 y1.heap.size v from hbk)
    clear hgk hbk hzk
    refine hKq.out _ _ hS3 (fun hHeld0 => ?_)
    clear hKq Kq hHeld
    have hHeld := hHeld0
    clear hHeld0
    try simp only [PT]
    refine tk 21 (.slice A7 n7 c7) hHeld (fun w => ?_) ?_
    · go_simp
    simp only [PT]
    refine wpAnyH_done (by kernel_rfl) ?_ _
    clear hHeld
    obtain ⟨W8, hW8⟩ : ∃ W, y3 = W := ⟨_, rfl⟩
    obtain ⟨ba, hba⟩ : ∃ b : Nat, y1.heap.size = b := ⟨_, rfl⟩
    have HS8 := Lib.hid hS3
    rw [hW8] at HS8 HBA ⊢
    rw [hba] at HBA ⊢
    clear hW8 hba
    have HX8 := Lib.hid (HX5.out.trans (HS8.out.mono HX5.out.size))
    have HVA := Lib.hid (show ∀ X, Below W8.heap.size W8 X → BoxG X ba v from fun X hX => HBA.out.below hX)
    obtain ⟨d0, d1, d2, d3, d4, d5, d6, d7, d8, d9⟩ := HBA.out.cells
    go_wp2_with (first
      | (go_at_call 12
         (with_reducible refine (HR2.out _ HX8.out).mono ?_)
         rintro e w9 ⟨A9, n9, c9, r9, rfl, hl9, hr9, hbx⟩
         have HX9 := Lib.hid (HX8.out.trans (hbx.mono HX8.out.size))
         have HS9 := Lib.hid (HS8.out.trans (hbx.mono HS8.out.size))
         have HA9 := Lib.hid hbx
         obtain rfl : n9 = K := by rw [← hl9.len, ← List.length_map (f := Rw.l), hr9]; exact HLB.out
         obtain ⟨W10, hW10⟩ : ∃ W10, w9.alloc (.cells #[.int .i64 v.pl, .int .i64 v.st, .int .i64 v.nx, .int .i64 v.ph, .int .i64 v.t, .int .i64 v.hd, .int .i64 v.hl, .int .i64 v.ak, .int .i64 v.wt, .bool v.sp] 24) = W10 := ⟨_, rfl⟩
         have hb10 := one_alloc w9 (.cells #[.int .i64 v.pl, .int .i64 v.st, .int .i64 v.nx, .int .i64 v.ph, .int .i64 v.t, .int .i64 v.hd, .int .i64 v.hl, .int .i64 v.ak, .int .i64 v.wt, .bool v.sp] 24)
         have hbg := BoxG.new w9 v
         rw [hW10] at hb10 hbg
         have HW10 := Lib.hid hW10
         have HX10 := Lib.hid (HX9.out.trans (hb10.mono HX9.out.size))
         have HS10 := Lib.hid (HS9.out.trans (hb10.mono HS9.out.size))
         have ca := (HVA.out W10 (HA9.out.trans (hb10.mono HA9.out.size))).cells
         have cb := hbg.cells
         have cp := (HPX.out W10 HS10.out)
         have HL10 := Lib.hid (hl9.below hb10)
         have HQ9 := Lib.hid hr9
         have HCA := Lib.hid ca
         have HCB := Lib.hid cb
         rw [← hW10] at ca cp
         obtain ⟨e0, e1, e2, e3, e4, e5, e6, e7, e8, e9⟩ := ca
         obtain ⟨p1, p2, p3⟩ := cp
         clear hbx hl9 hr9 hb10 hbg hW10 cb
         try simp only [sgV]))
    rw [HW10.out]
    clear d0 d1 d2 d3 d4 d5 d6 d7 d8 d9 e0 e1 e2 e3 e4 e5 e6 e7 e8 e9 p1 p2 p3
    go_loop [14, 15] (fun i _ => ∃ j : Nat, j ≤ n9 ∧ i = .int .i64 j) (fun i _ => n9 - (intOf i).toNat)
    case atStart => exact ⟨0, by omega, rfl⟩
    case round =>
      obtain ⟨j, hj, rfl⟩ := hrel
      by_cases hlt : j < n9
      · have hlt2 : (j : Int) < (n9 : Int) := by omega
        have hj0 : 0 ≤ (j : Int) := by omega
        obtain ⟨rb', ro, y, rfl, hy, hym, -, hiy, hz⟩ := HL10.out.at_ j hlt
        have hyl := hiy.len
        have hmy : y.l ∈ rb := by rw [← HQ9.out]; exact List.mem_map_of_mem hym
        obtain ⟨hy10, hy0⟩ := HNB.out _ hmy
        clear hy hym hmy
        go_wp2
        go_loop [15] (fun k => ∃ m : Nat, m ≤ y.n ∧ k = .int .i64 m) (fun k => y.n - (intOf k).toNat)
        case atStart => exact ⟨0, by omega, rfl⟩
        case round =>
          obtain ⟨m, hm, rfl⟩ := hrel
          by_cases hql : m < y.n
          · have hql2 : (m : Int) < y.n := by omega
            have hq0 : 0 ≤ (m : Int) := by omega
            obtain ⟨xb, xo, hA, hc⟩ := hiy.at_ (by omega)
            have hcq := hc m hql
            rw [hy0] at hcq
            rw [hA] at hz
            clear hc
            go_wp2
            go_round
            case rel => exact ⟨m + 1, by omega, by go_num⟩
            case measure => simp [intOf]; omega
          · obtain rfl : m = y.n := by omega
            have hge : ¬ ((y.n : Int) < y.n) := by omega
            go_wp2
            go_round
            case rel => exact ⟨j + 1, by omega, by go_num⟩
            case measure => simp [intOf]; omega
      · obtain rfl : j = n9 := by omega
        have hge : ¬ ((j : Int) < (j : Int)) := by omega
        obtain ⟨e0, e1, e2, e3, e4, e5, e6, e7, e8, e9⟩ := HCA.out
        obtain ⟨f0, f1, f2, f3, f4, f5, f6, f7, f8, f9⟩ := HCB.out
        go_wp2_with (first
          | ((with_reducible refine wpList_eq_sig _ _ rfl v v ?hx ?hy ?_ ?hw); (case hx => rfl); (case hy => rfl); (case hw => rfl)
             rw [show decide (v = v) = true from decide_eq_true rfl]))
        go_ret
        exact ⟨rfl, HB0.out.trans (HX10.out.mono HB0.out.size)⟩
  · go_simp
    obtain ⟨y1, hYn⟩ : ∃ Y, y0.alloc (.cells #[.int .i64 0, .int .i64 0, .int .i64 0, .int .i64 0, .int .i64 0, .int .i64 0, .int .i64 0, .int .i64 0, .int .i64 0, .bool false] 24) = Y := ⟨_, rfl⟩
    have hbx : Below y0.heap.size y0 y1 := by rw [← hYn]; exact one_alloc _ _
    have hS1 : Below W5.heap.size W5 y1 := hSd.trans (hbx.mono hSd.size)
    have HBK := Lib.hid (show BoxG y1 y0.heap.size ⟨0, 0, 0, 0, 0, 0, 0, 0, 0, false⟩ from by rw [← hYn]; exact BoxG.new y0 ⟨0, 0, 0, 0, 0, 0, 0, 0, 0, false⟩)
    rw [hYn]
    clear hYn
    clear hbx
    refine hKq.out _ _ hS1 (fun hHeld0 => ?_)
    clear hKq Kq hHeld
    have hHeld := hHeld0
    clear hHeld0
    try simp only [PT]
    refine one_step 15 (by kernel_rfl) rfl (fun Kq hKq => ?_)
    go_simp
    go_at_call 12
    (with_reducible refine (HR1.out _ (HX5.out.trans (hS1.mono HX5.out.size))).mono ?_)
    rintro e y2 ⟨A7, n7, c7, r7, rfl, hl7, hr7, hbx⟩
    clear hl7 hr7
    have hS2 : Below W5.heap.size W5 y2 := hS1.trans (hbx.mono hS1.size)
    have HBK := Lib.hid (HBK.out.below hbx)
    clear hbx
    refine hKq.out _ _ hS2 (fun hHeld0 => ?_)
    clear hKq Kq hHeld
    have hHeld := hHeld0
    clear hHeld0
    try simp only [PT]
    refine tk 16 (.tuple #[.agg #[.int .i64 v.pl, .int .i64 v.st, .int .i64 v.nx, .int .i64 v.ph, .int .i64 v.t, .int .i64 v.hd, .int .i64 v.hl, .int .i64 v.ak, .int .i64 v.wt, .bool v.sp], .slice A7 n7 c7]) hHeld (fun w => ?_) ?_
    · (go_simp; try rfl)
    simp only [PT]
    refine tk 17 (.agg #[.int .i64 v.pl, .int .i64 v.st, .int .i64 v.nx, .int .i64 v.ph, .int .i64 v.t, .int .i64 v.hd, .int .i64 v.hl, .int .i64 v.ak, .int .i64 v.wt, .bool v.sp]) hHeld (fun w => ?_) ?_
    · (go_simp; try rfl)
    simp only [PT]
    refine tk 18 (.slice A7 n7 c7) hHeld (fun w => ?_) ?_
    · go_simp
    simp only [PT]
    refine one_step 20 (by kernel_rfl) rfl (fun Kq hKq => ?_)
    refine step_store_part 24 _ _ rfl y0.heap.size 0 (.agg #[.int .i64 v.pl, .int .i64 v.st, .int .i64 v.nx, .int .i64 v.ph, .int .i64 v.t, .int .i64 v.hd, .int .i64 v.hl, .int .i64 v.ak, .int .i64 v.wt, .bool v.sp]) #[.int .i64 v.pl, .int .i64 v.st, .int .i64 v.nx, .int .i64 v.ph, .int .i64 v.t, .int .i64 v.hd, .int .i64 v.hl, .int .i64 v.ak, .int .i64 v.wt, .bool v.sp] rfl rfl rfl 24 #[.int .i64 0, .int .i64 0, .int .i64 0, .int .i64 0, .int .i64 0, .int .i64 0, .int .i64 0, .int .i64 0, .int .i64 0, .bool false] #[.int .i64 v.pl, .int .i64 v.st, .int .i64 v.nx, .int .i64 v.ph, .int .i64 v.t, .int .i64 v.hd, .int .i64 v.hl, .int .i64 v.ak, .int .i64 v.wt, .bool v.sp] HBK.out info_sig (by simp) (one_sig _ _ _ _ _ _ _ _ _ _) rfl rfl ?_
    intro y3 hgk hbk hzk
    have hS3 : Below W5.heap.size W5 y3 := Below.grows hS2 hgk hS2.size (by first | exact Nat.le_refl _ | exact hS1.size | exact hSd.size | omega)
    have HBA := Lib.hid (show BoxG y3 y0.heap.size v from hbk)
    clear hgk hbk hzk
    refine hKq.out _ _ hS3 (fun hHeld0 => ?_)
    clear hKq Kq hHeld
    have hHeld := hHeld0
    clear hHeld0
    try simp only [PT]
    refine tk 21 (.slice A7 n7 c7) hHeld (fun w => ?_) ?_
    · go_simp
    simp only [PT]
    refine wpAnyH_done (by kernel_rfl) ?_ _
    clear hHeld
    obtain ⟨W8, hW8⟩ : ∃ W, y3 = W := ⟨_, rfl⟩
    obtain ⟨ba, hba⟩ : ∃ b : Nat, y0.heap.size = b := ⟨_, rfl⟩
    have HS8 := Lib.hid hS3
    rw [hW8] at HS8 HBA ⊢
    rw [hba] at HBA ⊢
    clear hW8 hba
    have HX8 := Lib.hid (HX5.out.trans (HS8.out.mono HX5.out.size))
    have HVA := Lib.hid (show ∀ X, Below W8.heap.size W8 X → BoxG X ba v from fun X hX => HBA.out.below hX)
    obtain ⟨d0, d1, d2, d3, d4, d5, d6, d7, d8, d9⟩ := HBA.out.cells
    go_wp2_with (first
      | (go_at_call 12
         (with_reducible refine (HR2.out _ HX8.out).mono ?_)
         rintro e w9 ⟨A9, n9, c9, r9, rfl, hl9, hr9, hbx⟩
         have HX9 := Lib.hid (HX8.out.trans (hbx.mono HX8.out.size))
         have HS9 := Lib.hid (HS8.out.trans (hbx.mono HS8.out.size))
         have HA9 := Lib.hid hbx
         obtain rfl : n9 = K := by rw [← hl9.len, ← List.length_map (f := Rw.l), hr9]; exact HLB.out
         obtain ⟨W10, hW10⟩ : ∃ W10, w9.alloc (.cells #[.int .i64 v.pl, .int .i64 v.st, .int .i64 v.nx, .int .i64 v.ph, .int .i64 v.t, .int .i64 v.hd, .int .i64 v.hl, .int .i64 v.ak, .int .i64 v.wt, .bool v.sp] 24) = W10 := ⟨_, rfl⟩
         have hb10 := one_alloc w9 (.cells #[.int .i64 v.pl, .int .i64 v.st, .int .i64 v.nx, .int .i64 v.ph, .int .i64 v.t, .int .i64 v.hd, .int .i64 v.hl, .int .i64 v.ak, .int .i64 v.wt, .bool v.sp] 24)
         have hbg := BoxG.new w9 v
         rw [hW10] at hb10 hbg
         have HW10 := Lib.hid hW10
         have HX10 := Lib.hid (HX9.out.trans (hb10.mono HX9.out.size))
         have HS10 := Lib.hid (HS9.out.trans (hb10.mono HS9.out.size))
         have ca := (HVA.out W10 (HA9.out.trans (hb10.mono HA9.out.size))).cells
         have cb := hbg.cells
         have cp := (HPX.out W10 HS10.out)
         have HL10 := Lib.hid (hl9.below hb10)
         have HQ9 := Lib.hid hr9
         have HCA := Lib.hid ca
         have HCB := Lib.hid cb
         rw [← hW10] at ca cp
         obtain ⟨e0, e1, e2, e3, e4, e5, e6, e7, e8, e9⟩ := ca
         obtain ⟨p1, p2, p3⟩ := cp
         clear hbx hl9 hr9 hb10 hbg hW10 cb
         try simp only [sgV]))
    rw [HW10.out]
    clear d0 d1 d2 d3 d4 d5 d6 d7 d8 d9 e0 e1 e2 e3 e4 e5 e6 e7 e8 e9 p1 p2 p3
    go_loop [14, 15] (fun i _ => ∃ j : Nat, j ≤ n9 ∧ i = .int .i64 j) (fun i _ => n9 - (intOf i).toNat)
    case atStart => exact ⟨0, by omega, rfl⟩
    case round =>
      obtain ⟨j, hj, rfl⟩ := hrel
      by_cases hlt : j < n9
      · have hlt2 : (j : Int) < (n9 : Int) := by omega
        have hj0 : 0 ≤ (j : Int) := by omega
        obtain ⟨rb', ro, y, rfl, hy, hym, -, hiy, hz⟩ := HL10.out.at_ j hlt
        have hyl := hiy.len
        have hmy : y.l ∈ rb := by rw [← HQ9.out]; exact List.mem_map_of_mem hym
        obtain ⟨hy10, hy0⟩ := HNB.out _ hmy
        clear hy hym hmy
        go_wp2
        go_loop [15] (fun k => ∃ m : Nat, m ≤ y.n ∧ k = .int .i64 m) (fun k => y.n - (intOf k).toNat)
        case atStart => exact ⟨0, by omega, rfl⟩
        case round =>
          obtain ⟨m, hm, rfl⟩ := hrel
          by_cases hql : m < y.n
          · have hql2 : (m : Int) < y.n := by omega
            have hq0 : 0 ≤ (m : Int) := by omega
            obtain ⟨xb, xo, hA, hc⟩ := hiy.at_ (by omega)
            have hcq := hc m hql
            rw [hy0] at hcq
            rw [hA] at hz
            clear hc
            go_wp2
            go_round
            case rel => exact ⟨m + 1, by omega, by go_num⟩
            case measure => simp [intOf]; omega
          · obtain rfl : m = y.n := by omega
            have hge : ¬ ((y.n : Int) < y.n) := by omega
            go_wp2
            go_round
            case rel => exact ⟨j + 1, by omega, by go_num⟩
            case measure => simp [intOf]; omega
      · obtain rfl : j = n9 := by omega
        have hge : ¬ ((j : Int) < (j : Int)) := by omega
        obtain ⟨e0, e1, e2, e3, e4, e5, e6, e7, e8, e9⟩ := HCA.out
        obtain ⟨f0, f1, f2, f3, f4, f5, f6, f7, f8, f9⟩ := HCB.out
        go_wp2_with (first
          | ((with_reducible refine wpList_eq_sig _ _ rfl v v ?hx ?hy ?_ ?hw); (case hx => rfl); (case hy => rfl); (case hw => rfl)
             rw [show decide (v = v) = true from decide_eq_true rfl]))
        go_ret
        exact ⟨rfl, HB0.out.trans (HX10.out.mono HB0.out.size)⟩
end Go.Proofs.Ytcgakgbnhlmcaaa


/- The laws' arguments, opened: a slice of numbers. -/
namespace Go.Proofs.Ytcgakgbnhlmcaaa
open Go.ChangeShapes Go.WideShapes Go.ChangeAt Go.RowKit

theorem own : ownKnob Try.prog.godebug = none := by kernel_rfl
theorem cellsInt : Try.prog.cellsOf 3 = 1 := by kernel_rfl
theorem laidOut : laidOutB Try.prog = true := by kernel_rfl

theorem one_of_take3 {l : List Value} {i : Nat} {v : Value} (h : (l.drop i).take 1 = [v]) : l[i]? = some v := by
  have h1 : ((l.drop i).take 1)[0]? = some v := by rw [h]; rfl
  rw [List.getElem?_take, if_pos (by omega), List.getElem?_drop, Nat.add_zero] at h1
  exact h1
section
variable {H : Type} {enc : TypeId × Value → H} {W : World} {base : Nat} {spare : Nat → Bool} {held : Bool}
/-- a slice of numbers of kind K: t the slice's type, e the element's -/
theorem open_its {t e : TypeId} {K : IntKind} {fuel : Nat} {cs : List Value} {x : DataW H × List MemPlace} (ht : Try.prog.underlying t = some (.slice e)) (he : Try.prog.underlying e = some (.int K)) (hc : Try.prog.cellsOf e = 1)
    (h : DataW.trod enc Try.prog W base spare held fuel t cs = some x) : ∃ (A : Option Addr) (n c : Nat) (l : List Int), cs = [.slice A n c] ∧ Its K W A n c l ∧ ∀ y ∈ l, (Lit.int K y).wf = true := by
  rcases open_ints ht he hc h with ⟨hcs, _⟩ | ⟨a, len, cap, zs, hcs, _, hl, hm, hz, _, hcell, hwz⟩
  · exact ⟨none, 0, 0, [], hcs, Its.nil K W, fun y hy => by cases hy⟩
  · have hlen : len ≤ zs.length := by rw [hz]; split <;> omega
    refine ⟨some a, len, cap, zs.take len, hcs, ⟨by rw [List.length_take]; omega, hl, hm, (fun e => by cases e), ?_⟩, fun y hy => hwz y (List.mem_of_mem_take hy)⟩
    intro hn
    obtain ⟨b, off, rfl, hc⟩ := ints_at hcell (by omega)
    refine ⟨b, off, rfl, fun j hj => ?_⟩
    rw [hc j (by omega)]
    simp [List.getD_eq_getElem?_getD, hj]
end
end Go.Proofs.Ytcgakgbnhlmcaaa


/- The laws' arguments, opened: a plan, a slice of plans. -/
namespace Go.Proofs.Ytcgakgbnhlmcaaa
set_option maxRecDepth 100000
set_option linter.unusedVariables false
set_option linter.unusedSimpArgs false
open Go.ChangeShapes Go.WideShapes Go.ChangeAt Go.RowKit

theorem cellsStage : Try.prog.cellsOf 43 = 3 := by kernel_rfl
theorem cellsPlan : Try.prog.cellsOf 39 = 5 := by kernel_rfl
theorem cellsIntsS : Try.prog.cellsOf 32 = 1 := by kernel_rfl
theorem cellsStagesS : Try.prog.cellsOf 37 = 1 := by kernel_rfl
theorem add_two5 (b o m i : Nat) : (((⟨b, o, none⟩ : Addr).add m).add i) = ⟨b, o + m + i, none⟩ := by rw [Addr.add_mid, Addr.add_mid]
theorem stg_one (x : Stg) : ∀ u ∈ x.row, u.oneCell' = true := by
  intro u hu
  simp only [Stg.row, List.mem_cons, List.not_mem_nil, or_false] at hu
  rcases hu with rfl | rfl | rfl <;> rfl
theorem pl_one (p : Pl) : ∀ u ∈ p.row, u.oneCell' = true := by
  intro u hu
  simp only [Pl.row, List.mem_cons, List.not_mem_nil, or_false] at hu
  rcases hu with rfl | rfl | rfl | rfl | rfl <;> rfl
section
variable {H : Type} {enc : TypeId × Value → H} {W : World} {base : Nat} {spare : Nat → Bool} {held : Bool}
theorem stage_cells (fuel : Nat) (cs : List Value) (x : DataW H × List MemPlace) (hl : cs.length = 3) (h : DataW.trod enc Try.prog W base spare held fuel 43 cs = some x) : ∃ u : Stg, cs = u.row := by
  obtain ⟨xs, n, rfl, hx, _, hlen, hg⟩ := DataW.trod_struct Try.underlying43 h
  match xs, hlen with
  | [y0, y1, y2], _ =>
    have g0 : DataW.trod enc Try.prog W base spare held n 3 ((cs.drop 0).take (Try.prog.cellsOf 3)) = some y0 := hg 0 _ rfl
    have g1 : DataW.trod enc Try.prog W base spare held n 3 ((cs.drop 1).take (Try.prog.cellsOf 3)) = some y1 := hg 1 _ rfl
    have g2 : DataW.trod enc Try.prog W base spare held n 3 ((cs.drop 2).take (Try.prog.cellsOf 3)) = some y2 := hg 2 _ rfl
    rw [cellsInt] at g0 g1 g2
    obtain ⟨k0, e0, _, w0⟩ := DataW.trod_int Try.underlying3 (x := y0) g0
    obtain ⟨k1, e1, _, w1⟩ := DataW.trod_int Try.underlying3 (x := y1) g1
    obtain ⟨k2, e2, _, w2⟩ := DataW.trod_int Try.underlying3 (x := y2) g2
    have q0 := one_of_take3 e0
    have q1 := one_of_take3 e1
    have q2 := one_of_take3 e2
    refine ⟨⟨k0, k1, k2⟩, ?_⟩
    match cs, hl with
    | [u0, u1, u2], _ =>
      simp only [List.getElem?_cons_zero, List.getElem?_cons_succ, Option.some.injEq] at q0 q1 q2
      rw [q0, q1, q2]
      rfl
theorem open_stgs {fuel : Nat} {cs : List Value} {x : DataW H × List MemPlace} (h : DataW.trod enc Try.prog W base spare held fuel 37 cs = some x) : ∃ (A : Option Addr) (n c : Nat) (l : List Stg), cs = [.slice A n c] ∧ Sts W A n c l := by
  rcases Go.Deep.open_slice Try.underlying37 h with ⟨hcs, _⟩ | ⟨a, len, cap, m, n', D, Pl, hcs, _, hl, hm, hz, _, hx⟩
  · exact ⟨none, 0, 0, [], hcs, Rws.nil 3 W⟩
  · have hlm : len ≤ m := by rw [hz]; split <;> omega
    have each : ∀ i, i < len → ∃ u : Stg, ∀ j, j < 3 → W.cell? ((a.add (i * 3)).add j) = u.row[j]? := by
      intro i hi
      obtain ⟨cs', h1, h2⟩ := hx i (by omega)
      rw [cellsStage] at h1
      obtain ⟨_, h3, h4⟩ := World.cells?_some h1
      obtain ⟨u, rfl⟩ := stage_cells n' cs' _ h3 h2
      exact ⟨u, h4⟩
    haveI : Inhabited Stg := ⟨Stg.zero⟩
    obtain ⟨q, hq⟩ := Go.Deep.choose_lt each
    refine ⟨some a, len, cap, (List.range len).map q, hcs, ⟨by simp, ?_, ?_, hl, hm, (fun e => by cases e), ?_⟩⟩
    · intro r hr
      obtain ⟨u, _, rfl⟩ := List.mem_map.1 hr
      rfl
    · intro r hr v hv
      obtain ⟨u, _, rfl⟩ := List.mem_map.1 hr
      exact stg_one u v hv
    · intro hn
      obtain ⟨ab, ao, am⟩ := a
      have h0 := hq 0 hn 0 (by omega)
      have ham : am = none := by
        have h1 : (q 0).row[0]? = some (.int .i64 (q 0).g) := rfl
        rw [h1] at h0
        simpa [Addr.add] using World.cell?_spot h0
      subst ham
      refine ⟨ab, ao, rfl, fun j hj i hi => ?_⟩
      have h1 := hq j hj i hi
      rw [add_two5] at h1
      rw [h1]
      have hl3 : i < (q j).row.length := hi
      simp [List.getD_eq_getElem?_getD, List.getElem?_range hj, hl3]
theorem plan_cells (fuel : Nat) (cs : List Value) (x : DataW H × List MemPlace) (hl : cs.length = 5) (h : DataW.trod enc Try.prog W base spare held fuel 39 cs = some x) : ∃ p : Pl, cs = p.row ∧ PlIn W p := by
  obtain ⟨xs, n, rfl, hx, _, hlen, hg⟩ := DataW.trod_struct Try.underlying39 h
  match xs, hlen with
  | [y0, y1, y2, y3, y4], _ =>
    have g0 : DataW.trod enc Try.prog W base spare held n 32 ((cs.drop 0).take (Try.prog.cellsOf 32)) = some y0 := hg 0 _ rfl
    have g1 : DataW.trod enc Try.prog W base spare held n 37 ((cs.drop 1).take (Try.prog.cellsOf 37)) = some y1 := hg 1 _ rfl
    have g2 : DataW.trod enc Try.prog W base spare held n 3 ((cs.drop 2).take (Try.prog.cellsOf 3)) = some y2 := hg 2 _ rfl
    have g3 : DataW.trod enc Try.prog W base spare held n 3 ((cs.drop 3).take (Try.prog.cellsOf 3)) = some y3 := hg 3 _ rfl
    have g4 : DataW.trod enc Try.prog W base spare held n 3 ((cs.drop 4).take (Try.prog.cellsOf 3)) = some y4 := hg 4 _ rfl
    rw [cellsIntsS] at g0
    rw [cellsStagesS] at g1
    rw [cellsInt] at g2 g3 g4
    obtain ⟨A, n0, c0, m, e0, hm, -⟩ := open_its Try.underlying32 Try.underlying3 cellsInt (x := y0) g0
    obtain ⟨B, k0, d0, s, e1, hs⟩ := open_stgs (x := y1) g1
    obtain ⟨am, e2, _, w2⟩ := DataW.trod_int Try.underlying3 (x := y2) g2
    obtain ⟨rd, e3, _, w3⟩ := DataW.trod_int Try.underlying3 (x := y3) g3
    obtain ⟨hd, e4, _, w4⟩ := DataW.trod_int Try.underlying3 (x := y4) g4
    have q0 := one_of_take3 e0
    have q1 := one_of_take3 e1
    have q2 := one_of_take3 e2
    have q3 := one_of_take3 e3
    have q4 := one_of_take3 e4
    refine ⟨⟨A, n0, c0, m, B, k0, d0, s, am, rd, hd⟩, ?_, hm, hs⟩
    match cs, hl with
    | [u0, u1, u2, u3, u4], _ =>
      simp only [List.getElem?_cons_zero, List.getElem?_cons_succ, Option.some.injEq] at q0 q1 q2 q3 q4
      rw [q0, q1, q2, q3, q4]
      rfl
/-- an argument that is a slice of plans -/
theorem open_plans {v : Value} {r : Reach} {b0 : Nat} {d : DataW H} {p : List MemPlace} (hv : Value.okWide Try.prog W r b0 22 v) (h : DataW.Trod enc Try.prog W base spare held 22 v d p) :
    ∃ (A : Option Addr) (n c : Nat) (l : List Pl), v = .slice A n c ∧ Pls W A n c l := by
  obtain ⟨A, n, c, rfl⟩ := okWide_slice Try.underlying22 hv
  obtain ⟨fuel, hf⟩ := h
  rcases Go.Deep.open_slice Try.underlying22 hf with ⟨hcs, _⟩ | ⟨a, len, cap, m, n', D, Q, hcs, _, hl, hm, hz, _, hx⟩
  · simp only [Value.cells, List.cons.injEq, Value.slice.injEq, and_true] at hcs
    obtain ⟨rfl, rfl, rfl⟩ := hcs
    exact ⟨none, 0, 0, [], rfl, Pls.nil W⟩
  · simp only [Value.cells, List.cons.injEq, Value.slice.injEq, and_true] at hcs
    obtain ⟨rfl, rfl, rfl⟩ := hcs
    have hlm : n ≤ m := by rw [hz]; split <;> omega
    have each : ∀ i, i < n → ∃ u : Pl, (∀ j, j < 5 → W.cell? ((a.add (i * 5)).add j) = u.row[j]?) ∧ PlIn W u := by
      intro i hi
      obtain ⟨cs', h1, h2⟩ := hx i (by omega)
      rw [cellsPlan] at h1
      obtain ⟨_, h3, h4⟩ := World.cells?_some h1
      obtain ⟨u, rfl, hb⟩ := plan_cells n' cs' _ h3 h2
      exact ⟨u, h4, hb⟩
    haveI : Inhabited Pl := ⟨Pl.zero⟩
    obtain ⟨q, hq⟩ := Go.Deep.choose_lt each
    refine ⟨some a, n, c, (List.range n).map q, rfl, ⟨by simp, ?_, ?_, hl, hm, (fun e => by cases e), ?_⟩, ?_⟩
    · intro r hr
      obtain ⟨u, _, rfl⟩ := List.mem_map.1 hr
      rfl
    · intro r hr v hv
      obtain ⟨u, _, rfl⟩ := List.mem_map.1 hr
      exact pl_one u v hv
    · intro hn
      obtain ⟨ab, ao, am⟩ := a
      have h0 := (hq 0 hn).1 0 (by omega)
      have ham : am = none := by
        have h1 : (q 0).row[0]? = some (.slice (q 0).A (q 0).n (q 0).c) := rfl
        rw [h1] at h0
        simpa [Addr.add] using World.cell?_spot h0
      subst ham
      refine ⟨ab, ao, rfl, fun j hj i hi => ?_⟩
      have h1 := (hq j hj).1 i hi
      rw [add_two5] at h1
      rw [h1]
      have hl3 : i < (q j).row.length := hi
      simp [List.getD_eq_getElem?_getD, List.getElem?_range hj, hl3]
    · intro u hu
      obtain ⟨i, hi, rfl⟩ := List.mem_map.1 hu
      exact (hq i (List.mem_range.1 hi)).2
end
end Go.Proofs.Ytcgakgbnhlmcaaa


/- The laws' arguments, opened: a machine. -/
namespace Go.Proofs.Ytcgakgbnhlmcaaa
set_option maxRecDepth 100000
set_option linter.unusedVariables false
set_option linter.unusedSimpArgs false
open Go.ChangeShapes Go.WideShapes Go.ChangeAt Go.RowKit

theorem cellsSig : Try.prog.cellsOf 24 = 10 := by kernel_rfl
theorem cellsBoolS : Try.prog.cellsOf 4 = 1 := by kernel_rfl
section
variable {H : Type} {enc : TypeId × Value → H} {W : World} {base : Nat} {spare : Nat → Bool} {held : Bool}
theorem sig_cells (fuel : Nat) (cs : List Value) (x : DataW H × List MemPlace) (hl : cs.length = 10) (h : DataW.trod enc Try.prog W base spare held fuel 24 cs = some x) : ∃ s : Sg, cs = s.arr.toList ∧ SmG s := by
  obtain ⟨xs, n, rfl, hx, _, hlen, hg⟩ := DataW.trod_struct Try.underlying24 h
  match xs, hlen with
  | [y0, y1, y2, y3, y4, y5, y6, y7, y8, y9], _ =>
    have g0 : DataW.trod enc Try.prog W base spare held n 3 ((cs.drop 0).take (Try.prog.cellsOf 3)) = some y0 := hg 0 _ rfl
    have g1 : DataW.trod enc Try.prog W base spare held n 3 ((cs.drop 1).take (Try.prog.cellsOf 3)) = some y1 := hg 1 _ rfl
    have g2 : DataW.trod enc Try.prog W base spare held n 3 ((cs.drop 2).take (Try.prog.cellsOf 3)) = some y2 := hg 2 _ rfl
    have g3 : DataW.trod enc Try.prog W base spare held n 3 ((cs.drop 3).take (Try.prog.cellsOf 3)) = some y3 := hg 3 _ rfl
    have g4 : DataW.trod enc Try.prog W base spare held n 3 ((cs.drop 4).take (Try.prog.cellsOf 3)) = some y4 := hg 4 _ rfl
    have g5 : DataW.trod enc Try.prog W base spare held n 3 ((cs.drop 5).take (Try.prog.cellsOf 3)) = some y5 := hg 5 _ rfl
    have g6 : DataW.trod enc Try.prog W base spare held n 3 ((cs.drop 6).take (Try.prog.cellsOf 3)) = some y6 := hg 6 _ rfl
    have g7 : DataW.trod enc Try.prog W base spare held n 3 ((cs.drop 7).take (Try.prog.cellsOf 3)) = some y7 := hg 7 _ rfl
    have g8 : DataW.trod enc Try.prog W base spare held n 3 ((cs.drop 8).take (Try.prog.cellsOf 3)) = some y8 := hg 8 _ rfl
    have g9 : DataW.trod enc Try.prog W base spare held n 4 ((cs.drop 9).take (Try.prog.cellsOf 4)) = some y9 := hg 9 _ rfl
    rw [cellsInt] at g0 g1 g2 g3 g4 g5 g6 g7 g8
    rw [cellsBoolS] at g9
    obtain ⟨k0, e0, _, w0⟩ := DataW.trod_int Try.underlying3 (x := y0) g0
    obtain ⟨k1, e1, _, w1⟩ := DataW.trod_int Try.underlying3 (x := y1) g1
    obtain ⟨k2, e2, _, w2⟩ := DataW.trod_int Try.underlying3 (x := y2) g2
    obtain ⟨k3, e3, _, w3⟩ := DataW.trod_int Try.underlying3 (x := y3) g3
    obtain ⟨k4, e4, _, w4⟩ := DataW.trod_int Try.underlying3 (x := y4) g4
    obtain ⟨k5, e5, _, w5⟩ := DataW.trod_int Try.underlying3 (x := y5) g5
    obtain ⟨k6, e6, _, w6⟩ := DataW.trod_int Try.underlying3 (x := y6) g6
    obtain ⟨k7, e7, _, w7⟩ := DataW.trod_int Try.underlying3 (x := y7) g7
    obtain ⟨k8, e8, _, w8⟩ := DataW.trod_int Try.underlying3 (x := y8) g8
    obtain ⟨k9, e9, _⟩ := DataW.trod_bool Try.underlying4 (x := y9) g9
    have q0 := one_of_take3 e0
    have q1 := one_of_take3 e1
    have q2 := one_of_take3 e2
    have q3 := one_of_take3 e3
    have q4 := one_of_take3 e4
    have q5 := one_of_take3 e5
    have q6 := one_of_take3 e6
    have q7 := one_of_take3 e7
    have q8 := one_of_take3 e8
    have q9 := one_of_take3 e9
    have b4 := bounds_i64 w4
    have b6 := bounds_i64 w6
    refine ⟨⟨k0, k1, k2, k3, k4, k5, k6, k7, k8, k9⟩, ?_, ⟨by simp only; omega, by simp only; omega⟩⟩
    match cs, hl with
    | [u0, u1, u2, u3, u4, u5, u6, u7, u8, u9], _ =>
      simp only [List.getElem?_cons_zero, List.getElem?_cons_succ, Option.some.injEq] at q0 q1 q2 q3 q4 q5 q6 q7 q8 q9
      rw [q0, q1, q2, q3, q4, q5, q6, q7, q8, q9]
      rfl
/-- an argument that is a machine -/
theorem open_sig {v : Value} {r : Reach} {b0 : Nat} {d : DataW H} {p : List MemPlace} (hv : Value.okWide Try.prog W r b0 24 v) (h : DataW.Trod enc Try.prog W base spare held 24 v d p) : ∃ s : Sg, v = sgV s ∧ SmG s := by
  obtain ⟨cs, rfl, hsz⟩ := okWide_struct Try.underlying24 hv
  obtain ⟨l⟩ := cs
  obtain ⟨fuel, hf⟩ := h
  obtain ⟨u, hu, hb⟩ := sig_cells fuel l _ (hsz.trans cellsSig) hf
  refine ⟨u, ?_, hb⟩
  rw [hu, sgV_arr]
end
end Go.Proofs.Ytcgakgbnhlmcaaa


/- slices.Equal of numbers and of stages. -/
namespace Go.Proofs.Ytcgakgbnhlmcaaa
set_option maxRecDepth 100000
set_option linter.unusedVariables false
set_option linter.unusedSimpArgs false
open Go.RowKit

end Go.Proofs.Ytcgakgbnhlmcaaa


/- A range over a function whose values are known ahead, in order; a round goes on, or leaves the function; between two rounds the iterator turns new blocks, and one of its own. -/
namespace Go.Proofs.Ytcgakgbnhlmcaaa
set_option linter.unusedVariables false
open Go.RowKit

/-- a world in which nothing has turned but the block g -/
structure But (g : Nat) (w w' : World) : Prop where
  os : w'.os = w.os
  tape : w'.tape = w.tape
  output : w'.output = w.output
  size : w.heap.size ≤ w'.heap.size
  block : ∀ b, b < w.heap.size → b ≠ g → w'.heap[b]? = w.heap[b]?
section
variable {g B : Nat} {w w1 w2 : World}
theorem But.refl (g : Nat) (w : World) : But g w w := ⟨rfl, rfl, rfl, Nat.le_refl _, fun _ _ _ => rfl⟩
theorem But.trans (h : But g w w1) (k : But g w1 w2) : But g w w2 :=
  ⟨k.os.trans h.os, k.tape.trans h.tape, k.output.trans h.output, Nat.le_trans h.size k.size, fun b hb hg => (k.block b (Nat.lt_of_lt_of_le hb h.size) hg).trans (h.block b hb hg)⟩
theorem But.of_below (h : Below w.heap.size w w1) : But g w w1 := ⟨h.os, h.tape, h.output, h.size, fun b hb _ => h.block b hb⟩
theorem But.alloc (h : But g w w1) (o : Obj) : But g w (w1.alloc o) := h.trans (But.of_below ((Below.refl _ _).alloc (Nat.le_refl _) o))
theorem But.drew (h : But g w w1) : But g w w1.drew := ⟨h.os, h.tape, h.output, h.size, h.block⟩
theorem But.set (h : But g w w1) (v : Value) : But g w (w1.setCell ⟨g, 0, none⟩ v) :=
  h.trans ⟨rfl, rfl, rfl, by simp [World.setCell], fun b _ hne => Below.heap_setCell _ _ _ _ hne⟩
theorem But.new {o : Nat} (h : But g w w1) (v : Value) (a : Addr) (ha : w.heap.size ≤ a.block) : But g w (w1.setCell a v) :=
  ⟨h.os, h.tape, h.output, by simpa [World.setCell] using h.size, fun b hb hne => (Below.heap_setCell _ _ _ _ (by omega)).trans (h.block b hb hne)⟩
theorem But.below (h : But g w w1) (hB : B ≤ g) (hw : B ≤ w.heap.size) : Below B w w1 := ⟨h.os, h.tape, h.output, h.size, fun b hb => h.block b (by omega) (by omega)⟩
end

theorem block_ne {w : World} {b l : Nat} {o o2 : Obj} (hb : w.heap[b]? = some o2) (hc : o2.isCells = true) (hl : w.heap[l]? = some o) (hn : o.isCells = false) : b ≠ l := by
  rintro rfl
  rw [hb] at hl
  cases hl
  rw [hc] at hn
  cases hn
theorem own_set {K : IntKind} {e : TypeId} {w : World} {base b : Nat} {u x : Value} {l : List Int} (h : OwnI K e w base u l) (hb : b < base) : OwnI K e (w.setCell ⟨b, 0, none⟩ x) base u l := by
  refine h.far (grownBy_setCell' w b x) ?_
  cases hu : u.ownBlock with
  | none => exact .inl rfl
  | some g => exact .inr fun e => by injection e with e; have := (h.size g hu).1; omega
theorem others_grown {K : IntKind} {e : TypeId} {w w' : World} {base : Nat} {v : Value} {b : List Int} (h : OwnI K e w base v b) (hg : w.grownBy w' v.ownBlock) : KeepsOthers w w' := by
  refine ⟨hg.size, fun i o hi ho => (hg.block i (Array.getElem?_eq_some_iff.1 hi).1 ?_).trans hi⟩
  rcases h.2 with ⟨hv, _⟩ | ⟨g, cap, cur, hv, _, hh, _⟩
  · rw [hv]; simp [Value.ownBlock]
  · rw [hv]
    intro e
    injection e with e
    exact block_ne hh rfl hi ho e.symm
end Go.Proofs.Ytcgakgbnhlmcaaa


/- A range over a function whose values are known ahead, in order, where the iterator may itself range over another one: what it turns is no cells, and lies beyond all that lay when it was called. -/
namespace Go.Proofs.Ytcgakgbnhlmcaaa
set_option linter.unusedVariables false
open Go.RowKit

theorem yield_any {m : Nat} (m' : Nat) {P : Program} {l : Nat} {args : Array Value} {W : World} {R : Ending → World → Prop} (h : YieldAt Fence.wide m P l args W R) : YieldAt Fence.wide m' P l args W R := by
  obtain ⟨fn, tmps, assign, body, hy, hR⟩ := h
  exact ⟨fn, tmps, assign, body, hy, hR.1, fun c cs _ => hR.2 c cs (room_wide _)⟩
theorem keepsFrom_lift {B B' : Nat} {W W' : World} (h : KeepsFrom B W W') (hB : B ≤ B') : KeepsFrom B' W W' := ⟨h.size, fun k o hk => h.same k o (by omega)⟩
theorem keepsFrom_put {B l : Nat} {W : World} (o : Obj) (h : l < B) : KeepsFrom B W (W.putObj l o) := KeepsFrom.of_grownBy (grownBy_putObj' W l o) (fun j e => by injection e with e; omega)
/-- what lies below n stays as it lay, and so do the blocks bs -/
def KeepB (n : Nat) (bs : List Nat) (X Y : World) : Prop := Below n X Y ∧ ∀ b ∈ bs, ∀ o : Obj, X.heap[b]? = some o → Y.heap[b]? = some o
theorem KeepB.trans {n : Nat} {bs : List Nat} {X Y Z : World} (h : KeepB n bs X Y) (k : KeepB n bs Y Z) : KeepB n bs X Z := ⟨h.1.trans k.1, fun b hb o ho => k.2 b hb o (h.2 b hb o ho)⟩
theorem KeepB.refl (n : Nat) (bs : List Nat) (X : World) : KeepB n bs X X := ⟨Below.refl _ _, fun _ _ _ h => h⟩
theorem KeepB.alloc (n : Nat) (bs : List Nat) (X : World) (o : Obj) (hn : n ≤ X.heap.size) : KeepB n bs X (X.alloc o) := ⟨(Below.refl _ X).alloc hn o, fun b _ o' ho => (Below.heap_alloc X o _ (Array.getElem?_eq_some_iff.1 ho).1).trans ho⟩
theorem KeepB.put {n l : Nat} {bs : List Nat} {X : World} {o : Obj} (o' : Obj) (hl : X.heap[l]? = some o) (hn : n ≤ l) (hb : ∀ b ∈ bs, b ≠ l) : KeepB n bs X (X.putObj l o') :=
  ⟨(Below.refl n X).grown (grownBy_putObj' X l o') (by have := (Array.getElem?_eq_some_iff.1 hl).1; omega) (fun k e => by cases e; omega), fun b hm o2 ho => (World.putObj_heap_other (hb b hm)).trans ho⟩
/-- an iterator that hands over vals 0, .., vals (N - 1), till it is told to stop; Kp: what a round that goes on must keep for it -/
def HandsC (P : Program) (gf : Nat) (lb : Array Value) (vals : Nat → Array Value) (N : Nat) (Kp : Nat → World → World → Prop) (w0 : World) : Prop :=
  ∀ (n l : Nat) (J : Nat → World → Prop) (Jx : World → Prop) (W : World), Below w0.heap.size w0 W → OwnFrom W.heap.size J → OwnFrom W.heap.size (fun (_ : Unit) X => Jx X) →
    (∀ k W1, k < N → J k W1 → YieldAt Fence.wide 0 P l (vals k) W1 fun e W' => (e = .returned (.bool true) ∧ J (k + 1) W' ∧ Kp W.heap.size W1 W' ∧ KeepsFrom W.heap.size W1 W') ∨ (e = .returned (.bool false) ∧ Jx W' ∧ KeepsFrom W.heap.size W1 W')) → J 0 W →
    CallsIn Fence.wide n P gf (#[.func (.yield l) #[] #[]] ++ lb) W fun e W' => (∃ v, e = .returned v) ∧ (J N W' ∨ Jx W')
/-- a round that goes on, or leaves the function -/
def GoesC (B : Nat) (Kp : World → World → Prop) (I : Nat → World → Prop) (Ix : World → Prop) (k : Nat) (W : World) : Exit → Act → World → Prop
  | .normal, _, W' => KeepsFrom B W W' ∧ Kp W W' ∧ I (k + 1) W'
  | .ret, _, W' => KeepsFrom B W W' ∧ Ix W'
  | _, _, _ => False
theorem range_c {n : Nat} {P : Program} {g : Operand} {ps : Array Tmp} {assign body : Code} {Q : Exit → Act → World → Prop} {a : Act} {w w0 : World}
    {gf : Nat} {lb : Array Value} (hg : a.eval g = .func (.func gf) #[] lb) (eg : ∀ args w, (callFunc gf args).run P w = .ok (.enter gf args) w)
    {vals : Nat → Array Value} {N : Nat} {Kp : Nat → World → World → Prop} (hseq : HandsC P gf lb vals N Kp w0) (hb0 : Below w0.heap.size w0 w) (hps : ∀ k, (vals k).size = ps.size)
    (hKt : ∀ {A B C : World}, Kp (w.heap.size + 1 + 1) A B → Kp (w.heap.size + 1 + 1) B C → Kp (w.heap.size + 1 + 1) A C) (hKb : ∀ (W : World) (o o' : Obj), W.heap[w.heap.size + 1]? = some o → o.isCells = false → o.isWalk = false → Kp (w.heap.size + 1 + 1) W (W.putObj (w.heap.size + 1) o'))
    (I : Nat → World → Prop) (hI : OwnFrom w.heap.size I) (Ix : World → Prop) (hIx : OwnFrom w.heap.size (fun (_ : Unit) X => Ix X)) (h0 : I 0 w)
    (Ax : Nat → Act → World → Prop) (hAx : ∀ k a', OwnFrom w.heap.size (fun (_ : Unit) X => Ax k a' X))
    (hassign : ∀ (l k : Nat) (W : World) (K : Act → World → Prop), k < N → w.heap.size + 1 + 1 ≤ W.heap.size → I k W → (∀ a' W', KeepsFrom w.heap.size W W' → Kp (w.heap.size + 1 + 1) W W' → I k W' → Ax k a' W' → K a' W') →
      assign.wpIn (Fence.wide.inRound l) (n - 1 - 1) P (Exit.then K (fun _ _ _ => False)) { tmps := (ps.zip (vals k)).foldl (fun t (p, v) => t.setIfInBounds p v) a.tmps, defers := [] } W)
    (hbody : ∀ (l k : Nat) (a' : Act) (W : World), k < N → w.heap.size + 1 + 1 ≤ W.heap.size → I k W → Ax k a' W → body.wpIn (Fence.wide.inRound l) (n - 1 - 1) P (GoesC w.heap.size (Kp (w.heap.size + 1 + 1)) I Ix k W) a' W)
    (hdone : ∀ (D : Nat) (W : World), w.heap.size ≤ D → I N W → W.heap[D]? = some (.deferred (some [])) → Q .normal { a with defers := { target := .collected D, args := #[] } :: a.defers } W)
    (hstop : ∀ (D : Nat) (W : World), w.heap.size ≤ D → Ix W → W.heap[D]? = some (.deferred (some [])) → Code.ret.wpIn Fence.wide n P Q { a with defers := { target := .collected D, args := #[] } :: a.defers } W) :
    (Code.rangeFunc g ps assign body).wpIn Fence.wide n P Q a w := by
  refine wpIn_rangeFunc fun fn hfn => ?_
  rw [show Fence.wide.round = none from rfl]
  obtain ⟨rec_, hrec⟩ : ∃ rec_ : LoopState → Option Code → Loop, rec_ = fun st pe => { state := st, pending := pe, fn := fn, tmps := a.tmps, params := ps, assign := assign, body := body, defers := w.heap.size } := ⟨_, rfl⟩
  obtain ⟨W1, hW1⟩ : ∃ W1, (w.alloc (.deferred (some []))).alloc (.loop (rec_ .ready none)) = W1 := ⟨_, rfl⟩
  have hL1 : W1.heap[w.heap.size + 1]? = some (.loop (rec_ .ready none)) := by rw [← hW1]; exact heap_alloc2_new w _ _
  have hD1 : W1.heap[w.heap.size]? = some (.deferred (some [])) := by rw [← hW1]; exact heap_alloc2_old w _ _
  have hz1 : W1.heap.size = w.heap.size + 1 + 1 := by rw [← hW1]; simp
  have hI1 : I 0 W1 := by rw [← hW1]; exact hI.alloc _ (hI.alloc _ h0)
  have hB1 : Below w0.heap.size w0 W1 := by rw [← hW1]; exact hb0.trans ((two_below w _ _).mono hb0.size)
  have keep : ∀ (A B : World) (row : Option Nat) (b : Nat) (o : Obj), A.grownBy B row → (∀ r, row = some r → W1.heap.size ≤ r ∧ ∃ o : Obj, A.heap[r]? = some o ∧ o.isCells = false) → b < w.heap.size + 1 + 1 → A.heap[b]? = some o → B.heap[b]? = some o := fun A B row b o hgr hr hlt ho => by
    refine (hgr.block b (Array.getElem?_eq_some_iff.1 ho).1 (fun e => ?_)).trans ho
    have := (hr b e.symm).1
    omega
  have low : ∀ (A : World) (row : Option Nat), (∀ r, row = some r → W1.heap.size ≤ r ∧ ∃ o : Obj, A.heap[r]? = some o ∧ o.isCells = false) → (∀ r, row = some r → w.heap.size ≤ r ∧ ∃ o : Obj, A.heap[r]? = some o ∧ o.isCells = false) := fun A row hr r e => ⟨by have := (hr r e).1; omega, (hr r e).2⟩
  refine ⟨w.heap.size + 1, [{ target := .collected w.heap.size, args := #[] }], W1, { target := .fn (.func gf) lb, args := #[.func (.yield (w.heap.size + 1)) #[] #[]] }, W1, gf, #[.func (.yield (w.heap.size + 1)) #[] #[]] ++ lb, W1, ?_, ?_, ?_, ?_, (fun h => by simp [Fence.wide] at h), ?_⟩
  · rw [← hW1, hrec]; exact run_enterLoop_outer _ _ _ _ _
  · simp only [resolve, hg]
    simp [go_sem]
  · intro f' hf'
    trivial
  · simp [invoke, go_sem, eg]
  rw [← hz1] at hKt hKb hassign hbody
  refine (hseq (n - 1) (w.heap.size + 1) (fun k W => I k W ∧ W.heap[w.heap.size + 1]? = some (.loop (rec_ .ready none)) ∧ W.heap[w.heap.size]? = some (.deferred (some []))) (fun W => Ix W ∧ W.heap[w.heap.size + 1]? = some (.loop (rec_ .done (some .ret))) ∧ W.heap[w.heap.size]? = some (.deferred (some []))) W1 hB1
    (fun k A B row hs hgr hr => ⟨hI k A B row hs.1 hgr (low A row hr), keep A B row _ _ hgr hr (by omega) hs.2.1, keep A B row _ _ hgr hr (by omega) hs.2.2⟩)
    (fun u A B row hs hgr hr => ⟨hIx u A B row hs.1 hgr (low A row hr), keep A B row _ _ hgr hr (by omega) hs.2.1, keep A B row _ _ hgr hr (by omega) hs.2.2⟩)
    (fun k W hk hs => ?_) ⟨hI1, hL1, hD1⟩).mono ?_
  · obtain ⟨hi, hl, hd⟩ := hs
    have hy := run_yield (P := P) (args := vals k) hl (by rw [hrec]; exact hps k)
    rw [hrec] at hy
    refine yield_any 0 (m := n - 1 - 1) ⟨fn, _, assign, body, hy, roundIn_of_wpIn hfn ?_⟩
    refine hassign _ k W _ hk (by have := (Array.getElem?_eq_some_iff.1 hl).1; omega) hi ?_
    intro a' Wa hka hkpa hia hax
    replace hl := hka.same _ _ (by omega) hl rfl
    replace hd := hka.same _ _ (Nat.le_refl _) hd rfl
    have hlt : w.heap.size + 1 < Wa.heap.size := (Array.getElem?_eq_some_iff.1 hl).1
    refine ⟨_, run_beginRound hl (by rw [hrec]), ?_⟩
    have hl2 : (Wa.putObj (w.heap.size + 1) (.loop { rec_ .ready none with state := .busy })).heap[w.heap.size + 1]? = some (.loop { rec_ .ready none with state := .busy }) := World.putObj_heap_same hlt
    have hd2 : (Wa.putObj (w.heap.size + 1) (.loop { rec_ .ready none with state := .busy })).heap[w.heap.size]? = some (.deferred (some [])) := (World.putObj_heap_other (by omega)).trans hd
    have hk2 : KeepsFrom W1.heap.size W (Wa.putObj (w.heap.size + 1) (.loop { rec_ .ready none with state := .busy })) := (keepsFrom_lift hka (by omega)).trans (keepsFrom_put _ (by omega))
    refine wpIn_mono (hbody _ k a' _ hk (by simp; omega) (hI.putObj _ hia (Nat.le_succ _) hl rfl) ((hAx k a').putObj (s := ()) _ hax (Nat.le_succ _) hl rfl)) ?_
    rintro e a3 W3 hp
    cases e with
    | normal =>
      obtain ⟨hk3, hkp3, hi3⟩ := hp
      have hl3 := hk3.same _ _ (by omega) hl2 rfl
      have hd3 := hk3.same _ _ (Nat.le_refl _) hd2 rfl
      have hr := run_endRound (P := P) none hl3
      rw [hrec] at hr hl3
      refine ⟨_, _, hr, .inl ⟨rfl, ⟨hI.putObj _ hi3 (by omega) hl3 rfl, ?_, ?_⟩, ?_, ?_⟩⟩
      · rw [hrec]; exact World.putObj_heap_same (Array.getElem?_eq_some_iff.1 hl3).1
      · exact (World.putObj_heap_other (by omega)).trans hd3
      · exact hKt hkpa (hKt (hKt (hKb _ _ _ hl rfl rfl) hkp3) (hKb _ _ _ hl3 rfl rfl))
      · exact (hk2.trans (keepsFrom_lift hk3 (by omega))).trans (keepsFrom_put _ (by omega))
    | ret =>
      obtain ⟨hk3, hi3⟩ := hp
      have hl3 := hk3.same _ _ (by omega) hl2 rfl
      have hd3 := hk3.same _ _ (Nat.le_refl _) hd2 rfl
      have hr := run_endRound (P := P) (some .ret) hl3
      rw [hrec] at hr hl3
      refine ⟨_, _, hr, .inr ⟨rfl, ⟨hIx.putObj (s := ()) _ hi3 (by omega) hl3 rfl, ?_, ?_⟩, ?_⟩⟩
      · rw [hrec]; exact World.putObj_heap_same (Array.getElem?_eq_some_iff.1 hl3).1
      · exact (World.putObj_heap_other (by omega)).trans hd3
      · exact (hk2.trans (keepsFrom_lift hk3 (by omega))).trans (keepsFrom_put _ (by omega))
    | exit id => exact hp.elim
    | goto t => exact hp.elim
    | panic ch => exact hp.elim
    | outgrown => exact hp.elim
  · rintro e W2 ⟨⟨v, rfl⟩, ⟨hi, hl, hd⟩ | ⟨hi, hl, hd⟩⟩
    · exact ⟨none, _, by have := run_endLoop (P := P) hl (by rw [hrec]; simp); rw [hrec] at this; exact this, hdone _ _ (Nat.le_refl _) (hI.putObj _ hi (by omega) hl rfl) ((World.putObj_heap_other (by omega)).trans hd)⟩
    · exact ⟨some .ret, _, by have := run_endLoop (P := P) hl (by rw [hrec]; simp); rw [hrec] at this; exact this, hstop _ _ (Nat.le_refl _) (hIx.putObj (s := ()) _ hi (by omega) hl rfl) ((World.putObj_heap_other (by omega)).trans hd)⟩
end Go.Proofs.Ytcgakgbnhlmcaaa


/- A region that draws its order, inside a fence, walked by hand; what a call that makes new memory alone leaves to an iterator's invariants. -/
namespace Go.Proofs.Ytcgakgbnhlmcaaa
set_option linter.unusedVariables false
open Go.RowKit

section
variable {F : Fence} {n : Nat} {P : Program} {l : List Oper} {Q : Exit → Act → World → Prop} {md : Region.Mode} {oi oj : Oper} {fuel : Nat} {listed : Array Bool} {a : Act} {w : World}
end
theorem boxed_below {w w' : World} {g : Nat} {t : TypeId} {v : Value} (h : Boxed w g t v) (hb : Below w.heap.size w w') : Boxed w' g t v := (hb.block g h.lt).trans h
end Go.Proofs.Ytcgakgbnhlmcaaa


/- append onto a slice of numbers of the call's own, inside a fence. -/
namespace Go.Proofs.Ytcgakgbnhlmcaaa
set_option linter.unusedVariables false
open Go.RowKit

theorem wpListIn_append_i {F : Fence} {n : Nat} {P : Program} {w : World} {ops : Array Oper} {rest : List Oper} {o : Oper} {a : Act} {Q : Exit → Act → World → Prop} (hgd : o.guard = none) (t e : TypeId) (K : IntKind) (B : Nat) (s x : Operand)
    (ho : o.op = Op.call { callee := Callee.builtin Builtin.append, args := #[s, x], argTypes := #[t, t] }) (hu : P.underlying t = some (.slice e)) (hinfo : (P.info? e).map (fun i => (i.zero, i.size, i.bytes)) = some (some (.int K 0), 1, B)) (hB : B ≤ 8)
    (base : Nat) (v : Value) (l : List Int) (hs : a.eval s = v) (hown : OwnI K e w base v l) (ad : Addr) (m c : Nat) (l2 : List Int) (hx : a.eval x = .slice (some ad) m c) (hr : Its K w (some ad) m c l2)
    (hsmall : l.length + m ≤ 17592186044416) (hbase : base ≤ w.heap.size)
    (h : ∀ v' w', OwnI K e w' base v' (l ++ l2) → w.grownBy w' v.ownBlock → wpListIn F n P ops Q rest (a.put o.dst v') w') : wpListIn F n P ops Q (o :: rest) a w := by
  obtain ⟨i, hi, hz, h1, h2⟩ := info_parts hinfo
  have hl2 : (inv K l2).length = m * 1 := by rw [inv_length, hr.len, Nat.mul_one]
  have hb8 : (l.length + m) * B ≤ (l.length + m) * 8 := Nat.mul_le_mul_left _ hB
  refine wpListIn_append_own (P := P) w hgd s x t ho base e i (.int K 0) 1 B hu hi hz h1 h2 rfl (by omega) v l.length (inv K l) hs hown ad m c (inv K l2) hx hl2 ?_ (inv_one K l2) (by unfold maxLen; omega) (by omega) hbase ?_
  · intro j u hu'
    have hj : j < l2.length := by
      have := (List.getElem?_eq_some_iff.1 hu').1
      rwa [inv_length] at this
    rw [inv_get K l2 j hj] at hu'
    obtain ⟨b, off, hA, hc⟩ := hr.at_ (by have := hr.len; omega)
    injection hA with hA
    subst hA
    have hadd : (⟨b, off, none⟩ : Addr).add j = ⟨b, off + j, none⟩ := by
      unfold Addr.add
      split
      · rename_i h0; subst h0; rfl
      · rfl
    rw [hadd, hc j (by have := hr.len; omega), hu']
  · intro v' w' hown' hg _
    refine h v' w' ?_ hg
    unfold OwnI
    rw [inv_append, List.length_append, hr.len]
    exact hown'
end Go.Proofs.Ytcgakgbnhlmcaaa


/- Package group's small calls: has, isSet, groups. -/
namespace Go.Proofs.Ytcgakgbnhlmcaaa
set_option maxRecDepth 100000
set_option linter.unusedVariables false
set_option linter.unusedSimpArgs false
open Go.RowKit

theorem and_one (x : Int) : bits .and .i64 x 1 = x % 2 := by
  show IntKind.i64.wrap ((BitVec.ofInt 64 x &&& BitVec.ofInt 64 1).toNat : Int) = _
  rw [BitVec.toNat_and, BitVec.toNat_ofInt, show (BitVec.ofInt 64 1).toNat = 1 by rfl, Nat.and_one_is_mod, IntKind.wrap_i64]
  omega
set_option maxHeartbeats 1000000 in
theorem has_int (s : Int) (i : Nat) (hi : i < 8) (w : World) : Calls Try.prog 73 #[.int .i64 s, .int .i64 (i : Int)] w fun e w' => e = .returned (.bool (bitI s i)) ∧ w = w' := by
  go_enter Try.func73, Try.ntmps73
  go_wp2
  go_ret
  rw [and_one]
  refine ⟨?_, rfl⟩
  rw [bitI]
  congr 2
theorem has_any (t i : Nat) (ht : t < 256) (hi : i < 8) (w : World) : Calls Try.prog 73 #[.int .i64 (t : Int), .int .i64 (i : Int)] w fun e w' => e = .returned (.bool (t.testBit i)) ∧ w = w' := by
  rw [← bit_nat]
  exact has_int _ i hi w
theorem is_set (s : Int) (n : Nat) : (decide (0 ≤ s ∧ s < ((2 ^ n : Nat) : Int))) = (decide (0 ≤ s) && decide (s < ((2 ^ n : Nat) : Int))) := by
  by_cases h : 0 ≤ s <;> simp [h]
set_option maxHeartbeats 1000000 in
theorem isSet_any (s : Int) (n : Nat) (hn : n ≤ 8) (w : World) : Calls Try.prog 71 #[.int .i64 s, .int .i64 (n : Int)] w fun e w' => e = .returned (.bool (decide (0 ≤ s ∧ s < ((2 ^ n : Nat) : Int)))) ∧ w = w' := by
  have h8 := pow_le hn
  obtain ⟨P, hP⟩ : ∃ P : Nat, 2 ^ n = P := ⟨_, rfl⟩
  have hPi : (2 : Int) ^ n = (P : Int) := by rw [pow_int, hP]
  have hw : IntKind.i64.wrap (1 * (2 : Int) ^ n) = (P : Int) := by rw [hPi, IntKind.wrap_i64]; omega
  rw [is_set, hP]
  by_cases h0 : 0 ≤ s
  · rw [decide_eq_true h0]
    go_enter Try.func71, Try.ntmps71
    go_wp2
    go_ret
    exact ⟨rfl, rfl⟩
  · rw [decide_eq_false h0]
    go_enter Try.func71, Try.ntmps71
    go_wp2
    go_ret
    exact ⟨rfl, rfl⟩
theorem groups_any (s : Int) (w : World) : Calls Try.prog 81 #[.int .i64 s] w fun e w' => e = .returned (.func (.func 88) #[] #[.pointer (some ⟨w.heap.size, 0, none⟩)]) ∧ w.alloc (.cells #[.int .i64 s] 3) = w' := by
  go_enter Try.func81, Try.ntmps81
  go_wp2
  go_ret
  exact ⟨rfl, rfl⟩
end Go.Proofs.Ytcgakgbnhlmcaaa

