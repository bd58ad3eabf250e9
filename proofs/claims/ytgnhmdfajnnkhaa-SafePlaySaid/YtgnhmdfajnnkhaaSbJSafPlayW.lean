/- The walk over the law SafePlay. -/
import Derived.Test.YtgnhmdfajnnkhaaSbJC
namespace Go.Proofs.Ytgnhmdfajnnkhaa
set_option maxRecDepth 100000
set_option linter.unusedVariables false
set_option linter.unusedSimpArgs false
open Go.RowKit

theorem info_ask : (Try.prog.info? 52).map (fun i => (i.zero.map (·.cells.size), i.size, i.bytes)) = some (some 2, 2, 16) := by kernel_rfl
theorem own_ne {w : World} {base k : Nat} {e T : TypeId} {v : Value} {rows : List (List Value)} {b : Nat} {cs : Array Value} {fr : Nat × Nat} (h : OwnR e k w base v rows) (hb : w.heap[b]? = some (.cells cs T fr)) (hT : T ≠ e) : some b ≠ v.ownBlock := by
  rcases h.row.2 with ⟨rfl, _⟩ | ⟨g, cap, cur, rfl, _, hg, _⟩
  · simp [Value.ownBlock]
  · intro h2
    simp only [Value.ownBlock, Option.some.injEq] at h2
    subst h2
    rw [hg] at hb
    simp only [Option.some.injEq, Obj.cells.injEq] at hb
    exact hT hb.2.1.symm
set_option maxHeartbeats 32000000 in
theorem fplay_o (HO : SafOk) (HN : StgOk) (HT : LmpText) (A : Option Addr) (n c : Nat) (l : List Pl) (s : Sg) (B1 : Option Addr) (m1 d1 : Nat) (qa : List Ak) (B2 : Option Addr) (m2 d2 : Nat) (qb : List Ak) (K : Nat) (w : World) (hl : Pls w A n c l) (hq1 : Aks w B1 m1 d1 qa) (hq2 : Aks w B2 m2 d2 qb) (hts : SmG s) (hfw : fewAllB l = true) (h1 : m1 ≤ 30) (h2 : m2 ≤ 30) (hK : K ≤ 60) (hm : mayS l s = true) :
    Calls Try.prog 9 #[.slice A n c, sgV s, .slice B1 m1 d1, .slice B2 m2 d2, .int .i64 (K : Int)] w fun e w' => e = .returned (.bool true) ∧ Below w.heap.size w w' := by
  have hq1s := hq1.small
  have hq2s := hq2.small
  have hsm := hl.small
  have hlen := hl.len
  simp only [sgV]
  obtain ⟨W0, hW0⟩ : ∃ W0, w.alloc (.cells #[.int .i64 s.pl, .int .i64 s.st, .int .i64 s.nx, .int .i64 s.ph, .int .i64 s.t, .int .i64 s.hd, .int .i64 s.hl, .int .i64 s.ak, .int .i64 s.wt, .bool s.sp] 24) = W0 := ⟨_, rfl⟩
  have hB0 : Below w.heap.size w W0 := by rw [← hW0]; exact one_alloc w _
  have hbs : BoxG W0 w.heap.size s := by rw [← hW0]; exact BoxG.new w s
  have HPL := Lib.hid (show ∀ X, Below W0.heap.size W0 X → Pls X A n c l from fun X hX => (hl.below hB0).below hX)
  have HBS := Lib.hid (show ∀ X, Below W0.heap.size W0 X → BoxG X w.heap.size s from fun X hX => hbs.below hX)
  have HLL := Lib.hid hlen
  have HB0 := Lib.hid hB0
  have HW := Lib.hid hW0
  have HAW := Lib.hid (sawake17_any HO HN HT W0)
  have HFW := Lib.hid (fun X hX => pfewall_any A n c l X (HPL.out X hX))
  have HA1 := Lib.hid (show ∀ X, Below W0.heap.size W0 X → Aks X B1 m1 d1 qa from fun X hX => (hq1.below hB0).below hX)
  have HA2 := Lib.hid (show ∀ X, Below W0.heap.size W0 X → Aks X B2 m2 d2 qb from fun X hX => (hq2.below hB0).below hX)
  have HL1 := Lib.hid hq1.len
  have HL2 := Lib.hid hq2.len
  clear hW0 hB0 hbs hl
  clear hq1 hq2
  rw [hfw] at HFW
  obtain ⟨hl5, hfp⟩ := fewall_iff.1 hfw
  have hn1000 : n ≤ 1000 := by omega
  have hmem : ∀ p ∈ l, p.n ≤ 1000 ∧ p.k ≤ 1000 := fun p hp => by have := hfp p hp; omega
  have HMY := Lib.hid (fun X hX => HN.may A n c l s X (HPL.out X hX) hts hn1000 hmem)
  rw [hm] at HMY
  have i1 : ¬ (30 < (m1 : Int)) := by omega
  have i2 : ¬ (30 < (m2 : Int)) := by omega
  have i3 : ¬ ((K : Int) < 0) := by omega
  have i4 : ¬ (60 < (K : Int)) := by omega
  obtain ⟨t1, t2⟩ := play_ticks (l := l) (s := s) (q := List.replicate K ⟨-1, 0⟩) K (fun j hj => by simp [List.getD_eq_getElem?_getD, hj])
  obtain ⟨t3, t4⟩ := run_may (n := (K : Int)) hm (by omega) (by omega)
  rw [Int.toNat_natCast] at t3 t4
  obtain ⟨t5, t6⟩ := play_add (l := l) (s := s) qa qb m2
  have HP1 := Lib.hid (fun X hX B d (hq : Aks X B K d (List.replicate K ⟨-1, 0⟩)) => HO.plays A n c l s B K d (List.replicate K ⟨-1, 0⟩) X (HPL.out X hX) hts hn1000 hmem hq (by omega))
  have HP2 := Lib.hid (fun X hX => HN.run A n c l s (K : Int) X (HPL.out X hX) hts hn1000 hmem)
  have HP3 := Lib.hid (fun X hX => HO.plays A n c l s B1 m1 d1 qa X (HPL.out X hX) hts hn1000 hmem (HA1.out X hX) (by omega))
  have HP4 := Lib.hid (fun X hX => HO.plays A n c l (playG l s qa m1) B2 m2 d2 qb X (HPL.out X hX) (playG_small hts m1) hn1000 hmem (HA2.out X hX) (by omega))
  have HPO := Lib.hid (fun X hX B d (hq : Aks X B (m1 + m2) d (qa ++ qb)) => HO.play A n c l s B (m1 + m2) d (qa ++ qb) X (HPL.out X hX) hts hn1000 hmem hq (by omega))
  rw [t1, t2] at HP1
  rw [t3, t4] at HP2
  rw [HL1.out] at t5 t6
  rw [t5, t6] at HPO
  obtain ⟨x, hx⟩ : ∃ x, ticksS l s K = x := ⟨_, rfl⟩
  obtain ⟨Q1, hQ1⟩ : ∃ x, rowsS l s K = x := ⟨_, rfl⟩
  rw [hx, hQ1] at HP1 HP2
  have l3 := playL_len l s qa m1
  have l4 := playL_len l (playG l s qa m1) qb m2
  obtain ⟨p, hp⟩ : ∃ x, playG l s qa m1 = x := ⟨_, rfl⟩
  obtain ⟨Q3, hQ3⟩ : ∃ x, playL l s qa m1 = x := ⟨_, rfl⟩
  rw [hp, hQ3] at HP3 HPO
  rw [hQ3] at l3
  rw [hp] at HP4 l4
  obtain ⟨r, hr⟩ : ∃ x, playG l p qb m2 = x := ⟨_, rfl⟩
  obtain ⟨Q4, hQ4⟩ : ∃ x, playL l p qb m2 = x := ⟨_, rfl⟩
  rw [hr, hQ4] at HP4 HPO
  rw [hQ4] at l4
  have HQ3 := Lib.hid l3
  have HQ4 := Lib.hid l4
  simp only [GivesGL, GivesGLo, sgV] at HMY HP1 HP2 HP3 HP4 HPO
  clear hm hmem hfp hfw t1 t2 t3 t4 t5 t6 hx hQ1 hp hQ3 hr hQ4 l3 l4
  go_enter Try.func9, Try.ntmps9
  go_wp2_with (first
    | (go_at_call 10
       rw [HW.out]
       (with_reducible refine (HAW.out).mono ?_)
       rintro e w1 ⟨rfl, hbx⟩
       have HX1 := Lib.hid hbx
       clear hbx)
    | (go_at_call 11
       (with_reducible refine (HFW.out _ HX1.out).mono ?_)
       rintro e w2 ⟨rfl, hbx⟩
       have HX2 := Lib.hid (HX1.out.trans (hbx.mono HX1.out.size))
       obtain ⟨a0, a1, a2, a3, a4, a5, a6, a7, a8, a9⟩ := (HBS.out w2 HX2.out).cells
       clear hbx)
    | (go_at_call 22
       (with_reducible refine (HMY.out _ HX2.out).mono ?_)
       rintro e w3 ⟨rfl, hbx⟩
       have HX3 := Lib.hid (HX2.out.trans (hbx.mono HX2.out.size))
       obtain ⟨mm0, mm1, mm2, mm3, mm4, mm5, mm6, mm7, mm8, mm9⟩ := (HBS.out w3 HX3.out).cells
       clear hbx))
  clear a0 a1 a2 a3 a4 a5 a6 a7 a8 a9 mm0 mm1 mm2 mm3 mm4 mm5 mm6 mm7 mm8 mm9
  go_loopw [13, 14] (fun v i wr => ∃ j : Nat, j ≤ K ∧ i = .int .i64 j ∧ OwnR 52 2 wr w3.heap.size v (List.replicate j [.int .i64 (-1), .int .i64 0]) ∧ Below w3.heap.size w3 wr) (fun _ i _ => K - (intOf i).toNat)
  case atStart => exact ⟨0, by omega, rfl, OwnR.nil _ _ _ _, Below.refl _ _⟩
  case round =>
    obtain ⟨j, hj, rfl, hown, hbw⟩ := hrel
    have HO0 := Lib.hid hown
    have HBW0 := Lib.hid hbw
    by_cases hlt : j < K
    · have hlt2 : (j : Int) < K := by omega
      clear hown hbw
      go_wp2_with (first
      | (at_builtin
         refine wpList_append_r rfl 25 52 2 16 _ _ rfl Try.underlying25 info_ask (by omega) w3.heap.size _ _ rfl (HO0.out.more _) _ 1 1 [[.int .i64 (-1), .int .i64 0]] rfl (one_rws 2 52 _ [.int .i64 (-1), .int .i64 0] rfl (fun v hv => ask_one ⟨-1, 0⟩ v hv)) (by simp; omega) (by simp; omega) (Nat.le_trans HBW0.out.size (size_le_alloc _ _)) ?_
         intro v5 w5 hown5 hg5
         have hB5 : Below w3.heap.size w3 w5 := (HBW0.out.alloc HBW0.out.size _).grown hg5 (Nat.le_trans HBW0.out.size (size_le_alloc _ _)) (fun k hk => (HO0.out.size k hk).1)
         clear hg5))
      go_roundw
      case rel => exact ⟨j + 1, by omega, by go_num, by rw [List.replicate_succ']; exact hown5, hB5⟩
      case measure => simp [intOf]; omega
    · obtain rfl : j = K := by omega
      have hge : ¬ ((j : Int) < j) := by omega
      obtain ⟨XA, k0, e0, rfl, hrs⟩ := hown.rws
      obtain rfl : k0 = j := by rw [← hrs.len, List.length_replicate]
      have HAT := Lib.hid (show Aks _ XA k0 e0 (List.replicate k0 ⟨-1, 0⟩) from by
        have e : (List.replicate k0 (⟨-1, 0⟩ : Ak)).map Ak.row = List.replicate k0 [.int .i64 (-1), .int .i64 0] := by simp [Ak.row]
        unfold Aks
        rw [e]
        exact hrs)
      have HXR := Lib.hid (HX3.out.trans (hbw.mono HX3.out.size))
      obtain ⟨q0, q1, q2, q3, q4, q5, q6, q7, q8, q9⟩ := (HBS.out _ HXR.out).cells
      clear hown hbw hrs
      go_wp2_with (first
      | (go_at_call 16
         (with_reducible refine (HP1.out _ HXR.out _ _ HAT.out).mono ?_)
         rintro e w4 ⟨A4, n4, c4, r4, rfl, hi4, hr4, hbx⟩
         have hbw := one_alloc w4 (.cells #[.int .i64 x.pl, .int .i64 x.st, .int .i64 x.nx, .int .i64 x.ph, .int .i64 x.t, .int .i64 x.hd, .int .i64 x.hl, .int .i64 x.ak, .int .i64 x.wt, .bool x.sp] 24)
         have hbs := hbx.trans (hbw.mono hbx.size)
         have hbg := BoxG.new w4 x
         have HX4 := Lib.hid (HXR.out.trans (hbs.mono HXR.out.size))
         have HG4 := Lib.hid (show ∀ X, Below (w4.alloc (.cells #[.int .i64 x.pl, .int .i64 x.st, .int .i64 x.nx, .int .i64 x.ph, .int .i64 x.t, .int .i64 x.hd, .int .i64 x.hl, .int .i64 x.ak, .int .i64 x.wt, .bool x.sp] 24)).heap.size (w4.alloc (.cells #[.int .i64 x.pl, .int .i64 x.st, .int .i64 x.nx, .int .i64 x.ph, .int .i64 x.t, .int .i64 x.hd, .int .i64 x.hl, .int .i64 x.ak, .int .i64 x.wt, .bool x.sp] 24)) X → BoxG X w4.heap.size x from fun X hX => hbg.below hX)
         have HY4 := Lib.hid (Below.refl (w4.alloc (.cells #[.int .i64 x.pl, .int .i64 x.st, .int .i64 x.nx, .int .i64 x.ph, .int .i64 x.t, .int .i64 x.hd, .int .i64 x.hl, .int .i64 x.ak, .int .i64 x.wt, .bool x.sp] 24)).heap.size (w4.alloc (.cells #[.int .i64 x.pl, .int .i64 x.st, .int .i64 x.nx, .int .i64 x.ph, .int .i64 x.t, .int .i64 x.hd, .int .i64 x.hl, .int .i64 x.ak, .int .i64 x.wt, .bool x.sp] 24)))
         have HI4 := Lib.hid (fun X (hX : Below (w4.alloc (.cells #[.int .i64 x.pl, .int .i64 x.st, .int .i64 x.nx, .int .i64 x.ph, .int .i64 x.t, .int .i64 x.hd, .int .i64 x.hl, .int .i64 x.ak, .int .i64 x.wt, .bool x.sp] 24)).heap.size (w4.alloc (.cells #[.int .i64 x.pl, .int .i64 x.st, .int .i64 x.nx, .int .i64 x.ph, .int .i64 x.t, .int .i64 x.hd, .int .i64 x.hl, .int .i64 x.ak, .int .i64 x.wt, .bool x.sp] 24)) X) => (hi4.below hbw).below hX)
         have HR4 := Lib.hid hr4
         obtain ⟨c4_0, c4_1, c4_2, c4_3, c4_4, c4_5, c4_6, c4_7, c4_8, c4_9⟩ := (HBS.out _ HX4.out).cells
         clear hbx hbw hbs hbg hi4 hr4
         try simp only [sgV])
      | (go_at_call 24
         (with_reducible refine (HP2.out _ HX4.out).mono ?_)
         rintro e w5 ⟨A5, n5, c5, r5, rfl, hi5, hr5, hbx⟩
         have hbw := one_alloc w5 (.cells #[.int .i64 x.pl, .int .i64 x.st, .int .i64 x.nx, .int .i64 x.ph, .int .i64 x.t, .int .i64 x.hd, .int .i64 x.hl, .int .i64 x.ak, .int .i64 x.wt, .bool x.sp] 24)
         have hbs := hbx.trans (hbw.mono hbx.size)
         have hbg := BoxG.new w5 x
         have HX5 := Lib.hid (HX4.out.trans (hbs.mono HX4.out.size))
         have HY4 := Lib.hid (HY4.out.trans (hbs.mono HY4.out.size))
         have HG5 := Lib.hid (show ∀ X, Below (w5.alloc (.cells #[.int .i64 x.pl, .int .i64 x.st, .int .i64 x.nx, .int .i64 x.ph, .int .i64 x.t, .int .i64 x.hd, .int .i64 x.hl, .int .i64 x.ak, .int .i64 x.wt, .bool x.sp] 24)).heap.size (w5.alloc (.cells #[.int .i64 x.pl, .int .i64 x.st, .int .i64 x.nx, .int .i64 x.ph, .int .i64 x.t, .int .i64 x.hd, .int .i64 x.hl, .int .i64 x.ak, .int .i64 x.wt, .bool x.sp] 24)) X → BoxG X w5.heap.size x from fun X hX => hbg.below hX)
         have HY5 := Lib.hid (Below.refl (w5.alloc (.cells #[.int .i64 x.pl, .int .i64 x.st, .int .i64 x.nx, .int .i64 x.ph, .int .i64 x.t, .int .i64 x.hd, .int .i64 x.hl, .int .i64 x.ak, .int .i64 x.wt, .bool x.sp] 24)).heap.size (w5.alloc (.cells #[.int .i64 x.pl, .int .i64 x.st, .int .i64 x.nx, .int .i64 x.ph, .int .i64 x.t, .int .i64 x.hd, .int .i64 x.hl, .int .i64 x.ak, .int .i64 x.wt, .bool x.sp] 24)))
         have HI5 := Lib.hid (fun X (hX : Below (w5.alloc (.cells #[.int .i64 x.pl, .int .i64 x.st, .int .i64 x.nx, .int .i64 x.ph, .int .i64 x.t, .int .i64 x.hd, .int .i64 x.hl, .int .i64 x.ak, .int .i64 x.wt, .bool x.sp] 24)).heap.size (w5.alloc (.cells #[.int .i64 x.pl, .int .i64 x.st, .int .i64 x.nx, .int .i64 x.ph, .int .i64 x.t, .int .i64 x.hd, .int .i64 x.hl, .int .i64 x.ak, .int .i64 x.wt, .bool x.sp] 24)) X) => (hi5.below hbw).below hX)
         have HR5 := Lib.hid hr5
         clear hbx hbw hbs hbg hi5 hr5
         try simp only [sgV])
      | (go_at_call 19
         (with_reducible refine (rrows_any _ _ _ _ _ _ _ _ _ (HI4.out _ HY4.out) (HI5.out _ HY5.out)).mono ?_)
         rintro e w6 ⟨he, hbx⟩
         have HY4 := Lib.hid (HY4.out.trans (hbx.mono HY4.out.size))
         have HY5 := Lib.hid (HY5.out.trans (hbx.mono HY5.out.size))
         have HX6 := Lib.hid (HX5.out.trans (hbx.mono HX5.out.size))
         obtain rfl : e = .returned (.bool true) := by rw [he, HR4.out, HR5.out]; simp
         clear he
         obtain ⟨c6_0, c6_1, c6_2, c6_3, c6_4, c6_5, c6_6, c6_7, c6_8, c6_9⟩ := (HBS.out _ HX6.out).cells
         clear hbx)
      | (go_at_call 16
         (with_reducible refine (HP3.out _ HX6.out).mono ?_)
         rintro e w7 ⟨A7, n7, c7, r7, rfl, hi7, hr7, hbx⟩
         have hbw := one_alloc w7 (.cells #[.int .i64 p.pl, .int .i64 p.st, .int .i64 p.nx, .int .i64 p.ph, .int .i64 p.t, .int .i64 p.hd, .int .i64 p.hl, .int .i64 p.ak, .int .i64 p.wt, .bool p.sp] 24)
         have hbs := hbx.trans (hbw.mono hbx.size)
         have hbg := BoxG.new w7 p
         have HX7 := Lib.hid (HX6.out.trans (hbs.mono HX6.out.size))
         have HY4 := Lib.hid (HY4.out.trans (hbs.mono HY4.out.size))
         have HY5 := Lib.hid (HY5.out.trans (hbs.mono HY5.out.size))
         have HG7 := Lib.hid (show ∀ X, Below (w7.alloc (.cells #[.int .i64 p.pl, .int .i64 p.st, .int .i64 p.nx, .int .i64 p.ph, .int .i64 p.t, .int .i64 p.hd, .int .i64 p.hl, .int .i64 p.ak, .int .i64 p.wt, .bool p.sp] 24)).heap.size (w7.alloc (.cells #[.int .i64 p.pl, .int .i64 p.st, .int .i64 p.nx, .int .i64 p.ph, .int .i64 p.t, .int .i64 p.hd, .int .i64 p.hl, .int .i64 p.ak, .int .i64 p.wt, .bool p.sp] 24)) X → BoxG X w7.heap.size p from fun X hX => hbg.below hX)
         have HY7 := Lib.hid (Below.refl (w7.alloc (.cells #[.int .i64 p.pl, .int .i64 p.st, .int .i64 p.nx, .int .i64 p.ph, .int .i64 p.t, .int .i64 p.hd, .int .i64 p.hl, .int .i64 p.ak, .int .i64 p.wt, .bool p.sp] 24)).heap.size (w7.alloc (.cells #[.int .i64 p.pl, .int .i64 p.st, .int .i64 p.nx, .int .i64 p.ph, .int .i64 p.t, .int .i64 p.hd, .int .i64 p.hl, .int .i64 p.ak, .int .i64 p.wt, .bool p.sp] 24)))
         have HI7 := Lib.hid (fun X (hX : Below (w7.alloc (.cells #[.int .i64 p.pl, .int .i64 p.st, .int .i64 p.nx, .int .i64 p.ph, .int .i64 p.t, .int .i64 p.hd, .int .i64 p.hl, .int .i64 p.ak, .int .i64 p.wt, .bool p.sp] 24)).heap.size (w7.alloc (.cells #[.int .i64 p.pl, .int .i64 p.st, .int .i64 p.nx, .int .i64 p.ph, .int .i64 p.t, .int .i64 p.hd, .int .i64 p.hl, .int .i64 p.ak, .int .i64 p.wt, .bool p.sp] 24)) X) => (hi7.below hbw).below hX)
         have HR7 := Lib.hid hr7
         obtain ⟨b7_0, b7_1, b7_2, b7_3, b7_4, b7_5, b7_6, b7_7, b7_8, b7_9⟩ := (HG7.out _ HY7.out).cells
         try simp only at b7_0 b7_1 b7_2 b7_3 b7_4 b7_5 b7_6 b7_7 b7_8 b7_9
         clear hbx hbw hbs hbg hi7 hr7
         try simp only [sgV])
      | (go_at_call 16
         (with_reducible refine (HP4.out _ HX7.out).mono ?_)
         rintro e w8 ⟨A8, n8, c8, r8, rfl, hi8, hr8, hbx⟩
         have hbw := one_alloc w8 (.cells #[.int .i64 r.pl, .int .i64 r.st, .int .i64 r.nx, .int .i64 r.ph, .int .i64 r.t, .int .i64 r.hd, .int .i64 r.hl, .int .i64 r.ak, .int .i64 r.wt, .bool r.sp] 24)
         have hbs := hbx.trans (hbw.mono hbx.size)
         have hbg := BoxG.new w8 r
         have HX8 := Lib.hid (HX7.out.trans (hbs.mono HX7.out.size))
         have HY4 := Lib.hid (HY4.out.trans (hbs.mono HY4.out.size))
         have HY5 := Lib.hid (HY5.out.trans (hbs.mono HY5.out.size))
         have HY7 := Lib.hid (HY7.out.trans (hbs.mono HY7.out.size))
         have HG8 := Lib.hid (show ∀ X, Below (w8.alloc (.cells #[.int .i64 r.pl, .int .i64 r.st, .int .i64 r.nx, .int .i64 r.ph, .int .i64 r.t, .int .i64 r.hd, .int .i64 r.hl, .int .i64 r.ak, .int .i64 r.wt, .bool r.sp] 24)).heap.size (w8.alloc (.cells #[.int .i64 r.pl, .int .i64 r.st, .int .i64 r.nx, .int .i64 r.ph, .int .i64 r.t, .int .i64 r.hd, .int .i64 r.hl, .int .i64 r.ak, .int .i64 r.wt, .bool r.sp] 24)) X → BoxG X w8.heap.size r from fun X hX => hbg.below hX)
         have HY8 := Lib.hid (Below.refl (w8.alloc (.cells #[.int .i64 r.pl, .int .i64 r.st, .int .i64 r.nx, .int .i64 r.ph, .int .i64 r.t, .int .i64 r.hd, .int .i64 r.hl, .int .i64 r.ak, .int .i64 r.wt, .bool r.sp] 24)).heap.size (w8.alloc (.cells #[.int .i64 r.pl, .int .i64 r.st, .int .i64 r.nx, .int .i64 r.ph, .int .i64 r.t, .int .i64 r.hd, .int .i64 r.hl, .int .i64 r.ak, .int .i64 r.wt, .bool r.sp] 24)))
         have HI8 := Lib.hid (fun X (hX : Below (w8.alloc (.cells #[.int .i64 r.pl, .int .i64 r.st, .int .i64 r.nx, .int .i64 r.ph, .int .i64 r.t, .int .i64 r.hd, .int .i64 r.hl, .int .i64 r.ak, .int .i64 r.wt, .bool r.sp] 24)).heap.size (w8.alloc (.cells #[.int .i64 r.pl, .int .i64 r.st, .int .i64 r.nx, .int .i64 r.ph, .int .i64 r.t, .int .i64 r.hd, .int .i64 r.hl, .int .i64 r.ak, .int .i64 r.wt, .bool r.sp] 24)) X) => (hi8.below hbw).below hX)
         have HR8 := Lib.hid hr8
         clear hbx hbw hbs hbg hi8 hr8
         try simp only [sgV]))
      have HN7 := Lib.hid (show n7 ≤ 60 by have h := HQ3.out; rw [← HR7.out, List.length_map, (HI7.out _ HY7.out).len] at h; omega)
      have HN8 := Lib.hid (show n8 ≤ 60 by have h := HQ4.out; rw [← HR8.out, List.length_map, (HI8.out _ HY8.out).len] at h; omega)
      obtain ⟨WB, hWB⟩ : ∃ W, w8.alloc (.cells #[.int .i64 r.pl, .int .i64 r.st, .int .i64 r.nx, .int .i64 r.ph, .int .i64 r.t, .int .i64 r.hd, .int .i64 r.hl, .int .i64 r.ak, .int .i64 r.wt, .bool r.sp] 24) = W := ⟨_, rfl⟩
      rw [hWB] at HX8 HY4 HY5 HY7 HY8 HG8 HI8 ⊢
      clear hWB
      have HF := Lib.hid (show ∀ X, Below WB.heap.size WB X → X.cell? ⟨w.heap.size, 0, none⟩ = some (.int .i64 s.pl) ∧ X.cell? ⟨w.heap.size, 1, none⟩ = some (.int .i64 s.st) ∧ X.cell? ⟨w.heap.size, 2, none⟩ = some (.int .i64 s.nx) ∧ X.cell? ⟨w.heap.size, 3, none⟩ = some (.int .i64 s.ph) ∧ X.cell? ⟨w.heap.size, 4, none⟩ = some (.int .i64 s.t) ∧ X.cell? ⟨w.heap.size, 5, none⟩ = some (.int .i64 s.hd) ∧ X.cell? ⟨w.heap.size, 6, none⟩ = some (.int .i64 s.hl) ∧ X.cell? ⟨w.heap.size, 7, none⟩ = some (.int .i64 s.ak) ∧ X.cell? ⟨w.heap.size, 8, none⟩ = some (.int .i64 s.wt) ∧ X.cell? ⟨w.heap.size, 9, none⟩ = some (.bool s.sp) from fun X hX => by
        obtain ⟨a0, a1, a2, a3, a4, a5, a6, a7, a8, a9⟩ := (HBS.out X (HX8.out.trans (hX.mono HX8.out.size))).cells
        exact ⟨a0, a1, a2, a3, a4, a5, a6, a7, a8, a9⟩)
      have hl1 := HL1.out
      have hl2 := HL2.out
      have hSd : Below WB.heap.size WB WB.drew := (Below.refl _ WB).drew
      refine wp_region_held_drew (S := fun X => Below WB.heap.size WB X) (by kernel_rfl) hSd (fun hHeld => ?_)
      obtain ⟨y0, hY0⟩ : ∃ Y, WB.drew = Y := ⟨_, rfl⟩
      rw [hY0] at hSd hHeld ⊢
      clear hY0
      refine tk 0 (.slice A n c) hHeld (fun w => ?_) ?_
      · go_simp
      simp only [PT]
      refine tkS 1 (.agg #[.int .i64 s.pl, .int .i64 s.st, .int .i64 s.nx, .int .i64 s.ph, .int .i64 s.t, .int .i64 s.hd, .int .i64 s.hl, .int .i64 s.ak, .int .i64 s.wt, .bool s.sp]) hHeld (fun w hq => ?_) ?_
      · obtain ⟨z0, z1, z2, z3, z4, z5, z6, z7, z8, z9⟩ := HF.out w hq
        go_simp
      simp only [PT]
      refine tk 2 (.slice B1 m1 d1) hHeld (fun w => ?_) ?_
      · go_simp
      simp only [PT]
      refine tk 4 (.slice B2 m2 d2) hHeld (fun w => ?_) ?_
      · go_simp
      simp only [PT]
      refine two_steps 3 10 (by kernel_rfl) rfl rfl (fun Kq hKq => ?_) (fun Kq hKq => ?_)
      · refine step_append_r 25 52 2 16 _ _ rfl Try.underlying25 info_ask (by omega) WB.heap.size (.slice none 0 0) [] rfl (OwnR.nil _ _ _ _) B1 m1 d1 (qa.map Ak.row) rfl (HA1.out _ (HX8.out.trans (hSd.mono HX8.out.size))) (by simp; omega) (by simp; omega) hSd.size rfl ?_
        intro v_ y1 hown hg
        have hS1 : Below WB.heap.size WB y1 := hSd.grown hg hSd.size (fun g hg => by simp [Value.ownBlock] at hg)
        rw [List.nil_append] at hown
        obtain ⟨X1, k1, e1, rfl, -⟩ := hown.rws
        have HO1 := Lib.hid hown
        clear hown hg
        refine hKq.out _ _ hS1 (fun hHeld0 => ?_)
        clear hKq Kq hHeld
        have hHeld := hHeld0
        clear hHeld0
        try simp only [PT]
        refine two_steps 5 10 (by kernel_rfl) rfl rfl (fun Kq hKq => ?_) (fun Kq hKq => ?_)
        · refine step_append_r 25 52 2 16 _ _ rfl Try.underlying25 info_ask (by omega) WB.heap.size (.slice X1 k1 e1) (qa.map Ak.row) rfl HO1.out B2 m2 d2 (qb.map Ak.row) rfl (HA2.out _ (HX8.out.trans (hS1.mono HX8.out.size))) (by simp; omega) (by simp; omega) hS1.size rfl ?_
          intro v_ y2 hown hg
          have hS2 : Below WB.heap.size WB y2 := hS1.grown hg hS1.size (fun g hg => (HO1.out.size g hg).1)
          rw [← List.map_append] at hown
          obtain ⟨X2, k2, e2, rfl, hrs⟩ := hown.rws
          obtain rfl : k2 = m1 + m2 := by rw [← hrs.len, List.length_map, List.length_append, HL1.out, HL2.out]
          have HAB := Lib.hid (show Aks y2 X2 (m1 + m2) e2 (qa ++ qb) from hrs)
          clear hrs
          clear hown hg
          refine hKq.out _ _ hS2 (fun hHeld0 => ?_)
          clear hKq Kq hHeld
          have hHeld := hHeld0
          clear hHeld0
          try simp only [PT]
          refine two_steps 6 10 (by kernel_rfl) rfl rfl (fun Kq hKq => ?_) (fun Kq hKq => ?_)
          · go_simp
            go_at_call 16
            (with_reducible refine (HPO.out _ (HX8.out.trans (hS2.mono HX8.out.size)) _ _ HAB.out).mono ?_)
            rintro e y3 ⟨A9, n9, c9, r9, rfl, hl9, hr9, hbx, hz1, hz2⟩
            have hS3 : Below WB.heap.size WB y3 := hS2.trans (hbx.mono hS2.size)
            have HL9 := Lib.hid hl9
            have HR9 := Lib.hid hr9
            have HZ1 := Lib.hid hz1
            have HZ2 := Lib.hid hz2
            have HSC := Lib.hid (Below.refl y3.heap.size y3)
            try simp only [sgV]
            clear hl9 hr9 hz1 hz2 hbx
            refine hKq.out _ _ hS3 (fun hHeld0 => ?_)
            clear hKq Kq hHeld
            have hHeld := hHeld0
            clear hHeld0
            try simp only [PT]
            refine tk 7 (.tuple #[.agg #[.int .i64 r.pl, .int .i64 r.st, .int .i64 r.nx, .int .i64 r.ph, .int .i64 r.t, .int .i64 r.hd, .int .i64 r.hl, .int .i64 r.ak, .int .i64 r.wt, .bool r.sp], .slice A9 n9 c9]) hHeld (fun w => ?_) ?_
            · (go_simp; try rfl)
            simp only [PT]
            refine tk 8 (.agg #[.int .i64 r.pl, .int .i64 r.st, .int .i64 r.nx, .int .i64 r.ph, .int .i64 r.t, .int .i64 r.hd, .int .i64 r.hl, .int .i64 r.ak, .int .i64 r.wt, .bool r.sp]) hHeld (fun w => ?_) ?_
            · (go_simp; try rfl)
            simp only [PT]
            refine tk 9 (.slice A9 n9 c9) hHeld (fun w => ?_) ?_
            · (go_simp; try rfl)
            simp only [PT]
            refine one_step 10 (by kernel_rfl) rfl (fun Kq hKq => ?_)
            go_simp
            obtain ⟨y4, hYn⟩ : ∃ Y, y3.alloc (.cells #[.int .i64 0, .int .i64 0, .int .i64 0, .int .i64 0, .int .i64 0, .int .i64 0, .int .i64 0, .int .i64 0, .int .i64 0, .bool false] 24) = Y := ⟨_, rfl⟩
            have hbx : Below y3.heap.size y3 y4 := by rw [← hYn]; exact one_alloc _ _
            have hS4 : Below WB.heap.size WB y4 := hS3.trans (hbx.mono hS3.size)
            have HSC := Lib.hid (HSC.out.trans (hbx.mono HSC.out.size))
            have HBK := Lib.hid (show BoxG y4 y3.heap.size ⟨0, 0, 0, 0, 0, 0, 0, 0, 0, false⟩ from by rw [← hYn]; exact BoxG.new y3 ⟨0, 0, 0, 0, 0, 0, 0, 0, 0, false⟩)
            have HBW := Lib.hid (show WB.heap.size ≤ y3.heap.size from hS3.size)
            rw [hYn]
            clear hYn hbx
            refine hKq.out _ _ hS4 (fun hHeld0 => ?_)
            clear hKq Kq hHeld
            have hHeld := hHeld0
            clear hHeld0
            try simp only [PT]
            refine one_step 11 (by kernel_rfl) rfl (fun Kq hKq => ?_)
            refine step_store_part 24 _ _ rfl (y3.heap.size) 0 (.agg #[.int .i64 r.pl, .int .i64 r.st, .int .i64 r.nx, .int .i64 r.ph, .int .i64 r.t, .int .i64 r.hd, .int .i64 r.hl, .int .i64 r.ak, .int .i64 r.wt, .bool r.sp]) #[.int .i64 r.pl, .int .i64 r.st, .int .i64 r.nx, .int .i64 r.ph, .int .i64 r.t, .int .i64 r.hd, .int .i64 r.hl, .int .i64 r.ak, .int .i64 r.wt, .bool r.sp] rfl rfl rfl 24 #[.int .i64 0, .int .i64 0, .int .i64 0, .int .i64 0, .int .i64 0, .int .i64 0, .int .i64 0, .int .i64 0, .int .i64 0, .bool false] #[.int .i64 r.pl, .int .i64 r.st, .int .i64 r.nx, .int .i64 r.ph, .int .i64 r.t, .int .i64 r.hd, .int .i64 r.hl, .int .i64 r.ak, .int .i64 r.wt, .bool r.sp] HBK.out info_sig (by simp) (one_sig _ _ _ _ _ _ _ _ _ _) rfl rfl ?_
            intro y5 hgk hbk hzk
            have hS5 : Below WB.heap.size WB y5 := Below.grows hS4 hgk hS4.size HBW.out
            have HBA := Lib.hid (show BoxG y5 (y3.heap.size) r from hbk)
            have HLZ := Lib.hid (HL9.out.below (Below.grows HSC.out hgk HSC.out.size (Nat.le_refl _)))
            clear hgk hbk hzk
            refine hKq.out _ _ hS5 (fun hHeld0 => ?_)
            clear hKq Kq hHeld
            have hHeld := hHeld0
            clear hHeld0
            try simp only [PT]
            refine tk 12 (.slice A9 n9 c9) hHeld (fun w => ?_) ?_
            · (go_simp; try rfl)
            simp only [PT]
            refine wpAnyH_done (by kernel_rfl) ?_ _
            clear hHeld
            obtain ⟨W16, hW16⟩ : ∃ W, y5 = W := ⟨_, rfl⟩
            have hs16 := hS5
            rw [hW16] at hs16 HBA HLZ ⊢
            obtain ⟨bo, hbo⟩ : ∃ b : Nat, y3.heap.size = b := ⟨_, rfl⟩
            rw [hbo] at HBA ⊢
            clear hW16 hbo
            have HX16 := Lib.hid (HX8.out.trans (hs16.mono HX8.out.size))
            have HY4 := Lib.hid (HY4.out.trans (hs16.mono HY4.out.size))
            have HY5 := Lib.hid (HY5.out.trans (hs16.mono HY5.out.size))
            have HY7 := Lib.hid (HY7.out.trans (hs16.mono HY7.out.size))
            have HY8 := Lib.hid (HY8.out.trans (hs16.mono HY8.out.size))
            have HM7 := Lib.hid (HI7.out W16 HY7.out)
            have HM8 := Lib.hid (HI8.out W16 HY8.out)
            have hn7 : n7 ≤ 60 := HN7.out
            have hn8 : n8 ≤ 60 := HN8.out
            have hln7 := HM7.out.len
            have hln8 := HM8.out.len
            clear hs16
            go_wp2_with (first
              | (at_builtin
                 refine wpList_append_r_at rfl 34 40 1 24 _ _ rfl Try.underlying34 info_rows (by omega) W16.heap.size (.slice none 0 0) [] rfl (OwnR.nil _ _ _ _) A7 n7 c7 (r7.map Rw.row) rfl HM7.out.rws (by simp; omega) (by simp; omega) (Nat.le_refl _) ?_
                 intro v17 w17 hown17 hg17 hv17
                 have HB17 := Lib.hid ((Below.refl W16.heap.size W16).grown hg17 (Nat.le_refl _) (fun k hk => by cases hk))
                 have HO17 := Lib.hid hown17
                 clear hown17 hg17 hv17)
              | (at_builtin
                 refine wpList_append_r_at rfl 34 40 1 24 _ _ rfl Try.underlying34 info_rows (by omega) W16.heap.size v17 _ rfl HO17.out A8 n8 c8 (r8.map Rw.row) rfl (HM8.out.below HB17.out).rws (by simp; omega) (by simp; omega) HB17.out.size ?_
                 intro v18 w18 hown18 hg18 hv18
                 rw [List.nil_append] at hown18
                 have HB18 := Lib.hid (HB17.out.grown hg18 HB17.out.size (fun k hk => (HO17.out.size k hk).1))
                 obtain ⟨A18, n18, c18, rfl, hl18⟩ := lns_both HM7.out HM8.out hown18 HB18.out
                 have HL18 := Lib.hid hl18
                 have HM18 := Lib.hid (HLZ.out.below HB18.out)
                 clear hown18 hg18 hv18 hl18)
              | (go_at_call 19
                 (with_reducible refine (rrows_any _ _ _ _ _ _ _ _ _ HM18.out HL18.out).mono ?_)
                 rintro e w19 ⟨he, hbx⟩
                 obtain rfl : e = .returned (.bool true) := by rw [he, List.map_append, HR9.out, HR7.out, HR8.out]; simp
                 have HB19 := Lib.hid (HB18.out.trans (hbx.mono HB18.out.size))
                 obtain ⟨b0, b1, b2, b3, b4, b5, b6, b7, b8, b9⟩ := (HG4.out _ (HY4.out.trans (HB19.out.mono HY4.out.size))).cells
                 obtain ⟨d0, d1, d2, d3, d4, d5, d6, d7, d8, d9⟩ := (HG5.out _ (HY5.out.trans (HB19.out.mono HY5.out.size))).cells
                 obtain ⟨f0, f1, f2, f3, f4, f5, f6, f7, f8, f9⟩ := (HG8.out _ (HY8.out.trans (HB19.out.mono HY8.out.size))).cells
                 obtain ⟨g0, g1, g2, g3, g4, g5, g6, g7, g8, g9⟩ := (BoxG.below HBA.out HB19.out).cells
                 clear hbx he)
              | ((with_reducible refine wpList_eq_sig _ _ rfl x x ?hx ?hy ?_ ?hw); (case hx => rfl); (case hy => rfl); (case hw => rfl)
                 rw [show decide (x = x) = true from decide_eq_true rfl])
              | ((with_reducible refine wpList_eq_sig _ _ rfl r r ?hx2 ?hy2 ?_ ?hw2); (case hx2 => rfl); (case hy2 => rfl); (case hw2 => rfl)
                 rw [show decide (r = r) = true from decide_eq_true rfl]))
            go_ret
            exact ⟨by first | rfl | simp, HB0.out.trans ((HX16.out.trans (HB19.out.mono HX16.out.size)).mono HB0.out.size)⟩
          · go_simp
            obtain ⟨y3, hYn⟩ : ∃ Y, y2.alloc (.cells #[.int .i64 0, .int .i64 0, .int .i64 0, .int .i64 0, .int .i64 0, .int .i64 0, .int .i64 0, .int .i64 0, .int .i64 0, .bool false] 24) = Y := ⟨_, rfl⟩
            have hbx : Below y2.heap.size y2 y3 := by rw [← hYn]; exact one_alloc _ _
            have hS3 : Below WB.heap.size WB y3 := hS2.trans (hbx.mono hS2.size)
            have HAB := Lib.hid (HAB.out.below hbx)
            have HBK := Lib.hid (show BoxG y3 y2.heap.size ⟨0, 0, 0, 0, 0, 0, 0, 0, 0, false⟩ from by rw [← hYn]; exact BoxG.new y2 ⟨0, 0, 0, 0, 0, 0, 0, 0, 0, false⟩)
            have HBW := Lib.hid (show WB.heap.size ≤ y2.heap.size from hS2.size)
            rw [hYn]
            clear hYn hbx
            refine hKq.out _ _ hS3 (fun hHeld0 => ?_)
            clear hKq Kq hHeld
            have hHeld := hHeld0
            clear hHeld0
            try simp only [PT]
            refine one_step 6 (by kernel_rfl) rfl (fun Kq hKq => ?_)
            go_simp
            go_at_call 16
            (with_reducible refine (HPO.out _ (HX8.out.trans (hS3.mono HX8.out.size)) _ _ HAB.out).mono ?_)
            rintro e y4 ⟨A9, n9, c9, r9, rfl, hl9, hr9, hbx, hz1, hz2⟩
            have hS4 : Below WB.heap.size WB y4 := hS3.trans (hbx.mono hS3.size)
            have HLT := Lib.hid (show y2.heap.size < y3.heap.size from (Array.getElem?_eq_some_iff.1 HBK.out).1)
            have HBK := Lib.hid (show BoxG y4 y2.heap.size ⟨0, 0, 0, 0, 0, 0, 0, 0, 0, false⟩ from BoxG.below HBK.out hbx)
            have HL9 := Lib.hid hl9
            have HR9 := Lib.hid hr9
            have HZ1 := Lib.hid hz1
            have HZ2 := Lib.hid hz2
            have HSC := Lib.hid (Below.refl y4.heap.size y4)
            try simp only [sgV]
            clear hl9 hr9 hz1 hz2 hbx
            refine hKq.out _ _ hS4 (fun hHeld0 => ?_)
            clear hKq Kq hHeld
            have hHeld := hHeld0
            clear hHeld0
            try simp only [PT]
            refine tk 7 (.tuple #[.agg #[.int .i64 r.pl, .int .i64 r.st, .int .i64 r.nx, .int .i64 r.ph, .int .i64 r.t, .int .i64 r.hd, .int .i64 r.hl, .int .i64 r.ak, .int .i64 r.wt, .bool r.sp], .slice A9 n9 c9]) hHeld (fun w => ?_) ?_
            · (go_simp; try rfl)
            simp only [PT]
            refine tk 8 (.agg #[.int .i64 r.pl, .int .i64 r.st, .int .i64 r.nx, .int .i64 r.ph, .int .i64 r.t, .int .i64 r.hd, .int .i64 r.hl, .int .i64 r.ak, .int .i64 r.wt, .bool r.sp]) hHeld (fun w => ?_) ?_
            · (go_simp; try rfl)
            simp only [PT]
            refine tk 9 (.slice A9 n9 c9) hHeld (fun w => ?_) ?_
            · (go_simp; try rfl)
            simp only [PT]
            refine one_step 11 (by kernel_rfl) rfl (fun Kq hKq => ?_)
            refine step_store_part 24 _ _ rfl (y2.heap.size) 0 (.agg #[.int .i64 r.pl, .int .i64 r.st, .int .i64 r.nx, .int .i64 r.ph, .int .i64 r.t, .int .i64 r.hd, .int .i64 r.hl, .int .i64 r.ak, .int .i64 r.wt, .bool r.sp]) #[.int .i64 r.pl, .int .i64 r.st, .int .i64 r.nx, .int .i64 r.ph, .int .i64 r.t, .int .i64 r.hd, .int .i64 r.hl, .int .i64 r.ak, .int .i64 r.wt, .bool r.sp] rfl rfl rfl 24 #[.int .i64 0, .int .i64 0, .int .i64 0, .int .i64 0, .int .i64 0, .int .i64 0, .int .i64 0, .int .i64 0, .int .i64 0, .bool false] #[.int .i64 r.pl, .int .i64 r.st, .int .i64 r.nx, .int .i64 r.ph, .int .i64 r.t, .int .i64 r.hd, .int .i64 r.hl, .int .i64 r.ak, .int .i64 r.wt, .bool r.sp] HBK.out info_sig (by simp) (one_sig _ _ _ _ _ _ _ _ _ _) rfl rfl ?_
            intro y5 hgk hbk hzk
            have hS5 : Below WB.heap.size WB y5 := Below.grows hS4 hgk hS4.size HBW.out
            have HBA := Lib.hid (show BoxG y5 (y2.heap.size) r from hbk)
            have HLZ := Lib.hid (Lns.low HL9.out HZ1.out HZ2.out hgk HLT.out)
            clear hgk hbk hzk
            refine hKq.out _ _ hS5 (fun hHeld0 => ?_)
            clear hKq Kq hHeld
            have hHeld := hHeld0
            clear hHeld0
            try simp only [PT]
            refine tk 12 (.slice A9 n9 c9) hHeld (fun w => ?_) ?_
            · (go_simp; try rfl)
            simp only [PT]
            refine wpAnyH_done (by kernel_rfl) ?_ _
            clear hHeld
            obtain ⟨W16, hW16⟩ : ∃ W, y5 = W := ⟨_, rfl⟩
            have hs16 := hS5
            rw [hW16] at hs16 HBA HLZ ⊢
            obtain ⟨bo, hbo⟩ : ∃ b : Nat, y2.heap.size = b := ⟨_, rfl⟩
            rw [hbo] at HBA ⊢
            clear hW16 hbo
            have HX16 := Lib.hid (HX8.out.trans (hs16.mono HX8.out.size))
            have HY4 := Lib.hid (HY4.out.trans (hs16.mono HY4.out.size))
            have HY5 := Lib.hid (HY5.out.trans (hs16.mono HY5.out.size))
            have HY7 := Lib.hid (HY7.out.trans (hs16.mono HY7.out.size))
            have HY8 := Lib.hid (HY8.out.trans (hs16.mono HY8.out.size))
            have HM7 := Lib.hid (HI7.out W16 HY7.out)
            have HM8 := Lib.hid (HI8.out W16 HY8.out)
            have hn7 : n7 ≤ 60 := HN7.out
            have hn8 : n8 ≤ 60 := HN8.out
            have hln7 := HM7.out.len
            have hln8 := HM8.out.len
            clear hs16
            go_wp2_with (first
              | (at_builtin
                 refine wpList_append_r_at rfl 34 40 1 24 _ _ rfl Try.underlying34 info_rows (by omega) W16.heap.size (.slice none 0 0) [] rfl (OwnR.nil _ _ _ _) A7 n7 c7 (r7.map Rw.row) rfl HM7.out.rws (by simp; omega) (by simp; omega) (Nat.le_refl _) ?_
                 intro v17 w17 hown17 hg17 hv17
                 have HB17 := Lib.hid ((Below.refl W16.heap.size W16).grown hg17 (Nat.le_refl _) (fun k hk => by cases hk))
                 have HO17 := Lib.hid hown17
                 clear hown17 hg17 hv17)
              | (at_builtin
                 refine wpList_append_r_at rfl 34 40 1 24 _ _ rfl Try.underlying34 info_rows (by omega) W16.heap.size v17 _ rfl HO17.out A8 n8 c8 (r8.map Rw.row) rfl (HM8.out.below HB17.out).rws (by simp; omega) (by simp; omega) HB17.out.size ?_
                 intro v18 w18 hown18 hg18 hv18
                 rw [List.nil_append] at hown18
                 have HB18 := Lib.hid (HB17.out.grown hg18 HB17.out.size (fun k hk => (HO17.out.size k hk).1))
                 obtain ⟨A18, n18, c18, rfl, hl18⟩ := lns_both HM7.out HM8.out hown18 HB18.out
                 have HL18 := Lib.hid hl18
                 have HM18 := Lib.hid (HLZ.out.below HB18.out)
                 clear hown18 hg18 hv18 hl18)
              | (go_at_call 19
                 (with_reducible refine (rrows_any _ _ _ _ _ _ _ _ _ HM18.out HL18.out).mono ?_)
                 rintro e w19 ⟨he, hbx⟩
                 obtain rfl : e = .returned (.bool true) := by rw [he, List.map_append, HR9.out, HR7.out, HR8.out]; simp
                 have HB19 := Lib.hid (HB18.out.trans (hbx.mono HB18.out.size))
                 obtain ⟨b0, b1, b2, b3, b4, b5, b6, b7, b8, b9⟩ := (HG4.out _ (HY4.out.trans (HB19.out.mono HY4.out.size))).cells
                 obtain ⟨d0, d1, d2, d3, d4, d5, d6, d7, d8, d9⟩ := (HG5.out _ (HY5.out.trans (HB19.out.mono HY5.out.size))).cells
                 obtain ⟨f0, f1, f2, f3, f4, f5, f6, f7, f8, f9⟩ := (HG8.out _ (HY8.out.trans (HB19.out.mono HY8.out.size))).cells
                 obtain ⟨g0, g1, g2, g3, g4, g5, g6, g7, g8, g9⟩ := (BoxG.below HBA.out HB19.out).cells
                 clear hbx he)
              | ((with_reducible refine wpList_eq_sig _ _ rfl x x ?hx ?hy ?_ ?hw); (case hx => rfl); (case hy => rfl); (case hw => rfl)
                 rw [show decide (x = x) = true from decide_eq_true rfl])
              | ((with_reducible refine wpList_eq_sig _ _ rfl r r ?hx2 ?hy2 ?_ ?hw2); (case hx2 => rfl); (case hy2 => rfl); (case hw2 => rfl)
                 rw [show decide (r = r) = true from decide_eq_true rfl]))
            go_ret
            exact ⟨by first | rfl | simp, HB0.out.trans ((HX16.out.trans (HB19.out.mono HX16.out.size)).mono HB0.out.size)⟩
        · go_simp
          obtain ⟨y2, hYn⟩ : ∃ Y, y1.alloc (.cells #[.int .i64 0, .int .i64 0, .int .i64 0, .int .i64 0, .int .i64 0, .int .i64 0, .int .i64 0, .int .i64 0, .int .i64 0, .bool false] 24) = Y := ⟨_, rfl⟩
          have hbx : Below y1.heap.size y1 y2 := by rw [← hYn]; exact one_alloc _ _
          have hS2 : Below WB.heap.size WB y2 := hS1.trans (hbx.mono hS1.size)
          have HO1 := Lib.hid (HO1.out.below hbx)
          have HBK := Lib.hid (show BoxG y2 y1.heap.size ⟨0, 0, 0, 0, 0, 0, 0, 0, 0, false⟩ from by rw [← hYn]; exact BoxG.new y1 ⟨0, 0, 0, 0, 0, 0, 0, 0, 0, false⟩)
          have HBW := Lib.hid (show WB.heap.size ≤ y1.heap.size from hS1.size)
          rw [hYn]
          clear hYn hbx
          refine hKq.out _ _ hS2 (fun hHeld0 => ?_)
          clear hKq Kq hHeld
          have hHeld := hHeld0
          clear hHeld0
          try simp only [PT]
          refine one_step 5 (by kernel_rfl) rfl (fun Kq hKq => ?_)
          refine step_append_r 25 52 2 16 _ _ rfl Try.underlying25 info_ask (by omega) WB.heap.size (.slice X1 k1 e1) (qa.map Ak.row) rfl HO1.out B2 m2 d2 (qb.map Ak.row) rfl (HA2.out _ (HX8.out.trans (hS2.mono HX8.out.size))) (by simp; omega) (by simp; omega) hS2.size rfl ?_
          intro v_ y3 hown hg
          have hS3 : Below WB.heap.size WB y3 := hS2.grown hg hS2.size (fun g hg => (HO1.out.size g hg).1)
          have HBK := Lib.hid (show BoxG y3 y1.heap.size ⟨0, 0, 0, 0, 0, 0, 0, 0, 0, false⟩ from (hg.block _ (Array.getElem?_eq_some_iff.1 HBK.out).1 (own_ne HO1.out HBK.out (by decide))).trans HBK.out)
          rw [← List.map_append] at hown
          obtain ⟨X2, k2, e2, rfl, hrs⟩ := hown.rws
          obtain rfl : k2 = m1 + m2 := by rw [← hrs.len, List.length_map, List.length_append, HL1.out, HL2.out]
          have HAB := Lib.hid (show Aks y3 X2 (m1 + m2) e2 (qa ++ qb) from hrs)
          clear hrs
          clear hown hg
          refine hKq.out _ _ hS3 (fun hHeld0 => ?_)
          clear hKq Kq hHeld
          have hHeld := hHeld0
          clear hHeld0
          try simp only [PT]
          refine one_step 6 (by kernel_rfl) rfl (fun Kq hKq => ?_)
          go_simp
          go_at_call 16
          (with_reducible refine (HPO.out _ (HX8.out.trans (hS3.mono HX8.out.size)) _ _ HAB.out).mono ?_)
          rintro e y4 ⟨A9, n9, c9, r9, rfl, hl9, hr9, hbx, hz1, hz2⟩
          have hS4 : Below WB.heap.size WB y4 := hS3.trans (hbx.mono hS3.size)
          have HLT := Lib.hid (show y1.heap.size < y3.heap.size from (Array.getElem?_eq_some_iff.1 HBK.out).1)
          have HBK := Lib.hid (show BoxG y4 y1.heap.size ⟨0, 0, 0, 0, 0, 0, 0, 0, 0, false⟩ from BoxG.below HBK.out hbx)
          have HL9 := Lib.hid hl9
          have HR9 := Lib.hid hr9
          have HZ1 := Lib.hid hz1
          have HZ2 := Lib.hid hz2
          have HSC := Lib.hid (Below.refl y4.heap.size y4)
          try simp only [sgV]
          clear hl9 hr9 hz1 hz2 hbx
          refine hKq.out _ _ hS4 (fun hHeld0 => ?_)
          clear hKq Kq hHeld
          have hHeld := hHeld0
          clear hHeld0
          try simp only [PT]
          refine tk 7 (.tuple #[.agg #[.int .i64 r.pl, .int .i64 r.st, .int .i64 r.nx, .int .i64 r.ph, .int .i64 r.t, .int .i64 r.hd, .int .i64 r.hl, .int .i64 r.ak, .int .i64 r.wt, .bool r.sp], .slice A9 n9 c9]) hHeld (fun w => ?_) ?_
          · (go_simp; try rfl)
          simp only [PT]
          refine tk 8 (.agg #[.int .i64 r.pl, .int .i64 r.st, .int .i64 r.nx, .int .i64 r.ph, .int .i64 r.t, .int .i64 r.hd, .int .i64 r.hl, .int .i64 r.ak, .int .i64 r.wt, .bool r.sp]) hHeld (fun w => ?_) ?_
          · (go_simp; try rfl)
          simp only [PT]
          refine tk 9 (.slice A9 n9 c9) hHeld (fun w => ?_) ?_
          · (go_simp; try rfl)
          simp only [PT]
          refine one_step 11 (by kernel_rfl) rfl (fun Kq hKq => ?_)
          refine step_store_part 24 _ _ rfl (y1.heap.size) 0 (.agg #[.int .i64 r.pl, .int .i64 r.st, .int .i64 r.nx, .int .i64 r.ph, .int .i64 r.t, .int .i64 r.hd, .int .i64 r.hl, .int .i64 r.ak, .int .i64 r.wt, .bool r.sp]) #[.int .i64 r.pl, .int .i64 r.st, .int .i64 r.nx, .int .i64 r.ph, .int .i64 r.t, .int .i64 r.hd, .int .i64 r.hl, .int .i64 r.ak, .int .i64 r.wt, .bool r.sp] rfl rfl rfl 24 #[.int .i64 0, .int .i64 0, .int .i64 0, .int .i64 0, .int .i64 0, .int .i64 0, .int .i64 0, .int .i64 0, .int .i64 0, .bool false] #[.int .i64 r.pl, .int .i64 r.st, .int .i64 r.nx, .int .i64 r.ph, .int .i64 r.t, .int .i64 r.hd, .int .i64 r.hl, .int .i64 r.ak, .int .i64 r.wt, .bool r.sp] HBK.out info_sig (by simp) (one_sig _ _ _ _ _ _ _ _ _ _) rfl rfl ?_
          intro y5 hgk hbk hzk
          have hS5 : Below WB.heap.size WB y5 := Below.grows hS4 hgk hS4.size HBW.out
          have HBA := Lib.hid (show BoxG y5 (y1.heap.size) r from hbk)
          have HLZ := Lib.hid (Lns.low HL9.out HZ1.out HZ2.out hgk HLT.out)
          clear hgk hbk hzk
          refine hKq.out _ _ hS5 (fun hHeld0 => ?_)
          clear hKq Kq hHeld
          have hHeld := hHeld0
          clear hHeld0
          try simp only [PT]
          refine tk 12 (.slice A9 n9 c9) hHeld (fun w => ?_) ?_
          · (go_simp; try rfl)
          simp only [PT]
          refine wpAnyH_done (by kernel_rfl) ?_ _
          clear hHeld
          obtain ⟨W16, hW16⟩ : ∃ W, y5 = W := ⟨_, rfl⟩
          have hs16 := hS5
          rw [hW16] at hs16 HBA HLZ ⊢
          obtain ⟨bo, hbo⟩ : ∃ b : Nat, y1.heap.size = b := ⟨_, rfl⟩
          rw [hbo] at HBA ⊢
          clear hW16 hbo
          have HX16 := Lib.hid (HX8.out.trans (hs16.mono HX8.out.size))
          have HY4 := Lib.hid (HY4.out.trans (hs16.mono HY4.out.size))
          have HY5 := Lib.hid (HY5.out.trans (hs16.mono HY5.out.size))
          have HY7 := Lib.hid (HY7.out.trans (hs16.mono HY7.out.size))
          have HY8 := Lib.hid (HY8.out.trans (hs16.mono HY8.out.size))
          have HM7 := Lib.hid (HI7.out W16 HY7.out)
          have HM8 := Lib.hid (HI8.out W16 HY8.out)
          have hn7 : n7 ≤ 60 := HN7.out
          have hn8 : n8 ≤ 60 := HN8.out
          have hln7 := HM7.out.len
          have hln8 := HM8.out.len
          clear hs16
          go_wp2_with (first
            | (at_builtin
               refine wpList_append_r_at rfl 34 40 1 24 _ _ rfl Try.underlying34 info_rows (by omega) W16.heap.size (.slice none 0 0) [] rfl (OwnR.nil _ _ _ _) A7 n7 c7 (r7.map Rw.row) rfl HM7.out.rws (by simp; omega) (by simp; omega) (Nat.le_refl _) ?_
               intro v17 w17 hown17 hg17 hv17
               have HB17 := Lib.hid ((Below.refl W16.heap.size W16).grown hg17 (Nat.le_refl _) (fun k hk => by cases hk))
               have HO17 := Lib.hid hown17
               clear hown17 hg17 hv17)
            | (at_builtin
               refine wpList_append_r_at rfl 34 40 1 24 _ _ rfl Try.underlying34 info_rows (by omega) W16.heap.size v17 _ rfl HO17.out A8 n8 c8 (r8.map Rw.row) rfl (HM8.out.below HB17.out).rws (by simp; omega) (by simp; omega) HB17.out.size ?_
               intro v18 w18 hown18 hg18 hv18
               rw [List.nil_append] at hown18
               have HB18 := Lib.hid (HB17.out.grown hg18 HB17.out.size (fun k hk => (HO17.out.size k hk).1))
               obtain ⟨A18, n18, c18, rfl, hl18⟩ := lns_both HM7.out HM8.out hown18 HB18.out
               have HL18 := Lib.hid hl18
               have HM18 := Lib.hid (HLZ.out.below HB18.out)
               clear hown18 hg18 hv18 hl18)
            | (go_at_call 19
               (with_reducible refine (rrows_any _ _ _ _ _ _ _ _ _ HM18.out HL18.out).mono ?_)
               rintro e w19 ⟨he, hbx⟩
               obtain rfl : e = .returned (.bool true) := by rw [he, List.map_append, HR9.out, HR7.out, HR8.out]; simp
               have HB19 := Lib.hid (HB18.out.trans (hbx.mono HB18.out.size))
               obtain ⟨b0, b1, b2, b3, b4, b5, b6, b7, b8, b9⟩ := (HG4.out _ (HY4.out.trans (HB19.out.mono HY4.out.size))).cells
               obtain ⟨d0, d1, d2, d3, d4, d5, d6, d7, d8, d9⟩ := (HG5.out _ (HY5.out.trans (HB19.out.mono HY5.out.size))).cells
               obtain ⟨f0, f1, f2, f3, f4, f5, f6, f7, f8, f9⟩ := (HG8.out _ (HY8.out.trans (HB19.out.mono HY8.out.size))).cells
               obtain ⟨g0, g1, g2, g3, g4, g5, g6, g7, g8, g9⟩ := (BoxG.below HBA.out HB19.out).cells
               clear hbx he)
            | ((with_reducible refine wpList_eq_sig _ _ rfl x x ?hx ?hy ?_ ?hw); (case hx => rfl); (case hy => rfl); (case hw => rfl)
               rw [show decide (x = x) = true from decide_eq_true rfl])
            | ((with_reducible refine wpList_eq_sig _ _ rfl r r ?hx2 ?hy2 ?_ ?hw2); (case hx2 => rfl); (case hy2 => rfl); (case hw2 => rfl)
               rw [show decide (r = r) = true from decide_eq_true rfl]))
          go_ret
          exact ⟨by first | rfl | simp, HB0.out.trans ((HX16.out.trans (HB19.out.mono HX16.out.size)).mono HB0.out.size)⟩
      · go_simp
        obtain ⟨y1, hYn⟩ : ∃ Y, y0.alloc (.cells #[.int .i64 0, .int .i64 0, .int .i64 0, .int .i64 0, .int .i64 0, .int .i64 0, .int .i64 0, .int .i64 0, .int .i64 0, .bool false] 24) = Y := ⟨_, rfl⟩
        have hbx : Below y0.heap.size y0 y1 := by rw [← hYn]; exact one_alloc _ _
        have hS1 : Below WB.heap.size WB y1 := hSd.trans (hbx.mono hSd.size)
        have HBK := Lib.hid (show BoxG y1 y0.heap.size ⟨0, 0, 0, 0, 0, 0, 0, 0, 0, false⟩ from by rw [← hYn]; exact BoxG.new y0 ⟨0, 0, 0, 0, 0, 0, 0, 0, 0, false⟩)
        have HBW := Lib.hid (show WB.heap.size ≤ y0.heap.size from hSd.size)
        rw [hYn]
        clear hYn hbx
        refine hKq.out _ _ hS1 (fun hHeld0 => ?_)
        clear hKq Kq hHeld
        have hHeld := hHeld0
        clear hHeld0
        try simp only [PT]
        refine one_step 3 (by kernel_rfl) rfl (fun Kq hKq => ?_)
        refine step_append_r 25 52 2 16 _ _ rfl Try.underlying25 info_ask (by omega) WB.heap.size (.slice none 0 0) [] rfl (OwnR.nil _ _ _ _) B1 m1 d1 (qa.map Ak.row) rfl (HA1.out _ (HX8.out.trans (hS1.mono HX8.out.size))) (by simp; omega) (by simp; omega) hS1.size rfl ?_
        intro v_ y2 hown hg
        have hS2 : Below WB.heap.size WB y2 := hS1.grown hg hS1.size (fun g hg => by simp [Value.ownBlock] at hg)
        have HBK := Lib.hid (show BoxG y2 y0.heap.size ⟨0, 0, 0, 0, 0, 0, 0, 0, 0, false⟩ from (hg.block _ (Array.getElem?_eq_some_iff.1 HBK.out).1 (fun e => by cases e)).trans HBK.out)
        rw [List.nil_append] at hown
        obtain ⟨X1, k1, e1, rfl, -⟩ := hown.rws
        have HO1 := Lib.hid hown
        clear hown hg
        refine hKq.out _ _ hS2 (fun hHeld0 => ?_)
        clear hKq Kq hHeld
        have hHeld := hHeld0
        clear hHeld0
        try simp only [PT]
        refine one_step 5 (by kernel_rfl) rfl (fun Kq hKq => ?_)
        refine step_append_r 25 52 2 16 _ _ rfl Try.underlying25 info_ask (by omega) WB.heap.size (.slice X1 k1 e1) (qa.map Ak.row) rfl HO1.out B2 m2 d2 (qb.map Ak.row) rfl (HA2.out _ (HX8.out.trans (hS2.mono HX8.out.size))) (by simp; omega) (by simp; omega) hS2.size rfl ?_
        intro v_ y3 hown hg
        have hS3 : Below WB.heap.size WB y3 := hS2.grown hg hS2.size (fun g hg => (HO1.out.size g hg).1)
        have HBK := Lib.hid (show BoxG y3 y0.heap.size ⟨0, 0, 0, 0, 0, 0, 0, 0, 0, false⟩ from (hg.block _ (Array.getElem?_eq_some_iff.1 HBK.out).1 (own_ne HO1.out HBK.out (by decide))).trans HBK.out)
        rw [← List.map_append] at hown
        obtain ⟨X2, k2, e2, rfl, hrs⟩ := hown.rws
        obtain rfl : k2 = m1 + m2 := by rw [← hrs.len, List.length_map, List.length_append, HL1.out, HL2.out]
        have HAB := Lib.hid (show Aks y3 X2 (m1 + m2) e2 (qa ++ qb) from hrs)
        clear hrs
        clear hown hg
        refine hKq.out _ _ hS3 (fun hHeld0 => ?_)
        clear hKq Kq hHeld
        have hHeld := hHeld0
        clear hHeld0
        try simp only [PT]
        refine one_step 6 (by kernel_rfl) rfl (fun Kq hKq => ?_)
        go_simp
        go_at_call 16
        (with_reducible refine (HPO.out _ (HX8.out.trans (hS3.mono HX8.out.size)) _ _ HAB.out).mono ?_)
        rintro e y4 ⟨A9, n9, c9, r9, rfl, hl9, hr9, hbx, hz1, hz2⟩
        have hS4 : Below WB.heap.size WB y4 := hS3.trans (hbx.mono hS3.size)
        have HLT := Lib.hid (show y0.heap.size < y3.heap.size from (Array.getElem?_eq_some_iff.1 HBK.out).1)
        have HBK := Lib.hid (show BoxG y4 y0.heap.size ⟨0, 0, 0, 0, 0, 0, 0, 0, 0, false⟩ from BoxG.below HBK.out hbx)
        have HL9 := Lib.hid hl9
        have HR9 := Lib.hid hr9
        have HZ1 := Lib.hid hz1
        have HZ2 := Lib.hid hz2
        have HSC := Lib.hid (Below.refl y4.heap.size y4)
        try simp only [sgV]
        clear hl9 hr9 hz1 hz2 hbx
        refine hKq.out _ _ hS4 (fun hHeld0 => ?_)
        clear hKq Kq hHeld
        have hHeld := hHeld0
        clear hHeld0
        try simp only [PT]
        refine tk 7 (.tuple #[.agg #[.int .i64 r.pl, .int .i64 r.st, .int .i64 r.nx, .int .i64 r.ph, .int .i64 r.t, .int .i64 r.hd, .int .i64 r.hl, .int .i64 r.ak, .int .i64 r.wt, .bool r.sp], .slice A9 n9 c9]) hHeld (fun w => ?_) ?_
        · (go_simp; try rfl)
        simp only [PT]
        refine tk 8 (.agg #[.int .i64 r.pl, .int .i64 r.st, .int .i64 r.nx, .int .i64 r.ph, .int .i64 r.t, .int .i64 r.hd, .int .i64 r.hl, .int .i64 r.ak, .int .i64 r.wt, .bool r.sp]) hHeld (fun w => ?_) ?_
        · (go_simp; try rfl)
        simp only [PT]
        refine tk 9 (.slice A9 n9 c9) hHeld (fun w => ?_) ?_
        · (go_simp; try rfl)
        simp only [PT]
        refine one_step 11 (by kernel_rfl) rfl (fun Kq hKq => ?_)
        refine step_store_part 24 _ _ rfl (y0.heap.size) 0 (.agg #[.int .i64 r.pl, .int .i64 r.st, .int .i64 r.nx, .int .i64 r.ph, .int .i64 r.t, .int .i64 r.hd, .int .i64 r.hl, .int .i64 r.ak, .int .i64 r.wt, .bool r.sp]) #[.int .i64 r.pl, .int .i64 r.st, .int .i64 r.nx, .int .i64 r.ph, .int .i64 r.t, .int .i64 r.hd, .int .i64 r.hl, .int .i64 r.ak, .int .i64 r.wt, .bool r.sp] rfl rfl rfl 24 #[.int .i64 0, .int .i64 0, .int .i64 0, .int .i64 0, .int .i64 0, .int .i64 0, .int .i64 0, .int .i64 0, .int .i64 0, .bool false] #[.int .i64 r.pl, .int .i64 r.st, .int .i64 r.nx, .int .i64 r.ph, .int .i64 r.t, .int .i64 r.hd, .int .i64 r.hl, .int .i64 r.ak, .int .i64 r.wt, .bool r.sp] HBK.out info_sig (by simp) (one_sig _ _ _ _ _ _ _ _ _ _) rfl rfl ?_
        intro y5 hgk hbk hzk
        have hS5 : Below WB.heap.size WB y5 := Below.grows hS4 hgk hS4.size HBW.out
        have HBA := Lib.hid (show BoxG y5 (y0.heap.size) r from hbk)
        have HLZ := Lib.hid (Lns.low HL9.out HZ1.out HZ2.out hgk HLT.out)
        clear hgk hbk hzk
        refine hKq.out _ _ hS5 (fun hHeld0 => ?_)
        clear hKq Kq hHeld
        have hHeld := hHeld0
        clear hHeld0
        try simp only [PT]
        refine tk 12 (.slice A9 n9 c9) hHeld (fun w => ?_) ?_
        · (go_simp; try rfl)
        simp only [PT]
        refine wpAnyH_done (by kernel_rfl) ?_ _
        clear hHeld
        obtain ⟨W16, hW16⟩ : ∃ W, y5 = W := ⟨_, rfl⟩
        have hs16 := hS5
        rw [hW16] at hs16 HBA HLZ ⊢
        obtain ⟨bo, hbo⟩ : ∃ b : Nat, y0.heap.size = b := ⟨_, rfl⟩
        rw [hbo] at HBA ⊢
        clear hW16 hbo
        have HX16 := Lib.hid (HX8.out.trans (hs16.mono HX8.out.size))
        have HY4 := Lib.hid (HY4.out.trans (hs16.mono HY4.out.size))
        have HY5 := Lib.hid (HY5.out.trans (hs16.mono HY5.out.size))
        have HY7 := Lib.hid (HY7.out.trans (hs16.mono HY7.out.size))
        have HY8 := Lib.hid (HY8.out.trans (hs16.mono HY8.out.size))
        have HM7 := Lib.hid (HI7.out W16 HY7.out)
        have HM8 := Lib.hid (HI8.out W16 HY8.out)
        have hn7 : n7 ≤ 60 := HN7.out
        have hn8 : n8 ≤ 60 := HN8.out
        have hln7 := HM7.out.len
        have hln8 := HM8.out.len
        clear hs16
        go_wp2_with (first
          | (at_builtin
             refine wpList_append_r_at rfl 34 40 1 24 _ _ rfl Try.underlying34 info_rows (by omega) W16.heap.size (.slice none 0 0) [] rfl (OwnR.nil _ _ _ _) A7 n7 c7 (r7.map Rw.row) rfl HM7.out.rws (by simp; omega) (by simp; omega) (Nat.le_refl _) ?_
             intro v17 w17 hown17 hg17 hv17
             have HB17 := Lib.hid ((Below.refl W16.heap.size W16).grown hg17 (Nat.le_refl _) (fun k hk => by cases hk))
             have HO17 := Lib.hid hown17
             clear hown17 hg17 hv17)
          | (at_builtin
             refine wpList_append_r_at rfl 34 40 1 24 _ _ rfl Try.underlying34 info_rows (by omega) W16.heap.size v17 _ rfl HO17.out A8 n8 c8 (r8.map Rw.row) rfl (HM8.out.below HB17.out).rws (by simp; omega) (by simp; omega) HB17.out.size ?_
             intro v18 w18 hown18 hg18 hv18
             rw [List.nil_append] at hown18
             have HB18 := Lib.hid (HB17.out.grown hg18 HB17.out.size (fun k hk => (HO17.out.size k hk).1))
             obtain ⟨A18, n18, c18, rfl, hl18⟩ := lns_both HM7.out HM8.out hown18 HB18.out
             have HL18 := Lib.hid hl18
             have HM18 := Lib.hid (HLZ.out.below HB18.out)
             clear hown18 hg18 hv18 hl18)
          | (go_at_call 19
             (with_reducible refine (rrows_any _ _ _ _ _ _ _ _ _ HM18.out HL18.out).mono ?_)
             rintro e w19 ⟨he, hbx⟩
             obtain rfl : e = .returned (.bool true) := by rw [he, List.map_append, HR9.out, HR7.out, HR8.out]; simp
             have HB19 := Lib.hid (HB18.out.trans (hbx.mono HB18.out.size))
             obtain ⟨b0, b1, b2, b3, b4, b5, b6, b7, b8, b9⟩ := (HG4.out _ (HY4.out.trans (HB19.out.mono HY4.out.size))).cells
             obtain ⟨d0, d1, d2, d3, d4, d5, d6, d7, d8, d9⟩ := (HG5.out _ (HY5.out.trans (HB19.out.mono HY5.out.size))).cells
             obtain ⟨f0, f1, f2, f3, f4, f5, f6, f7, f8, f9⟩ := (HG8.out _ (HY8.out.trans (HB19.out.mono HY8.out.size))).cells
             obtain ⟨g0, g1, g2, g3, g4, g5, g6, g7, g8, g9⟩ := (BoxG.below HBA.out HB19.out).cells
             clear hbx he)
          | ((with_reducible refine wpList_eq_sig _ _ rfl x x ?hx ?hy ?_ ?hw); (case hx => rfl); (case hy => rfl); (case hw => rfl)
             rw [show decide (x = x) = true from decide_eq_true rfl])
          | ((with_reducible refine wpList_eq_sig _ _ rfl r r ?hx2 ?hy2 ?_ ?hw2); (case hx2 => rfl); (case hy2 => rfl); (case hw2 => rfl)
             rw [show decide (r = r) = true from decide_eq_true rfl]))
        go_ret
        exact ⟨by first | rfl | simp, HB0.out.trans ((HX16.out.trans (HB19.out.mono HX16.out.size)).mono HB0.out.size)⟩
set_option maxHeartbeats 16000000 in
theorem fplay_any (HO : SafOk) (HN : StgOk) (HT : LmpText) (A : Option Addr) (n c : Nat) (l : List Pl) (s : Sg) (B1 : Option Addr) (m1 d1 : Nat) (qa : List Ak) (B2 : Option Addr) (m2 d2 : Nat) (qb : List Ak) (y : Int) (w : World) (hl : Pls w A n c l) (hq1 : Aks w B1 m1 d1 qa) (hq2 : Aks w B2 m2 d2 qb) (hts : SmG s) :
    Calls Try.prog 9 #[.slice A n c, sgV s, .slice B1 m1 d1, .slice B2 m2 d2, .int .i64 y] w fun e w' => e = .returned (.bool true) ∧ Below w.heap.size w w' := by
  cases hfw : fewAllB l with
  | false =>
  · skip
    have hq1s := hq1.small
    have hq2s := hq2.small
    have hsm := hl.small
    have hlen := hl.len
    simp only [sgV]
    obtain ⟨W0, hW0⟩ : ∃ W0, w.alloc (.cells #[.int .i64 s.pl, .int .i64 s.st, .int .i64 s.nx, .int .i64 s.ph, .int .i64 s.t, .int .i64 s.hd, .int .i64 s.hl, .int .i64 s.ak, .int .i64 s.wt, .bool s.sp] 24) = W0 := ⟨_, rfl⟩
    have hB0 : Below w.heap.size w W0 := by rw [← hW0]; exact one_alloc w _
    have hbs : BoxG W0 w.heap.size s := by rw [← hW0]; exact BoxG.new w s
    have HPL := Lib.hid (show ∀ X, Below W0.heap.size W0 X → Pls X A n c l from fun X hX => (hl.below hB0).below hX)
    have HBS := Lib.hid (show ∀ X, Below W0.heap.size W0 X → BoxG X w.heap.size s from fun X hX => hbs.below hX)
    have HLL := Lib.hid hlen
    have HB0 := Lib.hid hB0
    have HW := Lib.hid hW0
    have HAW := Lib.hid (sawake17_any HO HN HT W0)
    have HFW := Lib.hid (fun X hX => pfewall_any A n c l X (HPL.out X hX))
    clear hW0 hB0 hbs hl
    rw [hfw] at HFW
    clear hfw hq1 hq2
    go_enter Try.func9, Try.ntmps9
    go_wp2_with (first
        | (go_at_call 10
           rw [HW.out]
           (with_reducible refine (HAW.out).mono ?_)
           rintro e w1 ⟨rfl, hbx⟩
           have HX1 := Lib.hid hbx
           clear hbx)
        | (go_at_call 11
           (with_reducible refine (HFW.out _ HX1.out).mono ?_)
           rintro e w2 ⟨rfl, hbx⟩
           have HX2 := Lib.hid (HX1.out.trans (hbx.mono HX1.out.size))
           obtain ⟨a0, a1, a2, a3, a4, a5, a6, a7, a8, a9⟩ := (HBS.out w2 HX2.out).cells
           clear hbx))
    go_ret
    exact ⟨rfl, HB0.out.trans (HX2.out.mono HB0.out.size)⟩
  | true =>
  by_cases g1 : 30 < (m1 : Int)
  · skip
    have hq1s := hq1.small
    have hq2s := hq2.small
    have hsm := hl.small
    have hlen := hl.len
    simp only [sgV]
    obtain ⟨W0, hW0⟩ : ∃ W0, w.alloc (.cells #[.int .i64 s.pl, .int .i64 s.st, .int .i64 s.nx, .int .i64 s.ph, .int .i64 s.t, .int .i64 s.hd, .int .i64 s.hl, .int .i64 s.ak, .int .i64 s.wt, .bool s.sp] 24) = W0 := ⟨_, rfl⟩
    have hB0 : Below w.heap.size w W0 := by rw [← hW0]; exact one_alloc w _
    have hbs : BoxG W0 w.heap.size s := by rw [← hW0]; exact BoxG.new w s
    have HPL := Lib.hid (show ∀ X, Below W0.heap.size W0 X → Pls X A n c l from fun X hX => (hl.below hB0).below hX)
    have HBS := Lib.hid (show ∀ X, Below W0.heap.size W0 X → BoxG X w.heap.size s from fun X hX => hbs.below hX)
    have HLL := Lib.hid hlen
    have HB0 := Lib.hid hB0
    have HW := Lib.hid hW0
    have HAW := Lib.hid (sawake17_any HO HN HT W0)
    have HFW := Lib.hid (fun X hX => pfewall_any A n c l X (HPL.out X hX))
    clear hW0 hB0 hbs hl
    rw [hfw] at HFW
    clear hfw hq1 hq2
    go_enter Try.func9, Try.ntmps9
    go_wp2_with (first
        | (go_at_call 10
           rw [HW.out]
           (with_reducible refine (HAW.out).mono ?_)
           rintro e w1 ⟨rfl, hbx⟩
           have HX1 := Lib.hid hbx
           clear hbx)
        | (go_at_call 11
           (with_reducible refine (HFW.out _ HX1.out).mono ?_)
           rintro e w2 ⟨rfl, hbx⟩
           have HX2 := Lib.hid (HX1.out.trans (hbx.mono HX1.out.size))
           obtain ⟨a0, a1, a2, a3, a4, a5, a6, a7, a8, a9⟩ := (HBS.out w2 HX2.out).cells
           clear hbx))
    go_ret
    exact ⟨rfl, HB0.out.trans (HX2.out.mono HB0.out.size)⟩
  by_cases g2 : 30 < (m2 : Int)
  · skip
    have hq1s := hq1.small
    have hq2s := hq2.small
    have hsm := hl.small
    have hlen := hl.len
    simp only [sgV]
    obtain ⟨W0, hW0⟩ : ∃ W0, w.alloc (.cells #[.int .i64 s.pl, .int .i64 s.st, .int .i64 s.nx, .int .i64 s.ph, .int .i64 s.t, .int .i64 s.hd, .int .i64 s.hl, .int .i64 s.ak, .int .i64 s.wt, .bool s.sp] 24) = W0 := ⟨_, rfl⟩
    have hB0 : Below w.heap.size w W0 := by rw [← hW0]; exact one_alloc w _
    have hbs : BoxG W0 w.heap.size s := by rw [← hW0]; exact BoxG.new w s
    have HPL := Lib.hid (show ∀ X, Below W0.heap.size W0 X → Pls X A n c l from fun X hX => (hl.below hB0).below hX)
    have HBS := Lib.hid (show ∀ X, Below W0.heap.size W0 X → BoxG X w.heap.size s from fun X hX => hbs.below hX)
    have HLL := Lib.hid hlen
    have HB0 := Lib.hid hB0
    have HW := Lib.hid hW0
    have HAW := Lib.hid (sawake17_any HO HN HT W0)
    have HFW := Lib.hid (fun X hX => pfewall_any A n c l X (HPL.out X hX))
    clear hW0 hB0 hbs hl
    rw [hfw] at HFW
    clear hfw hq1 hq2
    go_enter Try.func9, Try.ntmps9
    go_wp2_with (first
        | (go_at_call 10
           rw [HW.out]
           (with_reducible refine (HAW.out).mono ?_)
           rintro e w1 ⟨rfl, hbx⟩
           have HX1 := Lib.hid hbx
           clear hbx)
        | (go_at_call 11
           (with_reducible refine (HFW.out _ HX1.out).mono ?_)
           rintro e w2 ⟨rfl, hbx⟩
           have HX2 := Lib.hid (HX1.out.trans (hbx.mono HX1.out.size))
           obtain ⟨a0, a1, a2, a3, a4, a5, a6, a7, a8, a9⟩ := (HBS.out w2 HX2.out).cells
           clear hbx))
    go_ret
    exact ⟨rfl, HB0.out.trans (HX2.out.mono HB0.out.size)⟩
  by_cases g3 : y < 0
  · skip
    have hq1s := hq1.small
    have hq2s := hq2.small
    have hsm := hl.small
    have hlen := hl.len
    simp only [sgV]
    obtain ⟨W0, hW0⟩ : ∃ W0, w.alloc (.cells #[.int .i64 s.pl, .int .i64 s.st, .int .i64 s.nx, .int .i64 s.ph, .int .i64 s.t, .int .i64 s.hd, .int .i64 s.hl, .int .i64 s.ak, .int .i64 s.wt, .bool s.sp] 24) = W0 := ⟨_, rfl⟩
    have hB0 : Below w.heap.size w W0 := by rw [← hW0]; exact one_alloc w _
    have hbs : BoxG W0 w.heap.size s := by rw [← hW0]; exact BoxG.new w s
    have HPL := Lib.hid (show ∀ X, Below W0.heap.size W0 X → Pls X A n c l from fun X hX => (hl.below hB0).below hX)
    have HBS := Lib.hid (show ∀ X, Below W0.heap.size W0 X → BoxG X w.heap.size s from fun X hX => hbs.below hX)
    have HLL := Lib.hid hlen
    have HB0 := Lib.hid hB0
    have HW := Lib.hid hW0
    have HAW := Lib.hid (sawake17_any HO HN HT W0)
    have HFW := Lib.hid (fun X hX => pfewall_any A n c l X (HPL.out X hX))
    clear hW0 hB0 hbs hl
    rw [hfw] at HFW
    clear hfw hq1 hq2
    go_enter Try.func9, Try.ntmps9
    go_wp2_with (first
        | (go_at_call 10
           rw [HW.out]
           (with_reducible refine (HAW.out).mono ?_)
           rintro e w1 ⟨rfl, hbx⟩
           have HX1 := Lib.hid hbx
           clear hbx)
        | (go_at_call 11
           (with_reducible refine (HFW.out _ HX1.out).mono ?_)
           rintro e w2 ⟨rfl, hbx⟩
           have HX2 := Lib.hid (HX1.out.trans (hbx.mono HX1.out.size))
           obtain ⟨a0, a1, a2, a3, a4, a5, a6, a7, a8, a9⟩ := (HBS.out w2 HX2.out).cells
           clear hbx))
    go_ret
    exact ⟨rfl, HB0.out.trans (HX2.out.mono HB0.out.size)⟩
  by_cases g4 : 60 < y
  · skip
    have hq1s := hq1.small
    have hq2s := hq2.small
    have hsm := hl.small
    have hlen := hl.len
    simp only [sgV]
    obtain ⟨W0, hW0⟩ : ∃ W0, w.alloc (.cells #[.int .i64 s.pl, .int .i64 s.st, .int .i64 s.nx, .int .i64 s.ph, .int .i64 s.t, .int .i64 s.hd, .int .i64 s.hl, .int .i64 s.ak, .int .i64 s.wt, .bool s.sp] 24) = W0 := ⟨_, rfl⟩
    have hB0 : Below w.heap.size w W0 := by rw [← hW0]; exact one_alloc w _
    have hbs : BoxG W0 w.heap.size s := by rw [← hW0]; exact BoxG.new w s
    have HPL := Lib.hid (show ∀ X, Below W0.heap.size W0 X → Pls X A n c l from fun X hX => (hl.below hB0).below hX)
    have HBS := Lib.hid (show ∀ X, Below W0.heap.size W0 X → BoxG X w.heap.size s from fun X hX => hbs.below hX)
    have HLL := Lib.hid hlen
    have HB0 := Lib.hid hB0
    have HW := Lib.hid hW0
    have HAW := Lib.hid (sawake17_any HO HN HT W0)
    have HFW := Lib.hid (fun X hX => pfewall_any A n c l X (HPL.out X hX))
    clear hW0 hB0 hbs hl
    rw [hfw] at HFW
    clear hfw hq1 hq2
    go_enter Try.func9, Try.ntmps9
    go_wp2_with (first
        | (go_at_call 10
           rw [HW.out]
           (with_reducible refine (HAW.out).mono ?_)
           rintro e w1 ⟨rfl, hbx⟩
           have HX1 := Lib.hid hbx
           clear hbx)
        | (go_at_call 11
           (with_reducible refine (HFW.out _ HX1.out).mono ?_)
           rintro e w2 ⟨rfl, hbx⟩
           have HX2 := Lib.hid (HX1.out.trans (hbx.mono HX1.out.size))
           obtain ⟨a0, a1, a2, a3, a4, a5, a6, a7, a8, a9⟩ := (HBS.out w2 HX2.out).cells
           clear hbx))
    go_ret
    exact ⟨rfl, HB0.out.trans (HX2.out.mono HB0.out.size)⟩
  cases hm : mayS l s with
  | false =>
  · skip
    have hq1s := hq1.small
    have hq2s := hq2.small
    have hsm := hl.small
    have hlen := hl.len
    simp only [sgV]
    obtain ⟨W0, hW0⟩ : ∃ W0, w.alloc (.cells #[.int .i64 s.pl, .int .i64 s.st, .int .i64 s.nx, .int .i64 s.ph, .int .i64 s.t, .int .i64 s.hd, .int .i64 s.hl, .int .i64 s.ak, .int .i64 s.wt, .bool s.sp] 24) = W0 := ⟨_, rfl⟩
    have hB0 : Below w.heap.size w W0 := by rw [← hW0]; exact one_alloc w _
    have hbs : BoxG W0 w.heap.size s := by rw [← hW0]; exact BoxG.new w s
    have HPL := Lib.hid (show ∀ X, Below W0.heap.size W0 X → Pls X A n c l from fun X hX => (hl.below hB0).below hX)
    have HBS := Lib.hid (show ∀ X, Below W0.heap.size W0 X → BoxG X w.heap.size s from fun X hX => hbs.below hX)
    have HLL := Lib.hid hlen
    have HB0 := Lib.hid hB0
    have HW := Lib.hid hW0
    have HAW := Lib.hid (sawake17_any HO HN HT W0)
    have HFW := Lib.hid (fun X hX => pfewall_any A n c l X (HPL.out X hX))
    clear hW0 hB0 hbs hl
    rw [hfw] at HFW
    obtain ⟨hl5, hfp⟩ := fewall_iff.1 hfw
    have hn1000 : n ≤ 1000 := by omega
    have hmem : ∀ p ∈ l, p.n ≤ 1000 ∧ p.k ≤ 1000 := fun p hp => by have := hfp p hp; omega
    have HMY := Lib.hid (fun X hX => HN.may A n c l s X (HPL.out X hX) hts hn1000 hmem)
    rw [hm] at HMY
    simp only [sgV] at HMY
    clear hm hmem hfp
    clear hfw hq1 hq2
    go_enter Try.func9, Try.ntmps9
    go_wp2_with (first
        | (go_at_call 10
           rw [HW.out]
           (with_reducible refine (HAW.out).mono ?_)
           rintro e w1 ⟨rfl, hbx⟩
           have HX1 := Lib.hid hbx
           clear hbx)
        | (go_at_call 11
           (with_reducible refine (HFW.out _ HX1.out).mono ?_)
           rintro e w2 ⟨rfl, hbx⟩
           have HX2 := Lib.hid (HX1.out.trans (hbx.mono HX1.out.size))
           obtain ⟨a0, a1, a2, a3, a4, a5, a6, a7, a8, a9⟩ := (HBS.out w2 HX2.out).cells
           clear hbx)
        | (go_at_call 22
           (with_reducible refine (HMY.out _ HX2.out).mono ?_)
           rintro e w3 ⟨rfl, hbx⟩
           have HX3 := Lib.hid (HX2.out.trans (hbx.mono HX2.out.size))
           obtain ⟨mm0, mm1, mm2, mm3, mm4, mm5, mm6, mm7, mm8, mm9⟩ := (HBS.out w3 HX3.out).cells
           clear hbx))
    go_ret
    exact ⟨rfl, HB0.out.trans (HX3.out.mono HB0.out.size)⟩
  | true =>
  obtain ⟨K, rfl⟩ := Int.eq_ofNat_of_zero_le (show 0 ≤ y by omega)
  exact fplay_o HO HN HT A n c l s B1 m1 d1 qa B2 m2 d2 qb K w hl hq1 hq2 hts hfw (by omega) (by omega) (by omega) hm
end Go.Proofs.Ytgnhmdfajnnkhaa

