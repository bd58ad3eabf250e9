/- The walk over the law SafePlan. -/
import Derived.Test.YtgnhmdfajnnkhaaSbJC
namespace Go.Proofs.Ytgnhmdfajnnkhaa
set_option maxRecDepth 100000
set_option linter.unusedVariables false
set_option linter.unusedSimpArgs false
open Go.RowKit

set_option maxHeartbeats 16000000 in
theorem fplan_e (HO : SafOk) (HN : StgOk) (HT : LmpText) (A : Option Addr) (n c : Nat) (l : List Pl) (s : Sg) (k x : Int) (w : World) (hl : Pls w A n c l) (hts : SmG s) (hfw : fewAllB l = true) (x0 : ¬ x < 0) (x1 : ¬ 60 < x) (e : Int) (he : e ≠ 0) (hd : doS l s 4 k = (s, e)) :
    Calls Try.prog 8 #[.slice A n c, sgV s, .int .i64 k, .int .i64 x] w fun e w' => e = .returned (.bool true) ∧ Below w.heap.size w w' := by
  have hsm := hl.small
  have hlen := hl.len
  simp only [sgV]
  obtain ⟨W0, hW0⟩ : ∃ W0, w.alloc (.cells #[.int .i64 s.pl, .int .i64 s.st, .int .i64 s.nx, .int .i64 s.ph, .int .i64 s.t, .int .i64 s.hd, .int .i64 s.hl, .int .i64 s.ak, .int .i64 s.wt, .bool s.sp] 24) = W0 := ⟨_, rfl⟩
  have hB0 : Below w.heap.size w W0 := by rw [← hW0]; exact one_alloc w _
  have hbs : BoxG W0 w.heap.size s := by rw [← hW0]; exact BoxG.new w s
  have HPL := Lib.hid (show ∀ X, Below W0.heap.size W0 X → Pls X A n c l from fun X hX => (hl.below hB0).below hX)
  have HBS := Lib.hid (show ∀ X, Below W0.heap.size W0 X → BoxG X w.heap.size s from fun X hX => hbs.below hX)
  have HLL := Lib.hid hlen
  have HB0 := Lib.hid hB0
  have HW := Lib.hid hW0
  have HAW := Lib.hid (sawake17_any HO HN HT W0)
  have HFW := Lib.hid (fun X hX => pfewall_any A n c l X (HPL.out X hX))
  clear hW0 hB0 hbs hl
  rw [hfw] at HFW
  obtain ⟨hl5, hfp⟩ := fewall_iff.1 hfw
  have hn1000 : n ≤ 1000 := by omega
  have hmem : ∀ p ∈ l, p.n ≤ 1000 ∧ p.k ≤ 1000 := fun p hp => by have := hfp p hp; omega
  have H1 := Lib.hid (fun X hX => HO.ask A n c l s 4 k X (HPL.out X hX) hts hn1000 hmem)
  rw [hd] at H1
  have heb : (e != 0) = true := by rw [bne_iff_ne]; exact he
  simp only [GivesGE, sgV] at H1
  clear hmem hfp hfw hd he
  go_enter Try.func8, Try.ntmps8
  go_wp2_with (first
    | (go_at_call 10
       rw [HW.out]
       (with_reducible refine (HAW.out).mono ?_)
       rintro e w1 ⟨rfl, hbx⟩
       have HX1 := Lib.hid hbx
       clear hbx)
    | (go_at_call 11
       (with_reducible refine (HFW.out _ HX1.out).mono ?_)
       rintro e w2 ⟨rfl, hbx⟩
       have HX2 := Lib.hid (HX1.out.trans (hbx.mono HX1.out.size))
       obtain ⟨a0, a1, a2, a3, a4, a5, a6, a7, a8, a9⟩ := (HBS.out w2 HX2.out).cells
       clear hbx)
    | (go_at_call 12
       (with_reducible refine (H1.out _ HX2.out).mono ?_)
       rintro e w3 ⟨rfl, hbx⟩
       have hbw := one_alloc w3 (.cells #[.int .i64 s.pl, .int .i64 s.st, .int .i64 s.nx, .int .i64 s.ph, .int .i64 s.t, .int .i64 s.hd, .int .i64 s.hl, .int .i64 s.ak, .int .i64 s.wt, .bool s.sp] 24)
       have hbs := hbx.trans (hbw.mono hbx.size)
       have hbg := BoxG.new w3 s
       have HX3 := Lib.hid (HX2.out.trans (hbs.mono HX2.out.size))
       have HX3s := Lib.hid (show W0.heap.size ≤ w3.heap.size from Nat.le_trans HX2.out.size hbx.size)
       have HG3 := Lib.hid (show ∀ X, Below (w3.alloc (.cells #[.int .i64 s.pl, .int .i64 s.st, .int .i64 s.nx, .int .i64 s.ph, .int .i64 s.t, .int .i64 s.hd, .int .i64 s.hl, .int .i64 s.ak, .int .i64 s.wt, .bool s.sp] 24)).heap.size (w3.alloc (.cells #[.int .i64 s.pl, .int .i64 s.st, .int .i64 s.nx, .int .i64 s.ph, .int .i64 s.t, .int .i64 s.hd, .int .i64 s.hl, .int .i64 s.ak, .int .i64 s.wt, .bool s.sp] 24)) X → BoxG X w3.heap.size s from fun X hX => hbg.below hX)
       have HY3 := Lib.hid (Below.refl (w3.alloc (.cells #[.int .i64 s.pl, .int .i64 s.st, .int .i64 s.nx, .int .i64 s.ph, .int .i64 s.t, .int .i64 s.hd, .int .i64 s.hl, .int .i64 s.ak, .int .i64 s.wt, .bool s.sp] 24)).heap.size (w3.alloc (.cells #[.int .i64 s.pl, .int .i64 s.st, .int .i64 s.nx, .int .i64 s.ph, .int .i64 s.t, .int .i64 s.hd, .int .i64 s.hl, .int .i64 s.ak, .int .i64 s.wt, .bool s.sp] 24)))
       obtain ⟨c3_0, c3_1, c3_2, c3_3, c3_4, c3_5, c3_6, c3_7, c3_8, c3_9⟩ := (HBS.out _ HX3.out).cells
       obtain ⟨b3_0, b3_1, b3_2, b3_3, b3_4, b3_5, b3_6, b3_7, b3_8, b3_9⟩ := (HG3.out _ HY3.out).cells
       try simp only at b3_0 b3_1 b3_2 b3_3 b3_4 b3_5 b3_6 b3_7 b3_8 b3_9
       clear hbx hbw hbs hbg
       try simp only [sgV])
    | ((with_reducible refine wpList_eq_sig _ _ rfl s s ?hx0 ?hy0 ?_ ?hw0); (case hx0 => rfl); (case hy0 => rfl); (case hw0 => rfl)
       rw [show decide (s = s) = true from decide_eq_true rfl]))
  go_ret
  exact ⟨by first | rfl | simp, HB0.out.trans (HX3.out.mono HB0.out.size)⟩
set_option maxHeartbeats 16000000 in
theorem fplan_o (HO : SafOk) (HN : StgOk) (HT : LmpText) (A : Option Addr) (n c : Nat) (l : List Pl) (s : Sg) (k : Int) (K : Nat) (w : World) (hl : Pls w A n c l) (hts : SmG s) (hfw : fewAllB l = true) (hK : K ≤ 60) (he : (doS l s 4 k).2 = 0) :
    Calls Try.prog 8 #[.slice A n c, sgV s, .int .i64 k, .int .i64 (K : Int)] w fun e w' => e = .returned (.bool true) ∧ Below w.heap.size w w' := by
  have hsm := hl.small
  have hlen := hl.len
  simp only [sgV]
  obtain ⟨W0, hW0⟩ : ∃ W0, w.alloc (.cells #[.int .i64 s.pl, .int .i64 s.st, .int .i64 s.nx, .int .i64 s.ph, .int .i64 s.t, .int .i64 s.hd, .int .i64 s.hl, .int .i64 s.ak, .int .i64 s.wt, .bool s.sp] 24) = W0 := ⟨_, rfl⟩
  have hB0 : Below w.heap.size w W0 := by rw [← hW0]; exact one_alloc w _
  have hbs : BoxG W0 w.heap.size s := by rw [← hW0]; exact BoxG.new w s
  have HPL := Lib.hid (show ∀ X, Below W0.heap.size W0 X → Pls X A n c l from fun X hX => (hl.below hB0).below hX)
  have HBS := Lib.hid (show ∀ X, Below W0.heap.size W0 X → BoxG X w.heap.size s from fun X hX => hbs.below hX)
  have HLL := Lib.hid hlen
  have HB0 := Lib.hid hB0
  have HW := Lib.hid hW0
  have HAW := Lib.hid (sawake17_any HO HN HT W0)
  have HFW := Lib.hid (fun X hX => pfewall_any A n c l X (HPL.out X hX))
  clear hW0 hB0 hbs hl
  rw [hfw] at HFW
  obtain ⟨hl5, hfp⟩ := fewall_iff.1 hfw
  have hn1000 : n ≤ 1000 := by omega
  have hmem : ∀ p ∈ l, p.n ≤ 1000 ∧ p.k ≤ 1000 := fun p hp => by have := hfp p hp; omega
  obtain ⟨r1, r2, r3, r4, r5⟩ := plan_ok he
  have hd : doS l s 4 k = (⟨s.pl, s.st, s.nx, s.ph, s.t, s.hd, s.hl, s.ak, k, s.sp⟩, 0) := Prod.ext r1 he
  rw [r1] at r5
  have H1 := Lib.hid (fun X hX => HO.ask A n c l s 4 k X (HPL.out X hX) hts hn1000 hmem)
  rw [hd] at H1
  have HTK := Lib.hid (fun (g : Sg) (h : SmG g) X hX => HN.tick A n c l g X (HPL.out X hX) h hn1000 hmem)
  have HM0 := Lib.hid r5
  have HR2 := Lib.hid r2
  have HR4 := Lib.hid r4
  have HSP := Lib.hid r3
  have hk0 : ¬ ((K : Int) < 0) := by omega
  have hk1 : ¬ (60 < (K : Int)) := by omega
  simp only [GivesGE, sgV] at H1
  clear hmem hfp hfw hd he r1 r2 r3 r4 r5
  go_enter Try.func8, Try.ntmps8
  go_wp2_with (first
    | (go_at_call 10
       rw [HW.out]
       (with_reducible refine (HAW.out).mono ?_)
       rintro e w1 ⟨rfl, hbx⟩
       have HX1 := Lib.hid hbx
       clear hbx)
    | (go_at_call 11
       (with_reducible refine (HFW.out _ HX1.out).mono ?_)
       rintro e w2 ⟨rfl, hbx⟩
       have HX2 := Lib.hid (HX1.out.trans (hbx.mono HX1.out.size))
       obtain ⟨a0, a1, a2, a3, a4, a5, a6, a7, a8, a9⟩ := (HBS.out w2 HX2.out).cells
       clear hbx)
    | (go_at_call 12
       (with_reducible refine (H1.out _ HX2.out).mono ?_)
       rintro e w3 ⟨rfl, hbx⟩
       have hbw := one_alloc w3 (.cells #[.int .i64 s.pl, .int .i64 s.st, .int .i64 s.nx, .int .i64 s.ph, .int .i64 s.t, .int .i64 s.hd, .int .i64 s.hl, .int .i64 s.ak, .int .i64 k, .bool s.sp] 24)
       have hbs := hbx.trans (hbw.mono hbx.size)
       have hbg := BoxG.new w3 ⟨s.pl, s.st, s.nx, s.ph, s.t, s.hd, s.hl, s.ak, k, s.sp⟩
       have HX3 := Lib.hid (HX2.out.trans (hbs.mono HX2.out.size))
       have HX3s := Lib.hid (show W0.heap.size ≤ w3.heap.size from Nat.le_trans HX2.out.size hbx.size)
       have HG3 := Lib.hid (show ∀ X, Below (w3.alloc (.cells #[.int .i64 s.pl, .int .i64 s.st, .int .i64 s.nx, .int .i64 s.ph, .int .i64 s.t, .int .i64 s.hd, .int .i64 s.hl, .int .i64 s.ak, .int .i64 k, .bool s.sp] 24)).heap.size (w3.alloc (.cells #[.int .i64 s.pl, .int .i64 s.st, .int .i64 s.nx, .int .i64 s.ph, .int .i64 s.t, .int .i64 s.hd, .int .i64 s.hl, .int .i64 s.ak, .int .i64 k, .bool s.sp] 24)) X → BoxG X w3.heap.size ⟨s.pl, s.st, s.nx, s.ph, s.t, s.hd, s.hl, s.ak, k, s.sp⟩ from fun X hX => hbg.below hX)
       have HY3 := Lib.hid (Below.refl (w3.alloc (.cells #[.int .i64 s.pl, .int .i64 s.st, .int .i64 s.nx, .int .i64 s.ph, .int .i64 s.t, .int .i64 s.hd, .int .i64 s.hl, .int .i64 s.ak, .int .i64 k, .bool s.sp] 24)).heap.size (w3.alloc (.cells #[.int .i64 s.pl, .int .i64 s.st, .int .i64 s.nx, .int .i64 s.ph, .int .i64 s.t, .int .i64 s.hd, .int .i64 s.hl, .int .i64 s.ak, .int .i64 k, .bool s.sp] 24)))
       clear hbx hbw hbs hbg
       try simp only [sgV]))
  obtain ⟨WB, hWB⟩ : ∃ W, w3.alloc (.cells #[.int .i64 s.pl, .int .i64 s.st, .int .i64 s.nx, .int .i64 s.ph, .int .i64 s.t, .int .i64 s.hd, .int .i64 s.hl, .int .i64 s.ak, .int .i64 k, .bool s.sp] 24) = W := ⟨_, rfl⟩
  rw [hWB] at HX3 HY3 HG3 ⊢
  clear hWB
  have HW3 := Lib.hid (show W0.heap.size ≤ w3.heap.size from HX3s.out)
  go_loopw [13] (fun i wr => ∃ (j : Nat) (g : Sg), j ≤ K ∧ i = .int .i64 j ∧ BoxG wr w3.heap.size g ∧ MayS l g ∧ g.sp = false ∧ g.wt = k ∧ g.pl = s.pl ∧ Below W0.heap.size W0 wr) (fun i _ => K - (intOf i).toNat)
  case atStart => exact ⟨0, _, by omega, rfl, HG3.out _ HY3.out, HM0.out, HSP.out, rfl, rfl, HX3.out⟩
  case round =>
    obtain ⟨j, g, hj, rfl, hbx, hmg, hsg, hwg, hpg, hbw⟩ := hrel
    have HXR := Lib.hid hbw
    have HGR := Lib.hid hbx
    by_cases hlt : j < K
    · have hlt2 : (j : Int) < K := by omega
      have HTJ := Lib.hid (fun X hX => HTK.out g (small_may hmg) X hX)
      obtain ⟨c0, c1, c2, c3, c4, c5, c6, c7, c8, c9⟩ := hbx.cells
      have hways := plan_tick hmg hsg hwg HR2.out (by rw [hpg]; exact HR4.out)
      obtain ⟨u, hu⟩ : ∃ u, tickS l g = u := ⟨_, rfl⟩
      rw [hu] at HTJ hways
      simp only [GivesG, sgV] at HTJ
      rcases hways with ⟨p1, p2, p3, p4, p5, p6⟩ | ⟨p1, p2, p3, p4, p5⟩
      · have HFA := Lib.hid (show (u.pl != g.pl) = true ∧ (u.pl == k) = true ∧ (u.st == 0) = true ∧ (u.ph == 0) = true ∧ (u.t == 0) = true ∧ (u.wt == -1) = true ∧ (g.ph == 2) = true ∧ (g.wt == k) = true from
          ⟨by rw [bne_iff_ne, p2, hpg]; exact HR4.out, by rw [p2]; simp, by rw [p3]; rfl, by rw [p4]; rfl, by rw [p5]; rfl, by rw [p6]; rfl, by rw [p1]; rfl, by rw [hwg]; simp⟩)
        clear hbx hmg hsg hwg hpg hbw hu p1 p2 p3 p4 p5 p6
        go_wp2_with (first
        | (go_at_call 23
           (with_reducible refine (HTJ.out _ HXR.out).mono ?_)
           rintro e w4 ⟨rfl, hbx⟩
           have hbw := one_alloc w4 (.cells #[.int .i64 u.pl, .int .i64 u.st, .int .i64 u.nx, .int .i64 u.ph, .int .i64 u.t, .int .i64 u.hd, .int .i64 u.hl, .int .i64 u.ak, .int .i64 u.wt, .bool u.sp] 24)
           have hbs := hbx.trans (hbw.mono hbx.size)
           have hbg := BoxG.new w4 u
           have HX4 := Lib.hid (HXR.out.trans (hbs.mono HXR.out.size))
           have hg4 : (w4.alloc (.cells #[.int .i64 u.pl, .int .i64 u.st, .int .i64 u.nx, .int .i64 u.ph, .int .i64 u.t, .int .i64 u.hd, .int .i64 u.hl, .int .i64 u.ak, .int .i64 u.wt, .bool u.sp] 24)).heap[w3.heap.size]? = some (.cells #[.int .i64 g.pl, .int .i64 g.st, .int .i64 g.nx, .int .i64 g.ph, .int .i64 g.t, .int .i64 g.hd, .int .i64 g.hl, .int .i64 g.ak, .int .i64 g.wt, .bool g.sp] 24 (0, 0)) := BoxG.below HGR.out hbs
           have hn4 : w3.heap.size < (w4.alloc (.cells #[.int .i64 u.pl, .int .i64 u.st, .int .i64 u.nx, .int .i64 u.ph, .int .i64 u.t, .int .i64 u.hd, .int .i64 u.hl, .int .i64 u.ak, .int .i64 u.wt, .bool u.sp] 24)).heap.size := Nat.lt_of_lt_of_le (Array.getElem?_eq_some_iff.1 HGR.out).1 hbs.size
           obtain ⟨b0, b1, b2, b3, b4, b5, b6, b7, b8, b9⟩ := (show BoxG (w4.alloc (.cells #[.int .i64 u.pl, .int .i64 u.st, .int .i64 u.nx, .int .i64 u.ph, .int .i64 u.t, .int .i64 u.hd, .int .i64 u.hl, .int .i64 u.ak, .int .i64 u.wt, .bool u.sp] 24)) w3.heap.size g from hg4).cells
           obtain ⟨d0, d1, d2, d3, d4, d5, d6, d7, d8, d9⟩ := hbg.cells
           obtain ⟨f0, f1, f2, f3, f4, f5, f6, f7, f8, f9⟩ := (HBS.out _ HX4.out).cells
           obtain ⟨k1, k2, k3, k4, k5, k6, k7, k8⟩ := HFA.out
           clear hbx hbw hbs hbg
           try simp only [sgV]))
        go_ret
        exact ⟨by first | rfl | simp, HB0.out.trans (HX4.out.mono HB0.out.size)⟩
      · have hlast : (g.ph == 2) = false ∨ ((g.ph == 2) = true ∧ (u.ph == 0) = false) := by
          by_cases h2 : g.ph = 2
          · right
            exact ⟨by rw [h2]; rfl, by rw [p5 h2]; rfl⟩
          · left
            rw [beq_eq_false_iff_ne]; exact h2
        have HFA := Lib.hid (show (u.pl != g.pl) = false ∧ (u.wt != k) = false ∧ (u.pl != s.pl) = false from
          ⟨by rw [p1]; simp, by rw [p2]; simp, by rw [p1, hpg]; simp⟩)
        have HNX := Lib.hid (show MayS l u ∧ u.sp = false ∧ u.wt = k ∧ u.pl = s.pl from ⟨p4, p3, p2, by rw [p1, hpg]⟩)
        clear hbx hmg hsg hwg hpg hbw hu p1 p2 p3 p4 p5
        rcases hlast with hla | ⟨hla, hlb⟩
        all_goals
          have HLA := Lib.hid hla
          clear hla
          go_wp2_with (first
          | (go_at_call 23
             (with_reducible refine (HTJ.out _ HXR.out).mono ?_)
             rintro e w4 ⟨rfl, hbx⟩
             have hbw := one_alloc w4 (.cells #[.int .i64 u.pl, .int .i64 u.st, .int .i64 u.nx, .int .i64 u.ph, .int .i64 u.t, .int .i64 u.hd, .int .i64 u.hl, .int .i64 u.ak, .int .i64 u.wt, .bool u.sp] 24)
             have hbs := hbx.trans (hbw.mono hbx.size)
             have hbg := BoxG.new w4 u
             have HX4 := Lib.hid (HXR.out.trans (hbs.mono HXR.out.size))
             have hg4 : (w4.alloc (.cells #[.int .i64 u.pl, .int .i64 u.st, .int .i64 u.nx, .int .i64 u.ph, .int .i64 u.t, .int .i64 u.hd, .int .i64 u.hl, .int .i64 u.ak, .int .i64 u.wt, .bool u.sp] 24)).heap[w3.heap.size]? = some (.cells #[.int .i64 g.pl, .int .i64 g.st, .int .i64 g.nx, .int .i64 g.ph, .int .i64 g.t, .int .i64 g.hd, .int .i64 g.hl, .int .i64 g.ak, .int .i64 g.wt, .bool g.sp] 24 (0, 0)) := BoxG.below HGR.out hbs
             have hn4 : w3.heap.size < (w4.alloc (.cells #[.int .i64 u.pl, .int .i64 u.st, .int .i64 u.nx, .int .i64 u.ph, .int .i64 u.t, .int .i64 u.hd, .int .i64 u.hl, .int .i64 u.ak, .int .i64 u.wt, .bool u.sp] 24)).heap.size := Nat.lt_of_lt_of_le (Array.getElem?_eq_some_iff.1 HGR.out).1 hbs.size
             obtain ⟨b0, b1, b2, b3, b4, b5, b6, b7, b8, b9⟩ := (show BoxG (w4.alloc (.cells #[.int .i64 u.pl, .int .i64 u.st, .int .i64 u.nx, .int .i64 u.ph, .int .i64 u.t, .int .i64 u.hd, .int .i64 u.hl, .int .i64 u.ak, .int .i64 u.wt, .bool u.sp] 24)) w3.heap.size g from hg4).cells
             obtain ⟨d0, d1, d2, d3, d4, d5, d6, d7, d8, d9⟩ := hbg.cells
             obtain ⟨f0, f1, f2, f3, f4, f5, f6, f7, f8, f9⟩ := (HBS.out _ HX4.out).cells
             obtain ⟨k1, k2, k3⟩ := HFA.out
             have kla := HLA.out
             clear hbx hbw hbs hbg
             try simp only [sgV])
          | ((with_reducible refine wpList_store_part rfl 24 _ _ rfl w3.heap.size 0 (.agg #[.int .i64 u.pl, .int .i64 u.st, .int .i64 u.nx, .int .i64 u.ph, .int .i64 u.t, .int .i64 u.hd, .int .i64 u.hl, .int .i64 u.ak, .int .i64 u.wt, .bool u.sp]) #[.int .i64 u.pl, .int .i64 u.st, .int .i64 u.nx, .int .i64 u.ph, .int .i64 u.t, .int .i64 u.hd, .int .i64 u.hl, .int .i64 u.ak, .int .i64 u.wt, .bool u.sp] ?hx7 ?hy7 ?hv7 24 #[.int .i64 g.pl, .int .i64 g.st, .int .i64 g.nx, .int .i64 g.ph, .int .i64 g.t, .int .i64 g.hd, .int .i64 g.hl, .int .i64 g.ak, .int .i64 g.wt, .bool g.sp] #[.int .i64 u.pl, .int .i64 u.st, .int .i64 u.nx, .int .i64 u.ph, .int .i64 u.t, .int .i64 u.hd, .int .i64 u.hl, .int .i64 u.ak, .int .i64 u.wt, .bool u.sp] hg4 ?hi7 ?hl7 ?ho7 ?hn7 ?_); (case hx7 => rfl); (case hy7 => rfl); (case hv7 => rfl); (case hi7 => exact info_sig); (case hl7 => simp); (case ho7 => exact one_sig _ _ _ _ _ _ _ _ _ _); (case hn7 => rfl)
             intro w5 hg5 hs5 hz5
             have HX5 := Lib.hid (Below.grows HX4.out hg5 HX4.out.size HW3.out)
             clear hg5 hz5))
          go_roundw
          · exact ⟨j + 1, u, by omega, by go_num, hs5, HNX.out.1, HNX.out.2.1, HNX.out.2.2.1, HNX.out.2.2.2, HX5.out⟩
          · simp [intOf]; omega
    · obtain rfl : j = K := by omega
      have hge : ¬ ((j : Int) < j) := by omega
      clear hbx hmg hsg hwg hpg hbw
      go_wp2
      go_ret
      exact ⟨rfl, HB0.out.trans (HXR.out.mono HB0.out.size)⟩
set_option maxHeartbeats 16000000 in
theorem fplan_any (HO : SafOk) (HN : StgOk) (HT : LmpText) (A : Option Addr) (n c : Nat) (l : List Pl) (s : Sg) (k x : Int) (w : World) (hl : Pls w A n c l) (hts : SmG s) :
    Calls Try.prog 8 #[.slice A n c, sgV s, .int .i64 k, .int .i64 x] w fun e w' => e = .returned (.bool true) ∧ Below w.heap.size w w' := by
  cases hfw : fewAllB l with
  | false =>
    have hsm := hl.small
    have hlen := hl.len
    simp only [sgV]
    obtain ⟨W0, hW0⟩ : ∃ W0, w.alloc (.cells #[.int .i64 s.pl, .int .i64 s.st, .int .i64 s.nx, .int .i64 s.ph, .int .i64 s.t, .int .i64 s.hd, .int .i64 s.hl, .int .i64 s.ak, .int .i64 s.wt, .bool s.sp] 24) = W0 := ⟨_, rfl⟩
    have hB0 : Below w.heap.size w W0 := by rw [← hW0]; exact one_alloc w _
    have hbs : BoxG W0 w.heap.size s := by rw [← hW0]; exact BoxG.new w s
    have HPL := Lib.hid (show ∀ X, Below W0.heap.size W0 X → Pls X A n c l from fun X hX => (hl.below hB0).below hX)
    have HBS := Lib.hid (show ∀ X, Below W0.heap.size W0 X → BoxG X w.heap.size s from fun X hX => hbs.below hX)
    have HLL := Lib.hid hlen
    have HB0 := Lib.hid hB0
    have HW := Lib.hid hW0
    have HAW := Lib.hid (sawake17_any HO HN HT W0)
    have HFW := Lib.hid (fun X hX => pfewall_any A n c l X (HPL.out X hX))
    clear hW0 hB0 hbs hl
    rw [hfw] at HFW
    clear hfw
    go_enter Try.func8, Try.ntmps8
    go_wp2_with (first
        | (go_at_call 10
           rw [HW.out]
           (with_reducible refine (HAW.out).mono ?_)
           rintro e w1 ⟨rfl, hbx⟩
           have HX1 := Lib.hid hbx
           clear hbx)
        | (go_at_call 11
           (with_reducible refine (HFW.out _ HX1.out).mono ?_)
           rintro e w2 ⟨rfl, hbx⟩
           have HX2 := Lib.hid (HX1.out.trans (hbx.mono HX1.out.size))
           obtain ⟨a0, a1, a2, a3, a4, a5, a6, a7, a8, a9⟩ := (HBS.out w2 HX2.out).cells
           clear hbx))
    go_ret
    exact ⟨rfl, HB0.out.trans (HX2.out.mono HB0.out.size)⟩
  | true =>
  by_cases x0 : x < 0
  · skip
    have hsm := hl.small
    have hlen := hl.len
    simp only [sgV]
    obtain ⟨W0, hW0⟩ : ∃ W0, w.alloc (.cells #[.int .i64 s.pl, .int .i64 s.st, .int .i64 s.nx, .int .i64 s.ph, .int .i64 s.t, .int .i64 s.hd, .int .i64 s.hl, .int .i64 s.ak, .int .i64 s.wt, .bool s.sp] 24) = W0 := ⟨_, rfl⟩
    have hB0 : Below w.heap.size w W0 := by rw [← hW0]; exact one_alloc w _
    have hbs : BoxG W0 w.heap.size s := by rw [← hW0]; exact BoxG.new w s
    have HPL := Lib.hid (show ∀ X, Below W0.heap.size W0 X → Pls X A n c l from fun X hX => (hl.below hB0).below hX)
    have HBS := Lib.hid (show ∀ X, Below W0.heap.size W0 X → BoxG X w.heap.size s from fun X hX => hbs.below hX)
    have HLL := Lib.hid hlen
    have HB0 := Lib.hid hB0
    have HW := Lib.hid hW0
    have HAW := Lib.hid (sawake17_any HO HN HT W0)
    have HFW := Lib.hid (fun X hX => pfewall_any A n c l X (HPL.out X hX))
    clear hW0 hB0 hbs hl
    rw [hfw] at HFW
    clear hfw
    go_enter Try.func8, Try.ntmps8
    go_wp2_with (first
        | (go_at_call 10
           rw [HW.out]
           (with_reducible refine (HAW.out).mono ?_)
           rintro e w1 ⟨rfl, hbx⟩
           have HX1 := Lib.hid hbx
           clear hbx)
        | (go_at_call 11
           (with_reducible refine (HFW.out _ HX1.out).mono ?_)
           rintro e w2 ⟨rfl, hbx⟩
           have HX2 := Lib.hid (HX1.out.trans (hbx.mono HX1.out.size))
           obtain ⟨a0, a1, a2, a3, a4, a5, a6, a7, a8, a9⟩ := (HBS.out w2 HX2.out).cells
           clear hbx))
    go_ret
    exact ⟨rfl, HB0.out.trans (HX2.out.mono HB0.out.size)⟩
  by_cases x1 : 60 < x
  · skip
    have hsm := hl.small
    have hlen := hl.len
    simp only [sgV]
    obtain ⟨W0, hW0⟩ : ∃ W0, w.alloc (.cells #[.int .i64 s.pl, .int .i64 s.st, .int .i64 s.nx, .int .i64 s.ph, .int .i64 s.t, .int .i64 s.hd, .int .i64 s.hl, .int .i64 s.ak, .int .i64 s.wt, .bool s.sp] 24) = W0 := ⟨_, rfl⟩
    have hB0 : Below w.heap.size w W0 := by rw [← hW0]; exact one_alloc w _
    have hbs : BoxG W0 w.heap.size s := by rw [← hW0]; exact BoxG.new w s
    have HPL := Lib.hid (show ∀ X, Below W0.heap.size W0 X → Pls X A n c l from fun X hX => (hl.below hB0).below hX)
    have HBS := Lib.hid (show ∀ X, Below W0.heap.size W0 X → BoxG X w.heap.size s from fun X hX => hbs.below hX)
    have HLL := Lib.hid hlen
    have HB0 := Lib.hid hB0
    have HW := Lib.hid hW0
    have HAW := Lib.hid (sawake17_any HO HN HT W0)
    have HFW := Lib.hid (fun X hX => pfewall_any A n c l X (HPL.out X hX))
    clear hW0 hB0 hbs hl
    rw [hfw] at HFW
    clear hfw
    go_enter Try.func8, Try.ntmps8
    go_wp2_with (first
        | (go_at_call 10
           rw [HW.out]
           (with_reducible refine (HAW.out).mono ?_)
           rintro e w1 ⟨rfl, hbx⟩
           have HX1 := Lib.hid hbx
           clear hbx)
        | (go_at_call 11
           (with_reducible refine (HFW.out _ HX1.out).mono ?_)
           rintro e w2 ⟨rfl, hbx⟩
           have HX2 := Lib.hid (HX1.out.trans (hbx.mono HX1.out.size))
           obtain ⟨a0, a1, a2, a3, a4, a5, a6, a7, a8, a9⟩ := (HBS.out w2 HX2.out).cells
           clear hbx))
    go_ret
    exact ⟨rfl, HB0.out.trans (HX2.out.mono HB0.out.size)⟩
  by_cases he : (doS l s 4 k).2 = 0
  · obtain ⟨K, rfl⟩ := Int.eq_ofNat_of_zero_le (show 0 ≤ x by omega)
    exact fplan_o HO HN HT A n c l s k K w hl hts hfw (by omega) he
  · rcases do_ways l s 4 k with ⟨e, h1, h2⟩ | ⟨t, h2, -⟩
    · exact fplan_e HO HN HT A n c l s k x w hl hts hfw x0 x1 e h1 h2
    · rw [h2] at he; exact (he rfl).elim
end Go.Proofs.Ytgnhmdfajnnkhaa

