/- The walk over the law StageRun. -/
import Derived.Test.YtcgakgbnhlmcaaaStJG
namespace Go.Proofs.Ytcgakgbnhlmcaaa
set_option maxRecDepth 100000
set_option linter.unusedVariables false
set_option linter.unusedSimpArgs false
open Go.RowKit

set_option maxHeartbeats 8000000 in
theorem srun_any (HO : StgOk) (HT : LmpText) (HA : AllOk) (A : Option Addr) (n c : Nat) (l : List Pl) (s : Sg) (x y : Int) (w : World) (hl : Pls w A n c l) (hts : SmG s) :
    Calls Try.prog 8 #[.slice A n c, sgV s, .int .i64 x, .int .i64 y] w fun e w' => e = .returned (.bool true) ∧ Below w.heap.size w w' := by
  have hsm := hl.small
  have hlen := hl.len
  simp only [sgV]
  obtain ⟨W0, hW0⟩ : ∃ W0, w.alloc (.cells #[.int .i64 s.pl, .int .i64 s.st, .int .i64 s.nx, .int .i64 s.ph, .int .i64 s.t, .int .i64 s.hd, .int .i64 s.hl, .int .i64 s.ak, .int .i64 s.wt, .bool s.sp] 24) = W0 := ⟨_, rfl⟩
  have hB0 : Below w.heap.size w W0 := by rw [← hW0]; exact one_alloc w _
  have hbs : BoxG W0 w.heap.size s := by rw [← hW0]; exact BoxG.new w s
  have HPL := Lib.hid (show ∀ X, Below W0.heap.size W0 X → Pls X A n c l from fun X hX => (hl.below hB0).below hX)
  have HBS := Lib.hid (show ∀ X, Below W0.heap.size W0 X → BoxG X w.heap.size s from fun X hX => hbs.below hX)
  have HLL := Lib.hid hlen
  have HB0 := Lib.hid hB0
  have HW := Lib.hid hW0
  have HAW := Lib.hid (sawake16_any HO HT W0)
  have HFW := Lib.hid (fun X hX => pfewall_any A n c l X (HPL.out X hX))
  clear hW0 hB0 hbs hl
  cases hfw : fewAllB l with
  | false =>
    rw [hfw] at HFW
    clear hfw
    go_enter Try.func8, Try.ntmps8
    go_wp2_with (first
        | (go_at_call 9
           rw [HW.out]
           (with_reducible refine (HAW.out).mono ?_)
           rintro e w1 ⟨rfl, hbx⟩
           have HX1 := Lib.hid hbx
           clear hbx)
        | (go_at_call 10
           (with_reducible refine (HFW.out _ HX1.out).mono ?_)
           rintro e w2 ⟨rfl, hbx⟩
           have HX2 := Lib.hid (HX1.out.trans (hbx.mono HX1.out.size))
           clear hbx))
    go_ret
    exact ⟨rfl, HB0.out.trans (HX2.out.mono HB0.out.size)⟩
  | true =>
  rw [hfw] at HFW
  obtain ⟨hl5, hfp⟩ := fewall_iff.1 hfw
  have hn1000 : n ≤ 1000 := by omega
  have hmem : ∀ p ∈ l, p.n ≤ 1000 ∧ p.k ≤ 1000 := fun p hp => by have := hfp p hp; omega
  have HAL := Lib.hid (fun X hX => HA.all A n c l X (HPL.out X hX) hn1000 hmem)
  clear hfw hfp
  by_cases x0 : x < 0
  · clear hmem
    go_enter Try.func8, Try.ntmps8
    go_wp2_with (first
        | (go_at_call 9
           rw [HW.out]
           (with_reducible refine (HAW.out).mono ?_)
           rintro e w1 ⟨rfl, hbx⟩
           have HX1 := Lib.hid hbx
           clear hbx)
        | (go_at_call 10
           (with_reducible refine (HFW.out _ HX1.out).mono ?_)
           rintro e w2 ⟨rfl, hbx⟩
           have HX2 := Lib.hid (HX1.out.trans (hbx.mono HX1.out.size))
           clear hbx))
    go_ret
    exact ⟨rfl, HB0.out.trans (HX2.out.mono HB0.out.size)⟩
  by_cases x1 : 60 < x
  · clear hmem
    go_enter Try.func8, Try.ntmps8
    go_wp2_with (first
        | (go_at_call 9
           rw [HW.out]
           (with_reducible refine (HAW.out).mono ?_)
           rintro e w1 ⟨rfl, hbx⟩
           have HX1 := Lib.hid hbx
           clear hbx)
        | (go_at_call 10
           (with_reducible refine (HFW.out _ HX1.out).mono ?_)
           rintro e w2 ⟨rfl, hbx⟩
           have HX2 := Lib.hid (HX1.out.trans (hbx.mono HX1.out.size))
           clear hbx))
    go_ret
    exact ⟨rfl, HB0.out.trans (HX2.out.mono HB0.out.size)⟩
  by_cases y0 : y < 0
  · clear hmem
    go_enter Try.func8, Try.ntmps8
    go_wp2_with (first
        | (go_at_call 9
           rw [HW.out]
           (with_reducible refine (HAW.out).mono ?_)
           rintro e w1 ⟨rfl, hbx⟩
           have HX1 := Lib.hid hbx
           clear hbx)
        | (go_at_call 10
           (with_reducible refine (HFW.out _ HX1.out).mono ?_)
           rintro e w2 ⟨rfl, hbx⟩
           have HX2 := Lib.hid (HX1.out.trans (hbx.mono HX1.out.size))
           clear hbx))
    go_ret
    exact ⟨rfl, HB0.out.trans (HX2.out.mono HB0.out.size)⟩
  by_cases y1 : 60 < y
  · clear hmem
    go_enter Try.func8, Try.ntmps8
    go_wp2_with (first
        | (go_at_call 9
           rw [HW.out]
           (with_reducible refine (HAW.out).mono ?_)
           rintro e w1 ⟨rfl, hbx⟩
           have HX1 := Lib.hid hbx
           clear hbx)
        | (go_at_call 10
           (with_reducible refine (HFW.out _ HX1.out).mono ?_)
           rintro e w2 ⟨rfl, hbx⟩
           have HX2 := Lib.hid (HX1.out.trans (hbx.mono HX1.out.size))
           clear hbx))
    go_ret
    exact ⟨rfl, HB0.out.trans (HX2.out.mono HB0.out.size)⟩
  have x2 : 0 ≤ x := by omega
  have x3 : x ≤ 60 := by omega
  have y2 : 0 ≤ y := by omega
  have y3 : y ≤ 60 := by omega
  clear x0 x1 y0 y1
  cases ha : allP l with
  | false =>
    rw [ha] at HAL
    clear ha hmem
    go_enter Try.func8, Try.ntmps8
    go_wp2_with (first
        | (go_at_call 9
           rw [HW.out]
           (with_reducible refine (HAW.out).mono ?_)
           rintro e w1 ⟨rfl, hbx⟩
           have HX1 := Lib.hid hbx
           clear hbx)
        | (go_at_call 10
           (with_reducible refine (HFW.out _ HX1.out).mono ?_)
           rintro e w2 ⟨rfl, hbx⟩
           have HX2 := Lib.hid (HX1.out.trans (hbx.mono HX1.out.size))
           clear hbx)
        | (go_at_call 24
           (with_reducible refine (HAL.out _ HX2.out).mono ?_)
           rintro e w3 ⟨rfl, hbx⟩
           have HX3 := Lib.hid (HX2.out.trans (hbx.mono HX2.out.size))
           clear hbx))
    go_ret
    exact ⟨rfl, HB0.out.trans (HX3.out.mono HB0.out.size)⟩
  | true =>
  rw [ha] at HAL
  clear ha
  obtain ⟨e1, e2, e3⟩ := run_add (l := l) (s := s) x2 x3 y2 y3
  have hw : wrap64 (x + y) = x + y := by unfold wrap64; omega
  have HR1 := Lib.hid (fun X hX => HO.run A n c l s x X (HPL.out X hX) hts hn1000 hmem)
  have HR2 := Lib.hid (fun X hX => HO.run A n c l (runG l s x) y X (HPL.out X hX) (run_small hts) hn1000 hmem)
  have HR3 := Lib.hid (fun X hX => HO.run A n c l s (x + y) X (HPL.out X hX) hts hn1000 hmem)
  rw [e1] at HR2
  obtain ⟨a, ha⟩ : ∃ a, runG l s x = a := ⟨_, rfl⟩
  obtain ⟨g, hg⟩ : ∃ g, runG l s (x + y) = g := ⟨_, rfl⟩
  rw [ha] at HR1 HR2 e2
  rw [hg] at HR2 HR3
  have HE2 := Lib.hid e2
  have HE3 := Lib.hid e3
  simp only [GivesGL, sgV] at HR1 HR2 HR3
  clear e1 e2 e3 ha hg hmem
  go_enter Try.func8, Try.ntmps8
  go_wp2_with (first
    | (go_at_call 9
       rw [HW.out]
       (with_reducible refine (HAW.out).mono ?_)
       rintro e w1 ⟨rfl, hbx⟩
       have HX1 := Lib.hid hbx
       clear hbx)
    | (go_at_call 10
       (with_reducible refine (HFW.out _ HX1.out).mono ?_)
       rintro e w2 ⟨rfl, hbx⟩
       have HX2 := Lib.hid (HX1.out.trans (hbx.mono HX1.out.size))
       clear hbx)
    | (go_at_call 24
       (with_reducible refine (HAL.out _ HX2.out).mono ?_)
       rintro e w3 ⟨rfl, hbx⟩
       have HX3 := Lib.hid (HX2.out.trans (hbx.mono HX2.out.size))
       obtain ⟨c0, c1, c2, c3, c4, c5, c6, c7, c8, c9⟩ := (HBS.out w3 HX3.out).cells
       clear hbx)
    | (go_at_call 12
       (with_reducible refine (HR1.out _ HX3.out).mono ?_)
       rintro e w4 ⟨A4, n4, c4', r4, rfl, hl4, hr4, hbx⟩
       have HX4 := Lib.hid (HX3.out.trans (hbx.mono HX3.out.size))
       have hb5 := one_alloc w4 (.cells #[.int .i64 a.pl, .int .i64 a.st, .int .i64 a.nx, .int .i64 a.ph, .int .i64 a.t, .int .i64 a.hd, .int .i64 a.hl, .int .i64 a.ak, .int .i64 a.wt, .bool a.sp] 24)
       have HX5 := Lib.hid (HX4.out.trans (hb5.mono HX4.out.size))
       have HL4 := Lib.hid (show ∀ X, Below (w4.alloc (.cells #[.int .i64 a.pl, .int .i64 a.st, .int .i64 a.nx, .int .i64 a.ph, .int .i64 a.t, .int .i64 a.hd, .int .i64 a.hl, .int .i64 a.ak, .int .i64 a.wt, .bool a.sp] 24)).heap.size (w4.alloc (.cells #[.int .i64 a.pl, .int .i64 a.st, .int .i64 a.nx, .int .i64 a.ph, .int .i64 a.t, .int .i64 a.hd, .int .i64 a.hl, .int .i64 a.ak, .int .i64 a.wt, .bool a.sp] 24)) X → Lns X A4 n4 c4' r4 from fun X hX => (hl4.below hb5).below hX)
       have HQ4 := Lib.hid hr4
       have HN4 := Lib.hid (show n4 ≤ 60 by have h := run_len l s x; rw [← hr4, List.length_map, hl4.len] at h; omega)
       clear hbx hl4 hr4 hb5
       try simp only [sgV])
    | (go_at_call 12
       (with_reducible refine (HR2.out _ HX5.out).mono ?_)
       rintro e w6 ⟨A6, n6, c6', r6, rfl, hl6, hr6, hbx⟩
       have HX6 := Lib.hid (HX5.out.trans (hbx.mono HX5.out.size))
       have HY6 := Lib.hid hbx
       have hb7 := one_alloc w6 (.cells #[.int .i64 g.pl, .int .i64 g.st, .int .i64 g.nx, .int .i64 g.ph, .int .i64 g.t, .int .i64 g.hd, .int .i64 g.hl, .int .i64 g.ak, .int .i64 g.wt, .bool g.sp] 24)
       have hbg := BoxG.new w6 g
       have HX7 := Lib.hid (HX6.out.trans (hb7.mono HX6.out.size))
       have HY7 := Lib.hid (HY6.out.trans (hb7.mono HY6.out.size))
       have HG6 := Lib.hid (show ∀ X, Below (w6.alloc (.cells #[.int .i64 g.pl, .int .i64 g.st, .int .i64 g.nx, .int .i64 g.ph, .int .i64 g.t, .int .i64 g.hd, .int .i64 g.hl, .int .i64 g.ak, .int .i64 g.wt, .bool g.sp] 24)).heap.size (w6.alloc (.cells #[.int .i64 g.pl, .int .i64 g.st, .int .i64 g.nx, .int .i64 g.ph, .int .i64 g.t, .int .i64 g.hd, .int .i64 g.hl, .int .i64 g.ak, .int .i64 g.wt, .bool g.sp] 24)) X → BoxG X w6.heap.size g from fun X hX => hbg.below hX)
       have HL6 := Lib.hid (show ∀ X, Below (w6.alloc (.cells #[.int .i64 g.pl, .int .i64 g.st, .int .i64 g.nx, .int .i64 g.ph, .int .i64 g.t, .int .i64 g.hd, .int .i64 g.hl, .int .i64 g.ak, .int .i64 g.wt, .bool g.sp] 24)).heap.size (w6.alloc (.cells #[.int .i64 g.pl, .int .i64 g.st, .int .i64 g.nx, .int .i64 g.ph, .int .i64 g.t, .int .i64 g.hd, .int .i64 g.hl, .int .i64 g.ak, .int .i64 g.wt, .bool g.sp] 24)) X → Lns X A6 n6 c6' r6 from fun X hX => (hl6.below hb7).below hX)
       have HQ6 := Lib.hid hr6
       have HN6 := Lib.hid (show n6 ≤ 60 by have h := run_len l a y; rw [← hr6, List.length_map, hl6.len] at h; omega)
       obtain ⟨d0, d1, d2, d3, d4, d5, d6, d7, d8, d9⟩ := (HBS.out _ HX7.out).cells
       clear hbx hl6 hr6 hb7 hbg
       try simp only [sgV])
    | (go_at_call 12
       (with_reducible refine (HR3.out _ HX7.out).mono ?_)
       rintro e w8 ⟨A8, n8, c8', r8, rfl, hl8, hr8, hbx⟩
       have HX8 := Lib.hid (HX7.out.trans (hbx.mono HX7.out.size))
       have HY8 := Lib.hid (HY7.out.trans (hbx.mono HY7.out.size))
       have HZ8 := Lib.hid hbx
       have hb9 := one_alloc w8 (.cells #[.int .i64 g.pl, .int .i64 g.st, .int .i64 g.nx, .int .i64 g.ph, .int .i64 g.t, .int .i64 g.hd, .int .i64 g.hl, .int .i64 g.ak, .int .i64 g.wt, .bool g.sp] 24)
       have hbg := BoxG.new w8 g
       have hl9 := hl8.below hb9
       obtain ⟨W9, hW9⟩ : ∃ W9, w8.alloc (.cells #[.int .i64 g.pl, .int .i64 g.st, .int .i64 g.nx, .int .i64 g.ph, .int .i64 g.t, .int .i64 g.hd, .int .i64 g.hl, .int .i64 g.ak, .int .i64 g.wt, .bool g.sp] 24) = W9 := ⟨_, rfl⟩
       rw [hW9] at hb9 hbg hl9
       have HW9 := Lib.hid hW9
       have HX9 := Lib.hid (HX8.out.trans (hb9.mono HX8.out.size))
       have HG8 := Lib.hid (show ∀ X, Below W9.heap.size W9 X → BoxG X w8.heap.size g from fun X hX => hbg.below hX)
       have HG9 := Lib.hid (show ∀ X, Below W9.heap.size W9 X → BoxG X w6.heap.size g from fun X hX => HG6.out X ((HZ8.out.trans (hb9.mono HZ8.out.size)).trans (hX.mono (Nat.le_trans HZ8.out.size hb9.size))))
       have h4 := HL4.out W9 (HY8.out.trans (hb9.mono HY8.out.size))
       have h6 := HL6.out W9 (HZ8.out.trans (hb9.mono HZ8.out.size))
       have HM4 := Lib.hid h4
       have HM6 := Lib.hid h6
       have HM8 := Lib.hid hl9
       have HN8 := Lib.hid (show (n8 : Int) ≤ x + y by have h := HE3.out; rw [← hr8, List.length_map, hl8.len] at h; exact h)
       have HS8 := Lib.hid (show decide (r8.map Rw.l = (r4 ++ r6).map Rw.l) = true from decide_eq_true (by rw [hr8, List.map_append, HQ4.out, HQ6.out, HE2.out]))
       have hn4 : n4 ≤ 60 := HN4.out
       have hn6 : n6 ≤ 60 := HN6.out
       have hln4 := h4.len
       have hln6 := h6.len
       clear hbx hl8 hr8 hb9 hbg hl9 hW9 h4 h6
       try simp only [sgV])
    | (at_builtin
       rw [HW9.out]
       refine wpList_append_r_at rfl 28 32 1 24 _ _ rfl Try.underlying28 info_rows (by omega) W9.heap.size (.slice none 0 0) [] rfl (OwnR.nil _ _ _ _) A4 n4 c4' (r4.map Rw.row) rfl HM4.out.rws (by simp; omega) (by simp; omega) (Nat.le_refl _) ?_
       intro v10 w10 hown10 hg10 hv10
       have HB10 := Lib.hid ((Below.refl W9.heap.size W9).grown hg10 (Nat.le_refl _) (fun k hk => by cases hk))
       have HO10 := Lib.hid hown10
       clear hown10 hg10 hv10)
    | (at_builtin
       refine wpList_append_r_at rfl 28 32 1 24 _ _ rfl Try.underlying28 info_rows (by omega) W9.heap.size v10 _ rfl HO10.out A6 n6 c6' (r6.map Rw.row) rfl (HM6.out.below HB10.out).rws (by simp; omega) (by simp; omega) HB10.out.size ?_
       intro v11 w11 hown11 hg11 hv11
       rw [List.nil_append] at hown11
       have HB11 := Lib.hid (HB10.out.grown hg11 HB10.out.size (fun k hk => (HO10.out.size k hk).1))
       obtain ⟨A11, n11, c11, rfl, hl11⟩ := lns_both HM4.out HM6.out hown11 HB11.out
       have HL11 := Lib.hid hl11
       have HM11 := Lib.hid (HM8.out.below HB11.out)
       clear hown11 hg11 hv11 hl11)
    | (go_at_call 14
       (with_reducible refine (rrows_any _ _ _ _ _ _ _ _ _ HM11.out HL11.out).mono ?_)
       rintro e w12 ⟨rfl, hbx⟩
       have HB12 := Lib.hid (HB11.out.trans (hbx.mono HB11.out.size))
       rw [HS8.out]
       obtain ⟨f0, f1, f2, f3, f4, f5, f6, f7, f8, f9⟩ := (HG9.out _ HB12.out).cells
       obtain ⟨g0, g1, g2, g3, g4, g5, g6, g7, g8, g9⟩ := (HG8.out _ HB12.out).cells
       have hn8 := HN8.out
       clear hbx)
    | ((with_reducible refine wpList_eq_sig _ _ rfl g g ?hx ?hy ?_ ?hw); (case hx => rfl); (case hy => rfl); (case hw => rfl)
       rw [show decide (g = g) = true from decide_eq_true rfl]))
  go_ret
  exact ⟨by first | rfl | simp, HB0.out.trans ((HX9.out.trans (HB12.out.mono HX9.out.size)).mono HB0.out.size)⟩
end Go.Proofs.Ytcgakgbnhlmcaaa

