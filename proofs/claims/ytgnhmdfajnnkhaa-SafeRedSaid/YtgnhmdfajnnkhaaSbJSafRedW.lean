/- The walk over the law SafeRed. -/
import Derived.Test.YtgnhmdfajnnkhaaSbJC
namespace Go.Proofs.Ytgnhmdfajnnkhaa
set_option maxRecDepth 100000
set_option linter.unusedVariables false
set_option linter.unusedSimpArgs false
open Go.RowKit

set_option maxHeartbeats 16000000 in
theorem fred_p (HO : SafOk) (HN : StgOk) (HT : LmpText) (A : Option Addr) (n c : Nat) (l : List Pl) (s : Sg) (a : Int) (w : World) (hl : Pls w A n c l) (hts : SmG s) (hfw : fewAllB l = true) (hm : mayS l s = true) (hp : s.ph = 2) :
    Calls Try.prog 6 #[.slice A n c, sgV s, .int .i64 a] w fun e w' => e = .returned (.bool true) ∧ Below w.heap.size w w' := by
  have hsm := hl.small
  have hlen := hl.len
  simp only [sgV]
  obtain ⟨W0, hW0⟩ : ∃ W0, w.alloc (.cells #[.int .i64 s.pl, .int .i64 s.st, .int .i64 s.nx, .int .i64 s.ph, .int .i64 s.t, .int .i64 s.hd, .int .i64 s.hl, .int .i64 s.ak, .int .i64 s.wt, .bool s.sp] 24) = W0 := ⟨_, rfl⟩
  have hB0 : Below w.heap.size w W0 := by rw [← hW0]; exact one_alloc w _
  have hbs : BoxG W0 w.heap.size s := by rw [← hW0]; exact BoxG.new w s
  have HPL := Lib.hid (show ∀ X, Below W0.heap.size W0 X → Pls X A n c l from fun X hX => (hl.below hB0).below hX)
  have HBS := Lib.hid (show ∀ X, Below W0.heap.size W0 X → BoxG X w.heap.size s from fun X hX => hbs.below hX)
  have HLL := Lib.hid hlen
  have HB0 := Lib.hid hB0
  have HW := Lib.hid hW0
  have HAW := Lib.hid (sawake17_any HO HN HT W0)
  have HFW := Lib.hid (fun X hX => pfewall_any A n c l X (HPL.out X hX))
  clear hW0 hB0 hbs hl
  rw [hfw] at HFW
  obtain ⟨hl5, hfp⟩ := fewall_iff.1 hfw
  have hn1000 : n ≤ 1000 := by omega
  have hmem : ∀ p ∈ l, p.n ≤ 1000 ∧ p.k ≤ 1000 := fun p hp => by have := hfp p hp; omega
  have HMY := Lib.hid (fun X hX => HN.may A n c l s X (HPL.out X hX) hts hn1000 hmem)
  rw [hm] at HMY
  have hms := mayS_iff.1 hm
  have hmt := may_stop hms
  obtain ⟨e1, g1, h1⟩ := stop_hold (l := l) (s := ⟨s.pl, s.st, s.nx, s.ph, s.t, 0, s.hl, s.ak, s.wt, true⟩) rfl 1 a (.inl rfl)
  obtain ⟨e3, g3, h3⟩ := stop_hold (l := l) (s := ⟨s.pl, s.st, s.nx, s.ph, s.t, 0, s.hl, s.ak, s.wt, true⟩) rfl 3 a (.inr (.inl rfl))
  obtain ⟨e4, g4, h4⟩ := stop_hold (l := l) (s := ⟨s.pl, s.st, s.nx, s.ph, s.t, 0, s.hl, s.ak, s.wt, true⟩) rfl 4 a (.inr (.inr rfl))
  have h6 := clear_ok hmt rfl
  rw [if_pos hp] at h6
  have H5 := Lib.hid (fun X hX => HO.ask A n c l s 5 0 X (HPL.out X hX) hts hn1000 hmem)
  have H1 := Lib.hid (fun X hX => HO.ask A n c l ⟨s.pl, s.st, s.nx, s.ph, s.t, 0, s.hl, s.ak, s.wt, true⟩ 1 a X (HPL.out X hX) hts hn1000 hmem)
  have H3 := Lib.hid (fun X hX => HO.ask A n c l ⟨s.pl, s.st, s.nx, s.ph, s.t, 0, s.hl, s.ak, s.wt, true⟩ 3 a X (HPL.out X hX) hts hn1000 hmem)
  have H4 := Lib.hid (fun X hX => HO.ask A n c l ⟨s.pl, s.st, s.nx, s.ph, s.t, 0, s.hl, s.ak, s.wt, true⟩ 4 a X (HPL.out X hX) hts hn1000 hmem)
  have H6 := Lib.hid (fun X hX => HO.ask A n c l ⟨s.pl, s.st, s.nx, s.ph, s.t, 0, s.hl, s.ak, s.wt, true⟩ 6 0 X (HPL.out X hX) hts hn1000 hmem)
  rw [red_ok hms] at H5
  rw [h1] at H1
  rw [h3] at H3
  rw [h4] at H4
  rw [h6] at H6
  have HPB := Lib.hid (show (s.ph == 2) = true by rw [hp]; rfl)
  have HE1 := Lib.hid (show (e1 == 0) = false by rw [beq_eq_false_iff_ne]; exact g1)
  have HE3 := Lib.hid (show (e3 == 0) = false by rw [beq_eq_false_iff_ne]; exact g3)
  have HE4 := Lib.hid (show (e4 == 0) = false by rw [beq_eq_false_iff_ne]; exact g4)
  simp only [GivesGE, sgV] at HMY H5 H1 H3 H4 H6
  clear hm hmem hfp hfw hms hmt h1 h3 h4 h6 g1 g3 g4 hp
  go_enter Try.func6, Try.ntmps6
  go_wp2_with (first
    | (go_at_call 10
       rw [HW.out]
       (with_reducible refine (HAW.out).mono ?_)
       rintro e w1 ⟨rfl, hbx⟩
       have HX1 := Lib.hid hbx
       clear hbx)
    | (go_at_call 11
       (with_reducible refine (HFW.out _ HX1.out).mono ?_)
       rintro e w2 ⟨rfl, hbx⟩
       have HX2 := Lib.hid (HX1.out.trans (hbx.mono HX1.out.size))
       obtain ⟨a0, a1, a2, a3, a4, a5, a6, a7, a8, a9⟩ := (HBS.out w2 HX2.out).cells
       clear hbx)
    | (go_at_call 22
       (with_reducible refine (HMY.out _ HX2.out).mono ?_)
       rintro e w3 ⟨rfl, hbx⟩
       have HX3 := Lib.hid (HX2.out.trans (hbx.mono HX2.out.size))
       obtain ⟨m0, m1, m2, m3, m4, m5, m6, m7, m8, m9⟩ := (HBS.out w3 HX3.out).cells
       clear hbx)
    | (go_at_call 12
       (with_reducible refine (H5.out _ HX3.out).mono ?_)
       rintro e w4 ⟨rfl, hbx⟩
       have hbw := one_alloc w4 (.cells #[.int .i64 s.pl, .int .i64 s.st, .int .i64 s.nx, .int .i64 s.ph, .int .i64 s.t, .int .i64 0, .int .i64 s.hl, .int .i64 s.ak, .int .i64 s.wt, .bool true] 24)
       have hbs := hbx.trans (hbw.mono hbx.size)
       have hbg := BoxG.new w4 ⟨s.pl, s.st, s.nx, s.ph, s.t, 0, s.hl, s.ak, s.wt, true⟩
       have HX4 := Lib.hid (HX3.out.trans (hbs.mono HX3.out.size))
       have HG4 := Lib.hid (show ∀ X, Below (w4.alloc (.cells #[.int .i64 s.pl, .int .i64 s.st, .int .i64 s.nx, .int .i64 s.ph, .int .i64 s.t, .int .i64 0, .int .i64 s.hl, .int .i64 s.ak, .int .i64 s.wt, .bool true] 24)).heap.size (w4.alloc (.cells #[.int .i64 s.pl, .int .i64 s.st, .int .i64 s.nx, .int .i64 s.ph, .int .i64 s.t, .int .i64 0, .int .i64 s.hl, .int .i64 s.ak, .int .i64 s.wt, .bool true] 24)) X → BoxG X w4.heap.size ⟨s.pl, s.st, s.nx, s.ph, s.t, 0, s.hl, s.ak, s.wt, true⟩ from fun X hX => hbg.below hX)
       have HY4 := Lib.hid (Below.refl (w4.alloc (.cells #[.int .i64 s.pl, .int .i64 s.st, .int .i64 s.nx, .int .i64 s.ph, .int .i64 s.t, .int .i64 0, .int .i64 s.hl, .int .i64 s.ak, .int .i64 s.wt, .bool true] 24)).heap.size (w4.alloc (.cells #[.int .i64 s.pl, .int .i64 s.st, .int .i64 s.nx, .int .i64 s.ph, .int .i64 s.t, .int .i64 0, .int .i64 s.hl, .int .i64 s.ak, .int .i64 s.wt, .bool true] 24)))
       clear hbx hbw hbs hbg
       try simp only [sgV])
    | (go_at_call 12
       (with_reducible refine (H1.out _ HX4.out).mono ?_)
       rintro e w5 ⟨rfl, hbx⟩
       have hbw := one_alloc w5 (.cells #[.int .i64 s.pl, .int .i64 s.st, .int .i64 s.nx, .int .i64 s.ph, .int .i64 s.t, .int .i64 0, .int .i64 s.hl, .int .i64 s.ak, .int .i64 s.wt, .bool true] 24)
       have hbs := hbx.trans (hbw.mono hbx.size)
       have hbg := BoxG.new w5 ⟨s.pl, s.st, s.nx, s.ph, s.t, 0, s.hl, s.ak, s.wt, true⟩
       have HX5 := Lib.hid (HX4.out.trans (hbs.mono HX4.out.size))
       have HY4 := Lib.hid (HY4.out.trans (hbs.mono HY4.out.size))
       have HG5 := Lib.hid (show ∀ X, Below (w5.alloc (.cells #[.int .i64 s.pl, .int .i64 s.st, .int .i64 s.nx, .int .i64 s.ph, .int .i64 s.t, .int .i64 0, .int .i64 s.hl, .int .i64 s.ak, .int .i64 s.wt, .bool true] 24)).heap.size (w5.alloc (.cells #[.int .i64 s.pl, .int .i64 s.st, .int .i64 s.nx, .int .i64 s.ph, .int .i64 s.t, .int .i64 0, .int .i64 s.hl, .int .i64 s.ak, .int .i64 s.wt, .bool true] 24)) X → BoxG X w5.heap.size ⟨s.pl, s.st, s.nx, s.ph, s.t, 0, s.hl, s.ak, s.wt, true⟩ from fun X hX => hbg.below hX)
       have HY5 := Lib.hid (Below.refl (w5.alloc (.cells #[.int .i64 s.pl, .int .i64 s.st, .int .i64 s.nx, .int .i64 s.ph, .int .i64 s.t, .int .i64 0, .int .i64 s.hl, .int .i64 s.ak, .int .i64 s.wt, .bool true] 24)).heap.size (w5.alloc (.cells #[.int .i64 s.pl, .int .i64 s.st, .int .i64 s.nx, .int .i64 s.ph, .int .i64 s.t, .int .i64 0, .int .i64 s.hl, .int .i64 s.ak, .int .i64 s.wt, .bool true] 24)))
       obtain ⟨b4_0, b4_1, b4_2, b4_3, b4_4, b4_5, b4_6, b4_7, b4_8, b4_9⟩ := (HG4.out _ HY4.out).cells
       try simp only at b4_0 b4_1 b4_2 b4_3 b4_4 b4_5 b4_6 b4_7 b4_8 b4_9
       clear hbx hbw hbs hbg
       try simp only [sgV])
    | (go_at_call 12
       (with_reducible refine (H3.out _ HX5.out).mono ?_)
       rintro e w6 ⟨rfl, hbx⟩
       have hbw := one_alloc w6 (.cells #[.int .i64 s.pl, .int .i64 s.st, .int .i64 s.nx, .int .i64 s.ph, .int .i64 s.t, .int .i64 0, .int .i64 s.hl, .int .i64 s.ak, .int .i64 s.wt, .bool true] 24)
       have hbs := hbx.trans (hbw.mono hbx.size)
       have hbg := BoxG.new w6 ⟨s.pl, s.st, s.nx, s.ph, s.t, 0, s.hl, s.ak, s.wt, true⟩
       have HX6 := Lib.hid (HX5.out.trans (hbs.mono HX5.out.size))
       have HY4 := Lib.hid (HY4.out.trans (hbs.mono HY4.out.size))
       have HY5 := Lib.hid (HY5.out.trans (hbs.mono HY5.out.size))
       have HG6 := Lib.hid (show ∀ X, Below (w6.alloc (.cells #[.int .i64 s.pl, .int .i64 s.st, .int .i64 s.nx, .int .i64 s.ph, .int .i64 s.t, .int .i64 0, .int .i64 s.hl, .int .i64 s.ak, .int .i64 s.wt, .bool true] 24)).heap.size (w6.alloc (.cells #[.int .i64 s.pl, .int .i64 s.st, .int .i64 s.nx, .int .i64 s.ph, .int .i64 s.t, .int .i64 0, .int .i64 s.hl, .int .i64 s.ak, .int .i64 s.wt, .bool true] 24)) X → BoxG X w6.heap.size ⟨s.pl, s.st, s.nx, s.ph, s.t, 0, s.hl, s.ak, s.wt, true⟩ from fun X hX => hbg.below hX)
       have HY6 := Lib.hid (Below.refl (w6.alloc (.cells #[.int .i64 s.pl, .int .i64 s.st, .int .i64 s.nx, .int .i64 s.ph, .int .i64 s.t, .int .i64 0, .int .i64 s.hl, .int .i64 s.ak, .int .i64 s.wt, .bool true] 24)).heap.size (w6.alloc (.cells #[.int .i64 s.pl, .int .i64 s.st, .int .i64 s.nx, .int .i64 s.ph, .int .i64 s.t, .int .i64 0, .int .i64 s.hl, .int .i64 s.ak, .int .i64 s.wt, .bool true] 24)))
       obtain ⟨b4_0, b4_1, b4_2, b4_3, b4_4, b4_5, b4_6, b4_7, b4_8, b4_9⟩ := (HG4.out _ HY4.out).cells
       try simp only at b4_0 b4_1 b4_2 b4_3 b4_4 b4_5 b4_6 b4_7 b4_8 b4_9
       clear hbx hbw hbs hbg
       try simp only [sgV])
    | (go_at_call 12
       (with_reducible refine (H4.out _ HX6.out).mono ?_)
       rintro e w7 ⟨rfl, hbx⟩
       have hbw := one_alloc w7 (.cells #[.int .i64 s.pl, .int .i64 s.st, .int .i64 s.nx, .int .i64 s.ph, .int .i64 s.t, .int .i64 0, .int .i64 s.hl, .int .i64 s.ak, .int .i64 s.wt, .bool true] 24)
       have hbs := hbx.trans (hbw.mono hbx.size)
       have hbg := BoxG.new w7 ⟨s.pl, s.st, s.nx, s.ph, s.t, 0, s.hl, s.ak, s.wt, true⟩
       have HX7 := Lib.hid (HX6.out.trans (hbs.mono HX6.out.size))
       have HY4 := Lib.hid (HY4.out.trans (hbs.mono HY4.out.size))
       have HY5 := Lib.hid (HY5.out.trans (hbs.mono HY5.out.size))
       have HY6 := Lib.hid (HY6.out.trans (hbs.mono HY6.out.size))
       have HG7 := Lib.hid (show ∀ X, Below (w7.alloc (.cells #[.int .i64 s.pl, .int .i64 s.st, .int .i64 s.nx, .int .i64 s.ph, .int .i64 s.t, .int .i64 0, .int .i64 s.hl, .int .i64 s.ak, .int .i64 s.wt, .bool true] 24)).heap.size (w7.alloc (.cells #[.int .i64 s.pl, .int .i64 s.st, .int .i64 s.nx, .int .i64 s.ph, .int .i64 s.t, .int .i64 0, .int .i64 s.hl, .int .i64 s.ak, .int .i64 s.wt, .bool true] 24)) X → BoxG X w7.heap.size ⟨s.pl, s.st, s.nx, s.ph, s.t, 0, s.hl, s.ak, s.wt, true⟩ from fun X hX => hbg.below hX)
       have HY7 := Lib.hid (Below.refl (w7.alloc (.cells #[.int .i64 s.pl, .int .i64 s.st, .int .i64 s.nx, .int .i64 s.ph, .int .i64 s.t, .int .i64 0, .int .i64 s.hl, .int .i64 s.ak, .int .i64 s.wt, .bool true] 24)).heap.size (w7.alloc (.cells #[.int .i64 s.pl, .int .i64 s.st, .int .i64 s.nx, .int .i64 s.ph, .int .i64 s.t, .int .i64 0, .int .i64 s.hl, .int .i64 s.ak, .int .i64 s.wt, .bool true] 24)))
       obtain ⟨b4_0, b4_1, b4_2, b4_3, b4_4, b4_5, b4_6, b4_7, b4_8, b4_9⟩ := (HG4.out _ HY4.out).cells
       try simp only at b4_0 b4_1 b4_2 b4_3 b4_4 b4_5 b4_6 b4_7 b4_8 b4_9
       clear hbx hbw hbs hbg
       try simp only [sgV])
    | (go_at_call 12
       (with_reducible refine (H6.out _ HX7.out).mono ?_)
       rintro e w8 ⟨rfl, hbx⟩
       have hbw := one_alloc w8 (.cells #[.int .i64 s.pl, .int .i64 s.st, .int .i64 s.nx, .int .i64 s.ph, .int .i64 s.t, .int .i64 0, .int .i64 s.hl, .int .i64 s.ak, .int .i64 s.wt, .bool false] 24)
       have hbs := hbx.trans (hbw.mono hbx.size)
       have hbg := BoxG.new w8 ⟨s.pl, s.st, s.nx, s.ph, s.t, 0, s.hl, s.ak, s.wt, false⟩
       have HX8 := Lib.hid (HX7.out.trans (hbs.mono HX7.out.size))
       have HY4 := Lib.hid (HY4.out.trans (hbs.mono HY4.out.size))
       have HY5 := Lib.hid (HY5.out.trans (hbs.mono HY5.out.size))
       have HY6 := Lib.hid (HY6.out.trans (hbs.mono HY6.out.size))
       have HY7 := Lib.hid (HY7.out.trans (hbs.mono HY7.out.size))
       have HG8 := Lib.hid (show ∀ X, Below (w8.alloc (.cells #[.int .i64 s.pl, .int .i64 s.st, .int .i64 s.nx, .int .i64 s.ph, .int .i64 s.t, .int .i64 0, .int .i64 s.hl, .int .i64 s.ak, .int .i64 s.wt, .bool false] 24)).heap.size (w8.alloc (.cells #[.int .i64 s.pl, .int .i64 s.st, .int .i64 s.nx, .int .i64 s.ph, .int .i64 s.t, .int .i64 0, .int .i64 s.hl, .int .i64 s.ak, .int .i64 s.wt, .bool false] 24)) X → BoxG X w8.heap.size ⟨s.pl, s.st, s.nx, s.ph, s.t, 0, s.hl, s.ak, s.wt, false⟩ from fun X hX => hbg.below hX)
       have HY8 := Lib.hid (Below.refl (w8.alloc (.cells #[.int .i64 s.pl, .int .i64 s.st, .int .i64 s.nx, .int .i64 s.ph, .int .i64 s.t, .int .i64 0, .int .i64 s.hl, .int .i64 s.ak, .int .i64 s.wt, .bool false] 24)).heap.size (w8.alloc (.cells #[.int .i64 s.pl, .int .i64 s.st, .int .i64 s.nx, .int .i64 s.ph, .int .i64 s.t, .int .i64 0, .int .i64 s.hl, .int .i64 s.ak, .int .i64 s.wt, .bool false] 24)))
       obtain ⟨b4_0, b4_1, b4_2, b4_3, b4_4, b4_5, b4_6, b4_7, b4_8, b4_9⟩ := (HG4.out _ HY4.out).cells
       try simp only at b4_0 b4_1 b4_2 b4_3 b4_4 b4_5 b4_6 b4_7 b4_8 b4_9
       obtain ⟨b8_0, b8_1, b8_2, b8_3, b8_4, b8_5, b8_6, b8_7, b8_8, b8_9⟩ := (HG8.out _ HY8.out).cells
       try simp only at b8_0 b8_1 b8_2 b8_3 b8_4 b8_5 b8_6 b8_7 b8_8 b8_9
       have hpb := HPB.out
       have f1 := HE1.out
       have f3 := HE3.out
       have f4 := HE4.out
       clear hbx hbw hbs hbg
       try simp only [sgV]))
  go_ret
  exact ⟨by first | rfl | simp, HB0.out.trans (HX8.out.mono HB0.out.size)⟩
set_option maxHeartbeats 16000000 in
theorem fred_o (HO : SafOk) (HN : StgOk) (HT : LmpText) (A : Option Addr) (n c : Nat) (l : List Pl) (s : Sg) (a : Int) (w : World) (hl : Pls w A n c l) (hts : SmG s) (hfw : fewAllB l = true) (hm : mayS l s = true) (hp : s.ph ≠ 2) :
    Calls Try.prog 6 #[.slice A n c, sgV s, .int .i64 a] w fun e w' => e = .returned (.bool true) ∧ Below w.heap.size w w' := by
  have hsm := hl.small
  have hlen := hl.len
  simp only [sgV]
  obtain ⟨W0, hW0⟩ : ∃ W0, w.alloc (.cells #[.int .i64 s.pl, .int .i64 s.st, .int .i64 s.nx, .int .i64 s.ph, .int .i64 s.t, .int .i64 s.hd, .int .i64 s.hl, .int .i64 s.ak, .int .i64 s.wt, .bool s.sp] 24) = W0 := ⟨_, rfl⟩
  have hB0 : Below w.heap.size w W0 := by rw [← hW0]; exact one_alloc w _
  have hbs : BoxG W0 w.heap.size s := by rw [← hW0]; exact BoxG.new w s
  have HPL := Lib.hid (show ∀ X, Below W0.heap.size W0 X → Pls X A n c l from fun X hX => (hl.below hB0).below hX)
  have HBS := Lib.hid (show ∀ X, Below W0.heap.size W0 X → BoxG X w.heap.size s from fun X hX => hbs.below hX)
  have HLL := Lib.hid hlen
  have HB0 := Lib.hid hB0
  have HW := Lib.hid hW0
  have HAW := Lib.hid (sawake17_any HO HN HT W0)
  have HFW := Lib.hid (fun X hX => pfewall_any A n c l X (HPL.out X hX))
  clear hW0 hB0 hbs hl
  rw [hfw] at HFW
  obtain ⟨hl5, hfp⟩ := fewall_iff.1 hfw
  have hn1000 : n ≤ 1000 := by omega
  have hmem : ∀ p ∈ l, p.n ≤ 1000 ∧ p.k ≤ 1000 := fun p hp => by have := hfp p hp; omega
  have HMY := Lib.hid (fun X hX => HN.may A n c l s X (HPL.out X hX) hts hn1000 hmem)
  rw [hm] at HMY
  have hms := mayS_iff.1 hm
  have hmt := may_stop hms
  obtain ⟨e1, g1, h1⟩ := stop_hold (l := l) (s := ⟨s.pl, s.st, s.nx, s.ph, s.t, 0, s.hl, s.ak, s.wt, true⟩) rfl 1 a (.inl rfl)
  obtain ⟨e3, g3, h3⟩ := stop_hold (l := l) (s := ⟨s.pl, s.st, s.nx, s.ph, s.t, 0, s.hl, s.ak, s.wt, true⟩) rfl 3 a (.inr (.inl rfl))
  obtain ⟨e4, g4, h4⟩ := stop_hold (l := l) (s := ⟨s.pl, s.st, s.nx, s.ph, s.t, 0, s.hl, s.ak, s.wt, true⟩) rfl 4 a (.inr (.inr rfl))
  have h6 := clear_ok hmt rfl
  rw [if_neg hp] at h6
  have H5 := Lib.hid (fun X hX => HO.ask A n c l s 5 0 X (HPL.out X hX) hts hn1000 hmem)
  have H1 := Lib.hid (fun X hX => HO.ask A n c l ⟨s.pl, s.st, s.nx, s.ph, s.t, 0, s.hl, s.ak, s.wt, true⟩ 1 a X (HPL.out X hX) hts hn1000 hmem)
  have H3 := Lib.hid (fun X hX => HO.ask A n c l ⟨s.pl, s.st, s.nx, s.ph, s.t, 0, s.hl, s.ak, s.wt, true⟩ 3 a X (HPL.out X hX) hts hn1000 hmem)
  have H4 := Lib.hid (fun X hX => HO.ask A n c l ⟨s.pl, s.st, s.nx, s.ph, s.t, 0, s.hl, s.ak, s.wt, true⟩ 4 a X (HPL.out X hX) hts hn1000 hmem)
  have H6 := Lib.hid (fun X hX => HO.ask A n c l ⟨s.pl, s.st, s.nx, s.ph, s.t, 0, s.hl, s.ak, s.wt, true⟩ 6 0 X (HPL.out X hX) hts hn1000 hmem)
  rw [red_ok hms] at H5
  rw [h1] at H1
  rw [h3] at H3
  rw [h4] at H4
  rw [h6] at H6
  have HPB := Lib.hid (show (s.ph == 2) = false by rw [beq_eq_false_iff_ne]; exact hp)
  have HE1 := Lib.hid (show (e1 == 0) = false by rw [beq_eq_false_iff_ne]; exact g1)
  have HE3 := Lib.hid (show (e3 == 0) = false by rw [beq_eq_false_iff_ne]; exact g3)
  have HE4 := Lib.hid (show (e4 == 0) = false by rw [beq_eq_false_iff_ne]; exact g4)
  simp only [GivesGE, sgV] at HMY H5 H1 H3 H4 H6
  clear hm hmem hfp hfw hms hmt h1 h3 h4 h6 g1 g3 g4 hp
  go_enter Try.func6, Try.ntmps6
  go_wp2_with (first
    | (go_at_call 10
       rw [HW.out]
       (with_reducible refine (HAW.out).mono ?_)
       rintro e w1 ⟨rfl, hbx⟩
       have HX1 := Lib.hid hbx
       clear hbx)
    | (go_at_call 11
       (with_reducible refine (HFW.out _ HX1.out).mono ?_)
       rintro e w2 ⟨rfl, hbx⟩
       have HX2 := Lib.hid (HX1.out.trans (hbx.mono HX1.out.size))
       obtain ⟨a0, a1, a2, a3, a4, a5, a6, a7, a8, a9⟩ := (HBS.out w2 HX2.out).cells
       clear hbx)
    | (go_at_call 22
       (with_reducible refine (HMY.out _ HX2.out).mono ?_)
       rintro e w3 ⟨rfl, hbx⟩
       have HX3 := Lib.hid (HX2.out.trans (hbx.mono HX2.out.size))
       obtain ⟨m0, m1, m2, m3, m4, m5, m6, m7, m8, m9⟩ := (HBS.out w3 HX3.out).cells
       clear hbx)
    | (go_at_call 12
       (with_reducible refine (H5.out _ HX3.out).mono ?_)
       rintro e w4 ⟨rfl, hbx⟩
       have hbw := one_alloc w4 (.cells #[.int .i64 s.pl, .int .i64 s.st, .int .i64 s.nx, .int .i64 s.ph, .int .i64 s.t, .int .i64 0, .int .i64 s.hl, .int .i64 s.ak, .int .i64 s.wt, .bool true] 24)
       have hbs := hbx.trans (hbw.mono hbx.size)
       have hbg := BoxG.new w4 ⟨s.pl, s.st, s.nx, s.ph, s.t, 0, s.hl, s.ak, s.wt, true⟩
       have HX4 := Lib.hid (HX3.out.trans (hbs.mono HX3.out.size))
       have HG4 := Lib.hid (show ∀ X, Below (w4.alloc (.cells #[.int .i64 s.pl, .int .i64 s.st, .int .i64 s.nx, .int .i64 s.ph, .int .i64 s.t, .int .i64 0, .int .i64 s.hl, .int .i64 s.ak, .int .i64 s.wt, .bool true] 24)).heap.size (w4.alloc (.cells #[.int .i64 s.pl, .int .i64 s.st, .int .i64 s.nx, .int .i64 s.ph, .int .i64 s.t, .int .i64 0, .int .i64 s.hl, .int .i64 s.ak, .int .i64 s.wt, .bool true] 24)) X → BoxG X w4.heap.size ⟨s.pl, s.st, s.nx, s.ph, s.t, 0, s.hl, s.ak, s.wt, true⟩ from fun X hX => hbg.below hX)
       have HY4 := Lib.hid (Below.refl (w4.alloc (.cells #[.int .i64 s.pl, .int .i64 s.st, .int .i64 s.nx, .int .i64 s.ph, .int .i64 s.t, .int .i64 0, .int .i64 s.hl, .int .i64 s.ak, .int .i64 s.wt, .bool true] 24)).heap.size (w4.alloc (.cells #[.int .i64 s.pl, .int .i64 s.st, .int .i64 s.nx, .int .i64 s.ph, .int .i64 s.t, .int .i64 0, .int .i64 s.hl, .int .i64 s.ak, .int .i64 s.wt, .bool true] 24)))
       clear hbx hbw hbs hbg
       try simp only [sgV])
    | (go_at_call 12
       (with_reducible refine (H1.out _ HX4.out).mono ?_)
       rintro e w5 ⟨rfl, hbx⟩
       have hbw := one_alloc w5 (.cells #[.int .i64 s.pl, .int .i64 s.st, .int .i64 s.nx, .int .i64 s.ph, .int .i64 s.t, .int .i64 0, .int .i64 s.hl, .int .i64 s.ak, .int .i64 s.wt, .bool true] 24)
       have hbs := hbx.trans (hbw.mono hbx.size)
       have hbg := BoxG.new w5 ⟨s.pl, s.st, s.nx, s.ph, s.t, 0, s.hl, s.ak, s.wt, true⟩
       have HX5 := Lib.hid (HX4.out.trans (hbs.mono HX4.out.size))
       have HY4 := Lib.hid (HY4.out.trans (hbs.mono HY4.out.size))
       have HG5 := Lib.hid (show ∀ X, Below (w5.alloc (.cells #[.int .i64 s.pl, .int .i64 s.st, .int .i64 s.nx, .int .i64 s.ph, .int .i64 s.t, .int .i64 0, .int .i64 s.hl, .int .i64 s.ak, .int .i64 s.wt, .bool true] 24)).heap.size (w5.alloc (.cells #[.int .i64 s.pl, .int .i64 s.st, .int .i64 s.nx, .int .i64 s.ph, .int .i64 s.t, .int .i64 0, .int .i64 s.hl, .int .i64 s.ak, .int .i64 s.wt, .bool true] 24)) X → BoxG X w5.heap.size ⟨s.pl, s.st, s.nx, s.ph, s.t, 0, s.hl, s.ak, s.wt, true⟩ from fun X hX => hbg.below hX)
       have HY5 := Lib.hid (Below.refl (w5.alloc (.cells #[.int .i64 s.pl, .int .i64 s.st, .int .i64 s.nx, .int .i64 s.ph, .int .i64 s.t, .int .i64 0, .int .i64 s.hl, .int .i64 s.ak, .int .i64 s.wt, .bool true] 24)).heap.size (w5.alloc (.cells #[.int .i64 s.pl, .int .i64 s.st, .int .i64 s.nx, .int .i64 s.ph, .int .i64 s.t, .int .i64 0, .int .i64 s.hl, .int .i64 s.ak, .int .i64 s.wt, .bool true] 24)))
       obtain ⟨b4_0, b4_1, b4_2, b4_3, b4_4, b4_5, b4_6, b4_7, b4_8, b4_9⟩ := (HG4.out _ HY4.out).cells
       try simp only at b4_0 b4_1 b4_2 b4_3 b4_4 b4_5 b4_6 b4_7 b4_8 b4_9
       clear hbx hbw hbs hbg
       try simp only [sgV])
    | (go_at_call 12
       (with_reducible refine (H3.out _ HX5.out).mono ?_)
       rintro e w6 ⟨rfl, hbx⟩
       have hbw := one_alloc w6 (.cells #[.int .i64 s.pl, .int .i64 s.st, .int .i64 s.nx, .int .i64 s.ph, .int .i64 s.t, .int .i64 0, .int .i64 s.hl, .int .i64 s.ak, .int .i64 s.wt, .bool true] 24)
       have hbs := hbx.trans (hbw.mono hbx.size)
       have hbg := BoxG.new w6 ⟨s.pl, s.st, s.nx, s.ph, s.t, 0, s.hl, s.ak, s.wt, true⟩
       have HX6 := Lib.hid (HX5.out.trans (hbs.mono HX5.out.size))
       have HY4 := Lib.hid (HY4.out.trans (hbs.mono HY4.out.size))
       have HY5 := Lib.hid (HY5.out.trans (hbs.mono HY5.out.size))
       have HG6 := Lib.hid (show ∀ X, Below (w6.alloc (.cells #[.int .i64 s.pl, .int .i64 s.st, .int .i64 s.nx, .int .i64 s.ph, .int .i64 s.t, .int .i64 0, .int .i64 s.hl, .int .i64 s.ak, .int .i64 s.wt, .bool true] 24)).heap.size (w6.alloc (.cells #[.int .i64 s.pl, .int .i64 s.st, .int .i64 s.nx, .int .i64 s.ph, .int .i64 s.t, .int .i64 0, .int .i64 s.hl, .int .i64 s.ak, .int .i64 s.wt, .bool true] 24)) X → BoxG X w6.heap.size ⟨s.pl, s.st, s.nx, s.ph, s.t, 0, s.hl, s.ak, s.wt, true⟩ from fun X hX => hbg.below hX)
       have HY6 := Lib.hid (Below.refl (w6.alloc (.cells #[.int .i64 s.pl, .int .i64 s.st, .int .i64 s.nx, .int .i64 s.ph, .int .i64 s.t, .int .i64 0, .int .i64 s.hl, .int .i64 s.ak, .int .i64 s.wt, .bool true] 24)).heap.size (w6.alloc (.cells #[.int .i64 s.pl, .int .i64 s.st, .int .i64 s.nx, .int .i64 s.ph, .int .i64 s.t, .int .i64 0, .int .i64 s.hl, .int .i64 s.ak, .int .i64 s.wt, .bool true] 24)))
       obtain ⟨b4_0, b4_1, b4_2, b4_3, b4_4, b4_5, b4_6, b4_7, b4_8, b4_9⟩ := (HG4.out _ HY4.out).cells
       try simp only at b4_0 b4_1 b4_2 b4_3 b4_4 b4_5 b4_6 b4_7 b4_8 b4_9
       clear hbx hbw hbs hbg
       try simp only [sgV])
    | (go_at_call 12
       (with_reducible refine (H4.out _ HX6.out).mono ?_)
       rintro e w7 ⟨rfl, hbx⟩
       have hbw := one_alloc w7 (.cells #[.int .i64 s.pl, .int .i64 s.st, .int .i64 s.nx, .int .i64 s.ph, .int .i64 s.t, .int .i64 0, .int .i64 s.hl, .int .i64 s.ak, .int .i64 s.wt, .bool true] 24)
       have hbs := hbx.trans (hbw.mono hbx.size)
       have hbg := BoxG.new w7 ⟨s.pl, s.st, s.nx, s.ph, s.t, 0, s.hl, s.ak, s.wt, true⟩
       have HX7 := Lib.hid (HX6.out.trans (hbs.mono HX6.out.size))
       have HY4 := Lib.hid (HY4.out.trans (hbs.mono HY4.out.size))
       have HY5 := Lib.hid (HY5.out.trans (hbs.mono HY5.out.size))
       have HY6 := Lib.hid (HY6.out.trans (hbs.mono HY6.out.size))
       have HG7 := Lib.hid (show ∀ X, Below (w7.alloc (.cells #[.int .i64 s.pl, .int .i64 s.st, .int .i64 s.nx, .int .i64 s.ph, .int .i64 s.t, .int .i64 0, .int .i64 s.hl, .int .i64 s.ak, .int .i64 s.wt, .bool true] 24)).heap.size (w7.alloc (.cells #[.int .i64 s.pl, .int .i64 s.st, .int .i64 s.nx, .int .i64 s.ph, .int .i64 s.t, .int .i64 0, .int .i64 s.hl, .int .i64 s.ak, .int .i64 s.wt, .bool true] 24)) X → BoxG X w7.heap.size ⟨s.pl, s.st, s.nx, s.ph, s.t, 0, s.hl, s.ak, s.wt, true⟩ from fun X hX => hbg.below hX)
       have HY7 := Lib.hid (Below.refl (w7.alloc (.cells #[.int .i64 s.pl, .int .i64 s.st, .int .i64 s.nx, .int .i64 s.ph, .int .i64 s.t, .int .i64 0, .int .i64 s.hl, .int .i64 s.ak, .int .i64 s.wt, .bool true] 24)).heap.size (w7.alloc (.cells #[.int .i64 s.pl, .int .i64 s.st, .int .i64 s.nx, .int .i64 s.ph, .int .i64 s.t, .int .i64 0, .int .i64 s.hl, .int .i64 s.ak, .int .i64 s.wt, .bool true] 24)))
       obtain ⟨b4_0, b4_1, b4_2, b4_3, b4_4, b4_5, b4_6, b4_7, b4_8, b4_9⟩ := (HG4.out _ HY4.out).cells
       try simp only at b4_0 b4_1 b4_2 b4_3 b4_4 b4_5 b4_6 b4_7 b4_8 b4_9
       clear hbx hbw hbs hbg
       try simp only [sgV])
    | (go_at_call 12
       (with_reducible refine (H6.out _ HX7.out).mono ?_)
       rintro e w8 ⟨rfl, hbx⟩
       have hbw := one_alloc w8 (.cells #[.int .i64 s.pl, .int .i64 s.st, .int .i64 s.nx, .int .i64 s.ph, .int .i64 s.t, .int .i64 0, .int .i64 s.hl, .int .i64 s.ak, .int .i64 s.wt, .bool true] 24)
       have hbs := hbx.trans (hbw.mono hbx.size)
       have hbg := BoxG.new w8 ⟨s.pl, s.st, s.nx, s.ph, s.t, 0, s.hl, s.ak, s.wt, true⟩
       have HX8 := Lib.hid (HX7.out.trans (hbs.mono HX7.out.size))
       have HY4 := Lib.hid (HY4.out.trans (hbs.mono HY4.out.size))
       have HY5 := Lib.hid (HY5.out.trans (hbs.mono HY5.out.size))
       have HY6 := Lib.hid (HY6.out.trans (hbs.mono HY6.out.size))
       have HY7 := Lib.hid (HY7.out.trans (hbs.mono HY7.out.size))
       have HG8 := Lib.hid (show ∀ X, Below (w8.alloc (.cells #[.int .i64 s.pl, .int .i64 s.st, .int .i64 s.nx, .int .i64 s.ph, .int .i64 s.t, .int .i64 0, .int .i64 s.hl, .int .i64 s.ak, .int .i64 s.wt, .bool true] 24)).heap.size (w8.alloc (.cells #[.int .i64 s.pl, .int .i64 s.st, .int .i64 s.nx, .int .i64 s.ph, .int .i64 s.t, .int .i64 0, .int .i64 s.hl, .int .i64 s.ak, .int .i64 s.wt, .bool true] 24)) X → BoxG X w8.heap.size ⟨s.pl, s.st, s.nx, s.ph, s.t, 0, s.hl, s.ak, s.wt, true⟩ from fun X hX => hbg.below hX)
       have HY8 := Lib.hid (Below.refl (w8.alloc (.cells #[.int .i64 s.pl, .int .i64 s.st, .int .i64 s.nx, .int .i64 s.ph, .int .i64 s.t, .int .i64 0, .int .i64 s.hl, .int .i64 s.ak, .int .i64 s.wt, .bool true] 24)).heap.size (w8.alloc (.cells #[.int .i64 s.pl, .int .i64 s.st, .int .i64 s.nx, .int .i64 s.ph, .int .i64 s.t, .int .i64 0, .int .i64 s.hl, .int .i64 s.ak, .int .i64 s.wt, .bool true] 24)))
       obtain ⟨b4_0, b4_1, b4_2, b4_3, b4_4, b4_5, b4_6, b4_7, b4_8, b4_9⟩ := (HG4.out _ HY4.out).cells
       try simp only at b4_0 b4_1 b4_2 b4_3 b4_4 b4_5 b4_6 b4_7 b4_8 b4_9
       obtain ⟨b8_0, b8_1, b8_2, b8_3, b8_4, b8_5, b8_6, b8_7, b8_8, b8_9⟩ := (HG8.out _ HY8.out).cells
       try simp only at b8_0 b8_1 b8_2 b8_3 b8_4 b8_5 b8_6 b8_7 b8_8 b8_9
       have hpb := HPB.out
       have f1 := HE1.out
       have f3 := HE3.out
       have f4 := HE4.out
       clear hbx hbw hbs hbg
       try simp only [sgV]))
  go_ret
  exact ⟨by first | rfl | simp, HB0.out.trans (HX8.out.mono HB0.out.size)⟩
set_option maxHeartbeats 16000000 in
theorem fred_any (HO : SafOk) (HN : StgOk) (HT : LmpText) (A : Option Addr) (n c : Nat) (l : List Pl) (s : Sg) (a : Int) (w : World) (hl : Pls w A n c l) (hts : SmG s) :
    Calls Try.prog 6 #[.slice A n c, sgV s, .int .i64 a] w fun e w' => e = .returned (.bool true) ∧ Below w.heap.size w w' := by
  cases hfw : fewAllB l with
  | false =>
    have hsm := hl.small
    have hlen := hl.len
    simp only [sgV]
    obtain ⟨W0, hW0⟩ : ∃ W0, w.alloc (.cells #[.int .i64 s.pl, .int .i64 s.st, .int .i64 s.nx, .int .i64 s.ph, .int .i64 s.t, .int .i64 s.hd, .int .i64 s.hl, .int .i64 s.ak, .int .i64 s.wt, .bool s.sp] 24) = W0 := ⟨_, rfl⟩
    have hB0 : Below w.heap.size w W0 := by rw [← hW0]; exact one_alloc w _
    have hbs : BoxG W0 w.heap.size s := by rw [← hW0]; exact BoxG.new w s
    have HPL := Lib.hid (show ∀ X, Below W0.heap.size W0 X → Pls X A n c l from fun X hX => (hl.below hB0).below hX)
    have HBS := Lib.hid (show ∀ X, Below W0.heap.size W0 X → BoxG X w.heap.size s from fun X hX => hbs.below hX)
    have HLL := Lib.hid hlen
    have HB0 := Lib.hid hB0
    have HW := Lib.hid hW0
    have HAW := Lib.hid (sawake17_any HO HN HT W0)
    have HFW := Lib.hid (fun X hX => pfewall_any A n c l X (HPL.out X hX))
    clear hW0 hB0 hbs hl
    rw [hfw] at HFW
    clear hfw
    go_enter Try.func6, Try.ntmps6
    go_wp2_with (first
        | (go_at_call 10
           rw [HW.out]
           (with_reducible refine (HAW.out).mono ?_)
           rintro e w1 ⟨rfl, hbx⟩
           have HX1 := Lib.hid hbx
           clear hbx)
        | (go_at_call 11
           (with_reducible refine (HFW.out _ HX1.out).mono ?_)
           rintro e w2 ⟨rfl, hbx⟩
           have HX2 := Lib.hid (HX1.out.trans (hbx.mono HX1.out.size))
           obtain ⟨a0, a1, a2, a3, a4, a5, a6, a7, a8, a9⟩ := (HBS.out w2 HX2.out).cells
           clear hbx))
    go_ret
    exact ⟨rfl, HB0.out.trans (HX2.out.mono HB0.out.size)⟩
  | true =>
  cases hm : mayS l s with
  | false =>
    have hsm := hl.small
    have hlen := hl.len
    simp only [sgV]
    obtain ⟨W0, hW0⟩ : ∃ W0, w.alloc (.cells #[.int .i64 s.pl, .int .i64 s.st, .int .i64 s.nx, .int .i64 s.ph, .int .i64 s.t, .int .i64 s.hd, .int .i64 s.hl, .int .i64 s.ak, .int .i64 s.wt, .bool s.sp] 24) = W0 := ⟨_, rfl⟩
    have hB0 : Below w.heap.size w W0 := by rw [← hW0]; exact one_alloc w _
    have hbs : BoxG W0 w.heap.size s := by rw [← hW0]; exact BoxG.new w s
    have HPL := Lib.hid (show ∀ X, Below W0.heap.size W0 X → Pls X A n c l from fun X hX => (hl.below hB0).below hX)
    have HBS := Lib.hid (show ∀ X, Below W0.heap.size W0 X → BoxG X w.heap.size s from fun X hX => hbs.below hX)
    have HLL := Lib.hid hlen
    have HB0 := Lib.hid hB0
    have HW := Lib.hid hW0
    have HAW := Lib.hid (sawake17_any HO HN HT W0)
    have HFW := Lib.hid (fun X hX => pfewall_any A n c l X (HPL.out X hX))
    clear hW0 hB0 hbs hl
    rw [hfw] at HFW
    obtain ⟨hl5, hfp⟩ := fewall_iff.1 hfw
    have hn1000 : n ≤ 1000 := by omega
    have hmem : ∀ p ∈ l, p.n ≤ 1000 ∧ p.k ≤ 1000 := fun p hp => by have := hfp p hp; omega
    have HMY := Lib.hid (fun X hX => HN.may A n c l s X (HPL.out X hX) hts hn1000 hmem)
    rw [hm] at HMY
    simp only [sgV] at HMY
    clear hm hmem hfp hfw
    go_enter Try.func6, Try.ntmps6
    go_wp2_with (first
        | (go_at_call 10
           rw [HW.out]
           (with_reducible refine (HAW.out).mono ?_)
           rintro e w1 ⟨rfl, hbx⟩
           have HX1 := Lib.hid hbx
           clear hbx)
        | (go_at_call 11
           (with_reducible refine (HFW.out _ HX1.out).mono ?_)
           rintro e w2 ⟨rfl, hbx⟩
           have HX2 := Lib.hid (HX1.out.trans (hbx.mono HX1.out.size))
           obtain ⟨a0, a1, a2, a3, a4, a5, a6, a7, a8, a9⟩ := (HBS.out w2 HX2.out).cells
           clear hbx)
        | (go_at_call 22
           (with_reducible refine (HMY.out _ HX2.out).mono ?_)
           rintro e w3 ⟨rfl, hbx⟩
           have HX3 := Lib.hid (HX2.out.trans (hbx.mono HX2.out.size))
           obtain ⟨m0, m1, m2, m3, m4, m5, m6, m7, m8, m9⟩ := (HBS.out w3 HX3.out).cells
           clear hbx))
    go_ret
    exact ⟨rfl, HB0.out.trans (HX3.out.mono HB0.out.size)⟩
  | true =>
  by_cases hp : s.ph = 2
  · exact fred_p HO HN HT A n c l s a w hl hts hfw hm hp
  · exact fred_o HO HN HT A n c l s a w hl hts hfw hm hp
end Go.Proofs.Ytgnhmdfajnnkhaa

