/- The walk over the law SafeNext. -/
import Derived.Test.YtgnhmdfajnnkhaaSbJC
namespace Go.Proofs.Ytgnhmdfajnnkhaa
set_option maxRecDepth 100000
set_option linter.unusedVariables false
set_option linter.unusedSimpArgs false
open Go.RowKit

set_option maxHeartbeats 16000000 in
theorem fnext_e (HO : SafOk) (HN : StgOk) (HT : LmpText) (A : Option Addr) (n c : Nat) (l : List Pl) (s : Sg) (a b : Int) (w : World) (hl : Pls w A n c l) (hts : SmG s) (hfw : fewAllB l = true) (he : (doS l s 3 a).2 ≠ 0) :
    Calls Try.prog 7 #[.slice A n c, sgV s, .int .i64 a, .int .i64 b] w fun e w' => e = .returned (.bool true) ∧ Below w.heap.size w w' := by
  have hsm := hl.small
  have hlen := hl.len
  simp only [sgV]
  obtain ⟨W0, hW0⟩ : ∃ W0, w.alloc (.cells #[.int .i64 s.pl, .int .i64 s.st, .int .i64 s.nx, .int .i64 s.ph, .int .i64 s.t, .int .i64 s.hd, .int .i64 s.hl, .int .i64 s.ak, .int .i64 s.wt, .bool s.sp] 24) = W0 := ⟨_, rfl⟩
  have hB0 : Below w.heap.size w W0 := by rw [← hW0]; exact one_alloc w _
  have hbs : BoxG W0 w.heap.size s := by rw [← hW0]; exact BoxG.new w s
  have HPL := Lib.hid (show ∀ X, Below W0.heap.size W0 X → Pls X A n c l from fun X hX => (hl.below hB0).below hX)
  have HBS := Lib.hid (show ∀ X, Below W0.heap.size W0 X → BoxG X w.heap.size s from fun X hX => hbs.below hX)
  have HLL := Lib.hid hlen
  have HB0 := Lib.hid hB0
  have HW := Lib.hid hW0
  have HAW := Lib.hid (sawake17_any HO HN HT W0)
  have HFW := Lib.hid (fun X hX => pfewall_any A n c l X (HPL.out X hX))
  clear hW0 hB0 hbs hl
  rw [hfw] at HFW
  obtain ⟨hl5, hfp⟩ := fewall_iff.1 hfw
  have hn1000 : n ≤ 1000 := by omega
  have hmem : ∀ p ∈ l, p.n ≤ 1000 ∧ p.k ≤ 1000 := fun p hp => by have := hfp p hp; omega
  have H1 := Lib.hid (fun X hX => HO.ask A n c l s 3 a X (HPL.out X hX) hts hn1000 hmem)
  have H2 := Lib.hid (fun X hX => HO.ask A n c l (doS l s 3 a).1 3 b X (HPL.out X hX) (do_small hts) hn1000 hmem)
  obtain ⟨⟨x, e1⟩, hx⟩ : ∃ r, doS l s 3 a = r := ⟨_, rfl⟩
  rw [hx] at H1 H2 he
  simp only at H2 he
  obtain ⟨⟨y, e2⟩, hy⟩ : ∃ r, doS l x 3 b = r := ⟨_, rfl⟩
  rw [hy] at H2
  have heb : (e1 != 0) = true := by rw [bne_iff_ne]; exact he
  simp only [GivesGE, sgV] at H1 H2
  clear hmem hfp hfw hx hy he
  go_enter Try.func7, Try.ntmps7
  go_wp2_with (first
    | (go_at_call 10
       rw [HW.out]
       (with_reducible refine (HAW.out).mono ?_)
       rintro e w1 ⟨rfl, hbx⟩
       have HX1 := Lib.hid hbx
       clear hbx)
    | (go_at_call 11
       (with_reducible refine (HFW.out _ HX1.out).mono ?_)
       rintro e w2 ⟨rfl, hbx⟩
       have HX2 := Lib.hid (HX1.out.trans (hbx.mono HX1.out.size))
       obtain ⟨a0, a1, a2, a3, a4, a5, a6, a7, a8, a9⟩ := (HBS.out w2 HX2.out).cells
       clear hbx)
    | (go_at_call 12
       (with_reducible refine (H1.out _ HX2.out).mono ?_)
       rintro e w3 ⟨rfl, hbx⟩
       have hbw := one_alloc w3 (.cells #[.int .i64 x.pl, .int .i64 x.st, .int .i64 x.nx, .int .i64 x.ph, .int .i64 x.t, .int .i64 x.hd, .int .i64 x.hl, .int .i64 x.ak, .int .i64 x.wt, .bool x.sp] 24)
       have hbs := hbx.trans (hbw.mono hbx.size)
       have hbg := BoxG.new w3 x
       have HX3 := Lib.hid (HX2.out.trans (hbs.mono HX2.out.size))
       have HG3 := Lib.hid (show ∀ X, Below (w3.alloc (.cells #[.int .i64 x.pl, .int .i64 x.st, .int .i64 x.nx, .int .i64 x.ph, .int .i64 x.t, .int .i64 x.hd, .int .i64 x.hl, .int .i64 x.ak, .int .i64 x.wt, .bool x.sp] 24)).heap.size (w3.alloc (.cells #[.int .i64 x.pl, .int .i64 x.st, .int .i64 x.nx, .int .i64 x.ph, .int .i64 x.t, .int .i64 x.hd, .int .i64 x.hl, .int .i64 x.ak, .int .i64 x.wt, .bool x.sp] 24)) X → BoxG X w3.heap.size x from fun X hX => hbg.below hX)
       have HY3 := Lib.hid (Below.refl (w3.alloc (.cells #[.int .i64 x.pl, .int .i64 x.st, .int .i64 x.nx, .int .i64 x.ph, .int .i64 x.t, .int .i64 x.hd, .int .i64 x.hl, .int .i64 x.ak, .int .i64 x.wt, .bool x.sp] 24)).heap.size (w3.alloc (.cells #[.int .i64 x.pl, .int .i64 x.st, .int .i64 x.nx, .int .i64 x.ph, .int .i64 x.t, .int .i64 x.hd, .int .i64 x.hl, .int .i64 x.ak, .int .i64 x.wt, .bool x.sp] 24)))
       obtain ⟨b3_0, b3_1, b3_2, b3_3, b3_4, b3_5, b3_6, b3_7, b3_8, b3_9⟩ := (HG3.out _ HY3.out).cells
       try simp only at b3_0 b3_1 b3_2 b3_3 b3_4 b3_5 b3_6 b3_7 b3_8 b3_9
       clear hbx hbw hbs hbg
       try simp only [sgV])
    | (go_at_call 12
       (with_reducible refine (H2.out _ HX3.out).mono ?_)
       rintro e w4 ⟨rfl, hbx⟩
       have hbw := one_alloc w4 (.cells #[.int .i64 y.pl, .int .i64 y.st, .int .i64 y.nx, .int .i64 y.ph, .int .i64 y.t, .int .i64 y.hd, .int .i64 y.hl, .int .i64 y.ak, .int .i64 y.wt, .bool y.sp] 24)
       have hbs := hbx.trans (hbw.mono hbx.size)
       have hbg := BoxG.new w4 y
       have HX4 := Lib.hid (HX3.out.trans (hbs.mono HX3.out.size))
       have HY3 := Lib.hid (HY3.out.trans (hbs.mono HY3.out.size))
       have HG4 := Lib.hid (show ∀ X, Below (w4.alloc (.cells #[.int .i64 y.pl, .int .i64 y.st, .int .i64 y.nx, .int .i64 y.ph, .int .i64 y.t, .int .i64 y.hd, .int .i64 y.hl, .int .i64 y.ak, .int .i64 y.wt, .bool y.sp] 24)).heap.size (w4.alloc (.cells #[.int .i64 y.pl, .int .i64 y.st, .int .i64 y.nx, .int .i64 y.ph, .int .i64 y.t, .int .i64 y.hd, .int .i64 y.hl, .int .i64 y.ak, .int .i64 y.wt, .bool y.sp] 24)) X → BoxG X w4.heap.size y from fun X hX => hbg.below hX)
       have HY4 := Lib.hid (Below.refl (w4.alloc (.cells #[.int .i64 y.pl, .int .i64 y.st, .int .i64 y.nx, .int .i64 y.ph, .int .i64 y.t, .int .i64 y.hd, .int .i64 y.hl, .int .i64 y.ak, .int .i64 y.wt, .bool y.sp] 24)).heap.size (w4.alloc (.cells #[.int .i64 y.pl, .int .i64 y.st, .int .i64 y.nx, .int .i64 y.ph, .int .i64 y.t, .int .i64 y.hd, .int .i64 y.hl, .int .i64 y.ak, .int .i64 y.wt, .bool y.sp] 24)))
       obtain ⟨b3_0, b3_1, b3_2, b3_3, b3_4, b3_5, b3_6, b3_7, b3_8, b3_9⟩ := (HG3.out _ HY3.out).cells
       try simp only at b3_0 b3_1 b3_2 b3_3 b3_4 b3_5 b3_6 b3_7 b3_8 b3_9
       obtain ⟨b4_0, b4_1, b4_2, b4_3, b4_4, b4_5, b4_6, b4_7, b4_8, b4_9⟩ := (HG4.out _ HY4.out).cells
       try simp only at b4_0 b4_1 b4_2 b4_3 b4_4 b4_5 b4_6 b4_7 b4_8 b4_9
       clear hbx hbw hbs hbg
       try simp only [sgV]))
  all_goals
    go_ret
    exact ⟨by first | rfl | simp, HB0.out.trans (HX4.out.mono HB0.out.size)⟩
set_option maxHeartbeats 16000000 in
theorem fnext_f (HO : SafOk) (HN : StgOk) (HT : LmpText) (A : Option Addr) (n c : Nat) (l : List Pl) (s : Sg) (a b : Int) (w : World) (hl : Pls w A n c l) (hts : SmG s) (hfw : fewAllB l = true) (h0 : (doS l s 3 a).2 = 0) (he : (doS l (doS l s 3 a).1 3 b).2 ≠ 0) :
    Calls Try.prog 7 #[.slice A n c, sgV s, .int .i64 a, .int .i64 b] w fun e w' => e = .returned (.bool true) ∧ Below w.heap.size w w' := by
  have hsm := hl.small
  have hlen := hl.len
  simp only [sgV]
  obtain ⟨W0, hW0⟩ : ∃ W0, w.alloc (.cells #[.int .i64 s.pl, .int .i64 s.st, .int .i64 s.nx, .int .i64 s.ph, .int .i64 s.t, .int .i64 s.hd, .int .i64 s.hl, .int .i64 s.ak, .int .i64 s.wt, .bool s.sp] 24) = W0 := ⟨_, rfl⟩
  have hB0 : Below w.heap.size w W0 := by rw [← hW0]; exact one_alloc w _
  have hbs : BoxG W0 w.heap.size s := by rw [← hW0]; exact BoxG.new w s
  have HPL := Lib.hid (show ∀ X, Below W0.heap.size W0 X → Pls X A n c l from fun X hX => (hl.below hB0).below hX)
  have HBS := Lib.hid (show ∀ X, Below W0.heap.size W0 X → BoxG X w.heap.size s from fun X hX => hbs.below hX)
  have HLL := Lib.hid hlen
  have HB0 := Lib.hid hB0
  have HW := Lib.hid hW0
  have HAW := Lib.hid (sawake17_any HO HN HT W0)
  have HFW := Lib.hid (fun X hX => pfewall_any A n c l X (HPL.out X hX))
  clear hW0 hB0 hbs hl
  rw [hfw] at HFW
  obtain ⟨hl5, hfp⟩ := fewall_iff.1 hfw
  have hn1000 : n ≤ 1000 := by omega
  have hmem : ∀ p ∈ l, p.n ≤ 1000 ∧ p.k ≤ 1000 := fun p hp => by have := hfp p hp; omega
  have H1 := Lib.hid (fun X hX => HO.ask A n c l s 3 a X (HPL.out X hX) hts hn1000 hmem)
  have H2 := Lib.hid (fun X hX => HO.ask A n c l (doS l s 3 a).1 3 b X (HPL.out X hX) (do_small hts) hn1000 hmem)
  obtain ⟨⟨x, e1⟩, hx⟩ : ∃ r, doS l s 3 a = r := ⟨_, rfl⟩
  rw [hx] at H1 H2 he h0
  simp only at H2 he h0
  subst h0
  obtain ⟨⟨y, e2⟩, hy⟩ : ∃ r, doS l x 3 b = r := ⟨_, rfl⟩
  rw [hy] at H2 he
  simp only at he
  have heb : (e2 != 0) = true := by rw [bne_iff_ne]; exact he
  simp only [GivesGE, sgV] at H1 H2
  clear hmem hfp hfw hx hy he
  go_enter Try.func7, Try.ntmps7
  go_wp2_with (first
    | (go_at_call 10
       rw [HW.out]
       (with_reducible refine (HAW.out).mono ?_)
       rintro e w1 ⟨rfl, hbx⟩
       have HX1 := Lib.hid hbx
       clear hbx)
    | (go_at_call 11
       (with_reducible refine (HFW.out _ HX1.out).mono ?_)
       rintro e w2 ⟨rfl, hbx⟩
       have HX2 := Lib.hid (HX1.out.trans (hbx.mono HX1.out.size))
       obtain ⟨a0, a1, a2, a3, a4, a5, a6, a7, a8, a9⟩ := (HBS.out w2 HX2.out).cells
       clear hbx)
    | (go_at_call 12
       (with_reducible refine (H1.out _ HX2.out).mono ?_)
       rintro e w3 ⟨rfl, hbx⟩
       have hbw := one_alloc w3 (.cells #[.int .i64 x.pl, .int .i64 x.st, .int .i64 x.nx, .int .i64 x.ph, .int .i64 x.t, .int .i64 x.hd, .int .i64 x.hl, .int .i64 x.ak, .int .i64 x.wt, .bool x.sp] 24)
       have hbs := hbx.trans (hbw.mono hbx.size)
       have hbg := BoxG.new w3 x
       have HX3 := Lib.hid (HX2.out.trans (hbs.mono HX2.out.size))
       have HG3 := Lib.hid (show ∀ X, Below (w3.alloc (.cells #[.int .i64 x.pl, .int .i64 x.st, .int .i64 x.nx, .int .i64 x.ph, .int .i64 x.t, .int .i64 x.hd, .int .i64 x.hl, .int .i64 x.ak, .int .i64 x.wt, .bool x.sp] 24)).heap.size (w3.alloc (.cells #[.int .i64 x.pl, .int .i64 x.st, .int .i64 x.nx, .int .i64 x.ph, .int .i64 x.t, .int .i64 x.hd, .int .i64 x.hl, .int .i64 x.ak, .int .i64 x.wt, .bool x.sp] 24)) X → BoxG X w3.heap.size x from fun X hX => hbg.below hX)
       have HY3 := Lib.hid (Below.refl (w3.alloc (.cells #[.int .i64 x.pl, .int .i64 x.st, .int .i64 x.nx, .int .i64 x.ph, .int .i64 x.t, .int .i64 x.hd, .int .i64 x.hl, .int .i64 x.ak, .int .i64 x.wt, .bool x.sp] 24)).heap.size (w3.alloc (.cells #[.int .i64 x.pl, .int .i64 x.st, .int .i64 x.nx, .int .i64 x.ph, .int .i64 x.t, .int .i64 x.hd, .int .i64 x.hl, .int .i64 x.ak, .int .i64 x.wt, .bool x.sp] 24)))
       obtain ⟨b3_0, b3_1, b3_2, b3_3, b3_4, b3_5, b3_6, b3_7, b3_8, b3_9⟩ := (HG3.out _ HY3.out).cells
       try simp only at b3_0 b3_1 b3_2 b3_3 b3_4 b3_5 b3_6 b3_7 b3_8 b3_9
       clear hbx hbw hbs hbg
       try simp only [sgV])
    | (go_at_call 12
       (with_reducible refine (H2.out _ HX3.out).mono ?_)
       rintro e w4 ⟨rfl, hbx⟩
       have hbw := one_alloc w4 (.cells #[.int .i64 y.pl, .int .i64 y.st, .int .i64 y.nx, .int .i64 y.ph, .int .i64 y.t, .int .i64 y.hd, .int .i64 y.hl, .int .i64 y.ak, .int .i64 y.wt, .bool y.sp] 24)
       have hbs := hbx.trans (hbw.mono hbx.size)
       have hbg := BoxG.new w4 y
       have HX4 := Lib.hid (HX3.out.trans (hbs.mono HX3.out.size))
       have HY3 := Lib.hid (HY3.out.trans (hbs.mono HY3.out.size))
       have HG4 := Lib.hid (show ∀ X, Below (w4.alloc (.cells #[.int .i64 y.pl, .int .i64 y.st, .int .i64 y.nx, .int .i64 y.ph, .int .i64 y.t, .int .i64 y.hd, .int .i64 y.hl, .int .i64 y.ak, .int .i64 y.wt, .bool y.sp] 24)).heap.size (w4.alloc (.cells #[.int .i64 y.pl, .int .i64 y.st, .int .i64 y.nx, .int .i64 y.ph, .int .i64 y.t, .int .i64 y.hd, .int .i64 y.hl, .int .i64 y.ak, .int .i64 y.wt, .bool y.sp] 24)) X → BoxG X w4.heap.size y from fun X hX => hbg.below hX)
       have HY4 := Lib.hid (Below.refl (w4.alloc (.cells #[.int .i64 y.pl, .int .i64 y.st, .int .i64 y.nx, .int .i64 y.ph, .int .i64 y.t, .int .i64 y.hd, .int .i64 y.hl, .int .i64 y.ak, .int .i64 y.wt, .bool y.sp] 24)).heap.size (w4.alloc (.cells #[.int .i64 y.pl, .int .i64 y.st, .int .i64 y.nx, .int .i64 y.ph, .int .i64 y.t, .int .i64 y.hd, .int .i64 y.hl, .int .i64 y.ak, .int .i64 y.wt, .bool y.sp] 24)))
       obtain ⟨b3_0, b3_1, b3_2, b3_3, b3_4, b3_5, b3_6, b3_7, b3_8, b3_9⟩ := (HG3.out _ HY3.out).cells
       try simp only at b3_0 b3_1 b3_2 b3_3 b3_4 b3_5 b3_6 b3_7 b3_8 b3_9
       obtain ⟨b4_0, b4_1, b4_2, b4_3, b4_4, b4_5, b4_6, b4_7, b4_8, b4_9⟩ := (HG4.out _ HY4.out).cells
       try simp only at b4_0 b4_1 b4_2 b4_3 b4_4 b4_5 b4_6 b4_7 b4_8 b4_9
       clear hbx hbw hbs hbg
       try simp only [sgV]))
  go_ret
  exact ⟨by first | rfl | simp, HB0.out.trans (HX4.out.mono HB0.out.size)⟩
set_option maxHeartbeats 16000000 in
theorem fnext_g (HO : SafOk) (HN : StgOk) (HT : LmpText) (A : Option Addr) (n c : Nat) (l : List Pl) (s : Sg) (a b : Int) (w : World) (hl : Pls w A n c l) (hts : SmG s) (hfw : fewAllB l = true) (h0 : (doS l s 3 a).2 = 0) (he : (doS l (doS l s 3 a).1 3 b).2 = 0) (hg : (tickS l (doS l (doS l s 3 a).1 3 b).1).ph = 0 ∧ (tickS l (doS l (doS l s 3 a).1 3 b).1).ak = b) :
    Calls Try.prog 7 #[.slice A n c, sgV s, .int .i64 a, .int .i64 b] w fun e w' => e = .returned (.bool true) ∧ Below w.heap.size w w' := by
  have hsm := hl.small
  have hlen := hl.len
  simp only [sgV]
  obtain ⟨W0, hW0⟩ : ∃ W0, w.alloc (.cells #[.int .i64 s.pl, .int .i64 s.st, .int .i64 s.nx, .int .i64 s.ph, .int .i64 s.t, .int .i64 s.hd, .int .i64 s.hl, .int .i64 s.ak, .int .i64 s.wt, .bool s.sp] 24) = W0 := ⟨_, rfl⟩
  have hB0 : Below w.heap.size w W0 := by rw [← hW0]; exact one_alloc w _
  have hbs : BoxG W0 w.heap.size s := by rw [← hW0]; exact BoxG.new w s
  have HPL := Lib.hid (show ∀ X, Below W0.heap.size W0 X → Pls X A n c l from fun X hX => (hl.below hB0).below hX)
  have HBS := Lib.hid (show ∀ X, Below W0.heap.size W0 X → BoxG X w.heap.size s from fun X hX => hbs.below hX)
  have HLL := Lib.hid hlen
  have HB0 := Lib.hid hB0
  have HW := Lib.hid hW0
  have HAW := Lib.hid (sawake17_any HO HN HT W0)
  have HFW := Lib.hid (fun X hX => pfewall_any A n c l X (HPL.out X hX))
  clear hW0 hB0 hbs hl
  rw [hfw] at HFW
  obtain ⟨hl5, hfp⟩ := fewall_iff.1 hfw
  have hn1000 : n ≤ 1000 := by omega
  have hmem : ∀ p ∈ l, p.n ≤ 1000 ∧ p.k ≤ 1000 := fun p hp => by have := hfp p hp; omega
  have H1 := Lib.hid (fun X hX => HO.ask A n c l s 3 a X (HPL.out X hX) hts hn1000 hmem)
  have H2 := Lib.hid (fun X hX => HO.ask A n c l (doS l s 3 a).1 3 b X (HPL.out X hX) (do_small hts) hn1000 hmem)
  have H3 := Lib.hid (fun X hX => HN.tick A n c l (doS l (doS l s 3 a).1 3 b).1 X (HPL.out X hX) (do_small (do_small hts)) hn1000 hmem)
  have ka := (next_ok h0).1
  have kb := (next_ok he).1
  obtain ⟨⟨x, e1⟩, hx⟩ : ∃ r, doS l s 3 a = r := ⟨_, rfl⟩
  rw [hx] at H1 H2 H3 he h0 hg ka kb
  simp only at H2 H3 he h0 hg ka kb
  subst h0
  obtain ⟨⟨y, e2⟩, hy⟩ : ∃ r, doS l x 3 b = r := ⟨_, rfl⟩
  rw [hy] at H2 H3 he hg kb
  simp only at he hg kb H3
  subst he
  obtain ⟨t, ht⟩ : ∃ t, tickS l y = t := ⟨_, rfl⟩
  rw [ht] at H3 hg
  have HK1 := Lib.hid (show (y.ak == b) = true by rw [kb]; simp)
  have HK2 := Lib.hid (show (x.ak == a) = true by rw [ka]; simp)
  have HK3 := Lib.hid (show (t.ph == 0) = true ∧ (t.ak == b) = true from ⟨by rw [hg.1]; rfl, by rw [hg.2]; simp⟩)
  simp only [GivesGE, GivesG, sgV] at H1 H2 H3
  clear hmem hfp hfw hx hy ht ka kb hg
  go_enter Try.func7, Try.ntmps7
  go_wp2_with (first
    | (go_at_call 10
       rw [HW.out]
       (with_reducible refine (HAW.out).mono ?_)
       rintro e w1 ⟨rfl, hbx⟩
       have HX1 := Lib.hid hbx
       clear hbx)
    | (go_at_call 11
       (with_reducible refine (HFW.out _ HX1.out).mono ?_)
       rintro e w2 ⟨rfl, hbx⟩
       have HX2 := Lib.hid (HX1.out.trans (hbx.mono HX1.out.size))
       obtain ⟨a0, a1, a2, a3, a4, a5, a6, a7, a8, a9⟩ := (HBS.out w2 HX2.out).cells
       clear hbx)
    | (go_at_call 12
       (with_reducible refine (H1.out _ HX2.out).mono ?_)
       rintro e w3 ⟨rfl, hbx⟩
       have hbw := one_alloc w3 (.cells #[.int .i64 x.pl, .int .i64 x.st, .int .i64 x.nx, .int .i64 x.ph, .int .i64 x.t, .int .i64 x.hd, .int .i64 x.hl, .int .i64 x.ak, .int .i64 x.wt, .bool x.sp] 24)
       have hbs := hbx.trans (hbw.mono hbx.size)
       have hbg := BoxG.new w3 x
       have HX3 := Lib.hid (HX2.out.trans (hbs.mono HX2.out.size))
       have HG3 := Lib.hid (show ∀ X, Below (w3.alloc (.cells #[.int .i64 x.pl, .int .i64 x.st, .int .i64 x.nx, .int .i64 x.ph, .int .i64 x.t, .int .i64 x.hd, .int .i64 x.hl, .int .i64 x.ak, .int .i64 x.wt, .bool x.sp] 24)).heap.size (w3.alloc (.cells #[.int .i64 x.pl, .int .i64 x.st, .int .i64 x.nx, .int .i64 x.ph, .int .i64 x.t, .int .i64 x.hd, .int .i64 x.hl, .int .i64 x.ak, .int .i64 x.wt, .bool x.sp] 24)) X → BoxG X w3.heap.size x from fun X hX => hbg.below hX)
       have HY3 := Lib.hid (Below.refl (w3.alloc (.cells #[.int .i64 x.pl, .int .i64 x.st, .int .i64 x.nx, .int .i64 x.ph, .int .i64 x.t, .int .i64 x.hd, .int .i64 x.hl, .int .i64 x.ak, .int .i64 x.wt, .bool x.sp] 24)).heap.size (w3.alloc (.cells #[.int .i64 x.pl, .int .i64 x.st, .int .i64 x.nx, .int .i64 x.ph, .int .i64 x.t, .int .i64 x.hd, .int .i64 x.hl, .int .i64 x.ak, .int .i64 x.wt, .bool x.sp] 24)))
       obtain ⟨b3_0, b3_1, b3_2, b3_3, b3_4, b3_5, b3_6, b3_7, b3_8, b3_9⟩ := (HG3.out _ HY3.out).cells
       try simp only at b3_0 b3_1 b3_2 b3_3 b3_4 b3_5 b3_6 b3_7 b3_8 b3_9
       clear hbx hbw hbs hbg
       try simp only [sgV])
    | (go_at_call 12
       (with_reducible refine (H2.out _ HX3.out).mono ?_)
       rintro e w4 ⟨rfl, hbx⟩
       have hbw := one_alloc w4 (.cells #[.int .i64 y.pl, .int .i64 y.st, .int .i64 y.nx, .int .i64 y.ph, .int .i64 y.t, .int .i64 y.hd, .int .i64 y.hl, .int .i64 y.ak, .int .i64 y.wt, .bool y.sp] 24)
       have hbs := hbx.trans (hbw.mono hbx.size)
       have hbg := BoxG.new w4 y
       have HX4 := Lib.hid (HX3.out.trans (hbs.mono HX3.out.size))
       have HY3 := Lib.hid (HY3.out.trans (hbs.mono HY3.out.size))
       have HG4 := Lib.hid (show ∀ X, Below (w4.alloc (.cells #[.int .i64 y.pl, .int .i64 y.st, .int .i64 y.nx, .int .i64 y.ph, .int .i64 y.t, .int .i64 y.hd, .int .i64 y.hl, .int .i64 y.ak, .int .i64 y.wt, .bool y.sp] 24)).heap.size (w4.alloc (.cells #[.int .i64 y.pl, .int .i64 y.st, .int .i64 y.nx, .int .i64 y.ph, .int .i64 y.t, .int .i64 y.hd, .int .i64 y.hl, .int .i64 y.ak, .int .i64 y.wt, .bool y.sp] 24)) X → BoxG X w4.heap.size y from fun X hX => hbg.below hX)
       have HY4 := Lib.hid (Below.refl (w4.alloc (.cells #[.int .i64 y.pl, .int .i64 y.st, .int .i64 y.nx, .int .i64 y.ph, .int .i64 y.t, .int .i64 y.hd, .int .i64 y.hl, .int .i64 y.ak, .int .i64 y.wt, .bool y.sp] 24)).heap.size (w4.alloc (.cells #[.int .i64 y.pl, .int .i64 y.st, .int .i64 y.nx, .int .i64 y.ph, .int .i64 y.t, .int .i64 y.hd, .int .i64 y.hl, .int .i64 y.ak, .int .i64 y.wt, .bool y.sp] 24)))
       obtain ⟨b3_0, b3_1, b3_2, b3_3, b3_4, b3_5, b3_6, b3_7, b3_8, b3_9⟩ := (HG3.out _ HY3.out).cells
       try simp only at b3_0 b3_1 b3_2 b3_3 b3_4 b3_5 b3_6 b3_7 b3_8 b3_9
       obtain ⟨b4_0, b4_1, b4_2, b4_3, b4_4, b4_5, b4_6, b4_7, b4_8, b4_9⟩ := (HG4.out _ HY4.out).cells
       try simp only at b4_0 b4_1 b4_2 b4_3 b4_4 b4_5 b4_6 b4_7 b4_8 b4_9
       clear hbx hbw hbs hbg
       try simp only [sgV])
    | (go_at_call 23
       (with_reducible refine (H3.out _ HX4.out).mono ?_)
       rintro e w5 ⟨rfl, hbx⟩
       have hbw := one_alloc w5 (.cells #[.int .i64 t.pl, .int .i64 t.st, .int .i64 t.nx, .int .i64 t.ph, .int .i64 t.t, .int .i64 t.hd, .int .i64 t.hl, .int .i64 t.ak, .int .i64 t.wt, .bool t.sp] 24)
       have hbs := hbx.trans (hbw.mono hbx.size)
       have hbg := BoxG.new w5 t
       have HX5 := Lib.hid (HX4.out.trans (hbs.mono HX4.out.size))
       have HY3 := Lib.hid (HY3.out.trans (hbs.mono HY3.out.size))
       have HY4 := Lib.hid (HY4.out.trans (hbs.mono HY4.out.size))
       have HG5 := Lib.hid (show ∀ X, Below (w5.alloc (.cells #[.int .i64 t.pl, .int .i64 t.st, .int .i64 t.nx, .int .i64 t.ph, .int .i64 t.t, .int .i64 t.hd, .int .i64 t.hl, .int .i64 t.ak, .int .i64 t.wt, .bool t.sp] 24)).heap.size (w5.alloc (.cells #[.int .i64 t.pl, .int .i64 t.st, .int .i64 t.nx, .int .i64 t.ph, .int .i64 t.t, .int .i64 t.hd, .int .i64 t.hl, .int .i64 t.ak, .int .i64 t.wt, .bool t.sp] 24)) X → BoxG X w5.heap.size t from fun X hX => hbg.below hX)
       have HY5 := Lib.hid (Below.refl (w5.alloc (.cells #[.int .i64 t.pl, .int .i64 t.st, .int .i64 t.nx, .int .i64 t.ph, .int .i64 t.t, .int .i64 t.hd, .int .i64 t.hl, .int .i64 t.ak, .int .i64 t.wt, .bool t.sp] 24)).heap.size (w5.alloc (.cells #[.int .i64 t.pl, .int .i64 t.st, .int .i64 t.nx, .int .i64 t.ph, .int .i64 t.t, .int .i64 t.hd, .int .i64 t.hl, .int .i64 t.ak, .int .i64 t.wt, .bool t.sp] 24)))
       obtain ⟨b3_0, b3_1, b3_2, b3_3, b3_4, b3_5, b3_6, b3_7, b3_8, b3_9⟩ := (HG3.out _ HY3.out).cells
       try simp only at b3_0 b3_1 b3_2 b3_3 b3_4 b3_5 b3_6 b3_7 b3_8 b3_9
       obtain ⟨b4_0, b4_1, b4_2, b4_3, b4_4, b4_5, b4_6, b4_7, b4_8, b4_9⟩ := (HG4.out _ HY4.out).cells
       try simp only at b4_0 b4_1 b4_2 b4_3 b4_4 b4_5 b4_6 b4_7 b4_8 b4_9
       obtain ⟨b5_0, b5_1, b5_2, b5_3, b5_4, b5_5, b5_6, b5_7, b5_8, b5_9⟩ := (HG5.out _ HY5.out).cells
       try simp only at b5_0 b5_1 b5_2 b5_3 b5_4 b5_5 b5_6 b5_7 b5_8 b5_9
       have kk1 := HK1.out
       have kk2 := HK2.out
       obtain ⟨kk3, kk4⟩ := HK3.out
       clear hbx hbw hbs hbg
       try simp only [sgV]))
  go_ret
  exact ⟨by first | rfl | simp, HB0.out.trans (HX5.out.mono HB0.out.size)⟩
set_option maxHeartbeats 16000000 in
theorem fnext_a (HO : SafOk) (HN : StgOk) (HT : LmpText) (A : Option Addr) (n c : Nat) (l : List Pl) (s : Sg) (a b : Int) (w : World) (hl : Pls w A n c l) (hts : SmG s) (hfw : fewAllB l = true) (h0 : (doS l s 3 a).2 = 0) (he : (doS l (doS l s 3 a).1 3 b).2 = 0) (hg : (tickS l (doS l (doS l s 3 a).1 3 b).1).ph = 1 ∧ (tickS l (doS l (doS l s 3 a).1 3 b).1).nx = b ∧ (tickS l (doS l (doS l s 3 a).1 3 b).1).ak = -1) :
    Calls Try.prog 7 #[.slice A n c, sgV s, .int .i64 a, .int .i64 b] w fun e w' => e = .returned (.bool true) ∧ Below w.heap.size w w' := by
  have hsm := hl.small
  have hlen := hl.len
  simp only [sgV]
  obtain ⟨W0, hW0⟩ : ∃ W0, w.alloc (.cells #[.int .i64 s.pl, .int .i64 s.st, .int .i64 s.nx, .int .i64 s.ph, .int .i64 s.t, .int .i64 s.hd, .int .i64 s.hl, .int .i64 s.ak, .int .i64 s.wt, .bool s.sp] 24) = W0 := ⟨_, rfl⟩
  have hB0 : Below w.heap.size w W0 := by rw [← hW0]; exact one_alloc w _
  have hbs : BoxG W0 w.heap.size s := by rw [← hW0]; exact BoxG.new w s
  have HPL := Lib.hid (show ∀ X, Below W0.heap.size W0 X → Pls X A n c l from fun X hX => (hl.below hB0).below hX)
  have HBS := Lib.hid (show ∀ X, Below W0.heap.size W0 X → BoxG X w.heap.size s from fun X hX => hbs.below hX)
  have HLL := Lib.hid hlen
  have HB0 := Lib.hid hB0
  have HW := Lib.hid hW0
  have HAW := Lib.hid (sawake17_any HO HN HT W0)
  have HFW := Lib.hid (fun X hX => pfewall_any A n c l X (HPL.out X hX))
  clear hW0 hB0 hbs hl
  rw [hfw] at HFW
  obtain ⟨hl5, hfp⟩ := fewall_iff.1 hfw
  have hn1000 : n ≤ 1000 := by omega
  have hmem : ∀ p ∈ l, p.n ≤ 1000 ∧ p.k ≤ 1000 := fun p hp => by have := hfp p hp; omega
  have H1 := Lib.hid (fun X hX => HO.ask A n c l s 3 a X (HPL.out X hX) hts hn1000 hmem)
  have H2 := Lib.hid (fun X hX => HO.ask A n c l (doS l s 3 a).1 3 b X (HPL.out X hX) (do_small hts) hn1000 hmem)
  have H3 := Lib.hid (fun X hX => HN.tick A n c l (doS l (doS l s 3 a).1 3 b).1 X (HPL.out X hX) (do_small (do_small hts)) hn1000 hmem)
  have ka := (next_ok h0).1
  have kb := (next_ok he).1
  obtain ⟨⟨x, e1⟩, hx⟩ : ∃ r, doS l s 3 a = r := ⟨_, rfl⟩
  rw [hx] at H1 H2 H3 he h0 hg ka kb
  simp only at H2 H3 he h0 hg ka kb
  subst h0
  obtain ⟨⟨y, e2⟩, hy⟩ : ∃ r, doS l x 3 b = r := ⟨_, rfl⟩
  rw [hy] at H2 H3 he hg kb
  simp only at he hg kb H3
  subst he
  obtain ⟨t, ht⟩ : ∃ t, tickS l y = t := ⟨_, rfl⟩
  rw [ht] at H3 hg
  have HK1 := Lib.hid (show (y.ak == b) = true by rw [kb]; simp)
  have HK2 := Lib.hid (show (x.ak == a) = true by rw [ka]; simp)
  have HK3 := Lib.hid (show (t.ph == 0) = false ∧ (t.ph == 1) = true ∧ (t.nx == b) = true ∧ (t.ak == -1) = true from ⟨by rw [hg.1]; rfl, by rw [hg.1]; rfl, by rw [hg.2.1]; simp, by rw [hg.2.2]; rfl⟩)
  simp only [GivesGE, GivesG, sgV] at H1 H2 H3
  clear hmem hfp hfw hx hy ht ka kb hg
  go_enter Try.func7, Try.ntmps7
  go_wp2_with (first
    | (go_at_call 10
       rw [HW.out]
       (with_reducible refine (HAW.out).mono ?_)
       rintro e w1 ⟨rfl, hbx⟩
       have HX1 := Lib.hid hbx
       clear hbx)
    | (go_at_call 11
       (with_reducible refine (HFW.out _ HX1.out).mono ?_)
       rintro e w2 ⟨rfl, hbx⟩
       have HX2 := Lib.hid (HX1.out.trans (hbx.mono HX1.out.size))
       obtain ⟨a0, a1, a2, a3, a4, a5, a6, a7, a8, a9⟩ := (HBS.out w2 HX2.out).cells
       clear hbx)
    | (go_at_call 12
       (with_reducible refine (H1.out _ HX2.out).mono ?_)
       rintro e w3 ⟨rfl, hbx⟩
       have hbw := one_alloc w3 (.cells #[.int .i64 x.pl, .int .i64 x.st, .int .i64 x.nx, .int .i64 x.ph, .int .i64 x.t, .int .i64 x.hd, .int .i64 x.hl, .int .i64 x.ak, .int .i64 x.wt, .bool x.sp] 24)
       have hbs := hbx.trans (hbw.mono hbx.size)
       have hbg := BoxG.new w3 x
       have HX3 := Lib.hid (HX2.out.trans (hbs.mono HX2.out.size))
       have HG3 := Lib.hid (show ∀ X, Below (w3.alloc (.cells #[.int .i64 x.pl, .int .i64 x.st, .int .i64 x.nx, .int .i64 x.ph, .int .i64 x.t, .int .i64 x.hd, .int .i64 x.hl, .int .i64 x.ak, .int .i64 x.wt, .bool x.sp] 24)).heap.size (w3.alloc (.cells #[.int .i64 x.pl, .int .i64 x.st, .int .i64 x.nx, .int .i64 x.ph, .int .i64 x.t, .int .i64 x.hd, .int .i64 x.hl, .int .i64 x.ak, .int .i64 x.wt, .bool x.sp] 24)) X → BoxG X w3.heap.size x from fun X hX => hbg.below hX)
       have HY3 := Lib.hid (Below.refl (w3.alloc (.cells #[.int .i64 x.pl, .int .i64 x.st, .int .i64 x.nx, .int .i64 x.ph, .int .i64 x.t, .int .i64 x.hd, .int .i64 x.hl, .int .i64 x.ak, .int .i64 x.wt, .bool x.sp] 24)).heap.size (w3.alloc (.cells #[.int .i64 x.pl, .int .i64 x.st, .int .i64 x.nx, .int .i64 x.ph, .int .i64 x.t, .int .i64 x.hd, .int .i64 x.hl, .int .i64 x.ak, .int .i64 x.wt, .bool x.sp] 24)))
       obtain ⟨b3_0, b3_1, b3_2, b3_3, b3_4, b3_5, b3_6, b3_7, b3_8, b3_9⟩ := (HG3.out _ HY3.out).cells
       try simp only at b3_0 b3_1 b3_2 b3_3 b3_4 b3_5 b3_6 b3_7 b3_8 b3_9
       clear hbx hbw hbs hbg
       try simp only [sgV])
    | (go_at_call 12
       (with_reducible refine (H2.out _ HX3.out).mono ?_)
       rintro e w4 ⟨rfl, hbx⟩
       have hbw := one_alloc w4 (.cells #[.int .i64 y.pl, .int .i64 y.st, .int .i64 y.nx, .int .i64 y.ph, .int .i64 y.t, .int .i64 y.hd, .int .i64 y.hl, .int .i64 y.ak, .int .i64 y.wt, .bool y.sp] 24)
       have hbs := hbx.trans (hbw.mono hbx.size)
       have hbg := BoxG.new w4 y
       have HX4 := Lib.hid (HX3.out.trans (hbs.mono HX3.out.size))
       have HY3 := Lib.hid (HY3.out.trans (hbs.mono HY3.out.size))
       have HG4 := Lib.hid (show ∀ X, Below (w4.alloc (.cells #[.int .i64 y.pl, .int .i64 y.st, .int .i64 y.nx, .int .i64 y.ph, .int .i64 y.t, .int .i64 y.hd, .int .i64 y.hl, .int .i64 y.ak, .int .i64 y.wt, .bool y.sp] 24)).heap.size (w4.alloc (.cells #[.int .i64 y.pl, .int .i64 y.st, .int .i64 y.nx, .int .i64 y.ph, .int .i64 y.t, .int .i64 y.hd, .int .i64 y.hl, .int .i64 y.ak, .int .i64 y.wt, .bool y.sp] 24)) X → BoxG X w4.heap.size y from fun X hX => hbg.below hX)
       have HY4 := Lib.hid (Below.refl (w4.alloc (.cells #[.int .i64 y.pl, .int .i64 y.st, .int .i64 y.nx, .int .i64 y.ph, .int .i64 y.t, .int .i64 y.hd, .int .i64 y.hl, .int .i64 y.ak, .int .i64 y.wt, .bool y.sp] 24)).heap.size (w4.alloc (.cells #[.int .i64 y.pl, .int .i64 y.st, .int .i64 y.nx, .int .i64 y.ph, .int .i64 y.t, .int .i64 y.hd, .int .i64 y.hl, .int .i64 y.ak, .int .i64 y.wt, .bool y.sp] 24)))
       obtain ⟨b3_0, b3_1, b3_2, b3_3, b3_4, b3_5, b3_6, b3_7, b3_8, b3_9⟩ := (HG3.out _ HY3.out).cells
       try simp only at b3_0 b3_1 b3_2 b3_3 b3_4 b3_5 b3_6 b3_7 b3_8 b3_9
       obtain ⟨b4_0, b4_1, b4_2, b4_3, b4_4, b4_5, b4_6, b4_7, b4_8, b4_9⟩ := (HG4.out _ HY4.out).cells
       try simp only at b4_0 b4_1 b4_2 b4_3 b4_4 b4_5 b4_6 b4_7 b4_8 b4_9
       clear hbx hbw hbs hbg
       try simp only [sgV])
    | (go_at_call 23
       (with_reducible refine (H3.out _ HX4.out).mono ?_)
       rintro e w5 ⟨rfl, hbx⟩
       have hbw := one_alloc w5 (.cells #[.int .i64 t.pl, .int .i64 t.st, .int .i64 t.nx, .int .i64 t.ph, .int .i64 t.t, .int .i64 t.hd, .int .i64 t.hl, .int .i64 t.ak, .int .i64 t.wt, .bool t.sp] 24)
       have hbs := hbx.trans (hbw.mono hbx.size)
       have hbg := BoxG.new w5 t
       have HX5 := Lib.hid (HX4.out.trans (hbs.mono HX4.out.size))
       have HY3 := Lib.hid (HY3.out.trans (hbs.mono HY3.out.size))
       have HY4 := Lib.hid (HY4.out.trans (hbs.mono HY4.out.size))
       have HG5 := Lib.hid (show ∀ X, Below (w5.alloc (.cells #[.int .i64 t.pl, .int .i64 t.st, .int .i64 t.nx, .int .i64 t.ph, .int .i64 t.t, .int .i64 t.hd, .int .i64 t.hl, .int .i64 t.ak, .int .i64 t.wt, .bool t.sp] 24)).heap.size (w5.alloc (.cells #[.int .i64 t.pl, .int .i64 t.st, .int .i64 t.nx, .int .i64 t.ph, .int .i64 t.t, .int .i64 t.hd, .int .i64 t.hl, .int .i64 t.ak, .int .i64 t.wt, .bool t.sp] 24)) X → BoxG X w5.heap.size t from fun X hX => hbg.below hX)
       have HY5 := Lib.hid (Below.refl (w5.alloc (.cells #[.int .i64 t.pl, .int .i64 t.st, .int .i64 t.nx, .int .i64 t.ph, .int .i64 t.t, .int .i64 t.hd, .int .i64 t.hl, .int .i64 t.ak, .int .i64 t.wt, .bool t.sp] 24)).heap.size (w5.alloc (.cells #[.int .i64 t.pl, .int .i64 t.st, .int .i64 t.nx, .int .i64 t.ph, .int .i64 t.t, .int .i64 t.hd, .int .i64 t.hl, .int .i64 t.ak, .int .i64 t.wt, .bool t.sp] 24)))
       obtain ⟨b3_0, b3_1, b3_2, b3_3, b3_4, b3_5, b3_6, b3_7, b3_8, b3_9⟩ := (HG3.out _ HY3.out).cells
       try simp only at b3_0 b3_1 b3_2 b3_3 b3_4 b3_5 b3_6 b3_7 b3_8 b3_9
       obtain ⟨b4_0, b4_1, b4_2, b4_3, b4_4, b4_5, b4_6, b4_7, b4_8, b4_9⟩ := (HG4.out _ HY4.out).cells
       try simp only at b4_0 b4_1 b4_2 b4_3 b4_4 b4_5 b4_6 b4_7 b4_8 b4_9
       obtain ⟨b5_0, b5_1, b5_2, b5_3, b5_4, b5_5, b5_6, b5_7, b5_8, b5_9⟩ := (HG5.out _ HY5.out).cells
       try simp only at b5_0 b5_1 b5_2 b5_3 b5_4 b5_5 b5_6 b5_7 b5_8 b5_9
       have kk1 := HK1.out
       have kk2 := HK2.out
       obtain ⟨kk3, kk4, kk5, kk6⟩ := HK3.out
       clear hbx hbw hbs hbg
       try simp only [sgV]))
  go_ret
  exact ⟨by first | rfl | simp, HB0.out.trans (HX5.out.mono HB0.out.size)⟩
set_option maxHeartbeats 16000000 in
theorem fnext_any (HO : SafOk) (HN : StgOk) (HT : LmpText) (A : Option Addr) (n c : Nat) (l : List Pl) (s : Sg) (a b : Int) (w : World) (hl : Pls w A n c l) (hts : SmG s) :
    Calls Try.prog 7 #[.slice A n c, sgV s, .int .i64 a, .int .i64 b] w fun e w' => e = .returned (.bool true) ∧ Below w.heap.size w w' := by
  cases hfw : fewAllB l with
  | false =>
    have hsm := hl.small
    have hlen := hl.len
    simp only [sgV]
    obtain ⟨W0, hW0⟩ : ∃ W0, w.alloc (.cells #[.int .i64 s.pl, .int .i64 s.st, .int .i64 s.nx, .int .i64 s.ph, .int .i64 s.t, .int .i64 s.hd, .int .i64 s.hl, .int .i64 s.ak, .int .i64 s.wt, .bool s.sp] 24) = W0 := ⟨_, rfl⟩
    have hB0 : Below w.heap.size w W0 := by rw [← hW0]; exact one_alloc w _
    have hbs : BoxG W0 w.heap.size s := by rw [← hW0]; exact BoxG.new w s
    have HPL := Lib.hid (show ∀ X, Below W0.heap.size W0 X → Pls X A n c l from fun X hX => (hl.below hB0).below hX)
    have HBS := Lib.hid (show ∀ X, Below W0.heap.size W0 X → BoxG X w.heap.size s from fun X hX => hbs.below hX)
    have HLL := Lib.hid hlen
    have HB0 := Lib.hid hB0
    have HW := Lib.hid hW0
    have HAW := Lib.hid (sawake17_any HO HN HT W0)
    have HFW := Lib.hid (fun X hX => pfewall_any A n c l X (HPL.out X hX))
    clear hW0 hB0 hbs hl
    rw [hfw] at HFW
    clear hfw
    go_enter Try.func7, Try.ntmps7
    go_wp2_with (first
        | (go_at_call 10
           rw [HW.out]
           (with_reducible refine (HAW.out).mono ?_)
           rintro e w1 ⟨rfl, hbx⟩
           have HX1 := Lib.hid hbx
           clear hbx)
        | (go_at_call 11
           (with_reducible refine (HFW.out _ HX1.out).mono ?_)
           rintro e w2 ⟨rfl, hbx⟩
           have HX2 := Lib.hid (HX1.out.trans (hbx.mono HX1.out.size))
           obtain ⟨a0, a1, a2, a3, a4, a5, a6, a7, a8, a9⟩ := (HBS.out w2 HX2.out).cells
           clear hbx))
    go_ret
    exact ⟨rfl, HB0.out.trans (HX2.out.mono HB0.out.size)⟩
  | true =>
  by_cases h0 : (doS l s 3 a).2 = 0
  rotate_left
  · exact fnext_e HO HN HT A n c l s a b w hl hts hfw h0
  by_cases he : (doS l (doS l s 3 a).1 3 b).2 = 0
  rotate_left
  · exact fnext_f HO HN HT A n c l s a b w hl hts hfw h0 he
  obtain ⟨k1, k2, k3, k4⟩ := next_ok he
  have k5 := next_tick k4 (by rw [k1]; exact k3) (by rw [k1]; exact k2)
  have k6 : (doS l (doS l s 3 a).1 3 b).1.ak = b := by rw [k1]
  rw [k6] at k5
  rcases k5 with hg | hg
  · exact fnext_g HO HN HT A n c l s a b w hl hts hfw h0 he hg
  · exact fnext_a HO HN HT A n c l s a b w hl hts hfw h0 he hg
end Go.Proofs.Ytgnhmdfajnnkhaa

