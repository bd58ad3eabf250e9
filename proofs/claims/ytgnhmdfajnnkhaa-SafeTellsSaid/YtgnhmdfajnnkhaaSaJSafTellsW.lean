/- The walk over the law SafeTells. -/
import Derived.Test.YtgnhmdfajnnkhaaSaJK
namespace Go.Proofs.Ytgnhmdfajnnkhaa
set_option maxRecDepth 100000
set_option linter.unusedVariables false
set_option linter.unusedSimpArgs false
open Go.RowKit

theorem errs_below (A B : Option Addr) (n c m d : Nat) (a b : List Int) (w : World) (ha : Its .i64 w A n c a) (hb : Its .i64 w B m d b) : Calls Try.prog 18 #[.slice A n c, .slice B m d] w fun e w' => e = .returned (.bool (a == b)) ∧ Below w.heap.size w w' :=
  (errs_any A B n c m d a b w ha hb).mono fun e w' h => ⟨h.1, by obtain ⟨j, rfl⟩ := h.2; exact ⟨rfl, rfl, rfl, Nat.le_refl _, fun _ _ => rfl⟩⟩
set_option maxHeartbeats 16000000 in
theorem ftells_any (HO : SafOk) (HN : StgOk) (HT : LmpText) (A : Option Addr) (n c : Nat) (l : List Pl) (s : Sg) (k a : Int) (B : Option Addr) (m d : Nat) (q : List Ak) (w : World) (hl : Pls w A n c l) (hq : Aks w B m d q) (hts : SmG s) :
    Calls Try.prog 3 #[.slice A n c, sgV s, .int .i64 k, .int .i64 a, .slice B m d] w fun e w' => e = .returned (.bool true) ∧ Below w.heap.size w w' := by
  have hqs := hq.small
  have hsm := hl.small
  have hlen := hl.len
  simp only [sgV]
  obtain ⟨W0, hW0⟩ : ∃ W0, w.alloc (.cells #[.int .i64 s.pl, .int .i64 s.st, .int .i64 s.nx, .int .i64 s.ph, .int .i64 s.t, .int .i64 s.hd, .int .i64 s.hl, .int .i64 s.ak, .int .i64 s.wt, .bool s.sp] 24) = W0 := ⟨_, rfl⟩
  have hB0 : Below w.heap.size w W0 := by rw [← hW0]; exact one_alloc w _
  have hbs : BoxG W0 w.heap.size s := by rw [← hW0]; exact BoxG.new w s
  have HPL := Lib.hid (show ∀ X, Below W0.heap.size W0 X → Pls X A n c l from fun X hX => (hl.below hB0).below hX)
  have HBS := Lib.hid (show ∀ X, Below W0.heap.size W0 X → BoxG X w.heap.size s from fun X hX => hbs.below hX)
  have HLL := Lib.hid hlen
  have HB0 := Lib.hid hB0
  have HW := Lib.hid hW0
  have HAW := Lib.hid (sawake17_any HO HN HT W0)
  have HFW := Lib.hid (fun X hX => pfewall_any A n c l X (HPL.out X hX))
  have HAK := Lib.hid (show ∀ X, Below W0.heap.size W0 X → Aks X B m d q from fun X hX => (hq.below hB0).below hX)
  clear hW0 hB0 hbs hl
  clear hq
  cases hfw : fewAllB l with
  | false =>
    rw [hfw] at HFW
    clear hfw
    go_enter Try.func3, Try.ntmps3
    go_wp2_with (first
        | (go_at_call 10
           rw [HW.out]
           (with_reducible refine (HAW.out).mono ?_)
           rintro e w1 ⟨rfl, hbx⟩
           have HX1 := Lib.hid hbx
           clear hbx)
        | (go_at_call 11
           (with_reducible refine (HFW.out _ HX1.out).mono ?_)
           rintro e w2 ⟨rfl, hbx⟩
           have HX2 := Lib.hid (HX1.out.trans (hbx.mono HX1.out.size))
           clear hbx))
    go_ret
    exact ⟨rfl, HB0.out.trans (HX2.out.mono HB0.out.size)⟩
  | true =>
  rw [hfw] at HFW
  obtain ⟨hl5, hfp⟩ := fewall_iff.1 hfw
  have hn1000 : n ≤ 1000 := by omega
  have hmem : ∀ p ∈ l, p.n ≤ 1000 ∧ p.k ≤ 1000 := fun p hp => by have := hfp p hp; omega
  by_cases hm60 : 60 < m
  · have hm61 : 60 < (m : Int) := by omega
    clear hmem hfp hfw
    go_enter Try.func3, Try.ntmps3
    go_wp2_with (first
        | (go_at_call 10
           rw [HW.out]
           (with_reducible refine (HAW.out).mono ?_)
           rintro e w1 ⟨rfl, hbx⟩
           have HX1 := Lib.hid hbx
           clear hbx)
        | (go_at_call 11
           (with_reducible refine (HFW.out _ HX1.out).mono ?_)
           rintro e w2 ⟨rfl, hbx⟩
           have HX2 := Lib.hid (HX1.out.trans (hbx.mono HX1.out.size))
           clear hbx))
    go_ret
    exact ⟨rfl, HB0.out.trans (HX2.out.mono HB0.out.size)⟩
  have hm61 : ¬ 60 < (m : Int) := by omega
  have HD1 := Lib.hid (fun X hX => HO.ask A n c l s k a X (HPL.out X hX) hts hn1000 hmem)
  have HD2 := Lib.hid (fun X hX => rdo_any A n c l s k a X (HPL.out X hX) hts)
  have HA1 := Lib.hid (fun X hX => HO.asks A n c l s B m d q X (HPL.out X hX) hts hn1000 hmem (HAK.out X hX) (by omega))
  have HA2 := Lib.hid (fun X hX => rasks_any A n c l s B m d q X (HPL.out X hX) (HAK.out X hX) (by omega) hts)
  have HP1 := Lib.hid (fun X hX => HO.plays A n c l s B m d q X (HPL.out X hX) hts hn1000 hmem (HAK.out X hX) (by omega))
  have HP2 := Lib.hid (fun X hX => rplay_any A n c l s B m d q X (HPL.out X hX) (HAK.out X hX) (by omega) hts)
  obtain ⟨⟨g, er⟩, hg⟩ : ∃ r, doS l s k a = r := ⟨_, rfl⟩
  obtain ⟨h, hh⟩ : ∃ r, allG l s q m = r := ⟨_, rfl⟩
  obtain ⟨E, hE⟩ : ∃ r, allE l s q m = r := ⟨_, rfl⟩
  obtain ⟨u, hu⟩ : ∃ r, playG l s q m = r := ⟨_, rfl⟩
  obtain ⟨R, hR⟩ : ∃ r, playL l s q m = r := ⟨_, rfl⟩
  rw [hg] at HD1 HD2
  rw [hh, hE] at HA1 HA2
  rw [hu, hR] at HP1 HP2
  simp only [GivesGE, GivesGEs, GivesGL, sgV] at HD1 HD2 HA1 HA2 HP1 HP2
  clear hg hh hE hu hR hmem hfp hfw
  go_enter Try.func3, Try.ntmps3
  go_wp2_with (first
    | (go_at_call 10
       rw [HW.out]
       (with_reducible refine (HAW.out).mono ?_)
       rintro e w1 ⟨rfl, hbx⟩
       have HX1 := Lib.hid hbx
       clear hbx)
    | (go_at_call 11
       (with_reducible refine (HFW.out _ HX1.out).mono ?_)
       rintro e w2 ⟨rfl, hbx⟩
       have HX2 := Lib.hid (HX1.out.trans (hbx.mono HX1.out.size))
       obtain ⟨a0, a1, a2, a3, a4, a5, a6, a7, a8, a9⟩ := (HBS.out w2 HX2.out).cells
       clear hbx)
    | (go_at_call 12
       (with_reducible refine (HD1.out _ HX2.out).mono ?_)
       rintro e w3 ⟨rfl, hbx⟩
       have hbw := one_alloc w3 (.cells #[.int .i64 g.pl, .int .i64 g.st, .int .i64 g.nx, .int .i64 g.ph, .int .i64 g.t, .int .i64 g.hd, .int .i64 g.hl, .int .i64 g.ak, .int .i64 g.wt, .bool g.sp] 24)
       have hbs := hbx.trans (hbw.mono hbx.size)
       have hbg := BoxG.new w3 g
       have HX3 := Lib.hid (HX2.out.trans (hbs.mono HX2.out.size))
       have HG3 := Lib.hid (show ∀ X, Below (w3.alloc (.cells #[.int .i64 g.pl, .int .i64 g.st, .int .i64 g.nx, .int .i64 g.ph, .int .i64 g.t, .int .i64 g.hd, .int .i64 g.hl, .int .i64 g.ak, .int .i64 g.wt, .bool g.sp] 24)).heap.size (w3.alloc (.cells #[.int .i64 g.pl, .int .i64 g.st, .int .i64 g.nx, .int .i64 g.ph, .int .i64 g.t, .int .i64 g.hd, .int .i64 g.hl, .int .i64 g.ak, .int .i64 g.wt, .bool g.sp] 24)) X → BoxG X w3.heap.size g from fun X hX => hbg.below hX)
       have HY3 := Lib.hid (Below.refl (w3.alloc (.cells #[.int .i64 g.pl, .int .i64 g.st, .int .i64 g.nx, .int .i64 g.ph, .int .i64 g.t, .int .i64 g.hd, .int .i64 g.hl, .int .i64 g.ak, .int .i64 g.wt, .bool g.sp] 24)).heap.size (w3.alloc (.cells #[.int .i64 g.pl, .int .i64 g.st, .int .i64 g.nx, .int .i64 g.ph, .int .i64 g.t, .int .i64 g.hd, .int .i64 g.hl, .int .i64 g.ak, .int .i64 g.wt, .bool g.sp] 24)))
       obtain ⟨c3_0, c3_1, c3_2, c3_3, c3_4, c3_5, c3_6, c3_7, c3_8, c3_9⟩ := (HBS.out _ HX3.out).cells
       clear hbx hbw hbs hbg
       try simp only [sgV])
    | (go_at_call 13
       (with_reducible refine (HD2.out _ HX3.out).mono ?_)
       rintro e w4 ⟨rfl, hbx⟩
       have hbw := one_alloc w4 (.cells #[.int .i64 g.pl, .int .i64 g.st, .int .i64 g.nx, .int .i64 g.ph, .int .i64 g.t, .int .i64 g.hd, .int .i64 g.hl, .int .i64 g.ak, .int .i64 g.wt, .bool g.sp] 24)
       have hbs := hbx.trans (hbw.mono hbx.size)
       have hbg := BoxG.new w4 g
       have HX4 := Lib.hid (HX3.out.trans (hbs.mono HX3.out.size))
       have HY3 := Lib.hid (HY3.out.trans (hbs.mono HY3.out.size))
       have HG4 := Lib.hid (show ∀ X, Below (w4.alloc (.cells #[.int .i64 g.pl, .int .i64 g.st, .int .i64 g.nx, .int .i64 g.ph, .int .i64 g.t, .int .i64 g.hd, .int .i64 g.hl, .int .i64 g.ak, .int .i64 g.wt, .bool g.sp] 24)).heap.size (w4.alloc (.cells #[.int .i64 g.pl, .int .i64 g.st, .int .i64 g.nx, .int .i64 g.ph, .int .i64 g.t, .int .i64 g.hd, .int .i64 g.hl, .int .i64 g.ak, .int .i64 g.wt, .bool g.sp] 24)) X → BoxG X w4.heap.size g from fun X hX => hbg.below hX)
       have HY4 := Lib.hid (Below.refl (w4.alloc (.cells #[.int .i64 g.pl, .int .i64 g.st, .int .i64 g.nx, .int .i64 g.ph, .int .i64 g.t, .int .i64 g.hd, .int .i64 g.hl, .int .i64 g.ak, .int .i64 g.wt, .bool g.sp] 24)).heap.size (w4.alloc (.cells #[.int .i64 g.pl, .int .i64 g.st, .int .i64 g.nx, .int .i64 g.ph, .int .i64 g.t, .int .i64 g.hd, .int .i64 g.hl, .int .i64 g.ak, .int .i64 g.wt, .bool g.sp] 24)))
       obtain ⟨c4_0, c4_1, c4_2, c4_3, c4_4, c4_5, c4_6, c4_7, c4_8, c4_9⟩ := (HBS.out _ HX4.out).cells
       clear hbx hbw hbs hbg
       try simp only [sgV])
    | (go_at_call 14
       (with_reducible refine (HA1.out _ HX4.out).mono ?_)
       rintro e w5 ⟨A5, n5, c5, rfl, hi5, hbx⟩
       have hbw := one_alloc w5 (.cells #[.int .i64 h.pl, .int .i64 h.st, .int .i64 h.nx, .int .i64 h.ph, .int .i64 h.t, .int .i64 h.hd, .int .i64 h.hl, .int .i64 h.ak, .int .i64 h.wt, .bool h.sp] 24)
       have hbs := hbx.trans (hbw.mono hbx.size)
       have hbg := BoxG.new w5 h
       have HX5 := Lib.hid (HX4.out.trans (hbs.mono HX4.out.size))
       have HY3 := Lib.hid (HY3.out.trans (hbs.mono HY3.out.size))
       have HY4 := Lib.hid (HY4.out.trans (hbs.mono HY4.out.size))
       have HG5 := Lib.hid (show ∀ X, Below (w5.alloc (.cells #[.int .i64 h.pl, .int .i64 h.st, .int .i64 h.nx, .int .i64 h.ph, .int .i64 h.t, .int .i64 h.hd, .int .i64 h.hl, .int .i64 h.ak, .int .i64 h.wt, .bool h.sp] 24)).heap.size (w5.alloc (.cells #[.int .i64 h.pl, .int .i64 h.st, .int .i64 h.nx, .int .i64 h.ph, .int .i64 h.t, .int .i64 h.hd, .int .i64 h.hl, .int .i64 h.ak, .int .i64 h.wt, .bool h.sp] 24)) X → BoxG X w5.heap.size h from fun X hX => hbg.below hX)
       have HY5 := Lib.hid (Below.refl (w5.alloc (.cells #[.int .i64 h.pl, .int .i64 h.st, .int .i64 h.nx, .int .i64 h.ph, .int .i64 h.t, .int .i64 h.hd, .int .i64 h.hl, .int .i64 h.ak, .int .i64 h.wt, .bool h.sp] 24)).heap.size (w5.alloc (.cells #[.int .i64 h.pl, .int .i64 h.st, .int .i64 h.nx, .int .i64 h.ph, .int .i64 h.t, .int .i64 h.hd, .int .i64 h.hl, .int .i64 h.ak, .int .i64 h.wt, .bool h.sp] 24)))
       have HI5 := Lib.hid (fun X (hX : Below (w5.alloc (.cells #[.int .i64 h.pl, .int .i64 h.st, .int .i64 h.nx, .int .i64 h.ph, .int .i64 h.t, .int .i64 h.hd, .int .i64 h.hl, .int .i64 h.ak, .int .i64 h.wt, .bool h.sp] 24)).heap.size (w5.alloc (.cells #[.int .i64 h.pl, .int .i64 h.st, .int .i64 h.nx, .int .i64 h.ph, .int .i64 h.t, .int .i64 h.hd, .int .i64 h.hl, .int .i64 h.ak, .int .i64 h.wt, .bool h.sp] 24)) X) => (hi5.below hbw).below hX)
       obtain ⟨c5_0, c5_1, c5_2, c5_3, c5_4, c5_5, c5_6, c5_7, c5_8, c5_9⟩ := (HBS.out _ HX5.out).cells
       clear hbx hbw hbs hbg hi5
       try simp only [sgV])
    | (go_at_call 15
       (with_reducible refine (HA2.out _ HX5.out).mono ?_)
       rintro e w6 ⟨A6, n6, c6, rfl, hi6, hbx⟩
       have hbw := one_alloc w6 (.cells #[.int .i64 h.pl, .int .i64 h.st, .int .i64 h.nx, .int .i64 h.ph, .int .i64 h.t, .int .i64 h.hd, .int .i64 h.hl, .int .i64 h.ak, .int .i64 h.wt, .bool h.sp] 24)
       have hbs := hbx.trans (hbw.mono hbx.size)
       have hbg := BoxG.new w6 h
       have HX6 := Lib.hid (HX5.out.trans (hbs.mono HX5.out.size))
       have HY3 := Lib.hid (HY3.out.trans (hbs.mono HY3.out.size))
       have HY4 := Lib.hid (HY4.out.trans (hbs.mono HY4.out.size))
       have HY5 := Lib.hid (HY5.out.trans (hbs.mono HY5.out.size))
       have HG6 := Lib.hid (show ∀ X, Below (w6.alloc (.cells #[.int .i64 h.pl, .int .i64 h.st, .int .i64 h.nx, .int .i64 h.ph, .int .i64 h.t, .int .i64 h.hd, .int .i64 h.hl, .int .i64 h.ak, .int .i64 h.wt, .bool h.sp] 24)).heap.size (w6.alloc (.cells #[.int .i64 h.pl, .int .i64 h.st, .int .i64 h.nx, .int .i64 h.ph, .int .i64 h.t, .int .i64 h.hd, .int .i64 h.hl, .int .i64 h.ak, .int .i64 h.wt, .bool h.sp] 24)) X → BoxG X w6.heap.size h from fun X hX => hbg.below hX)
       have HY6 := Lib.hid (Below.refl (w6.alloc (.cells #[.int .i64 h.pl, .int .i64 h.st, .int .i64 h.nx, .int .i64 h.ph, .int .i64 h.t, .int .i64 h.hd, .int .i64 h.hl, .int .i64 h.ak, .int .i64 h.wt, .bool h.sp] 24)).heap.size (w6.alloc (.cells #[.int .i64 h.pl, .int .i64 h.st, .int .i64 h.nx, .int .i64 h.ph, .int .i64 h.t, .int .i64 h.hd, .int .i64 h.hl, .int .i64 h.ak, .int .i64 h.wt, .bool h.sp] 24)))
       have HI6 := Lib.hid (fun X (hX : Below (w6.alloc (.cells #[.int .i64 h.pl, .int .i64 h.st, .int .i64 h.nx, .int .i64 h.ph, .int .i64 h.t, .int .i64 h.hd, .int .i64 h.hl, .int .i64 h.ak, .int .i64 h.wt, .bool h.sp] 24)).heap.size (w6.alloc (.cells #[.int .i64 h.pl, .int .i64 h.st, .int .i64 h.nx, .int .i64 h.ph, .int .i64 h.t, .int .i64 h.hd, .int .i64 h.hl, .int .i64 h.ak, .int .i64 h.wt, .bool h.sp] 24)) X) => (hi6.below hbw).below hX)
       obtain ⟨c6_0, c6_1, c6_2, c6_3, c6_4, c6_5, c6_6, c6_7, c6_8, c6_9⟩ := (HBS.out _ HX6.out).cells
       clear hbx hbw hbs hbg hi6
       try simp only [sgV])
    | (go_at_call 16
       (with_reducible refine (HP1.out _ HX6.out).mono ?_)
       rintro e w7 ⟨A7, n7, c7, r7, rfl, hi7, hr7, hbx⟩
       have hbw := one_alloc w7 (.cells #[.int .i64 u.pl, .int .i64 u.st, .int .i64 u.nx, .int .i64 u.ph, .int .i64 u.t, .int .i64 u.hd, .int .i64 u.hl, .int .i64 u.ak, .int .i64 u.wt, .bool u.sp] 24)
       have hbs := hbx.trans (hbw.mono hbx.size)
       have hbg := BoxG.new w7 u
       have HX7 := Lib.hid (HX6.out.trans (hbs.mono HX6.out.size))
       have HY3 := Lib.hid (HY3.out.trans (hbs.mono HY3.out.size))
       have HY4 := Lib.hid (HY4.out.trans (hbs.mono HY4.out.size))
       have HY5 := Lib.hid (HY5.out.trans (hbs.mono HY5.out.size))
       have HY6 := Lib.hid (HY6.out.trans (hbs.mono HY6.out.size))
       have HG7 := Lib.hid (show ∀ X, Below (w7.alloc (.cells #[.int .i64 u.pl, .int .i64 u.st, .int .i64 u.nx, .int .i64 u.ph, .int .i64 u.t, .int .i64 u.hd, .int .i64 u.hl, .int .i64 u.ak, .int .i64 u.wt, .bool u.sp] 24)).heap.size (w7.alloc (.cells #[.int .i64 u.pl, .int .i64 u.st, .int .i64 u.nx, .int .i64 u.ph, .int .i64 u.t, .int .i64 u.hd, .int .i64 u.hl, .int .i64 u.ak, .int .i64 u.wt, .bool u.sp] 24)) X → BoxG X w7.heap.size u from fun X hX => hbg.below hX)
       have HY7 := Lib.hid (Below.refl (w7.alloc (.cells #[.int .i64 u.pl, .int .i64 u.st, .int .i64 u.nx, .int .i64 u.ph, .int .i64 u.t, .int .i64 u.hd, .int .i64 u.hl, .int .i64 u.ak, .int .i64 u.wt, .bool u.sp] 24)).heap.size (w7.alloc (.cells #[.int .i64 u.pl, .int .i64 u.st, .int .i64 u.nx, .int .i64 u.ph, .int .i64 u.t, .int .i64 u.hd, .int .i64 u.hl, .int .i64 u.ak, .int .i64 u.wt, .bool u.sp] 24)))
       have HI7 := Lib.hid (fun X (hX : Below (w7.alloc (.cells #[.int .i64 u.pl, .int .i64 u.st, .int .i64 u.nx, .int .i64 u.ph, .int .i64 u.t, .int .i64 u.hd, .int .i64 u.hl, .int .i64 u.ak, .int .i64 u.wt, .bool u.sp] 24)).heap.size (w7.alloc (.cells #[.int .i64 u.pl, .int .i64 u.st, .int .i64 u.nx, .int .i64 u.ph, .int .i64 u.t, .int .i64 u.hd, .int .i64 u.hl, .int .i64 u.ak, .int .i64 u.wt, .bool u.sp] 24)) X) => (hi7.below hbw).below hX)
       have HR7 := Lib.hid hr7
       obtain ⟨c7_0, c7_1, c7_2, c7_3, c7_4, c7_5, c7_6, c7_7, c7_8, c7_9⟩ := (HBS.out _ HX7.out).cells
       clear hbx hbw hbs hbg hi7 hr7
       try simp only [sgV])
    | (go_at_call 17
       (with_reducible refine (HP2.out _ HX7.out).mono ?_)
       rintro e w8 ⟨A8, n8, c8, r8, rfl, hi8, hr8, hbx⟩
       have hbw := one_alloc w8 (.cells #[.int .i64 u.pl, .int .i64 u.st, .int .i64 u.nx, .int .i64 u.ph, .int .i64 u.t, .int .i64 u.hd, .int .i64 u.hl, .int .i64 u.ak, .int .i64 u.wt, .bool u.sp] 24)
       have hbs := hbx.trans (hbw.mono hbx.size)
       have hbg := BoxG.new w8 u
       have HX8 := Lib.hid (HX7.out.trans (hbs.mono HX7.out.size))
       have HY3 := Lib.hid (HY3.out.trans (hbs.mono HY3.out.size))
       have HY4 := Lib.hid (HY4.out.trans (hbs.mono HY4.out.size))
       have HY5 := Lib.hid (HY5.out.trans (hbs.mono HY5.out.size))
       have HY6 := Lib.hid (HY6.out.trans (hbs.mono HY6.out.size))
       have HY7 := Lib.hid (HY7.out.trans (hbs.mono HY7.out.size))
       have HG8 := Lib.hid (show ∀ X, Below (w8.alloc (.cells #[.int .i64 u.pl, .int .i64 u.st, .int .i64 u.nx, .int .i64 u.ph, .int .i64 u.t, .int .i64 u.hd, .int .i64 u.hl, .int .i64 u.ak, .int .i64 u.wt, .bool u.sp] 24)).heap.size (w8.alloc (.cells #[.int .i64 u.pl, .int .i64 u.st, .int .i64 u.nx, .int .i64 u.ph, .int .i64 u.t, .int .i64 u.hd, .int .i64 u.hl, .int .i64 u.ak, .int .i64 u.wt, .bool u.sp] 24)) X → BoxG X w8.heap.size u from fun X hX => hbg.below hX)
       have HY8 := Lib.hid (Below.refl (w8.alloc (.cells #[.int .i64 u.pl, .int .i64 u.st, .int .i64 u.nx, .int .i64 u.ph, .int .i64 u.t, .int .i64 u.hd, .int .i64 u.hl, .int .i64 u.ak, .int .i64 u.wt, .bool u.sp] 24)).heap.size (w8.alloc (.cells #[.int .i64 u.pl, .int .i64 u.st, .int .i64 u.nx, .int .i64 u.ph, .int .i64 u.t, .int .i64 u.hd, .int .i64 u.hl, .int .i64 u.ak, .int .i64 u.wt, .bool u.sp] 24)))
       have HI8 := Lib.hid (fun X (hX : Below (w8.alloc (.cells #[.int .i64 u.pl, .int .i64 u.st, .int .i64 u.nx, .int .i64 u.ph, .int .i64 u.t, .int .i64 u.hd, .int .i64 u.hl, .int .i64 u.ak, .int .i64 u.wt, .bool u.sp] 24)).heap.size (w8.alloc (.cells #[.int .i64 u.pl, .int .i64 u.st, .int .i64 u.nx, .int .i64 u.ph, .int .i64 u.t, .int .i64 u.hd, .int .i64 u.hl, .int .i64 u.ak, .int .i64 u.wt, .bool u.sp] 24)) X) => (hi8.below hbw).below hX)
       have HR8 := Lib.hid hr8
       clear hbx hbw hbs hbg hi8 hr8
       try simp only [sgV])
    | (go_at_call 18
       (with_reducible refine (errs_below _ _ _ _ _ _ _ _ _ (HI5.out _ HY5.out) (HI6.out _ HY6.out)).mono ?_)
       rintro e w9 ⟨he, hbx⟩
       have HY3 := Lib.hid (HY3.out.trans (hbx.mono HY3.out.size))
       have HY4 := Lib.hid (HY4.out.trans (hbx.mono HY4.out.size))
       have HY5 := Lib.hid (HY5.out.trans (hbx.mono HY5.out.size))
       have HY6 := Lib.hid (HY6.out.trans (hbx.mono HY6.out.size))
       have HY7 := Lib.hid (HY7.out.trans (hbx.mono HY7.out.size))
       have HY8 := Lib.hid (HY8.out.trans (hbx.mono HY8.out.size))
       have HX9 := Lib.hid (HX8.out.trans (hbx.mono HX8.out.size))
       obtain rfl : e = .returned (.bool true) := by rw [he]; simp
       clear he
       clear hbx)
    | (go_at_call 19
       (with_reducible refine (rrows_any _ _ _ _ _ _ _ _ _ (HI7.out _ HY7.out) (HI8.out _ HY8.out)).mono ?_)
       rintro e w10 ⟨he, hbx⟩
       have HY3 := Lib.hid (HY3.out.trans (hbx.mono HY3.out.size))
       have HY4 := Lib.hid (HY4.out.trans (hbx.mono HY4.out.size))
       have HY5 := Lib.hid (HY5.out.trans (hbx.mono HY5.out.size))
       have HY6 := Lib.hid (HY6.out.trans (hbx.mono HY6.out.size))
       have HY7 := Lib.hid (HY7.out.trans (hbx.mono HY7.out.size))
       have HY8 := Lib.hid (HY8.out.trans (hbx.mono HY8.out.size))
       have HX10 := Lib.hid (HX9.out.trans (hbx.mono HX9.out.size))
       obtain rfl : e = .returned (.bool true) := by rw [he, HR7.out, HR8.out]; simp
       clear he
       obtain ⟨b3_0, b3_1, b3_2, b3_3, b3_4, b3_5, b3_6, b3_7, b3_8, b3_9⟩ := (HG3.out _ HY3.out).cells
       try simp only at b3_0 b3_1 b3_2 b3_3 b3_4 b3_5 b3_6 b3_7 b3_8 b3_9
       obtain ⟨b4_0, b4_1, b4_2, b4_3, b4_4, b4_5, b4_6, b4_7, b4_8, b4_9⟩ := (HG4.out _ HY4.out).cells
       try simp only at b4_0 b4_1 b4_2 b4_3 b4_4 b4_5 b4_6 b4_7 b4_8 b4_9
       obtain ⟨b5_0, b5_1, b5_2, b5_3, b5_4, b5_5, b5_6, b5_7, b5_8, b5_9⟩ := (HG5.out _ HY5.out).cells
       try simp only at b5_0 b5_1 b5_2 b5_3 b5_4 b5_5 b5_6 b5_7 b5_8 b5_9
       obtain ⟨b6_0, b6_1, b6_2, b6_3, b6_4, b6_5, b6_6, b6_7, b6_8, b6_9⟩ := (HG6.out _ HY6.out).cells
       try simp only at b6_0 b6_1 b6_2 b6_3 b6_4 b6_5 b6_6 b6_7 b6_8 b6_9
       obtain ⟨b7_0, b7_1, b7_2, b7_3, b7_4, b7_5, b7_6, b7_7, b7_8, b7_9⟩ := (HG7.out _ HY7.out).cells
       try simp only at b7_0 b7_1 b7_2 b7_3 b7_4 b7_5 b7_6 b7_7 b7_8 b7_9
       obtain ⟨b8_0, b8_1, b8_2, b8_3, b8_4, b8_5, b8_6, b8_7, b8_8, b8_9⟩ := (HG8.out _ HY8.out).cells
       try simp only at b8_0 b8_1 b8_2 b8_3 b8_4 b8_5 b8_6 b8_7 b8_8 b8_9
       clear hbx)
    | ((with_reducible refine wpList_eq_sig _ _ rfl g g ?hx0 ?hy0 ?_ ?hw0); (case hx0 => rfl); (case hy0 => rfl); (case hw0 => rfl)
       rw [show decide (g = g) = true from decide_eq_true rfl])
    | ((with_reducible refine wpList_eq_sig _ _ rfl h h ?hx1 ?hy1 ?_ ?hw1); (case hx1 => rfl); (case hy1 => rfl); (case hw1 => rfl)
       rw [show decide (h = h) = true from decide_eq_true rfl])
    | ((with_reducible refine wpList_eq_sig _ _ rfl u u ?hx2 ?hy2 ?_ ?hw2); (case hx2 => rfl); (case hy2 => rfl); (case hw2 => rfl)
       rw [show decide (u = u) = true from decide_eq_true rfl]))
  go_ret
  exact ⟨rfl, HB0.out.trans (HX10.out.mono HB0.out.size)⟩
end Go.Proofs.Ytgnhmdfajnnkhaa

