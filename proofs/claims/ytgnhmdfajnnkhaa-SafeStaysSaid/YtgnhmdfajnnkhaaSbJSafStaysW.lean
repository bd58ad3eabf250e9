/- The walk over the law SafeStays. -/
import Derived.Test.YtgnhmdfajnnkhaaSbJC
namespace Go.Proofs.Ytgnhmdfajnnkhaa
set_option maxRecDepth 100000
set_option linter.unusedVariables false
set_option linter.unusedSimpArgs false
open Go.RowKit

theorem one_lns17 {w : World} {A : Option Addr} {n c : Nat} {l : List Int} (h : Its .i64 w A n c l) : Lns (w.alloc (.cells #[.slice A n c] 40)) (some ⟨w.heap.size, 0, none⟩) 1 1 [⟨A, n, c, l⟩] :=
  ⟨one_rws 1 40 w [.slice A n c] rfl (fun u hu => by rw [List.mem_singleton.1 hu]; rfl), fun r hr => by rw [List.mem_singleton.1 hr]; exact h.more _⟩
set_option maxHeartbeats 16000000 in
theorem fstays_e (HO : SafOk) (HN : StgOk) (HT : LmpText) (A : Option Addr) (n c : Nat) (l : List Pl) (s : Sg) (k a : Int) (w : World) (hl : Pls w A n c l) (hts : SmG s) (hfw : fewAllB l = true) (e : Int) (he : e ≠ 0) (hd : doS l s k a = (s, e)) :
    Calls Try.prog 4 #[.slice A n c, sgV s, .int .i64 k, .int .i64 a] w fun e w' => e = .returned (.bool true) ∧ Below w.heap.size w w' := by
  have hsm := hl.small
  have hlen := hl.len
  simp only [sgV]
  obtain ⟨W0, hW0⟩ : ∃ W0, w.alloc (.cells #[.int .i64 s.pl, .int .i64 s.st, .int .i64 s.nx, .int .i64 s.ph, .int .i64 s.t, .int .i64 s.hd, .int .i64 s.hl, .int .i64 s.ak, .int .i64 s.wt, .bool s.sp] 24) = W0 := ⟨_, rfl⟩
  have hB0 : Below w.heap.size w W0 := by rw [← hW0]; exact one_alloc w _
  have hbs : BoxG W0 w.heap.size s := by rw [← hW0]; exact BoxG.new w s
  have HPL := Lib.hid (show ∀ X, Below W0.heap.size W0 X → Pls X A n c l from fun X hX => (hl.below hB0).below hX)
  have HBS := Lib.hid (show ∀ X, Below W0.heap.size W0 X → BoxG X w.heap.size s from fun X hX => hbs.below hX)
  have HLL := Lib.hid hlen
  have HB0 := Lib.hid hB0
  have HW := Lib.hid hW0
  have HAW := Lib.hid (sawake17_any HO HN HT W0)
  have HFW := Lib.hid (fun X hX => pfewall_any A n c l X (HPL.out X hX))
  clear hW0 hB0 hbs hl
  rw [hfw] at HFW
  obtain ⟨hl5, hfp⟩ := fewall_iff.1 hfw
  have hn1000 : n ≤ 1000 := by omega
  have hmem : ∀ p ∈ l, p.n ≤ 1000 ∧ p.k ≤ 1000 := fun p hp => by have := hfp p hp; omega
  have H1 := Lib.hid (fun X hX => HO.ask A n c l s k a X (HPL.out X hX) hts hn1000 hmem)
  rw [hd] at H1
  have heb : (e != 0) = true := by rw [bne_iff_ne]; exact he
  simp only [GivesGE, sgV] at H1
  clear hmem hfp hfw hd he
  go_enter Try.func4, Try.ntmps4
  go_wp2_with (first
    | (go_at_call 10
       rw [HW.out]
       (with_reducible refine (HAW.out).mono ?_)
       rintro e w1 ⟨rfl, hbx⟩
       have HX1 := Lib.hid hbx
       clear hbx)
    | (go_at_call 11
       (with_reducible refine (HFW.out _ HX1.out).mono ?_)
       rintro e w2 ⟨rfl, hbx⟩
       have HX2 := Lib.hid (HX1.out.trans (hbx.mono HX1.out.size))
       obtain ⟨a0, a1, a2, a3, a4, a5, a6, a7, a8, a9⟩ := (HBS.out w2 HX2.out).cells
       clear hbx)
    | (go_at_call 12
       (with_reducible refine (H1.out _ HX2.out).mono ?_)
       rintro e w3 ⟨rfl, hbx⟩
       have hbw := one_alloc w3 (.cells #[.int .i64 s.pl, .int .i64 s.st, .int .i64 s.nx, .int .i64 s.ph, .int .i64 s.t, .int .i64 s.hd, .int .i64 s.hl, .int .i64 s.ak, .int .i64 s.wt, .bool s.sp] 24)
       have hbs := hbx.trans (hbw.mono hbx.size)
       have hbg := BoxG.new w3 s
       have HX3 := Lib.hid (HX2.out.trans (hbs.mono HX2.out.size))
       have HG3 := Lib.hid (show ∀ X, Below (w3.alloc (.cells #[.int .i64 s.pl, .int .i64 s.st, .int .i64 s.nx, .int .i64 s.ph, .int .i64 s.t, .int .i64 s.hd, .int .i64 s.hl, .int .i64 s.ak, .int .i64 s.wt, .bool s.sp] 24)).heap.size (w3.alloc (.cells #[.int .i64 s.pl, .int .i64 s.st, .int .i64 s.nx, .int .i64 s.ph, .int .i64 s.t, .int .i64 s.hd, .int .i64 s.hl, .int .i64 s.ak, .int .i64 s.wt, .bool s.sp] 24)) X → BoxG X w3.heap.size s from fun X hX => hbg.below hX)
       have HY3 := Lib.hid (Below.refl (w3.alloc (.cells #[.int .i64 s.pl, .int .i64 s.st, .int .i64 s.nx, .int .i64 s.ph, .int .i64 s.t, .int .i64 s.hd, .int .i64 s.hl, .int .i64 s.ak, .int .i64 s.wt, .bool s.sp] 24)).heap.size (w3.alloc (.cells #[.int .i64 s.pl, .int .i64 s.st, .int .i64 s.nx, .int .i64 s.ph, .int .i64 s.t, .int .i64 s.hd, .int .i64 s.hl, .int .i64 s.ak, .int .i64 s.wt, .bool s.sp] 24)))
       obtain ⟨c3_0, c3_1, c3_2, c3_3, c3_4, c3_5, c3_6, c3_7, c3_8, c3_9⟩ := (HBS.out _ HX3.out).cells
       obtain ⟨b3_0, b3_1, b3_2, b3_3, b3_4, b3_5, b3_6, b3_7, b3_8, b3_9⟩ := (HG3.out _ HY3.out).cells
       try simp only at b3_0 b3_1 b3_2 b3_3 b3_4 b3_5 b3_6 b3_7 b3_8 b3_9
       clear hbx hbw hbs hbg
       try simp only [sgV])
    | ((with_reducible refine wpList_eq_sig _ _ rfl s s ?hx0 ?hy0 ?_ ?hw0); (case hx0 => rfl); (case hy0 => rfl); (case hw0 => rfl)
       rw [show decide (s = s) = true from decide_eq_true rfl]))
  go_ret
  exact ⟨by first | rfl | simp, HB0.out.trans (HX3.out.mono HB0.out.size)⟩
set_option maxHeartbeats 16000000 in
theorem fstays_o (HO : SafOk) (HN : StgOk) (HT : LmpText) (A : Option Addr) (n c : Nat) (l : List Pl) (s : Sg) (k a : Int) (w : World) (hl : Pls w A n c l) (hts : SmG s) (HR : TurnsOk) (hfw : fewAllB l = true) (t : Sg) (hd : doS l s k a = (t, 0)) (htn : turnsB k = true) (hms : MayS l s) (hmt : MayS l t) (hst : SameG t s) :
    Calls Try.prog 4 #[.slice A n c, sgV s, .int .i64 k, .int .i64 a] w fun e w' => e = .returned (.bool true) ∧ Below w.heap.size w w' := by
  have hsm := hl.small
  have hlen := hl.len
  simp only [sgV]
  obtain ⟨W0, hW0⟩ : ∃ W0, w.alloc (.cells #[.int .i64 s.pl, .int .i64 s.st, .int .i64 s.nx, .int .i64 s.ph, .int .i64 s.t, .int .i64 s.hd, .int .i64 s.hl, .int .i64 s.ak, .int .i64 s.wt, .bool s.sp] 24) = W0 := ⟨_, rfl⟩
  have hB0 : Below w.heap.size w W0 := by rw [← hW0]; exact one_alloc w _
  have hbs : BoxG W0 w.heap.size s := by rw [← hW0]; exact BoxG.new w s
  have HPL := Lib.hid (show ∀ X, Below W0.heap.size W0 X → Pls X A n c l from fun X hX => (hl.below hB0).below hX)
  have HBS := Lib.hid (show ∀ X, Below W0.heap.size W0 X → BoxG X w.heap.size s from fun X hX => hbs.below hX)
  have HLL := Lib.hid hlen
  have HB0 := Lib.hid hB0
  have HW := Lib.hid hW0
  have HAW := Lib.hid (sawake17_any HO HN HT W0)
  have HFW := Lib.hid (fun X hX => pfewall_any A n c l X (HPL.out X hX))
  clear hW0 hB0 hbs hl
  rw [hfw] at HFW
  obtain ⟨hl5, hfp⟩ := fewall_iff.1 hfw
  have hn1000 : n ≤ 1000 := by omega
  have hmem : ∀ p ∈ l, p.n ≤ 1000 ∧ p.k ≤ 1000 := fun p hp => by have := hfp p hp; omega
  have htt : SmG t := by unfold SmG; rw [hst.tt, hst.hl]; exact hts
  have H1 := Lib.hid (fun X hX => HO.ask A n c l s k a X (HPL.out X hX) hts hn1000 hmem)
  have HLT := Lib.hid (fun X hX => HN.lamps A n c l t X (HPL.out X hX) htt hn1000 hmem)
  have HLS := Lib.hid (fun X hX => HN.lamps A n c l s X (HPL.out X hX) hts hn1000 hmem)
  have HMS := Lib.hid (fun X hX => HN.may A n c l s X (HPL.out X hX) hts hn1000 hmem)
  have HMT := Lib.hid (fun X hX => HN.may A n c l t X (HPL.out X hX) htt hn1000 hmem)
  have HTN := Lib.hid (fun X => HR.turns k X)
  rw [hd] at H1
  rw [same_lamps hms hmt hst] at HLT
  rw [mayS_iff.2 hms] at HMS
  rw [mayS_iff.2 hmt] at HMT
  rw [htn] at HTN
  obtain ⟨L, hL⟩ : ∃ L, lampsS l s = L := ⟨_, rfl⟩
  rw [hL] at HLT HLS
  have HSM := Lib.hid (show (t.ph == s.ph) = true ∧ (t.t == s.t) = true ∧ (t.pl == s.pl) = true ∧ (t.st == s.st) = true ∧ (t.hl == s.hl) = true from ⟨by rw [hst.ph]; simp, by rw [hst.tt]; simp, by rw [hst.pl]; simp, by rw [hst.st]; simp, by rw [hst.hl]; simp⟩)
  simp only [GivesGE, GivesL, sgV] at H1 HLT HLS HMS HMT
  clear hmem hfp hfw hd htn hms hmt hst hL htt
  go_enter Try.func4, Try.ntmps4
  go_wp2_with (first
    | (go_at_call 10
       rw [HW.out]
       (with_reducible refine (HAW.out).mono ?_)
       rintro e w1 ⟨rfl, hbx⟩
       have HX1 := Lib.hid hbx
       clear hbx)
    | (go_at_call 11
       (with_reducible refine (HFW.out _ HX1.out).mono ?_)
       rintro e w2 ⟨rfl, hbx⟩
       have HX2 := Lib.hid (HX1.out.trans (hbx.mono HX1.out.size))
       obtain ⟨a0, a1, a2, a3, a4, a5, a6, a7, a8, a9⟩ := (HBS.out w2 HX2.out).cells
       clear hbx)
    | (go_at_call 12
       (with_reducible refine (H1.out _ HX2.out).mono ?_)
       rintro e w3 ⟨rfl, hbx⟩
       have hbw := one_alloc w3 (.cells #[.int .i64 t.pl, .int .i64 t.st, .int .i64 t.nx, .int .i64 t.ph, .int .i64 t.t, .int .i64 t.hd, .int .i64 t.hl, .int .i64 t.ak, .int .i64 t.wt, .bool t.sp] 24)
       have hbs := hbx.trans (hbw.mono hbx.size)
       have hbg := BoxG.new w3 t
       have HX3 := Lib.hid (HX2.out.trans (hbs.mono HX2.out.size))
       have HG3 := Lib.hid (show ∀ X, Below (w3.alloc (.cells #[.int .i64 t.pl, .int .i64 t.st, .int .i64 t.nx, .int .i64 t.ph, .int .i64 t.t, .int .i64 t.hd, .int .i64 t.hl, .int .i64 t.ak, .int .i64 t.wt, .bool t.sp] 24)).heap.size (w3.alloc (.cells #[.int .i64 t.pl, .int .i64 t.st, .int .i64 t.nx, .int .i64 t.ph, .int .i64 t.t, .int .i64 t.hd, .int .i64 t.hl, .int .i64 t.ak, .int .i64 t.wt, .bool t.sp] 24)) X → BoxG X w3.heap.size t from fun X hX => hbg.below hX)
       have HY3 := Lib.hid (Below.refl (w3.alloc (.cells #[.int .i64 t.pl, .int .i64 t.st, .int .i64 t.nx, .int .i64 t.ph, .int .i64 t.t, .int .i64 t.hd, .int .i64 t.hl, .int .i64 t.ak, .int .i64 t.wt, .bool t.sp] 24)).heap.size (w3.alloc (.cells #[.int .i64 t.pl, .int .i64 t.st, .int .i64 t.nx, .int .i64 t.ph, .int .i64 t.t, .int .i64 t.hd, .int .i64 t.hl, .int .i64 t.ak, .int .i64 t.wt, .bool t.sp] 24)))
       clear hbx hbw hbs hbg
       try simp only [sgV]))
  obtain ⟨WB, hWB⟩ : ∃ W, w3.alloc (.cells #[.int .i64 t.pl, .int .i64 t.st, .int .i64 t.nx, .int .i64 t.ph, .int .i64 t.t, .int .i64 t.hd, .int .i64 t.hl, .int .i64 t.ak, .int .i64 t.wt, .bool t.sp] 24) = W := ⟨_, rfl⟩
  rw [hWB] at HX3 HY3 HG3 ⊢
  clear hWB
  have HF := Lib.hid (show ∀ X, Below WB.heap.size WB X → X.cell? ⟨w.heap.size, 0, none⟩ = some (.int .i64 s.pl) ∧ X.cell? ⟨w.heap.size, 1, none⟩ = some (.int .i64 s.st) ∧ X.cell? ⟨w.heap.size, 2, none⟩ = some (.int .i64 s.nx) ∧ X.cell? ⟨w.heap.size, 3, none⟩ = some (.int .i64 s.ph) ∧ X.cell? ⟨w.heap.size, 4, none⟩ = some (.int .i64 s.t) ∧ X.cell? ⟨w.heap.size, 5, none⟩ = some (.int .i64 s.hd) ∧ X.cell? ⟨w.heap.size, 6, none⟩ = some (.int .i64 s.hl) ∧ X.cell? ⟨w.heap.size, 7, none⟩ = some (.int .i64 s.ak) ∧ X.cell? ⟨w.heap.size, 8, none⟩ = some (.int .i64 s.wt) ∧ X.cell? ⟨w.heap.size, 9, none⟩ = some (.bool s.sp) ∧ X.cell? ⟨w3.heap.size, 0, none⟩ = some (.int .i64 t.pl) ∧ X.cell? ⟨w3.heap.size, 1, none⟩ = some (.int .i64 t.st) ∧ X.cell? ⟨w3.heap.size, 2, none⟩ = some (.int .i64 t.nx) ∧ X.cell? ⟨w3.heap.size, 3, none⟩ = some (.int .i64 t.ph) ∧ X.cell? ⟨w3.heap.size, 4, none⟩ = some (.int .i64 t.t) ∧ X.cell? ⟨w3.heap.size, 5, none⟩ = some (.int .i64 t.hd) ∧ X.cell? ⟨w3.heap.size, 6, none⟩ = some (.int .i64 t.hl) ∧ X.cell? ⟨w3.heap.size, 7, none⟩ = some (.int .i64 t.ak) ∧ X.cell? ⟨w3.heap.size, 8, none⟩ = some (.int .i64 t.wt) ∧ X.cell? ⟨w3.heap.size, 9, none⟩ = some (.bool t.sp) from fun X hX => by
    obtain ⟨a0, a1, a2, a3, a4, a5, a6, a7, a8, a9⟩ := (HBS.out X (HX3.out.trans (hX.mono HX3.out.size))).cells
    obtain ⟨b0, b1, b2, b3, b4, b5, b6, b7, b8, b9⟩ := (HG3.out X hX).cells
    exact ⟨a0, a1, a2, a3, a4, a5, a6, a7, a8, a9, b0, b1, b2, b3, b4, b5, b6, b7, b8, b9⟩)
  have hSd : Below WB.heap.size WB WB.drew := (Below.refl _ WB).drew
  refine wp_region_held_drew (S := fun X => Below WB.heap.size WB X) (by kernel_rfl) hSd (fun hHeld => ?_)
  obtain ⟨y0, hY0⟩ : ∃ Y, WB.drew = Y := ⟨_, rfl⟩
  rw [hY0] at hSd hHeld ⊢
  clear hY0
  refine tk 0 (.slice A n c) hHeld (fun w => ?_) ?_
  · go_simp
  simp only [PT]
  refine tkS 1 (.agg #[.int .i64 t.pl, .int .i64 t.st, .int .i64 t.nx, .int .i64 t.ph, .int .i64 t.t, .int .i64 t.hd, .int .i64 t.hl, .int .i64 t.ak, .int .i64 t.wt, .bool t.sp]) hHeld (fun w hq => ?_) ?_
  · obtain ⟨z0, z1, z2, z3, z4, z5, z6, z7, z8, z9, z10, z11, z12, z13, z14, z15, z16, z17, z18, z19⟩ := HF.out w hq
    go_simp
  simp only [PT]
  refine tk 4 (.slice A n c) hHeld (fun w => ?_) ?_
  · go_simp
  simp only [PT]
  refine tkS 5 (.agg #[.int .i64 s.pl, .int .i64 s.st, .int .i64 s.nx, .int .i64 s.ph, .int .i64 s.t, .int .i64 s.hd, .int .i64 s.hl, .int .i64 s.ak, .int .i64 s.wt, .bool s.sp]) hHeld (fun w hq => ?_) ?_
  · obtain ⟨z0, z1, z2, z3, z4, z5, z6, z7, z8, z9, z10, z11, z12, z13, z14, z15, z16, z17, z18, z19⟩ := HF.out w hq
    go_simp
  simp only [PT]
  refine one_step 2 (by kernel_rfl) rfl (fun Kq hKq => ?_)
  go_simp
  go_at_call 20
  (with_reducible refine (HLT.out _ (HX3.out.trans (hSd.mono HX3.out.size))).mono ?_)
  rintro e y1 ⟨A1, n1, c1, rfl, hi1, hbx⟩
  have HI1 := Lib.hid hi1
  clear hi1
  have hS1 : Below WB.heap.size WB y1 := hSd.trans (hbx.mono hSd.size)
  clear hbx
  refine hKq.out _ _ hS1 (fun hHeld0 => ?_)
  clear hKq Kq hHeld
  have hHeld := hHeld0
  clear hHeld0
  try simp only [PT]
  refine two_steps 3 6 (by kernel_rfl) rfl rfl (fun Kq hKq => ?_) (fun Kq hKq => ?_)
  · have HZ1 := HI1
    go_simp
    obtain ⟨y2, hYn⟩ : ∃ Y, y1.alloc (.cells #[.slice A1 n1 c1] 40) = Y := ⟨_, rfl⟩
    have hbx : Below y1.heap.size y1 y2 := by rw [← hYn]; exact one_alloc _ _
    have hS2 : Below WB.heap.size WB y2 := hS1.trans (hbx.mono hS1.size)
    have HI1 := Lib.hid (HI1.out.below hbx)
    have HQ1 := Lib.hid (show Lns y2 (some ⟨y1.heap.size, 0, none⟩) 1 1 [⟨A1, n1, c1, L⟩] from by rw [← hYn]; exact one_lns17 HZ1.out)
    rw [hYn]
    clear hYn
    clear hbx
    refine hKq.out _ _ hS2 (fun hHeld0 => ?_)
    clear hKq Kq hHeld
    have hHeld := hHeld0
    clear hHeld0
    try simp only [PT]
    refine one_step 6 (by kernel_rfl) rfl (fun Kq hKq => ?_)
    go_simp
    go_at_call 20
    (with_reducible refine (HLS.out _ (HX3.out.trans (hS2.mono HX3.out.size))).mono ?_)
    rintro e y3 ⟨A2, n2, c2, rfl, hi2, hbx⟩
    have HI2 := Lib.hid hi2
    clear hi2
    have hS3 : Below WB.heap.size WB y3 := hS2.trans (hbx.mono hS2.size)
    have HI1 := Lib.hid (HI1.out.below hbx)
    have HQ1 := Lib.hid (HQ1.out.below hbx)
    clear hbx
    refine hKq.out _ _ hS3 (fun hHeld0 => ?_)
    clear hKq Kq hHeld
    have hHeld := hHeld0
    clear hHeld0
    try simp only [PT]
    refine one_step 7 (by kernel_rfl) rfl (fun Kq hKq => ?_)
    have HZ2 := HI2
    go_simp
    obtain ⟨y4, hYn⟩ : ∃ Y, y3.alloc (.cells #[.slice A2 n2 c2] 40) = Y := ⟨_, rfl⟩
    have hbx : Below y3.heap.size y3 y4 := by rw [← hYn]; exact one_alloc _ _
    have hS4 : Below WB.heap.size WB y4 := hS3.trans (hbx.mono hS3.size)
    have HI1 := Lib.hid (HI1.out.below hbx)
    have HQ1 := Lib.hid (HQ1.out.below hbx)
    have HI2 := Lib.hid (HI2.out.below hbx)
    have HQ2 := Lib.hid (show Lns y4 (some ⟨y3.heap.size, 0, none⟩) 1 1 [⟨A2, n2, c2, L⟩] from by rw [← hYn]; exact one_lns17 HZ2.out)
    rw [hYn]
    clear hYn
    clear hbx
    refine hKq.out _ _ hS4 (fun hHeld0 => ?_)
    clear hKq Kq hHeld
    have hHeld := hHeld0
    clear hHeld0
    try simp only [PT]
    refine one_step 8 (by kernel_rfl) rfl (fun Kq hKq => ?_)
    go_simp
    go_at_call 19
    (with_reducible refine (rrows_any _ _ _ _ _ _ _ _ _ HQ1.out HQ2.out).mono ?_)
    rintro e y5 ⟨he, hbx⟩
    obtain rfl : e = .returned (.bool true) := by rw [he]; simp
    clear he
    have hS5 : Below WB.heap.size WB y5 := hS4.trans (hbx.mono hS4.size)
    have HI1 := Lib.hid (HI1.out.below hbx)
    have HQ1 := Lib.hid (HQ1.out.below hbx)
    have HI2 := Lib.hid (HI2.out.below hbx)
    have HQ2 := Lib.hid (HQ2.out.below hbx)
    clear hbx
    refine hKq.out _ _ hS5 (fun hHeld0 => ?_)
    clear hKq Kq hHeld
    have hHeld := hHeld0
    clear hHeld0
    try simp only [PT]
    refine tk 9 (.bool true) hHeld (fun w => ?_) ?_
    · go_simp
    simp only [PT]
    refine wpAnyH_done (by kernel_rfl) ?_ _
    clear hHeld
    have HX9 := Lib.hid (HX3.out.trans (hS5.mono HX3.out.size))
    have HZ9 := Lib.hid (HY3.out.trans (hS5.mono HY3.out.size))
    go_wp2_with (first
      | (go_at_call 21
         (with_reducible refine (HTN.out _).mono ?_)
         rintro e w10 ⟨rfl, hbx⟩
         have HX10 := Lib.hid (HX9.out.trans (hbx.mono HX9.out.size))
         have HZ10 := Lib.hid (HZ9.out.trans (hbx.mono HZ9.out.size))
         obtain ⟨m0, m1, m2, m3, m4, m5, m6, m7, m8, m9⟩ := (HBS.out _ HX10.out).cells
         clear hbx)
      | (go_at_call 22
         (with_reducible refine (HMS.out _ HX10.out).mono ?_)
         rintro e w11 ⟨rfl, hbx⟩
         have HX11 := Lib.hid (HX10.out.trans (hbx.mono HX10.out.size))
         have HZ11 := Lib.hid (HZ10.out.trans (hbx.mono HZ10.out.size))
         obtain ⟨n0, n1, n2, n3, n4, n5, n6, n7, n8, n9⟩ := (HG3.out _ HZ11.out).cells
         clear hbx)
      | (go_at_call 22
         (with_reducible refine (HMT.out _ HX11.out).mono ?_)
         rintro e w12 ⟨rfl, hbx⟩
         have HX12 := Lib.hid (HX11.out.trans (hbx.mono HX11.out.size))
         have HZ12 := Lib.hid (HZ11.out.trans (hbx.mono HZ11.out.size))
         obtain ⟨o0, o1, o2, o3, o4, o5, o6, o7, o8, o9⟩ := (HG3.out _ HZ12.out).cells
         obtain ⟨p0, p1, p2, p3, p4, p5, p6, p7, p8, p9⟩ := (HBS.out _ HX12.out).cells
         obtain ⟨s1, s2, s3, s4, s5⟩ := HSM.out
         clear hbx))
    go_ret
    exact ⟨by first | rfl | simp, HB0.out.trans (HX12.out.mono HB0.out.size)⟩
  · go_simp
    go_at_call 20
    (with_reducible refine (HLS.out _ (HX3.out.trans (hS1.mono HX3.out.size))).mono ?_)
    rintro e y2 ⟨A2, n2, c2, rfl, hi2, hbx⟩
    have HI2 := Lib.hid hi2
    clear hi2
    have hS2 : Below WB.heap.size WB y2 := hS1.trans (hbx.mono hS1.size)
    have HI1 := Lib.hid (HI1.out.below hbx)
    clear hbx
    refine hKq.out _ _ hS2 (fun hHeld0 => ?_)
    clear hKq Kq hHeld
    have hHeld := hHeld0
    clear hHeld0
    try simp only [PT]
    refine two_steps 3 7 (by kernel_rfl) rfl rfl (fun Kq hKq => ?_) (fun Kq hKq => ?_)
    · have HZ1 := HI1
      go_simp
      obtain ⟨y3, hYn⟩ : ∃ Y, y2.alloc (.cells #[.slice A1 n1 c1] 40) = Y := ⟨_, rfl⟩
      have hbx : Below y2.heap.size y2 y3 := by rw [← hYn]; exact one_alloc _ _
      have hS3 : Below WB.heap.size WB y3 := hS2.trans (hbx.mono hS2.size)
      have HI1 := Lib.hid (HI1.out.below hbx)
      have HI2 := Lib.hid (HI2.out.below hbx)
      have HQ1 := Lib.hid (show Lns y3 (some ⟨y2.heap.size, 0, none⟩) 1 1 [⟨A1, n1, c1, L⟩] from by rw [← hYn]; exact one_lns17 HZ1.out)
      rw [hYn]
      clear hYn
      clear hbx
      refine hKq.out _ _ hS3 (fun hHeld0 => ?_)
      clear hKq Kq hHeld
      have hHeld := hHeld0
      clear hHeld0
      try simp only [PT]
      refine one_step 7 (by kernel_rfl) rfl (fun Kq hKq => ?_)
      have HZ2 := HI2
      go_simp
      obtain ⟨y4, hYn⟩ : ∃ Y, y3.alloc (.cells #[.slice A2 n2 c2] 40) = Y := ⟨_, rfl⟩
      have hbx : Below y3.heap.size y3 y4 := by rw [← hYn]; exact one_alloc _ _
      have hS4 : Below WB.heap.size WB y4 := hS3.trans (hbx.mono hS3.size)
      have HI1 := Lib.hid (HI1.out.below hbx)
      have HI2 := Lib.hid (HI2.out.below hbx)
      have HQ1 := Lib.hid (HQ1.out.below hbx)
      have HQ2 := Lib.hid (show Lns y4 (some ⟨y3.heap.size, 0, none⟩) 1 1 [⟨A2, n2, c2, L⟩] from by rw [← hYn]; exact one_lns17 HZ2.out)
      rw [hYn]
      clear hYn
      clear hbx
      refine hKq.out _ _ hS4 (fun hHeld0 => ?_)
      clear hKq Kq hHeld
      have hHeld := hHeld0
      clear hHeld0
      try simp only [PT]
      refine one_step 8 (by kernel_rfl) rfl (fun Kq hKq => ?_)
      go_simp
      go_at_call 19
      (with_reducible refine (rrows_any _ _ _ _ _ _ _ _ _ HQ1.out HQ2.out).mono ?_)
      rintro e y5 ⟨he, hbx⟩
      obtain rfl : e = .returned (.bool true) := by rw [he]; simp
      clear he
      have hS5 : Below WB.heap.size WB y5 := hS4.trans (hbx.mono hS4.size)
      have HI1 := Lib.hid (HI1.out.below hbx)
      have HI2 := Lib.hid (HI2.out.below hbx)
      have HQ1 := Lib.hid (HQ1.out.below hbx)
      have HQ2 := Lib.hid (HQ2.out.below hbx)
      clear hbx
      refine hKq.out _ _ hS5 (fun hHeld0 => ?_)
      clear hKq Kq hHeld
      have hHeld := hHeld0
      clear hHeld0
      try simp only [PT]
      refine tk 9 (.bool true) hHeld (fun w => ?_) ?_
      · go_simp
      simp only [PT]
      refine wpAnyH_done (by kernel_rfl) ?_ _
      clear hHeld
      have HX9 := Lib.hid (HX3.out.trans (hS5.mono HX3.out.size))
      have HZ9 := Lib.hid (HY3.out.trans (hS5.mono HY3.out.size))
      go_wp2_with (first
        | (go_at_call 21
           (with_reducible refine (HTN.out _).mono ?_)
           rintro e w10 ⟨rfl, hbx⟩
           have HX10 := Lib.hid (HX9.out.trans (hbx.mono HX9.out.size))
           have HZ10 := Lib.hid (HZ9.out.trans (hbx.mono HZ9.out.size))
           obtain ⟨m0, m1, m2, m3, m4, m5, m6, m7, m8, m9⟩ := (HBS.out _ HX10.out).cells
           clear hbx)
        | (go_at_call 22
           (with_reducible refine (HMS.out _ HX10.out).mono ?_)
           rintro e w11 ⟨rfl, hbx⟩
           have HX11 := Lib.hid (HX10.out.trans (hbx.mono HX10.out.size))
           have HZ11 := Lib.hid (HZ10.out.trans (hbx.mono HZ10.out.size))
           obtain ⟨n0, n1, n2, n3, n4, n5, n6, n7, n8, n9⟩ := (HG3.out _ HZ11.out).cells
           clear hbx)
        | (go_at_call 22
           (with_reducible refine (HMT.out _ HX11.out).mono ?_)
           rintro e w12 ⟨rfl, hbx⟩
           have HX12 := Lib.hid (HX11.out.trans (hbx.mono HX11.out.size))
           have HZ12 := Lib.hid (HZ11.out.trans (hbx.mono HZ11.out.size))
           obtain ⟨o0, o1, o2, o3, o4, o5, o6, o7, o8, o9⟩ := (HG3.out _ HZ12.out).cells
           obtain ⟨p0, p1, p2, p3, p4, p5, p6, p7, p8, p9⟩ := (HBS.out _ HX12.out).cells
           obtain ⟨s1, s2, s3, s4, s5⟩ := HSM.out
           clear hbx))
      go_ret
      exact ⟨by first | rfl | simp, HB0.out.trans (HX12.out.mono HB0.out.size)⟩
    · have HZ2 := HI2
      go_simp
      obtain ⟨y3, hYn⟩ : ∃ Y, y2.alloc (.cells #[.slice A2 n2 c2] 40) = Y := ⟨_, rfl⟩
      have hbx : Below y2.heap.size y2 y3 := by rw [← hYn]; exact one_alloc _ _
      have hS3 : Below WB.heap.size WB y3 := hS2.trans (hbx.mono hS2.size)
      have HI1 := Lib.hid (HI1.out.below hbx)
      have HI2 := Lib.hid (HI2.out.below hbx)
      have HQ2 := Lib.hid (show Lns y3 (some ⟨y2.heap.size, 0, none⟩) 1 1 [⟨A2, n2, c2, L⟩] from by rw [← hYn]; exact one_lns17 HZ2.out)
      rw [hYn]
      clear hYn
      clear hbx
      refine hKq.out _ _ hS3 (fun hHeld0 => ?_)
      clear hKq Kq hHeld
      have hHeld := hHeld0
      clear hHeld0
      try simp only [PT]
      refine one_step 3 (by kernel_rfl) rfl (fun Kq hKq => ?_)
      have HZ1 := HI1
      go_simp
      obtain ⟨y4, hYn⟩ : ∃ Y, y3.alloc (.cells #[.slice A1 n1 c1] 40) = Y := ⟨_, rfl⟩
      have hbx : Below y3.heap.size y3 y4 := by rw [← hYn]; exact one_alloc _ _
      have hS4 : Below WB.heap.size WB y4 := hS3.trans (hbx.mono hS3.size)
      have HI1 := Lib.hid (HI1.out.below hbx)
      have HI2 := Lib.hid (HI2.out.below hbx)
      have HQ2 := Lib.hid (HQ2.out.below hbx)
      have HQ1 := Lib.hid (show Lns y4 (some ⟨y3.heap.size, 0, none⟩) 1 1 [⟨A1, n1, c1, L⟩] from by rw [← hYn]; exact one_lns17 HZ1.out)
      rw [hYn]
      clear hYn
      clear hbx
      refine hKq.out _ _ hS4 (fun hHeld0 => ?_)
      clear hKq Kq hHeld
      have hHeld := hHeld0
      clear hHeld0
      try simp only [PT]
      refine one_step 8 (by kernel_rfl) rfl (fun Kq hKq => ?_)
      go_simp
      go_at_call 19
      (with_reducible refine (rrows_any _ _ _ _ _ _ _ _ _ HQ1.out HQ2.out).mono ?_)
      rintro e y5 ⟨he, hbx⟩
      obtain rfl : e = .returned (.bool true) := by rw [he]; simp
      clear he
      have hS5 : Below WB.heap.size WB y5 := hS4.trans (hbx.mono hS4.size)
      have HI1 := Lib.hid (HI1.out.below hbx)
      have HI2 := Lib.hid (HI2.out.below hbx)
      have HQ2 := Lib.hid (HQ2.out.below hbx)
      have HQ1 := Lib.hid (HQ1.out.below hbx)
      clear hbx
      refine hKq.out _ _ hS5 (fun hHeld0 => ?_)
      clear hKq Kq hHeld
      have hHeld := hHeld0
      clear hHeld0
      try simp only [PT]
      refine tk 9 (.bool true) hHeld (fun w => ?_) ?_
      · go_simp
      simp only [PT]
      refine wpAnyH_done (by kernel_rfl) ?_ _
      clear hHeld
      have HX9 := Lib.hid (HX3.out.trans (hS5.mono HX3.out.size))
      have HZ9 := Lib.hid (HY3.out.trans (hS5.mono HY3.out.size))
      go_wp2_with (first
        | (go_at_call 21
           (with_reducible refine (HTN.out _).mono ?_)
           rintro e w10 ⟨rfl, hbx⟩
           have HX10 := Lib.hid (HX9.out.trans (hbx.mono HX9.out.size))
           have HZ10 := Lib.hid (HZ9.out.trans (hbx.mono HZ9.out.size))
           obtain ⟨m0, m1, m2, m3, m4, m5, m6, m7, m8, m9⟩ := (HBS.out _ HX10.out).cells
           clear hbx)
        | (go_at_call 22
           (with_reducible refine (HMS.out _ HX10.out).mono ?_)
           rintro e w11 ⟨rfl, hbx⟩
           have HX11 := Lib.hid (HX10.out.trans (hbx.mono HX10.out.size))
           have HZ11 := Lib.hid (HZ10.out.trans (hbx.mono HZ10.out.size))
           obtain ⟨n0, n1, n2, n3, n4, n5, n6, n7, n8, n9⟩ := (HG3.out _ HZ11.out).cells
           clear hbx)
        | (go_at_call 22
           (with_reducible refine (HMT.out _ HX11.out).mono ?_)
           rintro e w12 ⟨rfl, hbx⟩
           have HX12 := Lib.hid (HX11.out.trans (hbx.mono HX11.out.size))
           have HZ12 := Lib.hid (HZ11.out.trans (hbx.mono HZ11.out.size))
           obtain ⟨o0, o1, o2, o3, o4, o5, o6, o7, o8, o9⟩ := (HG3.out _ HZ12.out).cells
           obtain ⟨p0, p1, p2, p3, p4, p5, p6, p7, p8, p9⟩ := (HBS.out _ HX12.out).cells
           obtain ⟨s1, s2, s3, s4, s5⟩ := HSM.out
           clear hbx))
      go_ret
      exact ⟨by first | rfl | simp, HB0.out.trans (HX12.out.mono HB0.out.size)⟩
set_option maxHeartbeats 16000000 in
theorem fstays_any (HO : SafOk) (HN : StgOk) (HT : LmpText) (A : Option Addr) (n c : Nat) (l : List Pl) (s : Sg) (k a : Int) (w : World) (hl : Pls w A n c l) (hts : SmG s) (HR : TurnsOk) :
    Calls Try.prog 4 #[.slice A n c, sgV s, .int .i64 k, .int .i64 a] w fun e w' => e = .returned (.bool true) ∧ Below w.heap.size w w' := by
  cases hfw : fewAllB l with
  | false =>
    have hsm := hl.small
    have hlen := hl.len
    simp only [sgV]
    obtain ⟨W0, hW0⟩ : ∃ W0, w.alloc (.cells #[.int .i64 s.pl, .int .i64 s.st, .int .i64 s.nx, .int .i64 s.ph, .int .i64 s.t, .int .i64 s.hd, .int .i64 s.hl, .int .i64 s.ak, .int .i64 s.wt, .bool s.sp] 24) = W0 := ⟨_, rfl⟩
    have hB0 : Below w.heap.size w W0 := by rw [← hW0]; exact one_alloc w _
    have hbs : BoxG W0 w.heap.size s := by rw [← hW0]; exact BoxG.new w s
    have HPL := Lib.hid (show ∀ X, Below W0.heap.size W0 X → Pls X A n c l from fun X hX => (hl.below hB0).below hX)
    have HBS := Lib.hid (show ∀ X, Below W0.heap.size W0 X → BoxG X w.heap.size s from fun X hX => hbs.below hX)
    have HLL := Lib.hid hlen
    have HB0 := Lib.hid hB0
    have HW := Lib.hid hW0
    have HAW := Lib.hid (sawake17_any HO HN HT W0)
    have HFW := Lib.hid (fun X hX => pfewall_any A n c l X (HPL.out X hX))
    clear hW0 hB0 hbs hl
    rw [hfw] at HFW
    clear hfw
    go_enter Try.func4, Try.ntmps4
    go_wp2_with (first
        | (go_at_call 10
           rw [HW.out]
           (with_reducible refine (HAW.out).mono ?_)
           rintro e w1 ⟨rfl, hbx⟩
           have HX1 := Lib.hid hbx
           clear hbx)
        | (go_at_call 11
           (with_reducible refine (HFW.out _ HX1.out).mono ?_)
           rintro e w2 ⟨rfl, hbx⟩
           have HX2 := Lib.hid (HX1.out.trans (hbx.mono HX1.out.size))
           obtain ⟨a0, a1, a2, a3, a4, a5, a6, a7, a8, a9⟩ := (HBS.out w2 HX2.out).cells
           clear hbx))
    go_ret
    exact ⟨rfl, HB0.out.trans (HX2.out.mono HB0.out.size)⟩
  | true =>
  rcases do_ways l s k a with ⟨e, he, hd⟩ | ⟨t, hd, htn, hms, hmt, hst⟩
  · exact fstays_e HO HN HT A n c l s k a w hl hts hfw e he hd
  · exact fstays_o HO HN HT A n c l s k a w hl hts HR hfw t hd htn hms hmt hst
end Go.Proofs.Ytgnhmdfajnnkhaa

