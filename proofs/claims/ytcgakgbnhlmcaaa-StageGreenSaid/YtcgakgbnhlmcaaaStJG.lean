/- Joined texts: What package stage does: contracts that its own walks must bring; the chapter's example over them. '==' between two machines. What package lamp does: contracts that its own walks must bring; the chapter's example over them. Pure facts of lamps, for the laws. Ticks, and more ticks. A row of lamps in a list of its own. The law StageTells: the walk. -/
import Derived.Test.YtcgakgbnhlmcaaaStJE
import Derived.Test.YtcgakgbnhlmcaaaStJF
import Derived.Test.YtcgakgbnhlmcaaaStJB
/- What package stage does: contracts that its own walks must bring; the chapter's example over them. -/
namespace Go.Proofs.Ytcgakgbnhlmcaaa
set_option maxRecDepth 100000
set_option linter.unusedVariables false
set_option linter.unusedSimpArgs false
open Go.RowKit

structure StgOk : Prop where
  new : ∀ (X : World), Calls Try.prog 20 #[] X (GivesG newG X)
  may : ∀ (A : Option Addr) (n c : Nat) (l : List Pl) (s : Sg) (X : World), Pls X A n c l → SmG s → n ≤ 1000 → (∀ p ∈ l, p.n ≤ 1000 ∧ p.k ≤ 1000) → Calls Try.prog 17 #[.slice A n c, sgV s] X fun e w' => e = .returned (.bool (mayS l s)) ∧ Below X.heap.size X w'
  tick : ∀ (A : Option Addr) (n c : Nat) (l : List Pl) (s : Sg) (X : World), Pls X A n c l → SmG s → n ≤ 1000 → (∀ p ∈ l, p.n ≤ 1000 ∧ p.k ≤ 1000) → Calls Try.prog 18 #[.slice A n c, sgV s] X (GivesG (tickS l s) X)
  lamps : ∀ (A : Option Addr) (n c : Nat) (l : List Pl) (s : Sg) (X : World), Pls X A n c l → SmG s → n ≤ 1000 → (∀ p ∈ l, p.n ≤ 1000 ∧ p.k ≤ 1000) → Calls Try.prog 15 #[.slice A n c, sgV s] X (GivesL (lampsS l s) X)
  run : ∀ (A : Option Addr) (n c : Nat) (l : List Pl) (s : Sg) (x : Int) (X : World), Pls X A n c l → SmG s → n ≤ 1000 → (∀ p ∈ l, p.n ≤ 1000 ∧ p.k ≤ 1000) → Calls Try.prog 12 #[.slice A n c, sgV s, .int .i64 x] X (GivesGL (runG l s x) (runL l s x) X)
/-- what it takes of package lamp -/
structure LmpText : Prop where
  text : ∀ (A : Option Addr) (n c : Nat) (l : List Int) (X : World), Its .i64 X A n c l → n ≤ 1000 → Calls Try.prog 26 #[.slice A n c] X fun e w' => e = .returned (.string (textR l)) ∧ Below X.heap.size X w'
structure LmpClash : Prop where
  may : ∀ (A : Option Addr) (n c : Nat) (l : List Int) (X : World), Its .i64 X A n c l → n ≤ 1000 → Calls Try.prog 22 #[.slice A n c] X fun e w' => e = .returned (.bool (mayR l)) ∧ Below X.heap.size X w'
  clash : ∀ (p : Pl) (A : Option Addr) (n c : Nat) (l : List Int) (X : World), PlIn X p → Its .i64 X A n c l → p.n ≤ 1000 → p.k ≤ 1000 → n ≤ 1000 → Calls Try.prog 23 #[plV p, .slice A n c] X fun e w' => e = .returned (.bool (clashR p l)) ∧ Below X.heap.size X w'
structure AllOk : Prop where
  all : ∀ (A : Option Addr) (n c : Nat) (l : List Pl) (X : World), Pls X A n c l → n ≤ 1000 → (∀ p ∈ l, p.n ≤ 1000 ∧ p.k ≤ 1000) → Calls Try.prog 24 #[.slice A n c] X fun e w' => e = .returned (.bool (allP l)) ∧ Below X.heap.size X w'
theorem sg_text_gr : textR [2, 0] = ⟨#[103, 114]⟩ := by decide +kernel
theorem sg_text_rr : textR [0, 0] = ⟨#[114, 114]⟩ := by decide +kernel
theorem two_run {p : Pl} (h : IsTwo p) : runG [p] newG 7 = endG ∧ runL [p] newG 7 = [[0, 0], [2, 0], [2, 0], [2, 0], [2, 0], [2, 0], [2, 0]] := by
  rw [is_two h, runG, runL, if_pos (two_runok _ _ _ _), if_pos (two_runok _ _ _ _)]
  exact ⟨two_ticks _ _ _ _, two_rows _ _ _ _⟩
theorem row_of {w : World} {A : Option Addr} {n c : Nat} {r : List Rw} {L : List (List Int)} (h : Lns w A n c r) (hL : r.map Rw.l = L) {j : Nat} {x : List Int} (hx : L[j]? = some x) : ∃ (b off : Nat) (q : Rw), A = some ⟨b, off, none⟩ ∧ q.l = x ∧ (∀ X, Below w.heap.size w X → Its .i64 X q.A q.n q.c x ∧ X.cell? ⟨b, off + j, none⟩ = some (.slice q.A q.n q.c)) := by
  have hj : j < n := by
    rw [← h.len, ← List.length_map (f := Rw.l), hL]
    exact (List.getElem?_eq_some_iff.1 hx).1
  obtain ⟨b, off, q, hA, hq, hm, hg, hi, hz⟩ := h.at_ j hj
  have hl : q.l = x := by
    have h1 : (r.map Rw.l)[j]? = some q.l := by rw [List.getElem?_map, hg]; rfl
    rw [hL, hx] at h1
    exact (Option.some.inj h1).symm
  refine ⟨b, off, q, hA, hl, fun X hX => ?_⟩
  obtain ⟨b2, off2, q2, hA2, hq2, -, -, hi2, hz2⟩ := (h.below hX).at_ j hj
  rw [hA] at hA2
  cases hA2
  obtain rfl := hq.symm.trans hq2
  exact ⟨by rw [← hl]; exact hi2, hz2⟩
set_option maxHeartbeats 8000000 in
theorem sawake16_any (HO : StgOk) (HL : LmpText) (w : World) : Calls Try.prog 9 #[] w fun e w' => e = .returned (.bool true) ∧ Below w.heap.size w w' := by
  have HT0 := Lib.hid (fun A n c X (hI : Its .i64 X A n c [0, 0]) => HL.text A n c [0, 0] X hI (by rw [← hI.len]; decide))
  have HT1 := Lib.hid (fun A n c X (hI : Its .i64 X A n c [2, 0]) => HL.text A n c [2, 0] X hI (by rw [← hI.len]; decide))
  rw [sg_text_rr] at HT0
  rw [sg_text_gr] at HT1
  have HNW := Lib.hid HO.new
  simp only [GivesG, sgV, newG] at HNW
  go_enter Try.func9, Try.ntmps9
  go_wp2_with (first
    | (go_at_call 25
       (with_reducible refine (two_any _).mono ?_)
       rintro e w1 ⟨p, rfl, ht, hp, hb⟩
       obtain ⟨W, hW⟩ : ∃ W, w1.alloc (.cells #[.slice p.A p.n p.c, .slice p.B p.k p.d, .int .i64 p.am, .int .i64 p.rd, .int .i64 p.hd] 39) = W := ⟨_, rfl⟩
       have hB1 : Below w1.heap.size w1 W := by rw [← hW]; exact one_alloc w1 _
       have hpl : Pls W (some ⟨w1.heap.size, 0, none⟩) 1 1 [p] := by rw [← hW]; exact pls_one w1 p hp
       have hmem : ∀ q ∈ [p], q.n ≤ 1000 ∧ q.k ≤ 1000 := fun q hq => by rw [List.mem_singleton.1 hq, ht.n, ht.k]; omega
       have HRN := Lib.hid (fun X (hX : Below W.heap.size W X) => HO.run (some ⟨w1.heap.size, 0, none⟩) 1 1 [p] newG 7 X (hpl.below hX) (by decide) (by omega) hmem)
       have HMY := Lib.hid (fun X (hX : Below W.heap.size W X) => HO.may (some ⟨w1.heap.size, 0, none⟩) 1 1 [p] endG X (hpl.below hX) (by decide) (by omega) hmem)
       have HLP := Lib.hid (fun X (hX : Below W.heap.size W X) => HO.lamps (some ⟨w1.heap.size, 0, none⟩) 1 1 [p] endG X (hpl.below hX) (by decide) (by omega) hmem)
       rw [(two_run ht).1, (two_run ht).2] at HRN
       rw [is_two ht, two_may] at HMY
       rw [is_two ht, two_lamps] at HLP
       have HB1 := Lib.hid (hb.trans (hB1.mono hb.size))
       have HW := Lib.hid hW
       clear hb hW hB1 hpl hmem hp ht
       simp only [GivesGL, sgV, newG, endG] at HRN HMY HLP
       simp only [plV])
    | (go_at_call 20
       rw [HW.out]
       (with_reducible refine (HNW.out _).mono ?_)
       rintro e w2 ⟨rfl, hbx⟩
       have HX2 := Lib.hid hbx
       clear hbx
       try simp only [sgV])
    | (go_at_call 12
       (with_reducible refine (HRN.out _ HX2.out).mono ?_)
       rintro e w3 ⟨A3, n3, c3, r3, rfl, hl3, hr3, hbx⟩
       have HX3 := Lib.hid (HX2.out.trans (hbx.mono HX2.out.size))
       obtain rfl : n3 = 7 := by rw [← hl3.len, ← List.length_map (f := Rw.l), hr3]; rfl
       obtain ⟨b3, o3, q0, rfl, e0, hq0⟩ := row_of hl3 hr3 (j := 0) (x := [0, 0]) rfl
       obtain ⟨b4, o4, q1, e4, e1, hq1⟩ := row_of hl3 hr3 (j := 1) (x := [2, 0]) rfl
       cases e4
       obtain ⟨b5, o5, q6, e5, e6, hq6⟩ := row_of hl3 hr3 (j := 6) (x := [2, 0]) rfl
       cases e5
       have hbw := one_alloc w3 (.cells #[.int .i64 0, .int .i64 0, .int .i64 0, .int .i64 0, .int .i64 5, .int .i64 0, .int .i64 0, .int .i64 (-1), .int .i64 (-1), .bool false] 24)
       have hbg : BoxG (w3.alloc (.cells #[.int .i64 0, .int .i64 0, .int .i64 0, .int .i64 0, .int .i64 5, .int .i64 0, .int .i64 0, .int .i64 (-1), .int .i64 (-1), .bool false] 24)) w3.heap.size endG := heap_alloc_new w3 _
       have HX4 := Lib.hid (HX3.out.trans (hbw.mono HX3.out.size))
       have HQ := Lib.hid (show ∀ X, Below (w3.alloc (.cells #[.int .i64 0, .int .i64 0, .int .i64 0, .int .i64 0, .int .i64 5, .int .i64 0, .int .i64 0, .int .i64 (-1), .int .i64 (-1), .bool false] 24)).heap.size (w3.alloc (.cells #[.int .i64 0, .int .i64 0, .int .i64 0, .int .i64 0, .int .i64 5, .int .i64 0, .int .i64 0, .int .i64 (-1), .int .i64 (-1), .bool false] 24)) X → Its .i64 X q0.A q0.n q0.c [0, 0] ∧ Its .i64 X q1.A q1.n q1.c [2, 0] ∧ Its .i64 X q6.A q6.n q6.c [2, 0] from fun X hX =>
         ⟨(hq0 X (hbw.trans (hX.mono hbw.size))).1, (hq1 X (hbw.trans (hX.mono hbw.size))).1, (hq6 X (hbw.trans (hX.mono hbw.size))).1⟩)
       have HF := Lib.hid (show ∀ X, Below (w3.alloc (.cells #[.int .i64 0, .int .i64 0, .int .i64 0, .int .i64 0, .int .i64 5, .int .i64 0, .int .i64 0, .int .i64 (-1), .int .i64 (-1), .bool false] 24)).heap.size (w3.alloc (.cells #[.int .i64 0, .int .i64 0, .int .i64 0, .int .i64 0, .int .i64 5, .int .i64 0, .int .i64 0, .int .i64 (-1), .int .i64 (-1), .bool false] 24)) X → X.cell? ⟨w3.heap.size, 0, none⟩ = some (.int .i64 0) ∧ X.cell? ⟨w3.heap.size, 1, none⟩ = some (.int .i64 0) ∧ X.cell? ⟨w3.heap.size, 2, none⟩ = some (.int .i64 0) ∧ X.cell? ⟨w3.heap.size, 3, none⟩ = some (.int .i64 0) ∧ X.cell? ⟨w3.heap.size, 4, none⟩ = some (.int .i64 5) ∧ X.cell? ⟨w3.heap.size, 5, none⟩ = some (.int .i64 0) ∧ X.cell? ⟨w3.heap.size, 6, none⟩ = some (.int .i64 0) ∧ X.cell? ⟨w3.heap.size, 7, none⟩ = some (.int .i64 (-1)) ∧ X.cell? ⟨w3.heap.size, 8, none⟩ = some (.int .i64 (-1)) ∧ X.cell? ⟨w3.heap.size, 9, none⟩ = some (.bool false) ∧ X.cell? ⟨b3, o3, none⟩ = some (.slice q0.A q0.n q0.c) ∧ X.cell? ⟨b3, o3 + 1, none⟩ = some (.slice q1.A q1.n q1.c) ∧ X.cell? ⟨b3, o3 + 6, none⟩ = some (.slice q6.A q6.n q6.c) from fun X hX => by
         obtain ⟨y0, y1, y2, y3, y4, y5, y6, y7, y8, y9⟩ := (hbg.below hX).cells
         have hX2 := hbw.trans (hX.mono hbw.size)
         exact ⟨y0, y1, y2, y3, y4, y5, y6, y7, y8, y9, (hq0 X hX2).2, (hq1 X hX2).2, (hq6 X hX2).2⟩)
       clear hbx hl3 hr3 e0 e1 e6 hq0 hq1 hq6 hbg hbw
       try simp only [sgV, endG])
    | (go_at_call 17
       (with_reducible refine (HMY.out _ HX4.out).mono ?_)
       rintro e w5 ⟨rfl, hbx⟩
       have HX5 := Lib.hid hbx
       obtain ⟨c0, c1, c2, c3', c4, c5, c6, c7, c8, c9, r0, r1, r6⟩ := HF.out w5 HX5.out
       clear hbx)
    | (go_at_call 26
       (with_reducible refine (HT0.out q0.A q0.n q0.c _ (HQ.out _ HX5.out).1).mono ?_)
       rintro e w6 ⟨rfl, hbx⟩
       have HX6 := Lib.hid (HX5.out.trans (hbx.mono HX5.out.size))
       obtain ⟨c0, c1, c2, c3, c4, c5, c6, c7, c8, c9, r0, r1, r6⟩ := HF.out w6 HX6.out
       clear hbx)
    | (go_at_call 26
       (with_reducible refine (HT1.out q1.A q1.n q1.c _ (HQ.out _ HX6.out).2.1).mono ?_)
       rintro e w7 ⟨rfl, hbx⟩
       have HX7 := Lib.hid (HX6.out.trans (hbx.mono HX6.out.size))
       obtain ⟨c0, c1, c2, c3, c4, c5, c6, c7, c8, c9, r0, r1, r6⟩ := HF.out w7 HX7.out
       clear hbx)
    | (go_at_call 26
       (with_reducible refine (HT1.out q6.A q6.n q6.c _ (HQ.out _ HX7.out).2.2).mono ?_)
       rintro e w8 ⟨rfl, hbx⟩
       have HX8 := Lib.hid (HX7.out.trans (hbx.mono HX7.out.size))
       obtain ⟨c0, c1, c2, c3, c4, c5, c6, c7, c8, c9, r0, r1, r6⟩ := HF.out w8 HX8.out
       clear hbx)
    | (go_at_call 15
       (with_reducible refine (HLP.out _ (HX4.out.trans (HX8.out.mono HX4.out.size))).mono ?_)
       rintro e w9 ⟨A9, n9, c9', rfl, hi9, hbx⟩
       have HX9 := Lib.hid (HX8.out.trans (hbx.mono HX8.out.size))
       have HI9 := Lib.hid hi9
       clear hbx hi9)
    | (go_at_call 26
       (with_reducible refine (HT1.out A9 n9 c9' _ HI9.out).mono ?_)
       rintro e w10 ⟨rfl, hbx⟩
       have HX10 := Lib.hid (HX9.out.trans (hbx.mono HX9.out.size))
       clear hbx))
  go_ret
  exact ⟨rfl, HB1.out.trans ((HX4.out.trans (HX10.out.mono HX4.out.size)).mono HB1.out.size)⟩
end Go.Proofs.Ytcgakgbnhlmcaaa


/- '==' between two machines. -/
namespace Go.Proofs.Ytcgakgbnhlmcaaa
set_option maxRecDepth 100000
set_option linter.unusedVariables false
set_option linter.unusedSimpArgs false
open Go.RowKit

theorem sig_part_bool {P : Program} (t : TypeId) (cs : Array Value) (off : Nat) (v : Value) (h : P.underlying t = some .bool) (hv : cs[off]? = some v) (w : World) : (part t cs off).run P w = .ok v w := by
  simp [part, isAgg, run_underlying h, hv, go_sem]
set_option maxHeartbeats 4000000 in
theorem eq_sigs (f g : Sg) (w : World) : (Op.equalIn 10000 24 (sgV f) (sgV g)).run Try.prog w = .ok (decide (f = g)) w := by
  simp only [sgV]
  rw [run_equalIn_struct w 9999 24 _ _ (by kernel_rfl) (by kernel_rfl)]
  unfold Program.fieldsOf
  rw [Try.underlying24]
  have i3 := Try.underlying3
  have i4 := Try.underlying4
  dsimp only
  have hd : decide (f = g) = (f.pl == g.pl && (f.st == g.st && (f.nx == g.nx && (f.ph == g.ph && (f.t == g.t && (f.hd == g.hd && (f.hl == g.hl && (f.ak == g.ak && (f.wt == g.wt && (f.sp == g.sp)))))))))) := by
    rcases f with ⟨a0, a1, a2, a3, a4, a5, a6, a7, a8, a9⟩
    rcases g with ⟨b0, b1, b2, b3, b4, b5, b6, b7, b8, b9⟩
    rw [Bool.eq_iff_iff]
    simp
  rw [hd]
  rw [stg_fields (by decide) (stg_part _ _ _ _ (.int .i64 f.pl) i3 rfl w) (stg_part _ _ _ _ (.int .i64 g.pl) i3 rfl w) (run_equalIn_int w 9998 _ _ _ _ _ i3),
    stg_fields (by decide) (stg_part _ _ _ _ (.int .i64 f.st) i3 rfl w) (stg_part _ _ _ _ (.int .i64 g.st) i3 rfl w) (run_equalIn_int w 9998 _ _ _ _ _ i3),
    stg_fields (by decide) (stg_part _ _ _ _ (.int .i64 f.nx) i3 rfl w) (stg_part _ _ _ _ (.int .i64 g.nx) i3 rfl w) (run_equalIn_int w 9998 _ _ _ _ _ i3),
    stg_fields (by decide) (stg_part _ _ _ _ (.int .i64 f.ph) i3 rfl w) (stg_part _ _ _ _ (.int .i64 g.ph) i3 rfl w) (run_equalIn_int w 9998 _ _ _ _ _ i3),
    stg_fields (by decide) (stg_part _ _ _ _ (.int .i64 f.t) i3 rfl w) (stg_part _ _ _ _ (.int .i64 g.t) i3 rfl w) (run_equalIn_int w 9998 _ _ _ _ _ i3),
    stg_fields (by decide) (stg_part _ _ _ _ (.int .i64 f.hd) i3 rfl w) (stg_part _ _ _ _ (.int .i64 g.hd) i3 rfl w) (run_equalIn_int w 9998 _ _ _ _ _ i3),
    stg_fields (by decide) (stg_part _ _ _ _ (.int .i64 f.hl) i3 rfl w) (stg_part _ _ _ _ (.int .i64 g.hl) i3 rfl w) (run_equalIn_int w 9998 _ _ _ _ _ i3),
    stg_fields (by decide) (stg_part _ _ _ _ (.int .i64 f.ak) i3 rfl w) (stg_part _ _ _ _ (.int .i64 g.ak) i3 rfl w) (run_equalIn_int w 9998 _ _ _ _ _ i3),
    stg_fields (by decide) (stg_part _ _ _ _ (.int .i64 f.wt) i3 rfl w) (stg_part _ _ _ _ (.int .i64 g.wt) i3 rfl w) (run_equalIn_int w 9998 _ _ _ _ _ i3),
    stg_fields (by decide) (sig_part_bool _ _ _ (.bool f.sp) i4 rfl w) (sig_part_bool _ _ _ (.bool g.sp) i4 rfl w) (run_equalIn_bool w 9998 _ _ _ i4)]
  simp only [Op.eqFields, Sem.run_pure, stg_if, Bool.and_true]
theorem run_eq_sig {ρ : Operand → Value} {o : Oper} {x y : Operand} {f g : Sg} {w : World} (ho : o.op = .binOp .eql 24 x y 24) (hx : ρ x = sgV f) (hy : ρ y = sgV g) :
    (execOp ρ o).run Try.prog w = .ok (.value (.bool (decide (f = g)))) w := by
  unfold execOp
  rw [ho]
  have hm : Try.prog.eqGuardType Try.prog.depth 24 = false := by kernel_rfl
  have hE := eq_sigs f g w
  simp only [sgV] at hx hy hE
  simp only [hx, hy, Sem.run_bind, run_eqGuard_agg (hm := hm), run_eql_struct, hE, Result.andThen_ok, Sem.run_pure, Sem.run_map]
theorem wpList_eq_sig {ops : Array Oper} {rest : List Oper} {o : Oper} {a : Act} {w : World} {Q : Exit → Act → World → Prop} (x y : Operand) (ho : o.op = .binOp .eql 24 x y 24) (f g : Sg) (hx : a.eval x = sgV f) (hy : a.eval y = sgV g)
    (h : wpList Try.prog ops Q rest (a.put o.dst (.bool (decide (f = g)))) w) (hw : Region.wanted o (yielded ops a.tmps) = true) : wpList Try.prog ops Q (o :: rest) a w :=
  wpList_step fun K hK => by
    rw [if_pos hw]
    unfold Oper.wp
    rw [run_eq_sig ho hx hy]
    exact hK _ _ h
end Go.Proofs.Ytcgakgbnhlmcaaa


/- What package lamp does: contracts that its own walks must bring; the chapter's example over them. -/
namespace Go.Proofs.Ytcgakgbnhlmcaaa
set_option maxRecDepth 100000
set_option linter.unusedVariables false
set_option linter.unusedSimpArgs false
open Go.RowKit

end Go.Proofs.Ytcgakgbnhlmcaaa


/- Pure facts of lamps, for the laws. -/
namespace Go.Proofs.Ytcgakgbnhlmcaaa
set_option maxRecDepth 100000
set_option linter.unusedVariables false
set_option linter.unusedSimpArgs false
open Go.RowKit

theorem show_is {p : Pl} {k : Nat} {ph : Int} (hf : fitP p = true) (hk : k < p.s.length) (h0 : 0 ≤ ph) (h3 : ph < 3) : showR p (k : Int) ph = (List.range p.m.length).map (lampP (p.s.getD k Stg.zero).g ph) := by
  rw [showR, if_pos ⟨hf, ⟨by omega, by omega⟩, h0, h3⟩, Int.toNat_natCast]
theorem lamp_ok (t ph : Int) (g : Nat) : 0 ≤ lampP t ph g ∧ lampP t ph g < 3 := by
  unfold lampP
  split
  · omega
  · split <;> omega
theorem lamp_in {t ph : Int} {g : Nat} (h : lampP t ph g ≠ 0) : bitI t g = true := by
  unfold lampP at h
  split at h
  · rename_i h1; exact h1.1
  · split at h
    · rename_i h1; exact h1.1
    · exact absurd rfl h
theorem rows_getD (n : Nat) (f : Nat → Int) {g : Nat} (h : g < n) : ((List.range n).map f).getD g 0 = f g := by
  rw [List.getD_eq_getElem?_getD, List.getElem?_map, List.getElem?_range h]
  rfl
theorem show_may {p : Pl} {k : Nat} {ph : Int} (hf : fitP p = true) (hk : k < p.s.length) (h0 : 0 ≤ ph) (h3 : ph < 3) : mayR (showR p (k : Int) ph) = true := by
  obtain ⟨h1, -⟩ := may_all (fit_iff.1 hf).may
  rw [show_is hf hk h0 h3, may_iff]
  refine ⟨by simpa using h1, fun x hx => ?_⟩
  obtain ⟨g, -, rfl⟩ := List.mem_map.1 hx
  exact lamp_ok _ _ _
theorem show_free {p : Pl} {k : Nat} {ph : Int} (hf : fitP p = true) (hk : k < p.s.length) (h0 : 0 ≤ ph) (h3 : ph < 3) : clashR p (showR p (k : Int) ph) = false := clash_not fun hz => by
  obtain ⟨-, -, hl, g, hg, h, hh, hm, n1, n2⟩ := hz
  rw [hl] at hg hh
  rw [show_is hf hk h0 h3, rows_getD _ _ hg] at n1
  rw [show_is hf hk h0 h3, rows_getD _ _ hh] at n2
  have hmem : p.s.getD k Stg.zero ∈ p.s := by rw [List.getD_eq_getElem?_getD, List.getElem?_eq_getElem hk]; exact List.getElem_mem hk
  obtain ⟨f1, -⟩ := (fit_iff.1 hf).stage _ hmem
  exact (free_iff.1 f1).2.2 g hg h hh ⟨lamp_in n1, lamp_in n2, hm⟩
theorem show_size {p : Pl} {k : Nat} {ph : Int} (hf : fitP p = true) (hk : k < p.s.length) (h0 : 0 ≤ ph) (h3 : ph < 3) : (showR p (k : Int) ph).length = p.m.length := by
  rw [show_is hf hk h0 h3]; simp
end Go.Proofs.Ytcgakgbnhlmcaaa


/- Ticks, and more ticks. -/
namespace Go.Proofs.Ytcgakgbnhlmcaaa
set_option maxRecDepth 100000
set_option linter.unusedVariables false
set_option linter.unusedSimpArgs false
open Go.RowKit

theorem ticks_add (l : List Pl) (s : Sg) (n : Nat) : ∀ k, ticksS l s (n + k) = ticksS l (ticksS l s n) k
  | 0 => rfl
  | k + 1 => by rw [← Nat.add_assoc, ticksS, ticks_add l s n k, ticksS]
theorem rows_add (l : List Pl) (s : Sg) (n : Nat) : ∀ k, rowsS l s (n + k) = rowsS l s n ++ rowsS l (ticksS l s n) k
  | 0 => by simp [rowsS]
  | k + 1 => by rw [← Nat.add_assoc, rowsS, rows_add l s n k, rowsS, List.append_assoc, Nat.add_assoc, ticks_add]
theorem run_may {l : List Pl} {s : Sg} {n : Int} (h : mayS l s = true) (h0 : 0 ≤ n) (h2 : n ≤ 2000) : runG l s n = ticksS l s n.toNat ∧ runL l s n = rowsS l s n.toNat := by
  have hr : runOk l s n = true := by rw [runOk, h, decide_eq_true ⟨h0, h2⟩]; rfl
  exact ⟨if_pos hr, if_pos hr⟩
theorem run_not {l : List Pl} {s : Sg} {n : Int} (h : mayS l s = false) : runG l s n = s ∧ runL l s n = [] := by
  have hr : ¬ runOk l s n = true := by rw [runOk, h]; simp
  exact ⟨if_neg hr, if_neg hr⟩
theorem run_add {l : List Pl} {s : Sg} {n k : Int} (h0 : 0 ≤ n) (h1 : n ≤ 60) (k0 : 0 ≤ k) (k1 : k ≤ 60) : runG l (runG l s n) k = runG l s (n + k) ∧ runL l s (n + k) = runL l s n ++ runL l (runG l s n) k ∧ ((runL l s (n + k)).length : Int) ≤ n + k := by
  cases hm : mayS l s
  · rw [(run_not hm).1, (run_not hm).1, (run_not hm).1, (run_not hm).2, (run_not hm).2, (run_not hm).2]
    exact ⟨rfl, rfl, by simp; omega⟩
  · obtain ⟨a, b⟩ := run_may hm h0 (by omega)
    obtain ⟨c, d⟩ := run_may hm (n := n + k) (by omega) (by omega)
    have hm2 : mayS l (ticksS l s n.toNat) = true := mayS_iff.2 (may_ticks (mayS_iff.1 hm) _)
    obtain ⟨e, f⟩ := run_may hm2 k0 (by omega)
    have hs : (n + k).toNat = n.toNat + k.toNat := by omega
    rw [a, b, c, d, e, f, hs, ticks_add, rows_add]
    refine ⟨rfl, rfl, ?_⟩
    rw [List.length_append, rows_len, rows_len]
    omega
theorem run_len (l : List Pl) (s : Sg) (n : Int) : (runL l s n).length ≤ n.toNat := by
  rw [runL]
  split
  · rw [rows_len]; exact Nat.le_refl _
  · exact Nat.zero_le _
theorem run_small {l : List Pl} {s : Sg} {n : Int} (h : SmG s) : SmG (runG l s n) := by
  rw [runG]
  split
  · rename_i hr
    rw [runOk, Bool.and_eq_true] at hr
    exact small_may (may_ticks (mayS_iff.1 hr.1) n.toNat)
  · exact h
theorem tick_small {l : List Pl} {s : Sg} (h : SmG s) : SmG (tickS l s) := by
  by_cases hm : mayS l s = true
  · exact small_may (may_tick (mayS_iff.1 hm))
  · rw [tickS, if_neg hm]; exact h
/-- two lists of rows, one behind the other in a slice of one's own -/
theorem lns_both {w w' : World} {base : Nat} {v : Value} {A B : Option Addr} {n m c d : Nat} {r q : List Rw} (hr : Lns w A n c r) (hq : Lns w B m d q) (ho : OwnR 32 1 w' base v (r.map Rw.row ++ q.map Rw.row)) (hb : Below w.heap.size w w') : ∃ C k e, v = .slice C k e ∧ Lns w' C k e (r ++ q) := by
  obtain ⟨C, k, e, rfl, hrs⟩ := ho.rws
  refine ⟨C, k, e, rfl, by rw [List.map_append]; exact hrs, fun x hx => ?_⟩
  rcases List.mem_append.1 hx with h | h
  · exact (hr.its x h).below hb
  · exact (hq.its x h).below hb
end Go.Proofs.Ytcgakgbnhlmcaaa


/- A row of lamps in a list of its own. -/
namespace Go.Proofs.Ytcgakgbnhlmcaaa
set_option maxRecDepth 100000
set_option linter.unusedVariables false
set_option linter.unusedSimpArgs false
open Go.RowKit

theorem one_lns {w : World} {A : Option Addr} {n c : Nat} {l : List Int} (h : Its .i64 w A n c l) : Lns (w.alloc (.cells #[.slice A n c] 32)) (some ⟨w.heap.size, 0, none⟩) 1 1 [⟨A, n, c, l⟩] :=
  ⟨one_rws 1 32 w [.slice A n c] rfl (fun u hu => by rw [List.mem_singleton.1 hu]; rfl), fun r hr => by rw [List.mem_singleton.1 hr]; exact h.more _⟩
end Go.Proofs.Ytcgakgbnhlmcaaa


/- The law StageTells: the walk. -/
namespace Go.Proofs.Ytcgakgbnhlmcaaa
set_option maxRecDepth 100000
set_option linter.unusedVariables false
set_option linter.unusedSimpArgs false
open Go.RowKit

set_option maxHeartbeats 16000000 in
theorem stells_few (HO : StgOk) (HT : LmpText) (A : Option Addr) (n c : Nat) (l : List Pl) (s : Sg) (x : Int) (w : World) (hl : Pls w A n c l) (hts : SmG s) (hfw : fewAllB l = true) (hx1 : ¬ 60 < x) :
    Calls Try.prog 3 #[.slice A n c, sgV s, .int .i64 x] w fun e w' => e = .returned (.bool true) ∧ Below w.heap.size w w' := by
  have hsm := hl.small
  have hlen := hl.len
  simp only [sgV]
  obtain ⟨W0, hW0⟩ : ∃ W0, w.alloc (.cells #[.int .i64 s.pl, .int .i64 s.st, .int .i64 s.nx, .int .i64 s.ph, .int .i64 s.t, .int .i64 s.hd, .int .i64 s.hl, .int .i64 s.ak, .int .i64 s.wt, .bool s.sp] 24) = W0 := ⟨_, rfl⟩
  have hB0 : Below w.heap.size w W0 := by rw [← hW0]; exact one_alloc w _
  have hbs : BoxG W0 w.heap.size s := by rw [← hW0]; exact BoxG.new w s
  have HPL := Lib.hid (show ∀ X, Below W0.heap.size W0 X → Pls X A n c l from fun X hX => (hl.below hB0).below hX)
  have HBS := Lib.hid (show ∀ X, Below W0.heap.size W0 X → BoxG X w.heap.size s from fun X hX => hbs.below hX)
  have HLL := Lib.hid hlen
  have HB0 := Lib.hid hB0
  have HW := Lib.hid hW0
  have HAW := Lib.hid (sawake16_any HO HT W0)
  have HFW := Lib.hid (fun X hX => pfewall_any A n c l X (HPL.out X hX))
  clear hW0 hB0 hbs hl
  rw [hfw] at HFW
  obtain ⟨hl5, hfp⟩ := fewall_iff.1 hfw
  have hn1000 : n ≤ 1000 := by omega
  have hmem : ∀ p ∈ l, p.n ≤ 1000 ∧ p.k ≤ 1000 := fun p hp => by have := hfp p hp; omega
  have HMY := Lib.hid (fun X hX => HO.may A n c l s X (HPL.out X hX) hts hn1000 hmem)
  have HRM := Lib.hid (fun X hX => rsmay_any A n c l s X (HPL.out X hX) hts)
  have HR1 := Lib.hid (fun X hX => HO.run A n c l s x X (HPL.out X hX) hts hn1000 hmem)
  have HR2 := Lib.hid (fun X hX => rrun_any A n c l s x X (HPL.out X hX) hts)
  have HLA := Lib.hid (fun X hX => HO.lamps A n c l s X (HPL.out X hX) hts hn1000 hmem)
  have HRL := Lib.hid (show ∀ X, Below W0.heap.size W0 X → Calls Try.prog 16 #[.slice A n c, sgV s] X (GivesL (lampsS l s) X) from fun X hX => (rlamps_own A n c l s X (HPL.out X hX) hts).mono fun _ _ h => h.gives)
  have HTK := Lib.hid (fun X hX => HO.tick A n c l s X (HPL.out X hX) hts hn1000 hmem)
  have HRT := Lib.hid (fun X hX => rtick_any A n c l s X (HPL.out X hX) hts)
  have HN1 := Lib.hid (fun X (_ : Below W0.heap.size W0 X) => HO.new X)
  have HN2 := Lib.hid (fun X (_ : Below W0.heap.size W0 X) => rnew_any X)
  obtain ⟨M, hM⟩ : ∃ M, mayS l s = M := ⟨_, rfl⟩
  obtain ⟨g, hg⟩ : ∃ g, runG l s x = g := ⟨_, rfl⟩
  obtain ⟨R, hR⟩ : ∃ R, runL l s x = R := ⟨_, rfl⟩
  obtain ⟨t, ht⟩ : ∃ t, tickS l s = t := ⟨_, rfl⟩
  obtain ⟨L, hL⟩ : ∃ L, lampsS l s = L := ⟨_, rfl⟩
  obtain ⟨m, hm⟩ : ∃ m, newG = m := ⟨_, rfl⟩
  rw [hM] at HMY HRM
  rw [hg, hR] at HR1 HR2
  rw [ht] at HTK HRT
  rw [hL] at HLA HRL
  rw [hm] at HN1 HN2
  simp only [GivesG, GivesGL, sgV] at HMY HRM HR1 HR2 HLA HRL HTK HRT HN1 HN2
  clear hM hg hR ht hL hm hmem hfp hfw
  go_enter Try.func3, Try.ntmps3
  go_wp2_with (first
    | (go_at_call 9
       rw [HW.out]
       (with_reducible refine (HAW.out).mono ?_)
       rintro e w1 ⟨rfl, hbx⟩
       have HX1 := Lib.hid hbx
       clear hbx)
    | (go_at_call 10
       (with_reducible refine (HFW.out _ HX1.out).mono ?_)
       rintro e w2 ⟨rfl, hbx⟩
       have HX2 := Lib.hid (HX1.out.trans (hbx.mono HX1.out.size))
       obtain ⟨a0, a1, a2, a3, a4, a5, a6, a7, a8, a9⟩ := (HBS.out w2 HX2.out).cells
       clear hbx)
    | (go_at_call 11
       (with_reducible refine (HRM.out _ HX2.out).mono ?_)
       rintro e w3 ⟨rfl, hbx⟩
       have HX3 := Lib.hid (HX2.out.trans (hbx.mono HX2.out.size))
       obtain ⟨c0, c1, c2, c3, c4, c5, c6, c7, c8, c9⟩ := (HBS.out w3 HX3.out).cells
       clear hbx)
    | (go_at_call 12
       (with_reducible refine (HR1.out _ HX3.out).mono ?_)
       rintro e w4 ⟨A4, n4, c4', r4, rfl, hl4, hr4, hbx⟩
       have HX4 := Lib.hid (HX3.out.trans (hbx.mono HX3.out.size))
       have hb5 := one_alloc w4 (.cells #[.int .i64 g.pl, .int .i64 g.st, .int .i64 g.nx, .int .i64 g.ph, .int .i64 g.t, .int .i64 g.hd, .int .i64 g.hl, .int .i64 g.ak, .int .i64 g.wt, .bool g.sp] 24)
       have hbg := BoxG.new w4 g
       have HX5 := Lib.hid (HX4.out.trans (hb5.mono HX4.out.size))
       have HG4 := Lib.hid (show ∀ X, Below (w4.alloc (.cells #[.int .i64 g.pl, .int .i64 g.st, .int .i64 g.nx, .int .i64 g.ph, .int .i64 g.t, .int .i64 g.hd, .int .i64 g.hl, .int .i64 g.ak, .int .i64 g.wt, .bool g.sp] 24)).heap.size (w4.alloc (.cells #[.int .i64 g.pl, .int .i64 g.st, .int .i64 g.nx, .int .i64 g.ph, .int .i64 g.t, .int .i64 g.hd, .int .i64 g.hl, .int .i64 g.ak, .int .i64 g.wt, .bool g.sp] 24)) X → BoxG X w4.heap.size g from fun X hX => hbg.below hX)
       have HL4 := Lib.hid (show ∀ X, Below (w4.alloc (.cells #[.int .i64 g.pl, .int .i64 g.st, .int .i64 g.nx, .int .i64 g.ph, .int .i64 g.t, .int .i64 g.hd, .int .i64 g.hl, .int .i64 g.ak, .int .i64 g.wt, .bool g.sp] 24)).heap.size (w4.alloc (.cells #[.int .i64 g.pl, .int .i64 g.st, .int .i64 g.nx, .int .i64 g.ph, .int .i64 g.t, .int .i64 g.hd, .int .i64 g.hl, .int .i64 g.ak, .int .i64 g.wt, .bool g.sp] 24)) X → Lns X A4 n4 c4' r4 from fun X hX => (hl4.below hb5).below hX)
       have HQ4 := Lib.hid hr4
       obtain ⟨d0, d1, d2, d3, d4, d5, d6, d7, d8, d9⟩ := (HBS.out _ HX5.out).cells
       clear hbx hl4 hr4 hb5 hbg
       try simp only [sgV])
    | (go_at_call 13
       (with_reducible refine (HR2.out _ HX5.out).mono ?_)
       rintro e w6 ⟨A6, n6, c6', r6, rfl, hl6, hr6, hbx⟩
       have HX6 := Lib.hid (HX5.out.trans (hbx.mono HX5.out.size))
       have hb7 := one_alloc w6 (.cells #[.int .i64 g.pl, .int .i64 g.st, .int .i64 g.nx, .int .i64 g.ph, .int .i64 g.t, .int .i64 g.hd, .int .i64 g.hl, .int .i64 g.ak, .int .i64 g.wt, .bool g.sp] 24)
       have hbg := BoxG.new w6 g
       have HX7 := Lib.hid (HX6.out.trans (hb7.mono HX6.out.size))
       have HG6 := Lib.hid (show ∀ X, Below (w6.alloc (.cells #[.int .i64 g.pl, .int .i64 g.st, .int .i64 g.nx, .int .i64 g.ph, .int .i64 g.t, .int .i64 g.hd, .int .i64 g.hl, .int .i64 g.ak, .int .i64 g.wt, .bool g.sp] 24)).heap.size (w6.alloc (.cells #[.int .i64 g.pl, .int .i64 g.st, .int .i64 g.nx, .int .i64 g.ph, .int .i64 g.t, .int .i64 g.hd, .int .i64 g.hl, .int .i64 g.ak, .int .i64 g.wt, .bool g.sp] 24)) X → BoxG X w6.heap.size g from fun X hX => hbg.below hX)
       have HL6 := Lib.hid (show ∀ X, Below (w6.alloc (.cells #[.int .i64 g.pl, .int .i64 g.st, .int .i64 g.nx, .int .i64 g.ph, .int .i64 g.t, .int .i64 g.hd, .int .i64 g.hl, .int .i64 g.ak, .int .i64 g.wt, .bool g.sp] 24)).heap.size (w6.alloc (.cells #[.int .i64 g.pl, .int .i64 g.st, .int .i64 g.nx, .int .i64 g.ph, .int .i64 g.t, .int .i64 g.hd, .int .i64 g.hl, .int .i64 g.ak, .int .i64 g.wt, .bool g.sp] 24)) X → Lns X A6 n6 c6' r6 from fun X hX => (hl6.below hb7).below hX)
       have HQ6 := Lib.hid hr6
       have HY6 := Lib.hid (hbx.trans (hb7.mono hbx.size))
       clear hbx hl6 hr6 hb7 hbg
       try simp only [sgV])
    | (go_at_call 14
       (with_reducible refine (rrows_any _ _ _ _ _ _ _ _ _ (HL4.out _ HY6.out) (HL6.out _ (Below.refl _ _))).mono ?_)
       rintro e w8 ⟨he, hbx⟩
       obtain rfl : e = .returned (.bool true) := by rw [he, HQ4.out, HQ6.out]; simp
       have HX8 := Lib.hid (HX7.out.trans (hbx.mono HX7.out.size))
       have HY8 := Lib.hid (HY6.out.trans (hbx.mono HY6.out.size))
       have HZ8 := Lib.hid hbx
       clear hbx he))
  have HF := Lib.hid (show ∀ X, Below w8.heap.size w8 X → X.cell? ⟨w.heap.size, 0, none⟩ = some (.int .i64 s.pl) ∧ X.cell? ⟨w.heap.size, 1, none⟩ = some (.int .i64 s.st) ∧ X.cell? ⟨w.heap.size, 2, none⟩ = some (.int .i64 s.nx) ∧ X.cell? ⟨w.heap.size, 3, none⟩ = some (.int .i64 s.ph) ∧ X.cell? ⟨w.heap.size, 4, none⟩ = some (.int .i64 s.t) ∧ X.cell? ⟨w.heap.size, 5, none⟩ = some (.int .i64 s.hd) ∧ X.cell? ⟨w.heap.size, 6, none⟩ = some (.int .i64 s.hl) ∧ X.cell? ⟨w.heap.size, 7, none⟩ = some (.int .i64 s.ak) ∧ X.cell? ⟨w.heap.size, 8, none⟩ = some (.int .i64 s.wt) ∧ X.cell? ⟨w.heap.size, 9, none⟩ = some (.bool s.sp) ∧ X.cell? ⟨w4.heap.size, 0, none⟩ = some (.int .i64 g.pl) ∧ X.cell? ⟨w4.heap.size, 1, none⟩ = some (.int .i64 g.st) ∧ X.cell? ⟨w4.heap.size, 2, none⟩ = some (.int .i64 g.nx) ∧ X.cell? ⟨w4.heap.size, 3, none⟩ = some (.int .i64 g.ph) ∧ X.cell? ⟨w4.heap.size, 4, none⟩ = some (.int .i64 g.t) ∧ X.cell? ⟨w4.heap.size, 5, none⟩ = some (.int .i64 g.hd) ∧ X.cell? ⟨w4.heap.size, 6, none⟩ = some (.int .i64 g.hl) ∧ X.cell? ⟨w4.heap.size, 7, none⟩ = some (.int .i64 g.ak) ∧ X.cell? ⟨w4.heap.size, 8, none⟩ = some (.int .i64 g.wt) ∧ X.cell? ⟨w4.heap.size, 9, none⟩ = some (.bool g.sp) ∧ X.cell? ⟨w6.heap.size, 0, none⟩ = some (.int .i64 g.pl) ∧ X.cell? ⟨w6.heap.size, 1, none⟩ = some (.int .i64 g.st) ∧ X.cell? ⟨w6.heap.size, 2, none⟩ = some (.int .i64 g.nx) ∧ X.cell? ⟨w6.heap.size, 3, none⟩ = some (.int .i64 g.ph) ∧ X.cell? ⟨w6.heap.size, 4, none⟩ = some (.int .i64 g.t) ∧ X.cell? ⟨w6.heap.size, 5, none⟩ = some (.int .i64 g.hd) ∧ X.cell? ⟨w6.heap.size, 6, none⟩ = some (.int .i64 g.hl) ∧ X.cell? ⟨w6.heap.size, 7, none⟩ = some (.int .i64 g.ak) ∧ X.cell? ⟨w6.heap.size, 8, none⟩ = some (.int .i64 g.wt) ∧ X.cell? ⟨w6.heap.size, 9, none⟩ = some (.bool g.sp) from fun X hX => by
    obtain ⟨a0, a1, a2, a3, a4, a5, a6, a7, a8, a9⟩ := (HBS.out X (HX8.out.trans (hX.mono HX8.out.size))).cells
    obtain ⟨b0, b1, b2, b3, b4, b5, b6, b7, b8, b9⟩ := (HG4.out X (HY8.out.trans (hX.mono HY8.out.size))).cells
    obtain ⟨e0, e1, e2, e3, e4, e5, e6, e7, e8, e9⟩ := (HG6.out X (HZ8.out.trans (hX.mono HZ8.out.size))).cells
    exact ⟨a0, a1, a2, a3, a4, a5, a6, a7, a8, a9, b0, b1, b2, b3, b4, b5, b6, b7, b8, b9, e0, e1, e2, e3, e4, e5, e6, e7, e8, e9⟩)
  have hSd : Below w8.heap.size w8 w8.drew := (Below.refl _ w8).drew
  refine wp_region_held_drew (S := fun X => Below w8.heap.size w8 X) (by kernel_rfl) hSd (fun hHeld => ?_)
  obtain ⟨y0, hY0⟩ : ∃ Y, w8.drew = Y := ⟨_, rfl⟩
  rw [hY0] at hSd hHeld ⊢
  clear hY0
  refine tk 0 (.slice A n c) hHeld (fun w => ?_) ?_
  · go_simp
  simp only [PT]
  refine tkS 1 (.agg #[.int .i64 s.pl, .int .i64 s.st, .int .i64 s.nx, .int .i64 s.ph, .int .i64 s.t, .int .i64 s.hd, .int .i64 s.hl, .int .i64 s.ak, .int .i64 s.wt, .bool s.sp]) hHeld (fun w hq => ?_) ?_
  · obtain ⟨z0, z1, z2, z3, z4, z5, z6, z7, z8, z9, z10, z11, z12, z13, z14, z15, z16, z17, z18, z19, z20, z21, z22, z23, z24, z25, z26, z27, z28, z29⟩ := HF.out w hq
    go_simp
  simp only [PT]
  refine tk 4 (.slice A n c) hHeld (fun w => ?_) ?_
  · go_simp
  simp only [PT]
  refine tkS 5 (.agg #[.int .i64 s.pl, .int .i64 s.st, .int .i64 s.nx, .int .i64 s.ph, .int .i64 s.t, .int .i64 s.hd, .int .i64 s.hl, .int .i64 s.ak, .int .i64 s.wt, .bool s.sp]) hHeld (fun w hq => ?_) ?_
  · obtain ⟨z0, z1, z2, z3, z4, z5, z6, z7, z8, z9, z10, z11, z12, z13, z14, z15, z16, z17, z18, z19, z20, z21, z22, z23, z24, z25, z26, z27, z28, z29⟩ := HF.out w hq
    go_simp
  simp only [PT]
  refine one_step 2 (by kernel_rfl) rfl (fun Kq hKq => ?_)
  go_simp
  go_at_call 15
  (with_reducible refine (HLA.out _ (HX8.out.trans (hSd.mono HX8.out.size))).mono ?_)
  rintro e y1 ⟨A1, n1, c1, rfl, hi1, hbx⟩
  have HI1 := Lib.hid hi1
  clear hi1
  have hS1 : Below w8.heap.size w8 y1 := hSd.trans (hbx.mono hSd.size)
  clear hbx
  refine hKq.out _ _ hS1 (fun hHeld0 => ?_)
  clear hKq Kq hHeld
  have hHeld := hHeld0
  clear hHeld0
  try simp only [PT]
  refine two_steps 3 6 (by kernel_rfl) rfl rfl (fun Kq hKq => ?_) (fun Kq hKq => ?_)
  · have HZ1 := HI1
    go_simp
    obtain ⟨y2, hYn⟩ : ∃ Y, y1.alloc (.cells #[.slice A1 n1 c1] 32) = Y := ⟨_, rfl⟩
    have hbx : Below y1.heap.size y1 y2 := by rw [← hYn]; exact one_alloc _ _
    have hS2 : Below w8.heap.size w8 y2 := hS1.trans (hbx.mono hS1.size)
    have HI1 := Lib.hid (HI1.out.below hbx)
    have HQ1 := Lib.hid (show Lns y2 (some ⟨y1.heap.size, 0, none⟩) 1 1 [⟨A1, n1, c1, L⟩] from by rw [← hYn]; exact one_lns HZ1.out)
    rw [hYn]
    clear hYn
    clear hbx
    refine hKq.out _ _ hS2 (fun hHeld0 => ?_)
    clear hKq Kq hHeld
    have hHeld := hHeld0
    clear hHeld0
    try simp only [PT]
    refine one_step 6 (by kernel_rfl) rfl (fun Kq hKq => ?_)
    go_simp
    go_at_call 16
    (with_reducible refine (HRL.out _ (HX8.out.trans (hS2.mono HX8.out.size))).mono ?_)
    rintro e y3 ⟨A2, n2, c2, rfl, hi2, hbx⟩
    have HI2 := Lib.hid hi2
    clear hi2
    have hS3 : Below w8.heap.size w8 y3 := hS2.trans (hbx.mono hS2.size)
    have HI1 := Lib.hid (HI1.out.below hbx)
    have HQ1 := Lib.hid (HQ1.out.below hbx)
    clear hbx
    refine hKq.out _ _ hS3 (fun hHeld0 => ?_)
    clear hKq Kq hHeld
    have hHeld := hHeld0
    clear hHeld0
    try simp only [PT]
    refine one_step 7 (by kernel_rfl) rfl (fun Kq hKq => ?_)
    have HZ2 := HI2
    go_simp
    obtain ⟨y4, hYn⟩ : ∃ Y, y3.alloc (.cells #[.slice A2 n2 c2] 32) = Y := ⟨_, rfl⟩
    have hbx : Below y3.heap.size y3 y4 := by rw [← hYn]; exact one_alloc _ _
    have hS4 : Below w8.heap.size w8 y4 := hS3.trans (hbx.mono hS3.size)
    have HI1 := Lib.hid (HI1.out.below hbx)
    have HQ1 := Lib.hid (HQ1.out.below hbx)
    have HI2 := Lib.hid (HI2.out.below hbx)
    have HQ2 := Lib.hid (show Lns y4 (some ⟨y3.heap.size, 0, none⟩) 1 1 [⟨A2, n2, c2, L⟩] from by rw [← hYn]; exact one_lns HZ2.out)
    rw [hYn]
    clear hYn
    clear hbx
    refine hKq.out _ _ hS4 (fun hHeld0 => ?_)
    clear hKq Kq hHeld
    have hHeld := hHeld0
    clear hHeld0
    try simp only [PT]
    refine one_step 8 (by kernel_rfl) rfl (fun Kq hKq => ?_)
    go_simp
    go_at_call 14
    (with_reducible refine (rrows_any _ _ _ _ _ _ _ _ _ HQ1.out HQ2.out).mono ?_)
    rintro e y5 ⟨he, hbx⟩
    obtain rfl : e = .returned (.bool true) := by rw [he]; simp
    clear he
    have hS5 : Below w8.heap.size w8 y5 := hS4.trans (hbx.mono hS4.size)
    have HI1 := Lib.hid (HI1.out.below hbx)
    have HQ1 := Lib.hid (HQ1.out.below hbx)
    have HI2 := Lib.hid (HI2.out.below hbx)
    have HQ2 := Lib.hid (HQ2.out.below hbx)
    clear hbx
    refine hKq.out _ _ hS5 (fun hHeld0 => ?_)
    clear hKq Kq hHeld
    have hHeld := hHeld0
    clear hHeld0
    try simp only [PT]
    refine tk 9 (.bool true) hHeld (fun w => ?_) ?_
    · go_simp
    simp only [PT]
    refine wpAnyH_done (by kernel_rfl) ?_ _
    clear hHeld
    go_wp2
    have HX9 := Lib.hid (HX8.out.trans (hS5.mono HX8.out.size))
    have HF9 := Lib.hid (fun X (hX : Below y5.heap.size y5 X) => HF.out X (hS5.trans (hX.mono hS5.size)))
    obtain ⟨W9, hW9⟩ : ∃ W9, y5 = W9 := ⟨_, rfl⟩
    rw [hW9] at HX9 HF9 ⊢
    clear hW9
    have hSd : Below W9.heap.size W9 W9.drew := (Below.refl _ W9).drew
    refine wp_region_held_drew (S := fun X => Below W9.heap.size W9 X) (by kernel_rfl) hSd (fun hHeld => ?_)
    obtain ⟨y0, hY0⟩ : ∃ Y, W9.drew = Y := ⟨_, rfl⟩
    rw [hY0] at hSd hHeld ⊢
    clear hY0
    refine tk 0 (.slice A n c) hHeld (fun w => ?_) ?_
    · go_simp
    simp only [PT]
    refine tkS 1 (.agg #[.int .i64 s.pl, .int .i64 s.st, .int .i64 s.nx, .int .i64 s.ph, .int .i64 s.t, .int .i64 s.hd, .int .i64 s.hl, .int .i64 s.ak, .int .i64 s.wt, .bool s.sp]) hHeld (fun w hq => ?_) ?_
    · obtain ⟨z0, z1, z2, z3, z4, z5, z6, z7, z8, z9, z10, z11, z12, z13, z14, z15, z16, z17, z18, z19, z20, z21, z22, z23, z24, z25, z26, z27, z28, z29⟩ := HF9.out w hq
      go_simp
    simp only [PT]
    refine tk 3 (.bool M) hHeld (fun w => ?_) ?_
    · go_simp
    simp only [PT]
    refine one_step 2 (by kernel_rfl) rfl (fun Kq hKq => ?_)
    go_simp
    go_at_call 17
    (with_reducible refine (HMY.out _ (HX9.out.trans (hSd.mono HX9.out.size))).mono ?_)
    rintro e y1 ⟨rfl, hbx⟩
    have hS1 : Below W9.heap.size W9 y1 := hSd.trans (hbx.mono hSd.size)
    clear hbx
    refine hKq.out _ _ hS1 (fun hHeld0 => ?_)
    clear hKq Kq hHeld
    have hHeld := hHeld0
    clear hHeld0
    try simp only [PT]
    refine tk 4 (.bool true) hHeld (fun w => ?_) ?_
    · (go_simp; try simp)
    simp only [PT]
    refine tk 5 (.bool true) hHeld (fun w => ?_) ?_
    · go_simp
    simp only [PT]
    refine tk 6 (.slice A n c) hHeld (fun w => ?_) ?_
    · go_simp
    simp only [PT]
    refine tkS 7 (.agg #[.int .i64 s.pl, .int .i64 s.st, .int .i64 s.nx, .int .i64 s.ph, .int .i64 s.t, .int .i64 s.hd, .int .i64 s.hl, .int .i64 s.ak, .int .i64 s.wt, .bool s.sp]) hHeld (fun w hq => ?_) ?_
    · obtain ⟨z0, z1, z2, z3, z4, z5, z6, z7, z8, z9, z10, z11, z12, z13, z14, z15, z16, z17, z18, z19, z20, z21, z22, z23, z24, z25, z26, z27, z28, z29⟩ := HF9.out w hq
      go_simp
    simp only [PT]
    refine tk 9 (.slice A n c) hHeld (fun w => ?_) ?_
    · go_simp
    simp only [PT]
    refine tkS 10 (.agg #[.int .i64 s.pl, .int .i64 s.st, .int .i64 s.nx, .int .i64 s.ph, .int .i64 s.t, .int .i64 s.hd, .int .i64 s.hl, .int .i64 s.ak, .int .i64 s.wt, .bool s.sp]) hHeld (fun w hq => ?_) ?_
    · obtain ⟨z0, z1, z2, z3, z4, z5, z6, z7, z8, z9, z10, z11, z12, z13, z14, z15, z16, z17, z18, z19, z20, z21, z22, z23, z24, z25, z26, z27, z28, z29⟩ := HF9.out w hq
      go_simp
    simp only [PT]
    refine one_step 8 (by kernel_rfl) rfl (fun Kq hKq => ?_)
    go_simp
    go_at_call 18
    (with_reducible refine (HTK.out _ (HX9.out.trans (hS1.mono HX9.out.size))).mono ?_)
    rintro e y2 ⟨rfl, hbx⟩
    have hS2 : Below W9.heap.size W9 y2 := hS1.trans (hbx.mono hS1.size)
    clear hbx
    refine hKq.out _ _ hS2 (fun hHeld0 => ?_)
    clear hKq Kq hHeld
    have hHeld := hHeld0
    clear hHeld0
    try simp only [PT]
    refine one_step 11 (by kernel_rfl) rfl (fun Kq hKq => ?_)
    go_simp
    go_at_call 19
    (with_reducible refine (HRT.out _ (HX9.out.trans (hS2.mono HX9.out.size))).mono ?_)
    rintro e y3 ⟨rfl, hbx⟩
    have hS3 : Below W9.heap.size W9 y3 := hS2.trans (hbx.mono hS2.size)
    clear hbx
    refine hKq.out _ _ hS3 (fun hHeld0 => ?_)
    clear hKq Kq hHeld
    have hHeld := hHeld0
    clear hHeld0
    try simp only [PT]
    refine tk 12 (.bool true) hHeld (fun w => ?_) ?_
    · (refine (run_eq_sig (f := t) (g := t) rfl rfl rfl).trans ?_; rw [show decide (t = t) = true from decide_eq_true rfl])
    simp only [PT]
    refine tk 13 (.bool true) hHeld (fun w => ?_) ?_
    · go_simp
    simp only [PT]
    refine tk 14 (.bool true) hHeld (fun w => ?_) ?_
    · go_simp
    simp only [PT]
    refine tkS 15 (.agg #[.int .i64 g.pl, .int .i64 g.st, .int .i64 g.nx, .int .i64 g.ph, .int .i64 g.t, .int .i64 g.hd, .int .i64 g.hl, .int .i64 g.ak, .int .i64 g.wt, .bool g.sp]) hHeld (fun w hq => ?_) ?_
    · obtain ⟨z0, z1, z2, z3, z4, z5, z6, z7, z8, z9, z10, z11, z12, z13, z14, z15, z16, z17, z18, z19, z20, z21, z22, z23, z24, z25, z26, z27, z28, z29⟩ := HF9.out w hq
      go_simp
    simp only [PT]
    refine tkS 16 (.agg #[.int .i64 g.pl, .int .i64 g.st, .int .i64 g.nx, .int .i64 g.ph, .int .i64 g.t, .int .i64 g.hd, .int .i64 g.hl, .int .i64 g.ak, .int .i64 g.wt, .bool g.sp]) hHeld (fun w hq => ?_) ?_
    · obtain ⟨z0, z1, z2, z3, z4, z5, z6, z7, z8, z9, z10, z11, z12, z13, z14, z15, z16, z17, z18, z19, z20, z21, z22, z23, z24, z25, z26, z27, z28, z29⟩ := HF9.out w hq
      go_simp
    simp only [PT]
    refine tk 17 (.bool true) hHeld (fun w => ?_) ?_
    · (refine (run_eq_sig (f := g) (g := g) rfl rfl rfl).trans ?_; rw [show decide (g = g) = true from decide_eq_true rfl])
    simp only [PT]
    refine tk 18 (.bool true) hHeld (fun w => ?_) ?_
    · go_simp
    simp only [PT]
    refine tk 19 (.bool true) hHeld (fun w => ?_) ?_
    · go_simp
    simp only [PT]
    refine tk 20 (.bool true) hHeld (fun w => ?_) ?_
    · go_simp
    simp only [PT]
    refine tk 21 (.bool true) hHeld (fun w => ?_) ?_
    · go_simp
    simp only [PT]
    refine tk 22 (.bool true) hHeld (fun w => ?_) ?_
    · go_simp
    simp only [PT]
    refine tk 23 (.bool true) hHeld (fun w => ?_) ?_
    · go_simp
    simp only [PT]
    refine tk 24 (.bool true) hHeld (fun w => ?_) ?_
    · go_simp
    simp only [PT]
    refine tk 25 (.bool true) hHeld (fun w => ?_) ?_
    · go_simp
    simp only [PT]
    refine one_step 26 (by kernel_rfl) rfl (fun Kq hKq => ?_)
    go_simp
    go_at_call 20
    (with_reducible refine (HN1.out _ (HX9.out.trans (hS3.mono HX9.out.size))).mono ?_)
    rintro e y4 ⟨rfl, hbx⟩
    have hS4 : Below W9.heap.size W9 y4 := hS3.trans (hbx.mono hS3.size)
    clear hbx
    refine hKq.out _ _ hS4 (fun hHeld0 => ?_)
    clear hKq Kq hHeld
    have hHeld := hHeld0
    clear hHeld0
    try simp only [PT]
    refine one_step 27 (by kernel_rfl) rfl (fun Kq hKq => ?_)
    go_simp
    go_at_call 21
    (with_reducible refine (HN2.out _ (HX9.out.trans (hS4.mono HX9.out.size))).mono ?_)
    rintro e y5 ⟨rfl, hbx⟩
    have hS5 : Below W9.heap.size W9 y5 := hS4.trans (hbx.mono hS4.size)
    clear hbx
    refine hKq.out _ _ hS5 (fun hHeld0 => ?_)
    clear hKq Kq hHeld
    have hHeld := hHeld0
    clear hHeld0
    try simp only [PT]
    refine tk 28 (.bool true) hHeld (fun w => ?_) ?_
    · (refine (run_eq_sig (f := m) (g := m) rfl rfl rfl).trans ?_; rw [show decide (m = m) = true from decide_eq_true rfl])
    simp only [PT]
    refine tk 29 (.bool true) hHeld (fun w => ?_) ?_
    · go_simp
    simp only [PT]
    refine tk 30 (.bool true) hHeld (fun w => ?_) ?_
    · go_simp
    simp only [PT]
    refine wpAnyH_done (by kernel_rfl) ?_ _
    clear hHeld
    go_wp2
    go_ret
    exact ⟨rfl, HB0.out.trans ((HX9.out.trans (hS5.mono HX9.out.size)).mono HB0.out.size)⟩
  · go_simp
    go_at_call 16
    (with_reducible refine (HRL.out _ (HX8.out.trans (hS1.mono HX8.out.size))).mono ?_)
    rintro e y2 ⟨A2, n2, c2, rfl, hi2, hbx⟩
    have HI2 := Lib.hid hi2
    clear hi2
    have hS2 : Below w8.heap.size w8 y2 := hS1.trans (hbx.mono hS1.size)
    have HI1 := Lib.hid (HI1.out.below hbx)
    clear hbx
    refine hKq.out _ _ hS2 (fun hHeld0 => ?_)
    clear hKq Kq hHeld
    have hHeld := hHeld0
    clear hHeld0
    try simp only [PT]
    refine two_steps 3 7 (by kernel_rfl) rfl rfl (fun Kq hKq => ?_) (fun Kq hKq => ?_)
    · have HZ1 := HI1
      go_simp
      obtain ⟨y3, hYn⟩ : ∃ Y, y2.alloc (.cells #[.slice A1 n1 c1] 32) = Y := ⟨_, rfl⟩
      have hbx : Below y2.heap.size y2 y3 := by rw [← hYn]; exact one_alloc _ _
      have hS3 : Below w8.heap.size w8 y3 := hS2.trans (hbx.mono hS2.size)
      have HI1 := Lib.hid (HI1.out.below hbx)
      have HI2 := Lib.hid (HI2.out.below hbx)
      have HQ1 := Lib.hid (show Lns y3 (some ⟨y2.heap.size, 0, none⟩) 1 1 [⟨A1, n1, c1, L⟩] from by rw [← hYn]; exact one_lns HZ1.out)
      rw [hYn]
      clear hYn
      clear hbx
      refine hKq.out _ _ hS3 (fun hHeld0 => ?_)
      clear hKq Kq hHeld
      have hHeld := hHeld0
      clear hHeld0
      try simp only [PT]
      refine one_step 7 (by kernel_rfl) rfl (fun Kq hKq => ?_)
      have HZ2 := HI2
      go_simp
      obtain ⟨y4, hYn⟩ : ∃ Y, y3.alloc (.cells #[.slice A2 n2 c2] 32) = Y := ⟨_, rfl⟩
      have hbx : Below y3.heap.size y3 y4 := by rw [← hYn]; exact one_alloc _ _
      have hS4 : Below w8.heap.size w8 y4 := hS3.trans (hbx.mono hS3.size)
      have HI1 := Lib.hid (HI1.out.below hbx)
      have HI2 := Lib.hid (HI2.out.below hbx)
      have HQ1 := Lib.hid (HQ1.out.below hbx)
      have HQ2 := Lib.hid (show Lns y4 (some ⟨y3.heap.size, 0, none⟩) 1 1 [⟨A2, n2, c2, L⟩] from by rw [← hYn]; exact one_lns HZ2.out)
      rw [hYn]
      clear hYn
      clear hbx
      refine hKq.out _ _ hS4 (fun hHeld0 => ?_)
      clear hKq Kq hHeld
      have hHeld := hHeld0
      clear hHeld0
      try simp only [PT]
      refine one_step 8 (by kernel_rfl) rfl (fun Kq hKq => ?_)
      go_simp
      go_at_call 14
      (with_reducible refine (rrows_any _ _ _ _ _ _ _ _ _ HQ1.out HQ2.out).mono ?_)
      rintro e y5 ⟨he, hbx⟩
      obtain rfl : e = .returned (.bool true) := by rw [he]; simp
      clear he
      have hS5 : Below w8.heap.size w8 y5 := hS4.trans (hbx.mono hS4.size)
      have HI1 := Lib.hid (HI1.out.below hbx)
      have HI2 := Lib.hid (HI2.out.below hbx)
      have HQ1 := Lib.hid (HQ1.out.below hbx)
      have HQ2 := Lib.hid (HQ2.out.below hbx)
      clear hbx
      refine hKq.out _ _ hS5 (fun hHeld0 => ?_)
      clear hKq Kq hHeld
      have hHeld := hHeld0
      clear hHeld0
      try simp only [PT]
      refine tk 9 (.bool true) hHeld (fun w => ?_) ?_
      · go_simp
      simp only [PT]
      refine wpAnyH_done (by kernel_rfl) ?_ _
      clear hHeld
      go_wp2
      have HX9 := Lib.hid (HX8.out.trans (hS5.mono HX8.out.size))
      have HF9 := Lib.hid (fun X (hX : Below y5.heap.size y5 X) => HF.out X (hS5.trans (hX.mono hS5.size)))
      obtain ⟨W9, hW9⟩ : ∃ W9, y5 = W9 := ⟨_, rfl⟩
      rw [hW9] at HX9 HF9 ⊢
      clear hW9
      have hSd : Below W9.heap.size W9 W9.drew := (Below.refl _ W9).drew
      refine wp_region_held_drew (S := fun X => Below W9.heap.size W9 X) (by kernel_rfl) hSd (fun hHeld => ?_)
      obtain ⟨y0, hY0⟩ : ∃ Y, W9.drew = Y := ⟨_, rfl⟩
      rw [hY0] at hSd hHeld ⊢
      clear hY0
      refine tk 0 (.slice A n c) hHeld (fun w => ?_) ?_
      · go_simp
      simp only [PT]
      refine tkS 1 (.agg #[.int .i64 s.pl, .int .i64 s.st, .int .i64 s.nx, .int .i64 s.ph, .int .i64 s.t, .int .i64 s.hd, .int .i64 s.hl, .int .i64 s.ak, .int .i64 s.wt, .bool s.sp]) hHeld (fun w hq => ?_) ?_
      · obtain ⟨z0, z1, z2, z3, z4, z5, z6, z7, z8, z9, z10, z11, z12, z13, z14, z15, z16, z17, z18, z19, z20, z21, z22, z23, z24, z25, z26, z27, z28, z29⟩ := HF9.out w hq
        go_simp
      simp only [PT]
      refine tk 3 (.bool M) hHeld (fun w => ?_) ?_
      · go_simp
      simp only [PT]
      refine one_step 2 (by kernel_rfl) rfl (fun Kq hKq => ?_)
      go_simp
      go_at_call 17
      (with_reducible refine (HMY.out _ (HX9.out.trans (hSd.mono HX9.out.size))).mono ?_)
      rintro e y1 ⟨rfl, hbx⟩
      have hS1 : Below W9.heap.size W9 y1 := hSd.trans (hbx.mono hSd.size)
      clear hbx
      refine hKq.out _ _ hS1 (fun hHeld0 => ?_)
      clear hKq Kq hHeld
      have hHeld := hHeld0
      clear hHeld0
      try simp only [PT]
      refine tk 4 (.bool true) hHeld (fun w => ?_) ?_
      · (go_simp; try simp)
      simp only [PT]
      refine tk 5 (.bool true) hHeld (fun w => ?_) ?_
      · go_simp
      simp only [PT]
      refine tk 6 (.slice A n c) hHeld (fun w => ?_) ?_
      · go_simp
      simp only [PT]
      refine tkS 7 (.agg #[.int .i64 s.pl, .int .i64 s.st, .int .i64 s.nx, .int .i64 s.ph, .int .i64 s.t, .int .i64 s.hd, .int .i64 s.hl, .int .i64 s.ak, .int .i64 s.wt, .bool s.sp]) hHeld (fun w hq => ?_) ?_
      · obtain ⟨z0, z1, z2, z3, z4, z5, z6, z7, z8, z9, z10, z11, z12, z13, z14, z15, z16, z17, z18, z19, z20, z21, z22, z23, z24, z25, z26, z27, z28, z29⟩ := HF9.out w hq
        go_simp
      simp only [PT]
      refine tk 9 (.slice A n c) hHeld (fun w => ?_) ?_
      · go_simp
      simp only [PT]
      refine tkS 10 (.agg #[.int .i64 s.pl, .int .i64 s.st, .int .i64 s.nx, .int .i64 s.ph, .int .i64 s.t, .int .i64 s.hd, .int .i64 s.hl, .int .i64 s.ak, .int .i64 s.wt, .bool s.sp]) hHeld (fun w hq => ?_) ?_
      · obtain ⟨z0, z1, z2, z3, z4, z5, z6, z7, z8, z9, z10, z11, z12, z13, z14, z15, z16, z17, z18, z19, z20, z21, z22, z23, z24, z25, z26, z27, z28, z29⟩ := HF9.out w hq
        go_simp
      simp only [PT]
      refine one_step 8 (by kernel_rfl) rfl (fun Kq hKq => ?_)
      go_simp
      go_at_call 18
      (with_reducible refine (HTK.out _ (HX9.out.trans (hS1.mono HX9.out.size))).mono ?_)
      rintro e y2 ⟨rfl, hbx⟩
      have hS2 : Below W9.heap.size W9 y2 := hS1.trans (hbx.mono hS1.size)
      clear hbx
      refine hKq.out _ _ hS2 (fun hHeld0 => ?_)
      clear hKq Kq hHeld
      have hHeld := hHeld0
      clear hHeld0
      try simp only [PT]
      refine one_step 11 (by kernel_rfl) rfl (fun Kq hKq => ?_)
      go_simp
      go_at_call 19
      (with_reducible refine (HRT.out _ (HX9.out.trans (hS2.mono HX9.out.size))).mono ?_)
      rintro e y3 ⟨rfl, hbx⟩
      have hS3 : Below W9.heap.size W9 y3 := hS2.trans (hbx.mono hS2.size)
      clear hbx
      refine hKq.out _ _ hS3 (fun hHeld0 => ?_)
      clear hKq Kq hHeld
      have hHeld := hHeld0
      clear hHeld0
      try simp only [PT]
      refine tk 12 (.bool true) hHeld (fun w => ?_) ?_
      · (refine (run_eq_sig (f := t) (g := t) rfl rfl rfl).trans ?_; rw [show decide (t = t) = true from decide_eq_true rfl])
      simp only [PT]
      refine tk 13 (.bool true) hHeld (fun w => ?_) ?_
      · go_simp
      simp only [PT]
      refine tk 14 (.bool true) hHeld (fun w => ?_) ?_
      · go_simp
      simp only [PT]
      refine tkS 15 (.agg #[.int .i64 g.pl, .int .i64 g.st, .int .i64 g.nx, .int .i64 g.ph, .int .i64 g.t, .int .i64 g.hd, .int .i64 g.hl, .int .i64 g.ak, .int .i64 g.wt, .bool g.sp]) hHeld (fun w hq => ?_) ?_
      · obtain ⟨z0, z1, z2, z3, z4, z5, z6, z7, z8, z9, z10, z11, z12, z13, z14, z15, z16, z17, z18, z19, z20, z21, z22, z23, z24, z25, z26, z27, z28, z29⟩ := HF9.out w hq
        go_simp
      simp only [PT]
      refine tkS 16 (.agg #[.int .i64 g.pl, .int .i64 g.st, .int .i64 g.nx, .int .i64 g.ph, .int .i64 g.t, .int .i64 g.hd, .int .i64 g.hl, .int .i64 g.ak, .int .i64 g.wt, .bool g.sp]) hHeld (fun w hq => ?_) ?_
      · obtain ⟨z0, z1, z2, z3, z4, z5, z6, z7, z8, z9, z10, z11, z12, z13, z14, z15, z16, z17, z18, z19, z20, z21, z22, z23, z24, z25, z26, z27, z28, z29⟩ := HF9.out w hq
        go_simp
      simp only [PT]
      refine tk 17 (.bool true) hHeld (fun w => ?_) ?_
      · (refine (run_eq_sig (f := g) (g := g) rfl rfl rfl).trans ?_; rw [show decide (g = g) = true from decide_eq_true rfl])
      simp only [PT]
      refine tk 18 (.bool true) hHeld (fun w => ?_) ?_
      · go_simp
      simp only [PT]
      refine tk 19 (.bool true) hHeld (fun w => ?_) ?_
      · go_simp
      simp only [PT]
      refine tk 20 (.bool true) hHeld (fun w => ?_) ?_
      · go_simp
      simp only [PT]
      refine tk 21 (.bool true) hHeld (fun w => ?_) ?_
      · go_simp
      simp only [PT]
      refine tk 22 (.bool true) hHeld (fun w => ?_) ?_
      · go_simp
      simp only [PT]
      refine tk 23 (.bool true) hHeld (fun w => ?_) ?_
      · go_simp
      simp only [PT]
      refine tk 24 (.bool true) hHeld (fun w => ?_) ?_
      · go_simp
      simp only [PT]
      refine tk 25 (.bool true) hHeld (fun w => ?_) ?_
      · go_simp
      simp only [PT]
      refine one_step 26 (by kernel_rfl) rfl (fun Kq hKq => ?_)
      go_simp
      go_at_call 20
      (with_reducible refine (HN1.out _ (HX9.out.trans (hS3.mono HX9.out.size))).mono ?_)
      rintro e y4 ⟨rfl, hbx⟩
      have hS4 : Below W9.heap.size W9 y4 := hS3.trans (hbx.mono hS3.size)
      clear hbx
      refine hKq.out _ _ hS4 (fun hHeld0 => ?_)
      clear hKq Kq hHeld
      have hHeld := hHeld0
      clear hHeld0
      try simp only [PT]
      refine one_step 27 (by kernel_rfl) rfl (fun Kq hKq => ?_)
      go_simp
      go_at_call 21
      (with_reducible refine (HN2.out _ (HX9.out.trans (hS4.mono HX9.out.size))).mono ?_)
      rintro e y5 ⟨rfl, hbx⟩
      have hS5 : Below W9.heap.size W9 y5 := hS4.trans (hbx.mono hS4.size)
      clear hbx
      refine hKq.out _ _ hS5 (fun hHeld0 => ?_)
      clear hKq Kq hHeld
      have hHeld := hHeld0
      clear hHeld0
      try simp only [PT]
      refine tk 28 (.bool true) hHeld (fun w => ?_) ?_
      · (refine (run_eq_sig (f := m) (g := m) rfl rfl rfl).trans ?_; rw [show decide (m = m) = true from decide_eq_true rfl])
      simp only [PT]
      refine tk 29 (.bool true) hHeld (fun w => ?_) ?_
      · go_simp
      simp only [PT]
      refine tk 30 (.bool true) hHeld (fun w => ?_) ?_
      · go_simp
      simp only [PT]
      refine wpAnyH_done (by kernel_rfl) ?_ _
      clear hHeld
      go_wp2
      go_ret
      exact ⟨rfl, HB0.out.trans ((HX9.out.trans (hS5.mono HX9.out.size)).mono HB0.out.size)⟩
    · have HZ2 := HI2
      go_simp
      obtain ⟨y3, hYn⟩ : ∃ Y, y2.alloc (.cells #[.slice A2 n2 c2] 32) = Y := ⟨_, rfl⟩
      have hbx : Below y2.heap.size y2 y3 := by rw [← hYn]; exact one_alloc _ _
      have hS3 : Below w8.heap.size w8 y3 := hS2.trans (hbx.mono hS2.size)
      have HI1 := Lib.hid (HI1.out.below hbx)
      have HI2 := Lib.hid (HI2.out.below hbx)
      have HQ2 := Lib.hid (show Lns y3 (some ⟨y2.heap.size, 0, none⟩) 1 1 [⟨A2, n2, c2, L⟩] from by rw [← hYn]; exact one_lns HZ2.out)
      rw [hYn]
      clear hYn
      clear hbx
      refine hKq.out _ _ hS3 (fun hHeld0 => ?_)
      clear hKq Kq hHeld
      have hHeld := hHeld0
      clear hHeld0
      try simp only [PT]
      refine one_step 3 (by kernel_rfl) rfl (fun Kq hKq => ?_)
      have HZ1 := HI1
      go_simp
      obtain ⟨y4, hYn⟩ : ∃ Y, y3.alloc (.cells #[.slice A1 n1 c1] 32) = Y := ⟨_, rfl⟩
      have hbx : Below y3.heap.size y3 y4 := by rw [← hYn]; exact one_alloc _ _
      have hS4 : Below w8.heap.size w8 y4 := hS3.trans (hbx.mono hS3.size)
      have HI1 := Lib.hid (HI1.out.below hbx)
      have HI2 := Lib.hid (HI2.out.below hbx)
      have HQ2 := Lib.hid (HQ2.out.below hbx)
      have HQ1 := Lib.hid (show Lns y4 (some ⟨y3.heap.size, 0, none⟩) 1 1 [⟨A1, n1, c1, L⟩] from by rw [← hYn]; exact one_lns HZ1.out)
      rw [hYn]
      clear hYn
      clear hbx
      refine hKq.out _ _ hS4 (fun hHeld0 => ?_)
      clear hKq Kq hHeld
      have hHeld := hHeld0
      clear hHeld0
      try simp only [PT]
      refine one_step 8 (by kernel_rfl) rfl (fun Kq hKq => ?_)
      go_simp
      go_at_call 14
      (with_reducible refine (rrows_any _ _ _ _ _ _ _ _ _ HQ1.out HQ2.out).mono ?_)
      rintro e y5 ⟨he, hbx⟩
      obtain rfl : e = .returned (.bool true) := by rw [he]; simp
      clear he
      have hS5 : Below w8.heap.size w8 y5 := hS4.trans (hbx.mono hS4.size)
      have HI1 := Lib.hid (HI1.out.below hbx)
      have HI2 := Lib.hid (HI2.out.below hbx)
      have HQ2 := Lib.hid (HQ2.out.below hbx)
      have HQ1 := Lib.hid (HQ1.out.below hbx)
      clear hbx
      refine hKq.out _ _ hS5 (fun hHeld0 => ?_)
      clear hKq Kq hHeld
      have hHeld := hHeld0
      clear hHeld0
      try simp only [PT]
      refine tk 9 (.bool true) hHeld (fun w => ?_) ?_
      · go_simp
      simp only [PT]
      refine wpAnyH_done (by kernel_rfl) ?_ _
      clear hHeld
      go_wp2
      have HX9 := Lib.hid (HX8.out.trans (hS5.mono HX8.out.size))
      have HF9 := Lib.hid (fun X (hX : Below y5.heap.size y5 X) => HF.out X (hS5.trans (hX.mono hS5.size)))
      obtain ⟨W9, hW9⟩ : ∃ W9, y5 = W9 := ⟨_, rfl⟩
      rw [hW9] at HX9 HF9 ⊢
      clear hW9
      have hSd : Below W9.heap.size W9 W9.drew := (Below.refl _ W9).drew
      refine wp_region_held_drew (S := fun X => Below W9.heap.size W9 X) (by kernel_rfl) hSd (fun hHeld => ?_)
      obtain ⟨y0, hY0⟩ : ∃ Y, W9.drew = Y := ⟨_, rfl⟩
      rw [hY0] at hSd hHeld ⊢
      clear hY0
      refine tk 0 (.slice A n c) hHeld (fun w => ?_) ?_
      · go_simp
      simp only [PT]
      refine tkS 1 (.agg #[.int .i64 s.pl, .int .i64 s.st, .int .i64 s.nx, .int .i64 s.ph, .int .i64 s.t, .int .i64 s.hd, .int .i64 s.hl, .int .i64 s.ak, .int .i64 s.wt, .bool s.sp]) hHeld (fun w hq => ?_) ?_
      · obtain ⟨z0, z1, z2, z3, z4, z5, z6, z7, z8, z9, z10, z11, z12, z13, z14, z15, z16, z17, z18, z19, z20, z21, z22, z23, z24, z25, z26, z27, z28, z29⟩ := HF9.out w hq
        go_simp
      simp only [PT]
      refine tk 3 (.bool M) hHeld (fun w => ?_) ?_
      · go_simp
      simp only [PT]
      refine one_step 2 (by kernel_rfl) rfl (fun Kq hKq => ?_)
      go_simp
      go_at_call 17
      (with_reducible refine (HMY.out _ (HX9.out.trans (hSd.mono HX9.out.size))).mono ?_)
      rintro e y1 ⟨rfl, hbx⟩
      have hS1 : Below W9.heap.size W9 y1 := hSd.trans (hbx.mono hSd.size)
      clear hbx
      refine hKq.out _ _ hS1 (fun hHeld0 => ?_)
      clear hKq Kq hHeld
      have hHeld := hHeld0
      clear hHeld0
      try simp only [PT]
      refine tk 4 (.bool true) hHeld (fun w => ?_) ?_
      · (go_simp; try simp)
      simp only [PT]
      refine tk 5 (.bool true) hHeld (fun w => ?_) ?_
      · go_simp
      simp only [PT]
      refine tk 6 (.slice A n c) hHeld (fun w => ?_) ?_
      · go_simp
      simp only [PT]
      refine tkS 7 (.agg #[.int .i64 s.pl, .int .i64 s.st, .int .i64 s.nx, .int .i64 s.ph, .int .i64 s.t, .int .i64 s.hd, .int .i64 s.hl, .int .i64 s.ak, .int .i64 s.wt, .bool s.sp]) hHeld (fun w hq => ?_) ?_
      · obtain ⟨z0, z1, z2, z3, z4, z5, z6, z7, z8, z9, z10, z11, z12, z13, z14, z15, z16, z17, z18, z19, z20, z21, z22, z23, z24, z25, z26, z27, z28, z29⟩ := HF9.out w hq
        go_simp
      simp only [PT]
      refine tk 9 (.slice A n c) hHeld (fun w => ?_) ?_
      · go_simp
      simp only [PT]
      refine tkS 10 (.agg #[.int .i64 s.pl, .int .i64 s.st, .int .i64 s.nx, .int .i64 s.ph, .int .i64 s.t, .int .i64 s.hd, .int .i64 s.hl, .int .i64 s.ak, .int .i64 s.wt, .bool s.sp]) hHeld (fun w hq => ?_) ?_
      · obtain ⟨z0, z1, z2, z3, z4, z5, z6, z7, z8, z9, z10, z11, z12, z13, z14, z15, z16, z17, z18, z19, z20, z21, z22, z23, z24, z25, z26, z27, z28, z29⟩ := HF9.out w hq
        go_simp
      simp only [PT]
      refine one_step 8 (by kernel_rfl) rfl (fun Kq hKq => ?_)
      go_simp
      go_at_call 18
      (with_reducible refine (HTK.out _ (HX9.out.trans (hS1.mono HX9.out.size))).mono ?_)
      rintro e y2 ⟨rfl, hbx⟩
      have hS2 : Below W9.heap.size W9 y2 := hS1.trans (hbx.mono hS1.size)
      clear hbx
      refine hKq.out _ _ hS2 (fun hHeld0 => ?_)
      clear hKq Kq hHeld
      have hHeld := hHeld0
      clear hHeld0
      try simp only [PT]
      refine one_step 11 (by kernel_rfl) rfl (fun Kq hKq => ?_)
      go_simp
      go_at_call 19
      (with_reducible refine (HRT.out _ (HX9.out.trans (hS2.mono HX9.out.size))).mono ?_)
      rintro e y3 ⟨rfl, hbx⟩
      have hS3 : Below W9.heap.size W9 y3 := hS2.trans (hbx.mono hS2.size)
      clear hbx
      refine hKq.out _ _ hS3 (fun hHeld0 => ?_)
      clear hKq Kq hHeld
      have hHeld := hHeld0
      clear hHeld0
      try simp only [PT]
      refine tk 12 (.bool true) hHeld (fun w => ?_) ?_
      · (refine (run_eq_sig (f := t) (g := t) rfl rfl rfl).trans ?_; rw [show decide (t = t) = true from decide_eq_true rfl])
      simp only [PT]
      refine tk 13 (.bool true) hHeld (fun w => ?_) ?_
      · go_simp
      simp only [PT]
      refine tk 14 (.bool true) hHeld (fun w => ?_) ?_
      · go_simp
      simp only [PT]
      refine tkS 15 (.agg #[.int .i64 g.pl, .int .i64 g.st, .int .i64 g.nx, .int .i64 g.ph, .int .i64 g.t, .int .i64 g.hd, .int .i64 g.hl, .int .i64 g.ak, .int .i64 g.wt, .bool g.sp]) hHeld (fun w hq => ?_) ?_
      · obtain ⟨z0, z1, z2, z3, z4, z5, z6, z7, z8, z9, z10, z11, z12, z13, z14, z15, z16, z17, z18, z19, z20, z21, z22, z23, z24, z25, z26, z27, z28, z29⟩ := HF9.out w hq
        go_simp
      simp only [PT]
      refine tkS 16 (.agg #[.int .i64 g.pl, .int .i64 g.st, .int .i64 g.nx, .int .i64 g.ph, .int .i64 g.t, .int .i64 g.hd, .int .i64 g.hl, .int .i64 g.ak, .int .i64 g.wt, .bool g.sp]) hHeld (fun w hq => ?_) ?_
      · obtain ⟨z0, z1, z2, z3, z4, z5, z6, z7, z8, z9, z10, z11, z12, z13, z14, z15, z16, z17, z18, z19, z20, z21, z22, z23, z24, z25, z26, z27, z28, z29⟩ := HF9.out w hq
        go_simp
      simp only [PT]
      refine tk 17 (.bool true) hHeld (fun w => ?_) ?_
      · (refine (run_eq_sig (f := g) (g := g) rfl rfl rfl).trans ?_; rw [show decide (g = g) = true from decide_eq_true rfl])
      simp only [PT]
      refine tk 18 (.bool true) hHeld (fun w => ?_) ?_
      · go_simp
      simp only [PT]
      refine tk 19 (.bool true) hHeld (fun w => ?_) ?_
      · go_simp
      simp only [PT]
      refine tk 20 (.bool true) hHeld (fun w => ?_) ?_
      · go_simp
      simp only [PT]
      refine tk 21 (.bool true) hHeld (fun w => ?_) ?_
      · go_simp
      simp only [PT]
      refine tk 22 (.bool true) hHeld (fun w => ?_) ?_
      · go_simp
      simp only [PT]
      refine tk 23 (.bool true) hHeld (fun w => ?_) ?_
      · go_simp
      simp only [PT]
      refine tk 24 (.bool true) hHeld (fun w => ?_) ?_
      · go_simp
      simp only [PT]
      refine tk 25 (.bool true) hHeld (fun w => ?_) ?_
      · go_simp
      simp only [PT]
      refine one_step 26 (by kernel_rfl) rfl (fun Kq hKq => ?_)
      go_simp
      go_at_call 20
      (with_reducible refine (HN1.out _ (HX9.out.trans (hS3.mono HX9.out.size))).mono ?_)
      rintro e y4 ⟨rfl, hbx⟩
      have hS4 : Below W9.heap.size W9 y4 := hS3.trans (hbx.mono hS3.size)
      clear hbx
      refine hKq.out _ _ hS4 (fun hHeld0 => ?_)
      clear hKq Kq hHeld
      have hHeld := hHeld0
      clear hHeld0
      try simp only [PT]
      refine one_step 27 (by kernel_rfl) rfl (fun Kq hKq => ?_)
      go_simp
      go_at_call 21
      (with_reducible refine (HN2.out _ (HX9.out.trans (hS4.mono HX9.out.size))).mono ?_)
      rintro e y5 ⟨rfl, hbx⟩
      have hS5 : Below W9.heap.size W9 y5 := hS4.trans (hbx.mono hS4.size)
      clear hbx
      refine hKq.out _ _ hS5 (fun hHeld0 => ?_)
      clear hKq Kq hHeld
      have hHeld := hHeld0
      clear hHeld0
      try simp only [PT]
      refine tk 28 (.bool true) hHeld (fun w => ?_) ?_
      · (refine (run_eq_sig (f := m) (g := m) rfl rfl rfl).trans ?_; rw [show decide (m = m) = true from decide_eq_true rfl])
      simp only [PT]
      refine tk 29 (.bool true) hHeld (fun w => ?_) ?_
      · go_simp
      simp only [PT]
      refine tk 30 (.bool true) hHeld (fun w => ?_) ?_
      · go_simp
      simp only [PT]
      refine wpAnyH_done (by kernel_rfl) ?_ _
      clear hHeld
      go_wp2
      go_ret
      exact ⟨rfl, HB0.out.trans ((HX9.out.trans (hS5.mono HX9.out.size)).mono HB0.out.size)⟩
end Go.Proofs.Ytcgakgbnhlmcaaa

