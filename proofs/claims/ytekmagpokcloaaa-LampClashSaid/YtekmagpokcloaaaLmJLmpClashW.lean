/- The walk over the law LampClash. -/
import Derived.Test.YtekmagpokcloaaaLmJD
namespace Go.Proofs.Ytekmagpokcloaaa
set_option maxRecDepth 100000
set_option linter.unusedVariables false
set_option linter.unusedSimpArgs false
open Go.RowKit

theorem set_getD {l : List Int} {g : Nat} (x : Int) (a : Nat) (hg : g < l.length) : (l.set g x).getD a 0 = if a = g then x else l.getD a 0 := by
  simp only [List.getD_eq_getElem?_getD, List.getElem?_set]
  by_cases h : a = g
  · subst h; simp [hg]
  · rw [if_neg (fun e => h e.symm), if_neg h]
theorem clash_set {p : Pl} {l : List Int} {g : Nat} {x : Int} (hg : g < l.length) (h1 : 1 ≤ x) (h2 : x ≤ 2) (h : clashR p l = true) : clashR p (l.set g x) = true := by
  obtain ⟨hf, hm, hl, a, ha, b, hb, h3, h4, h5⟩ := clash_iff.1 h
  have hne : ∀ k : Nat, l.getD k 0 ≠ 0 → (l.set g x).getD k 0 ≠ 0 := fun k hk => by
    rw [set_getD x k hg]
    split
    · omega
    · exact hk
  refine clash_iff.2 ⟨hf, may_iff.2 ⟨by rw [List.length_set]; exact (may_iff.1 hm).1, fun y hy => ?_⟩, by rw [List.length_set]; exact hl, a, by rw [List.length_set]; exact ha, b, by rw [List.length_set]; exact hb, h3, hne a h4, hne b h5⟩
  rcases List.mem_or_eq_of_mem_set hy with h | rfl
  · exact (may_iff.1 hm).2 y h
  · omega
theorem clash_red (p : Pl) (n : Nat) : clashR p (List.replicate n 0) = false := clash_not fun hz => by
  obtain ⟨-, -, -, g, hg, -, -, -, n1, -⟩ := hz
  rw [List.length_replicate] at hg
  exact n1 (by simp [List.getD_eq_getElem?_getD, hg])
theorem wpList_make_z {P : Program} {w : World} {ops : Array Oper} {rest : List Oper} {o : Oper} {a : Act} {Q : Exit → Act → World → Prop} (hgd : o.guard = none) (t e : TypeId) (K : IntKind) (B : Nat) (l c : Operand) (ho : o.op = Op.makeSlice t l c)
    (hu : P.underlying t = some (.slice e)) (hinfo : (P.info? e).map (fun i => (i.zero, i.size, i.bytes)) = some (some (.int K 0), 1, B)) (hB : B ≤ 8)
    (n : Nat) (hl : a.eval l = .int .i64 n) (hc : a.eval c = .int .i64 n) (hn : n ≤ 17592186044416)
    (h : ∀ w', Its K w' (some ⟨w.heap.size, 0, none⟩) n n (List.replicate n 0) → w.grownBy w' none → wpList P ops Q rest (a.put o.dst (.slice (some ⟨w.heap.size, 0, none⟩) n n)) w') : wpList P ops Q (o :: rest) a w := by
  obtain ⟨i, hi, hz, h1, h2⟩ := info_parts hinfo
  have hb8 : B * n ≤ 8 * n := Nat.mul_le_mul_right _ hB
  refine wpList_make_full w hgd l c t ho w.heap.size e i (.int K 0) 1 hu hi hz h1 .i64 .i64 n n n hl hc rfl rfl (by rw [h2]; omega) (by unfold maxLen; omega) (Nat.le_refl _) (fun w' r1 r2 => h w' ?_ r2)
  rcases r1.2 with ⟨hv, -⟩ | ⟨g, cap, cur, hv, -, hh, -, -, -, htake⟩
  · cases hv
  · have hg : w.heap.size = g := by
      injection hv with e1 e2 e3
      injection e1 with e1
      injection e1
    refine ⟨by simp, Nat.le_refl _, by unfold maxLen; omega, (fun e => by cases e), fun _ => ⟨_, 0, rfl, fun j hj => ?_⟩⟩
    rw [hg, Nat.zero_add, cell_of_row _ _ _ _ _ _ hh]
    have h3 := congrArg (fun l : List Value => l[j]?) htake
    simp only [List.getElem?_take, Nat.mul_one, if_pos hj] at h3
    rw [Array.getElem?_toList] at h3
    rw [h3]
    simp [madeCells, hj, List.getD_eq_getElem?_getD, Value.cells, Nat.mod_one]
theorem size_one {t : TypeId} (h : (Try.prog.info? t).map (·.size) = some 1) (w : World) : (sizeOf t).run Try.prog w = .ok 1 w := by
  cases hi : Try.prog.info? t with
  | none => simp [hi] at h
  | some i => simp [hi] at h; simp [sizeOf, typeInfo, hi, h]
theorem wpList_store_i {ops : Array Oper} {rest : List Oper} {o : Oper} {a : Act} {w : World} {Q : Exit → Act → World → Prop} (hgd : o.guard = none) (ty : TypeId) (x y : Operand) (ho : o.op = .store ty x y) (K : IntKind) (z : Int) (g gi n cap B : Nat) (l : List Int)
    (cur : Array Value) (e : TypeId) (hh : w.heap[g]? = some (.cells cur e (0, 0))) (hits : Its K w (some ⟨g, 0, none⟩) n cap l) (hgi : gi < n) (hB : B ≤ g)
    (hx : a.eval x = .pointer (some ⟨g, gi, none⟩)) (hy : a.eval y = .int K z) (hu : Try.prog.underlying ty = some (.int K)) (hi : (Try.prog.info? ty).map (·.size) = some 1)
    (h : ∀ w', Its K w' (some ⟨g, 0, none⟩) n cap (l.set gi z) → Below B w w' → wpList Try.prog ops Q rest (a.put o.dst undef) w') : wpList Try.prog ops Q (o :: rest) a w := by
  obtain ⟨b, off, hA, hc⟩ := hits.at_ (by omega)
  cases hA
  simp only [Nat.zero_add] at hc
  have hrun : (Instr.storeAt ty (.pointer (some ⟨g, gi, none⟩)) (.int K z)).run Try.prog w = .ok () (w.setCell ⟨g, gi, none⟩ (.int K z)) := by
    have hzz := size_one hi w
    simp [Instr.storeAt, run_underlying hu, hc gi hgi, frozen_of_row _ _ gi _ _ hh, hzz, go_sem]
  refine wpList_plain hgd fun _ hK => ?_
  unfold Oper.wp execOp
  simp only [ho, hx, hy, hrun, Sem.run_bind, Sem.run_pure, Result.andThen_ok]
  refine hK _ _ (h _ ⟨by rw [List.length_set]; exact hits.len, hits.le, hits.max, (fun e => by cases e), fun _ => ⟨g, 0, rfl, fun j hj => ?_⟩⟩ ((Below.refl B w).setCell (p := ⟨g, gi, none⟩) hB _))
  rw [Nat.zero_add, set_getD z j (by rw [hits.len]; exact hgi)]
  by_cases e : j = gi
  · subst e
    rw [World.cell?_setCell_same _ _ _ (hc j hj), if_pos rfl]
  · rw [World.cell?_setCell_other _ _ _ _ (fun h => e (by injection h with _ h2; exact h2.symm)), hc j hj, if_neg e]
set_option maxHeartbeats 8000000 in
theorem lclash_any (HO : LmpOk) (p : Pl) (A : Option Addr) (n c : Nat) (l : List Int) (g x : Int) (w : World) (hp : PlIn w p) (hl : Its .i64 w A n c l) :
    Calls Try.prog 7 #[plV p, .slice A n c, .int .i64 g, .int .i64 x] w fun e w' => e = .returned (.bool true) ∧ Below w.heap.size w w' := by
  have hnn := hl.small
  have HLL := Lib.hid hl.len
  simp only [plV]
  obtain ⟨W0, hW0⟩ : ∃ W0, w.alloc (.cells #[.slice p.A p.n p.c, .slice p.B p.k p.d, .int .i64 p.am, .int .i64 p.rd, .int .i64 p.hd] 25) = W0 := ⟨_, rfl⟩
  have hB0 : Below w.heap.size w W0 := by rw [← hW0]; exact one_alloc w _
  have hbp : BoxP W0 w.heap.size p := by rw [← hW0]; exact BoxP.new w p
  have hpp : PlIn W0 p := hp.below hB0
  have HCp := Lib.hid (show ∀ X, Below W0.heap.size W0 X → X.cell? ⟨w.heap.size, 0, none⟩ = some (.slice p.A p.n p.c) ∧ X.cell? ⟨w.heap.size, 1, none⟩ = some (.slice p.B p.k p.d) ∧ X.cell? ⟨w.heap.size, 2, none⟩ = some (.int .i64 p.am) ∧ X.cell? ⟨w.heap.size, 3, none⟩ = some (.int .i64 p.rd) ∧ X.cell? ⟨w.heap.size, 4, none⟩ = some (.int .i64 p.hd) from fun X hX => (hbp.below hX).cells)
  have HPp := Lib.hid (show ∀ X, Below W0.heap.size W0 X → PlIn X p from fun X hX => hpp.below hX)
  have HB0 := Lib.hid hB0
  have HW := Lib.hid hW0
  have hl0 : Its .i64 W0 A n c l := hl.below hB0
  have HLB := Lib.hid (show ∀ X, Below W0.heap.size W0 X → Its .i64 X A n c l from fun X hX => hl0.below hX)
  have HX0 := Lib.hid (Below.refl W0.heap.size W0)
  clear hl hl0 hW0 hB0 hbp hpp hp
  have HAW := Lib.hid (lawake_any HO W0)
  have HFW := Lib.hid (fun X hX => pfew_any p X (HPp.out X hX))
  simp only [plV] at HFW
  obtain ⟨a, ha⟩ : ∃ a, fewB p = a := ⟨_, rfl⟩
  rw [ha] at HFW
  cases a
  · clear ha
    go_enter Try.func7, Try.ntmps7
    go_wp2_with (first
      | (go_at_call 8
         rw [HW.out]
         (with_reducible refine (HAW.out).mono ?_)
         rintro e w1 ⟨rfl, hbx⟩
         have HX1 := Lib.hid (HX0.out.trans (hbx.mono HX0.out.size))
         obtain ⟨p0z, p1z, p2z, p3z, p4z⟩ := HCp.out w1 HX1.out
         clear hbx)
      | (go_at_call 9
         (with_reducible refine (HFW.out _ HX1.out).mono ?_)
         rintro e w2 ⟨rfl, hbx⟩
         have HX2 := Lib.hid (HX1.out.trans (hbx.mono HX1.out.size))
         obtain ⟨p0z, p1z, p2z, p3z, p4z⟩ := HCp.out w2 HX2.out
         clear hbx))
    go_ret
    exact ⟨rfl, HB0.out.trans (HX2.out.mono HB0.out.size)⟩
  · have fp := few_iff.1 ha
    clear ha
    by_cases h1 : 20 < n
    · have h1a : (20 : Int) < n := by omega
      go_enter Try.func7, Try.ntmps7
      go_wp2_with (first
        | (go_at_call 8
           rw [HW.out]
           (with_reducible refine (HAW.out).mono ?_)
           rintro e w1 ⟨rfl, hbx⟩
           have HX1 := Lib.hid (HX0.out.trans (hbx.mono HX0.out.size))
           obtain ⟨p0z, p1z, p2z, p3z, p4z⟩ := HCp.out w1 HX1.out
           clear hbx)
        | (go_at_call 9
           (with_reducible refine (HFW.out _ HX1.out).mono ?_)
           rintro e w2 ⟨rfl, hbx⟩
           have HX2 := Lib.hid (HX1.out.trans (hbx.mono HX1.out.size))
           obtain ⟨p0z, p1z, p2z, p3z, p4z⟩ := HCp.out w2 HX2.out
           clear hbx))
      go_ret
      exact ⟨rfl, HB0.out.trans (HX2.out.mono HB0.out.size)⟩
    have h1a : ¬ (20 : Int) < n := by omega
    by_cases h2 : g < 0
    · go_enter Try.func7, Try.ntmps7
      go_wp2_with (first
        | (go_at_call 8
           rw [HW.out]
           (with_reducible refine (HAW.out).mono ?_)
           rintro e w1 ⟨rfl, hbx⟩
           have HX1 := Lib.hid (HX0.out.trans (hbx.mono HX0.out.size))
           obtain ⟨p0z, p1z, p2z, p3z, p4z⟩ := HCp.out w1 HX1.out
           clear hbx)
        | (go_at_call 9
           (with_reducible refine (HFW.out _ HX1.out).mono ?_)
           rintro e w2 ⟨rfl, hbx⟩
           have HX2 := Lib.hid (HX1.out.trans (hbx.mono HX1.out.size))
           obtain ⟨p0z, p1z, p2z, p3z, p4z⟩ := HCp.out w2 HX2.out
           clear hbx))
      go_ret
      exact ⟨rfl, HB0.out.trans (HX2.out.mono HB0.out.size)⟩
    by_cases h3 : (n : Int) ≤ g
    · go_enter Try.func7, Try.ntmps7
      go_wp2_with (first
        | (go_at_call 8
           rw [HW.out]
           (with_reducible refine (HAW.out).mono ?_)
           rintro e w1 ⟨rfl, hbx⟩
           have HX1 := Lib.hid (HX0.out.trans (hbx.mono HX0.out.size))
           obtain ⟨p0z, p1z, p2z, p3z, p4z⟩ := HCp.out w1 HX1.out
           clear hbx)
        | (go_at_call 9
           (with_reducible refine (HFW.out _ HX1.out).mono ?_)
           rintro e w2 ⟨rfl, hbx⟩
           have HX2 := Lib.hid (HX1.out.trans (hbx.mono HX1.out.size))
           obtain ⟨p0z, p1z, p2z, p3z, p4z⟩ := HCp.out w2 HX2.out
           clear hbx))
      go_ret
      exact ⟨rfl, HB0.out.trans (HX2.out.mono HB0.out.size)⟩
    by_cases h4 : x < 1
    · go_enter Try.func7, Try.ntmps7
      go_wp2_with (first
        | (go_at_call 8
           rw [HW.out]
           (with_reducible refine (HAW.out).mono ?_)
           rintro e w1 ⟨rfl, hbx⟩
           have HX1 := Lib.hid (HX0.out.trans (hbx.mono HX0.out.size))
           obtain ⟨p0z, p1z, p2z, p3z, p4z⟩ := HCp.out w1 HX1.out
           clear hbx)
        | (go_at_call 9
           (with_reducible refine (HFW.out _ HX1.out).mono ?_)
           rintro e w2 ⟨rfl, hbx⟩
           have HX2 := Lib.hid (HX1.out.trans (hbx.mono HX1.out.size))
           obtain ⟨p0z, p1z, p2z, p3z, p4z⟩ := HCp.out w2 HX2.out
           clear hbx))
      go_ret
      exact ⟨rfl, HB0.out.trans (HX2.out.mono HB0.out.size)⟩
    by_cases h5 : 2 < x
    · go_enter Try.func7, Try.ntmps7
      go_wp2_with (first
        | (go_at_call 8
           rw [HW.out]
           (with_reducible refine (HAW.out).mono ?_)
           rintro e w1 ⟨rfl, hbx⟩
           have HX1 := Lib.hid (HX0.out.trans (hbx.mono HX0.out.size))
           obtain ⟨p0z, p1z, p2z, p3z, p4z⟩ := HCp.out w1 HX1.out
           clear hbx)
        | (go_at_call 9
           (with_reducible refine (HFW.out _ HX1.out).mono ?_)
           rintro e w2 ⟨rfl, hbx⟩
           have HX2 := Lib.hid (HX1.out.trans (hbx.mono HX1.out.size))
           obtain ⟨p0z, p1z, p2z, p3z, p4z⟩ := HCp.out w2 HX2.out
           clear hbx))
      go_ret
      exact ⟨rfl, HB0.out.trans (HX2.out.mono HB0.out.size)⟩
    obtain ⟨gi, rfl⟩ := Int.eq_ofNat_of_zero_le (show 0 ≤ g by omega)
    have hgn : gi < n := by omega
    have hgl : gi < l.length := by rw [HLL.out]; exact hgn
    have hbn : p.n ≤ 1000 := by omega
    have hbk : p.k ≤ 1000 := by omega
    have HC1 := Lib.hid (fun X hX => HO.clash p A n c l X (HPp.out X hX) (HLB.out X hX) hbn hbk (by omega))
    have HC2 := Lib.hid (fun B d X hX hI => HO.clash p B n d (l.set gi x) X (HPp.out X hX) hI hbn hbk (by omega))
    have HC3 := Lib.hid (fun B d X hX hI => HO.clash p B n d (List.replicate n 0) X (HPp.out X hX) hI hbn hbk (by omega))
    rw [clash_red] at HC3
    simp only [plV] at HC1 HC2 HC3
    have f1 : ¬ ((gi : Int) < 0) := by omega
    have f2 : ¬ (n ≤ gi) := by omega
    have f3 : decide (n ≤ gi) = false := decide_eq_false f2
    have q1 : 0 ≤ (gi : Int) := by omega
    have q2 : (gi : Int) < n := by omega
    have hx1 : 1 ≤ x := by omega
    have hx2 : x ≤ 2 := by omega
    clear h2 h3 fp
    cases hK : clashR p l with
    | false =>
      rw [hK] at HC1
      clear hK hgl
      go_enter Try.func7, Try.ntmps7
      go_wp2_with (first
        | (go_at_call 8
           rw [HW.out]
           (with_reducible refine (HAW.out).mono ?_)
           rintro e w1 ⟨rfl, hbx⟩
           have HX1 := Lib.hid (HX0.out.trans (hbx.mono HX0.out.size))
           obtain ⟨p0z, p1z, p2z, p3z, p4z⟩ := HCp.out w1 HX1.out
           clear hbx)
        | (go_at_call 9
           (with_reducible refine (HFW.out _ HX1.out).mono ?_)
           rintro e w2 ⟨rfl, hbx⟩
           have HX2 := Lib.hid (HX1.out.trans (hbx.mono HX1.out.size))
           obtain ⟨p0z, p1z, p2z, p3z, p4z⟩ := HCp.out w2 HX2.out
           clear hbx)
        | (at_builtin
           refine wpList_append_i rfl 22 3 .i64 8 _ _ rfl Try.underlying22 (by kernel_rfl) (by omega) W0.heap.size (.slice none 0 0) [] rfl (OwnI.nil _ _ _ _) A n c l rfl (HLB.out _ HX2.out) (by simp; omega) HX2.out.size ?_
           intro v3 w3 hown3 hg3
           have HX3 := Lib.hid (HX2.out.grown hg3 HX2.out.size (fun k hk => by cases hk))
           rw [List.nil_append] at hown3
           obtain ⟨A3, n3, c3, hv3, hi3⟩ := hown3.its
           rcases hown3.2 with ⟨-, h0⟩ | ⟨b3, d3, cur3, hv3', hb3, hh3, -, -, -, -⟩
           · exact absurd h0 (by rw [HLL.out]; omega)
           subst hv3'
           injection hv3 with e1 e2 e3
           subst e1 e3
           obtain rfl : n = n3 := HLL.out.symm.trans e2
           rw [HLL.out]
           clear hown3 hg3 e2)
        | ((with_reducible refine wpList_store_i rfl 3 _ _ rfl .i64 x b3 gi n d3 W0.heap.size l cur3 3 hh3 hi3 hgn hb3 ?hx ?hy ?hu ?hi ?hm); (case hx => first | rfl | simp [Act.eval, Act.put]); (case hy => rfl); (case hu => kernel_rfl); (case hi => kernel_rfl)
           intro w4 hi4 hbx
           have HX4 := Lib.hid (HX3.out.trans hbx)
           have HM := Lib.hid hi4
           clear hi4 hbx hi3)
        | (at_make
           refine wpList_make_z rfl 22 3 .i64 8 _ _ rfl Try.underlying22 (by kernel_rfl) (by omega) n rfl rfl (by omega) ?_
           intro w5 hi5 hg5
           have HX5 := Lib.hid (HX4.out.grown hg5 HX4.out.size (fun k hk => by cases hk))
           have HM := Lib.hid (HM.out.below ((Below.refl _ _).grown hg5 (Nat.le_refl _) (fun k hk => by cases hk)))
           have HZ := Lib.hid hi5
           obtain ⟨p0z, p1z, p2z, p3z, p4z⟩ := HCp.out w5 HX5.out
           clear hi5 hg5)
        | (go_at_call 20
           (with_reducible refine (HC1.out _ HX5.out).mono ?_)
           rintro e w6 ⟨rfl, hbx⟩
           have HX6 := Lib.hid (HX5.out.trans (hbx.mono HX5.out.size))
           obtain ⟨p0z, p1z, p2z, p3z, p4z⟩ := HCp.out w6 HX6.out
           have HM := Lib.hid (HM.out.below hbx)
           have HZ := Lib.hid (HZ.out.below hbx)
           clear hbx)
        | (go_at_call 20
           (with_reducible refine (HC3.out _ _ _ HX6.out HZ.out).mono ?_)
           rintro e w7 ⟨rfl, hbx⟩
           have HX7 := Lib.hid (HX6.out.trans (hbx.mono HX6.out.size))
           obtain ⟨p0z, p1z, p2z, p3z, p4z⟩ := HCp.out w7 HX7.out
           have HM := Lib.hid (HM.out.below hbx)
           have HZ := Lib.hid (HZ.out.below hbx)
           clear hbx))
      go_ret
      exact ⟨rfl, HB0.out.trans (HX7.out.mono HB0.out.size)⟩
    | true =>
      rw [hK] at HC1
      rw [clash_set hgl hx1 hx2 hK] at HC2
      clear hK hgl
      go_enter Try.func7, Try.ntmps7
      go_wp2_with (first
        | (go_at_call 8
           rw [HW.out]
           (with_reducible refine (HAW.out).mono ?_)
           rintro e w1 ⟨rfl, hbx⟩
           have HX1 := Lib.hid (HX0.out.trans (hbx.mono HX0.out.size))
           obtain ⟨p0z, p1z, p2z, p3z, p4z⟩ := HCp.out w1 HX1.out
           clear hbx)
        | (go_at_call 9
           (with_reducible refine (HFW.out _ HX1.out).mono ?_)
           rintro e w2 ⟨rfl, hbx⟩
           have HX2 := Lib.hid (HX1.out.trans (hbx.mono HX1.out.size))
           obtain ⟨p0z, p1z, p2z, p3z, p4z⟩ := HCp.out w2 HX2.out
           clear hbx)
        | (at_builtin
           refine wpList_append_i rfl 22 3 .i64 8 _ _ rfl Try.underlying22 (by kernel_rfl) (by omega) W0.heap.size (.slice none 0 0) [] rfl (OwnI.nil _ _ _ _) A n c l rfl (HLB.out _ HX2.out) (by simp; omega) HX2.out.size ?_
           intro v3 w3 hown3 hg3
           have HX3 := Lib.hid (HX2.out.grown hg3 HX2.out.size (fun k hk => by cases hk))
           rw [List.nil_append] at hown3
           obtain ⟨A3, n3, c3, hv3, hi3⟩ := hown3.its
           rcases hown3.2 with ⟨-, h0⟩ | ⟨b3, d3, cur3, hv3', hb3, hh3, -, -, -, -⟩
           · exact absurd h0 (by rw [HLL.out]; omega)
           subst hv3'
           injection hv3 with e1 e2 e3
           subst e1 e3
           obtain rfl : n = n3 := HLL.out.symm.trans e2
           rw [HLL.out]
           clear hown3 hg3 e2)
        | ((with_reducible refine wpList_store_i rfl 3 _ _ rfl .i64 x b3 gi n d3 W0.heap.size l cur3 3 hh3 hi3 hgn hb3 ?kx ?ky ?ku ?ki ?km); (case kx => first | rfl | simp [Act.eval, Act.put]); (case ky => rfl); (case ku => kernel_rfl); (case ki => kernel_rfl)
           intro w4 hi4 hbx
           have HX4 := Lib.hid (HX3.out.trans hbx)
           have HM := Lib.hid hi4
           clear hi4 hbx hi3)
        | (at_make
           refine wpList_make_z rfl 22 3 .i64 8 _ _ rfl Try.underlying22 (by kernel_rfl) (by omega) n rfl rfl (by omega) ?_
           intro w5 hi5 hg5
           have HX5 := Lib.hid (HX4.out.grown hg5 HX4.out.size (fun k hk => by cases hk))
           have HM := Lib.hid (HM.out.below ((Below.refl _ _).grown hg5 (Nat.le_refl _) (fun k hk => by cases hk)))
           have HZ := Lib.hid hi5
           obtain ⟨p0z, p1z, p2z, p3z, p4z⟩ := HCp.out w5 HX5.out
           clear hi5 hg5)
        | (go_at_call 20
           (with_reducible refine (HC1.out _ HX5.out).mono ?_)
           rintro e w6 ⟨rfl, hbx⟩
           have HX6 := Lib.hid (HX5.out.trans (hbx.mono HX5.out.size))
           obtain ⟨p0z, p1z, p2z, p3z, p4z⟩ := HCp.out w6 HX6.out
           have HM := Lib.hid (HM.out.below hbx)
           have HZ := Lib.hid (HZ.out.below hbx)
           clear hbx)
        | (go_at_call 20
           (with_reducible refine (HC2.out _ _ _ HX6.out HM.out).mono ?_)
           rintro e w7 ⟨rfl, hbx⟩
           have HX7 := Lib.hid (HX6.out.trans (hbx.mono HX6.out.size))
           obtain ⟨p0z, p1z, p2z, p3z, p4z⟩ := HCp.out w7 HX7.out
           have HM := Lib.hid (HM.out.below hbx)
           have HZ := Lib.hid (HZ.out.below hbx)
           clear hbx)
        | (go_at_call 20
           (with_reducible refine (HC3.out _ _ _ HX7.out HZ.out).mono ?_)
           rintro e w8 ⟨rfl, hbx⟩
           have HX8 := Lib.hid (HX7.out.trans (hbx.mono HX7.out.size))
           obtain ⟨p0z, p1z, p2z, p3z, p4z⟩ := HCp.out w8 HX8.out
           have HM := Lib.hid (HM.out.below hbx)
           have HZ := Lib.hid (HZ.out.below hbx)
           clear hbx))
      go_ret
      exact ⟨rfl, HB0.out.trans (HX8.out.mono HB0.out.size)⟩
end Go.Proofs.Ytekmagpokcloaaa
