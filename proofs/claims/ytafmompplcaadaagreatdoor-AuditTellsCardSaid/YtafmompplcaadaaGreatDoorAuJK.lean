/- Joined texts: The walk over the document's own Same of entries. The walk over the document's Clash of two lists: two texts of one sum. The walk over the document's May of a log. The walks over the document's slots and Room of a log. The walk over the document's record of an entry, as it would stand in a log. The walks over the library's bytes.Equal and bytes.Clone. The walks over package store's Same, and the document's. The walks over package store's methods of a file. -/
import Derived.Test.YtafmompplcaadaaGreatDoorAuJH
import Derived.Test.YtafmompplcaadaaGreatDoorAuJJ
import Derived.Test.YtafmompplcaadaaGreatDoorAuJI
import Derived.Test.YtafmompplcaadaaGreatDoorAuJG
import Derived.Test.YtafmompplcaadaaGreatDoorAuJE
import Derived.Test.YtafmompplcaadaaGreatDoorAuJA
import Derived.Lib.SliceRun
import Derived.Test.YtafmompplcaadaaGreatDoorAuJD
/- The walk over the document's own Same of entries. -/
namespace Go.Proofs.YtafmompplcaadaaGreatDoor
set_option linter.unusedVariables false
set_option linter.unusedSimpArgs false
open Go.RowKit

set_option maxHeartbeats 2000000 in
theorem ersame_any (A : Option Addr) (n c : Nat) (l : List En) (B : Option Addr) (m d : Nat) (l2 : List En) (w : World) (hl : Ens w A n c l) (hm : Ens w B m d l2) :
    Calls Tryz.prog 38 #[.slice A n c, .slice B m d] w (GBe (sameE l l2) w) := by
  have hn := hl.small
  have hn2 := hm.small
  have HL := Lib.hid hl.len
  have HL2 := Lib.hid hm.len
  by_cases hmm : n = m
  · subst hmm
    have hne : ((n : Int) != (n : Int)) = false := by simp
    go_enter Tryz.func38, Tryz.ntmps38
    go_wp2
    go_loopw [5] (fun v wr => ∃ j : Nat, j ≤ n ∧ v = .int .i64 j ∧ l.take j = l2.take j ∧ Below w.heap.size w wr) (fun v _ => n - (intOf v).toNat)
    case atStart => exact ⟨0, Nat.zero_le _, rfl, by simp, Below.refl _ _⟩
    case round =>
      obtain ⟨j, hj, rfl, hsm, hbw⟩ := hrel
      have HBW := Lib.hid hbw
      by_cases hlt : j < n
      · obtain ⟨b, off, u, rfl, hu, hr1⟩ := (hl.below hbw).range j hlt
        obtain ⟨b2, off2, v, rfl, hv, hr2⟩ := (hm.below hbw).range j hlt
        have HNX := Lib.hid (same_take hu hv hsm)
        have HST := Lib.hid (same_stop hu hv)
        have R1 := Lib.hid hr1
        have R2 := Lib.hid hr2
        have q0 : 0 ≤ (j : Int) := by omega
        have q1 : (j : Int) < n := by omega
        clear hbw hsm hu hv hr1 hr2
        go_wp2
        obtain ⟨Y0, hY0⟩ : ∃ Y, wr.drew = Y := ⟨_, rfl⟩
        have HB0 := Lib.hid (show Below w.heap.size w Y0 by rw [← hY0]; exact HBW.out.drew)
        refine wp_region_held_drew (S := (fun w' => w'.rangeAt b (off + j * 9) u.row ∧ w'.rangeAt b2 (off2 + j * 9) v.row)) (by kernel_rfl) ⟨R1.out, R2.out⟩ (fun hHeld => ?_)
        rw [hY0] at hHeld ⊢
        clear hY0
        refine take_move 0 (.tmp 0) (.slice (some ⟨b, off, none⟩) n c) rfl rfl rfl (by kernel_rfl) (by kernel_rfl) (by kernel_rfl) (fun _ _ _ h => h) rfl hHeld ?_
        simp only [Act.put, List.setIfInBounds_toArray, List.set_cons_zero, List.set_cons_succ]
        refine take_move 1 (.tmp 5) (.int .i64 j) rfl rfl rfl (by kernel_rfl) (by kernel_rfl) (by kernel_rfl) (fun _ _ _ h => h) rfl hHeld ?_
        simp only [Act.put, List.setIfInBounds_toArray, List.set_cons_zero, List.set_cons_succ]
        refine take_run 2 (.pointer (some ⟨b, off + j * 9, none⟩)) rfl (by kernel_rfl) (by kernel_rfl) (by kernel_rfl) (fun _ _ _ h => h) rfl hHeld (fun w => ?_) ?_
        · go_simp
        simp only [Act.put, List.setIfInBounds_toArray, List.set_cons_zero, List.set_cons_succ]
        refine take_if 3 (.agg (enA u)) rfl (by kernel_rfl) (by kernel_rfl) (by kernel_rfl) (fun _ _ _ h => h) rfl hHeld (fun w' hw' => ?_) ?_
        · exact run_load_en rfl rfl hw'.1
        simp only [Act.put, List.setIfInBounds_toArray, List.set_cons_zero, List.set_cons_succ]
        refine take_move 4 (.tmp 1) (.slice (some ⟨b2, off2, none⟩) n d) rfl rfl rfl (by kernel_rfl) (by kernel_rfl) (by kernel_rfl) (fun _ _ _ h => h) rfl hHeld ?_
        simp only [Act.put, List.setIfInBounds_toArray, List.set_cons_zero, List.set_cons_succ]
        refine take_move 5 (.tmp 5) (.int .i64 j) rfl rfl rfl (by kernel_rfl) (by kernel_rfl) (by kernel_rfl) (fun _ _ _ h => h) rfl hHeld ?_
        simp only [Act.put, List.setIfInBounds_toArray, List.set_cons_zero, List.set_cons_succ]
        refine take_run 6 (.pointer (some ⟨b2, off2 + j * 9, none⟩)) rfl (by kernel_rfl) (by kernel_rfl) (by kernel_rfl) (fun _ _ _ h => h) rfl hHeld (fun w => ?_) ?_
        · go_simp
        simp only [Act.put, List.setIfInBounds_toArray, List.set_cons_zero, List.set_cons_succ]
        refine take_if 7 (.agg (enA v)) rfl (by kernel_rfl) (by kernel_rfl) (by kernel_rfl) (fun _ _ _ h => h) rfl hHeld (fun w' hw' => ?_) ?_
        · exact run_load_en rfl rfl hw'.2
        simp only [Act.put, List.setIfInBounds_toArray, List.set_cons_zero, List.set_cons_succ]
        refine take_run 8 (.bool (!decide (u = v))) rfl (by kernel_rfl) (by kernel_rfl) (by kernel_rfl) (fun _ _ _ h => h) rfl hHeld (fun w => ?_) ?_
        · exact run_eq_en rfl rfl rfl (.inr ⟨rfl, rfl⟩) (eq_ens u v w)
        simp only [Act.put, List.setIfInBounds_toArray, List.set_cons_zero, List.set_cons_succ]
        refine wpAnyH_done (by kernel_rfl) ?_ _
        by_cases he : u = v
        · have hd : decide (u = v) = true := decide_eq_true he
          rw [hd]
          have HN2 := Lib.hid (HNX.out he)
          clear hd he HNX HST
          go_wp2
          go_roundw
          case rel => exact ⟨j + 1, by omega, by go_num, HN2.out, HB0.out⟩
          case measure => simp [intOf]; omega
        · have hd : decide (u = v) = false := decide_eq_false he
          rw [hd]
          have HS2 := Lib.hid (HST.out he)
          clear hd he HNX HST
          go_wp2
          go_ret
          exact ⟨by rw [HS2.out]; rfl, HB0.out⟩
      · obtain rfl : j = n := by omega
        rw [List.take_of_length_le (by rw [HL.out]; exact Nat.le_refl _), List.take_of_length_le (by rw [HL2.out]; exact Nat.le_refl _)] at hsm
        have HS := Lib.hid (show sameE l l2 = true by rw [sameE, decide_eq_true_eq]; exact hsm)
        clear hbw hsm
        go_wp2
        go_ret
        exact ⟨by rw [HS.out]; rfl, HBW.out⟩
  · have hne : ((n : Int) != (m : Int)) = true := by rw [bne_iff_ne]; omega
    have hr : false = sameE l l2 := (same_len (by rw [HL.out, HL2.out]; exact hmm)).symm
    have HR := Lib.hid hr
    clear hr
    go_enter Tryz.func38, Tryz.ntmps38
    go_wp2
    go_ret
    exact ⟨congrArg (fun b => Ending.returned (Value.bool b)) HR.out, Below.refl _ _⟩
end Go.Proofs.YtafmompplcaadaaGreatDoor

/- The walk over the document's Clash of two lists: two texts of one sum. -/
namespace Go.Proofs.YtafmompplcaadaaGreatDoor
set_option maxRecDepth 100000
set_option linter.unusedVariables false
set_option linter.unusedSimpArgs false
open Go.RowKit

theorem eq_ids (x y : List Int) (hx : x.length = 32) (hy : y.length = 32) (w : World) : (Op.equalIn 10000 27 (.agg (idv x)) (.agg (idv y))).run Tryz.prog w = .ok (decide (x = y)) w := by
  rw [← cbeq_dec]
  exact run_equalIn_ints w 9998 27 5 32 .u8 Tryz.underlying27 Tryz.underlying5 (size_of (by kernel_rfl)) x y hx hy
theorem run_eq_id {op : BinOp} {ρ : Operand → Value} {o : Oper} {x y : Operand} {xs ys : Array Value} {E r : Bool} {w : World} (ho : o.op = .binOp op 27 x y 27) (hx : ρ x = .agg xs) (hy : ρ y = .agg ys) (hr : op = .eql ∧ r = E ∨ op = .neq ∧ r = !E)
    (h : (Op.equalIn 10000 27 (.agg xs) (.agg ys)).run Tryz.prog w = .ok E w) : (execOp ρ o).run Tryz.prog w = .ok (.value (.bool r)) w := by
  unfold execOp
  rw [ho]
  have hm : Tryz.prog.eqGuardType Tryz.prog.depth 27 = false := by kernel_rfl
  rcases hr with ⟨rfl, rfl⟩ | ⟨rfl, rfl⟩
  · simp only [hx, hy, Sem.run_bind, run_eqGuard_agg (hm := hm), run_eql_struct, h, Result.andThen_ok, Sem.run_pure, Sem.run_map]
  · simp only [hx, hy, Sem.run_bind, run_eqGuard_agg (hm := hm), run_neq_struct, h, Result.andThen_ok, Sem.run_pure, Sem.run_map]
theorem wpList_eq_id {ops : Array Oper} {rest : List Oper} {o : Oper} {a : Act} {w : World} {Q : Exit → Act → World → Prop} (op : BinOp) (x y : Operand) (ho : o.op = .binOp op 27 x y 27) (xs ys : Array Value) (hx : a.eval x = .agg xs) (hy : a.eval y = .agg ys) (E r : Bool) (hr : op = .eql ∧ r = E ∨ op = .neq ∧ r = !E)
    (hE : ∀ w, (Op.equalIn 10000 27 (.agg xs) (.agg ys)).run Tryz.prog w = .ok E w) (h : wpList Tryz.prog ops Q rest (a.put o.dst (.bool r)) w) (hw : Region.wanted o (yielded ops a.tmps) = true) : wpList Tryz.prog ops Q (o :: rest) a w :=
  wpList_step fun K hK => by
    rw [if_pos hw]
    unfold Oper.wp
    rw [run_eq_id ho hx hy hr (hE w)]
    exact hK _ _ h
theorem clash_on {a b : List En} {i k : Nat} (h : textC (a.take (i + 1)) = textC (b.take (k + 1))) : clashIx a b (i + 1) (k + 1) = clashIx a b i k := by rw [clashIx, if_pos h]
theorem clash_off {a b : List En} {i k : Nat} (h : ¬ (textC (a.take i) = textC (b.take k) ∧ 0 < i ∧ 0 < k)) : clashIx a b i k = (i, k) := by
  match i, k with
  | 0, 0 => rfl
  | 0, k + 1 => rfl
  | i + 1, 0 => rfl
  | i + 1, k + 1 =>
    rw [clashIx, if_neg (fun e => h ⟨e, Nat.succ_pos _, Nat.succ_pos _⟩)]
theorem results_ttt {fn : Func} {p q r : Tmp} (h : fn.results = #[.tmp p, .tmp q, .tmp r]) (tmps : Array Value) (P : Program) (w : World) (u v z : Value) (hp : tmps.getD p undef = u) (hq : tmps.getD q undef = v) (hr : tmps.getD r undef = z) :
    (results fn tmps).run P w = .ok (.tuple #[u, v, z]) w := by
  have hp' : tmps[p]?.getD undef = u := by simpa using hp
  have hq' : tmps[q]?.getD undef = v := by simpa using hq
  have hr' : tmps[r]?.getD undef = z := by simpa using hr
  simp [results, h, hp', hq', hr']
/-- gives two slices of bytes and a bool -/
def GC (L M : List Int) (b : Bool) (w : World) (e : Ending) (w' : World) : Prop := ∃ A1 n1 c1 A2 n2 c2, e = .returned (.tuple #[.slice A1 n1 c1, .slice A2 n2 c2, .bool b]) ∧ Bts w' A1 n1 c1 L ∧ Bts w' A2 n2 c2 M ∧ Below w.heap.size w w'
end Go.Proofs.YtafmompplcaadaaGreatDoor

/- The walk over the document's May of a log. -/
namespace Go.Proofs.YtafmompplcaadaaGreatDoor
set_option maxRecDepth 100000
set_option linter.unusedVariables false
set_option linter.unusedSimpArgs false
open Go.RowKit

theorem put_z_len (l : List En) : (if putC l then headC l else noughtsC).length = 32 := by split; exact headC_len _; rfl
set_option maxHeartbeats 2000000 in
theorem armay_no (p : Lp) (g : Lg) (w : World) (h : LgAt w p g) (hm : mayP g.st = false) :
    Calls Tryz.prog 16 #[.agg p.arr] w (GBe false w) := by
  have hns := h.data.small
  have hnl := h.data.len
  have hHL := h.hlen
  have HMY := Lib.hid (fun X => rstmay_any p.cap p.A p.n p.c p.sure X (by omega))
  rw [h.may] at HMY
  have HPU := Lib.hid (fun (X : World) (hX : Below w.heap.size w X) => rputc_any p.B p.m p.d g.l X (h.ents.below hX) h.ok.each)
  have HDT := Lib.hid (fun (X : World) (hX : Below w.heap.size w X) => h.data.below hX)
  have hbox := heap_alloc_new w (.cells p.arr 29 (0, 0))
  have HB0 := Lib.hid (one_alloc w (.cells p.arr 29 (0, 0)))
  have hrs := lg_st hbox
  have HZL := Lib.hid (put_z_len g.l)
  rw [hm] at HMY
  obtain ⟨RC, hRC⟩ : ∃ R, (if putC g.l then recsC g.l else []) = R := ⟨_, rfl⟩
  obtain ⟨Z, hZ⟩ : ∃ R, (if putC g.l then headC g.l else noughtsC) = R := ⟨_, rfl⟩
  rw [hZ] at HZL
  skip
  rw [hRC, hZ] at HPU
  clear h hRC hZ
  go_enter Tryz.func16, Tryz.ntmps16
  go_wp2_with (first
    | ((with_reducible refine wpList_load_on 24 _ rfl w.heap.size 0 ?hx1 [.int .i64 p.cap, .slice p.A p.n p.c, .int .i64 p.sure] _ rfl _ hrs Tryz.underlying24 ?hd1 (by kernel_rfl) ?_ ?hw1); (case hx1 => rfl); (case hd1 => rfl); (case hw1 => rfl))
    | (go_at_call 31
       (with_reducible refine (HMY.out _).mono ?_)
       rintro e w1 ⟨rfl, hb1⟩
       have hbox := (hb1.block _ (Array.getElem?_eq_some_iff.1 hbox).1).trans hbox
       obtain ⟨x0, x1, x2, x3⟩ := lg_cells hbox
       have HB1 := Lib.hid (HB0.out.trans (hb1.mono HB0.out.size))
       clear hb1)
    | (go_at_call 41
       (with_reducible refine (HPU.out _ HB1.out).mono ?_)
       rintro e w2 ⟨A6, n6, c6, rfl, hbt, hbx⟩
       have HBT := Lib.hid hbt
       have hbox := (hbx.block _ (Array.getElem?_eq_some_iff.1 hbox).1).trans hbox
       clear x0 x1 x2 x3
       have HB2 := Lib.hid (HB1.out.trans (hbx.mono HB1.out.size))
       clear hbt hbx)
    | ((with_reducible refine wpList_store_blk rfl 27 _ _ rfl w2.heap.size (idv Z) ?hx2 ?hy2 27 _ (heap_alloc_new w2 _) (info32 HZL.out) ?hs2 (idv_one _) ?_); (case hx2 => rfl); (case hy2 => rfl); (case hs2 => rw [idv_size, HZL.out]; rfl)
       intro w3 hg2 hH hs2
       have hbx : Below w2.heap.size w2 w3 := Below.grows (one_alloc w2 _) hg2 (size_le_alloc _ _) (Nat.le_refl _)
       have HB3 := Lib.hid (HB2.out.trans (hbx.mono HB2.out.size))
       have hbox := (hbx.block _ (Array.getElem?_eq_some_iff.1 hbox).1).trans hbox
       have HBT := Lib.hid (HBT.out.below hbx)
       clear hbx hg2 hs2
       skip))
  go_ret
  exact ⟨rfl, HB3.out⟩
set_option maxHeartbeats 2000000 in
theorem armay_not (p : Lp) (g : Lg) (w : World) (h : LgAt w p g) (hm : mayP g.st = true) (hp : putC g.l = false) :
    Calls Tryz.prog 16 #[.agg p.arr] w (GBe false w) := by
  have hns := h.data.small
  have hnl := h.data.len
  have hHL := h.hlen
  have HMY := Lib.hid (fun X => rstmay_any p.cap p.A p.n p.c p.sure X (by omega))
  rw [h.may] at HMY
  have HPU := Lib.hid (fun (X : World) (hX : Below w.heap.size w X) => rputc_any p.B p.m p.d g.l X (h.ents.below hX) h.ok.each)
  have HDT := Lib.hid (fun (X : World) (hX : Below w.heap.size w X) => h.data.below hX)
  have hbox := heap_alloc_new w (.cells p.arr 29 (0, 0))
  have HB0 := Lib.hid (one_alloc w (.cells p.arr 29 (0, 0)))
  have hrs := lg_st hbox
  have HZL := Lib.hid (put_z_len g.l)
  rw [hm] at HMY

  obtain ⟨RC, hRC⟩ : ∃ R, (if putC g.l then recsC g.l else []) = R := ⟨_, rfl⟩
  obtain ⟨Z, hZ⟩ : ∃ R, (if putC g.l then headC g.l else noughtsC) = R := ⟨_, rfl⟩
  rw [hZ] at HZL
  skip
  rw [hRC, hZ, hp] at HPU
  clear h hRC hZ
  go_enter Tryz.func16, Tryz.ntmps16
  go_wp2_with (first
    | ((with_reducible refine wpList_load_on 24 _ rfl w.heap.size 0 ?hx1 [.int .i64 p.cap, .slice p.A p.n p.c, .int .i64 p.sure] _ rfl _ hrs Tryz.underlying24 ?hd1 (by kernel_rfl) ?_ ?hw1); (case hx1 => rfl); (case hd1 => rfl); (case hw1 => rfl))
    | (go_at_call 31
       (with_reducible refine (HMY.out _).mono ?_)
       rintro e w1 ⟨rfl, hb1⟩
       have hbox := (hb1.block _ (Array.getElem?_eq_some_iff.1 hbox).1).trans hbox
       obtain ⟨x0, x1, x2, x3⟩ := lg_cells hbox
       have HB1 := Lib.hid (HB0.out.trans (hb1.mono HB0.out.size))
       clear hb1)
    | (go_at_call 41
       (with_reducible refine (HPU.out _ HB1.out).mono ?_)
       rintro e w2 ⟨A6, n6, c6, rfl, hbt, hbx⟩
       have HBT := Lib.hid hbt
       have hbox := (hbx.block _ (Array.getElem?_eq_some_iff.1 hbox).1).trans hbox
       clear x0 x1 x2 x3
       have HB2 := Lib.hid (HB1.out.trans (hbx.mono HB1.out.size))
       clear hbt hbx)
    | ((with_reducible refine wpList_store_blk rfl 27 _ _ rfl w2.heap.size (idv Z) ?hx2 ?hy2 27 _ (heap_alloc_new w2 _) (info32 HZL.out) ?hs2 (idv_one _) ?_); (case hx2 => rfl); (case hy2 => rfl); (case hs2 => rw [idv_size, HZL.out]; rfl)
       intro w3 hg2 hH hs2
       have hbx : Below w2.heap.size w2 w3 := Below.grows (one_alloc w2 _) hg2 (size_le_alloc _ _) (Nat.le_refl _)
       have HB3 := Lib.hid (HB2.out.trans (hbx.mono HB2.out.size))
       have hbox := (hbx.block _ (Array.getElem?_eq_some_iff.1 hbox).1).trans hbox
       have HBT := Lib.hid (HBT.out.below hbx)
       clear hbx hg2 hs2
       skip))
  go_ret
  exact ⟨rfl, HB3.out⟩
set_option maxHeartbeats 2000000 in
theorem armay_sure (p : Lp) (g : Lg) (w : World) (h : LgAt w p g) (hm : mayP g.st = true) (hp : putC g.l = true) (hq : ¬ p.sure = (p.n : Int)) :
    Calls Tryz.prog 16 #[.agg p.arr] w (GBe false w) := by
  have hns := h.data.small
  have hnl := h.data.len
  have hHL := h.hlen
  have HMY := Lib.hid (fun X => rstmay_any p.cap p.A p.n p.c p.sure X (by omega))
  rw [h.may] at HMY
  have HPU := Lib.hid (fun (X : World) (hX : Below w.heap.size w X) => rputc_any p.B p.m p.d g.l X (h.ents.below hX) h.ok.each)
  have HDT := Lib.hid (fun (X : World) (hX : Below w.heap.size w X) => h.data.below hX)
  have hbox := heap_alloc_new w (.cells p.arr 29 (0, 0))
  have HB0 := Lib.hid (one_alloc w (.cells p.arr 29 (0, 0)))
  have hrs := lg_st hbox
  have HZL := Lib.hid (put_z_len g.l)
  rw [hm] at HMY

  obtain ⟨RC, hRC⟩ : ∃ R, (if putC g.l then recsC g.l else []) = R := ⟨_, rfl⟩
  obtain ⟨Z, hZ⟩ : ∃ R, (if putC g.l then headC g.l else noughtsC) = R := ⟨_, rfl⟩
  rw [hZ] at HZL
  skip
  rw [hRC, hZ, hp] at HPU
  clear h hRC hZ
  go_enter Tryz.func16, Tryz.ntmps16
  go_wp2_with (first
    | ((with_reducible refine wpList_load_on 24 _ rfl w.heap.size 0 ?hx1 [.int .i64 p.cap, .slice p.A p.n p.c, .int .i64 p.sure] _ rfl _ hrs Tryz.underlying24 ?hd1 (by kernel_rfl) ?_ ?hw1); (case hx1 => rfl); (case hd1 => rfl); (case hw1 => rfl))
    | (go_at_call 31
       (with_reducible refine (HMY.out _).mono ?_)
       rintro e w1 ⟨rfl, hb1⟩
       have hbox := (hb1.block _ (Array.getElem?_eq_some_iff.1 hbox).1).trans hbox
       obtain ⟨x0, x1, x2, x3⟩ := lg_cells hbox
       have HB1 := Lib.hid (HB0.out.trans (hb1.mono HB0.out.size))
       clear hb1)
    | (go_at_call 41
       (with_reducible refine (HPU.out _ HB1.out).mono ?_)
       rintro e w2 ⟨A6, n6, c6, rfl, hbt, hbx⟩
       have HBT := Lib.hid hbt
       have hbox := (hbx.block _ (Array.getElem?_eq_some_iff.1 hbox).1).trans hbox
       clear x0 x1 x2 x3
       have HB2 := Lib.hid (HB1.out.trans (hbx.mono HB1.out.size))
       clear hbt hbx)
    | ((with_reducible refine wpList_store_blk rfl 27 _ _ rfl w2.heap.size (idv Z) ?hx2 ?hy2 27 _ (heap_alloc_new w2 _) (info32 HZL.out) ?hs2 (idv_one _) ?_); (case hx2 => rfl); (case hy2 => rfl); (case hs2 => rw [idv_size, HZL.out]; rfl)
       intro w3 hg2 hH hs2
       have hbx : Below w2.heap.size w2 w3 := Below.grows (one_alloc w2 _) hg2 (size_le_alloc _ _) (Nat.le_refl _)
       have HB3 := Lib.hid (HB2.out.trans (hbx.mono HB2.out.size))
       have hbox := (hbx.block _ (Array.getElem?_eq_some_iff.1 hbox).1).trans hbox
       have HBT := Lib.hid (HBT.out.below hbx)
       clear hbx hg2 hs2
       obtain ⟨x0, x1, x2, x3⟩ := lg_cells hbox))
  go_ret
  exact ⟨rfl, HB3.out⟩
set_option maxHeartbeats 2000000 in
theorem armay_data (p : Lp) (g : Lg) (w : World) (h : LgAt w p g) (hm : mayP g.st = true) (hp : putC g.l = true) (hq : p.sure = (p.n : Int)) (hr : ¬ recsC g.l = g.st.data) :
    Calls Tryz.prog 16 #[.agg p.arr] w (GBe false w) := by
  have hns := h.data.small
  have hnl := h.data.len
  have hHL := h.hlen
  have HMY := Lib.hid (fun X => rstmay_any p.cap p.A p.n p.c p.sure X (by omega))
  rw [h.may] at HMY
  have HPU := Lib.hid (fun (X : World) (hX : Below w.heap.size w X) => rputc_any p.B p.m p.d g.l X (h.ents.below hX) h.ok.each)
  have HDT := Lib.hid (fun (X : World) (hX : Below w.heap.size w X) => h.data.below hX)
  have hbox := heap_alloc_new w (.cells p.arr 29 (0, 0))
  have HB0 := Lib.hid (one_alloc w (.cells p.arr 29 (0, 0)))
  have hrs := lg_st hbox
  have HZL := Lib.hid (put_z_len g.l)
  rw [hm] at HMY
  have HQ := Lib.hid hq
  clear hq
  have hko : ∀ i, 0 ≤ (if putC g.l then recsC g.l else []).getD i 0 ∧ (if putC g.l then recsC g.l else []).getD i 0 < 256 := by
    rw [hp, if_pos rfl]; exact recs_byte _
  obtain ⟨x, hx⟩ : ∃ x, bstr (if putC g.l then recsC g.l else []) = x := ⟨_, rfl⟩
  obtain ⟨y, hy⟩ : ∃ x, bstr g.st.data = x := ⟨_, rfl⟩
  have hk3 := run_eq_bstr (if putC g.l then recsC g.l else []) g.st.data hko h.data.ok
  rw [hx, hy, show ((if putC g.l then recsC g.l else []) == g.st.data) = false by rw [hp, if_pos rfl]; simp [hr]] at hk3
  have K3 := Lib.hid hk3
  have HX := Lib.hid hx
  have HY := Lib.hid hy
  clear hk3 hx hy hko

  obtain ⟨RC, hRC⟩ : ∃ R, (if putC g.l then recsC g.l else []) = R := ⟨_, rfl⟩
  obtain ⟨Z, hZ⟩ : ∃ R, (if putC g.l then headC g.l else noughtsC) = R := ⟨_, rfl⟩
  rw [hZ] at HZL
  rw [hRC] at HX
  rw [hRC, hZ, hp] at HPU
  clear h hRC hZ
  go_enter Tryz.func16, Tryz.ntmps16
  go_wp2_with (first
    | ((with_reducible refine wpList_load_on 24 _ rfl w.heap.size 0 ?hx1 [.int .i64 p.cap, .slice p.A p.n p.c, .int .i64 p.sure] _ rfl _ hrs Tryz.underlying24 ?hd1 (by kernel_rfl) ?_ ?hw1); (case hx1 => rfl); (case hd1 => rfl); (case hw1 => rfl))
    | (go_at_call 31
       (with_reducible refine (HMY.out _).mono ?_)
       rintro e w1 ⟨rfl, hb1⟩
       have hbox := (hb1.block _ (Array.getElem?_eq_some_iff.1 hbox).1).trans hbox
       obtain ⟨x0, x1, x2, x3⟩ := lg_cells hbox
       have HB1 := Lib.hid (HB0.out.trans (hb1.mono HB0.out.size))
       clear hb1)
    | (go_at_call 41
       (with_reducible refine (HPU.out _ HB1.out).mono ?_)
       rintro e w2 ⟨A6, n6, c6, rfl, hbt, hbx⟩
       have HBT := Lib.hid hbt
       have hbox := (hbx.block _ (Array.getElem?_eq_some_iff.1 hbox).1).trans hbox
       clear x0 x1 x2 x3
       have HB2 := Lib.hid (HB1.out.trans (hbx.mono HB1.out.size))
       clear hbt hbx)
    | ((with_reducible refine wpList_store_blk rfl 27 _ _ rfl w2.heap.size (idv Z) ?hx2 ?hy2 27 _ (heap_alloc_new w2 _) (info32 HZL.out) ?hs2 (idv_one _) ?_); (case hx2 => rfl); (case hy2 => rfl); (case hs2 => rw [idv_size, HZL.out]; rfl)
       intro w3 hg2 hH hs2
       have hbx : Below w2.heap.size w2 w3 := Below.grows (one_alloc w2 _) hg2 (size_le_alloc _ _) (Nat.le_refl _)
       have HB3 := Lib.hid (HB2.out.trans (hbx.mono HB2.out.size))
       have hbox := (hbx.block _ (Array.getElem?_eq_some_iff.1 hbox).1).trans hbox
       have HBT := Lib.hid (HBT.out.below hbx)
       clear hbx hg2 hs2
       have hq := HQ.out
       obtain ⟨x0, x1, x2, x3⟩ := lg_cells hbox
       have k1 := conv_bts HBT.out
       have k2 := conv_bts (HDT.out _ HB3.out)
       rw [HX.out] at k1
       rw [HY.out] at k2
       have k3 := K3.out))
  go_ret
  exact ⟨rfl, HB3.out⟩
set_option maxHeartbeats 2000000 in
theorem armay_head (p : Lp) (g : Lg) (w : World) (h : LgAt w p g) (hm : mayP g.st = true) (hp : putC g.l = true) (hq : p.sure = (p.n : Int)) (hr : recsC g.l = g.st.data) :
    Calls Tryz.prog 16 #[.agg p.arr] w (GBe (decide (headC g.l = g.head)) w) := by
  have hns := h.data.small
  have hnl := h.data.len
  have hHL := h.hlen
  have HMY := Lib.hid (fun X => rstmay_any p.cap p.A p.n p.c p.sure X (by omega))
  rw [h.may] at HMY
  have HPU := Lib.hid (fun (X : World) (hX : Below w.heap.size w X) => rputc_any p.B p.m p.d g.l X (h.ents.below hX) h.ok.each)
  have HDT := Lib.hid (fun (X : World) (hX : Below w.heap.size w X) => h.data.below hX)
  have hbox := heap_alloc_new w (.cells p.arr 29 (0, 0))
  have HB0 := Lib.hid (one_alloc w (.cells p.arr 29 (0, 0)))
  have hrs := lg_st hbox
  have HZL := Lib.hid (put_z_len g.l)
  rw [hm] at HMY
  have HQ := Lib.hid hq
  clear hq
  have hko : ∀ i, 0 ≤ (if putC g.l then recsC g.l else []).getD i 0 ∧ (if putC g.l then recsC g.l else []).getD i 0 < 256 := by
    rw [hp, if_pos rfl]; exact recs_byte _
  obtain ⟨x, hx⟩ : ∃ x, bstr (if putC g.l then recsC g.l else []) = x := ⟨_, rfl⟩
  obtain ⟨y, hy⟩ : ∃ x, bstr g.st.data = x := ⟨_, rfl⟩
  have hk3 := run_eq_bstr (if putC g.l then recsC g.l else []) g.st.data hko h.data.ok
  rw [hx, hy, show ((if putC g.l then recsC g.l else []) == g.st.data) = true by rw [hp, if_pos rfl]; simp [hr]] at hk3
  have K3 := Lib.hid hk3
  have HX := Lib.hid hx
  have HY := Lib.hid hy
  clear hk3 hx hy hko

  have HE := Lib.hid (show ∀ w, (Op.equalIn 10000 27 (.agg (idv (if putC g.l then headC g.l else noughtsC))) (.agg (idv p.H))).run Tryz.prog w = .ok (decide (headC g.l = g.head)) w from fun w => by rw [eq_ids _ _ HZL.out hHL, hp, if_pos rfl, h.head])
  have HHI := Lib.hid (show (Tryz.prog.info? 27).map (·.size) = some (byv p.H).length by rw [byv_length, hHL]; kernel_rfl)
  obtain ⟨E, hE⟩ : ∃ E, decide (headC g.l = g.head) = E := ⟨_, rfl⟩
  rw [hE] at HE ⊢
  clear hE
  obtain ⟨RC, hRC⟩ : ∃ R, (if putC g.l then recsC g.l else []) = R := ⟨_, rfl⟩
  obtain ⟨Z, hZ⟩ : ∃ R, (if putC g.l then headC g.l else noughtsC) = R := ⟨_, rfl⟩
  rw [hZ] at HZL
  rw [hRC] at HX
  rw [hZ] at HE
  rw [hRC, hZ, hp] at HPU
  clear h hRC hZ
  go_enter Tryz.func16, Tryz.ntmps16
  go_wp2_with (first
    | ((with_reducible refine wpList_load_on 24 _ rfl w.heap.size 0 ?hx1 [.int .i64 p.cap, .slice p.A p.n p.c, .int .i64 p.sure] _ rfl _ hrs Tryz.underlying24 ?hd1 (by kernel_rfl) ?_ ?hw1); (case hx1 => rfl); (case hd1 => rfl); (case hw1 => rfl))
    | (go_at_call 31
       (with_reducible refine (HMY.out _).mono ?_)
       rintro e w1 ⟨rfl, hb1⟩
       have hbox := (hb1.block _ (Array.getElem?_eq_some_iff.1 hbox).1).trans hbox
       obtain ⟨x0, x1, x2, x3⟩ := lg_cells hbox
       have HB1 := Lib.hid (HB0.out.trans (hb1.mono HB0.out.size))
       clear hb1)
    | (go_at_call 41
       (with_reducible refine (HPU.out _ HB1.out).mono ?_)
       rintro e w2 ⟨A6, n6, c6, rfl, hbt, hbx⟩
       have HBT := Lib.hid hbt
       have hbox := (hbx.block _ (Array.getElem?_eq_some_iff.1 hbox).1).trans hbox
       clear x0 x1 x2 x3
       have HB2 := Lib.hid (HB1.out.trans (hbx.mono HB1.out.size))
       clear hbt hbx)
    | ((with_reducible refine wpList_store_blk rfl 27 _ _ rfl w2.heap.size (idv Z) ?hx2 ?hy2 27 _ (heap_alloc_new w2 _) (info32 HZL.out) ?hs2 (idv_one _) ?_); (case hx2 => rfl); (case hy2 => rfl); (case hs2 => rw [idv_size, HZL.out]; rfl)
       intro w3 hg2 hH hs2
       have hbx : Below w2.heap.size w2 w3 := Below.grows (one_alloc w2 _) hg2 (size_le_alloc _ _) (Nat.le_refl _)
       have HB3 := Lib.hid (HB2.out.trans (hbx.mono HB2.out.size))
       have hbox := (hbx.block _ (Array.getElem?_eq_some_iff.1 hbox).1).trans hbox
       have HBT := Lib.hid (HBT.out.below hbx)
       have hrh := lg_head hbox
       clear hbx hg2 hs2
       have hq := HQ.out
       obtain ⟨x0, x1, x2, x3⟩ := lg_cells hbox
       have k1 := conv_bts HBT.out
       have k2 := conv_bts (HDT.out _ HB3.out)
       rw [HX.out] at k1
       rw [HY.out] at k2
       have k3 := K3.out)
    | ((with_reducible refine wpList_load_blk 27 _ rfl w2.heap.size ?hx3 27 (idv Z) (0, 0) _ hH Tryz.underlying27 ?hd3 (info32 HZL.out) ?_ ?hw3); (case hx3 => rfl); (case hd3 => rfl); (case hw3 => rfl))
    | ((with_reducible refine wpList_load_on 27 _ rfl w.heap.size 4 ?hx4 (byv p.H) (idv p.H) rfl _ hrh Tryz.underlying27 ?hd4 HHI.out ?_ ?hw4); (case hx4 => rfl); (case hd4 => rfl); (case hw4 => rfl))
    | ((with_reducible refine wpList_eq_id .eql _ _ rfl (idv Z) (idv p.H) ?hx5 ?hy5 E E (.inl ⟨rfl, rfl⟩) (fun w => HE.out w) ?_ ?hw5); (case hx5 => rfl); (case hy5 => rfl); (case hw5 => rfl)))
  go_ret
  exact ⟨rfl, HB3.out⟩
theorem armay_any (p : Lp) (g : Lg) (w : World) (h : LgAt w p g) : Calls Tryz.prog 16 #[.agg p.arr] w (GBe (mayG g) w) := by
  cases hm : mayP g.st with
  | false => rw [show mayG g = false by rw [mayG, hm]; rfl]; exact armay_no p g w h hm
  | true =>
    cases hp : putC g.l with
    | false => rw [show mayG g = false by rw [mayG, hp]; simp]; exact armay_not p g w h hm hp
    | true =>
      by_cases hq : p.sure = (p.n : Int)
      · have hq' : g.st.sure = (g.st.data.length : Int) := by rw [← h.sure, hq, h.data.len]
        by_cases hr : recsC g.l = g.st.data
        · rw [show mayG g = decide (headC g.l = g.head) by rw [mayG, hm, hp, decide_eq_true hq', decide_eq_true hr]; simp]; exact armay_head p g w h hm hp hq hr
        · rw [show mayG g = false by rw [mayG, decide_eq_false hr]; simp]; exact armay_data p g w h hm hp hq hr
      · have hq' : ¬ g.st.sure = (g.st.data.length : Int) := by rw [← h.sure, h.data.len]; exact hq
        rw [show mayG g = false by rw [mayG, decide_eq_false hq']; simp]
        exact armay_sure p g w h hm hp hq
end Go.Proofs.YtafmompplcaadaaGreatDoor

/- The walks over the document's slots and Room of a log. -/
namespace Go.Proofs.YtafmompplcaadaaGreatDoor
set_option maxRecDepth 100000
set_option linter.unusedVariables false
set_option linter.unusedSimpArgs false
open Go.RowKit

theorem slots_at {c : Int} (h : -9223372036854775808 ≤ c ∧ c ≤ 9223372036854775807) : -150000000000000000 ≤ c.tdiv 62 ∧ c.tdiv 62 ≤ 150000000000000000 := by
  by_cases hc : 0 ≤ c
  · rw [Int.tdiv_eq_ediv_of_nonneg hc]; omega
  · have e : c.tdiv 62 = -((-c).tdiv 62) := by rw [← Int.neg_tdiv, Int.neg_neg]
    rw [e, Int.tdiv_eq_ediv_of_nonneg (by omega : 0 ≤ -c)]; omega
set_option maxHeartbeats 1000000 in
theorem arslots_any (p : Lp) (w : World) (hH : p.H.length = 32) (hf : -9223372036854775808 ≤ p.cap ∧ p.cap ≤ 9223372036854775807) :
    Calls Tryz.prog 25 #[.agg p.arr] w fun e w' => e = .returned (.int .i64 (p.cap.tdiv 62)) ∧ Below w.heap.size w w' := by
  obtain ⟨x0, x1, x2, x3⟩ := lg_cells (heap_alloc_new w (.cells p.arr 29 (0, 0)))
  have HB0 := Lib.hid (one_alloc w (.cells p.arr 29 (0, 0)))
  have hs := slots_at hf
  go_enter Tryz.func25, Tryz.ntmps25
  go_wp2
  go_ret
  exact ⟨rfl, HB0.out⟩
theorem room_no {g : Lg} (h : mayG g = false) : roomG g = 0 := by rw [roomG, if_neg (by rw [h]; simp)]
theorem room_yes {g : Lg} (h : mayG g = true) : roomG g = max (slotsG g - 4 - g.l.length) 0 := by rw [roomG, if_pos h]
set_option maxHeartbeats 2000000 in
theorem arroom_any (p : Lp) (g : Lg) (w : World) (h : LgAt w p g) (hsm : p.m ≤ 1000000) : Calls Tryz.prog 20 #[.agg p.arr] w fun e w' => e = .returned (.int .i64 (roomG g)) ∧ Below w.heap.size w w' := by
  have hns := h.ents.small
  have hnl := h.ents.len
  have HMY := Lib.hid (fun (X : World) (hX : Below w.heap.size w X) => armay_any p g X (h.below hX))
  have hbox := heap_alloc_new w (.cells p.arr 29 (0, 0))
  have HB0 := Lib.hid (one_alloc w (.cells p.arr 29 (0, 0)))
  have HW := Lib.hid h.whole
  have HSL := Lib.hid (fun X => arslots_any p X h.hlen h.fits)
  have hsl := slots_at h.fits
  have hsq : slotsG g = p.cap.tdiv 62 := by rw [slotsG, h.cap]
  obtain ⟨q, hq⟩ : ∃ q, p.cap.tdiv 62 = q := ⟨_, rfl⟩
  simp only [hq] at HSL hsl hsq
  have hw0 : IntKind.i64.wrap (q - 4) = q - 4 := by rw [IntKind.wrap_i64]; omega
  have hw1 : IntKind.i64.wrap (q - 4 - p.m) = q - 4 - p.m := by rw [IntKind.wrap_i64]; omega
  obtain ⟨M, hM⟩ : ∃ M, mayG g = M := ⟨_, rfl⟩
  have hRN : M = false → roomG g = 0 := fun e => room_no (hM.trans e)
  have hRY : M = true → roomG g = max (q - 4 - p.m) 0 := fun e => by rw [room_yes (hM.trans e), hsq, hnl]
  simp only [hM] at HMY
  have HRN := Lib.hid hRN
  have HRY := Lib.hid hRY
  clear h hM hsq hq hRN hRY hnl
  obtain ⟨R, hR⟩ : ∃ R, roomG g = R := ⟨_, rfl⟩
  rw [hR] at HRN HRY ⊢
  clear hR
  go_enter Tryz.func20, Tryz.ntmps20
  go_wp2_with (first
    | ((with_reducible refine wpList_load_blk 29 _ rfl w.heap.size ?hx1 29 p.arr (0, 0) _ hbox Tryz.underlying29 ?hd1 HW.out ?_ ?hw1); (case hx1 => rfl); (case hd1 => rfl); (case hw1 => rfl))
    | (go_at_call 16
       (with_reducible refine (HMY.out _ HB0.out).mono ?_)
       rintro e w1 ⟨rfl, hb1⟩
       have hb1 : Below (w.alloc (.cells p.arr 29 (0, 0))).heap.size (w.alloc (.cells p.arr 29 (0, 0))) w1 := hb1
       have hbox := blk_below hbox hb1
       have HB1 := Lib.hid (HB0.out.trans (hb1.mono HB0.out.size))
       clear hb1))
  have hSd : w1.drew.heap[w.heap.size]? = some (.cells p.arr 29 (0, 0)) ∧ Below w.heap.size w w1.drew := ⟨blk_drew hbox, HB1.out.drew⟩
  clear hbox
  refine wp_region_held_drew (S := fun X => X.heap[w.heap.size]? = some (.cells p.arr 29 (0, 0)) ∧ Below w.heap.size w X) (by kernel_rfl) hSd (fun hHeld => ?_)
  refine take_blk 0 29 _ w.heap.size 29 _ (0, 0) _ rfl rfl rfl (by kernel_rfl) (by kernel_rfl) (by kernel_rfl) (fun _ _ _ h => h) rfl hHeld (fun X hX => hX.1) Tryz.underlying29 rfl HW.out ?_
  simp only [Act.put, List.setIfInBounds_toArray, List.set_cons_zero, List.set_cons_succ]
  refine take_run 3 (.pointer (some ⟨w.heap.size, 3, none⟩)) rfl (by kernel_rfl) (by kernel_rfl) (by kernel_rfl) (fun _ _ _ h => h) rfl hHeld (fun w => ?_) ?_
  · go_simp
  simp only [Act.put, List.setIfInBounds_toArray, List.set_cons_zero, List.set_cons_succ]
  refine take_if 4 (.slice p.B p.m p.d) rfl (by kernel_rfl) (by kernel_rfl) (by kernel_rfl) (fun _ _ _ h => h) rfl hHeld (fun w' hw' => ?_) ?_
  · have hq := (lg_cells hw'.1).2.2.2
    go_simp
  simp only [Act.put, List.setIfInBounds_toArray, List.set_cons_zero, List.set_cons_succ]
  refine take_run 5 (.int .i64 p.m) rfl (by kernel_rfl) (by kernel_rfl) (by kernel_rfl) (fun _ _ _ h => h) rfl hHeld (fun w => ?_) ?_
  · go_simp
  simp only [Act.put, List.setIfInBounds_toArray, List.set_cons_zero, List.set_cons_succ]
  refine one_step 1 (by kernel_rfl) rfl (fun Kq hKq => ?_)
  go_simp
  go_at_call 25
  refine (HSL.out _).mono ?_
  rintro e y1 ⟨rfl, hbx⟩
  have hS1 : y1.heap[w.heap.size]? = some (.cells p.arr 29 (0, 0)) ∧ Below w.heap.size w y1 := ⟨blk_below hSd.1 hbx, hSd.2.trans (hbx.mono hSd.2.size)⟩
  refine hKq.out _ _ hS1 (fun hHeld0 => ?_)
  clear hKq Kq hHeld hbx
  have hHeld := hHeld0
  clear hHeld0
  try simp only [Act.put, List.setIfInBounds_toArray, List.set_cons_zero, List.set_cons_succ]
  refine take_run 2 (.int .i64 (q - 4)) rfl (by kernel_rfl) (by kernel_rfl) (by kernel_rfl) (fun _ _ _ h => h) rfl hHeld (fun w => ?_) ?_
  · go_simp
  simp only [Act.put, List.setIfInBounds_toArray, List.set_cons_zero, List.set_cons_succ]
  refine take_run 6 (.int .i64 (q - 4 - p.m)) rfl (by kernel_rfl) (by kernel_rfl) (by kernel_rfl) (fun _ _ _ h => h) rfl hHeld (fun w => ?_) ?_
  · go_simp
  simp only [Act.put, List.setIfInBounds_toArray, List.set_cons_zero, List.set_cons_succ]
  refine take_run 7 (.int .i64 (q - 4 - p.m)) rfl (by kernel_rfl) (by kernel_rfl) (by kernel_rfl) (fun _ _ _ h => h) rfl hHeld (fun w => ?_) ?_
  · go_simp
  simp only [Act.put, List.setIfInBounds_toArray, List.set_cons_zero, List.set_cons_succ]
  refine wpAnyH_done (by kernel_rfl) ?_ _
  have HBE := Lib.hid hS1.2
  clear hSd hHeld hS1
  cases M with
  | false =>
    have HR0 := Lib.hid (HRN.out rfl)
    clear HRN HRY
    go_wp2
    go_ret
    exact ⟨by rw [HR0.out]; rfl, HBE.out⟩
  | true =>
    have HR0 := Lib.hid (HRY.out rfl)
    clear HRN HRY
    by_cases hn : q - 4 - (p.m : Int) < 0
    · go_wp2
      go_ret
      exact ⟨by rw [HR0.out, Int.max_eq_right (by omega)]; rfl, HBE.out⟩
    · go_wp2
      go_ret
      exact ⟨by rw [HR0.out, Int.max_eq_left (by omega)]; rfl, HBE.out⟩
end Go.Proofs.YtafmompplcaadaaGreatDoor

/- The walk over the document's record of an entry, as it would stand in a log. -/
namespace Go.Proofs.YtafmompplcaadaaGreatDoor
set_option maxRecDepth 100000
set_option linter.unusedVariables false
set_option linter.unusedSimpArgs false
open Go.RowKit

theorem results_tmp_blk {fn : Func} {p u : Tmp} {ty : TypeId} (h : fn.results = #[.tmp u, .cell p ty]) (tmps : Array Value) (P : Program) (w : World) (g : Nat) (t : TypeId) (cs : Array Value) (fr : Nat × Nat) (d : TypeDesc)
    (hp : tmps.getD p undef = .pointer (some ⟨g, 0, none⟩)) (hg : w.heap[g]? = some (.cells cs t fr))
    (hu : P.underlying ty = some d) (hd : d.isRow = true) (hi : (P.info? ty).map (·.size) = some cs.size) (v : Value) (hv : tmps.getD u undef = v) :
    (results fn tmps).run P w = .ok (.tuple #[v, .agg cs]) w := by
  have hp' : tmps[p]?.getD undef = .pointer (some ⟨g, 0, none⟩) := by simpa using hp
  have hv' : tmps[u]?.getD undef = v := by simpa using hv
  simp [results, h, hp', hv', asAddr, run_loadVar_row w g t ty cs fr d hg hu (by cases d <;> simp_all) hi]
theorem rec_ok {g : Lg} {u : En} : ∀ j, 0 ≤ (recG g u).getD j 0 ∧ (recG g u).getD j 0 < 256 := by
  unfold recG
  refine ok_append ?_ (linkP_byte _ _)
  split
  · exact put_ok u
  · intro j; simp
theorem rec_len (g : Lg) (u : En) : (recG g u).length ≤ 62 := by
  unfold recG
  rw [List.length_append, linkP_len]
  split
  · rw [put_len]; omega
  · simp
/-- gives a record, and a head -/
def GRc (L Z : List Int) (w : World) (e : Ending) (w' : World) : Prop := ∃ A n c, e = .returned (.tuple #[.slice A n c, .agg (idv Z)]) ∧ Bts w' A n c L ∧ (∀ a, A = some a → w.heap.size ≤ a.block) ∧ Below w.heap.size w w'
set_option maxHeartbeats 2000000 in
theorem arrec_any (p : Lp) (g : Lg) (u : En) (w : World) (h : LgAt w p g) (hu : u.ok) : Calls Tryz.prog 26 #[.agg p.arr, enV u] w (GRc (recG g u) (linkP g.head u) w) := by
  have HPE := Lib.hid (fun (X : World) => erput_own u X hu)
  have HLK := Lib.hid (fun (X : World) => rlink_any p.H u X h.hlen h.hbyte hu)
  rw [h.head] at HLK
  have HHI := Lib.hid h.info
  have HPK := Lib.hid (show ∀ j, 0 ≤ (if mayE u then putE u else []).getD j 0 ∧ (if mayE u then putE u else []).getD j 0 < 256 by split; exact put_ok u; intro j; simp)
  have HZL := Lib.hid (linkP_len g.head u)
  have HZB := Lib.hid (linkP_byte g.head u)
  have HRK := Lib.hid (rec_ok (g := g) (u := u))
  have HPL := Lib.hid (show (if mayE u then putE u else []).length ≤ 30 by split; rw [put_len]; exact Nat.le_refl _; simp)
  have HRE := Lib.hid (show (if mayE u then putE u else []) ++ linkP g.head u = recG g u from rfl)
  rw [← h.head] at HLK HZL HZB HRE ⊢
  obtain ⟨P, hP⟩ : ∃ P, (if mayE u then putE u else []) = P := ⟨_, rfl⟩
  obtain ⟨Z, hZ⟩ : ∃ Z, linkP p.H u = Z := ⟨_, rfl⟩
  obtain ⟨R, hR⟩ : ∃ R, recG g u = R := ⟨_, rfl⟩
  rw [hP] at HPK HPL HRE
  simp only [hP] at HPE
  rw [hZ] at HZL HZB HRE ⊢
  simp only [hZ] at HLK
  rw [hR] at HRK HRE ⊢
  obtain ⟨hB0, b0, b1, b2⟩ := after_three_c (Below.refl (((w.alloc (.cells p.arr 29 (0, 0))).alloc (.cells (enA u) 33 (0, 0))).alloc (.cells (idv noughtsC) 27 (0, 0))).heap.size (((w.alloc (.cells p.arr 29 (0, 0))).alloc (.cells (enA u) 33 (0, 0))).alloc (.cells (idv noughtsC) 27 (0, 0))))
  have HB0 := Lib.hid hB0
  clear h hu hP hZ hR hB0
  unfold enV at HPE HLK ⊢
  go_enter Tryz.func26, Tryz.ntmps26
  go_wp2_with (first
    | ((with_reducible refine wpList_load_blk 33 _ rfl (w.heap.size + 1) ?hx1 33 (enA u) (0, 0) _ (three_of_c _ _ _ _) Tryz.underlying33 ?hd1 (info_en (enA_size _)) ?_ ?hw1); (case hx1 => rfl); (case hd1 => rfl); (case hw1 => rfl))
    | (go_at_call 55
       (with_reducible refine (HPE.out _).mono ?_)
       rintro e w1 ⟨A1, m1, c1, rfl, hbt, hown, hb1⟩
       have hown : Own w1 (((w.alloc (.cells p.arr 29 (0, 0))).alloc (.cells (enA u) 33 (0, 0))).alloc (.cells (idv noughtsC) 27 (0, 0))).heap.size (.slice A1 m1 c1) P := hown
       have hown : Own w1 (w.heap.size + 3) (.slice A1 m1 c1) P := by simpa using hown
       have hb1 : Below (((w.alloc (.cells p.arr 29 (0, 0))).alloc (.cells (enA u) 33 (0, 0))).alloc (.cells (idv noughtsC) 27 (0, 0))).heap.size (((w.alloc (.cells p.arr 29 (0, 0))).alloc (.cells (enA u) 33 (0, 0))).alloc (.cells (idv noughtsC) 27 (0, 0))) w1 := hb1
       have hz1 : w.heap.size + 3 ≤ w1.heap.size := by have := hb1.size; simpa using this
       have b0 := blk_below b0 hb1
       have b1 := blk_below b1 hb1
       have b2 : RowB w1 (w.heap.size + 2) 27 noughtsC := blk_below b2 hb1
       have hrh := lg_head b0
       have HB1 := Lib.hid (HB0.out.trans (hb1.mono HB0.out.size))
       clear hb1 hbt)
    | ((with_reducible refine wpList_load_blk 33 _ rfl (w.heap.size + 1) ?hx3 33 (enA u) (0, 0) _ b1 Tryz.underlying33 ?hd3 (info_en (enA_size _)) ?_ ?hw3); (case hx3 => rfl); (case hd3 => rfl); (case hw3 => rfl))
    | ((with_reducible refine wpList_load_on 27 _ rfl w.heap.size 4 ?hx4 (byv p.H) (idv p.H) rfl _ hrh Tryz.underlying27 ?hd4 HHI.out ?_ ?hw4); (case hx4 => rfl); (case hd4 => rfl); (case hw4 => rfl))
    | (go_at_call 56
       (with_reducible refine (HLK.out _).mono ?_)
       rintro e w2 ⟨rfl, hbx⟩
       have hown2 := hown.below hbx
       have c2 := b2.keep hbx
       have HB2 := Lib.hid (HB1.out.trans (hbx.mono HB1.out.size))
       have hz2 : w.heap.size + 3 ≤ w2.heap.size := Nat.le_trans hz1 hbx.size
       have ho2 : ∀ k, (Value.slice A1 m1 c1).ownBlock = some k → k < w2.heap.size := fun k hk => Nat.lt_of_lt_of_le (hown.size k hk).2 hbx.size
       clear hbx hown b0 b1 b2 hrh hz1)
    | ((with_reducible refine wpList_store_blk rfl 27 _ _ rfl w2.heap.size (idv Z) ?hx2 ?hy2 27 _ (heap_alloc_new w2 _) (info32 HZL.out) ?hs2 (idv_one _) ?_); (case hx2 => rfl); (case hy2 => rfl); (case hs2 => rw [idv_size, HZL.out]; rfl)
       intro w3 hg2 hX hs2
       have hX : RowB w3 w2.heap.size 27 Z := hX
       have hbx : Below w2.heap.size w2 w3 := Below.grows (one_alloc w2 _) hg2 (size_le_alloc _ _) (Nat.le_refl _)
       have HB3 := Lib.hid (HB2.out.trans (hbx.mono HB2.out.size))
       have hown3 := hown2.below hbx
       have c3 := c2.keep hbx
       have hz3 : w.heap.size + 3 ≤ w3.heap.size := Nat.le_trans hz2 hbx.size
       clear hbx hg2 hs2 hown2 c2))
  have hbod := c3.draw1
  have hownd := hown3.draw1
  have hSd : RowB w3.drew w2.heap.size 27 Z ∧ Below w.heap.size w w3.drew := ⟨hX.draw1, HB3.out.drew⟩
  have hzd : w.heap.size + 3 ≤ w3.drew.heap.size := hz3
  clear hX c3 hown3 hz3
  refine wp_region_held_drew (S := fun X => RowB X w2.heap.size 27 Z ∧ Below w.heap.size w X) (by kernel_rfl) hSd (fun hHeld => ?_)
  refine take_move 0 (.tmp 6) (.slice A1 m1 c1) rfl rfl rfl (by kernel_rfl) (by kernel_rfl) (by kernel_rfl) (fun _ _ _ h => h) rfl hHeld ?_
  simp only [Act.put, List.setIfInBounds_toArray, List.set_cons_zero, List.set_cons_succ]
  refine take_run 1 (.slice (some ⟨w2.heap.size, 0, none⟩) 32 32) rfl (by kernel_rfl) (by kernel_rfl) (by kernel_rfl) (fun _ _ _ h => h) rfl hHeld (fun w' => ?_) ?_
  · have hq := run_all32 ⟨w2.heap.size, 0, none⟩ w'
    go_simp
  simp only [Act.put, List.setIfInBounds_toArray, List.set_cons_zero, List.set_cons_succ]
  refine take_if 3 (.agg (idv Z)) rfl (by kernel_rfl) (by kernel_rfl) (by kernel_rfl) (fun _ _ _ h => h) rfl hHeld (fun w' hw' => ?_) ?_
  · exact id_load hw'.1 HZL.out rfl rfl
  simp only [Act.put, List.setIfInBounds_toArray, List.set_cons_zero, List.set_cons_succ]
  refine one_step 2 (by kernel_rfl) rfl (fun Kq hKq => ?_)
  refine step_append_o (.tmp 22) (.tmp 23) rfl (w.heap.size + 3) (.slice A1 m1 c1) P rfl hownd (some ⟨w2.heap.size, 0, none⟩) 32 32 Z rfl (hSd.1.btsAt HZL.out (by unfold maxLen; omega) HZB.out) (by have := HPL.out; omega) hzd rfl ?_
  intro v4 w4 hown4 hg4
  have hS4 : RowB w4 w2.heap.size 27 Z ∧ Below w.heap.size w w4 := ⟨hSd.1.grown hg4 (fun e => absurd (ho2 _ e.symm) (Nat.lt_irrefl _)), hSd.2.grown hg4 hSd.2.size (fun k hk => Nat.le_trans (Nat.le_add_right _ 3) (hownd.size k hk).1)⟩
  have c4 := hbod.grown hg4 (fun e => absurd (hownd.size _ e.symm).1 (by omega))
  refine hKq.out _ _ hS4 (fun hHeld0 => ?_)
  clear hKq Kq hHeld
  have hHeld := hHeld0
  clear hHeld0
  try simp only [Act.put, List.setIfInBounds_toArray, List.set_cons_zero, List.set_cons_succ]
  refine take_run 4 v4 rfl (by kernel_rfl) (by kernel_rfl) (by kernel_rfl) (fun _ _ _ h => h) rfl hHeld (fun w => ?_) ?_
  · go_simp
  simp only [Act.put, List.setIfInBounds_toArray, List.set_cons_zero, List.set_cons_succ]
  refine one_step 5 (by kernel_rfl) rfl (fun Kq hKq => ?_)
  refine step_store_b 27 _ _ rfl (w.heap.size + 2) Z noughtsC rfl rfl 27 c4 (info32 HZL.out) (by rw [HZL.out]; rfl) rfl ?_
  intro w5 hg5 hX5 hs5
  have hS5 : RowB w5 w2.heap.size 27 Z ∧ Below w.heap.size w w5 := ⟨rowb_grown hS4.1 hg5 (by omega), hS4.2.grown hg5 hS4.2.size (fun q e => by cases e; omega)⟩
  have hown5 := hown4.far hg5 (own_far hown4 (by omega))
  refine hKq.out _ _ hS5 (fun hHeld0 => ?_)
  clear hKq Kq hHeld
  try simp only [Act.put, List.setIfInBounds_toArray, List.set_cons_zero, List.set_cons_succ]
  refine wpAnyH_done (by kernel_rfl) ?_ _
  rw [HRE.out] at hown5
  obtain ⟨A5, n5, c5, rfl, hbt5⟩ := hown5.slice HRK.out
  have hlo : ∀ a, A5 = some a → w.heap.size ≤ a.block := fun a ha => by subst ha; exact Nat.le_trans (Nat.le_add_right _ 3) (hown5.size _ rfl).1
  go_wp2
  refine bodyPost_ret (v := .tuple #[.slice A5 n5 c5, .agg (idv Z)]) ?_ rfl ⟨A5, n5, c5, rfl, hbt5, hlo, hS5.2⟩
  exact results_tmp_blk Tryz.results26 _ _ _ (w.heap.size + 2) 27 _ (0, 0) _ rfl hX5 Tryz.underlying27 rfl (info32 HZL.out) _ rfl
end Go.Proofs.YtafmompplcaadaaGreatDoor

/- The walks over the library's bytes.Equal and bytes.Clone. -/
namespace Go.Proofs.YtafmompplcaadaaGreatDoor
set_option linter.unusedVariables false
set_option linter.unusedSimpArgs false
open Go.RowKit

theorem equal_any (A B : Option Addr) (n c m d : Nat) (a b : List Int) (w : World) (ha : Bts w A n c a) (hb : Bts w B m d b) :
    Calls Tryz.prog 44 #[.slice A n c, .slice B m d] w fun e w' => e = .returned (.bool (a == b)) ∧ w = w' := by
  have k1 := conv_bts ha
  have k2 := conv_bts hb
  have k3 := run_eq_bstr a b ha.ok hb.ok
  obtain ⟨x, hx⟩ : ∃ x, bstr a = x := ⟨_, rfl⟩
  obtain ⟨y, hy⟩ : ∃ x, bstr b = x := ⟨_, rfl⟩
  rw [hx] at k1 k3
  rw [hy] at k2 k3
  have K3 := Lib.hid k3
  clear k3 hx hy ha hb
  go_enter Tryz.func44, Tryz.ntmps44
  go_wp2
  go_ret
  exact ⟨ret_bool K3.out, rfl⟩
theorem none_own (w : World) : Own (w.alloc (.cells #[] 5)) w.heap.size (.slice (some ⟨w.heap.size, 0, none⟩) 0 0) [] :=
  ⟨rfl, .inr ⟨w.heap.size, 0, #[], rfl, Nat.le_refl _, heap_alloc_new w _, Nat.le_refl _, by unfold maxLen; omega, rfl, rfl⟩⟩
set_option maxHeartbeats 1000000 in
theorem clone_any (A : Option Addr) (n c : Nat) (l : List Int) (w : World) (hb : Bts w A n c l) (hsm : n ≤ 140737488355328) :
    Calls Tryz.prog 48 #[.slice A n c] w fun e w' => ∃ v, e = .returned v ∧ Own w' w.heap.size v l ∧ Below w.heap.size w w' := by
  have q22 : ∀ (w : World) (a : Option Addr) (n c n' c' : Nat), (binOp .eql 22 (.slice a n c) (.slice none n' c')).run Tryz.prog w = .ok (.bool a.isNone) w := fun w a n c n' c' => Lib.run_eql_slice_nil w _ _ a n c n' c' Tryz.underlying22
  cases A with
  | none =>
    have h0 := hb.bare rfl
    have hn : n = 0 := by have := hb.le; omega
    have hl : l = [] := List.eq_nil_of_length_eq_zero (hb.len.trans hn)
    have HL := Lib.hid hl
    clear hl hb h0
    go_enter Tryz.func48, Tryz.ntmps48
    go_wp2
    go_ret
    exact ⟨_, rfl, by rw [HL.out]; exact Own.nil _ _, Below.refl _ _⟩
  | some a =>
    have hb1 := hb.more (.cells #[] 5)
    go_enter Tryz.func48, Tryz.ntmps48
    go_wp2_with (at_builtin
                 refine wpList_append_b rfl _ _ rfl w.heap.size _ [] rfl (none_own w) _ n c l rfl hb1 (by simp; omega) (size_le_alloc _ _) ?_
                 intro v5 w5 hown5 hg5
                 rw [List.nil_append] at hown5
                 have hB5 : Below w.heap.size w w5 := (one_alloc w _).grown hg5 (size_le_alloc _ _) (fun k hk => by cases hk; exact Nat.le_refl _)
                 clear hg5)
    go_ret
    exact ⟨_, rfl, hown5, hB5⟩
theorem clone_bts (A : Option Addr) (n c : Nat) (l : List Int) (w : World) (hb : Bts w A n c l) (hsm : n ≤ 140737488355328) :
    Calls Tryz.prog 48 #[.slice A n c] w fun e w' => ∃ A' c', e = .returned (.slice A' n c') ∧ Bts w' A' n c' l ∧ (∀ a, A' = some a → w.heap.size ≤ a.block) ∧ Below w.heap.size w w' := by
  refine (clone_any A n c l w hb hsm).mono ?_
  rintro e w' ⟨v, rfl, hown, hbel⟩
  have hl := hb.len
  obtain ⟨A', c', rfl, hb'⟩ := hown.bts hb.ok
  subst hl
  exact ⟨A', c', rfl, hb', fun a ha => by subst ha; exact (hown.size _ rfl).1, hbel⟩
end Go.Proofs.YtafmompplcaadaaGreatDoor

/- The walks over package store's Same, and the document's. -/
namespace Go.Proofs.YtafmompplcaadaaGreatDoor
set_option maxRecDepth 100000
set_option linter.unusedVariables false
set_option linter.unusedSimpArgs false
open Go.RowKit

set_option maxHeartbeats 1000000 in
theorem stsame_any (a b : Sp) (A B : Option Addr) (n c m d : Nat) (w : World) (ha : Bts w A n c a.data) (hb : Bts w B m d b.data) :
    Calls Tryz.prog 45 #[a.val A n c, b.val B m d] w (GBool (sameP a b) w) := by
  obtain ⟨cap1, l1, s1⟩ := a
  obtain ⟨cap2, l2, s2⟩ := b
  simp only at ha hb
  unfold Sp.val
  simp only
  have htwo := two_below w (.cells #[.int .i64 cap1, .slice A n c, .int .i64 s1] 24) (.cells #[.int .i64 cap2, .slice B m d, .int .i64 s2] 24)
  obtain ⟨E, hE⟩ : ∃ E, (l1 == l2) = E := ⟨_, rfl⟩
  have HC := Lib.hid (equal_any A B n c m d l1 l2 _ (ha.below htwo) (hb.below htwo))
  rw [hE] at HC
  have HTWO := Lib.hid htwo
  have HE := Lib.hid hE
  clear htwo ha hb hE
  cases e1 : (cap1 == cap2) with
  | false =>
    have HR := Lib.hid (show false = sameP ⟨cap1, l1, s1⟩ ⟨cap2, l2, s2⟩ from by simp only [sameP, e1, Bool.false_and])
    go_enter Tryz.func45, Tryz.ntmps45
    go_wp2
    go_ret
    exact ⟨ret_bool HR.out, HTWO.out⟩
  | true =>
    cases e2 : (s1 == s2) with
    | false =>
      have HR := Lib.hid (show false = sameP ⟨cap1, l1, s1⟩ ⟨cap2, l2, s2⟩ from by simp only [sameP, e1, e2, Bool.and_false, Bool.false_and])
      go_enter Tryz.func45, Tryz.ntmps45
      go_wp2
      go_ret
      exact ⟨ret_bool HR.out, HTWO.out⟩
    | true =>
      have HR := Lib.hid (show E = sameP ⟨cap1, l1, s1⟩ ⟨cap2, l2, s2⟩ from by simp only [sameP, e1, e2, Bool.true_and, HE.out])
      go_enter Tryz.func45, Tryz.ntmps45
      go_wp2_with (go_at_call 44; refine HC.out.mono ?_; rintro e w1 ⟨rfl, rfl⟩)
      go_ret
      exact ⟨ret_bool HR.out, HTWO.out⟩
set_option maxHeartbeats 1000000 in
theorem rstsame_any (a b : Sp) (A B : Option Addr) (n c m d : Nat) (w : World) (ha : Bts w A n c a.data) (hb : Bts w B m d b.data) :
    Calls Tryz.prog 13 #[a.val A n c, b.val B m d] w (GBool (sameP a b) w) := by
  obtain ⟨cap1, l1, s1⟩ := a
  obtain ⟨cap2, l2, s2⟩ := b
  simp only at ha hb
  unfold Sp.val
  simp only
  have htwo := two_below w (.cells #[.int .i64 cap1, .slice A n c, .int .i64 s1] 24) (.cells #[.int .i64 cap2, .slice B m d, .int .i64 s2] 24)
  obtain ⟨E, hE⟩ : ∃ E, (l1 == l2) = E := ⟨_, rfl⟩
  have k1 := conv_bts (ha.below htwo)
  have k2 := conv_bts (hb.below htwo)
  have k3 := run_eq_bstr l1 l2 ha.ok hb.ok
  obtain ⟨x, hx⟩ : ∃ x, bstr l1 = x := ⟨_, rfl⟩
  obtain ⟨y, hy⟩ : ∃ x, bstr l2 = x := ⟨_, rfl⟩
  rw [hx] at k1 k3
  rw [hy] at k2 k3
  rw [hE] at k3
  have K3 := Lib.hid k3
  clear k3 hx hy
  have HTWO := Lib.hid htwo
  have HE := Lib.hid hE
  clear htwo ha hb hE
  cases e1 : (cap1 == cap2) with
  | false =>
    have HR := Lib.hid (show false = sameP ⟨cap1, l1, s1⟩ ⟨cap2, l2, s2⟩ from by simp only [sameP, e1, Bool.false_and])
    go_enter Tryz.func13, Tryz.ntmps13
    go_wp2
    go_ret
    exact ⟨ret_bool HR.out, HTWO.out⟩
  | true =>
    cases e2 : (s1 == s2) with
    | false =>
      have HR := Lib.hid (show false = sameP ⟨cap1, l1, s1⟩ ⟨cap2, l2, s2⟩ from by simp only [sameP, e1, e2, Bool.and_false, Bool.false_and])
      go_enter Tryz.func13, Tryz.ntmps13
      go_wp2
      go_ret
      exact ⟨ret_bool HR.out, HTWO.out⟩
    | true =>
      have HR := Lib.hid (show E = sameP ⟨cap1, l1, s1⟩ ⟨cap2, l2, s2⟩ from by simp only [sameP, e1, e2, Bool.true_and, HE.out])
      go_enter Tryz.func13, Tryz.ntmps13
      go_wp2
      go_ret
      exact ⟨ret_bool (K3.out.trans HR.out), HTWO.out⟩
end Go.Proofs.YtafmompplcaadaaGreatDoor

/- The walks over package store's methods of a file. -/
namespace Go.Proofs.YtafmompplcaadaaGreatDoor
set_option maxRecDepth 100000
set_option linter.unusedVariables false
set_option linter.unusedSimpArgs false
open Go.RowKit

theorem size_store : (Tryz.prog.info? 24).map (·.size) = some 3 := by kernel_rfl
theorem size_file : (Tryz.prog.info? 80).map (·.size) = some 3 := by kernel_rfl
theorem ret_file {fn : Func} {p u : Tmp} (h : fn.results = #[.cell p 80, .tmp u]) (tmps : Array Value) (w : World) (g : Nat) (t : TypeId) (x y z v : Value)
    (hp : tmps.getD p undef = .pointer (some ⟨g, 0, none⟩)) (hg : w.heap[g]? = some (.cells #[x, y, z] t (0, 0))) (hv : tmps.getD u undef = v) :
    (results fn tmps).run Tryz.prog w = .ok (.tuple #[.agg #[x, y, z], v]) w :=
  results_blk_tmp h tmps Tryz.prog w g t _ (0, 0) _ hp hg Tryz.underlying80 rfl size_file v hv
theorem ret_store {fn : Func} {p u : Tmp} (h : fn.results = #[.cell p 24, .tmp u]) (tmps : Array Value) (w : World) (g : Nat) (t : TypeId) (x y z v : Value)
    (hp : tmps.getD p undef = .pointer (some ⟨g, 0, none⟩)) (hg : w.heap[g]? = some (.cells #[x, y, z] t (0, 0))) (hv : tmps.getD u undef = v) :
    (results fn tmps).run Tryz.prog w = .ok (.tuple #[.agg #[x, y, z], v]) w :=
  results_blk_tmp h tmps Tryz.prog w g t _ (0, 0) _ hp hg Tryz.underlying24 rfl size_store v hv
theorem ret_store1 {fn : Func} {p : Tmp} (h : fn.results = #[.cell p 24]) (tmps : Array Value) (w : World) (g : Nat) (t : TypeId) (x y z : Value)
    (hp : tmps.getD p undef = .pointer (some ⟨g, 0, none⟩)) (hg : w.heap[g]? = some (.cells #[x, y, z] t (0, 0))) :
    (results fn tmps).run Tryz.prog w = .ok (.agg #[x, y, z]) w :=
  results_cell_row (P := Tryz.prog) h tmps w g t _ (0, 0) _ hp hg Tryz.underlying24 rfl size_store

theorem loc_up {w W : World} {A A' : Option Addr} {n n' : Nat} (h : Loc A n A' n' W) (hW : w.heap.size ≤ W.heap.size) : Loc A n A' n' w := h.imp id fun h a ha => Nat.le_trans hW (h a ha)
theorem far_loc {w W : World} {A A' : Option Addr} {n n' c hi : Nat} {l : List Int} (hb : Bts w A n c l) (h : Loc A n A' n' W) (hW : hi ≤ W.heap.size) : Far A' n' w.heap.size hi := fun a ha hn => by
  rcases h with ⟨rfl, h⟩ | h
  · exact hb.far hi a ha (by omega)
  · exact .inr (Nat.le_trans hW (h a ha))
theorem below_at {B g : Nat} {w0 w : World} (h : Below B w0 w) (hg : B ≤ g) (i : Nat) (v : Value) : Below B w0 (w.setCell ⟨g, i, none⟩ v) := h.setCell hg v
set_option maxHeartbeats 1000000 in
theorem fcut_any (s : Sp) (A : Option Addr) (n c : Nat) (k : Int) (w : World) (hb : Bts w A n c s.data) :
    Calls Tryz.prog 54 #[s.val A n c, .int .i64 k] w (GSE (fcutP s k) A n w) := by
  obtain ⟨cap, data, sure⟩ := s
  simp only at hb
  unfold Sp.val
  simp only
  have hn := hb.small
  have HLL := Lib.hid hb.len
  by_cases h1 : k < 0
  · have HR := Lib.hid (show fcutP ⟨cap, data, sure⟩ k = (⟨cap, data, sure⟩, 1) from by rw [fcutP, if_pos (.inl h1)])
    have HB := Lib.hid hb
    clear hb
    go_enter Tryz.func54, Tryz.ntmps54
    go_wp2
    refine bodyPost_ret (v := .tuple #[.agg #[.int .i64 cap, .slice A n c, .int .i64 sure], .int .i64 1]) ?_ ?_ ?_
    · exact ret_file Tryz.results54 _ _ (w.heap.size + 1) 80 _ _ _ _ rfl (heap_alloc2_new w _ _) rfl
    · rfl
    · rw [HR.out]
      exact ⟨A, n, c, rfl, HB.out.below (two_below _ _ _), .inl ⟨rfl, Nat.le_refl _⟩, two_below _ _ _⟩
  · by_cases h2 : (n : Int) < k
    · have HR := Lib.hid (show fcutP ⟨cap, data, sure⟩ k = (⟨cap, data, sure⟩, 1) from by rw [fcutP, if_pos (.inr (by simp only; rw [HLL.out]; exact h2))])
      have HB := Lib.hid hb
      clear hb
      go_enter Tryz.func54, Tryz.ntmps54
      go_wp2
      refine bodyPost_ret (v := .tuple #[.agg #[.int .i64 cap, .slice A n c, .int .i64 sure], .int .i64 1]) ?_ ?_ ?_
      · exact ret_file Tryz.results54 _ _ (w.heap.size + 1) 80 _ _ _ _ rfl (heap_alloc2_new w _ _) rfl
      · rfl
      · rw [HR.out]
        exact ⟨A, n, c, rfl, HB.out.below (two_below _ _ _), .inl ⟨rfl, Nat.le_refl _⟩, two_below _ _ _⟩
    · obtain ⟨j, rfl⟩ := Int.eq_ofNat_of_zero_le (show 0 ≤ k by omega)
      have hj : j ≤ n := by omega
      obtain ⟨hto, hbt⟩ := run_to hb (j : Int) (hi := j) rfl hj
      have HR := Lib.hid (show fcutP ⟨cap, data, sure⟩ (j : Int) = (⟨cap, data.take j, (j : Int)⟩, 0) from by rw [fcutP, if_neg (by simp only; rw [HLL.out]; omega)]; rfl)
      have HB := Lib.hid hbt
      clear hb hbt
      go_enter Tryz.func54, Tryz.ntmps54
      go_wp2
      refine bodyPost_ret (v := .tuple #[.agg #[.int .i64 cap, .slice A j c, .int .i64 (j : Int)], .int .i64 0]) ?_ ?_ ?_
      · exact ret_file Tryz.results54 _ _ (w.heap.size + 1) 80 _ _ _ _ rfl (heap_alloc2_new w _ _) rfl
      · rfl
      · rw [HR.out]
        exact ⟨A, j, c, rfl, HB.out.below (two_below _ _ _), .inl ⟨rfl, hj⟩, two_below _ _ _⟩
set_option maxHeartbeats 1000000 in
theorem fwrite_any (s : Sp) (b : List Int) (A B : Option Addr) (n c m d : Nat) (w : World) (hb : Bts w A n c s.data) (h2 : Bts w B m d b) (hm : mayP s = true) :
    Calls Tryz.prog 70 #[s.val A n c, .slice B m d] w (GSE (fwriteP s b) A n w) := by
  obtain ⟨cap, data, sure⟩ := s
  simp only at hb
  unfold Sp.val
  simp only
  have hn := hb.small
  have hn2 := h2.small
  have HLL := Lib.hid hb.len
  have HLB := Lib.hid h2.len
  obtain ⟨q1, q2, q3, q4, q5⟩ := mayT_iff.1 hm
  simp only [hb.len] at q1 q2 q3 q4 q5
  clear hm
  by_cases h1 : cap - n < m
  · have HR := Lib.hid (show fwriteP ⟨cap, data, sure⟩ b = (⟨cap, data, sure⟩, 12) from by rw [fwriteP, if_pos (by simp only; rw [HLL.out, HLB.out]; exact h1)])
    have HB := Lib.hid hb
    clear hb h2
    go_enter Tryz.func70, Tryz.ntmps70
    go_wp2
    refine bodyPost_ret (v := .tuple #[.agg #[.int .i64 cap, .slice A n c, .int .i64 sure], .int .i64 12]) ?_ ?_ ?_
    · exact ret_file Tryz.results70 _ _ (w.heap.size + 1) 80 _ _ _ _ rfl (heap_alloc2_new w _ _) rfl
    · rfl
    · rw [HR.out]
      exact ⟨A, n, c, rfl, HB.out.below (two_below _ _ _), .inl ⟨rfl, Nat.le_refl _⟩, two_below _ _ _⟩
  · have HR := Lib.hid (show fwriteP ⟨cap, data, sure⟩ b = (⟨cap, data ++ b, sure⟩, 0) from by rw [fwriteP, if_neg (by simp only; rw [HLL.out, HLB.out]; exact h1)])
    obtain ⟨hfull, hbf⟩ := run_full hb
    have HB := Lib.hid hb
    have HBF := Lib.hid hbf
    have HB2 := Lib.hid h2
    clear hb h2 hbf
    go_enter Tryz.func70, Tryz.ntmps70
    go_wp2_with (at_builtin
                 (with_reducible refine wpList_append_full rfl _ _ rfl A n data rfl (HBF.out.below (two_below _ _ _)) B m d b rfl (HB2.out.below (two_below _ _ _)) (by omega) ?_)
                 intro A' k c' w5 hk hb5 hat5 hbel5
                 have hbx5 : BoxT w5 w.heap.size 80 cap A n c sure := (after_two hbel5).2.2.1
                 have hbz5 : BoxT w5 (w.heap.size + 1) 80 0 none 0 0 0 := (after_two hbel5).2.2.2
                 obtain ⟨x0, x1, x2⟩ := hbx5.cells
                 obtain ⟨z0, z1, z2⟩ := hbz5.cells
                 have f0 := hbx5.free 0
                 have f1 := hbx5.free 1
                 have f2 := hbx5.free 2
                 have g0 := hbz5.free 0
                 have g1 := hbz5.free 1
                 have g2 := hbz5.free 2
                 have HB5 := Lib.hid hb5
                 have HF := Lib.hid (far_full HBF.out hat5).two
                 have HBZ := Lib.hid hbz5
                 have HLO := Lib.hid (loc_up (w := w) (hat5.imp (fun h => ⟨h.1, Nat.le_of_eq h.2⟩) id) (two_below _ _ _).size)
                 have HBE := Lib.hid (after_two hbel5).1
                 clear hb5 hat5 hbel5 hbx5 hbz5)
    have hlt1 := Nat.lt_succ_self (w.heap.size + 1)
    subst hk
    refine bodyPost_ret (v := .tuple #[.agg #[.int .i64 cap, .slice A' (n + m) c', .int .i64 sure], .int .i64 0]) ?_ ?_ ?_
    · exact ret_file Tryz.results70 _ _ (w.heap.size + 1) 80 _ _ _ _ rfl (set3_heap _ _ _ ((heap_setCell_other _ _ _ _ (by simp)).trans HBZ.out)) rfl
    · rfl
    · rw [HR.out]
      exact ⟨A', n + m, c', rfl, (HB5.out.set HF.out (Nat.le_refl _) (by omega) _).set3 HF.out (Nat.le_succ _) hlt1 _ _ _, HLO.out, set3_below (below_at HBE.out (Nat.le_refl _) _ _) (Nat.le_succ _) _ _ _⟩
set_option maxHeartbeats 1000000 in
theorem fcrash_any (s : Sp) (A : Option Addr) (n c : Nat) (keep : Int) (w : World) (hb : Bts w A n c s.data) (hm : mayP s = true) :
    Calls Tryz.prog 62 #[s.val A n c, .int .i64 keep] w (GSE (s.upto (keptP s keep).toNat, 0) A n w) := by
  obtain ⟨cap, data, sure⟩ := s
  simp only at hb
  unfold Sp.val
  simp only
  have hn := hb.small
  have HLL := Lib.hid hb.len
  obtain ⟨q1, q2, q3, q4, q5⟩ := mayT_iff.1 hm
  simp only [hb.len] at q1 q2 q3 q4 q5
  clear hm
  obtain ⟨j, hj⟩ := Int.eq_ofNat_of_zero_le (show 0 ≤ keptP ⟨cap, data, sure⟩ keep by simp only [keptP, hb.len]; omega)
  have hjn : j ≤ n := by simp only [keptP, hb.len] at hj; omega
  have hj2 : (j : Int) = sure + min (max keep 0) (n - sure) := by simp only [keptP, hb.len] at hj; omega
  have HR := Lib.hid (show (Sp.upto ⟨cap, data, sure⟩ (keptP ⟨cap, data, sure⟩ keep).toNat, (0 : Int)) = fcutP ⟨cap, data, sure⟩ (j : Int) from by rw [hj, fcutP, if_neg (by simp only [hb.len]; omega)])
  have HR2 := Lib.hid (show fcutP ⟨cap, data, sure⟩ (j : Int) = (⟨cap, data.take j, (j : Int)⟩, 0) from by rw [fcutP, if_neg (by simp only [hb.len]; omega)]; rfl)
  have HB := Lib.hid hb
  have HJ := Lib.hid hj2
  rw [HR.out]
  clear hb hj hj2
  have key : ∀ (W : World) (k : Int), k = j → Below w.heap.size w W → w.heap.size + 2 ≤ W.heap.size → Calls Tryz.prog 54 #[.agg #[.int .i64 cap, .slice A n c, .int .i64 sure], .int .i64 k] W fun e w' => ∃ A' n' c', e = .returned (.tuple #[.agg #[.int .i64 cap, .slice A' n' c', .int .i64 j], .int .i64 0]) ∧ Bts w' A' n' c' (data.take j) ∧ Far A' n' w.heap.size (w.heap.size + 2) ∧ Loc A n A' n' w ∧ Below W.heap.size W w' := fun W k hk hW h2 => by
    subst hk
    refine (fcut_any ⟨cap, data, sure⟩ A n c j W (HB.out.below hW)).mono ?_
    rintro e w' ⟨A', n', c', rfl, hb', hloc, hbel⟩
    rw [HR2.out] at hb' ⊢
    exact ⟨A', n', c', rfl, hb', far_loc HB.out hloc h2, loc_up hloc hW.size, hbel⟩
  have HK := Lib.hid key
  clear key
  go_enter Tryz.func62, Tryz.ntmps62
  go_wp2_with (go_at_call 54
               refine (HK.out _ _ ?hk (two_below _ _ _) (by simp)).mono ?_
               (case hk => have := HJ.out; omega)
               rintro e w5 ⟨A', n', c', rfl, hb5, hf5, hlo5, hbel5⟩
               have hbz5 : BoxT w5 (w.heap.size + 1) 80 0 none 0 0 0 := (after_two hbel5).2.2.2
               obtain ⟨z0, z1, z2⟩ := hbz5.cells
               have g0 := hbz5.free 0
               have g1 := hbz5.free 1
               have g2 := hbz5.free 2
               have HB5 := Lib.hid hb5
               have HF := Lib.hid hf5
               have HBZ := Lib.hid hbz5
               have HLO := Lib.hid hlo5
               have HBE := Lib.hid (after_two hbel5).1
               clear hb5 hf5 hlo5 hbel5 hbz5)
  all_goals
    refine bodyPost_ret (v := .tuple #[.agg #[.int .i64 cap, .slice A' n' c', .int .i64 (j : Int)], .int .i64 0]) ?_ ?_ ?_
    · exact ret_file Tryz.results62 _ _ (w.heap.size + 1) 80 _ _ _ _ rfl (set3_heap _ _ _ HBZ.out) rfl
    · rfl
    · rw [HR2.out]
      exact ⟨A', n', c', rfl, HB5.out.set3 HF.out (Nat.le_succ _) (Nat.lt_succ_self _) _ _ _, HLO.out, set3_below HBE.out (Nat.le_succ _) _ _ _⟩
end Go.Proofs.YtafmompplcaadaaGreatDoor
