/- The walk over the law FrameBack: what is put is read as it; what is read is put as the same bytes; what is not read is zero. -/
import Derived.Test.YtadcbikdbekmgaaFrmCutW
namespace Go.Proofs.Ytadcbikdbekmgaa
set_option linter.unusedVariables false
set_option linter.unusedSimpArgs false
open Go.RowKit

/-- '==' and '!=' between two frames, guarded or not -/
theorem wpList_eq_fr {ops : Array Oper} {rest : List Oper} {o : Oper} {a : Act} {w : World} {Q : Exit → Act → World → Prop} (op : BinOp) (x y : Operand) (ho : o.op = .binOp op 26 x y 26) (xs ys : Array Value) (hx : a.eval x = .agg xs) (hy : a.eval y = .agg ys) (E r : Bool) (hr : op = .eql ∧ r = E ∨ op = .neq ∧ r = !E)
    (hE : ∀ w, (Op.equalIn 10000 26 (.agg xs) (.agg ys)).run Try.prog w = .ok E w) (h : wpList Try.prog ops Q rest (a.put o.dst (.bool r)) w) (hw : Region.wanted o (yielded ops a.tmps) = true) : wpList Try.prog ops Q (o :: rest) a w :=
  wpList_step fun K hK => by
    rw [if_pos hw]
    unfold Oper.wp
    rw [run_eq_fr ho hx hy hr (hE w)]
    exact hK _ _ h
set_option maxRecDepth 100000 in
theorem fback_big (f : Fr) (A : Option Addr) (n c : Nat) (w : World) (hn : 400 < n) :
    Calls Try.prog 4 #[frV f, .slice A n c] w fun e w' => e = .returned (.bool true) ∧ Below w.heap.size w w' := by
  have hn' : (400 : Int) < n := by omega
  unfold frV
  obtain ⟨C, hC⟩ : ∃ C, frA f = C := ⟨_, rfl⟩
  rw [hC]
  go_enter Try.func4, Try.ntmps4
  go_wp2_with (go_at_call 9; (with_reducible refine (fawake_any _).mono ?_); rintro e w1 ⟨rfl, hb1⟩
               have hB1 := (after_one hb1).1)
  go_ret
  exact ⟨rfl, hB1⟩

set_option maxRecDepth 100000 in
set_option maxHeartbeats 4000000 in
/-- the law, once it is known what the four calls give -/
theorem fback_core (C F H : Array Value) (X Y l : List Int) (is q : Bool) (d : Int) (A : Option Addr) (n c : Nat) (w : World) (hn : n ≤ 400) (hl : Bts w A n c l)
    (hCs : C.size = 40) (hFs : F.size = 40) (hHs : H.size = 40) (hF1 : F.all (·.oneCell') = true) (hH1 : H.all (·.oneCell') = true) (d0 : Int)
    (hpc : ∀ w, Calls Try.prog 10 #[.agg C] w (GivesB X is w))
    (hF : ∀ (A : Option Addr) (n c : Nat) (w : World), Bts w A n c X → Calls Try.prog 12 #[.slice A n c] w fun e w' => e = .returned (.tuple #[.agg F, .int .i64 d0]) ∧ Below w.heap.size w w')
    (hH : ∀ (A : Option Addr) (n c : Nat) (w : World), Bts w A n c l → Calls Try.prog 12 #[.slice A n c] w fun e w' => e = .returned (.tuple #[.agg H, .int .i64 d]) ∧ Below w.heap.size w w')
    (hqc : ∀ w, Calls Try.prog 10 #[.agg H] w (GivesB Y q w))
    (h1 : (is = true ∧ d0 = 0 ∧ ∀ w, (Op.equalIn 10000 26 (.agg F) (.agg C)).run Try.prog w = .ok true w) ∨ (is = false ∧ X.length = 0))
    (h2 : (d = 0 ∧ q = true ∧ Y = l) ∨ ((d = 2 ∨ d = 3 ∨ d = 4) ∧ ∀ w, (Op.equalIn 10000 26 (.agg H) (.agg (frA Fr.zero))).run Try.prog w = .ok true w)) :
    Calls Try.prog 4 #[.agg C, .slice A n c] w fun e w' => e = .returned (.bool true) ∧ Below w.heap.size w w' := by
  have hn' : (n : Int) ≤ 400 := by omega
  have HCS := Lib.hid hCs
  have HFS := Lib.hid hFs
  have HHS := Lib.hid hHs
  have HF1 := Lib.hid hF1
  have HH1 := Lib.hid hH1
  have HP := Lib.hid hpc
  have HF := Lib.hid hF
  have HH := Lib.hid hH
  have HQ := Lib.hid hqc
  have HL := Lib.hid hl
  have HOK := Lib.hid hl.ok
  have hbz : Try.prog.built 26 [] = some (frA Fr.zero) := built_of (z := .agg (frA Fr.zero)) (places := [(0, 1), (1, 1), (2, 1), (3, 1), (4, 1), (5, 1), (6, 1), (7, 1), (8, 32)]) Try.underlying26 (by kernel_rfl) (by kernel_rfl) rfl
  obtain ⟨Z, hZ⟩ : ∃ Z, frA Fr.zero = Z := ⟨_, rfl⟩
  rw [hZ] at h2 hbz
  have HBZ := Lib.hid hbz
  clear hbz hZ hpc hF hH hqc hl hCs hFs hHs hF1 hH1
  rcases h1 with ⟨rfl, rfl, hE⟩ | ⟨rfl, hX0⟩
  · have HE := Lib.hid hE
    clear hE
    rcases h2 with ⟨rfl, rfl, rfl⟩ | ⟨hd, hE2⟩
    · go_enter Try.func4, Try.ntmps4
      go_wp2_with (first
        | (go_at_call 9; (with_reducible refine (fawake_any _).mono ?_); rintro e w1 ⟨rfl, hb1⟩
           have hB1 := (after_one hb1).1
           have hX1 := (after_one hb1).2.2)
        | ((with_reducible refine wpList_load_blk 26 _ rfl w.heap.size ?hx2 26 C (0, 0) _ hX1 Try.underlying26 ?hd2 (info_frame HCS.out) ?_ ?hw2); (case hx2 => rfl); (case hd2 => rfl); (case hw2 => rfl))
        | (go_at_call 10; (with_reducible refine (HP.out _).mono ?_); rintro e w2 ⟨A2, m2, c2, rfl, hv2, hb2⟩
           have hB2 := hB1.trans (hb2.mono hB1.size)
           have hX2 := (hb2.block _ (Array.getElem?_eq_some_iff.1 hX1).1).trans hX1)
        | (go_at_call 12; (with_reducible refine (HF.out A2 m2 c2 w2 hv2).mono ?_); rintro e w3 ⟨rfl, hb3⟩
           have hB3 := hB2.trans (hb3.mono hB2.size)
           have hX3 := (hb3.block _ (Array.getElem?_eq_some_iff.1 hX2).1).trans hX2)
        | ((refine wpList_store_blk rfl 26 _ _ rfl w3.heap.size F ?hx3 ?hy3 26 _ (heap_alloc_new w3 _) (info_frame HFS.out) ?hs3 HF1.out ?_); (case hx3 => rfl); (case hy3 => rfl); (case hs3 => rw [HFS.out]; rfl)
           intro w4 hg4 hY4 hs4
           have hB4 : Below w.heap.size w w4 := (hB3.alloc hB3.size _).grown hg4 (Nat.le_trans hB3.size (size_le_alloc _ _)) (fun k e => by cases e; exact hB3.size)
           have hb34 : Below w3.heap.size w3 w4 := (one_alloc w3 _).grown hg4 (size_le_alloc _ _) (fun k e => by cases e; exact Nat.le_refl _)
           have hX4 := (hb34.block _ (Array.getElem?_eq_some_iff.1 hX3).1).trans hX3
           clear hg4 hs4)
        | ((with_reducible refine wpList_load_blk 26 _ rfl w3.heap.size ?hx4 26 F (0, 0) _ hY4 Try.underlying26 ?hd4 (info_frame HFS.out) ?_ ?hw4); (case hx4 => rfl); (case hd4 => rfl); (case hw4 => rfl))
        | ((with_reducible refine wpList_load_blk 26 _ rfl w.heap.size ?hx5 26 C (0, 0) _ hX4 Try.underlying26 ?hd5 (info_frame HCS.out) ?_ ?hw5); (case hx5 => rfl); (case hd5 => rfl); (case hw5 => rfl))
        | ((with_reducible refine wpList_eq_fr .neq _ _ rfl F C ?hx6 ?hy6 true false (.inr ⟨rfl, rfl⟩) HE.out ?_ ?hw6); (case hx6 => rfl); (case hy6 => rfl); (case hw6 => rfl))
        | (go_at_call 12; (with_reducible refine (HH.out A n c w4 (HL.out.below hB4)).mono ?_); rintro e w5 ⟨rfl, hb5⟩
           have hB5 := hB4.trans (hb5.mono hB4.size))
        | ((refine wpList_store_blk rfl 26 _ _ rfl w5.heap.size H ?hx7 ?hy7 26 _ (heap_alloc_new w5 _) (info_frame HHS.out) ?hs7 HH1.out ?_); (case hx7 => rfl); (case hy7 => rfl); (case hs7 => rw [HHS.out]; rfl)
           intro w6 hg6 hY6 hs6
           have hB6 : Below w.heap.size w w6 := (hB5.alloc hB5.size _).grown hg6 (Nat.le_trans hB5.size (size_le_alloc _ _)) (fun k e => by cases e; exact hB5.size)
           clear hg6 hs6)
        | ((with_reducible refine wpList_load_blk 26 _ rfl w5.heap.size ?hx8 26 H (0, 0) _ hY6 Try.underlying26 ?hd8 (info_frame HHS.out) ?_ ?hw8); (case hx8 => rfl); (case hd8 => rfl); (case hw8 => rfl))
        | (go_at_call 10; (with_reducible refine (HQ.out _).mono ?_); rintro e w7 ⟨A7, m7, c7, rfl, hv7, hb7⟩
           have hB7 := hB6.trans (hb7.mono hB6.size)
           have hY7 := (hb7.block _ (Array.getElem?_eq_some_iff.1 hY6).1).trans hY6
           have hc7 := conv_bts hv7
           have hc8 := conv_bts (HL.out.below hB7)))
      all_goals
        go_ret
        exact ⟨rfl, hB7⟩
    · have HE2 := Lib.hid hE2
      clear hE2
      rcases hd with rfl | rfl | rfl
      all_goals
        go_enter Try.func4, Try.ntmps4
        go_wp2_with (first
          | (go_at_call 9; (with_reducible refine (fawake_any _).mono ?_); rintro e w1 ⟨rfl, hb1⟩
             have hB1 := (after_one hb1).1
             have hX1 := (after_one hb1).2.2)
          | ((with_reducible refine wpList_load_blk 26 _ rfl w.heap.size ?hx2 26 C (0, 0) _ hX1 Try.underlying26 ?hd2 (info_frame HCS.out) ?_ ?hw2); (case hx2 => rfl); (case hd2 => rfl); (case hw2 => rfl))
          | (go_at_call 10; (with_reducible refine (HP.out _).mono ?_); rintro e w2 ⟨A2, m2, c2, rfl, hv2, hb2⟩
             have hB2 := hB1.trans (hb2.mono hB1.size)
             have hX2 := (hb2.block _ (Array.getElem?_eq_some_iff.1 hX1).1).trans hX1)
          | (go_at_call 12; (with_reducible refine (HF.out A2 m2 c2 w2 hv2).mono ?_); rintro e w3 ⟨rfl, hb3⟩
             have hB3 := hB2.trans (hb3.mono hB2.size)
             have hX3 := (hb3.block _ (Array.getElem?_eq_some_iff.1 hX2).1).trans hX2)
          | ((refine wpList_store_blk rfl 26 _ _ rfl w3.heap.size F ?hx3 ?hy3 26 _ (heap_alloc_new w3 _) (info_frame HFS.out) ?hs3 HF1.out ?_); (case hx3 => rfl); (case hy3 => rfl); (case hs3 => rw [HFS.out]; rfl)
             intro w4 hg4 hY4 hs4
             have hB4 : Below w.heap.size w w4 := (hB3.alloc hB3.size _).grown hg4 (Nat.le_trans hB3.size (size_le_alloc _ _)) (fun k e => by cases e; exact hB3.size)
             have hb34 : Below w3.heap.size w3 w4 := (one_alloc w3 _).grown hg4 (size_le_alloc _ _) (fun k e => by cases e; exact Nat.le_refl _)
             have hX4 := (hb34.block _ (Array.getElem?_eq_some_iff.1 hX3).1).trans hX3
             clear hg4 hs4)
          | ((with_reducible refine wpList_load_blk 26 _ rfl w3.heap.size ?hx4 26 F (0, 0) _ hY4 Try.underlying26 ?hd4 (info_frame HFS.out) ?_ ?hw4); (case hx4 => rfl); (case hd4 => rfl); (case hw4 => rfl))
          | ((with_reducible refine wpList_load_blk 26 _ rfl w.heap.size ?hx5 26 C (0, 0) _ hX4 Try.underlying26 ?hd5 (info_frame HCS.out) ?_ ?hw5); (case hx5 => rfl); (case hd5 => rfl); (case hw5 => rfl))
          | ((with_reducible refine wpList_eq_fr .neq _ _ rfl F C ?hx6 ?hy6 true false (.inr ⟨rfl, rfl⟩) HE.out ?_ ?hw6); (case hx6 => rfl); (case hy6 => rfl); (case hw6 => rfl))
          | (go_at_call 12; (with_reducible refine (HH.out A n c w4 (HL.out.below hB4)).mono ?_); rintro e w5 ⟨rfl, hb5⟩
             have hB5 := hB4.trans (hb5.mono hB4.size))
          | ((refine wpList_store_blk rfl 26 _ _ rfl w5.heap.size H ?hx7 ?hy7 26 _ (heap_alloc_new w5 _) (info_frame HHS.out) ?hs7 HH1.out ?_); (case hx7 => rfl); (case hy7 => rfl); (case hs7 => rw [HHS.out]; rfl)
             intro w6 hg6 hY6 hs6
             have hB6 : Below w.heap.size w w6 := (hB5.alloc hB5.size _).grown hg6 (Nat.le_trans hB5.size (size_le_alloc _ _)) (fun k e => by cases e; exact hB5.size)
             clear hg6 hs6)
          | ((with_reducible refine wpList_load_blk 26 _ rfl w5.heap.size ?hx8 26 H (0, 0) _ hY6 Try.underlying26 ?hd8 (info_frame HHS.out) ?_ ?hw8); (case hx8 => rfl); (case hd8 => rfl); (case hw8 => rfl))
          | (go_at_call 10; (with_reducible refine (HQ.out _).mono ?_); rintro e w7 ⟨A7, m7, c7, rfl, hv7, hb7⟩
             have hB7 := hB6.trans (hb7.mono hB6.size)
             have hY7 := (hb7.block _ (Array.getElem?_eq_some_iff.1 hY6).1).trans hY6
             have hc7 := conv_bts hv7
             have hc8 := conv_bts (HL.out.below hB7))
          | ((with_reducible refine wpList_load_blk 26 _ rfl w5.heap.size ?hx9 26 H (0, 0) _ hY7 Try.underlying26 ?hd9 (info_frame HHS.out) ?_ ?hw9); (case hx9 => rfl); (case hd9 => rfl); (case hw9 => rfl))
          | ((with_reducible refine wpList_build_on 26 _ rfl [] Z ?hb1 HBZ.out ?_ ?hw10); (case hb1 => rfl); (case hw10 => rfl))
          | ((with_reducible refine wpList_eq_fr .eql _ _ rfl H Z ?hx11 ?hy11 true true (.inl ⟨rfl, rfl⟩) HE2.out ?_ ?hw11); (case hx11 => rfl); (case hy11 => rfl); (case hw11 => rfl)))
        all_goals
          go_ret
          exact ⟨rfl, hB7⟩
  · have HX0 := Lib.hid hX0
    clear hX0
    rcases h2 with ⟨rfl, rfl, rfl⟩ | ⟨hd, hE2⟩
    · go_enter Try.func4, Try.ntmps4
      go_wp2_with (first
        | (go_at_call 9; (with_reducible refine (fawake_any _).mono ?_); rintro e w1 ⟨rfl, hb1⟩
           have hB1 := (after_one hb1).1
           have hX1 := (after_one hb1).2.2)
        | ((with_reducible refine wpList_load_blk 26 _ rfl w.heap.size ?hx2 26 C (0, 0) _ hX1 Try.underlying26 ?hd2 (info_frame HCS.out) ?_ ?hw2); (case hx2 => rfl); (case hd2 => rfl); (case hw2 => rfl))
        | (go_at_call 10; (with_reducible refine (HP.out _).mono ?_); rintro e w2 ⟨A2, m2, c2, rfl, hv2, hb2⟩
           have hB2 := hB1.trans (hb2.mono hB1.size)
           obtain rfl : m2 = 0 := by rw [← hv2.len]; exact HX0.out
           have hX2 := (hb2.block _ (Array.getElem?_eq_some_iff.1 hX1).1).trans hX1)
        | (go_at_call 12; (with_reducible refine (HF.out A2 0 c2 w2 hv2).mono ?_); rintro e w3 ⟨rfl, hb3⟩
           have hB3 := hB2.trans (hb3.mono hB2.size)
           have hX3 := (hb3.block _ (Array.getElem?_eq_some_iff.1 hX2).1).trans hX2)
        | ((refine wpList_store_blk rfl 26 _ _ rfl w3.heap.size F ?hx3 ?hy3 26 _ (heap_alloc_new w3 _) (info_frame HFS.out) ?hs3 HF1.out ?_); (case hx3 => rfl); (case hy3 => rfl); (case hs3 => rw [HFS.out]; rfl)
           intro w4 hg4 hY4 hs4
           have hB4 : Below w.heap.size w w4 := (hB3.alloc hB3.size _).grown hg4 (Nat.le_trans hB3.size (size_le_alloc _ _)) (fun k e => by cases e; exact hB3.size)
           have hb34 : Below w3.heap.size w3 w4 := (one_alloc w3 _).grown hg4 (size_le_alloc _ _) (fun k e => by cases e; exact Nat.le_refl _)
           have hX4 := (hb34.block _ (Array.getElem?_eq_some_iff.1 hX3).1).trans hX3
           clear hg4 hs4)
        | ((with_reducible refine wpList_load_blk 26 _ rfl w3.heap.size ?hx4 26 F (0, 0) _ hY4 Try.underlying26 ?hd4 (info_frame HFS.out) ?_ ?hw4); (case hx4 => rfl); (case hd4 => rfl); (case hw4 => rfl))
        | ((with_reducible refine wpList_load_blk 26 _ rfl w.heap.size ?hx5 26 C (0, 0) _ hX4 Try.underlying26 ?hd5 (info_frame HCS.out) ?_ ?hw5); (case hx5 => rfl); (case hd5 => rfl); (case hw5 => rfl))
        | ((with_reducible refine wpList_eq_fr .neq _ _ rfl F C ?hx6 ?hy6 true false (.inr ⟨rfl, rfl⟩) HE.out ?_ ?hw6); (case hx6 => rfl); (case hy6 => rfl); (case hw6 => rfl))
        | (go_at_call 12; (with_reducible refine (HH.out A n c w4 (HL.out.below hB4)).mono ?_); rintro e w5 ⟨rfl, hb5⟩
           have hB5 := hB4.trans (hb5.mono hB4.size))
        | ((refine wpList_store_blk rfl 26 _ _ rfl w5.heap.size H ?hx7 ?hy7 26 _ (heap_alloc_new w5 _) (info_frame HHS.out) ?hs7 HH1.out ?_); (case hx7 => rfl); (case hy7 => rfl); (case hs7 => rw [HHS.out]; rfl)
           intro w6 hg6 hY6 hs6
           have hB6 : Below w.heap.size w w6 := (hB5.alloc hB5.size _).grown hg6 (Nat.le_trans hB5.size (size_le_alloc _ _)) (fun k e => by cases e; exact hB5.size)
           clear hg6 hs6)
        | ((with_reducible refine wpList_load_blk 26 _ rfl w5.heap.size ?hx8 26 H (0, 0) _ hY6 Try.underlying26 ?hd8 (info_frame HHS.out) ?_ ?hw8); (case hx8 => rfl); (case hd8 => rfl); (case hw8 => rfl))
        | (go_at_call 10; (with_reducible refine (HQ.out _).mono ?_); rintro e w7 ⟨A7, m7, c7, rfl, hv7, hb7⟩
           have hB7 := hB6.trans (hb7.mono hB6.size)
           have hY7 := (hb7.block _ (Array.getElem?_eq_some_iff.1 hY6).1).trans hY6
           have hc7 := conv_bts hv7
           have hc8 := conv_bts (HL.out.below hB7)))
      all_goals
        go_ret
        exact ⟨rfl, hB7⟩
    · have HE2 := Lib.hid hE2
      clear hE2
      rcases hd with rfl | rfl | rfl
      all_goals
        go_enter Try.func4, Try.ntmps4
        go_wp2_with (first
          | (go_at_call 9; (with_reducible refine (fawake_any _).mono ?_); rintro e w1 ⟨rfl, hb1⟩
             have hB1 := (after_one hb1).1
             have hX1 := (after_one hb1).2.2)
          | ((with_reducible refine wpList_load_blk 26 _ rfl w.heap.size ?hx2 26 C (0, 0) _ hX1 Try.underlying26 ?hd2 (info_frame HCS.out) ?_ ?hw2); (case hx2 => rfl); (case hd2 => rfl); (case hw2 => rfl))
          | (go_at_call 10; (with_reducible refine (HP.out _).mono ?_); rintro e w2 ⟨A2, m2, c2, rfl, hv2, hb2⟩
             have hB2 := hB1.trans (hb2.mono hB1.size)
             obtain rfl : m2 = 0 := by rw [← hv2.len]; exact HX0.out
             have hX2 := (hb2.block _ (Array.getElem?_eq_some_iff.1 hX1).1).trans hX1)
          | (go_at_call 12; (with_reducible refine (HF.out A2 0 c2 w2 hv2).mono ?_); rintro e w3 ⟨rfl, hb3⟩
             have hB3 := hB2.trans (hb3.mono hB2.size)
             have hX3 := (hb3.block _ (Array.getElem?_eq_some_iff.1 hX2).1).trans hX2)
          | ((refine wpList_store_blk rfl 26 _ _ rfl w3.heap.size F ?hx3 ?hy3 26 _ (heap_alloc_new w3 _) (info_frame HFS.out) ?hs3 HF1.out ?_); (case hx3 => rfl); (case hy3 => rfl); (case hs3 => rw [HFS.out]; rfl)
             intro w4 hg4 hY4 hs4
             have hB4 : Below w.heap.size w w4 := (hB3.alloc hB3.size _).grown hg4 (Nat.le_trans hB3.size (size_le_alloc _ _)) (fun k e => by cases e; exact hB3.size)
             have hb34 : Below w3.heap.size w3 w4 := (one_alloc w3 _).grown hg4 (size_le_alloc _ _) (fun k e => by cases e; exact Nat.le_refl _)
             have hX4 := (hb34.block _ (Array.getElem?_eq_some_iff.1 hX3).1).trans hX3
             clear hg4 hs4)
          | ((with_reducible refine wpList_load_blk 26 _ rfl w3.heap.size ?hx4 26 F (0, 0) _ hY4 Try.underlying26 ?hd4 (info_frame HFS.out) ?_ ?hw4); (case hx4 => rfl); (case hd4 => rfl); (case hw4 => rfl))
          | ((with_reducible refine wpList_load_blk 26 _ rfl w.heap.size ?hx5 26 C (0, 0) _ hX4 Try.underlying26 ?hd5 (info_frame HCS.out) ?_ ?hw5); (case hx5 => rfl); (case hd5 => rfl); (case hw5 => rfl))
          | ((with_reducible refine wpList_eq_fr .neq _ _ rfl F C ?hx6 ?hy6 true false (.inr ⟨rfl, rfl⟩) HE.out ?_ ?hw6); (case hx6 => rfl); (case hy6 => rfl); (case hw6 => rfl))
          | (go_at_call 12; (with_reducible refine (HH.out A n c w4 (HL.out.below hB4)).mono ?_); rintro e w5 ⟨rfl, hb5⟩
             have hB5 := hB4.trans (hb5.mono hB4.size))
          | ((refine wpList_store_blk rfl 26 _ _ rfl w5.heap.size H ?hx7 ?hy7 26 _ (heap_alloc_new w5 _) (info_frame HHS.out) ?hs7 HH1.out ?_); (case hx7 => rfl); (case hy7 => rfl); (case hs7 => rw [HHS.out]; rfl)
             intro w6 hg6 hY6 hs6
             have hB6 : Below w.heap.size w w6 := (hB5.alloc hB5.size _).grown hg6 (Nat.le_trans hB5.size (size_le_alloc _ _)) (fun k e => by cases e; exact hB5.size)
             clear hg6 hs6)
          | ((with_reducible refine wpList_load_blk 26 _ rfl w5.heap.size ?hx8 26 H (0, 0) _ hY6 Try.underlying26 ?hd8 (info_frame HHS.out) ?_ ?hw8); (case hx8 => rfl); (case hd8 => rfl); (case hw8 => rfl))
          | (go_at_call 10; (with_reducible refine (HQ.out _).mono ?_); rintro e w7 ⟨A7, m7, c7, rfl, hv7, hb7⟩
             have hB7 := hB6.trans (hb7.mono hB6.size)
             have hY7 := (hb7.block _ (Array.getElem?_eq_some_iff.1 hY6).1).trans hY6
             have hc7 := conv_bts hv7
             have hc8 := conv_bts (HL.out.below hB7))
          | ((with_reducible refine wpList_load_blk 26 _ rfl w5.heap.size ?hx9 26 H (0, 0) _ hY7 Try.underlying26 ?hd9 (info_frame HHS.out) ?_ ?hw9); (case hx9 => rfl); (case hd9 => rfl); (case hw9 => rfl))
          | ((with_reducible refine wpList_build_on 26 _ rfl [] Z ?hb1 HBZ.out ?_ ?hw10); (case hb1 => rfl); (case hw10 => rfl))
          | ((with_reducible refine wpList_eq_fr .eql _ _ rfl H Z ?hx11 ?hy11 true true (.inl ⟨rfl, rfl⟩) HE2.out ?_ ?hw11); (case hx11 => rfl); (case hy11 => rfl); (case hw11 => rfl)))
        all_goals
          go_ret
          exact ⟨rfl, hB7⟩
theorem fback_all (f : Fr) (A : Option Addr) (n c : Nat) (l : List Int) (w : World) (hf : f.ok) (hl : Bts w A n c l) :
    Calls Try.prog 4 #[frV f, .slice A n c] w fun e w' => e = .returned (.bool true) ∧ Below w.heap.size w w' := by
  by_cases hn : 400 < n
  · exact fback_big f A n c w hn
  · have hok : ∀ j, 0 ≤ (if plainB f then putF f else []).getD j 0 ∧ (if plainB f then putF f else []).getD j 0 < 256 := by
      split
      · exact putF_ok hf
      · exact ok_nil
    have hro := read_okay l hl.ok
    refine fback_core (frA f) (frA (readF (if plainB f then putF f else []))) (frA (readF l)) _ (if plainB (readF l) then putF (readF l) else []) l (plainB f) (plainB (readF l)) (errL l) A n c w (by omega) hl (frA_size hf.len) (frA_size (read_okay _ hok).len) (frA_size hro.len) (frA_one _) (frA_one _) (errL (if plainB f then putF f else []))
      (fun w => put_plain_b f w hf _ rfl) (fun A n c w hb => (read_any A n c _ w hb)) (fun A n c w hb => (read_any A n c _ w hb)) (fun w => put_plain_b _ w hro _ rfl) ?_ ?_
    · cases hp : plainB f with
      | true =>
        rw [if_pos rfl]
        obtain ⟨e1, e2⟩ := put_read hf hp
        refine .inl ⟨rfl, e1, fun w => ?_⟩
        rw [e2, eq_frames f f hf.len hf.len, eqFr_self]
      | false => exact .inr ⟨rfl, rfl⟩
    · by_cases h0 : errL l = 0
      · obtain ⟨_, hp, hput⟩ := read_put hl.ok h0
        refine .inl ⟨h0, hp, ?_⟩
        rw [if_pos hp, hput]
      · refine .inr ⟨(err_cases l).resolve_left h0, fun w => ?_⟩
        rw [readF_no h0, eq_frames _ _ zero_ok.len zero_ok.len, eqFr_self]
end Go.Proofs.Ytadcbikdbekmgaa
