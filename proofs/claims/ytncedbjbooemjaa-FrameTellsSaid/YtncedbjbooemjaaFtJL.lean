/- Joined texts: The walk over the law FrameBack: what is put is read as it; what is read is put as the same bytes; what is not read is zero. append(v, s...) of bytes: the same as in BasBytes, and where it lies. The walk over the law FrameSplit: frames that come one behind the other, and a beginning of another one, are split into just them, and that; all of it is all the bytes. -/
import Derived.Test.YtncedbjbooemjaaFtJK
import Derived.Test.YtncedbjbooemjaaFtJA
import Derived.Test.YtncedbjbooemjaaFtJB
import Derived.Maps.AppendAt
import Derived.Test.YtncedbjbooemjaaFtJH
/- The walk over the law FrameBack: what is put is read as it; what is read is put as the same bytes; what is not read is zero. -/
namespace Go.Proofs.Ytncedbjbooemjaa
set_option linter.unusedVariables false
set_option linter.unusedSimpArgs false
open Go.RowKit

/-- '==' and '!=' between two frames, guarded or not -/
theorem wpList_eq_fr {ops : Array Oper} {rest : List Oper} {o : Oper} {a : Act} {w : World} {Q : Exit → Act → World → Prop} (op : BinOp) (x y : Operand) (ho : o.op = .binOp op 26 x y 26) (xs ys : Array Value) (hx : a.eval x = .agg xs) (hy : a.eval y = .agg ys) (E r : Bool) (hr : op = .eql ∧ r = E ∨ op = .neq ∧ r = !E)
    (hE : ∀ w, (Op.equalIn 10000 26 (.agg xs) (.agg ys)).run Try.prog w = .ok E w) (h : wpList Try.prog ops Q rest (a.put o.dst (.bool r)) w) (hw : Region.wanted o (yielded ops a.tmps) = true) : wpList Try.prog ops Q (o :: rest) a w :=
  wpList_step fun K hK => by
    rw [if_pos hw]
    unfold Oper.wp
    rw [run_eq_fr ho hx hy hr (hE w)]
    exact hK _ _ h
set_option maxRecDepth 100000 in
theorem fback_big (f : Fr) (A : Option Addr) (n c : Nat) (w : World) (hn : 400 < n) :
    Calls Try.prog 4 #[frV f, .slice A n c] w fun e w' => e = .returned (.bool true) ∧ Below w.heap.size w w' := by
  have hn' : (400 : Int) < n := by omega
  unfold frV
  obtain ⟨C, hC⟩ : ∃ C, frA f = C := ⟨_, rfl⟩
  rw [hC]
  go_enter Try.func4, Try.ntmps4
  go_wp2_with (go_at_call 9; (with_reducible refine (fawake_any _).mono ?_); rintro e w1 ⟨rfl, hb1⟩
               have hB1 := (after_one hb1).1)
  go_ret
  exact ⟨rfl, hB1⟩

set_option maxRecDepth 100000 in
set_option maxHeartbeats 4000000 in
/-- the law, once it is known what the four calls give -/
theorem fback_core (C F H : Array Value) (X Y l : List Int) (is q : Bool) (d : Int) (A : Option Addr) (n c : Nat) (w : World) (hn : n ≤ 400) (hl : Bts w A n c l)
    (hCs : C.size = 40) (hFs : F.size = 40) (hHs : H.size = 40) (hF1 : F.all (·.oneCell') = true) (hH1 : H.all (·.oneCell') = true) (d0 : Int)
    (hpc : ∀ w, Calls Try.prog 10 #[.agg C] w (GivesB X is w))
    (hF : ∀ (A : Option Addr) (n c : Nat) (w : World), Bts w A n c X → Calls Try.prog 12 #[.slice A n c] w fun e w' => e = .returned (.tuple #[.agg F, .int .i64 d0]) ∧ Below w.heap.size w w')
    (hH : ∀ (A : Option Addr) (n c : Nat) (w : World), Bts w A n c l → Calls Try.prog 12 #[.slice A n c] w fun e w' => e = .returned (.tuple #[.agg H, .int .i64 d]) ∧ Below w.heap.size w w')
    (hqc : ∀ w, Calls Try.prog 10 #[.agg H] w (GivesB Y q w))
    (h1 : (is = true ∧ d0 = 0 ∧ ∀ w, (Op.equalIn 10000 26 (.agg F) (.agg C)).run Try.prog w = .ok true w) ∨ (is = false ∧ X.length = 0))
    (h2 : (d = 0 ∧ q = true ∧ Y = l) ∨ ((d = 2 ∨ d = 3 ∨ d = 4) ∧ ∀ w, (Op.equalIn 10000 26 (.agg H) (.agg (frA Fr.zero))).run Try.prog w = .ok true w)) :
    Calls Try.prog 4 #[.agg C, .slice A n c] w fun e w' => e = .returned (.bool true) ∧ Below w.heap.size w w' := by
  have hn' : (n : Int) ≤ 400 := by omega
  have HCS := Lib.hid hCs
  have HFS := Lib.hid hFs
  have HHS := Lib.hid hHs
  have HF1 := Lib.hid hF1
  have HH1 := Lib.hid hH1
  have HP := Lib.hid hpc
  have HF := Lib.hid hF
  have HH := Lib.hid hH
  have HQ := Lib.hid hqc
  have HL := Lib.hid hl
  have HOK := Lib.hid hl.ok
  have hbz : Try.prog.built 26 [] = some (frA Fr.zero) := built_of (z := .agg (frA Fr.zero)) (places := [(0, 1), (1, 1), (2, 1), (3, 1), (4, 1), (5, 1), (6, 1), (7, 1), (8, 32)]) Try.underlying26 (by kernel_rfl) (by kernel_rfl) rfl
  obtain ⟨Z, hZ⟩ : ∃ Z, frA Fr.zero = Z := ⟨_, rfl⟩
  rw [hZ] at h2 hbz
  have HBZ := Lib.hid hbz
  clear hbz hZ hpc hF hH hqc hl hCs hFs hHs hF1 hH1
  rcases h1 with ⟨rfl, rfl, hE⟩ | ⟨rfl, hX0⟩
  · have HE := Lib.hid hE
    clear hE
    rcases h2 with ⟨rfl, rfl, rfl⟩ | ⟨hd, hE2⟩
    · go_enter Try.func4, Try.ntmps4
      go_wp2_with (first
        | (go_at_call 9; (with_reducible refine (fawake_any _).mono ?_); rintro e w1 ⟨rfl, hb1⟩
           have hB1 := (after_one hb1).1
           have hX1 := (after_one hb1).2.2)
        | ((with_reducible refine wpList_load_blk 26 _ rfl w.heap.size ?hx2 26 C (0, 0) _ hX1 Try.underlying26 ?hd2 (info_frame HCS.out) ?_ ?hw2); (case hx2 => rfl); (case hd2 => rfl); (case hw2 => rfl))
        | (go_at_call 10; (with_reducible refine (HP.out _).mono ?_); rintro e w2 ⟨A2, m2, c2, rfl, hv2, hb2⟩
           have hB2 := hB1.trans (hb2.mono hB1.size)
           have hX2 := (hb2.block _ (Array.getElem?_eq_some_iff.1 hX1).1).trans hX1)
        | (go_at_call 12; (with_reducible refine (HF.out A2 m2 c2 w2 hv2).mono ?_); rintro e w3 ⟨rfl, hb3⟩
           have hB3 := hB2.trans (hb3.mono hB2.size)
           have hX3 := (hb3.block _ (Array.getElem?_eq_some_iff.1 hX2).1).trans hX2)
        | ((refine wpList_store_blk rfl 26 _ _ rfl w3.heap.size F ?hx3 ?hy3 26 _ (heap_alloc_new w3 _) (info_frame HFS.out) ?hs3 HF1.out ?_); (case hx3 => rfl); (case hy3 => rfl); (case hs3 => rw [HFS.out]; rfl)
           intro w4 hg4 hY4 hs4
           have hB4 : Below w.heap.size w w4 := (hB3.alloc hB3.size _).grown hg4 (Nat.le_trans hB3.size (size_le_alloc _ _)) (fun k e => by cases e; exact hB3.size)
           have hb34 : Below w3.heap.size w3 w4 := (one_alloc w3 _).grown hg4 (size_le_alloc _ _) (fun k e => by cases e; exact Nat.le_refl _)
           have hX4 := (hb34.block _ (Array.getElem?_eq_some_iff.1 hX3).1).trans hX3
           clear hg4 hs4)
        | ((with_reducible refine wpList_load_blk 26 _ rfl w3.heap.size ?hx4 26 F (0, 0) _ hY4 Try.underlying26 ?hd4 (info_frame HFS.out) ?_ ?hw4); (case hx4 => rfl); (case hd4 => rfl); (case hw4 => rfl))
        | ((with_reducible refine wpList_load_blk 26 _ rfl w.heap.size ?hx5 26 C (0, 0) _ hX4 Try.underlying26 ?hd5 (info_frame HCS.out) ?_ ?hw5); (case hx5 => rfl); (case hd5 => rfl); (case hw5 => rfl))
        | ((with_reducible refine wpList_eq_fr .neq _ _ rfl F C ?hx6 ?hy6 true false (.inr ⟨rfl, rfl⟩) HE.out ?_ ?hw6); (case hx6 => rfl); (case hy6 => rfl); (case hw6 => rfl))
        | (go_at_call 12; (with_reducible refine (HH.out A n c w4 (HL.out.below hB4)).mono ?_); rintro e w5 ⟨rfl, hb5⟩
           have hB5 := hB4.trans (hb5.mono hB4.size))
        | ((refine wpList_store_blk rfl 26 _ _ rfl w5.heap.size H ?hx7 ?hy7 26 _ (heap_alloc_new w5 _) (info_frame HHS.out) ?hs7 HH1.out ?_); (case hx7 => rfl); (case hy7 => rfl); (case hs7 => rw [HHS.out]; rfl)
           intro w6 hg6 hY6 hs6
           have hB6 : Below w.heap.size w w6 := (hB5.alloc hB5.size _).grown hg6 (Nat.le_trans hB5.size (size_le_alloc _ _)) (fun k e => by cases e; exact hB5.size)
           clear hg6 hs6)
        | ((with_reducible refine wpList_load_blk 26 _ rfl w5.heap.size ?hx8 26 H (0, 0) _ hY6 Try.underlying26 ?hd8 (info_frame HHS.out) ?_ ?hw8); (case hx8 => rfl); (case hd8 => rfl); (case hw8 => rfl))
        | (go_at_call 10; (with_reducible refine (HQ.out _).mono ?_); rintro e w7 ⟨A7, m7, c7, rfl, hv7, hb7⟩
           have hB7 := hB6.trans (hb7.mono hB6.size)
           have hY7 := (hb7.block _ (Array.getElem?_eq_some_iff.1 hY6).1).trans hY6
           have hc7 := conv_bts hv7
           have hc8 := conv_bts (HL.out.below hB7)))
      all_goals
        go_ret
        exact ⟨rfl, hB7⟩
    · have HE2 := Lib.hid hE2
      clear hE2
      rcases hd with rfl | rfl | rfl
      all_goals
        go_enter Try.func4, Try.ntmps4
        go_wp2_with (first
          | (go_at_call 9; (with_reducible refine (fawake_any _).mono ?_); rintro e w1 ⟨rfl, hb1⟩
             have hB1 := (after_one hb1).1
             have hX1 := (after_one hb1).2.2)
          | ((with_reducible refine wpList_load_blk 26 _ rfl w.heap.size ?hx2 26 C (0, 0) _ hX1 Try.underlying26 ?hd2 (info_frame HCS.out) ?_ ?hw2); (case hx2 => rfl); (case hd2 => rfl); (case hw2 => rfl))
          | (go_at_call 10; (with_reducible refine (HP.out _).mono ?_); rintro e w2 ⟨A2, m2, c2, rfl, hv2, hb2⟩
             have hB2 := hB1.trans (hb2.mono hB1.size)
             have hX2 := (hb2.block _ (Array.getElem?_eq_some_iff.1 hX1).1).trans hX1)
          | (go_at_call 12; (with_reducible refine (HF.out A2 m2 c2 w2 hv2).mono ?_); rintro e w3 ⟨rfl, hb3⟩
             have hB3 := hB2.trans (hb3.mono hB2.size)
             have hX3 := (hb3.block _ (Array.getElem?_eq_some_iff.1 hX2).1).trans hX2)
          | ((refine wpList_store_blk rfl 26 _ _ rfl w3.heap.size F ?hx3 ?hy3 26 _ (heap_alloc_new w3 _) (info_frame HFS.out) ?hs3 HF1.out ?_); (case hx3 => rfl); (case hy3 => rfl); (case hs3 => rw [HFS.out]; rfl)
             intro w4 hg4 hY4 hs4
             have hB4 : Below w.heap.size w w4 := (hB3.alloc hB3.size _).grown hg4 (Nat.le_trans hB3.size (size_le_alloc _ _)) (fun k e => by cases e; exact hB3.size)
             have hb34 : Below w3.heap.size w3 w4 := (one_alloc w3 _).grown hg4 (size_le_alloc _ _) (fun k e => by cases e; exact Nat.le_refl _)
             have hX4 := (hb34.block _ (Array.getElem?_eq_some_iff.1 hX3).1).trans hX3
             clear hg4 hs4)
          | ((with_reducible refine wpList_load_blk 26 _ rfl w3.heap.size ?hx4 26 F (0, 0) _ hY4 Try.underlying26 ?hd4 (info_frame HFS.out) ?_ ?hw4); (case hx4 => rfl); (case hd4 => rfl); (case hw4 => rfl))
          | ((with_reducible refine wpList_load_blk 26 _ rfl w.heap.size ?hx5 26 C (0, 0) _ hX4 Try.underlying26 ?hd5 (info_frame HCS.out) ?_ ?hw5); (case hx5 => rfl); (case hd5 => rfl); (case hw5 => rfl))
          | ((with_reducible refine wpList_eq_fr .neq _ _ rfl F C ?hx6 ?hy6 true false (.inr ⟨rfl, rfl⟩) HE.out ?_ ?hw6); (case hx6 => rfl); (case hy6 => rfl); (case hw6 => rfl))
          | (go_at_call 12; (with_reducible refine (HH.out A n c w4 (HL.out.below hB4)).mono ?_); rintro e w5 ⟨rfl, hb5⟩
             have hB5 := hB4.trans (hb5.mono hB4.size))
          | ((refine wpList_store_blk rfl 26 _ _ rfl w5.heap.size H ?hx7 ?hy7 26 _ (heap_alloc_new w5 _) (info_frame HHS.out) ?hs7 HH1.out ?_); (case hx7 => rfl); (case hy7 => rfl); (case hs7 => rw [HHS.out]; rfl)
             intro w6 hg6 hY6 hs6
             have hB6 : Below w.heap.size w w6 := (hB5.alloc hB5.size _).grown hg6 (Nat.le_trans hB5.size (size_le_alloc _ _)) (fun k e => by cases e; exact hB5.size)
             clear hg6 hs6)
          | ((with_reducible refine wpList_load_blk 26 _ rfl w5.heap.size ?hx8 26 H (0, 0) _ hY6 Try.underlying26 ?hd8 (info_frame HHS.out) ?_ ?hw8); (case hx8 => rfl); (case hd8 => rfl); (case hw8 => rfl))
          | (go_at_call 10; (with_reducible refine (HQ.out _).mono ?_); rintro e w7 ⟨A7, m7, c7, rfl, hv7, hb7⟩
             have hB7 := hB6.trans (hb7.mono hB6.size)
             have hY7 := (hb7.block _ (Array.getElem?_eq_some_iff.1 hY6).1).trans hY6
             have hc7 := conv_bts hv7
             have hc8 := conv_bts (HL.out.below hB7))
          | ((with_reducible refine wpList_load_blk 26 _ rfl w5.heap.size ?hx9 26 H (0, 0) _ hY7 Try.underlying26 ?hd9 (info_frame HHS.out) ?_ ?hw9); (case hx9 => rfl); (case hd9 => rfl); (case hw9 => rfl))
          | ((with_reducible refine wpList_build_on 26 _ rfl [] Z ?hb1 HBZ.out ?_ ?hw10); (case hb1 => rfl); (case hw10 => rfl))
          | ((with_reducible refine wpList_eq_fr .eql _ _ rfl H Z ?hx11 ?hy11 true true (.inl ⟨rfl, rfl⟩) HE2.out ?_ ?hw11); (case hx11 => rfl); (case hy11 => rfl); (case hw11 => rfl)))
        all_goals
          go_ret
          exact ⟨rfl, hB7⟩
  · have HX0 := Lib.hid hX0
    clear hX0
    rcases h2 with ⟨rfl, rfl, rfl⟩ | ⟨hd, hE2⟩
    · go_enter Try.func4, Try.ntmps4
      go_wp2_with (first
        | (go_at_call 9; (with_reducible refine (fawake_any _).mono ?_); rintro e w1 ⟨rfl, hb1⟩
           have hB1 := (after_one hb1).1
           have hX1 := (after_one hb1).2.2)
        | ((with_reducible refine wpList_load_blk 26 _ rfl w.heap.size ?hx2 26 C (0, 0) _ hX1 Try.underlying26 ?hd2 (info_frame HCS.out) ?_ ?hw2); (case hx2 => rfl); (case hd2 => rfl); (case hw2 => rfl))
        | (go_at_call 10; (with_reducible refine (HP.out _).mono ?_); rintro e w2 ⟨A2, m2, c2, rfl, hv2, hb2⟩
           have hB2 := hB1.trans (hb2.mono hB1.size)
           obtain rfl : m2 = 0 := by rw [← hv2.len]; exact HX0.out
           have hX2 := (hb2.block _ (Array.getElem?_eq_some_iff.1 hX1).1).trans hX1)
        | (go_at_call 12; (with_reducible refine (HF.out A2 0 c2 w2 hv2).mono ?_); rintro e w3 ⟨rfl, hb3⟩
           have hB3 := hB2.trans (hb3.mono hB2.size)
           have hX3 := (hb3.block _ (Array.getElem?_eq_some_iff.1 hX2).1).trans hX2)
        | ((refine wpList_store_blk rfl 26 _ _ rfl w3.heap.size F ?hx3 ?hy3 26 _ (heap_alloc_new w3 _) (info_frame HFS.out) ?hs3 HF1.out ?_); (case hx3 => rfl); (case hy3 => rfl); (case hs3 => rw [HFS.out]; rfl)
           intro w4 hg4 hY4 hs4
           have hB4 : Below w.heap.size w w4 := (hB3.alloc hB3.size _).grown hg4 (Nat.le_trans hB3.size (size_le_alloc _ _)) (fun k e => by cases e; exact hB3.size)
           have hb34 : Below w3.heap.size w3 w4 := (one_alloc w3 _).grown hg4 (size_le_alloc _ _) (fun k e => by cases e; exact Nat.le_refl _)
           have hX4 := (hb34.block _ (Array.getElem?_eq_some_iff.1 hX3).1).trans hX3
           clear hg4 hs4)
        | ((with_reducible refine wpList_load_blk 26 _ rfl w3.heap.size ?hx4 26 F (0, 0) _ hY4 Try.underlying26 ?hd4 (info_frame HFS.out) ?_ ?hw4); (case hx4 => rfl); (case hd4 => rfl); (case hw4 => rfl))
        | ((with_reducible refine wpList_load_blk 26 _ rfl w.heap.size ?hx5 26 C (0, 0) _ hX4 Try.underlying26 ?hd5 (info_frame HCS.out) ?_ ?hw5); (case hx5 => rfl); (case hd5 => rfl); (case hw5 => rfl))
        | ((with_reducible refine wpList_eq_fr .neq _ _ rfl F C ?hx6 ?hy6 true false (.inr ⟨rfl, rfl⟩) HE.out ?_ ?hw6); (case hx6 => rfl); (case hy6 => rfl); (case hw6 => rfl))
        | (go_at_call 12; (with_reducible refine (HH.out A n c w4 (HL.out.below hB4)).mono ?_); rintro e w5 ⟨rfl, hb5⟩
           have hB5 := hB4.trans (hb5.mono hB4.size))
        | ((refine wpList_store_blk rfl 26 _ _ rfl w5.heap.size H ?hx7 ?hy7 26 _ (heap_alloc_new w5 _) (info_frame HHS.out) ?hs7 HH1.out ?_); (case hx7 => rfl); (case hy7 => rfl); (case hs7 => rw [HHS.out]; rfl)
           intro w6 hg6 hY6 hs6
           have hB6 : Below w.heap.size w w6 := (hB5.alloc hB5.size _).grown hg6 (Nat.le_trans hB5.size (size_le_alloc _ _)) (fun k e => by cases e; exact hB5.size)
           clear hg6 hs6)
        | ((with_reducible refine wpList_load_blk 26 _ rfl w5.heap.size ?hx8 26 H (0, 0) _ hY6 Try.underlying26 ?hd8 (info_frame HHS.out) ?_ ?hw8); (case hx8 => rfl); (case hd8 => rfl); (case hw8 => rfl))
        | (go_at_call 10; (with_reducible refine (HQ.out _).mono ?_); rintro e w7 ⟨A7, m7, c7, rfl, hv7, hb7⟩
           have hB7 := hB6.trans (hb7.mono hB6.size)
           have hY7 := (hb7.block _ (Array.getElem?_eq_some_iff.1 hY6).1).trans hY6
           have hc7 := conv_bts hv7
           have hc8 := conv_bts (HL.out.below hB7)))
      all_goals
        go_ret
        exact ⟨rfl, hB7⟩
    · have HE2 := Lib.hid hE2
      clear hE2
      rcases hd with rfl | rfl | rfl
      all_goals
        go_enter Try.func4, Try.ntmps4
        go_wp2_with (first
          | (go_at_call 9; (with_reducible refine (fawake_any _).mono ?_); rintro e w1 ⟨rfl, hb1⟩
             have hB1 := (after_one hb1).1
             have hX1 := (after_one hb1).2.2)
          | ((with_reducible refine wpList_load_blk 26 _ rfl w.heap.size ?hx2 26 C (0, 0) _ hX1 Try.underlying26 ?hd2 (info_frame HCS.out) ?_ ?hw2); (case hx2 => rfl); (case hd2 => rfl); (case hw2 => rfl))
          | (go_at_call 10; (with_reducible refine (HP.out _).mono ?_); rintro e w2 ⟨A2, m2, c2, rfl, hv2, hb2⟩
             have hB2 := hB1.trans (hb2.mono hB1.size)
             obtain rfl : m2 = 0 := by rw [← hv2.len]; exact HX0.out
             have hX2 := (hb2.block _ (Array.getElem?_eq_some_iff.1 hX1).1).trans hX1)
          | (go_at_call 12; (with_reducible refine (HF.out A2 0 c2 w2 hv2).mono ?_); rintro e w3 ⟨rfl, hb3⟩
             have hB3 := hB2.trans (hb3.mono hB2.size)
             have hX3 := (hb3.block _ (Array.getElem?_eq_some_iff.1 hX2).1).trans hX2)
          | ((refine wpList_store_blk rfl 26 _ _ rfl w3.heap.size F ?hx3 ?hy3 26 _ (heap_alloc_new w3 _) (info_frame HFS.out) ?hs3 HF1.out ?_); (case hx3 => rfl); (case hy3 => rfl); (case hs3 => rw [HFS.out]; rfl)
             intro w4 hg4 hY4 hs4
             have hB4 : Below w.heap.size w w4 := (hB3.alloc hB3.size _).grown hg4 (Nat.le_trans hB3.size (size_le_alloc _ _)) (fun k e => by cases e; exact hB3.size)
             have hb34 : Below w3.heap.size w3 w4 := (one_alloc w3 _).grown hg4 (size_le_alloc _ _) (fun k e => by cases e; exact Nat.le_refl _)
             have hX4 := (hb34.block _ (Array.getElem?_eq_some_iff.1 hX3).1).trans hX3
             clear hg4 hs4)
          | ((with_reducible refine wpList_load_blk 26 _ rfl w3.heap.size ?hx4 26 F (0, 0) _ hY4 Try.underlying26 ?hd4 (info_frame HFS.out) ?_ ?hw4); (case hx4 => rfl); (case hd4 => rfl); (case hw4 => rfl))
          | ((with_reducible refine wpList_load_blk 26 _ rfl w.heap.size ?hx5 26 C (0, 0) _ hX4 Try.underlying26 ?hd5 (info_frame HCS.out) ?_ ?hw5); (case hx5 => rfl); (case hd5 => rfl); (case hw5 => rfl))
          | ((with_reducible refine wpList_eq_fr .neq _ _ rfl F C ?hx6 ?hy6 true false (.inr ⟨rfl, rfl⟩) HE.out ?_ ?hw6); (case hx6 => rfl); (case hy6 => rfl); (case hw6 => rfl))
          | (go_at_call 12; (with_reducible refine (HH.out A n c w4 (HL.out.below hB4)).mono ?_); rintro e w5 ⟨rfl, hb5⟩
             have hB5 := hB4.trans (hb5.mono hB4.size))
          | ((refine wpList_store_blk rfl 26 _ _ rfl w5.heap.size H ?hx7 ?hy7 26 _ (heap_alloc_new w5 _) (info_frame HHS.out) ?hs7 HH1.out ?_); (case hx7 => rfl); (case hy7 => rfl); (case hs7 => rw [HHS.out]; rfl)
             intro w6 hg6 hY6 hs6
             have hB6 : Below w.heap.size w w6 := (hB5.alloc hB5.size _).grown hg6 (Nat.le_trans hB5.size (size_le_alloc _ _)) (fun k e => by cases e; exact hB5.size)
             clear hg6 hs6)
          | ((with_reducible refine wpList_load_blk 26 _ rfl w5.heap.size ?hx8 26 H (0, 0) _ hY6 Try.underlying26 ?hd8 (info_frame HHS.out) ?_ ?hw8); (case hx8 => rfl); (case hd8 => rfl); (case hw8 => rfl))
          | (go_at_call 10; (with_reducible refine (HQ.out _).mono ?_); rintro e w7 ⟨A7, m7, c7, rfl, hv7, hb7⟩
             have hB7 := hB6.trans (hb7.mono hB6.size)
             have hY7 := (hb7.block _ (Array.getElem?_eq_some_iff.1 hY6).1).trans hY6
             have hc7 := conv_bts hv7
             have hc8 := conv_bts (HL.out.below hB7))
          | ((with_reducible refine wpList_load_blk 26 _ rfl w5.heap.size ?hx9 26 H (0, 0) _ hY7 Try.underlying26 ?hd9 (info_frame HHS.out) ?_ ?hw9); (case hx9 => rfl); (case hd9 => rfl); (case hw9 => rfl))
          | ((with_reducible refine wpList_build_on 26 _ rfl [] Z ?hb1 HBZ.out ?_ ?hw10); (case hb1 => rfl); (case hw10 => rfl))
          | ((with_reducible refine wpList_eq_fr .eql _ _ rfl H Z ?hx11 ?hy11 true true (.inl ⟨rfl, rfl⟩) HE2.out ?_ ?hw11); (case hx11 => rfl); (case hy11 => rfl); (case hw11 => rfl)))
        all_goals
          go_ret
          exact ⟨rfl, hB7⟩
theorem fback_all (f : Fr) (A : Option Addr) (n c : Nat) (l : List Int) (w : World) (hf : f.ok) (hl : Bts w A n c l) :
    Calls Try.prog 4 #[frV f, .slice A n c] w fun e w' => e = .returned (.bool true) ∧ Below w.heap.size w w' := by
  by_cases hn : 400 < n
  · exact fback_big f A n c w hn
  · have hok : ∀ j, 0 ≤ (if plainB f then putF f else []).getD j 0 ∧ (if plainB f then putF f else []).getD j 0 < 256 := by
      split
      · exact putF_ok hf
      · exact ok_nil
    have hro := read_okay l hl.ok
    refine fback_core (frA f) (frA (readF (if plainB f then putF f else []))) (frA (readF l)) _ (if plainB (readF l) then putF (readF l) else []) l (plainB f) (plainB (readF l)) (errL l) A n c w (by omega) hl (frA_size hf.len) (frA_size (read_okay _ hok).len) (frA_size hro.len) (frA_one _) (frA_one _) (errL (if plainB f then putF f else []))
      (fun w => put_plain_b f w hf _ rfl) (fun A n c w hb => (read_any A n c _ w hb)) (fun A n c w hb => (read_any A n c _ w hb)) (fun w => put_plain_b _ w hro _ rfl) ?_ ?_
    · cases hp : plainB f with
      | true =>
        rw [if_pos rfl]
        obtain ⟨e1, e2⟩ := put_read hf hp
        refine .inl ⟨rfl, e1, fun w => ?_⟩
        rw [e2, eq_frames f f hf.len hf.len, eqFr_self]
      | false => exact .inr ⟨rfl, rfl⟩
    · by_cases h0 : errL l = 0
      · obtain ⟨_, hp, hput⟩ := read_put hl.ok h0
        refine .inl ⟨h0, hp, ?_⟩
        rw [if_pos hp, hput]
      · refine .inr ⟨(err_cases l).resolve_left h0, fun w => ?_⟩
        rw [readF_no h0, eq_frames _ _ zero_ok.len zero_ok.len, eqFr_self]
end Go.Proofs.Ytncedbjbooemjaa

/- append(v, s...) of bytes: the same as in BasBytes, and where it lies. -/
namespace Go.Proofs.Ytncedbjbooemjaa
open Go.RowKit

theorem wpList_append_b_at {w : World} {ops : Array Oper} {rest : List Oper} {o : Oper} {a : Act} {Q : Exit → Act → World → Prop} (hgd : o.guard = none) (s x : Operand)
    (ho : o.op = .call { callee := .builtin .append, args := #[s, x], argTypes := #[27, 27] })
    (base : Nat) (v : Value) (l : List Int) (hs : a.eval s = v) (hown : Own w base v l) (A : Option Addr) (m c : Nat) (l2 : List Int) (hx : a.eval x = .slice A m c) (hr : Bts w A m c l2)
    (hsmall : l.length + m ≤ 140737488355328) (hbase : base ≤ w.heap.size)
    (h : ∀ v' w', Own w' base v' (l ++ l2) → w.grownBy w' v.ownBlock → (v'.ownBlock = v.ownBlock ∨ v'.ownBlock = some w.heap.size) → wpList Try.prog ops Q rest (a.put o.dst v') w') : wpList Try.prog ops Q (o :: rest) a w := by
  obtain ⟨i, hi, hz, h1, h2⟩ := info_parts info_u8
  have hl2 : (byv l2).length = m * 1 := by rw [byv_length, hr.len, Nat.mul_one]
  rcases A with _ | ad
  · obtain rfl := hr.bare rfl
    have hm : m = 0 := by have := hr.le; omega
    subst hm
    obtain rfl : l2 = [] := List.eq_nil_of_length_eq_zero hr.len
    refine wpList_append_own_none hgd s x 27 ho base 5 i 1 Try.underlying27 hi v l.length (byv l) hs hown hx ?_
    exact h v w (by simpa using hown) (World.grownBy.refl w _) (.inl rfl)
  · refine wpList_append_own_at (P := Try.prog) w hgd s x 27 ho base 5 i (.int .u8 0) 1 1 Try.underlying27 hi hz h1 h2 rfl (by omega) v l.length (byv l) hs hown ad m c (byv l2) hx hl2 ?_ (byv_one l2) (by unfold maxLen; omega) (by omega) hbase ?_
    · intro j u hu
      have hj : j < l2.length := by
        have := (List.getElem?_eq_some_iff.1 hu).1
        rwa [byv_length] at this
      rw [byv_get l2 j hj] at hu
      obtain ⟨b, off, hA, hc⟩ := hr.at_ (by have := hr.len; omega)
      injection hA with hA
      subst hA
      have hadd : (⟨b, off, none⟩ : Addr).add j = ⟨b, off + j, none⟩ := by
        unfold Addr.add
        split
        · rename_i h0; subst h0; rfl
        · rfl
      rw [hadd, hc j (by have := hr.len; omega), hu]
    · intro v' w' hown' hg _ hat
      refine h v' w' ?_ hg hat
      unfold Own
      rw [byv_append, List.length_append, hr.len]
      exact hown'
end Go.Proofs.Ytncedbjbooemjaa

/- The walk over the law FrameSplit: frames that come one behind the other, and a beginning of another one, are split into just them, and that; all of it is all the bytes. -/
namespace Go.Proofs.Ytncedbjbooemjaa
set_option linter.unusedVariables false
set_option linter.unusedSimpArgs false
open Go.RowKit

theorem ok_drop {l : List Int} (h : ∀ j, 0 ≤ l.getD j 0 ∧ l.getD j 0 < 256) (k : Nat) : ∀ j, 0 ≤ (l.drop k).getD j 0 ∧ (l.drop k).getD j 0 < 256 := fun j => by
  have := h (k + j)
  simpa [List.getD_eq_getElem?_getD, List.getElem?_drop] using this
theorem fsplit_big (f : Fr) (k : Int) (A B : Option Addr) (n c m d : Nat) (w : World) (hn : n ≤ 9223372036854775807) (hm : m ≤ 9223372036854775807) (h : 12 < n ∨ 400 < m) :
    Calls Try.prog 5 #[.slice A n c, frV f, .int .i64 k, .slice B m d] w fun e w' => e = .returned (.bool true) ∧ Below w.heap.size w w' := by
  unfold frV
  obtain ⟨C, hC⟩ : ∃ C, frA f = C := ⟨_, rfl⟩
  rw [hC]
  by_cases h1 : 12 < n
  · have h2 : (12 : Int) < n := by omega
    clear h h1
    go_enter Try.func5, Try.ntmps5
    go_wp2_with (go_at_call 9; (with_reducible refine (fawake_any _).mono ?_); rintro e w1 ⟨rfl, hb1⟩
                 have hB1 := (after_one hb1).1)
    go_ret
    exact ⟨rfl, hB1⟩
  · have h2 : (n : Int) ≤ 12 := by omega
    have h3 : (400 : Int) < m := by omega
    clear h h1
    go_enter Try.func5, Try.ntmps5
    go_wp2_with (go_at_call 9; (with_reducible refine (fawake_any _).mono ?_); rintro e w1 ⟨rfl, hb1⟩
                 have hB1 := (after_one hb1).1)
    go_ret
    exact ⟨rfl, hB1⟩
/-- what Split hands back, as a list of slices -/
theorem split_lst (A : Option Addr) (n c : Nat) (l : List Int) (w : World) (hb : Bts w A n c l) (hsm : n ≤ 1000000) :
    Calls Try.prog 14 #[.slice A n c] w fun e w' => ∃ A1 n1 c1 A2 n2 c2 sl, e = .returned (.tuple #[.slice A1 n1 c1, .slice A2 n2 c2]) ∧ Lst w' A1 n1 c1 sl (framesL l) ∧ Bts w' A2 n2 c2 (restL l) ∧ Below w.heap.size w w' := by
  refine (split_any A n c l w hb hsm).mono ?_
  rintro e w' ⟨v, u, sl, rfl, hv, hp, hu, hB⟩
  obtain ⟨A1, n1, c1, rfl, hr⟩ := hv.rws
  have hok : ∀ j, 0 ≤ (restL l).getD j 0 ∧ (restL l).getD j 0 < 256 := ok_drop hb.ok _
  obtain ⟨A2, n2, c2, rfl, hb2⟩ := hu.slice hok
  refine ⟨A1, n1, c1, A2, n2, c2, sl, rfl, ⟨hr, hp.len, fun i hi => ?_⟩, hb2, hB⟩
  obtain ⟨A', cap, hv, hbt⟩ := (hp.own i hi).bts (hp.ok i)
  unfold slV at hv
  injection hv with e1 e2 e3
  rw [e1, e2, e3]
  exact hbt
theorem flat_take_succ (L : List (List Int)) (k : Nat) (h : k < L.length) : (L.take (k + 1)).flatten = (L.take k).flatten ++ L.getD k [] := by
  rw [List.take_succ_eq_append_getElem h, List.flatten_append]
  simp [List.getD_eq_getElem?_getD, h]

theorem hokFlat : ∀ (l : List Fr) (_ : ∀ g ∈ l, g.ok) (j : Nat), 0 ≤ ((l.map putF).flatten).getD j 0 ∧ ((l.map putF).flatten).getD j 0 < 256
  | [], _, j => by simp
  | g :: l, h, j => by
    rw [List.map_cons, List.flatten_cons]
    exact ok_append (putF_ok (h g (by simp))) (hokFlat l (fun x hx => h x (by simp [hx]))) j
theorem apart_own {w : World} {B B' : Nat} {u v : Value} {l : List Int} {rows : List (List Value)} (h : Own w B u l) (hr : OwnR 27 1 w B' v rows) : v.ownBlock = none ∨ v.ownBlock ≠ u.ownBlock := by
  rcases own_apart h hr with h1 | h1
  · cases hv : v.ownBlock with
    | none => exact .inl rfl
    | some g => right; rw [h1]; simp
  · exact .inr (Ne.symm h1)
theorem far_rows {w w' : World} {B B' : Nat} {u v : Value} {l : List Int} {rows : List (List Value)} (ho : Own w B u l) (hr : OwnR 27 1 w B' v rows) (hg : w.grownBy w' v.ownBlock) : Own w' B u l := ho.far hg (own_apart ho hr)
theorem Parts.last {w : World} {B : Nat} {sr : List Sl} {A : Option Addr} {m c : Nat} {L : List (List Int)} {x : List Int} (h : Parts w B (sr ++ [(A, m, c)]) (L ++ [x])) (hl : sr.length = L.length) (hok : ∀ j, 0 ≤ x.getD j 0 ∧ x.getD j 0 < 256) : Bts w A m c x := by
  have h1 := h.own L.length (by simp)
  have e1 : (sr ++ [(A, m, c)]).getD L.length (none, 0, 0) = (A, m, c) := by rw [← hl]; simp
  have e2 : (L ++ [x]).getD L.length [] = x := by simp
  rw [e1, e2] at h1
  obtain ⟨A', c', hv', hb'⟩ := h1.bts hok
  simp only [slV, Value.slice.injEq] at hv'
  obtain ⟨rfl, rfl, rfl⟩ := hv'
  exact hb'
theorem Parts.apart {w w' : World} {B : Nat} {sl : List Sl} {L : List (List Int)} {u : Value} (h : Parts w B sl L) (hs : ∀ r ∈ sl, Sep (slV r) u) (hg : w.grownBy w' u.ownBlock) : Parts w' B sl L :=
  ⟨h.len, fun i hi => (h.own i hi).far hg (hs _ (by
    have hi2 : i < sl.length := by rw [h.len]; exact hi
    rw [List.getD_eq_getElem?_getD, List.getElem?_eq_getElem hi2]
    exact List.getElem_mem hi2)).row, h.ok⟩
set_option maxRecDepth 100000 in
set_option maxHeartbeats 4000000 in
theorem fsplit_main (l : List Fr) (f : Fr) (k : Int) (b : List Int) (A B : Option Addr) (n c m d : Nat) (w : World) (hn : n ≤ 12) (hm : m ≤ 400) (hl : Frs w A n c l) (hf : f.ok) (hb : Bts w B m d b) :
    Calls Try.prog 5 #[.slice A n c, frV f, .int .i64 k, .slice B m d] w fun e w' => e = .returned (.bool true) ∧ Below w.heap.size w w' := by
  have hsp := fun w hb => split_lst B m d b w hb (by omega)
  have hall := all_back _ b (Nat.le_refl _)
  have hblen := hb.len
  have hn' : (n : Int) ≤ 12 := by omega
  have hm' : (m : Int) ≤ 400 := by omega
  obtain ⟨L, hL⟩ : ∃ L, framesL b = L := ⟨_, rfl⟩
  obtain ⟨R, hR⟩ : ∃ R, restL b = R := ⟨_, rfl⟩
  rw [hL, hR] at hsp hall
  have hfl : ∀ j, ((L.take j).flatten).length ≤ 400 := fun j => by
    have h1 := congrArg List.length hall
    rw [List.length_append, hblen] at h1
    have h2 := congrArg (fun l => (List.flatten l).length) (List.take_append_drop j L)
    simp only [List.flatten_append, List.length_append] at h2
    omega
  have hR4 : R.length ≤ 400 := by
    have h1 := congrArg List.length hall
    rw [List.length_append, hblen] at h1
    omega
  have hCs := frC_length hf.len
  unfold frV
  rw [frA_arr]
  obtain ⟨C, hC⟩ : ∃ C, frC f = C := ⟨_, rfl⟩
  rw [hC] at hCs ⊢
  have HSP := Lib.hid hsp
  have HALL := Lib.hid hall
  have HFL := Lib.hid hfl
  have HR4 := Lib.hid hR4
  have HC := Lib.hid hC
  have HCA : Hid (C.toArray.size = 40) := Lib.hid hCs
  have HBT := Lib.hid hb
  have HFR := Lib.hid hl
  clear hsp hall hL hR hCs hC hb hl hfl hR4 hblen
  go_enter Try.func5, Try.ntmps5
  go_wp2_with (first
    | (go_at_call 9; (with_reducible refine (fawake_any _).mono ?_); rintro e w1 ⟨rfl, hb1⟩
       have hB1 := (after_one hb1).1
       have hX1 := (after_one hb1).2.2)
    | (go_at_call 14; (with_reducible refine (HSP.out _ (HBT.out.below hB1)).mono ?_); rintro e w2 ⟨A1, n1, c1, A2, n2, c2, sl, rfl, hls2, hre2, hb2⟩
       have hB2 := hB1.trans (hb2.mono hB1.size)
       have hX2 := (hb2.block _ (Array.getElem?_eq_some_iff.1 hX1).1).trans hX1))
  have hn1 := hls2.rws.small
  have HLS := Lib.hid hls2
  have HRE := Lib.hid hre2
  have HX2 := Lib.hid hX2
  have HB2 := Lib.hid hB2
  have hsz2 : w.heap.size ≤ w2.heap.size := hB2.size
  clear hls2 hre2 hX2 hB2 hX1 hB1 hb1 hb2
  go_loopw [12, 13] (fun vj i wr => ∃ t : Nat, t ≤ n1 ∧ i = .int .i64 t ∧ Own wr w2.heap.size vj ((L.take t).flatten) ∧ Below w2.heap.size w2 wr) (fun _ i _ => n1 - (intOf i).toNat)
  case atStart => exact ⟨0, Nat.zero_le _, rfl, Own.nil _ _, Below.refl _ _⟩
  case round =>
    obtain ⟨t, ht, rfl, hown, hB⟩ := hrel
    by_cases hlt : t < n1
    · have hl2 := HLS.out.below hB
      obtain ⟨ba, oa, rfl, hca⟩ := hl2.at_ (by omega)
      have hxa := hca t hlt
      have hba := hl2.bts t (by rw [hl2.size]; exact hlt)
      have hnx := flat_take_succ L t (by rw [hl2.size]; exact hlt)
      obtain ⟨⟨ra1, ra2, ra3⟩, hra⟩ : ∃ r, sl.getD t (none, 0, 0) = r := ⟨_, rfl⟩
      rw [hra] at hxa hba
      unfold slV at hxa
      have hsm : ((L.take t).flatten).length + ra2 ≤ 140737488355328 := by
        have h1 := HFL.out (t + 1)
        rw [hnx, List.length_append] at h1
        have h2 := hba.len
        simp only at h2
        omega
      have hp0 : 0 ≤ (t : Int) := by omega
      have hp1 : (t : Int) < n1 := by omega
      obtain ⟨P, hP⟩ : ∃ P, (L.take t).flatten = P := ⟨_, rfl⟩
      rw [hP] at hown hnx hsm
      have HNX := Lib.hid hnx
      clear hl2 hca hra hnx hP
      go_wp2_with (at_builtin
                   refine wpList_append_b rfl _ _ rfl w2.heap.size u12 P rfl hown ra1 ra2 ra3 _ rfl hba hsm hB.size ?_
                   intro v3 w3 hown3 hg3
                   rw [← HNX.out] at hown3
                   have hB3 : Below w2.heap.size w2 w3 := hB.grown hg3 hB.size (fun k hk => (hown.size k hk).1)
                   clear hg3)
      go_roundw
      case rel => exact ⟨t + 1, by omega, by go_num, hown3, hB3⟩
      case measure => simp [intOf]; omega
    · have htn : t = n1 := by omega
      have htk : L.take t = L := by rw [htn, ← HLS.out.size, List.take_length]
      rw [htk] at hown
      have hokL : ∀ j, 0 ≤ L.flatten.getD j 0 ∧ L.flatten.getD j 0 < 256 := by
        have h1 : L.flatten = b.take L.flatten.length := by rw [← HALL.out, List.take_left' rfl]
        rw [h1]
        exact ok_take HBT.out.ok _
      have hLl : L.flatten.length ≤ 400 := by
        have h1 := HFL.out n1
        rw [← htn, htk] at h1
        exact h1
      obtain ⟨A3, n3, c3, rfl, hbt3⟩ := hown.slice hokL
      have ca := conv_bts hbt3
      have cr := conv_bts (HRE.out.below hB)
      have cb := conv_bts (HBT.out.below (HB2.out.trans (hB.mono HB2.out.size)))
      have cadd := add_bstr L.flatten R (by omega) (by have := HR4.out; omega)
      rw [HALL.out] at cadd
      obtain ⟨s1, hs1⟩ : ∃ s, bstr L.flatten = s := ⟨_, rfl⟩
      obtain ⟨s2, hs2⟩ : ∃ s, bstr R = s := ⟨_, rfl⟩
      obtain ⟨s3, hs3⟩ : ∃ s, bstr b = s := ⟨_, rfl⟩
      rw [hs1] at ca cadd
      rw [hs2] at cr cadd
      rw [hs3] at cb cadd
      have hX3 := (hB.block _ (Array.getElem?_eq_some_iff.1 HX2.out).1).trans HX2.out
      have hB3 := HB2.out.trans (hB.mono HB2.out.size)
      have HX3 := Lib.hid hX3
      have HB3 := Lib.hid hB3
      clear hokL hLl hown hbt3 hs1 hs2 hs3 htk hX3 hB3 HX2 HB2 HRE HLS HFL hB
      obtain ⟨w5, hw5⟩ : ∃ w5, w5 = wr := ⟨_, rfl⟩
      subst hw5
      subst htn
      go_wp2
      go_loopw [8, 14, 15, 16, 17, 18] (fun _ vr va i _ _ wq => ∃ (q : Nat) (sr : List Sl), q ≤ n ∧ i = .int .i64 q ∧ (∀ g ∈ l.take q, plainB g = true) ∧ OwnR 27 1 wq w5.heap.size vr (sr.map slR) ∧ Parts wq w5.heap.size sr ((l.take q).map putF) ∧ Own wq w5.heap.size va (((l.take q).map putF).flatten) ∧ (∀ r ∈ sr, Sep (slV r) va) ∧ Below w5.heap.size w5 wq) (fun _ _ _ i _ _ _ => n - (intOf i).toNat)
      case atStart => exact ⟨0, [], Nat.zero_le _, rfl, (fun g hg => by simp at hg), OwnR.nil _ _ _ _, Parts.nil _ _, Own.nil _ _, (fun r hr => by cases hr), Below.refl _ _⟩
      case round =>
        obtain ⟨q, sr, hq, rfl, hpl, hor, hpa, hoa, hse, hB⟩ := hrel
        have hnl := HFR.out.len
        have hfl2 : (((l.take q).map putF).flatten).length ≤ 54 * q := by
          have key : ∀ L : List Fr, (∀ g ∈ L, g.tag.length = 32) → ((L.map putF).flatten).length ≤ 54 * L.length := by
            intro L
            induction L with
            | nil => intro _; simp
            | cons g L ih =>
              intro h
              have h1 := putF_small g (h g (by simp))
              have h2 := ih (fun x hx => h x (by simp [hx]))
              rw [List.map_cons, List.flatten_cons, List.length_append, List.length_cons]
              omega
          have h1 := key (l.take q) (fun g hg => (HFR.out.ok g (List.mem_of_mem_take hg)).len)
          have h2 : (l.take q).length ≤ q := by rw [List.length_take]; omega
          omega
        by_cases hlt2 : q < n
        · obtain ⟨g, hg⟩ : ∃ g, l[q]? = some g := ⟨_, List.getElem?_eq_getElem (by omega)⟩
          have hgok : g.ok := HFR.out.ok g (List.mem_of_getElem? hg)
          have htk2 : l.take (q + 1) = l.take q ++ [g] := by
            have hql : q < l.length := by omega
            rw [List.take_succ_eq_append_getElem hql]
            have : l[q] = g := by
              rw [List.getElem?_eq_getElem hql] at hg
              exact Option.some.inj hg
            rw [this]
          obtain ⟨bq, oq, rfl, hcq⟩ := (HFR.out.below (HB3.out.trans (hB.mono HB3.out.size))).rws.at_ (by omega)
          have hrg : wr.rangeAt bq (oq + q * 40) (frC g) := fun j v hv => by
            have hj : j < 40 := by
              have := (List.getElem?_eq_some_iff.1 hv).1
              rwa [frC_length hgok.len] at this
            rw [hcq q hlt2 j hj]
            simp only [List.getD_eq_getElem?_getD, List.getElem?_map, hg, Option.map_some, Option.getD_some, hv]
          have hgi := info_row (frC_length hgok.len)
          have hp0 : 0 ≤ (q : Int) := by omega
          have hp1 : (q : Int) < n := by omega
          obtain ⟨G, hG⟩ : ∃ G, (frC g).toArray = G := ⟨_, rfl⟩
          cases hpg : plainB g with
          | false =>
            have hpc := fun w => put_plain_b g w hgok false hpg
            unfold frV frA at hpc
            rw [hG] at hpc
            have HPC := Lib.hid hpc
            have HRG := Lib.hid hrg
            have HGI := Lib.hid hgi
            have HG := Lib.hid hG
            have HB4 := Lib.hid (HB3.out.trans (hB.mono HB3.out.size))
            clear hpc hrg hgi hG hcq hpa hoa hor hse hpl hB
            go_wp2_with (first
              | ((with_reducible refine wpList_load_on 26 _ rfl bq (oq + q * 40) ?hx7 (frC g) G HG.out _ HRG.out Try.underlying26 ?hd7 HGI.out ?_ ?hw7); (case hx7 => rfl); (case hd7 => rfl); (case hw7 => rfl))
              | (go_at_call 10; (with_reducible refine (HPC.out _).mono ?_); rintro e w6 ⟨A6, m6, c6, rfl, hv6, hb6⟩
                 have hB6 := HB4.out.trans (hb6.mono HB4.out.size)))
            go_ret
            exact ⟨rfl, hB6⟩
          | true =>
            have hpc := fun w => put_plain g w hgok hpg
            unfold PutPost frV frA at hpc
            rw [hG] at hpc
            have HPC := Lib.hid hpc
            have HRG := Lib.hid hrg
            have HGI := Lib.hid hgi
            have HG := Lib.hid hG
            have HB4 := Lib.hid (HB3.out.trans (hB.mono HB3.out.size))
            have hsrl : sr.length ≤ 12 := by rw [hpa.len, List.length_map, List.length_take]; omega
            have hnx1 : (l.take (q + 1)).map putF = (l.take q).map putF ++ [putF g] := by rw [htk2, List.map_append]; rfl
            have hnx2 : ((l.take (q + 1)).map putF).flatten = ((l.take q).map putF).flatten ++ putF g := by rw [hnx1, List.flatten_append]; simp
            have hpl2 : ∀ x ∈ l.take (q + 1), plainB x = true := by
              rw [htk2]
              intro x hx
              rcases List.mem_append.1 hx with h1 | h1
              · exact hpl x h1
              · rw [List.mem_singleton.1 h1]; exact hpg
            have hpgl := putF_small g hgok.len
            obtain ⟨P, hP⟩ : ∃ P, ((l.take q).map putF).flatten = P := ⟨_, rfl⟩
            rw [hP] at hoa hnx2 hfl2
            have hfl3 : P.length ≤ 648 := by omega
            have HNX1 := Lib.hid hnx1
            have HNX2 := Lib.hid hnx2
            have HPL2 := Lib.hid hpl2
            have HPGL := Lib.hid hpgl
            have HGOK := Lib.hid (putF_ok hgok)
            have HOR := Lib.hid hor
            have HPA := Lib.hid hpa
            have HOA := Lib.hid hoa
            have HSE := Lib.hid hse
            have HBW := Lib.hid hB
            clear hpc hrg hgi hG hcq hnx1 hnx2 hpl2 hpgl hpl hP hg htk2 hgok hor hpa hoa hse hB hfl2
            go_wp2_with (first
              | ((with_reducible refine wpList_load_on 26 _ rfl bq (oq + q * 40) ?hx7 (frC g) G HG.out _ HRG.out Try.underlying26 ?hd7 HGI.out ?_ ?hw7); (case hx7 => rfl); (case hd7 => rfl); (case hw7 => rfl))
              | (go_at_call 10; (with_reducible refine (HPC.out _).mono ?_); rintro e w6 ⟨v6, rfl, hown6, hb6⟩
                 obtain ⟨A6, m6, c6, rfl, hbt6⟩ := hown6.slice HGOK.out
                 have hm6 : m6 ≤ 54 := by rw [← hbt6.len]; exact HPGL.out
                 have hB6 : Below w5.heap.size w5 w6 := HBW.out.trans (hb6.mono HBW.out.size)
                 have hsep6 : Sep (slV (A6, m6, c6)) u15 := fun gb h1 h2 => by
                   have h3 := (hown6.size gb h1).1
                   have h4 := (HOA.out.size gb h2).2
                   omega
                 have hor6 := HOR.out.below hb6
                 have hpa6 := (HPA.out.below hb6).snoc (r := (A6, m6, c6)) (hown6.mono HBW.out.size) HGOK.out
                 have hoa6 := HOA.out.below hb6
                 have hse6 : ∀ r ∈ sr ++ [(A6, m6, c6)], Sep (slV r) u15 := fun r hr => (List.mem_append.1 hr).elim (HSE.out r) (fun h => by rw [List.mem_singleton.1 h]; exact hsep6)
                 clear hown6 hsep6)
              | (at_builtin
                 refine wpList_append_r rfl 34 27 1 24 _ _ rfl Try.underlying34 (by kernel_rfl) (by omega) w5.heap.size u14 (sr.map slR) rfl (hor6.more _) _ 1 1 [slR (A6, m6, c6)] rfl (one_rws 1 27 w6 (slR (A6, m6, c6)) rfl (fun u hu => by rw [List.mem_singleton.1 hu]; rfl)) (by rw [List.length_map]; omega) (by rw [List.length_map]; omega) (Nat.le_trans hB6.size (size_le_alloc _ _)) ?_
                 intro v7 w7 hown7 hg7
                 have hB7 : Below w5.heap.size w5 w7 := (hB6.alloc hB6.size _).grown hg7 (Nat.le_trans hB6.size (size_le_alloc _ _)) (fun k hk => (hor6.size k hk).1)
                 have hpa7 := (hpa6.below (one_alloc _ _)).grown (hor6.more _) hg7
                 have hoa7 := far_rows (hoa6.more _) (hor6.more _) hg7
                 have hbt7 : Bts w7 A6 m6 c6 (putF g) := hpa7.last HPA.out.len HGOK.out
                 rw [← HNX1.out] at hpa7
                 rw [show sr.map slR ++ [slR (A6, m6, c6)] = (sr ++ [(A6, m6, c6)]).map slR by simp] at hown7
                 clear hg7 hpa6 hoa6 hor6)
              | (at_builtin
                 refine wpList_append_b_at rfl _ _ rfl w5.heap.size u15 P rfl hoa7 A6 m6 c6 (putF g) rfl hbt7 (by omega) hB7.size ?_
                 intro v8 w8 hown8 hg8 hat8
                 rw [← HNX2.out] at hown8
                 have hB8 : Below w5.heap.size w5 w8 := hB7.grown hg8 hB7.size (fun k hk => (hoa7.size k hk).1)
                 have hor8 := hown7.far hg8 (apart_own hoa7 hown7)
                 have hpa8 := hpa7.apart hse6 hg8
                 have hse8 : ∀ r ∈ sr ++ [(A6, m6, c6)], Sep (slV r) v8 := fun r hr => ((hse6 r hr).symm.step (fun gb hgb => by
                   obtain ⟨i, hi, rfl⟩ := List.getElem_of_mem hr
                   have hi2 : i < ((l.take (q + 1)).map putF).length := by rw [← hpa7.len]; exact hi
                   have h1 := hpa7.own i hi2
                   rw [List.getD_eq_getElem?_getD, List.getElem?_eq_getElem hi] at h1
                   exact (h1.size gb hgb).2) hat8).symm
                 clear hg8 hat8 hpa7 hown7 hoa7 hbt7))
            go_roundw
            case rel => exact ⟨q + 1, sr ++ [(A6, m6, c6)], by omega, by go_num, HPL2.out, hor8, hpa8, hown8, hse8, hB8⟩
            case measure => simp [intOf]; omega
        · have hqn : q = n := by omega
          have htl : l.take q = l := List.take_of_length_le (by omega)
          rw [htl] at hpl hpa hoa
          have hX6 := (hB.block _ (Array.getElem?_eq_some_iff.1 HX3.out).1).trans HX3.out
          have hB6 := HB3.out.trans (hB.mono HB3.out.size)
          obtain ⟨A4, n4, c4, rfl, hr4⟩ := hor.rws
          have hCl : Hid (frA f = C.toArray) := Lib.hid (by rw [← HC.out]; rfl)
          have HX6 := Lib.hid hX6
          have HB6 := Lib.hid hB6
          subst hqn
          cases hpf : plainB f with
          | false =>
            have hpc := fun w => put_plain_b f w hf false hpf
            unfold frV at hpc
            rw [hCl.out] at hpc
            have HPC := Lib.hid hpc
            clear hpc hX6 hB6 hpl hpa hoa hor hse hr4 hB htl
            go_wp2_with (first
              | ((with_reducible refine wpList_load_blk 26 _ rfl w.heap.size ?hx2 26 C.toArray (0, 0) _ HX6.out Try.underlying26 ?hd2 (info_frame HCA.out) ?_ ?hw2); (case hx2 => rfl); (case hd2 => rfl); (case hw2 => rfl))
              | (go_at_call 10; (with_reducible refine (HPC.out _).mono ?_); rintro e w7 ⟨A7, m7, c7, rfl, hv7, hb7⟩
                 have hB7 := HB6.out.trans (hb7.mono HB6.out.size)))
            go_ret
            exact ⟨rfl, hB7⟩
          | true =>
            have hpc := fun w => put_plain_b f w hf true hpf
            rw [if_pos rfl] at hpc
            unfold frV at hpc
            rw [hCl.out] at hpc
            have HPC := Lib.hid hpc
            obtain ⟨X, hX⟩ : ∃ X, putF f = X := ⟨_, rfl⟩
            by_cases hko : k < 0 ∨ ((putF f).length : Int) ≤ k
            · clear hpc hX6 hB6 hpl hpa hoa hor hse hr4 hB htl
              go_wp2_with (first
                | ((with_reducible refine wpList_load_blk 26 _ rfl w.heap.size ?hx2 26 C.toArray (0, 0) _ HX6.out Try.underlying26 ?hd2 (info_frame HCA.out) ?_ ?hw2); (case hx2 => rfl); (case hd2 => rfl); (case hw2 => rfl))
                | (go_at_call 10; (with_reducible refine (HPC.out _).mono ?_); rintro e w7 ⟨A7, m7, c7, rfl, hv7, hb7⟩
                   have hB7 := HB6.out.trans (hb7.mono HB6.out.size)
                   rw [hv7.len] at hko))
              all_goals
                go_ret
                exact ⟨rfl, hB7⟩
            · obtain ⟨K, rfl⟩ := Int.eq_ofNat_of_zero_le (show 0 ≤ k by omega)
              have hKl : K < (putF f).length := by omega
              have hbn := framesL_not (begin_not hf.len K hKl)
              obtain ⟨hs1, hs2⟩ := split_put l (fun g hg => (HFR.out.ok g hg).len) ((putF f).take K)
              rw [hbn.1, List.append_nil] at hs1
              rw [hbn.2] at hs2
              have hokX := putF_ok hf
              have hXl := putF_small f hf.len
              have hokA : ∀ j, 0 ≤ ((l.map putF).flatten).getD j 0 ∧ ((l.map putF).flatten).getD j 0 < 256 := fun j => by
                exact hokFlat l (fun g hg => HFR.out.ok g hg) j
              rw [htl] at hfl2
              rw [hX] at hpc hKl hs1 hs2 hokX hXl
              obtain ⟨AL, hAL⟩ : ∃ AL, (l.map putF).flatten = AL := ⟨_, rfl⟩
              rw [hAL] at hs1 hs2 hoa hokA hfl2
              obtain ⟨A5, n5, c5, rfl, hbt5⟩ := hoa.slice hokA
              have hlr : Lst wr A4 n4 c4 sr (l.map putF) := ⟨hr4, hpa.len, fun i hi => by
                obtain ⟨A', cap, hv, hbt⟩ := (hpa.own i hi).bts (hpa.ok i)
                unfold slV at hv
                injection hv with e1 e2 e3
                rw [e1, e2, e3]
                exact hbt⟩
              have hK0 : (0 : Int) ≤ K := by omega
              have HPC := Lib.hid hpc
              have HS1 := Lib.hid hs1
              have HS2 := Lib.hid hs2
              have HOKX := Lib.hid hokX
              have HKL := Lib.hid hKl
              have HLR := Lib.hid hlr
              have HBT5 := Lib.hid hbt5
              have HOKA := Lib.hid hokA
              have hAll : AL.length ≤ 648 := by omega
              have HAL := Lib.hid hAll
              have HXL := Lib.hid hXl
              clear hpc hX6 hB6 hpl hpa hoa hor hse hr4 hB htl hX hbn hs1 hs2 hokX hXl hokA hAL hbt5 hlr hKl hfl2 hAll
              go_wp2_with (first
                | ((with_reducible refine wpList_load_blk 26 _ rfl w.heap.size ?hx2 26 C.toArray (0, 0) _ HX6.out Try.underlying26 ?hd2 (info_frame HCA.out) ?_ ?hw2); (case hx2 => rfl); (case hd2 => rfl); (case hw2 => rfl))
                | (go_at_call 10; (with_reducible refine (HPC.out _).mono ?_); rintro e w7 ⟨A7, m7, c7, rfl, hv7, hb7⟩
                   have hB7 := HB6.out.trans (hb7.mono HB6.out.size)
                   have hK1 : (K : Int) < m7 := by have := HKL.out; have := hv7.len; omega))
              obtain ⟨hto, hbtK⟩ := run_to hv7 (K : Int) (hi := K) rfl (by omega)
              have HV7 := Lib.hid hv7
              have HBTK := Lib.hid hbtK
              have HLR7 := Lib.hid (HLR.out.below hb7)
              have HBT7 := Lib.hid (HBT5.out.below hb7)
              have HB7 := Lib.hid hB7
              clear hv7 hbtK hb7 hB7
              refine wp_region_held_drew (S := (fun _ => True)) (by kernel_rfl) trivial (fun hHeld => ?_)
              refine take_move 0 (.tmp 15) (.slice A5 n5 c5) rfl rfl rfl (by kernel_rfl) (by kernel_rfl) (by kernel_rfl) (fun _ _ _ h => h) rfl hHeld ?_
              simp only [Act.put, List.setIfInBounds_toArray, List.set_cons_zero, List.set_cons_succ]
              refine take_move 2 (.tmp 19) (.slice A7 m7 c7) rfl rfl rfl (by kernel_rfl) (by kernel_rfl) (by kernel_rfl) (fun _ _ _ h => h) rfl hHeld ?_
              simp only [Act.put, List.setIfInBounds_toArray, List.set_cons_zero, List.set_cons_succ]
              refine take_move 3 (.tmp 2) (.int .i64 K) rfl rfl rfl (by kernel_rfl) (by kernel_rfl) (by kernel_rfl) (fun _ _ _ h => h) rfl hHeld ?_
              simp only [Act.put, List.setIfInBounds_toArray, List.set_cons_zero, List.set_cons_succ]
              refine take_run 4 (.slice A7 K c7) rfl (by kernel_rfl) (by kernel_rfl) (by kernel_rfl) (fun _ _ _ h => h) rfl hHeld (fun w => ?_) ?_
              · go_simp
              simp only [Act.put, List.setIfInBounds_toArray, List.set_cons_zero, List.set_cons_succ]
              refine one_step 1 (by kernel_rfl) rfl (fun Kx hKx => ?_)
              refine step_append_o (.const (.slice none 0 0)) (.tmp 104) rfl w7.heap.size (.slice none 0 0) [] rfl (Own.nil _ _) A5 n5 c5 AL rfl HBT7.out.draw1 (by have h1 := HBT7.out.len; have h2 := HAL.out; simp only [List.length_nil]; omega) (Nat.le_refl _) rfl ?_
              intro v8 w8 hown8 hg8
              rw [List.nil_append] at hown8
              have hB8 : Below w7.heap.size w7 w8 := (Below.refl _ _).drew.grown hg8 (Nat.le_refl _) (fun k hk => by cases hk)
              refine hKx.out _ _ trivial (fun hHeld0 => ?_)
              clear hKx Kx
              try simp only [Act.put, List.setIfInBounds_toArray, List.set_cons_zero, List.set_cons_succ]
              refine one_step 5 (by kernel_rfl) rfl (fun Kx hKx => ?_)
              refine step_append_o (.tmp 105) (.tmp 108) rfl w7.heap.size v8 AL rfl hown8 A7 K c7 (X.take K) rfl (HBTK.out.below hB8) (by have h2 := HAL.out; have h3 := HXL.out; have h4 := HKL.out; omega) hB8.size rfl ?_
              intro v9 w9 hown9 hg9
              have hB9 : Below w7.heap.size w7 w9 := hB8.grown hg9 hB8.size (fun k hk => (hown8.size k hk).1)
              obtain ⟨A9, n9, c9, rfl, hbt9⟩ := hown9.slice (ok_append HOKA.out (ok_take HOKX.out K))
              have hn9 : n9 ≤ 1000000 := by
                have h1 := hbt9.len
                rw [List.length_append, List.length_take] at h1
                have h2 := HAL.out
                have h3 := HKL.out
                have h4 := HXL.out
                omega
              refine hKx.out _ _ trivial (fun hHeld1 => ?_)
              clear hKx Kx
              try simp only [Act.put, List.setIfInBounds_toArray, List.set_cons_zero, List.set_cons_succ]
              refine one_step 6 (by kernel_rfl) rfl (fun Kx hKx => ?_)
              go_simp
              go_at_call 14
              refine (split_lst A9 n9 c9 _ w9 hbt9 hn9).mono ?_
              rintro e w10 ⟨A10, n10, c10, A11, n11, c11, sl2, rfl, hls10, hbt11, hb10⟩
              rw [HS1.out] at hls10
              rw [HS2.out] at hbt11
              have hB10 := hB9.trans (hb10.mono hB9.size)
              refine hKx.out _ _ trivial (fun hHeld => ?_)
              clear hKx Kx
              try simp only [Act.put, List.setIfInBounds_toArray, List.set_cons_zero, List.set_cons_succ]
              refine take_move 7 (.tmp 110) (.tuple #[.slice A10 n10 c10, .slice A11 n11 c11]) rfl rfl rfl (by kernel_rfl) (by kernel_rfl) (by kernel_rfl) (fun _ _ _ h => h) rfl hHeld ?_
              simp only [Act.put, List.setIfInBounds_toArray, List.set_cons_zero, List.set_cons_succ]
              refine take_run 8 (.slice A10 n10 c10) rfl (by kernel_rfl) (by kernel_rfl) (by kernel_rfl) (fun _ _ _ h => h) rfl hHeld (fun w => ?_) ?_
              · go_simp
              simp only [Act.put, List.setIfInBounds_toArray, List.set_cons_zero, List.set_cons_succ]
              refine take_run 9 (.slice A11 n11 c11) rfl (by kernel_rfl) (by kernel_rfl) (by kernel_rfl) (fun _ _ _ h => h) rfl hHeld (fun w => ?_) ?_
              · go_simp
              simp only [Act.put, List.setIfInBounds_toArray, List.set_cons_zero, List.set_cons_succ]
              refine take_run 10 (.slice A10 n10 c10) rfl (by kernel_rfl) (by kernel_rfl) (by kernel_rfl) (fun _ _ _ h => h) rfl hHeld (fun w => ?_) ?_
              · go_simp
              simp only [Act.put, List.setIfInBounds_toArray, List.set_cons_zero, List.set_cons_succ]
              refine take_run 11 (.slice A11 n11 c11) rfl (by kernel_rfl) (by kernel_rfl) (by kernel_rfl) (fun _ _ _ h => h) rfl hHeld (fun w => ?_) ?_
              · go_simp
              simp only [Act.put, List.setIfInBounds_toArray, List.set_cons_zero, List.set_cons_succ]
              refine wpAnyH_done (by kernel_rfl) ?_ _
              have HLS10 := Lib.hid hls10
              have HBT11 := Lib.hid hbt11
              have HB10 := Lib.hid hB10
              clear hls10 hbt11 hB10 hb10 hbt9 hown9 hown8 hg8 hg9 hB8 hB9 hHeld hHeld0 hHeld1
              go_wp2_with (go_at_call 16; (with_reducible refine (rows_any A10 A4 n10 c10 n4 c4 sl2 sr _ _ w10 HLS10.out (HLR7.out.below HB10.out)).mono ?_); rintro e w11 ⟨he, j, hw11⟩
                           rw [beq_self_eq_true] at he
                           subst he
                           have hB11 : Below w10.heap.size w10 w11 := by rw [hw11]; exact below_drewN (Below.refl _ _) _
                           clear hw11)
              have HB11 := Lib.hid hB11
              clear hB11
              refine wp_region_held_drew (S := (fun w' => Below w10.heap.size w10 w')) (by kernel_rfl) HB11.out.drew (fun hHeld => ?_)
              refine take_move 0 (.tmp 23) (.bool true) rfl rfl rfl (by kernel_rfl) (by kernel_rfl) (by kernel_rfl) (fun _ _ _ h => h) rfl hHeld ?_
              simp only [Act.put, List.setIfInBounds_toArray, List.set_cons_zero, List.set_cons_succ]
              refine take_move 1 (.tmp 116) (.bool true) rfl rfl rfl (by kernel_rfl) (by kernel_rfl) (by kernel_rfl) (fun _ _ _ h => h) rfl hHeld ?_
              simp only [Act.put, List.setIfInBounds_toArray, List.set_cons_zero, List.set_cons_succ]
              refine take_move 2 (.tmp 22) (.slice A11 n11 c11) rfl rfl rfl (by kernel_rfl) (by kernel_rfl) (by kernel_rfl) (fun _ _ _ h => h) rfl hHeld ?_
              simp only [Act.put, List.setIfInBounds_toArray, List.set_cons_zero, List.set_cons_succ]
              refine take_if 3 (.string (bstr (X.take K))) rfl (by kernel_rfl) (by kernel_rfl) (by kernel_rfl) (fun _ _ _ h => h) rfl hHeld (fun w' hw' => ?_) ?_
              · have hc := conv_bts (HBT11.out.below hw')
                go_simp
              simp only [Act.put, List.setIfInBounds_toArray, List.set_cons_zero, List.set_cons_succ]
              refine take_move 4 (.tmp 19) (.slice A7 m7 c7) rfl rfl rfl (by kernel_rfl) (by kernel_rfl) (by kernel_rfl) (fun _ _ _ h => h) rfl hHeld ?_
              simp only [Act.put, List.setIfInBounds_toArray, List.set_cons_zero, List.set_cons_succ]
              refine take_move 5 (.tmp 2) (.int .i64 K) rfl rfl rfl (by kernel_rfl) (by kernel_rfl) (by kernel_rfl) (fun _ _ _ h => h) rfl hHeld ?_
              simp only [Act.put, List.setIfInBounds_toArray, List.set_cons_zero, List.set_cons_succ]
              refine take_run 6 (.slice A7 K c7) rfl (by kernel_rfl) (by kernel_rfl) (by kernel_rfl) (fun _ _ _ h => h) rfl hHeld (fun w => ?_) ?_
              · go_simp
              simp only [Act.put, List.setIfInBounds_toArray, List.set_cons_zero, List.set_cons_succ]
              refine take_if 7 (.string (bstr (X.take K))) rfl (by kernel_rfl) (by kernel_rfl) (by kernel_rfl) (fun _ _ _ h => h) rfl hHeld (fun w' hw' => ?_) ?_
              · have hc := conv_bts ((HBTK.out.below HB10.out).below hw')
                go_simp
              simp only [Act.put, List.setIfInBounds_toArray, List.set_cons_zero, List.set_cons_succ]
              refine take_run 8 (.bool true) rfl (by kernel_rfl) (by kernel_rfl) (by kernel_rfl) (fun _ _ _ h => h) rfl hHeld (fun w => ?_) ?_
              · go_simp
              simp only [Act.put, List.setIfInBounds_toArray, List.set_cons_zero, List.set_cons_succ]
              refine take_run 9 (.bool true) rfl (by kernel_rfl) (by kernel_rfl) (by kernel_rfl) (fun _ _ _ h => h) rfl hHeld (fun w => ?_) ?_
              · go_simp
              simp only [Act.put, List.setIfInBounds_toArray, List.set_cons_zero, List.set_cons_succ]
              refine take_run 10 (.bool true) rfl (by kernel_rfl) (by kernel_rfl) (by kernel_rfl) (fun _ _ _ h => h) rfl hHeld (fun w => ?_) ?_
              · go_simp
              simp only [Act.put, List.setIfInBounds_toArray, List.set_cons_zero, List.set_cons_succ]
              refine wpAnyH_done (by kernel_rfl) ?_ _
              go_wp2
              go_ret
              exact ⟨rfl, (HB7.out.trans ((HB10.out.trans (HB11.out.mono HB10.out.size)).mono HB7.out.size)).drew⟩
theorem fsplit_all (l : List Fr) (f : Fr) (k : Int) (b : List Int) (A B : Option Addr) (n c m d : Nat) (w : World) (hl : Frs w A n c l) (hf : f.ok) (hb : Bts w B m d b) :
    Calls Try.prog 5 #[.slice A n c, frV f, .int .i64 k, .slice B m d] w fun e w' => e = .returned (.bool true) ∧ Below w.heap.size w w' := by
  by_cases h : 12 < n ∨ 400 < m
  · exact fsplit_big f k A B n c m d w hl.rws.small hb.small h
  · exact fsplit_main l f k b A B n c m d w (by omega) (by omega) hl hf hb
end Go.Proofs.Ytncedbjbooemjaa
