/- The walks over the laws' Few and awake (the chapter's example). -/
import Derived.Test.YtoohcpckdkbngaaStoTop
namespace Go.Proofs.Ytoohcpckdkbngaa
set_option linter.unusedVariables false
set_option linter.unusedSimpArgs false
open Go.RowKit

theorem few_any (cap : Int) (A : Option Addr) (n c : Nat) (sure : Int) (w : World) (hn : n ≤ 9223372036854775807) :
    Calls Try.prog 10 #[.agg #[.int .i64 cap, .slice A n c, .int .i64 sure]] w (GBool (decide (n ≤ 5000)) w) := by
  have HB := Lib.hid (one_alloc w (.cells #[.int .i64 cap, .slice A n c, .int .i64 sure] 24))
  obtain ⟨D, hD⟩ : ∃ D, decide (n ≤ 5000) = D := ⟨_, rfl⟩
  rw [hD]
  cases D with
  | true =>
    have h' : (n : Int) ≤ 5000 := by have := of_decide_eq_true hD; omega
    clear hD
    go_enter Try.func10, Try.ntmps10
    go_wp2
    go_ret
    exact ⟨ret_bool (by simp [h']), HB.out⟩
  | false =>
    have h' : ¬ (n : Int) ≤ 5000 := by have := of_decide_eq_false hD; omega
    clear hD
    go_enter Try.func10, Try.ntmps10
    go_wp2
    go_ret
    exact ⟨ret_bool (by simp [h']), HB.out⟩
def exS : Sp := ⟨9, [1, 2, 3], 1⟩
theorem ex_crash : crashP exS 1 = ⟨9, [1, 2], 2⟩ := by
  have h : mayP exS = true := by unfold mayP mayT exS; decide
  rw [crashP, h, if_pos rfl]
  rfl
theorem ex_left : leftT 9 3 1 = 6 := by unfold leftT mayT; decide
theorem ex_may : mayT 9 3 1 = true := by unfold mayT; decide
set_option maxHeartbeats 1000000 in
theorem sawake_any (w : World) : Calls Try.prog 9 #[] w (GBool true w) := by
  have hd := lit_bts w #[.int .u8 1, .int .u8 2, .int .u8 3] [1, 2, 3] 3 rfl rfl (by unfold maxLen; omega) (ok_all (by decide))
  have HD := Lib.hid (hd.more (.cells #[.int .i64 9, .slice (some ⟨w.heap.size, 0, none⟩) 3 3, .int .i64 1] 24))
  clear hd
  go_enter Try.func9, Try.ntmps9
  go_wp2_with (first
    | (go_at_call 20
       refine (stcrash_any exS 1 (some ⟨w.heap.size, 0, none⟩) 3 3 _ HD.out (by omega)).mono ?_
       rintro e w2 ⟨A', n', c', he, hb2, hlo2, hbel2⟩
       rw [ex_crash] at he hb2
       have hn2 : n' = 2 := hb2.len.symm
       subst hn2
       obtain ⟨b, off, hA, hc⟩ := hb2.at_ (by omega)
       subst hA
       have he2 : e = .returned (.agg #[.int .i64 9, .slice (some ⟨b, off, none⟩) 2 c', .int .i64 2]) := he
       clear he
       subst he2
       obtain ⟨hB2, hs2, -, y2⟩ := after_two hbel2
       have HS := Lib.hid (show BoxT w2 (w.heap.size + 1) 24 9 (some ⟨w.heap.size, 0, none⟩) 3 3 1 from y2)
       have HDD := Lib.hid (HD.out.below hbel2)
       have HCC := Lib.hid (hc 1 (by omega))
       have HB2 := Lib.hid hB2
       obtain ⟨x0, x1, x2⟩ := (HS.out.below (one_alloc w2 (.cells #[.int .i64 9, .slice (some ⟨b, off, none⟩) 2 c', .int .i64 2] 24))).cells
       clear hb2 hlo2 hbel2 hB2 hs2 y2 hc)
    | (go_at_call 23
       (with_reducible refine (stmay_any _ _ 3 3 _ _ (by omega)).mono ?_)
       rintro e w3 ⟨he, hb3⟩
       rw [ex_may] at he
       subst he
       obtain ⟨hB3, hs3, y3⟩ := after_one hb3
       have HT := Lib.hid (show BoxT w3 w2.heap.size 24 9 (some ⟨b, off, none⟩) 2 c' 2 from y3)
       have HS3 := Lib.hid (HS.out.below hB3)
       have HDD3 := Lib.hid (HDD.out.below hB3)
       have HCC3 := Lib.hid ((hB3.cell (block_lt_of_cell HCC.out)).trans HCC.out)
       have HB3 := Lib.hid (HB2.out.trans (hB3.mono HB2.out.size))
       clear x0 x1 x2
       obtain ⟨x0, x1, x2⟩ := HS3.out.cells
       clear hb3 hB3 hs3 y3)
    | (go_at_call 25
       (with_reducible refine (stleft_any _ _ 3 3 _ _ (by omega)).mono ?_)
       rintro e w4 ⟨he, hb4⟩
       rw [ex_left] at he
       subst he
       clear x0 x1 x2
       obtain ⟨x0, x1, x2⟩ := (HS3.out.below hb4).cells
       obtain ⟨t0, t1, t2⟩ := (HT.out.below hb4).cells
       have cc := (hb4.cell (block_lt_of_cell HCC3.out)).trans HCC3.out
       have HDD4 := Lib.hid (HDD3.out.below hb4)
       have HB4 := Lib.hid (HB3.out.trans (hb4.mono HB3.out.size))
       clear hb4)
    | (go_at_call 24
       refine (stsame_any exS exS _ _ 3 3 3 3 w4 HDD4.out HDD4.out).mono ?_
       rintro e w5 ⟨he, hb5⟩
       rw [sameP_self] at he
       subst he
       have HB5 := Lib.hid (HB4.out.trans (hb5.mono HB4.out.size))
       clear hb5))
  go_ret
  exact ⟨rfl, HB5.out⟩
end Go.Proofs.Ytoohcpckdkbngaa
