/- The walk over the document's Write of stores. -/
import Derived.Test.YtoohcpckdkbngaaStoRef
import Derived.RegionTactic
namespace Go.Proofs.Ytoohcpckdkbngaa
set_option linter.unusedVariables false
set_option linter.unusedSimpArgs false
open Go.RowKit

theorem BoxT.grown {w w' : World} {g : Nat} {t : TypeId} {cap : Int} {A : Option Addr} {n c : Nat} {sure : Int} {row : Option Nat} (h : BoxT w g t cap A n c sure) (hb : w.grownBy w' row) (hg : some g ≠ row) : BoxT w' g t cap A n c sure := (hb.block g h.lt hg).trans h
set_option maxHeartbeats 1000000 in
theorem rwrite_any (s : Sp) (b : List Int) (A B : Option Addr) (n c m d : Nat) (w : World) (hb : Bts w A n c s.data) (h2 : Bts w B m d b) :
    Calls Try.prog 12 #[s.val A n c, .slice B m d] w (GSE (writeP s b) A n w) := by
  obtain ⟨cap, data, sure⟩ := s
  simp only at hb
  unfold Sp.val
  simp only
  have hn := hb.small
  have hn2 := h2.small
  have HLL := Lib.hid hb.len
  cases hm : mayT cap n sure with
  | false =>
    have hmp : mayP ⟨cap, data, sure⟩ = false := by rw [mayP]; simp only [hb.len]; exact hm
    have HR := Lib.hid (show writeP ⟨cap, data, sure⟩ b = (⟨cap, data, sure⟩, 1) from by rw [writeP, hmp]; rfl)
    have HM := Lib.hid hm
    have HB := Lib.hid hb
    clear hb hm h2
    go_enter Try.func12, Try.ntmps12
    go_wp2_with (go_at_call 22
                 (with_reducible refine (rstmay_any _ A n c _ _ hn).mono ?_)
                 rintro e w2 ⟨he, hb2⟩
                 rw [HM.out] at he
                 subst he
                 obtain ⟨hB2, hs2, y1, y2⟩ := after_two hb2
                 have HF2 := Lib.hid (show BoxT w2 w.heap.size 24 cap A n c sure from y1)
                 have HX2 := Lib.hid (show BoxT w2 (w.heap.size + 1) 24 0 none 0 0 0 from y2)
                 obtain ⟨x0, x1, x2⟩ := HF2.out.cells
                 obtain ⟨z0, z1, z2⟩ := HX2.out.cells
                 have g0 := HX2.out.free 0
                 have g1 := HX2.out.free 1
                 have g2 := HX2.out.free 2
                 have HB2 := Lib.hid hB2
                 have HS2 := Lib.hid hs2
                 clear hb2 hB2 hs2 y1 y2)
    refine bodyPost_ret (v := .tuple #[.agg #[.int .i64 cap, .slice A n c, .int .i64 sure], .int .i64 1]) ?_ ?_ ?_
    · exact ret_store Try.results12 _ _ (w.heap.size + 1) 24 _ _ _ _ rfl (set3_heap _ _ _ HX2.out) rfl
    · rfl
    · rw [HR.out]
      exact ⟨A, n, c, rfl, (HB.out.below HB2.out).set3 (HB.out.far (w.heap.size + 2)) (Nat.le_succ _) (Nat.lt_succ_self _) _ _ _, .inl ⟨rfl, Nat.le_refl _⟩, set3_below HB2.out (Nat.le_succ _) _ _ _⟩
  | true =>
    obtain ⟨q1, q2, q3, q4, q5⟩ := mayT_iff.1 hm
    have hmp : mayP ⟨cap, data, sure⟩ = true := by rw [mayP]; simp only [hb.len]; exact hm
    have HLB := Lib.hid h2.len
    by_cases h1 : cap - n < m
    · have HR := Lib.hid (show writeP ⟨cap, data, sure⟩ b = (⟨cap, data, sure⟩, 12) from by rw [writeP, hmp, if_pos rfl, fwriteP, if_pos (by simp only; rw [HLL.out, HLB.out]; exact h1)])
      have HM := Lib.hid hm
      have HB := Lib.hid hb
      clear hb hm h2
      go_enter Try.func12, Try.ntmps12
      go_wp2_with (go_at_call 22
                   (with_reducible refine (rstmay_any _ A n c _ _ hn).mono ?_)
                   rintro e w2 ⟨he, hb2⟩
                   rw [HM.out] at he
                   subst he
                   obtain ⟨hB2, hs2, y1, y2⟩ := after_two hb2
                   have HF2 := Lib.hid (show BoxT w2 w.heap.size 24 cap A n c sure from y1)
                   have HX2 := Lib.hid (show BoxT w2 (w.heap.size + 1) 24 0 none 0 0 0 from y2)
                   obtain ⟨x0, x1, x2⟩ := HF2.out.cells
                   obtain ⟨z0, z1, z2⟩ := HX2.out.cells
                   have g0 := HX2.out.free 0
                   have g1 := HX2.out.free 1
                   have g2 := HX2.out.free 2
                   have HB2 := Lib.hid hB2
                   have HS2 := Lib.hid hs2
                   clear hb2 hB2 hs2 y1 y2)
      refine bodyPost_ret (v := .tuple #[.agg #[.int .i64 cap, .slice A n c, .int .i64 sure], .int .i64 12]) ?_ ?_ ?_
      · exact ret_store Try.results12 _ _ (w.heap.size + 1) 24 _ _ _ _ rfl (set3_heap _ _ _ HX2.out) rfl
      · rfl
      · rw [HR.out]
        exact ⟨A, n, c, rfl, (HB.out.below HB2.out).set3 (HB.out.far (w.heap.size + 2)) (Nat.le_succ _) (Nat.lt_succ_self _) _ _ _, .inl ⟨rfl, Nat.le_refl _⟩, set3_below HB2.out (Nat.le_succ _) _ _ _⟩
    · have HR := Lib.hid (show writeP ⟨cap, data, sure⟩ b = (⟨cap, data ++ b, sure⟩, 0) from by rw [writeP, hmp, if_pos rfl, fwriteP, if_neg (by simp only; rw [HLL.out, HLB.out]; exact h1)])
      have HM := Lib.hid hm
      have HB := Lib.hid hb
      have HBB := Lib.hid h2
      clear hb hm h2
      go_enter Try.func12, Try.ntmps12
      go_wp2_with (first
        | (go_at_call 22
           (with_reducible refine (rstmay_any _ A n c _ _ hn).mono ?_)
           rintro e w2 ⟨he, hb2⟩
           rw [HM.out] at he
           subst he
           obtain ⟨hB2, hs2, y1, y2⟩ := after_two hb2
           have HF2 := Lib.hid (show BoxT w2 w.heap.size 24 cap A n c sure from y1)
           have HX2 := Lib.hid (show BoxT w2 (w.heap.size + 1) 24 0 none 0 0 0 from y2)
           obtain ⟨x0, x1, x2⟩ := HF2.out.cells
           obtain ⟨z0, z1, z2⟩ := HX2.out.cells
           have g0 := HX2.out.free 0
           have g1 := HX2.out.free 1
           have g2 := HX2.out.free 2
           have HB2 := Lib.hid hB2
           have HS2 := Lib.hid hs2
           clear hb2 hB2 hs2 y1 y2)
        | (at_builtin
           refine wpList_append_b rfl _ _ rfl w2.heap.size _ [] rfl (Own.nil _ _) A n c data rfl (HB.out.below HB2.out) (by simp only [List.length_nil]; omega) (Nat.le_refl _) ?_
           intro v3 w3 hown3 hg3
           rw [List.nil_append] at hown3
           have hbel3 : Below w2.heap.size w2 w3 := (Below.refl _ _).grown hg3 (Nat.le_refl _) (fun k hk => by cases hk)
           have HF3 := Lib.hid (HF2.out.below hbel3)
           have HX3 := Lib.hid (HX2.out.below hbel3)
           clear x0 x1 x2 z0 z1 z2 g0 g1 g2
           obtain ⟨x0, x1, x2⟩ := HF3.out.cells
           have HOWN3 := Lib.hid hown3
           have HB3 := Lib.hid (HB2.out.trans (hbel3.mono HB2.out.size))
           have HS23 := Lib.hid hbel3.size
           have HS3 := Lib.hid (show w.heap.size + 2 ≤ w3.heap.size from Nat.le_trans HS2.out hbel3.size)
           clear hown3 hg3 hbel3))
      have ha0 : some w.heap.size ≠ v3.ownBlock := fun e => by have := (HOWN3.out.size _ e.symm).1; have := HS2.out; omega
      have ha1 : some (w.heap.size + 1) ≠ v3.ownBlock := fun e => by have := (HOWN3.out.size _ e.symm).1; have := HS2.out; omega
      have HA0 := Lib.hid ha0
      have HA1 := Lib.hid ha1
      clear ha0 ha1
      go_region_law (first
        | (refine step_append_o (.tmp 28) (.tmp 29) rfl w2.heap.size v3 data ?_ ?_ B m d b ?_ ?_ (by have := HLL.out; omega) ?_ rfl ?_
           · rfl
           · first | exact HOWN3.out.draw1 | exact HOWN3.out
           · rfl
           · first | exact (HBB.out.below HB3.out).draw1 | exact HBB.out.below HB3.out
           · exact HS23.out
           intro v4 w4 hown4 hg4
           have hf4 : BoxT w4 w.heap.size 24 cap A n c sure := by first | exact BoxT.grown (w := w3.drew) HF3.out hg4 HA0.out | exact HF3.out.grown hg4 HA0.out
           have hx4 : BoxT w4 (w.heap.size + 1) 24 0 none 0 0 0 := by first | exact BoxT.grown (w := w3.drew) HX3.out hg4 HA1.out | exact HX3.out.grown hg4 HA1.out
           obtain ⟨y0, y1, y2⟩ := hf4.cells
           obtain ⟨z0, z1, z2⟩ := hx4.cells
           have g0 := hx4.free 0
           have g1 := hx4.free 1
           have g2 := hx4.free 2
           have hbel4 : Below w.heap.size w w4 := by first | exact (HB3.out.drew).grown hg4 HB3.out.size (fun g hg => Nat.le_trans HB2.out.size (HOWN3.out.size g hg).1) | exact HB3.out.grown hg4 HB3.out.size (fun g hg => Nat.le_trans HB2.out.size (HOWN3.out.size g hg).1)
           obtain ⟨A4, n4, c4, hv4, hb4⟩ := hown4.slice (ok_append HB.out.ok HBB.out.ok)
           subst hv4
           have HLO := Lib.hid (show ∀ a, A4 = some a → w.heap.size + 2 ≤ a.block from fun a ha => by subst ha; exact Nat.le_trans HS2.out (hown4.size _ rfl).1)
           have HB4 := Lib.hid hb4
           have HX4 := Lib.hid hx4
           have HBE4 := Lib.hid hbel4
           clear hown4 hg4 hf4 hx4 hbel4 hb4))
      all_goals
        go_wp2
      all_goals
        have hf : Far A4 n4 w.heap.size (w.heap.size + 2) := fun a ha _ => .inr (HLO.out a ha)
        have hlo : Loc A n A4 n4 w := .inr (fun a ha => Nat.le_trans (Nat.le_add_right _ 2) (HLO.out a ha))
        refine bodyPost_ret (v := .tuple #[.agg #[.int .i64 cap, .slice A4 n4 c4, .int .i64 sure], .int .i64 0]) ?_ ?_ ?_
        · exact ret_store Try.results12 _ _ (w.heap.size + 1) 24 _ _ _ _ rfl (set3_heap _ _ _ HX4.out) rfl
        · rfl
        · rw [HR.out]
          first
            | exact ⟨A4, n4, c4, rfl, HB4.out.set3 hf (Nat.le_succ _) (Nat.lt_succ_self _) _ _ _, hlo, set3_below HBE4.out (Nat.le_succ _) _ _ _⟩
            | exact ⟨A4, n4, c4, rfl, (HB4.out.set3 hf (Nat.le_succ _) (Nat.lt_succ_self _) _ _ _).draw1, hlo, (set3_below HBE4.out (Nat.le_succ _) _ _ _).drew⟩
end Go.Proofs.Ytoohcpckdkbngaa
