/- The walk over package user's Secret, where there is no key. -/
import Derived.Test.YtcfkpepohnjdfaaDoorUsrSecret
namespace Go.Proofs.YtcfkpepohnjdfaaDoor
set_option linter.unusedVariables false
set_option linter.unusedSimpArgs false
open Go.RowKit

set_option maxRecDepth 100000 in
set_option maxHeartbeats 2000000 in
theorem usecret_no (u : Us) (e d c : Int) (w : World) (hk : Bts w u.A u.n u.c u.key) (h : mayU [u] = false ∨ e < 0 ∨ 1073741824 < e) :
    Calls Tryd.prog 11 #[.agg #[.int .i64 u.no, .int .i64 u.role, .slice u.A u.n u.c], .int .i64 e, .int .u64 d, .int .u64 c] w fun x w' => x = .returned (.tuple #[.agg (idv (List.replicate 32 0)), .bool false]) ∧ Below w.heap.size w w' := by
  obtain ⟨no, role, A, n, c', key⟩ := u
  simp only at hk
  have HKB := Lib.hid hk
  clear hk
  cases hm : mayU [⟨no, role, A, n, c', key⟩] with
  | false =>
    have HM := Lib.hid hm
    clear hm h
    go_enter Tryd.func11, Tryd.ntmps11
    go_wp2_with (first
        | (go_at_call 15
           refine (umay_any _ _ _ _ _ (one_user_at ⟨no, role, A, n, c', key⟩ (size_two1 _ _ _) (HKB.out.below (two_below _ _ _)))).mono ?_
           rintro x w4 ⟨hx, hb4⟩
           rw [HM.out] at hx
           subst hx
           obtain ⟨hb5, hs5, h6, h7⟩ := after_three hb4
           have hO4 : RowB w4 (w.heap.size + 1) 30 (List.replicate 32 0) := h7
           have HB5 := Lib.hid hb5
           clear hb4 hb5 h6 h7)
        | ((with_reducible refine wpList_store_b rfl 30 _ _ rfl (w.heap.size + 1) (List.replicate 32 0) ?hx1 ?hy1 30 (List.replicate 32 0) hO4 (info32 rfl) ?hl1 ?hm1); (case hx1 => rfl); (case hy1 => rfl); (case hl1 => rfl)
           intro w7 hg7 hX7 hs7
           have hB8 : Below w.heap.size w w7 := Below.grows HB5.out hg7 HB5.out.size (Nat.le_succ _)))
    refine bodyPost_ret (v := .tuple #[.agg (idv (List.replicate 32 0)), .bool false]) ?_ ?_ ?_
    · exact results_row_tmp Tryd.results11 _ _ _ (w.heap.size + 1) 30 _ (0, 0) rfl hX7.is Tryd.underlying30 (info32 rfl) _ rfl
    · rfl
    · exact ⟨rfl, hB8⟩
  | true =>
    have HM := Lib.hid hm
    by_cases h1 : e < 0
    · clear hm h
      go_enter Tryd.func11, Tryd.ntmps11
      go_wp2_with (first
          | (go_at_call 15
             refine (umay_any _ _ _ _ _ (one_user_at ⟨no, role, A, n, c', key⟩ (size_two1 _ _ _) (HKB.out.below (two_below _ _ _)))).mono ?_
             rintro x w4 ⟨hx, hb4⟩
             rw [HM.out] at hx
             subst hx
             obtain ⟨hb5, hs5, h6, h7⟩ := after_three hb4
             have hO4 : RowB w4 (w.heap.size + 1) 30 (List.replicate 32 0) := h7
             have HB5 := Lib.hid hb5
             clear hb4 hb5 h6 h7)
          | ((with_reducible refine wpList_store_b rfl 30 _ _ rfl (w.heap.size + 1) (List.replicate 32 0) ?hx2 ?hy2 30 (List.replicate 32 0) hO4 (info32 rfl) ?hl2 ?hm2); (case hx2 => rfl); (case hy2 => rfl); (case hl2 => rfl)
             intro w7 hg7 hX7 hs7
             have hB8 : Below w.heap.size w w7 := Below.grows HB5.out hg7 HB5.out.size (Nat.le_succ _)))
      refine bodyPost_ret (v := .tuple #[.agg (idv (List.replicate 32 0)), .bool false]) ?_ ?_ ?_
      · exact results_row_tmp Tryd.results11 _ _ _ (w.heap.size + 1) 30 _ (0, 0) rfl hX7.is Tryd.underlying30 (info32 rfl) _ rfl
      · rfl
      · exact ⟨rfl, hB8⟩
    · have h2 : 1073741824 < e := by
        rcases h with h | h | h
        · rw [hm] at h; cases h
        · omega
        · exact h
      have h3 : 0 ≤ e := by omega
      clear hm h h1
      go_enter Tryd.func11, Tryd.ntmps11
      go_wp2_with (first
          | (go_at_call 15
             refine (umay_any _ _ _ _ _ (one_user_at ⟨no, role, A, n, c', key⟩ (size_two1 _ _ _) (HKB.out.below (two_below _ _ _)))).mono ?_
             rintro x w4 ⟨hx, hb4⟩
             rw [HM.out] at hx
             subst hx
             obtain ⟨hb5, hs5, h6, h7⟩ := after_three hb4
             have hO4 : RowB w4 (w.heap.size + 1) 30 (List.replicate 32 0) := h7
             have HB5 := Lib.hid hb5
             clear hb4 hb5 h6 h7)
          | ((with_reducible refine wpList_store_b rfl 30 _ _ rfl (w.heap.size + 1) (List.replicate 32 0) ?hx3 ?hy3 30 (List.replicate 32 0) hO4 (info32 rfl) ?hl3 ?hm3); (case hx3 => rfl); (case hy3 => rfl); (case hl3 => rfl)
             intro w7 hg7 hX7 hs7
             have hB8 : Below w.heap.size w w7 := Below.grows HB5.out hg7 HB5.out.size (Nat.le_succ _)))
      refine bodyPost_ret (v := .tuple #[.agg (idv (List.replicate 32 0)), .bool false]) ?_ ?_ ?_
      · exact results_row_tmp Tryd.results11 _ _ _ (w.heap.size + 1) 30 _ (0, 0) rfl hX7.is Tryd.underlying30 (info32 rfl) _ rfl
      · rfl
      · exact ⟨rfl, hB8⟩
end Go.Proofs.YtcfkpepohnjdfaaDoor
