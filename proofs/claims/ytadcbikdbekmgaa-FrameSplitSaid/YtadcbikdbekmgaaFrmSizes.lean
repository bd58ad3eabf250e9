/- The walk over package frame's sizes: those that are there. -/
import Derived.Test.YtadcbikdbekmgaaFrmShape2
namespace Go.Proofs.Ytadcbikdbekmgaa
set_option linter.unusedVariables false
set_option linter.unusedSimpArgs false
open Go.RowKit

theorem there_snoc (S : List Nat) (k : Nat) (h : k < S.length) : there (S.take (k + 1)) = there (S.take k) ++ if 0 < S.getD k 0 then [S.getD k 0] else [] := by
  rw [there, there, List.take_succ_eq_append_getElem h, List.filter_append]
  simp [List.getD_eq_getElem?_getD, h, List.filter_cons]
theorem there_len (S : List Nat) (k : Nat) : (there (S.take k)).length ≤ k := by
  have h1 := List.length_filter_le (fun s : Nat => decide (0 < s)) (S.take k)
  have h2 := List.length_take_le k S
  unfold there
  omega
set_option maxHeartbeats 1000000 in
theorem sizes_any (S : List Nat) (t : Bool) (w : World) (hS : S.length = 8) (hsm : S.sum ≤ 1000) :
    Calls Try.prog 40 #[shV S t] w fun e w' => ∃ v, e = .returned v ∧ OwnI .i64 3 w' w.heap.size v (ints (there S)) ∧ Below w.heap.size w w' := by
  obtain ⟨s0, s1, s2, s3, s4, s5, s6, s7, hl⟩ := list8 S hS
  rw [shV_lit hl]
  have hc := sizC_lit hl
  have HS := Lib.hid hS
  have HC := Lib.hid hc
  have HM := Lib.hid hsm
  clear hS hl hc hsm
  go_enter Try.func40, Try.ntmps40
  go_wp2
  go_loopw [3, 5, 8] (fun v u i wr => ∃ (k : Nat), k ≤ 8 ∧ i = .int .i64 k ∧ OwnI .i64 3 wr w.heap.size v (ints (there (S.take k))) ∧ Below w.heap.size w wr) (fun _ _ i _ => 8 - (intOf i).toNat)
  case atStart => exact ⟨0, Nat.zero_le _, rfl, OwnI.nil _ _ _ _, one_alloc _ _⟩
  case round =>
    obtain ⟨k, hk, rfl, hown, hB⟩ := hrel
    by_cases hlt : k < 8
    · have hix := size_index HS.out HC.out k hlt
      have hsn := there_snoc S k (by rw [HS.out]; exact hlt)
      obtain ⟨x, hx⟩ : ∃ x, S.getD k 0 = x := ⟨_, rfl⟩
      rw [hx] at hix hsn
      have hxb : (x : Int) ≤ 1000 := by have h1 := getS_le S k; have h2 := HM.out; omega
      have hLl : (ints (there (S.take k))).length ≤ 8 := by
        rw [ints_length]
        have := there_len S k
        omega
      obtain ⟨L, hL⟩ : ∃ L, L = ints (there (S.take k)) := ⟨_, rfl⟩
      rw [← hL] at hown hLl
      by_cases hx0 : 0 < x
      · rw [if_pos hx0] at hsn
        have hL2 : ints (there (S.take (k + 1))) = L ++ [(x : Int)] := by rw [hsn, hL]; simp [ints]
        have hx0' : (0 : Int) < x := by omega
        have HL2 := Lib.hid hL2
        clear hsn hx hL hL2
        go_wp2_with (at_builtin
                     refine wpList_append_i rfl 44 3 .i64 8 _ _ rfl Try.underlying44 (by kernel_rfl) (by omega) w.heap.size u3 L rfl (hown.more _) _ 1 1 [(x : Int)] rfl (one_its .i64 3 _ (x : Int)) (by omega) (Nat.le_trans hB.size (size_le_alloc _ _)) ?_
                     intro v5 w5 hown5 hg5
                     have hB5 : Below w.heap.size w w5 := (hB.alloc hB.size _).grown hg5 (Nat.le_trans hB.size (size_le_alloc _ _)) (fun k hk => (hown.size k hk).1)
                     rw [← HL2.out] at hown5
                     clear hg5)
        go_roundw
        case rel => exact ⟨k + 1, by omega, by go_num, hown5, hB5⟩
        case measure => simp [intOf]; omega
      · rw [if_neg hx0, List.append_nil] at hsn
        have hL2 : ints (there (S.take (k + 1))) = L := by rw [hsn, hL]
        have hx0' : (x : Int) ≤ 0 := by omega
        rw [← hL2] at hown
        have HO := Lib.hid hown
        clear hsn hx hL hL2 hown hx0
        go_wp2
        go_roundw
        case rel => exact ⟨k + 1, by omega, by go_num, HO.out, hB⟩
        case measure => simp [intOf]; omega
    · have hkn : k = 8 := by omega
      have htk : S.take k = S := by rw [hkn, ← HS.out, List.take_length]
      rw [htk] at hown
      have HO := Lib.hid hown
      clear hown htk hkn
      go_wp2
      go_ret
      exact ⟨_, rfl, HO.out, hB⟩
end Go.Proofs.Ytadcbikdbekmgaa
