/- The walks over package frame's following, sizes, upTo: what a shape tells. -/
import Derived.Test.YtadcbikdbekmgaaFrmShape
import Derived.Test.YtadcbikdbekmgaaBasArr
namespace Go.Proofs.Ytadcbikdbekmgaa
set_option linter.unusedVariables false
set_option linter.unusedSimpArgs false
open Go.RowKit

theorem list8 {α : Type} (S : List α) (h : S.length = 8) : ∃ s0 s1 s2 s3 s4 s5 s6 s7, S = [s0, s1, s2, s3, s4, s5, s6, s7] := by
  match S, h with
  | [s0, s1, s2, s3, s4, s5, s6, s7], _ => exact ⟨s0, s1, s2, s3, s4, s5, s6, s7, rfl⟩
theorem shV_lit {S : List Nat} {s0 s1 s2 s3 s4 s5 s6 s7 : Nat} {t : Bool} (h : S = [s0, s1, s2, s3, s4, s5, s6, s7]) :
    shV S t = .agg #[.int .i64 s0, .int .i64 s1, .int .i64 s2, .int .i64 s3, .int .i64 s4, .int .i64 s5, .int .i64 s6, .int .i64 s7, .bool t] := by
  subst h; rfl
def sizC (S : List Nat) : List Value := S.map fun s : Nat => Value.int .i64 (s : Int)
theorem sizC_lit {S : List Nat} {s0 s1 s2 s3 s4 s5 s6 s7 : Nat} (h : S = [s0, s1, s2, s3, s4, s5, s6, s7]) :
    (sizC S).toArray = #[.int .i64 s0, .int .i64 s1, .int .i64 s2, .int .i64 s3, .int .i64 s4, .int .i64 s5, .int .i64 s6, .int .i64 s7] := by
  subst h; rfl
theorem size_index {S : List Nat} (hS : S.length = 8) {cs : Array Value} (hc : (sizC S).toArray = cs) (k : Nat) (hk : k < 8) (w : World) :
    (Instr.index 45 (.agg cs) (.int .i64 k)).run Try.prog w = .ok (.int .i64 (S.getD k 0 : Nat)) w := by
  refine run_index_arr 45 3 8 .i64 _ k k _ Try.underlying45 Try.underlying3 (by kernel_rfl) rfl hk ?_ w
  rw [← hc]
  simp [sizC, List.getD_eq_getElem?_getD, hS, hk]
theorem sumS_snoc (S : List Nat) (k : Nat) (h : k < S.length) : (S.take (k + 1)).sum = (S.take k).sum + S.getD k 0 := by
  rw [List.take_succ_eq_append_getElem h, List.sum_append]
  simp [List.getD_eq_getElem?_getD, h]
theorem sumS_le (S : List Nat) (k : Nat) : (S.take k).sum ≤ S.sum := by
  have h := congrArg List.sum (List.take_append_drop k S)
  rw [List.sum_append] at h
  omega
theorem getS_le (S : List Nat) (k : Nat) : S.getD k 0 ≤ S.sum := by
  induction S generalizing k with
  | nil => simp
  | cons s S ih =>
    rw [List.sum_cons]
    cases k with
    | zero => simp
    | succ k => have := ih k; simp at this ⊢; omega

set_option maxHeartbeats 1000000 in
theorem fol_any (S : List Nat) (t : Bool) (w : World) (hS : S.length = 8) (hsm : S.sum ≤ 1000) :
    Calls Try.prog 21 #[shV S t] w fun e w' => e = .returned (.int .i64 (folL S t : Nat)) ∧ Below w.heap.size w w' := by
  obtain ⟨s0, s1, s2, s3, s4, s5, s6, s7, hl⟩ := list8 S hS
  rw [shV_lit hl]
  have hc := sizC_lit hl
  have HS := Lib.hid hS
  have HC := Lib.hid hc
  have HM := Lib.hid hsm
  clear hS hl hc hsm
  obtain ⟨T, hT⟩ : ∃ T, folL S t = T := ⟨_, rfl⟩
  have hTe : t = true → S.sum + 32 = T := by intro h; rw [← hT, folL, if_pos h]
  have hTf : t = false → S.sum = T := by intro h; rw [← hT, folL, h]; simp
  have HT := Lib.hid hT
  have HTE := Lib.hid hTe
  have HTF := Lib.hid hTf
  rw [hT]
  clear hT hTe hTf
  go_enter Try.func21, Try.ntmps21
  go_wp2
  go_loop [3, 5, 8] (fun n u i => ∃ (k z : Nat), k ≤ 8 ∧ i = .int .i64 k ∧ n = .int .i64 z ∧ z = (S.take k).sum) (fun _ _ i => 8 - (intOf i).toNat)
  case atStart => exact ⟨0, 0, Nat.zero_le _, rfl, rfl, rfl⟩
  case round =>
    obtain ⟨k, z, hk, rfl, rfl, hz⟩ := hrel
    have hzb : (z : Int) ≤ 1000 := by have h1 := sumS_le S k; have h2 := HM.out; omega
    have HZ := Lib.hid hz
    clear hz
    by_cases hlt : k < 8
    · have hix := size_index HS.out HC.out k hlt
      obtain ⟨x, hx⟩ : ∃ x, S.getD k 0 = x := ⟨_, rfl⟩
      rw [hx] at hix
      have hxb : (x : Int) ≤ 1000 := by have h1 := getS_le S k; have h2 := HM.out; omega
      have hnx : z + x = (S.take (k + 1)).sum := by rw [sumS_snoc S k (by rw [HS.out]; exact hlt), HZ.out, hx]
      have HNX := Lib.hid hnx
      clear hx hnx
      go_wp2
      go_round
      case rel => exact ⟨k + 1, z + x, by omega, by go_num, by go_num, HNX.out⟩
      case measure => simp [intOf]; omega
    · have hkn : k = 8 := by omega
      have hzs : z = S.sum := by rw [HZ.out, hkn, ← HS.out, List.take_length]
      have HZS := Lib.hid hzs
      clear hzs hkn
      cases t with
      | true =>
        have h1 : ((z : Int) + 32) = T := by rw [HZS.out, ← HTE.out rfl]; omega
        have H1 := Lib.hid h1
        clear h1
        go_wp2
        go_ret
        exact ⟨congrArg (fun x => Ending.returned (Value.int .i64 x)) H1.out, one_alloc _ _⟩
      | false =>
        have h1 : ((z : Int)) = T := by rw [HZS.out, ← HTF.out rfl]
        have H1 := Lib.hid h1
        clear h1
        go_wp2
        go_ret
        exact ⟨congrArg (fun x => Ending.returned (Value.int .i64 x)) H1.out, one_alloc _ _⟩
def upB (n m : Int) : Bool := decide (0 ≤ n ∧ n ≤ m)
set_option maxHeartbeats 1000000 in
theorem upto_any (n m : Int) (w : World) :
    Calls Try.prog 35 #[.int .i64 n, .int .i64 m] w fun e w' => e = .returned (.bool (upB n m)) ∧ w = w' := by
  have k1 : 0 ≤ n → decide (n ≤ m) = upB n m := by intro h; unfold upB; rw [Bool.eq_iff_iff]; simp; omega
  have k2 : n < 0 → false = upB n m := by intro h; unfold upB; rw [Bool.eq_iff_iff]; simp; omega
  have K1 := Lib.hid k1
  have K2 := Lib.hid k2
  clear k1 k2
  by_cases h : 0 ≤ n
  · go_enter Try.func35, Try.ntmps35
    go_wp2
    go_ret
    exact ⟨ret_bool (K1.out h), rfl⟩
  · have h2 : n < 0 := by omega
    clear h
    go_enter Try.func35, Try.ntmps35
    go_wp2
    go_ret
    exact ⟨ret_bool (K2.out h2), rfl⟩
end Go.Proofs.Ytadcbikdbekmgaa
