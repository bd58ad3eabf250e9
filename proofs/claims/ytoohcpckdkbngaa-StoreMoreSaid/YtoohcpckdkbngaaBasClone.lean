/- The walks over the library's bytes.Equal and bytes.Clone. -/
import Derived.Test.YtoohcpckdkbngaaBasBytes
import Derived.Lib.SliceRun
namespace Go.Proofs.Ytoohcpckdkbngaa
set_option linter.unusedVariables false
set_option linter.unusedSimpArgs false
open Go.RowKit

theorem equal_any (A B : Option Addr) (n c m d : Nat) (a b : List Int) (w : World) (ha : Bts w A n c a) (hb : Bts w B m d b) :
    Calls Try.prog 32 #[.slice A n c, .slice B m d] w fun e w' => e = .returned (.bool (a == b)) ∧ w = w' := by
  have k1 := conv_bts ha
  have k2 := conv_bts hb
  have k3 := run_eq_bstr a b ha.ok hb.ok
  obtain ⟨x, hx⟩ : ∃ x, bstr a = x := ⟨_, rfl⟩
  obtain ⟨y, hy⟩ : ∃ x, bstr b = x := ⟨_, rfl⟩
  rw [hx] at k1 k3
  rw [hy] at k2 k3
  have K3 := Lib.hid k3
  clear k3 hx hy ha hb
  go_enter Try.func32, Try.ntmps32
  go_wp2
  go_ret
  exact ⟨ret_bool K3.out, rfl⟩
theorem none_own (w : World) : Own (w.alloc (.cells #[] 5)) w.heap.size (.slice (some ⟨w.heap.size, 0, none⟩) 0 0) [] :=
  ⟨rfl, .inr ⟨w.heap.size, 0, #[], rfl, Nat.le_refl _, heap_alloc_new w _, Nat.le_refl _, by unfold maxLen; omega, rfl, rfl⟩⟩
set_option maxHeartbeats 1000000 in
theorem clone_any (A : Option Addr) (n c : Nat) (l : List Int) (w : World) (hb : Bts w A n c l) (hsm : n ≤ 140737488355328) :
    Calls Try.prog 33 #[.slice A n c] w fun e w' => ∃ v, e = .returned v ∧ Own w' w.heap.size v l ∧ Below w.heap.size w w' := by
  have q22 : ∀ (w : World) (a : Option Addr) (n c n' c' : Nat), (binOp .eql 22 (.slice a n c) (.slice none n' c')).run Try.prog w = .ok (.bool a.isNone) w := fun w a n c n' c' => Lib.run_eql_slice_nil w _ _ a n c n' c' Try.underlying22
  cases A with
  | none =>
    have h0 := hb.bare rfl
    have hn : n = 0 := by have := hb.le; omega
    have hl : l = [] := List.eq_nil_of_length_eq_zero (hb.len.trans hn)
    have HL := Lib.hid hl
    clear hl hb h0
    go_enter Try.func33, Try.ntmps33
    go_wp2
    go_ret
    exact ⟨_, rfl, by rw [HL.out]; exact Own.nil _ _, Below.refl _ _⟩
  | some a =>
    have hb1 := hb.more (.cells #[] 5)
    go_enter Try.func33, Try.ntmps33
    go_wp2_with (at_builtin
                 refine wpList_append_b rfl _ _ rfl w.heap.size _ [] rfl (none_own w) _ n c l rfl hb1 (by simp; omega) (size_le_alloc _ _) ?_
                 intro v5 w5 hown5 hg5
                 rw [List.nil_append] at hown5
                 have hB5 : Below w.heap.size w w5 := (one_alloc w _).grown hg5 (size_le_alloc _ _) (fun k hk => by cases hk; exact Nat.le_refl _)
                 clear hg5)
    go_ret
    exact ⟨_, rfl, hown5, hB5⟩
theorem clone_bts (A : Option Addr) (n c : Nat) (l : List Int) (w : World) (hb : Bts w A n c l) (hsm : n ≤ 140737488355328) :
    Calls Try.prog 33 #[.slice A n c] w fun e w' => ∃ A' c', e = .returned (.slice A' n c') ∧ Bts w' A' n c' l ∧ (∀ a, A' = some a → w.heap.size ≤ a.block) ∧ Below w.heap.size w w' := by
  refine (clone_any A n c l w hb hsm).mono ?_
  rintro e w' ⟨v, rfl, hown, hbel⟩
  have hl := hb.len
  obtain ⟨A', c', rfl, hb'⟩ := hown.bts hb.ok
  subst hl
  exact ⟨A', c', rfl, hb', fun a ha => by subst ha; exact (hown.size _ rfl).1, hbel⟩
end Go.Proofs.Ytoohcpckdkbngaa
