/- The walks over package store's Same, and the document's. -/
import Derived.Test.YtoohcpckdkbngaaStoMay
import Derived.Test.YtoohcpckdkbngaaBasClone
namespace Go.Proofs.Ytoohcpckdkbngaa
set_option linter.unusedVariables false
set_option linter.unusedSimpArgs false
open Go.RowKit

set_option maxHeartbeats 1000000 in
theorem stsame_any (a b : Sp) (A B : Option Addr) (n c m d : Nat) (w : World) (ha : Bts w A n c a.data) (hb : Bts w B m d b.data) :
    Calls Try.prog 24 #[a.val A n c, b.val B m d] w (GBool (sameP a b) w) := by
  obtain ⟨cap1, l1, s1⟩ := a
  obtain ⟨cap2, l2, s2⟩ := b
  simp only at ha hb
  unfold Sp.val
  simp only
  have htwo := two_below w (.cells #[.int .i64 cap1, .slice A n c, .int .i64 s1] 24) (.cells #[.int .i64 cap2, .slice B m d, .int .i64 s2] 24)
  obtain ⟨E, hE⟩ : ∃ E, (l1 == l2) = E := ⟨_, rfl⟩
  have HC := Lib.hid (equal_any A B n c m d l1 l2 _ (ha.below htwo) (hb.below htwo))
  rw [hE] at HC
  have HTWO := Lib.hid htwo
  have HE := Lib.hid hE
  clear htwo ha hb hE
  cases e1 : (cap1 == cap2) with
  | false =>
    have HR := Lib.hid (show false = sameP ⟨cap1, l1, s1⟩ ⟨cap2, l2, s2⟩ from by simp only [sameP, e1, Bool.false_and])
    go_enter Try.func24, Try.ntmps24
    go_wp2
    go_ret
    exact ⟨ret_bool HR.out, HTWO.out⟩
  | true =>
    cases e2 : (s1 == s2) with
    | false =>
      have HR := Lib.hid (show false = sameP ⟨cap1, l1, s1⟩ ⟨cap2, l2, s2⟩ from by simp only [sameP, e1, e2, Bool.and_false, Bool.false_and])
      go_enter Try.func24, Try.ntmps24
      go_wp2
      go_ret
      exact ⟨ret_bool HR.out, HTWO.out⟩
    | true =>
      have HR := Lib.hid (show E = sameP ⟨cap1, l1, s1⟩ ⟨cap2, l2, s2⟩ from by simp only [sameP, e1, e2, Bool.true_and, HE.out])
      go_enter Try.func24, Try.ntmps24
      go_wp2_with (go_at_call 32; refine HC.out.mono ?_; rintro e w1 ⟨rfl, rfl⟩)
      go_ret
      exact ⟨ret_bool HR.out, HTWO.out⟩
set_option maxHeartbeats 1000000 in
theorem rstsame_any (a b : Sp) (A B : Option Addr) (n c m d : Nat) (w : World) (ha : Bts w A n c a.data) (hb : Bts w B m d b.data) :
    Calls Try.prog 19 #[a.val A n c, b.val B m d] w (GBool (sameP a b) w) := by
  obtain ⟨cap1, l1, s1⟩ := a
  obtain ⟨cap2, l2, s2⟩ := b
  simp only at ha hb
  unfold Sp.val
  simp only
  have htwo := two_below w (.cells #[.int .i64 cap1, .slice A n c, .int .i64 s1] 24) (.cells #[.int .i64 cap2, .slice B m d, .int .i64 s2] 24)
  obtain ⟨E, hE⟩ : ∃ E, (l1 == l2) = E := ⟨_, rfl⟩
  have k1 := conv_bts (ha.below htwo)
  have k2 := conv_bts (hb.below htwo)
  have k3 := run_eq_bstr l1 l2 ha.ok hb.ok
  obtain ⟨x, hx⟩ : ∃ x, bstr l1 = x := ⟨_, rfl⟩
  obtain ⟨y, hy⟩ : ∃ x, bstr l2 = x := ⟨_, rfl⟩
  rw [hx] at k1 k3
  rw [hy] at k2 k3
  rw [hE] at k3
  have K3 := Lib.hid k3
  clear k3 hx hy
  have HTWO := Lib.hid htwo
  have HE := Lib.hid hE
  clear htwo ha hb hE
  cases e1 : (cap1 == cap2) with
  | false =>
    have HR := Lib.hid (show false = sameP ⟨cap1, l1, s1⟩ ⟨cap2, l2, s2⟩ from by simp only [sameP, e1, Bool.false_and])
    go_enter Try.func19, Try.ntmps19
    go_wp2
    go_ret
    exact ⟨ret_bool HR.out, HTWO.out⟩
  | true =>
    cases e2 : (s1 == s2) with
    | false =>
      have HR := Lib.hid (show false = sameP ⟨cap1, l1, s1⟩ ⟨cap2, l2, s2⟩ from by simp only [sameP, e1, e2, Bool.and_false, Bool.false_and])
      go_enter Try.func19, Try.ntmps19
      go_wp2
      go_ret
      exact ⟨ret_bool HR.out, HTWO.out⟩
    | true =>
      have HR := Lib.hid (show E = sameP ⟨cap1, l1, s1⟩ ⟨cap2, l2, s2⟩ from by simp only [sameP, e1, e2, Bool.true_and, HE.out])
      go_enter Try.func19, Try.ntmps19
      go_wp2
      go_ret
      exact ⟨ret_bool (K3.out.trans HR.out), HTWO.out⟩
end Go.Proofs.Ytoohcpckdkbngaa
