/- The walks over package entry's sizes, numbersOf and entryOf. -/
import Derived.Test.YtfjiefhicjnnnaaEntMay
import Derived.WalkMore
namespace Go.Proofs.Ytfjiefhicjnnnaa
set_option linter.unusedVariables false
set_option linter.unusedSimpArgs false
open Go.RowKit

def szV : Value := .agg #[.int .i64 1, .int .i64 4, .int .i64 4, .int .i64 1, .int .i64 8, .int .i64 8, .int .i64 1, .int .i64 2, .int .i64 1]
theorem sizes_any (w : World) : Calls Try.prog 22 #[] w fun e w' => e = .returned szV ∧ Below w.heap.size w w' := by
  go_enter Try.func22, Try.ntmps22
  go_wp2
  refine bodyPost_ret (v := szV) (by simp [results, Try.results22, go_sem]; rfl) rfl ⟨rfl, ?_⟩
  exact one_alloc w _
def numA (u : En) : Array Value := ((numsE u).map (Value.int .u64)).toArray
def numV (u : En) : Value := .agg (numA u)
set_option maxHeartbeats 2000000 in
theorem nums_of (u : En) (w : World) (hm : mayE u = true) (ho : u.ok) :
    Calls Try.prog 23 #[enV u] w fun e w' => e = .returned (numV u) ∧ Below w.heap.size w w' := by
  have hh := hasE u
  obtain ⟨⟨p0, a0⟩, ⟨p8, a8⟩, ⟨p1, a1⟩, ⟨p2, a2⟩, ⟨p3, a3⟩, ⟨p6, a6⟩, ⟨p7, a7⟩⟩ := may_iff.1 hm
  obtain ⟨⟨b4, a4⟩, ⟨b5, a5⟩⟩ := ho
  unfold enV
  obtain ⟨C, hC⟩ : ∃ C, C = enA u := ⟨_, rfl⟩
  rw [← hC] at hh ⊢
  obtain ⟨d0, d1, d2, d3, d4, d5, d6, d7, d8⟩ := hh
  rcases u with ⟨kind, tick, epoch, user, sess, count, cmd, arg, code⟩
  simp only at *
  clear hC hm
  go_enter Try.func23, Try.ntmps23
  go_wp2
  refine bodyPost_ret (v := .agg #[.int .u64 kind, .int .u64 tick, .int .u64 epoch, .int .u64 user, .int .u64 sess, .int .u64 count, .int .u64 cmd, .int .u64 arg, .int .u64 code]) (by simp [results, Try.results23, go_sem]) rfl ⟨rfl, two_below _ _ _⟩
set_option maxHeartbeats 2000000 in
theorem entry_of (n0 n1 n2 n3 n4 n5 n6 n7 n8 : Nat) (w : World) (h0 : n0 < 9223372036854775808) (h1 : n1 < 9223372036854775808) (h2 : n2 < 9223372036854775808) (h3 : n3 < 9223372036854775808) (h6 : n6 < 9223372036854775808) (h7 : n7 < 9223372036854775808) (h8 : n8 < 9223372036854775808)
    (h4 : n4 < 18446744073709551616) (h5 : n5 < 18446744073709551616) :
    Calls Try.prog 27 #[.agg #[.int .u64 n0, .int .u64 n1, .int .u64 n2, .int .u64 n3, .int .u64 n4, .int .u64 n5, .int .u64 n6, .int .u64 n7, .int .u64 n8]] w fun e w' => e = .returned (enV (enOf [n0, n1, n2, n3, n4, n5, n6, n7, n8])) ∧ Below w.heap.size w w' := by
  have g0 : (n0 : Int) ≤ 9223372036854775807 := by omega
  have g1 : (n1 : Int) ≤ 9223372036854775807 := by omega
  have g2 : (n2 : Int) ≤ 9223372036854775807 := by omega
  have g3 : (n3 : Int) ≤ 9223372036854775807 := by omega
  have g6 : (n6 : Int) ≤ 9223372036854775807 := by omega
  have g7 : (n7 : Int) ≤ 9223372036854775807 := by omega
  have g8 : (n8 : Int) ≤ 9223372036854775807 := by omega
  have g4 : (n4 : Int) < 18446744073709551616 := by omega
  have g5 : (n5 : Int) < 18446744073709551616 := by omega
  clear h0 h1 h2 h3 h4 h5 h6 h7 h8
  go_enter Try.func27, Try.ntmps27
  go_wp2
  refine bodyPost_ret (v := .agg #[.int .i64 n0, .int .i64 n1, .int .i64 n2, .int .i64 n3, .int .u64 n4, .int .u64 n5, .int .i64 n6, .int .i64 n7, .int .i64 n8]) (by simp [results, Try.results27, go_sem]) rfl ⟨rfl, two_below _ _ _⟩
end Go.Proofs.Ytfjiefhicjnnnaa
