/- Arrays by value: one element. -/
import Derived.Test.YtfjiefhicjnnnaaBasBytes
namespace Go.Proofs.Ytfjiefhicjnnnaa
open Go.RowKit

/-- 'a[i]' of an array by value, its elements numbers -/
theorem run_index_arr {P : Program} (t e : TypeId) (n : Nat) (K : IntKind) (cs : Array Value) (i : Nat) (j : Int) (v : Value) (ht : P.underlying t = some (.array n e)) (he : P.underlying e = some (.int K)) (hs : (P.info? e).map (·.size) = some 1)
    (hj : j = i) (hi : i < n) (hv : cs[i]? = some v) (w : World) : (Instr.index t (.agg cs) (.int .i64 j)).run P w = .ok v w := by
  subst hj
  have hb : 0 ≤ (i : Int) ∧ (i : Int) < (n : Int) := by omega
  cases hinfo : P.info? e with
  | none => simp [hinfo] at hs
  | some inf =>
    simp [hinfo] at hs
    simp [Instr.index, run_underlying ht, run_underlying he, asIntOf, hb, part, isAgg, sizeOf, typeInfo, hinfo, hs, hv, go_sem]
    intro h
    omega
end Go.Proofs.Ytfjiefhicjnnnaa
