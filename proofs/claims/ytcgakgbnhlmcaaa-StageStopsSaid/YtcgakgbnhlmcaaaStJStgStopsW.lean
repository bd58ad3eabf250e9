/- The walk over the law StageStops. -/
import Derived.Test.YtcgakgbnhlmcaaaStJK
namespace Go.Proofs.Ytcgakgbnhlmcaaa
set_option maxRecDepth 100000
set_option linter.unusedVariables false
set_option linter.unusedSimpArgs false
open Go.RowKit

theorem sstops_any (HO : StgOk) (HT : LmpText) (A : Option Addr) (n c : Nat) (l : List Pl) (s : Sg) (x : Int) (w : World) (hl : Pls w A n c l) (hts : SmG s) :
    Calls Try.prog 7 #[.slice A n c, sgV s, .int .i64 x] w fun e w' => e = .returned (.bool true) ∧ Below w.heap.size w w' := by
  cases hfw : fewAllB l with
  | false => exact sstops_a HO HT A n c l s x w hl hts hfw
  | true =>
  cases hm : mayS l s with
  | false => exact sstops_b HO HT A n c l s x w hl hts hfw hm
  | true =>
  cases hsp : s.sp with
  | false => exact sstops_c HO HT A n c l s x w hl hts hfw hm hsp
  | true =>
  by_cases h0 : x < 0
  · exact sstops_d HO HT A n c l s x w hl hts hfw hm hsp h0
  by_cases h1 : 60 < x
  · exact sstops_e HO HT A n c l s x w hl hts hfw hm hsp h1
  obtain ⟨K, rfl⟩ := Int.eq_ofNat_of_zero_le (show 0 ≤ x by omega)
  exact sstops_f HO HT A n c l s K w hl hts hfw hm hsp (by omega)
end Go.Proofs.Ytcgakgbnhlmcaaa

