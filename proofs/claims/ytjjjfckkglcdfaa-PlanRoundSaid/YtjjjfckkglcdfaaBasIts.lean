/- A slice of numbers without its first ones. -/
import Derived.Test.YtjjjfckkglcdfaaBasInts
namespace Go.Proofs.Ytjjjfckkglcdfaa
open Go.RowKit

theorem its_from {P : Program} {K : IntKind} {t : TypeId} (ht : P.underlying t = some (.slice (P.elem t))) (hz : ∀ w, (sizeOf (P.elem t)).run P w = .ok 1 w) {w0 : World} {A : Option Addr} {n cap lo : Nat} {l : List Int} (hb : Its K w0 A n cap l) (x : Int) (hx : x = lo) (hlo : lo ≤ n) :
    ∃ A2, (∀ w : World, (Instr.slice t (.slice A n cap) (some (.int .i64 x)) none none).run P w = .ok (.slice A2 (n - lo) (cap - lo)) w) ∧ (∀ w1, Its K w1 A n cap l → Its K w1 A2 (n - lo) (cap - lo) (l.drop lo)) := by
  subst hx
  refine ⟨if cap = lo then A else A.map (·.add lo), fun w => ?_, fun w1 hb => ?_⟩
  · rw [run_slice_l (P := P) w t A n cap ht .i64 lo (by omega) (by omega), hz]
    simp only [Result.andThen_ok, sliced, Int.toNat_natCast, Nat.mul_one]
  · have hle := hb.le
    have hmax := hb.max
    refine ⟨by rw [List.length_drop, hb.len], by omega, by omega, ?_, ?_⟩
    · intro h
      by_cases hc : cap = lo
      · omega
      · rw [if_neg hc] at h
        have : A = none := by cases A <;> simp at h ⊢
        have := hb.bare this
        omega
    · intro hn
      obtain ⟨b, off, hA, hcell⟩ := hb.at_ (by omega)
      rw [if_neg (by omega), hA]
      refine ⟨b, off + lo, ?_, fun j hj => ?_⟩
      · simp only [Option.map_some]
        congr 1
        unfold Addr.add
        split
        · rename_i h0; subst h0; rfl
        · rfl
      · have := hcell (lo + j) (by omega)
        rw [← Nat.add_assoc] at this
        rw [this]
        simp [List.getD_eq_getElem?_getD, List.getElem?_drop]
end Go.Proofs.Ytjjjfckkglcdfaa
