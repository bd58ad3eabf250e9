/- What both Secrets answer, for every user and session. -/
import Derived.Test.YtcfkpepohnjdfaaDoorUsrSecNo
namespace Go.Proofs.YtcfkpepohnjdfaaDoor
set_option linter.unusedVariables false
set_option linter.unusedSimpArgs false
open Go.RowKit

def mayS (u : Us) (e : Int) : Bool := mayU [u] && decide (0 ≤ e) && decide (e ≤ 1073741824)
def secU (u : Us) (e d c : Int) : List Int := if mayS u e = true then secZ u.key u.no.toNat e.toNat d.toNat c.toNat else List.replicate 32 0
theorem secU_length (u : Us) (e d c : Int) : (secU u e d c).length = 32 := by
  unfold secU
  split
  · exact secZ_length _ _ _ _ _
  · simp
theorem mayS_no {u : Us} {e : Int} (h : mayS u e = false) : mayU [u] = false ∨ e < 0 ∨ 1073741824 < e := by
  unfold mayS at h
  cases h1 : mayU [u] with
  | false => exact .inl rfl
  | true =>
    rw [h1, Bool.true_and, Bool.and_eq_false_iff, decide_eq_false_iff_not, decide_eq_false_iff_not] at h
    exact .inr (by omega)
theorem mayS_yes {u : Us} {e : Int} (h : mayS u e = true) : mayU [u] = true ∧ 0 ≤ e ∧ e ≤ 1073741824 ∧ 0 < u.no ∧ u.no ≤ 255 := by
  unfold mayS at h
  simp only [Bool.and_eq_true, decide_eq_true_eq] at h
  have h2 := h.1.1
  rw [mayU, Bool.and_eq_true] at h2
  have := may_all h2.2 u (by simp)
  exact ⟨h.1.1, h.1.2, h.2, this.1, this.2.1⟩
theorem usecret_any (u : Us) (e d c : Int) (w : World) (hK : KTab w) (hk : Bts w u.A u.n u.c u.key) (hd0 : 0 ≤ d) (hd : d < 18446744073709551616) (hc0 : 0 ≤ c) (hc : c < 18446744073709551616) :
    Calls Tryd.prog 11 #[.agg #[.int .i64 u.no, .int .i64 u.role, .slice u.A u.n u.c], .int .i64 e, .int .u64 d, .int .u64 c] w fun x w' => x = .returned (.tuple #[.agg (idv (secU u e d c)), .bool (mayS u e)]) ∧ Below w.heap.size w w' := by
  cases h : mayS u e with
  | false =>
    rw [secU, h, if_neg (by simp)]
    exact usecret_no u e d c w hk (mayS_no h)
  | true =>
    obtain ⟨h1, h2, h3, h4, h5⟩ := mayS_yes h
    rw [secU, h, if_pos rfl]
    obtain ⟨e', rfl⟩ := Int.eq_ofNat_of_zero_le h2
    obtain ⟨d', rfl⟩ := Int.eq_ofNat_of_zero_le hd0
    obtain ⟨c', rfl⟩ := Int.eq_ofNat_of_zero_le hc0
    exact usecret_yes u u.no.toNat e' d' c' (by omega) w hK hk h1 (by omega) (by omega) (by omega)
theorem secret_role {u : Us} {r : Int} {e d c : Int} (h1 : isB u.role = true) (h2 : isB r = true) : secU { u with role := r } e d c = secU u e d c ∧ mayS { u with role := r } e = mayS u e := by
  have hm : mayU [{ u with role := r }] = mayU [u] := by simp [mayU, mayFrom, goodU, h1, h2]
  have hs : mayS { u with role := r } e = mayS u e := by rw [mayS, mayS, hm]
  exact ⟨by rw [secU, secU, hs], hs⟩
end Go.Proofs.YtcfkpepohnjdfaaDoor
