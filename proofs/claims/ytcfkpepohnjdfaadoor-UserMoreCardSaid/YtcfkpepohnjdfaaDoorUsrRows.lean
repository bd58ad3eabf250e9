/- Users in a slice of the call's own: appended, read again; a slice of users up to a place, and from one on. -/
import Derived.Test.YtcfkpepohnjdfaaDoorUsrSpec
namespace Go.Proofs.YtcfkpepohnjdfaaDoor
set_option linter.unusedVariables false
set_option linter.unusedSimpArgs false
open Go.RowKit

theorem info_user : (Tryd.prog.info? 25).map (fun i => (i.zero.map (·.cells.size), i.size, i.bytes)) = some (some 3, 3, 40) := by kernel_rfl
theorem size_user (w : World) : (sizeOf (Tryd.prog.elem 22)).run Tryd.prog w = .ok 3 w := rfl
/-- what the call made of users, read as users -/
theorem own_uss {w : World} {B : Nat} {v : Value} {l : List Us} (h : OwnR 25 3 w B v (l.map Us.row)) (hk : ∀ u ∈ l, Bts w u.A u.n u.c u.key) : ∃ A n c, v = .slice A n c ∧ Uss w A n c l := by
  obtain ⟨A, n, c, rfl, hr⟩ := h.rws
  exact ⟨A, n, c, rfl, hr, hk⟩
theorem map_app (l m : List Us) : (l ++ m).map Us.row = l.map Us.row ++ m.map Us.row := List.map_append
/-- the first ones -/
theorem Uss.upto {w : World} {A : Option Addr} {n c : Nat} {l : List Us} (h : Uss w A n c l) (k : Nat) (x : Int) (hx : x = k) (hk : k ≤ n) :
    (∀ w' : World, (Instr.slice 22 (.slice A n c) none (some (.int .i64 x)) none).run Tryd.prog w' = .ok (.slice A k c) w') ∧ Uss w A k c (l.take k) := by
  have hn := h.small
  have hle := h.rws.le
  refine ⟨fun w' => ?_, ⟨⟨by rw [List.length_map, List.length_take, h.len]; omega, ?_, ?_, by omega, h.rws.max, h.rws.bare, fun h0 => ?_⟩, fun u hu => h.key u (List.mem_of_mem_take hu)⟩⟩
  · subst hx
    rw [run_slice_h (P := Tryd.prog) w' 22 A n c (by kernel_rfl) .i64 k (by omega) (by omega), size_user]
    simp only [Result.andThen_ok, sliced, Int.toNat_natCast, Nat.zero_mul, Nat.sub_zero]
    have e : A.map (fun x => x.add 0) = A := by
      cases A with
      | none => rfl
      | some a => simp [Addr.add]
    rw [e]
    simp
  · intro r hr
    obtain ⟨u, _, rfl⟩ := List.mem_map.1 hr
    rfl
  · intro r hr v hv
    obtain ⟨u, _, rfl⟩ := List.mem_map.1 hr
    exact row_one3 u v hv
  · obtain ⟨b, off, hA, hc⟩ := h.rws.at_ (by omega)
    refine ⟨b, off, hA, fun j hj i hi => ?_⟩
    rw [hc j (by omega) i hi]
    simp [List.getD_eq_getElem?_getD, List.getElem?_take, hj]
/-- those from a place on -/
theorem Uss.from_ {w : World} {A : Option Addr} {n c : Nat} {l : List Us} (h : Uss w A n c l) (k : Nat) (x : Int) (hx : x = k) (hk : k ≤ n) :
    ∃ A2 m2 c2, (∀ w' : World, (Instr.slice 22 (.slice A n c) (some (.int .i64 x)) none none).run Tryd.prog w' = .ok (.slice A2 m2 c2) w') ∧ Uss w A2 m2 c2 (l.drop k) := by
  have hn := h.small
  have hle := h.rws.le
  have hmx := h.rws.max
  refine ⟨if c = k then A else A.map (·.add (k * 3)), n - k, c - k, fun w' => ?_, ⟨⟨by rw [List.length_map, List.length_drop, h.len], ?_, ?_, by omega, by omega, ?_, fun h0 => ?_⟩, fun u hu => h.key u (List.mem_of_mem_drop hu)⟩⟩
  · subst hx
    rw [run_slice_l (P := Tryd.prog) w' 22 A n c (by kernel_rfl) .i64 k (by omega) (by omega), size_user]
    simp only [Result.andThen_ok, sliced, Int.toNat_natCast]
  · intro r hr
    obtain ⟨u, _, rfl⟩ := List.mem_map.1 hr
    rfl
  · intro r hr v hv
    obtain ⟨u, _, rfl⟩ := List.mem_map.1 hr
    exact row_one3 u v hv
  · intro h0
    by_cases e : c = k
    · omega
    · rw [if_neg e] at h0
      have : A = none := by cases A <;> simp at h0 ⊢
      have := h.rws.bare this
      omega
  · obtain ⟨b, off, hA, hc⟩ := h.rws.at_ (by omega)
    rw [if_neg (by omega), hA]
    refine ⟨b, off + k * 3, by simp [add_addr], fun j hj i hi => ?_⟩
    have := hc (k + j) (by omega) i hi
    have e1 : off + k * 3 + j * 3 + i = off + (k + j) * 3 + i := by omega
    rw [e1, this]
    simp [List.getD_eq_getElem?_getD, List.getElem?_drop]
end Go.Proofs.YtcfkpepohnjdfaaDoor
