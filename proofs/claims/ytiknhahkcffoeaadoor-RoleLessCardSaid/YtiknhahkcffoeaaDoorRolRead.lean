/- Read, and the document's own. -/
import Derived.Test.YtiknhahkcffoeaaDoorRolAll
namespace Go.Proofs.YtiknhahkcffoeaaDoor
set_option linter.unusedVariables false
set_option linter.unusedSimpArgs false
open Go.RowKit

def nm (k : Nat) : ByteArray := namesT.getD k ⟨#[]⟩
theorem nm_name (k : Nat) (h : k < 8) : nameB (k : Int) = nm k := by
  have h1 : cmdB (k : Int) = true := by simp [cmdB]; omega
  simp [nameB, h1, nm]
theorem readL_hit (s : ByteArray) : ∀ (l : List ByteArray) (k : Nat) (i : Int) (x : ByteArray), (∀ j y, j < k → l[j]? = some y → (y.toList == s.toList) = false) → l[k]? = some x → (x.toList == s.toList) = true → readL s l i = i + k
  | [], _, _, _, _, h, _ => by simp at h
  | n :: r, 0, i, x, _, h, hx => by
    simp only [List.getElem?_cons_zero, Option.some.injEq] at h
    subst h
    simp only [readL, hx, if_true]
    omega
  | n :: r, k + 1, i, x, ha, h, hx => by
    have h0 := ha 0 n (by omega) rfl
    have := readL_hit s r k (i + 1) x (fun j y hj hy => ha (j + 1) y (by omega) (by simpa using hy)) (by simpa using h) hx
    simp only [readL, h0, Bool.false_eq_true, if_false, this]
    omega
theorem readL_none (s : ByteArray) : ∀ (l : List ByteArray) (i : Int), (∀ (j : Nat) y, l[j]? = some y → (y.toList == s.toList) = false) → readL s l i = -1
  | [], _, _ => rfl
  | n :: r, i, ha => by
    have h0 := ha 0 n rfl
    have := readL_none s r (i + 1) (fun j y hy => ha (j + 1) y (by simpa using hy))
    simp only [readL, h0, Bool.false_eq_true, if_false, this]
theorem names_at (j : Nat) (h : j < 8) : namesT[j]? = some (nm j) := by
  have hl : namesT.length = 8 := rfl
  unfold nm
  rw [List.getD_eq_getElem?_getD, List.getElem?_eq_getElem (by omega)]
  rfl
theorem read_hit (s : ByteArray) (k : Nat) (hk : k < 8) (ha : ∀ j, j < k → ((nm j).toList == s.toList) = false) (hx : ((nm k).toList == s.toList) = true) : readB s = k := by
  have := readL_hit s namesT k 0 (nm k) (fun j y hj hy => by rw [names_at j (by omega)] at hy; cases hy; exact ha j hj) (names_at k hk) hx
  unfold readB
  rw [this]
  omega
theorem read_none (s : ByteArray) (ha : ∀ j, j < 8 → ((nm j).toList == s.toList) = false) : readB s = -1 := by
  refine readL_none s namesT 0 fun j y hy => ?_
  have hj : j < 8 := (List.getElem?_eq_some_iff.1 hy).1
  rw [names_at j hj] at hy
  cases hy
  exact ha j hj
theorem more_no {s : ByteArray} {k : Nat} (ha : ∀ j, j < k → ((nm j).toList == s.toList) = false) (hx : ((nm k).toList == s.toList) = false) : ∀ j, j < k + 1 → ((nm j).toList == s.toList) = false := fun j hj => by
  by_cases e : j = k
  · rw [e]; exact hx
  · exact ha j (by omega)
theorem lt8 {k : Nat} (h : k < 8) : k = 0 ∨ k = 1 ∨ k = 2 ∨ k = 3 ∨ k = 4 ∨ k = 5 ∨ k = 6 ∨ k = 7 := by omega

set_option maxHeartbeats 1000000 in
theorem rread_any (s : ByteArray) (w : World) : Calls Tryd.prog 23 #[.string s] w fun e w' => e = .returned (.int .i64 (readB s)) ∧ w' = w := by
  go_enter Tryd.func23, Tryd.ntmps23
  go_wp2
  go_loopw [3] (fun i wr => ∃ k : Nat, k ≤ 8 ∧ i = .int .i64 k ∧ (∀ j, j < k → ((nm j).toList == s.toList) = false) ∧ wr = w) (fun i _ => 8 - (intOf i).toNat)
  case atStart => exact ⟨0, by omega, rfl, (fun j hj => by omega), rfl⟩
  case round =>
    obtain ⟨k, hk, rfl, hno, rfl⟩ := hrel
    have HN := Lib.hid hno
    by_cases hlt : k < 8
    · have hlt2 : (k : Int) < 8 := by omega
      have HM := Lib.hid (nm_name k hlt)
      cases hq : ((nm k).toList == s.toList)
      · have HN2 := Lib.hid (more_no hno hq)
        obtain ⟨z, hz⟩ : ∃ z, nm k = z := ⟨_, rfl⟩
        rw [hz] at hq
        have HZ := Lib.hid hz
        clear hno hz
        go_wp2_with (go_at_call 21; (with_reducible refine (rname_any k wr).mono ?_); rintro e w5 ⟨he, rfl⟩; rw [HM.out, HZ.out] at he; subst he)
        go_roundw
        case rel => exact ⟨k + 1, by omega, by go_num, HN2.out, by first | rfl | trivial⟩
        case measure => simp [intOf]; omega
      · have HR := Lib.hid (read_hit s k hlt hno hq)
        obtain ⟨z, hz⟩ : ∃ z, nm k = z := ⟨_, rfl⟩
        rw [hz] at hq
        have HZ := Lib.hid hz
        clear hno hz
        go_wp2_with (go_at_call 21; (with_reducible refine (rname_any k wr).mono ?_); rintro e w5 ⟨he, rfl⟩; rw [HM.out, HZ.out] at he; subst he)
        go_ret
        exact ⟨by rw [HR.out]; rfl, rfl⟩
    · have hkn : k = 8 := by omega
      subst hkn
      have HR := Lib.hid (read_none s hno)
      clear hno hlt hk
      go_wp2
      go_ret
      exact ⟨by rw [HR.out]; rfl, rfl⟩
/-- 'a[i]' of an array by value, its elements strings -/
theorem run_index_str {P : Program} (t e : TypeId) (n : Nat) (cs : Array Value) (i : Nat) (j : Int) (v : Value) (ht : P.underlying t = some (.array n e)) (he : P.underlying e = some .string) (hs : (P.info? e).map (·.size) = some 1)
    (hj : j = i) (hi : i < n) (hv : cs[i]? = some v) (w : World) : (Instr.index t (.agg cs) (.int .i64 j)).run P w = .ok v w := by
  subst hj
  have hb : 0 ≤ (i : Int) ∧ (i : Int) < (n : Int) := by omega
  cases hinfo : P.info? e with
  | none => simp [hinfo] at hs
  | some inf =>
    simp [hinfo] at hs
    simp [Instr.index, run_underlying ht, run_underlying he, asIntOf, hb, part, isAgg, sizeOf, typeInfo, hinfo, hs, hv, go_sem]
    intro h
    omega
set_option maxHeartbeats 1000000 in
theorem read_any (s : ByteArray) (w : World) (hT : Tabs w) : Calls Tryd.prog 22 #[.string s] w fun e w' => e = .returned (.int .i64 (readB s)) ∧ w' = w := by
  have c0 : w.cell? ⟨1, 0, none⟩ = some (.string (nm 0)) := hT.names 0 (by omega)
  have c1 : w.cell? ⟨1, 1, none⟩ = some (.string (nm 1)) := hT.names 1 (by omega)
  have c2 : w.cell? ⟨1, 2, none⟩ = some (.string (nm 2)) := hT.names 2 (by omega)
  have c3 : w.cell? ⟨1, 3, none⟩ = some (.string (nm 3)) := hT.names 3 (by omega)
  have c4 : w.cell? ⟨1, 4, none⟩ = some (.string (nm 4)) := hT.names 4 (by omega)
  have c5 : w.cell? ⟨1, 5, none⟩ = some (.string (nm 5)) := hT.names 5 (by omega)
  have c6 : w.cell? ⟨1, 6, none⟩ = some (.string (nm 6)) := hT.names 6 (by omega)
  have c7 : w.cell? ⟨1, 7, none⟩ = some (.string (nm 7)) := hT.names 7 (by omega)
  have hidx : ∀ (k : Nat), k < 8 → ∀ w' : World, (Instr.index 34 (.agg #[.string (nm 0), .string (nm 1), .string (nm 2), .string (nm 3), .string (nm 4), .string (nm 5), .string (nm 6), .string (nm 7)]) (.int .i64 k)).run Tryd.prog w' = .ok (.string (nm k)) w' := fun k hk w' =>
    run_index_str _ 9 8 _ k _ _ Tryd.underlying34 Tryd.underlying9 (by kernel_rfl) rfl hk (by rcases lt8 hk with rfl | rfl | rfl | rfl | rfl | rfl | rfl | rfl <;> rfl) w'
  have HX := Lib.hid hidx
  clear hidx hT
  go_enter Tryd.func22, Tryd.ntmps22
  go_wp2
  go_loopw [3, 4, 6] (fun q v i wr => ∃ k : Nat, k ≤ 8 ∧ i = .int .i64 k ∧ (∀ j, j < k → ((nm j).toList == s.toList) = false) ∧ wr = w) (fun _ _ i _ => 8 - (intOf i).toNat)
  case atStart => exact ⟨0, by omega, rfl, (fun j hj => by omega), by first | rfl | trivial⟩
  case round =>
    obtain ⟨k, hk, rfl, hno, rfl⟩ := hrel
    have HN := Lib.hid hno
    clear c0 c1 c2 c3 c4 c5 c6 c7
    by_cases hlt : k < 8
    · have hlt2 : (k : Int) < 8 := by omega
      have hx := HX.out k hlt
      cases hq : ((nm k).toList == s.toList)
      · have HN2 := Lib.hid (more_no hno hq)
        obtain ⟨z, hz⟩ : ∃ z, nm k = z := ⟨_, rfl⟩
        rw [hz] at hq hx
        clear hno hz
        go_wp2
        go_roundw
        case rel => exact ⟨k + 1, by omega, by go_num, HN2.out, by first | rfl | trivial⟩
        case measure => simp [intOf]; omega
      · have HR := Lib.hid (read_hit s k hlt hno hq)
        obtain ⟨z, hz⟩ : ∃ z, nm k = z := ⟨_, rfl⟩
        rw [hz] at hq hx
        clear hno hz
        go_wp2
        go_ret
        exact ⟨by rw [HR.out]; rfl, rfl⟩
    · have hkn : k = 8 := by omega
      subst hkn
      have HR := Lib.hid (read_none s hno)
      clear hno hlt hk
      go_wp2
      go_ret
      exact ⟨by rw [HR.out]; rfl, rfl⟩
end Go.Proofs.YtiknhahkcffoeaaDoor
