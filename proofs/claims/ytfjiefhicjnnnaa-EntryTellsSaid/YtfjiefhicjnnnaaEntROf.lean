/- The walks over the document's Of and Epoch of entries. -/
import Derived.Test.YtfjiefhicjnnnaaEntEq
namespace Go.Proofs.Ytfjiefhicjnnnaa
set_option linter.unusedVariables false
set_option linter.unusedSimpArgs false
open Go.RowKit

set_option maxHeartbeats 1000000 in
theorem erof_any (A : Option Addr) (n c : Nat) (l : List En) (kind : Int) (w : World) (hl : Ens w A n c l) (hsm : n ≤ 1000000) :
    Calls Try.prog 17 #[.slice A n c, .int .i64 kind] w (GL (ofE l kind) w) := by
  have hn := hl.small
  have HLL := Lib.hid hl.len
  have HL := Lib.hid hl
  clear hl
  go_enter Try.func17, Try.ntmps17
  go_wp2
  go_loopw [5, 6] (fun v i wr => ∃ k : Nat, k ≤ n ∧ i = .int .i64 k ∧ OwnR 25 9 wr w.heap.size v ((ofE (l.take k) kind).map En.row) ∧ Below w.heap.size w wr) (fun _ i _ => n - (intOf i).toNat)
  case atStart => exact ⟨0, by omega, rfl, by rw [List.take_zero]; exact OwnR.nil _ _ _ _, Below.refl _ _⟩
  case round =>
    obtain ⟨k, hk, rfl, ho, hb⟩ := hrel
    by_cases hlt : k < n
    · obtain ⟨b, off, u, rfl, hu, -, z0, z1, z2, z3, z4, z5, z6, z7, z8⟩ := (HL.out.below hb).at_ k hlt
      have hnx := of_take hu kind
      have hlen : ((ofE (l.take k) kind).map En.row).length ≤ 1000000 := by
        have h1 := of_len (l.take k) kind
        rw [List.length_take] at h1
        rw [List.length_map]
        omega
      have q0 : 0 ≤ (k : Int) := by omega
      have q1 : (k : Int) < n := by omega
      rcases u with ⟨a0, a1, a2, a3, a4, a5, a6, a7, a8⟩
      simp only at z0 z1 z2 z3 z4 z5 z6 z7 z8
      by_cases he : a0 = kind
      · have qe : (a0 == kind) = true := by rw [beq_iff_eq]; exact he
        have hnx2 : (ofE (l.take (k + 1)) kind).map En.row = (ofE (l.take k) kind).map En.row ++ [En.row ⟨a0, a1, a2, a3, a4, a5, a6, a7, a8⟩] := by rw [hnx]; simp [qe]
        obtain ⟨R, hR⟩ : ∃ R, (ofE (l.take k) kind).map En.row = R := ⟨_, rfl⟩
        rw [hR] at hnx2 ho hlen
        have HN := Lib.hid hnx2
        have HO := Lib.hid ho
        have HB := Lib.hid hb
        clear hnx hnx2 hR ho hb hu he
        go_wp2_with (at_builtin
                     refine wpList_append_r rfl 27 25 9 72 _ _ rfl Try.underlying27 info_entry (by omega) w.heap.size u5 R rfl (HO.out.more _) (some ⟨wr.heap.size, 0, none⟩) 1 1 [En.row ⟨a0, a1, a2, a3, a4, a5, a6, a7, a8⟩] rfl (one_rws 9 25 wr _ rfl (row_one9 ⟨a0, a1, a2, a3, a4, a5, a6, a7, a8⟩)) (by omega) (by omega) (Nat.le_trans HB.out.size (size_le_alloc _ _)) ?_
                     intro v5 w5 hown5 hg5
                     have HB5 := Lib.hid ((HB.out.alloc HB.out.size _).grown hg5 (Nat.le_trans HB.out.size (size_le_alloc _ _)) (fun g hg => (HO.out.size g hg).1))
                     rw [← HN.out] at hown5
                     have HO5 := Lib.hid hown5
                     clear hg5 hown5)
        go_roundw
        case rel => exact ⟨k + 1, by omega, by go_num, HO5.out, HB5.out⟩
        case measure => simp [intOf]; omega
      · have qe : (a0 == kind) = false := by rw [beq_eq_false_iff_ne]; exact he
        have hnx2 : ofE (l.take (k + 1)) kind = ofE (l.take k) kind := by rw [hnx]; simp [qe]
        rw [← hnx2] at ho
        have HO := Lib.hid ho
        have HB := Lib.hid hb
        clear hnx hnx2 ho hb hu he hlen
        go_wp2
        go_roundw
        case rel => exact ⟨k + 1, by omega, by go_num, HO.out, HB.out⟩
        case measure => simp [intOf]; omega
    · obtain rfl : k = n := by omega
      rw [List.take_of_length_le (by rw [HLL.out]; exact Nat.le_refl _)] at ho
      obtain ⟨A5, n5, c5, rfl, hen⟩ := own_ens ho
      have HE := Lib.hid hen
      have HB := Lib.hid hb
      clear ho hen hb
      go_wp2
      go_ret
      exact ⟨A5, n5, c5, rfl, HE.out, HB.out⟩
theorem epoch_take {l : List En} {j : Nat} {u : En} (h : l[j]? = some u) : epochE (l.take (j + 1)) = if u.kind = 0 then u.epoch else epochE (l.take j) := by rw [take_more h, epoch_snoc]
set_option maxHeartbeats 1000000 in
theorem erepoch_any (A : Option Addr) (n c : Nat) (l : List En) (w : World) (hl : Ens w A n c l) :
    Calls Try.prog 21 #[.slice A n c] w (GI (epochE l) w) := by
  have hn := hl.small
  have HLL := Lib.hid hl.len
  have HL := Lib.hid hl
  clear hl
  go_enter Try.func21, Try.ntmps21
  go_wp2
  go_loopw [3, 4] (fun v i wr => ∃ (k : Nat) (x : Int), k ≤ n ∧ i = .int .i64 k ∧ v = .int .i64 x ∧ x = epochE (l.take k) ∧ Below w.heap.size w wr) (fun _ i _ => n - (intOf i).toNat)
  case atStart => exact ⟨0, 0, by omega, rfl, rfl, rfl, Below.refl _ _⟩
  case round =>
    obtain ⟨k, x, hk, rfl, rfl, hx, hb⟩ := hrel
    by_cases hlt : k < n
    · obtain ⟨b, off, u, rfl, hu, -, z0, z1, z2, z3, z4, z5, z6, z7, z8⟩ := (HL.out.below hb).at_ k hlt
      have hnx := epoch_take hu
      have q0 : 0 ≤ (k : Int) := by omega
      have q1 : (k : Int) < n := by omega
      rcases u with ⟨a0, a1, a2, a3, a4, a5, a6, a7, a8⟩
      simp only at z0 z1 z2 z3 z4 z5 z6 z7 z8 hnx
      have HB := Lib.hid hb
      by_cases he : a0 = 0
      · have qe : (a0 == 0) = true := by rw [beq_iff_eq]; exact he
        rw [if_pos he] at hnx
        have HN := Lib.hid hnx.symm
        clear hnx hb hu he hx
        go_wp2
        go_roundw
        case rel => exact ⟨k + 1, a2, by omega, by go_num, rfl, HN.out, HB.out⟩
        case measure => simp [intOf]; omega
      · have qe : (a0 == 0) = false := by rw [beq_eq_false_iff_ne]; exact he
        rw [if_neg he] at hnx
        have HN := Lib.hid (hx.trans hnx.symm)
        clear hnx hb hu he hx
        go_wp2
        go_roundw
        case rel => exact ⟨k + 1, x, by omega, by go_num, rfl, HN.out, HB.out⟩
        case measure => simp [intOf]; omega
    · obtain rfl : k = n := by omega
      rw [List.take_of_length_le (by rw [HLL.out]; exact Nat.le_refl _)] at hx
      have HX := Lib.hid hx
      have HB := Lib.hid hb
      clear hx hb
      go_wp2
      go_ret
      exact ⟨congrArg (fun i => Ending.returned (Value.int .i64 i)) HX.out, HB.out⟩
end Go.Proofs.Ytfjiefhicjnnnaa
