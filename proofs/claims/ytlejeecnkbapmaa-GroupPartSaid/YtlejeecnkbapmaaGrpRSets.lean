/- The walk over the document's Sets: the greatest free ones. -/
import Derived.Test.YtlejeecnkbapmaaGrpRList
namespace Go.Proofs.Ytlejeecnkbapmaa
set_option maxRecDepth 100000
set_option linter.unusedVariables false
set_option linter.unusedSimpArgs false
open Go.RowKit

def mostTo (m : List Int) (t k : Nat) : Bool := freeM m (t : Int) && (List.range k).all fun j => !(!t.testBit j && freeM m ((t : Int) + ((2 ^ j : Nat) : Int)))
theorem most_next (m : List Int) (t k : Nat) : mostTo m t (k + 1) = (mostTo m t k && !(!t.testBit k && freeM m ((t : Int) + ((2 ^ k : Nat) : Int)))) := by
  simp only [mostTo, List.range_succ, List.all_append, List.all_cons, List.all_nil, Bool.and_true, Bool.and_assoc]
theorem most_all {m : List Int} {t n : Nat} (hl : m.length = n) : mostTo m t n = mostM m (t : Int) := by
  subst hl
  rw [Bool.eq_iff_iff, most_iff, mostTo, Bool.and_eq_true, List.all_eq_true]
  simp only [List.mem_range, bit_nat, pow_int, Bool.not_eq_true', Bool.and_eq_false_iff, Bool.not_eq_false']
  refine and_congr_right fun _ => forall_congr' fun i => imp_congr_right fun _ => ?_
  cases t.testBit i <;> cases freeM m ((t : Int) + ((2 ^ i : Nat) : Int)) <;> simp
def setsTo (m : List Int) (k : Nat) : List Int := ((List.range k).filter fun t : Nat => mostM m (t : Int)).map Int.ofNat
theorem sets_next (m : List Int) (k : Nat) : setsTo m (k + 1) = setsTo m k ++ (if mostM m (k : Int) = true then [(k : Int)] else []) := by
  rw [setsTo, List.range_succ, List.filter_append, List.map_append]
  congr 1
  by_cases h : mostM m (k : Int) = true
  · rw [if_pos h]; simp [h]
  · rw [if_neg h]; simp [h]
theorem sets_len (m : List Int) (k : Nat) : (setsTo m k).length ≤ k := by
  rw [setsTo, List.length_map]
  exact Nat.le_trans (List.length_filter_le _ _) (by rw [List.length_range]; exact Nat.le_refl _)
set_option maxHeartbeats 4000000 in
theorem rgsets_any (A : Option Addr) (n c : Nat) (m : List Int) (w : World) (hb : Its .i64 w A n c m) : Calls Try.prog 13 #[.slice A n c] w (GivesL (setsM m) w) := by
  have hsm := hb.small
  have HL := Lib.hid hb.len
  have HMZ := Lib.hid (show Calls Try.prog 9 #[.slice A n c] w fun e w' => e = .returned (.bool (mayM m)) ∧ Below w.heap.size w w' from rgmay_any A n c m w hb)
  cases hm : mayM m with
  | false =>
    rw [hm] at HMZ
    have HR := Lib.hid (show setsM m = [] by rw [setsM, if_neg (by rw [hm]; simp)])
    clear hb hm
    go_enter Try.func13, Try.ntmps13
    go_wp2_with (go_at_call 9; (with_reducible refine (HMZ.out).mono ?_); rintro e w1 ⟨rfl, hb1⟩; have HB1 := Lib.hid hb1; clear hb1)
    go_loopw [4, 5] (fun v i wr => v = .slice none 0 0 ∧ i = .int .i64 0 ∧ wr = w1) (fun _ _ _ => 0)
    case atStart => exact ⟨rfl, rfl, rfl⟩
    case round =>
      obtain ⟨rfl, rfl, rfl⟩ := hrel
      go_wp2
      go_ret
      exact ⟨none, 0, 0, rfl, by rw [HR.out]; exact Its.nil _ _, HB1.out⟩
  | true =>
    rw [hm] at HMZ
    obtain ⟨hn8, hrw⟩ := may_rows hb.len hm
    have HSE := Lib.hid (show setsTo m (2 ^ n) = setsM m by rw [setsM, if_pos hm, HL.out, setsTo])
    have HPW := Lib.hid (fun X => rpow_any n (by omega) X)
    have HFR := Lib.hid (fun (s : Int) (X : World) (hX : Below w.heap.size w X) => rgfree_any A n c m s X (hb.below hX))
    have h256 := pow_le hn8
    obtain ⟨N2, hN2⟩ : ∃ x, 2 ^ n = x := ⟨_, rfl⟩
    rw [hN2] at HPW HSE h256
    clear hb hrw hN2 hm
    go_enter Try.func13, Try.ntmps13
    go_wp2_with (go_at_call 9; (with_reducible refine (HMZ.out).mono ?_); rintro e w1 ⟨rfl, hb1⟩; have HB1 := Lib.hid hb1; clear hb1)
    go_loopw [4, 5] (fun v i wr => ∃ (t : Nat) (L : List Int), t ≤ N2 ∧ i = .int .i64 t ∧ L = setsTo m t ∧ OwnI .i64 3 wr w.heap.size v L ∧ Below w.heap.size w wr) (fun _ i _ => N2 - (intOf i).toNat)
    case atStart => exact ⟨0, [], by omega, rfl, rfl, OwnI.nil _ _ _ _, HB1.out⟩
    case round =>
      obtain ⟨t, L, ht, rfl, hL, hown, hB⟩ := hrel
      have HLL := Lib.hid hL
      have HB2 := Lib.hid hB
      have HO := Lib.hid hown
      have hLl : L.length ≤ 256 := by rw [hL]; exact Nat.le_trans (sets_len m t) (by omega)
      clear hL hown hB
      by_cases hlt : t < N2
      · have hlt2 : (t : Int) < N2 := by omega
        have HF1 := Lib.hid (HFR.out (t : Int))
        obtain ⟨F0, hF0⟩ : ∃ x, freeM m (t : Int) = x := ⟨_, rfl⟩
        simp only [hF0] at HF1
        have HF0 := Lib.hid (show F0 = mostTo m t 0 by rw [← hF0]; simp [mostTo])
        clear hF0
        go_wp2_with (first
          | (go_at_call 22; (with_reducible refine (HPW.out _).mono ?_); rintro e wp ⟨rfl, rfl⟩)
          | (go_at_call 10
             (with_reducible refine (HF1.out _ HB2.out).mono ?_)
             rintro e w3 ⟨rfl, hbx⟩
             have HO3 := Lib.hid (HO.out.below hbx)
             have HB3 := Lib.hid (HB2.out.trans (hbx.mono HB2.out.size))
             clear hbx))
        go_loopw [6, 7] (fun h v wr => ∃ k : Nat, k ≤ n ∧ v = .int .i64 k ∧ (∃ H : Bool, h = .bool H ∧ H = mostTo m t k) ∧ OwnI .i64 3 wr w.heap.size u4 L ∧ Below w.heap.size w wr) (fun _ v _ => n - (intOf v).toNat)
        case atStart => exact ⟨0, by omega, rfl, ⟨_, rfl, HF0.out⟩, HO3.out, HB3.out⟩
        case round =>
          obtain ⟨k, hk, rfl, ⟨H, rfl, hH⟩, hown4, hb4⟩ := hrel
          have HH := Lib.hid hH
          have HB4 := Lib.hid hb4
          have HO4 := Lib.hid hown4
          clear hH hb4 hown4
          by_cases hkl : k < n
          · have q0 : 0 ≤ (k : Int) := by omega
            have q1 : (k : Int) < n := by omega
            have HI1 := Lib.hid (fun X => rin_any t k (by omega) (by omega) X)
            have HPK := Lib.hid (fun X => rpow_any k (by omega) X)
            have hpk : 2 ^ k ≤ 2 ^ 8 := Nat.pow_le_pow_right (by omega) (by omega)
            have hnx := most_next m t k
            rw [← HH.out] at hnx
            obtain ⟨PK, hPK⟩ : ∃ y : Nat, 2 ^ k = y := ⟨_, rfl⟩
            rw [hPK] at HPK hnx hpk
            have hwx : IntKind.i64.wrap ((t : Int) + (PK : Int)) = (t : Int) + (PK : Int) := by rw [IntKind.wrap_i64]; omega
            have HF2 := Lib.hid (HFR.out ((t : Int) + (PK : Int)))
            obtain ⟨B1, hB1⟩ : ∃ x, t.testBit k = x := ⟨_, rfl⟩
            obtain ⟨B2, hB2⟩ : ∃ x, freeM m ((t : Int) + (PK : Int)) = x := ⟨_, rfl⟩
            simp only [hB1] at HI1 hnx
            simp only [hB2] at HF2 hnx
            have HNX := Lib.hid hnx
            clear hB1 hB2 hnx hPK
            cases H
            all_goals cases B1
            all_goals cases B2
            all_goals
              have HZ := Lib.hid HNX.out
              simp only [Bool.not_true, Bool.not_false, Bool.and_true, Bool.and_false, Bool.true_and, Bool.false_and, Bool.and_self] at HZ
              go_wp2_with (first
                | (go_at_call 23; (with_reducible refine (HI1.out _).mono ?_); rintro e w5 ⟨rfl, rfl⟩)
                | (go_at_call 22; (with_reducible refine (HPK.out _).mono ?_); rintro e w5 ⟨rfl, rfl⟩)
                | (go_at_call 10
                   (with_reducible refine (HF2.out _ HB4.out).mono ?_)
                   rintro e w6 ⟨rfl, hbx⟩
                   have HO6 := Lib.hid (HO4.out.below hbx)
                   have HB6 := Lib.hid (HB4.out.trans (hbx.mono HB4.out.size))
                   clear hbx))
              go_roundw
              case rel => exact ⟨k + 1, by omega, by go_num, ⟨_, rfl, HZ.out.symm⟩, HO6.out, HB6.out⟩
              case measure => simp [intOf]; omega
          · obtain rfl : k = n := by omega
            have HHM := Lib.hid (HH.out.trans (most_all HL.out))
            have hnx := sets_next m t
            rw [← HLL.out, ← HHM.out] at hnx
            have hown := HO4.out
            have hB := HB4.out
            cases H
            · have HZ := Lib.hid (show L = setsTo m (t + 1) by rw [hnx]; simp)
              clear hnx
              go_wp2
              go_roundw
              case rel => exact ⟨t + 1, L, by omega, by go_num, HZ.out, hown, hB⟩
              case measure => simp [intOf]; omega
            · have HZ := Lib.hid (show L ++ [(t : Int)] = setsTo m (t + 1) by rw [hnx]; simp)
              clear hnx
              go_wp2_with (first
                | (at_builtin
                   refine wpList_append_i rfl 22 3 .i64 8 _ _ rfl Try.underlying22 (by kernel_rfl) (by omega) w.heap.size u4 L rfl (hown.more _) _ 1 1 [(t : Int)] rfl (one_its .i64 3 _ (t : Int)) (by omega) (Nat.le_trans hB.size (size_le_alloc _ _)) ?_
                   intro v5 w6 hown5 hg5
                   have hB5 : Below w.heap.size w w6 := (hB.alloc hB.size _).grown hg5 (Nat.le_trans hB.size (size_le_alloc _ _)) (fun k hk => (hown.size k hk).1)
                   clear hg5))
              go_roundw
              case rel => exact ⟨t + 1, L ++ [(t : Int)], by omega, by go_num, HZ.out, hown5, hB5⟩
              case measure => simp [intOf]; omega
      · obtain rfl : t = N2 := by omega
        have htk : L = setsM m := by rw [HLL.out, HSE.out]
        have hown := HO.out
        rw [htk] at hown
        obtain ⟨B, k, d, rfl, hits⟩ := hown.its
        have h0 : ¬ ((t : Int) < t) := by omega
        clear htk HLL HO hlt ht hLl
        go_wp2_with (go_at_call 22; (with_reducible refine (HPW.out _).mono ?_); rintro e wp ⟨rfl, rfl⟩)
        go_ret
        exact ⟨_, _, _, rfl, hits, HB2.out⟩
end Go.Proofs.Ytlejeecnkbapmaa
