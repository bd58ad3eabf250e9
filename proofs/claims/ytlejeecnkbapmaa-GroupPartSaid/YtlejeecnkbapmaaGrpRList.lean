/- The walks over the document's List and Of of groups, and Sets. -/
import Derived.Test.YtlejeecnkbapmaaGrpRAgn
namespace Go.Proofs.Ytlejeecnkbapmaa
set_option maxRecDepth 100000
set_option linter.unusedVariables false
set_option linter.unusedSimpArgs false
open Go.RowKit

def listTo (t k : Nat) : List Int := ((List.range k).filter fun j => t.testBit j).map Int.ofNat
theorem list_next (t k : Nat) : listTo t (k + 1) = listTo t k ++ (if t.testBit k = true then [(k : Int)] else []) := by
  rw [listTo, List.range_succ, List.filter_append, List.map_append]
  congr 1
  by_cases h : t.testBit k = true
  · rw [if_pos h]; simp [h]
  · rw [if_neg h]; simp [h]
theorem list_len (t k : Nat) : (listTo t k).length ≤ k := by
  rw [listTo, List.length_map]
  exact Nat.le_trans (List.length_filter_le _ _) (by rw [List.length_range]; exact Nat.le_refl _)
theorem list_all {t : Nat} (h : t < 256) : listTo t 8 = listM (t : Int) := by
  rw [listM, if_pos (by omega), listTo]
  congr 1
  refine List.filter_congr fun j _ => ?_
  rw [bit_nat]
/-- gives a list of numbers -/
def GivesL (L : List Int) (w : World) (e : Ending) (w' : World) : Prop := ∃ A n c, e = .returned (.slice A n c) ∧ Its .i64 w' A n c L ∧ Below w.heap.size w w'
set_option maxHeartbeats 2000000 in
theorem rglist_any (s : Int) (w : World) : Calls Try.prog 15 #[.int .i64 s] w (GivesL (listM s) w) := by
  by_cases hs : 0 ≤ s ∧ s < 256
  · obtain ⟨t, rfl⟩ := Int.eq_ofNat_of_zero_le hs.1
    obtain ⟨s0, s1⟩ := hs
    go_enter Try.func15, Try.ntmps15
    go_wp2
    go_loopw [3, 4] (fun v i wr => ∃ (k : Nat) (L : List Int), k ≤ 8 ∧ i = .int .i64 k ∧ L = listTo t k ∧ OwnI .i64 3 wr w.heap.size v L ∧ Below w.heap.size w wr) (fun _ i _ => 8 - (intOf i).toNat)
    case atStart => exact ⟨0, [], by omega, rfl, rfl, OwnI.nil _ _ _ _, Below.refl _ _⟩
    case round =>
      obtain ⟨k, L, hk, rfl, hL, hown, hB⟩ := hrel
      have HL := Lib.hid hL
      have hLl : L.length ≤ 8 := by rw [hL]; exact Nat.le_trans (list_len t k) hk
      clear hL
      by_cases hlt : k < 8
      · have hlt2 : (k : Int) < 8 := by omega
        have HI1 := Lib.hid (fun X => rin_any t k (by omega) (by omega) X)
        have hnx := list_next t k
        rw [← HL.out] at hnx
        cases hm : t.testBit k
        · rw [hm] at HI1
          have HN := Lib.hid (show L = listTo t (k + 1) by rw [hnx, hm]; simp)
          clear hnx hm
          go_wp2_with (go_at_call 23; (with_reducible refine (HI1.out _).mono ?_); rintro e w1 ⟨rfl, rfl⟩)
          go_roundw
          case rel => exact ⟨k + 1, L, by omega, by go_num, HN.out, hown, hB⟩
          case measure => simp [intOf]; omega
        · rw [hm] at HI1
          have HN := Lib.hid (show L ++ [(k : Int)] = listTo t (k + 1) by rw [hnx, hm]; simp)
          clear hnx hm
          go_wp2_with (first
            | (go_at_call 23; (with_reducible refine (HI1.out _).mono ?_); rintro e w1 ⟨rfl, rfl⟩)
            | (at_builtin
               refine wpList_append_i rfl 22 3 .i64 8 _ _ rfl Try.underlying22 (by kernel_rfl) (by omega) w.heap.size u3 L rfl (hown.more _) _ 1 1 [(k : Int)] rfl (one_its .i64 3 _ (k : Int)) (by omega) (Nat.le_trans hB.size (size_le_alloc _ _)) ?_
               intro v5 w6 hown5 hg5
               have hB5 : Below w.heap.size w w6 := (hB.alloc hB.size _).grown hg5 (Nat.le_trans hB.size (size_le_alloc _ _)) (fun k hk => (hown.size k hk).1)
               clear hg5))
          go_roundw
          case rel => exact ⟨k + 1, L ++ [(k : Int)], by omega, by go_num, HN.out, hown5, hB5⟩
          case measure => simp [intOf]; omega
      · obtain rfl : k = 8 := by omega
        have htk : L = listM (t : Int) := by rw [HL.out, list_all (by omega)]
        rw [htk] at hown
        obtain ⟨A, m, c, rfl, hits⟩ := hown.its
        clear htk HL hown hlt hk hLl
        go_wp2
        go_ret
        exact ⟨_, _, _, rfl, hits, hB⟩
  · have HR := Lib.hid (show listM s = [] by rw [listM, if_neg hs])
    rcases (show s < 0 ∨ (0 ≤ s ∧ 256 ≤ s) by omega) with h | ⟨h, h'⟩
    all_goals
      clear hs
      go_enter Try.func15, Try.ntmps15
      go_wp2
      go_loopw [3, 4] (fun v i wr => v = .slice none 0 0 ∧ i = .int .i64 0 ∧ wr = w) (fun _ _ _ => 0)
      case atStart => exact ⟨rfl, rfl, rfl⟩
      case round =>
        obtain ⟨rfl, rfl, rfl⟩ := hrel
        go_wp2
        go_ret
        exact ⟨none, 0, 0, rfl, by rw [HR.out]; exact Its.nil _ _, Below.refl _ _⟩
theorem of_next {l : List Int} {j : Nat} {x o : Int} (hj : j < l.length) (hx : l.getD j 0 = x) : ofF (l.drop j) o = if x < 0 ∨ 7 < x then -1 else if bitI o x.toNat = true then -1 else ofF (l.drop (j + 1)) (o + 2 ^ x.toNat) := by
  rw [List.drop_eq_getElem_cons hj, ofF]
  have e : l[j] = x := by rw [← hx]; simp [List.getD_eq_getElem?_getD, hj]
  rw [e]
set_option maxHeartbeats 2000000 in
theorem rgof_any (A : Option Addr) (n c : Nat) (l : List Int) (w : World) (hb : Its .i64 w A n c l) : Calls Try.prog 21 #[.slice A n c] w fun e w' => e = .returned (.int .i64 (ofM l)) ∧ w = w' := by
  have hsm := hb.small
  have HL := Lib.hid hb.len
  go_enter Try.func21, Try.ntmps21
  go_wp2
  go_loop [3, 4] (fun o i => ∃ (j t : Nat), j ≤ n ∧ i = .int .i64 j ∧ o = .int .i64 (t : Int) ∧ t < 256 ∧ ofF (l.drop j) (t : Int) = ofM l) (fun _ i => n - (intOf i).toNat)
  case atStart => exact ⟨0, 0, by omega, rfl, rfl, by omega, by rw [List.drop_zero]; rfl⟩
  case round =>
    obtain ⟨j, t, hj, rfl, rfl, ht, hof⟩ := hrel
    by_cases hlt : j < n
    · obtain ⟨b, off, rfl, hc⟩ := hb.at_ (by omega)
      have hcj := hc j hlt
      obtain ⟨x, hx⟩ : ∃ x, l.getD j 0 = x := ⟨_, rfl⟩
      rw [hx] at hcj
      rw [of_next (by rw [HL.out]; exact hlt) hx] at hof
      have q0 : 0 ≤ (j : Int) := by omega
      have q1 : (j : Int) < n := by omega
      clear hc hx
      by_cases h1 : x < 0
      · rw [if_pos (.inl h1)] at hof
        have HR := Lib.hid hof
        clear hof
        go_wp2
        go_ret
        exact ⟨by rw [← HR.out]; rfl, rfl⟩
      · by_cases h2 : 7 < x
        · rw [if_pos (.inr h2)] at hof
          have HR := Lib.hid hof
          clear hof
          go_wp2
          go_ret
          exact ⟨by rw [← HR.out]; rfl, rfl⟩
        · rw [if_neg (by omega)] at hof
          obtain ⟨y, rfl⟩ := Int.eq_ofNat_of_zero_le (show 0 ≤ x by omega)
          rw [Int.toNat_natCast, bit_nat] at hof
          have HI1 := Lib.hid (fun X => rin_any t y (by omega) (by omega) X)
          cases hm : t.testBit y
          · rw [hm] at HI1 hof
            simp only [Bool.false_eq_true, if_false] at hof
            obtain ⟨m1, -, -⟩ := more8 ⟨t, ht⟩ ⟨y, by omega⟩ (by rw [bit_nat]; exact hm)
            simp only at m1
            have HPK := Lib.hid (fun X => rpow_any y (by omega) X)
            have e : (t : Int) + 2 ^ y = ((t + 2 ^ y : Nat) : Int) := by simp
            rw [e] at hof
            have HM := Lib.hid m1
            obtain ⟨P, hP⟩ : ∃ P : Nat, 2 ^ y = P := ⟨_, rfl⟩
            rw [hP] at HPK hof m1 HM
            have hw : IntKind.i64.wrap ((t : Int) + (P : Int)) = (t : Int) + (P : Int) := by rw [IntKind.wrap_i64]; omega
            have HR := Lib.hid hof
            clear hof hm e hP m1
            go_wp2_with (first
              | (go_at_call 23; (with_reducible refine (HI1.out _).mono ?_); rintro e w1 ⟨rfl, rfl⟩)
              | (go_at_call 22; (with_reducible refine (HPK.out _).mono ?_); rintro e wp ⟨rfl, rfl⟩))
            go_round
            case rel => exact ⟨j + 1, t + P, by omega, by go_num, by go_num, HM.out, HR.out⟩
            case measure => simp [intOf]; omega
          · rw [hm] at HI1 hof
            simp only [if_true] at hof
            have HR := Lib.hid hof
            clear hof hm
            go_wp2_with (go_at_call 23; (with_reducible refine (HI1.out _).mono ?_); rintro e w1 ⟨rfl, rfl⟩)
            go_ret
            exact ⟨by rw [← HR.out]; rfl, rfl⟩
    · obtain rfl : j = n := by omega
      rw [List.drop_eq_nil_of_le (by rw [HL.out]; exact Nat.le_refl _)] at hof
      have HR := Lib.hid hof
      clear hof
      go_wp2
      go_ret
      exact ⟨by rw [← HR.out]; rfl, rfl⟩
end Go.Proofs.Ytlejeecnkbapmaa
