/- The walks over package sha's join (two slices of bytes, one behind the other) and ending (what stands behind n bytes). -/
import Derived.Test.YtcfkpepohnjdfaaDoorShaRows
import Derived.Test.YtcfkpepohnjdfaaDoorBasBytes
import Derived.Laws.OwnMore
namespace Go.Proofs.YtcfkpepohnjdfaaDoor
open Go.RowKit

set_option maxHeartbeats 1000000 in
theorem join_any (l l2 : List Int) (A B : Option Addr) (n c m d : Nat) (w : World) (ha : Bts w A n c l) (hb : Bts w B m d l2) (hn : n ≤ 4194304) (hm : m ≤ 4194304) :
    Calls Tryd.prog 54 #[.slice A n c, .slice B m d] w fun e w' => ∃ v, e = .returned v ∧ Own w' w.heap.size v (l ++ l2) ∧ Below w.heap.size w w' := by
  have hla := ha.len
  have HLA := Lib.hid hla
  have hln : l.length ≤ 4194304 := by omega
  clear hla
  go_enter Tryd.func54, Tryd.ntmps54
  go_wp2_with (first
    | (at_make
       refine wpList_make_b rfl _ _ rfl w.heap.size ((n : Int) + (m : Int)) (n + m) rfl rfl (by omega) (by omega) (Nat.le_refl _) ?_
       intro v1 w1 hown1 hg1
       have hB1 : Below w.heap.size w w1 := (Below.refl _ _).grown hg1 (Nat.le_refl _) (fun k hk => by cases hk))
    | (at_builtin
       refine wpList_append_b rfl (.tmp 12) (.tmp 13) rfl w.heap.size v1 [] rfl hown1 A n c l rfl (ha.below hB1) (by simp only [List.length_nil]; omega) hB1.size ?_
       intro v2 w2 hown2 hg2
       have hB2 : Below w.heap.size w w2 := hB1.grown hg2 hB1.size (fun k hk => (hown1.size k hk).1)
       clear hg2 hg1)
    | (at_builtin
       refine wpList_append_b rfl (.tmp 15) (.tmp 16) rfl w.heap.size v2 ([] ++ l) rfl hown2 B m d l2 rfl (hb.below hB2) (by simp only [List.nil_append]; omega) hB2.size ?_
       intro v3 w3 hown3 hg3
       have hB3 : Below w.heap.size w w3 := hB2.grown hg3 hB2.size (fun k hk => (hown2.size k hk).1)))
  go_ret
  exact ⟨v3, rfl, hown3, hB3⟩

theorem ok_bits8 (n i : Nat) : 0 ≤ bits8 n i ∧ bits8 n i < 256 := by
  unfold bits8; omega
theorem ok_ending (n : Nat) : ∀ j, 0 ≤ (endingL n).getD j 0 ∧ (endingL n).getD j 0 < 256 := by
  unfold endingL
  exact ok_append (ok_append (ok_one1 128 (by omega) (by omega)) (ok_rep _)) (ok_map _ (ok_bits8 n) 8)
set_option maxHeartbeats 1000000 in
theorem ending_any (n : Nat) (w : World) (hn : n ≤ 1048576) :
    Calls Tryd.prog 55 #[.int .i64 n] w fun e w' => ∃ v, e = .returned v ∧ Own w' w.heap.size v (endingL n) ∧ Below w.heap.size w w' := by
  have hno : noughts n ≤ 63 := by unfold noughts; omega
  go_enter Tryd.func55, Tryd.ntmps55
  go_wp2
  go_loopw [3] (fun v wr => ∃ k : Nat, k ≤ noughts n ∧ Own wr w.heap.size v ([128] ++ List.replicate k 0) ∧ Below w.heap.size w wr) (fun v _ => 65 - lenV v)
  case atStart => exact ⟨0, by omega, one_own w 128, (Below.refl _ _).alloc (Nat.le_refl _) _⟩
  case round =>
    obtain ⟨k, hk, hown, hB⟩ := hrel
    obtain ⟨A, cap, rfl, hbt⟩ := hown.bts (ok_append (ok_one1 128 (by omega) (by omega)) (ok_rep k))
    have hlen : ([128] ++ List.replicate k (0 : Int)).length = k + 1 := by simp
    obtain ⟨L, hL⟩ : ∃ L, L = [128] ++ List.replicate k (0 : Int) := ⟨_, rfl⟩
    rw [← hL] at hown hbt hlen
    rw [← hL, hlen]
    rw [hlen] at hbt hown
    have HL := Lib.hid hL
    have HLN := Lib.hid hlen
    clear hL hlen
    by_cases hlt : k < noughts n
    · have ht : (((n : Int) + ((k : Int) + 1) + 8) % 64 != 0) = true := by
        rw [bne_iff_ne]; unfold noughts at hlt; omega
      have hsm : L.length + 1 ≤ 140737488355328 := by rw [HLN.out]; omega
      go_wp2_with (first
        | (at_builtin
           refine wpList_append_b rfl (.tmp 14) (.tmp 15) rfl w.heap.size (.slice A (k + 1) cap) L rfl (hown.more _) (some ⟨wr.heap.size, 0, none⟩) 1 1 [0] rfl (one_bts wr 0 (by omega) (by omega)) hsm (Nat.le_trans hB.size (size_le_alloc _ _)) ?_
           intro v' w' hown' hg'))
      go_roundw
      case rel =>
        refine ⟨k + 1, by omega, ?_, (hB.alloc hB.size _).grown hg' (Nat.le_trans hB.size (size_le_alloc _ _)) (fun g hg => (hown.size g hg).1)⟩
        rw [HL.out, List.append_assoc, ← List.replicate_succ'] at hown'
        exact hown'
      case measure =>
        obtain ⟨A', c', hv, _⟩ := hown'.bts (ok_append (HL.out ▸ ok_append (ok_one1 128 (by omega) (by omega)) (ok_rep k)) (ok_one1 0 (by omega) (by omega)))
        rw [hv]
        simp only [lenV, List.length_append, HLN.out, List.length_cons, List.length_nil]
        omega
    · have ht : (((n : Int) + ((k : Int) + 1) + 8) % 64 != 0) = false := by
        rw [bne_eq_false_iff_eq]; unfold noughts at hlt hk; omega
      have hk' : k = noughts n := by omega
      have HK := Lib.hid hk'
      clear hk' hlt
      go_wp2
      go_loopw [3, 20] (fun v i wr => ∃ k : Nat, k ≤ 8 ∧ i = .int .i64 k ∧ Own wr w.heap.size v (L ++ (List.range k).map (bits8 n)) ∧ Below w.heap.size w wr) (fun _ i _ => 8 - (intOf i).toNat)
      case atStart => exact ⟨0, by omega, rfl, by simpa using hown, hB⟩
      case round =>
        clear hown hB hbt
        obtain ⟨i, hi, rfl, hown, hB⟩ := hrel
        by_cases hlt : i < 8
        · have hlenM : (L ++ (List.range i).map (bits8 n)).length = k + 1 + i := by simp [HLN.out]
          have hnext : L ++ (List.range (i + 1)).map (bits8 n) = (L ++ (List.range i).map (bits8 n)) ++ [bits8 n i] := by
            rw [List.range_succ, List.map_append, List.append_assoc]; rfl
          have hval : 8 * (n : Int) / 2 ^ (56 - 8 * i) % 256 = bits8 n i := by
            rw [bits8]; simp
          have hb9 : 0 ≤ 8 * (n : Int) / 2 ^ (56 - 8 * i) % 256 ∧ 8 * (n : Int) / 2 ^ (56 - 8 * i) % 256 < 256 := by omega
          obtain ⟨M, hM⟩ : ∃ M, M = L ++ (List.range i).map (bits8 n) := ⟨_, rfl⟩
          rw [← hM] at hown hlenM hnext
          rw [← hval] at hnext
          have hsm : M.length + 1 ≤ 140737488355328 := by omega
          have HN := Lib.hid hnext
          clear hM hlenM hnext hval
          go_wp2_with (first
            | (at_builtin
               refine wpList_append_b rfl (.tmp 23) (.tmp 30) rfl w.heap.size _ M rfl (hown.more _) (some ⟨wr.heap.size, 0, none⟩) 1 1 [8 * (n : Int) / 2 ^ (56 - 8 * i) % 256] rfl (one_bts wr _ hb9.1 hb9.2) hsm (Nat.le_trans hB.size (size_le_alloc _ _)) ?_
               intro v' w' hown' hg'))
          go_roundw
          case rel =>
            refine ⟨i + 1, by omega, by go_num, by rw [HN.out]; exact hown', (hB.alloc hB.size _).grown hg' (Nat.le_trans hB.size (size_le_alloc _ _)) (fun g hg => (hown.size g hg).1)⟩
          case measure => simp [intOf]; omega
        · have h8 : i = 8 := by omega
          rw [h8] at hown
          have HOWN := Lib.hid hown
          have hge : 8 ≤ i := by omega
          clear hown hi h8 hlt
          go_wp2
          go_ret
          refine ⟨_, rfl, ?_, hB⟩
          have := HOWN.out
          rw [HL.out, HK.out] at this
          exact this
end Go.Proofs.YtcfkpepohnjdfaaDoor
