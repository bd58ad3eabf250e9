/- The walk over the law FrameCut: no beginning of a frame but all of it is read; nor is anything longer. -/
import Derived.Test.YtadcbikdbekmgaaFrmLongW
namespace Go.Proofs.Ytadcbikdbekmgaa
set_option linter.unusedVariables false
set_option linter.unusedSimpArgs false
open Go.RowKit

/-- Read's call, its results under names -/
theorem read_named (l : List Int) (d : Int) (hd : errL l = d) (hl : ∀ j, 0 ≤ l.getD j 0 ∧ l.getD j 0 < 256) : ∃ F : Array Value, F.size = 40 ∧ F.all (·.oneCell') = true ∧
    ∀ (A : Option Addr) (n c : Nat) (w : World), Bts w A n c l → Calls Try.prog 12 #[.slice A n c] w fun e w' => e = .returned (.tuple #[.agg F, .int .i64 d]) ∧ Below w.heap.size w w' :=
  ⟨frA (readF l), frA_size (read_okay l hl).len, frA_one _, fun A n c w hb => (read_any A n c l w hb).mono fun e w' ⟨he, hB⟩ => ⟨by rw [he, hd]; rfl, hB⟩⟩
theorem ok_take {l : List Int} (h : ∀ j, 0 ≤ l.getD j 0 ∧ l.getD j 0 < 256) (k : Nat) : ∀ j, 0 ≤ (l.take k).getD j 0 ∧ (l.take k).getD j 0 < 256 := by
  intro j
  have := h j
  simp only [List.getD_eq_getElem?_getD, List.getElem?_take] at this ⊢
  split
  · exact this
  · simp
set_option maxRecDepth 100000 in
set_option maxHeartbeats 2000000 in
theorem fcut_no (f : Fr) (k : Int) (A : Option Addr) (n c : Nat) (w : World) (hf : f.ok) (hp : plainB f = false) :
    Calls Try.prog 7 #[frV f, .int .i64 k, .slice A n c] w fun e w' => e = .returned (.bool true) ∧ Below w.heap.size w w' := by
  have hpc := fun w => put_plain_b f w hf false hp
  have hCs := frA_size hf.len
  unfold frV at hpc ⊢
  obtain ⟨C, hC⟩ : ∃ C, frA f = C := ⟨_, rfl⟩
  rw [hC] at hpc hCs ⊢
  have HP := Lib.hid hpc
  have HCS := Lib.hid hCs
  clear hpc hCs hC
  go_enter Try.func7, Try.ntmps7
  go_wp2_with (first
    | (go_at_call 9; (with_reducible refine (fawake_any _).mono ?_); rintro e w1 ⟨rfl, hb1⟩
       have hB1 := (after_one hb1).1
       have hX1 := (after_one hb1).2.2)
    | ((with_reducible refine wpList_load_blk 26 _ rfl w.heap.size ?hx2 26 C (0, 0) _ hX1 Try.underlying26 ?hd2 (info_frame HCS.out) ?_ ?hw2); (case hx2 => rfl); (case hd2 => rfl); (case hw2 => rfl))
    | (go_at_call 10; (with_reducible refine (HP.out _).mono ?_); rintro e w2 ⟨A2, m2, c2, rfl, hv2, hb2⟩
       have hB2 := hB1.trans (hb2.mono hB1.size)))
  go_ret
  exact ⟨rfl, hB2⟩
set_option maxRecDepth 100000 in
set_option maxHeartbeats 2000000 in
theorem fcut_big (f : Fr) (k : Int) (A : Option Addr) (n c : Nat) (w : World) (hf : f.ok) (hp : plainB f = true) (hn : 100 < n) :
    Calls Try.prog 7 #[frV f, .int .i64 k, .slice A n c] w fun e w' => e = .returned (.bool true) ∧ Below w.heap.size w w' := by
  have hpc := fun w => put_plain_b f w hf true hp
  have hn' : (100 : Int) < n := by omega
  have hCs := frA_size hf.len
  unfold frV at hpc ⊢
  obtain ⟨C, hC⟩ : ∃ C, frA f = C := ⟨_, rfl⟩
  rw [hC] at hpc hCs ⊢
  have HP := Lib.hid hpc
  have HCS := Lib.hid hCs
  clear hpc hCs hC
  go_enter Try.func7, Try.ntmps7
  go_wp2_with (first
    | (go_at_call 9; (with_reducible refine (fawake_any _).mono ?_); rintro e w1 ⟨rfl, hb1⟩
       have hB1 := (after_one hb1).1
       have hX1 := (after_one hb1).2.2)
    | ((with_reducible refine wpList_load_blk 26 _ rfl w.heap.size ?hx2 26 C (0, 0) _ hX1 Try.underlying26 ?hd2 (info_frame HCS.out) ?_ ?hw2); (case hx2 => rfl); (case hd2 => rfl); (case hw2 => rfl))
    | (go_at_call 10; (with_reducible refine (HP.out _).mono ?_); rintro e w2 ⟨A2, m2, c2, rfl, hv2, hb2⟩
       have hB2 := hB1.trans (hb2.mono hB1.size)))
  go_ret
  exact ⟨rfl, hB2⟩

set_option maxRecDepth 100000 in
set_option maxHeartbeats 4000000 in
theorem fcut_yes (f : Fr) (k : Int) (A : Option Addr) (n c : Nat) (l : List Int) (w : World) (hf : f.ok) (hp : plainB f = true) (hn : n ≤ 100) (hl : Bts w A n c l) :
    Calls Try.prog 7 #[frV f, .int .i64 k, .slice A n c] w fun e w' => e = .returned (.bool true) ∧ Below w.heap.size w w' := by
  have hpc := fun w => put_plain_b f w hf true hp
  rw [if_pos rfl] at hpc
  have hsm := putF_small f hf.len
  have hok1 := putF_ok hf
  have hlen := hl.len
  have hdd : (64 < ((putF f).length : Int) + n ∧ (0 : Int) < n ∧ errL (putF f ++ l) = 2) ∨ ((putF f).length + (n : Int) ≤ 64 ∧ n = 0 ∧ errL (putF f ++ l) = 0) ∨ (((putF f).length : Int) + n ≤ 64 ∧ (0 : Int) < n ∧ errL (putF f ++ l) = 3) := by
    by_cases h0 : n = 0
    · have : l = [] := List.eq_nil_of_length_eq_zero (by omega)
      subst this
      rw [List.append_nil]
      exact .inr (.inl ⟨by omega, h0, (put_read hf hp).1⟩)
    · have h := put_longer hf hp l (by omega)
      rw [hlen] at h
      by_cases h1 : 64 < (putF f).length + n
      · rw [if_pos h1] at h
        exact .inl ⟨by omega, by omega, h⟩
      · rw [if_neg h1] at h
        exact .inr (.inr ⟨by omega, by omega, h⟩)
  have hkk : (k < 0 ∨ ((putF f).length : Int) ≤ k) ∨ ∃ K : Nat, k = K ∧ K < (putF f).length ∧ errL ((putF f).take K) = 4 := by
    by_cases h : k < 0 ∨ ((putF f).length : Int) ≤ k
    · exact .inl h
    · obtain ⟨K, rfl⟩ := Int.eq_ofNat_of_zero_le (show 0 ≤ k by omega)
      exact .inr ⟨K, rfl, by omega, put_begin hf K (by omega)⟩
  have hCs := frA_size hf.len
  unfold frV at hpc ⊢
  obtain ⟨C, hC⟩ : ∃ C, frA f = C := ⟨_, rfl⟩
  rw [hC] at hpc hCs ⊢
  obtain ⟨X, hX⟩ : ∃ X, putF f = X := ⟨_, rfl⟩
  rw [hX] at hpc hsm hok1 hdd hkk
  obtain ⟨p, hpl⟩ : ∃ p, X.length = p := ⟨_, rfl⟩
  rw [hpl] at hsm hdd hkk
  have hp54 : (p : Int) ≤ 54 := by omega
  have hn100 : (n : Int) ≤ 100 := by omega
  have HP := Lib.hid hpc
  have HCS := Lib.hid hCs
  have HOK := Lib.hid hok1
  have HPL := Lib.hid hpl
  have HLN := Lib.hid hlen
  clear hpc hCs hC hX hok1 hpl hsm hlen
  obtain ⟨d, hd⟩ : ∃ d, errL (X ++ l) = d := ⟨_, rfl⟩
  rw [hd] at hdd
  obtain ⟨F, hFs, hF1, hF⟩ := read_named (X ++ l) d hd (ok_append HOK.out hl.ok)
  have HFS := Lib.hid hFs
  have HF1 := Lib.hid hF1
  have HF := Lib.hid hF
  clear hFs hF1 hF hd
  rcases hkk with hko | ⟨K, rfl, hK, hKe⟩
  · rcases hdd with ⟨h1, h2, rfl⟩ | ⟨h1, rfl, rfl⟩ | ⟨h1, h2, rfl⟩
    all_goals
      go_enter Try.func7, Try.ntmps7
      go_wp2_with (first
        | (go_at_call 9; (with_reducible refine (fawake_any _).mono ?_); rintro e w1 ⟨rfl, hb1⟩
           have hB1 := (after_one hb1).1
           have hX1 := (after_one hb1).2.2)
        | ((with_reducible refine wpList_load_blk 26 _ rfl w.heap.size ?hx2 26 C (0, 0) _ hX1 Try.underlying26 ?hd2 (info_frame HCS.out) ?_ ?hw2); (case hx2 => rfl); (case hd2 => rfl); (case hw2 => rfl))
        | (go_at_call 10; (with_reducible refine (HP.out _).mono ?_); rintro e w2 ⟨A2, m2, c2, rfl, hv2, hb2⟩
           obtain rfl : m2 = p := by rw [← hv2.len]; exact HPL.out
           have hB2 := hB1.trans (hb2.mono hB1.size))
        | (at_builtin
           refine wpList_append_b rfl _ _ rfl w2.heap.size (.slice none 0 0) [] rfl (Own.nil _ _) A2 m2 c2 X rfl hv2 (by simp only [List.length_nil]; omega) (Nat.le_refl _) ?_
           intro v3 w3 hown3 hg3
           rw [List.nil_append] at hown3
           have hb3 : Below w2.heap.size w2 w3 := (Below.refl _ _).grown hg3 (Nat.le_refl _) (fun k hk => by cases hk))
        | (at_builtin
           refine wpList_append_b rfl _ _ rfl w2.heap.size v3 X rfl hown3 A _ c l rfl (hl.below (hB2.trans (hb3.mono hB2.size))) (by rw [HPL.out]; omega) hb3.size ?_
           intro v4 w4 hown4 hg4
           have hb4 : Below w2.heap.size w2 w4 := hb3.grown hg4 hb3.size (fun k hk => (hown3.size k hk).1)
           obtain ⟨A4, m4, c4, rfl, hbt4⟩ := hown4.slice (ok_append HOK.out hl.ok)
           have hB4 := hB2.trans (hb4.mono hB2.size)
           have hv4 := hv2.below hb4)
        | (go_at_call 12; (with_reducible refine (HF.out A4 m4 c4 w4 hbt4).mono ?_); rintro e w5 ⟨rfl, hb5⟩
           have hB5 := hB4.trans (hb5.mono hB4.size)
           have hv5 := hv4.below hb5)
        | ((refine wpList_store_blk rfl 26 _ _ rfl w5.heap.size F ?hx3 ?hy3 26 _ (heap_alloc_new w5 _) (info_frame HFS.out) ?hs3 HF1.out ?_); (case hx3 => rfl); (case hy3 => rfl); (case hs3 => rw [HFS.out]; rfl)
           intro w6 hg6 _ _
           have hB6 : Below w.heap.size w w6 := (hB5.alloc hB5.size _).grown hg6 (Nat.le_trans hB5.size (size_le_alloc _ _)) (fun k e => by cases e; exact hB5.size)
           have hb56 : Below w5.heap.size w5 w6 := (one_alloc w5 _).grown hg6 (size_le_alloc _ _) (fun k e => by cases e; exact Nat.le_refl _)
           have hv6 := hv5.below hb56
           clear hg6))
    all_goals
      go_ret
      first | exact ⟨rfl, hB6⟩ | (exfalso; omega) | (exfalso; rename_i h; simp only [Bool.not_eq_true', decide_eq_false_iff_not, beq_iff_eq] at h; omega)
  · obtain ⟨G, hGs, hG1, hG⟩ := read_named (X.take K) 4 hKe (ok_take HOK.out K)
    have HGS := Lib.hid hGs
    have HG1 := Lib.hid hG1
    have HG := Lib.hid hG
    have hK' : (K : Int) < p := by omega
    have hK0 : (0 : Int) ≤ K := by omega
    clear hGs hG1 hG hKe
    rcases hdd with ⟨h1, h2, rfl⟩ | ⟨h1, rfl, rfl⟩ | ⟨h1, h2, rfl⟩
    all_goals
      go_enter Try.func7, Try.ntmps7
      go_wp2_with (first
        | (go_at_call 9; (with_reducible refine (fawake_any _).mono ?_); rintro e w1 ⟨rfl, hb1⟩
           have hB1 := (after_one hb1).1
           have hX1 := (after_one hb1).2.2)
        | ((with_reducible refine wpList_load_blk 26 _ rfl w.heap.size ?hx2 26 C (0, 0) _ hX1 Try.underlying26 ?hd2 (info_frame HCS.out) ?_ ?hw2); (case hx2 => rfl); (case hd2 => rfl); (case hw2 => rfl))
        | (go_at_call 10; (with_reducible refine (HP.out _).mono ?_); rintro e w2 ⟨A2, m2, c2, rfl, hv2, hb2⟩
           obtain rfl : m2 = p := by rw [← hv2.len]; exact HPL.out
           have hB2 := hB1.trans (hb2.mono hB1.size))
        | (at_builtin
           refine wpList_append_b rfl _ _ rfl w2.heap.size (.slice none 0 0) [] rfl (Own.nil _ _) A2 m2 c2 X rfl hv2 (by simp only [List.length_nil]; omega) (Nat.le_refl _) ?_
           intro v3 w3 hown3 hg3
           rw [List.nil_append] at hown3
           have hb3 : Below w2.heap.size w2 w3 := (Below.refl _ _).grown hg3 (Nat.le_refl _) (fun k hk => by cases hk))
        | (at_builtin
           refine wpList_append_b rfl _ _ rfl w2.heap.size v3 X rfl hown3 A _ c l rfl (hl.below (hB2.trans (hb3.mono hB2.size))) (by rw [HPL.out]; omega) hb3.size ?_
           intro v4 w4 hown4 hg4
           have hb4 : Below w2.heap.size w2 w4 := hb3.grown hg4 hb3.size (fun k hk => (hown3.size k hk).1)
           obtain ⟨A4, m4, c4, rfl, hbt4⟩ := hown4.slice (ok_append HOK.out hl.ok)
           have hB4 := hB2.trans (hb4.mono hB2.size)
           have hv4 := hv2.below hb4)
        | (go_at_call 12; (with_reducible refine (HF.out A4 m4 c4 w4 hbt4).mono ?_); rintro e w5 ⟨rfl, hb5⟩
           have hB5 := hB4.trans (hb5.mono hB4.size)
           have hv5 := hv4.below hb5)
        | ((refine wpList_store_blk rfl 26 _ _ rfl w5.heap.size F ?hx3 ?hy3 26 _ (heap_alloc_new w5 _) (info_frame HFS.out) ?hs3 HF1.out ?_); (case hx3 => rfl); (case hy3 => rfl); (case hs3 => rw [HFS.out]; rfl)
           intro w6 hg6 _ _
           have hB6 : Below w.heap.size w w6 := (hB5.alloc hB5.size _).grown hg6 (Nat.le_trans hB5.size (size_le_alloc _ _)) (fun k e => by cases e; exact hB5.size)
           have hb56 : Below w5.heap.size w5 w6 := (one_alloc w5 _).grown hg6 (size_le_alloc _ _) (fun k e => by cases e; exact Nat.le_refl _)
           have hv6 := hv5.below hb56
           have hcut := (run_to hv6 (K : Int) rfl (Nat.le_of_lt hK)).1
           have hbt6 := (run_to hv6 (K : Int) rfl (Nat.le_of_lt hK)).2
           clear hg6)
        | (go_at_call 12; (with_reducible refine (HG.out A2 K c2 w6 hbt6).mono ?_); rintro e w7 ⟨rfl, hb7⟩
           have hB7 := hB6.trans (hb7.mono hB6.size))
        | ((refine wpList_store_blk rfl 26 _ _ rfl w7.heap.size G ?hx4 ?hy4 26 _ (heap_alloc_new w7 _) (info_frame HGS.out) ?hs4 HG1.out ?_); (case hx4 => rfl); (case hy4 => rfl); (case hs4 => rw [HGS.out]; rfl)
           intro w8 hg8 _ _
           have hB8 : Below w.heap.size w w8 := (hB7.alloc hB7.size _).grown hg8 (Nat.le_trans hB7.size (size_le_alloc _ _)) (fun k e => by cases e; exact hB7.size)
           clear hg8))
    all_goals
      go_ret
      first | exact ⟨rfl, hB8⟩ | exact ⟨rfl, hB6⟩ | (exfalso; omega) | (exfalso; rename_i h; simp only [Bool.not_eq_true', decide_eq_false_iff_not, beq_iff_eq] at h; omega)
theorem fcut_all (f : Fr) (k : Int) (A : Option Addr) (n c : Nat) (l : List Int) (w : World) (hf : f.ok) (hl : Bts w A n c l) :
    Calls Try.prog 7 #[frV f, .int .i64 k, .slice A n c] w fun e w' => e = .returned (.bool true) ∧ Below w.heap.size w w' := by
  cases hp : plainB f with
  | false => exact fcut_no f k A n c w hf hp
  | true =>
    by_cases hn : 100 < n
    · exact fcut_big f k A n c w hf hp hn
    · exact fcut_yes f k A n c l w hf hp (by omega) hl
end Go.Proofs.Ytadcbikdbekmgaa
