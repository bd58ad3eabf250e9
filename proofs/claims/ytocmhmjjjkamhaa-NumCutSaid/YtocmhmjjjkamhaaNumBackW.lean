/- The walk over the law NumBack: what is put is got, whatever stands around it. -/
import Derived.Test.YtocmhmjjjkamhaaNumOrderW
namespace Go.Proofs.Ytocmhmjjjkamhaa
set_option linter.unusedVariables false
set_option linter.unusedSimpArgs false
open Go.RowKit

theorem mayGet_nat {n : Nat} {i k : Int} (h : mayGet n i k = true) : ∃ a K : Nat, i = a ∧ k = K ∧ 1 ≤ K ∧ K ≤ 8 ∧ a + K ≤ n := by
  unfold mayGet at h
  rw [decide_eq_true_eq] at h
  exact ⟨i.toNat, k.toNat, by omega, by omega, by omega, by omega, by omega⟩
theorem get_some (A : Option Addr) (n c : Nat) (l : List Int) (i k : Int) (w : World) (hb : Bts w A n c l) (ha0 : -9223372036854775808 ≤ i) (ha1 : i ≤ 9223372036854775807) (hk0 : -9223372036854775808 ≤ k) (hk1 : k ≤ 9223372036854775807) :
    Calls Try.prog 12 #[.slice A n c, .int .i64 i, .int .i64 k] w fun e w' => ∃ x y, e = .returned (.tuple #[.int .u64 x, .int .i64 y]) ∧ w = w' := by
  cases h : mayGet n i k with
  | false => exact (get_no A n c l i k w hb ha0 ha1 hk0 hk1 h).mono fun e w' ⟨he, hw⟩ => ⟨_, _, he, hw⟩
  | true =>
    obtain ⟨a, K, rfl, rfl, h1, h2, h3⟩ := mayGet_nat h
    exact (get_yes A n c l a K w hb h1 h2 h3).mono fun e w' ⟨he, hw⟩ => ⟨_, _, he, hw⟩
/-- the piece that was got is put as the same bytes -/
theorem put_piece (l : List Int) (a K : Nat) (hl : ∀ j, 0 ≤ l.getD j 0 ∧ l.getD j 0 < 256) (h : a + K ≤ l.length) : putL (numL ((l.drop a).take K)) K = (l.drop a).take K := by
  have hlen : ((l.drop a).take K).length = K := by rw [List.length_take, List.length_drop]; omega
  have := put_num ((l.drop a).take K) (fun x hx => mem_ok hl x (List.mem_of_mem_drop (List.mem_of_mem_take hx)))
  rw [hlen] at this
  exact this
theorem num_piece (l : List Int) (a K : Nat) (hl : ∀ j, 0 ≤ l.getD j 0 ∧ l.getD j 0 < 256) (h : a + K ≤ l.length) : numL ((l.drop a).take K) < 256 ^ K := by
  have hlen : ((l.drop a).take K).length = K := by rw [List.length_take, List.length_drop]; omega
  have := numL_bound ((l.drop a).take K) (fun x hx => mem_ok hl x (List.mem_of_mem_drop (List.mem_of_mem_take hx)))
  rw [hlen] at this
  exact this
/-- what is put is got out of the middle -/
theorem ok_nil : ∀ j, 0 ≤ ([] : List Int).getD j 0 ∧ ([] : List Int).getD j 0 < 256 := by simp
theorem piece_bts {w : World} {b off n c a K : Nat} {l : List Int} (h : Bts w (some ⟨b, off, none⟩) n c l) (ha : a + K ≤ n) (hK : 1 ≤ K) : Bts w (some ⟨b, off + a, none⟩) K (c - a) ((l.drop a).take K) := by
  have hle := h.le
  have hm := h.max
  refine ⟨by rw [List.length_take, List.length_drop, h.len]; omega, by omega, by omega, ok_piece l h.ok a K, (fun e => by cases e), fun _ => ⟨b, off + a, rfl, fun j hj => ?_⟩⟩
  obtain ⟨b', off', hA, hc⟩ := h.at_ (by omega)
  injection hA with hA
  injection hA with e1 e2 _
  subst e1 e2
  have := hc (a + j) (by omega)
  rw [← Nat.add_assoc] at this
  rw [this]
  simp [List.getD_eq_getElem?_getD, List.getElem?_take, hj, List.getElem?_drop]
theorem mid_piece (a p b : List Int) : ((a ++ p ++ b).drop a.length).take p.length = p := by
  rw [List.append_assoc, List.drop_left, List.take_left]

set_option maxHeartbeats 1000000 in
theorem nback_not (n k : Int) (A B : Option Addr) (na ca nb cb : Nat) (i : Int) (w : World) (ha : na ≤ 9223372036854775807) (hb : nb ≤ 9223372036854775807) (h : 200 < na ∨ 200 < nb) :
    Calls Try.prog 4 #[.int .u64 n, .int .i64 k, .slice A na ca, .slice B nb cb, .int .i64 i] w fun e w' => e = .returned (.bool true) ∧ Below w.heap.size w w' := by
  by_cases h1 : 200 < na
  · have h2 : (200 : Int) < na := by omega
    clear h h1
    go_enter Try.func4, Try.ntmps4
    go_wp2_with (go_at_call 9; refine (nawake_any _).mono ?_; rintro e w1 ⟨rfl, hB1⟩)
    go_ret
    exact ⟨rfl, hB1⟩
  · have h2 : (na : Int) ≤ 200 := by omega
    have h3 : (200 : Int) < nb := by omega
    clear h h1
    go_enter Try.func4, Try.ntmps4
    go_wp2_with (go_at_call 9; refine (nawake_any _).mono ?_; rintro e w1 ⟨rfl, hB1⟩)
    go_ret
    exact ⟨rfl, hB1⟩

set_option maxRecDepth 100000 in
set_option maxHeartbeats 4000000 in
theorem nback_yy (N K a : Nat) (A B : Option Addr) (na ca nb cb : Nat) (la lb : List Int) (w : World) (hna : na ≤ 200) (hnb : nb ≤ 200) (ha : Bts w A na ca la) (hb : Bts w B nb cb lb) (h1 : 1 ≤ K) (h2 : K ≤ 8) (h3 : N < 256 ^ K) (h4 : a + K ≤ nb) :
    Calls Try.prog 4 #[.int .u64 N, .int .i64 K, .slice A na ca, .slice B nb cb, .int .i64 a] w fun e w' => e = .returned (.bool true) ∧ Below w.heap.size w w' := by
  have hna' : (na : Int) ≤ 200 := by omega
  have HLA := Lib.hid ha.len
  have hnb' : (nb : Int) ≤ 200 := by omega
  obtain ⟨p, hp⟩ : ∃ p, putL N K = p := ⟨_, rfl⟩
  have hpl : p.length = K := by rw [← hp]; exact putL_length N K
  have hpo : ∀ j, 0 ≤ p.getD j 0 ∧ p.getD j 0 < 256 := by rw [← hp]; exact putL_ok N K
  have hall : numL (((la ++ p ++ lb).drop na).take K) = N := by
    have := mid_piece la p lb
    rw [ha.len, hpl] at this
    rw [this, ← hp, num_put N K h3]
  have HP := Lib.hid hp
  have HPL := Lib.hid hpl
  have HPO := Lib.hid hpo
  have HALL := Lib.hid hall
  have H3 := Lib.hid h3
  clear hp hpl hpo hall h3
  obtain ⟨x, hx⟩ : ∃ x, numL ((lb.drop a).take K) = x := ⟨_, rfl⟩
  have hxl := num_piece lb a K hb.ok (by rw [hb.len]; exact h4)
  have hpp := put_piece lb a K hb.ok (by rw [hb.len]; exact h4)
  rw [hx] at hxl hpp
  obtain ⟨bb, off, hB, _⟩ := hb.at_ (by omega)
  subst hB
  obtain ⟨s, hs⟩ : ∃ s, bstr ((lb.drop a).take K) = s := ⟨_, rfl⟩
  have hcut : ∀ w, (Instr.slice 23 (.slice (some ⟨bb, off, none⟩) nb cb) (some (.int .i64 a)) (some (.int .i64 ((a : Int) + K))) none).run Try.prog w = .ok (.slice (some ⟨bb, off + a, none⟩) K (cb - a)) w := fun w => by
    have := run_cut bb off nb cb a (a + K) a ((a : Int) + K) rfl (by omega) (by omega) (by have := hb.le; omega) (by have := hb.le; omega) w
    rw [show a + K - a = K by omega] at this
    exact this
  have hpc : Bts w (some ⟨bb, off + a, none⟩) K (cb - a) ((lb.drop a).take K) := piece_bts hb h4 h1
  have g3 : (a : Int) < a + K := by omega
  have g4 : (a : Int) + K ≤ nb := by omega
  have HX := Lib.hid hx
  have HXL := Lib.hid hxl
  have HPP := Lib.hid hpp
  have HS := Lib.hid hs
  have HPC := Lib.hid hpc
  clear hx hxl hpp hs hpc
  go_enter Try.func4, Try.ntmps4
  go_wp2_with (first
    | (go_at_call 9; refine (nawake_any _).mono ?_; rintro e w1 ⟨rfl, hB1⟩)
    | (go_at_call 10; (with_reducible refine (put_yes N K w1 h1 h2 H3.out).mono ?_); rintro e w2 ⟨rfl, hX2, hb2⟩
       rw [HP.out] at hX2
       have hP2 := hX2.bts HPL.out (by unfold maxLen; omega) HPO.out
       have hB2 := then_below hB1 hb2
       clear hb2 hX2)
    | (at_builtin
       refine wpList_append_b rfl (.const (.slice none 0 0)) (.tmp 48) rfl w.heap.size (.slice none 0 0) [] rfl (Own.nil _ _) A na ca la rfl (ha.below hB2) (by simp only [List.length_nil]; omega) hB2.size ?_
       intro v3 w3 hown3 hg3
       rw [List.nil_append] at hown3
       have hB3 : Below w.heap.size w w3 := hB2.grown hg3 hB2.size (fun k hk => by cases hk)
       have hP3 := hP2.grown hg3 (fun b off e => by simp [Value.ownBlock])
       have hv3 := hown3.size
       clear hg3)
    | (at_builtin
       refine wpList_append_b rfl (.tmp 49) (.tmp 50) rfl w.heap.size v3 la rfl hown3 (some ⟨w1.heap.size, 0, none⟩) K K p rfl hP3 (by rw [HLA.out]; omega) hB3.size ?_
       intro v4 w4 hown4 hg4
       have hB4 : Below w.heap.size w w4 := hB3.grown hg4 hB3.size (fun k hk => (hv3 k hk).1)
       have hv4 := hown4.size
       clear hg4)
    | (at_builtin
       refine wpList_append_b rfl (.tmp 51) (.tmp 52) rfl w.heap.size v4 (la ++ p) rfl hown4 (some ⟨bb, off, none⟩) nb cb lb rfl (hb.below hB4) (by rw [List.length_append, HLA.out, HPL.out]; omega) hB4.size ?_
       intro v5 w5 hown5 hg5
       have hB5 : Below w.heap.size w w5 := hB4.grown hg5 hB4.size (fun k hk => (hv4 k hk).1)
       obtain ⟨A5, n5, c5, rfl, hbt5⟩ := hown5.slice (ok_append (ok_append ha.ok HPO.out) hb.ok)
       have hn5 : na + K ≤ n5 := by rw [← hbt5.len, List.length_append, List.length_append, HLA.out, HPL.out]; omega
       clear hg5)
    | (go_at_call 12; (with_reducible refine (get_yes A5 n5 c5 (la ++ p ++ lb) na K w5 hbt5 h1 h2 hn5).mono ?_); rintro e w6 ⟨he, rfl⟩
       rw [HALL.out] at he
       subst he)
    | (go_at_call 12; (with_reducible refine (get_yes (some ⟨bb, off, none⟩) nb cb lb a K w5 (hb.below hB5) h1 h2 h4).mono ?_); rintro e w6 ⟨he, rfl⟩
       rw [HX.out] at he
       subst he)
    | (go_at_call 10; (with_reducible refine (put_yes x K w5 h1 h2 HXL.out).mono ?_); rintro e w7 ⟨rfl, hX7, hb7⟩
       rw [HPP.out] at hX7
       have hB7 := then_below hB5 hb7
       clear hb7)
)
  have kq : ∀ n, (convert 23 9 (.slice (some ⟨w5.heap.size, 0, none⟩) K K)).run Try.prog (w7.drewN n) = .ok (.string s) (w7.drewN n) := fun n => by
    rw [← HS.out]
    exact conv_bts ((hX7.draw n).bts (by rw [List.length_take, List.length_drop, hb.len]; omega) (by unfold maxLen; omega) (ok_piece lb hb.ok a K))
  have kp : ∀ n, (convert 23 9 (.slice (some ⟨bb, off + a, none⟩) K (cb - a))).run Try.prog (w7.drewN n) = .ok (.string s) (w7.drewN n) := fun n => by
    rw [← HS.out]
    exact conv_bts ((HPC.out.below hB7).draw n)
  go_quiet (fail)
  go_wp2
  go_ret
  exact ⟨by simp, below_drewN hB7 _⟩

set_option maxRecDepth 100000 in
set_option maxHeartbeats 4000000 in
theorem nback_yn (N K : Nat) (i : Int) (A B : Option Addr) (na ca nb cb : Nat) (la lb : List Int) (w : World) (hna : na ≤ 200) (hnb : nb ≤ 200) (ha : Bts w A na ca la) (hb : Bts w B nb cb lb) (h1 : 1 ≤ K) (h2 : K ≤ 8) (h3 : N < 256 ^ K) (h5 : mayGet nb i K = false) (hi0 : -9223372036854775808 ≤ i) (hi1 : i ≤ 9223372036854775807) :
    Calls Try.prog 4 #[.int .u64 N, .int .i64 K, .slice A na ca, .slice B nb cb, .int .i64 i] w fun e w' => e = .returned (.bool true) ∧ Below w.heap.size w w' := by
  have hna' : (na : Int) ≤ 200 := by omega
  have HLA := Lib.hid ha.len
  have hnb' : (nb : Int) ≤ 200 := by omega
  obtain ⟨p, hp⟩ : ∃ p, putL N K = p := ⟨_, rfl⟩
  have hpl : p.length = K := by rw [← hp]; exact putL_length N K
  have hpo : ∀ j, 0 ≤ p.getD j 0 ∧ p.getD j 0 < 256 := by rw [← hp]; exact putL_ok N K
  have hall : numL (((la ++ p ++ lb).drop na).take K) = N := by
    have := mid_piece la p lb
    rw [ha.len, hpl] at this
    rw [this, ← hp, num_put N K h3]
  have HP := Lib.hid hp
  have HPL := Lib.hid hpl
  have HPO := Lib.hid hpo
  have HALL := Lib.hid hall
  have H3 := Lib.hid h3
  clear hp hpl hpo hall h3
  have H5 := Lib.hid h5
  clear h5
  go_enter Try.func4, Try.ntmps4
  go_wp2_with (first
    | (go_at_call 9; refine (nawake_any _).mono ?_; rintro e w1 ⟨rfl, hB1⟩)
    | (go_at_call 10; (with_reducible refine (put_yes N K w1 h1 h2 H3.out).mono ?_); rintro e w2 ⟨rfl, hX2, hb2⟩
       rw [HP.out] at hX2
       have hP2 := hX2.bts HPL.out (by unfold maxLen; omega) HPO.out
       have hB2 := then_below hB1 hb2
       clear hb2 hX2)
    | (at_builtin
       refine wpList_append_b rfl (.const (.slice none 0 0)) (.tmp 48) rfl w.heap.size (.slice none 0 0) [] rfl (Own.nil _ _) A na ca la rfl (ha.below hB2) (by simp only [List.length_nil]; omega) hB2.size ?_
       intro v3 w3 hown3 hg3
       rw [List.nil_append] at hown3
       have hB3 : Below w.heap.size w w3 := hB2.grown hg3 hB2.size (fun k hk => by cases hk)
       have hP3 := hP2.grown hg3 (fun b off e => by simp [Value.ownBlock])
       have hv3 := hown3.size
       clear hg3)
    | (at_builtin
       refine wpList_append_b rfl (.tmp 49) (.tmp 50) rfl w.heap.size v3 la rfl hown3 (some ⟨w1.heap.size, 0, none⟩) K K p rfl hP3 (by rw [HLA.out]; omega) hB3.size ?_
       intro v4 w4 hown4 hg4
       have hB4 : Below w.heap.size w w4 := hB3.grown hg4 hB3.size (fun k hk => (hv3 k hk).1)
       have hv4 := hown4.size
       clear hg4)
    | (at_builtin
       refine wpList_append_b rfl (.tmp 51) (.tmp 52) rfl w.heap.size v4 (la ++ p) rfl hown4 B nb cb lb rfl (hb.below hB4) (by rw [List.length_append, HLA.out, HPL.out]; omega) hB4.size ?_
       intro v5 w5 hown5 hg5
       have hB5 : Below w.heap.size w w5 := hB4.grown hg5 hB4.size (fun k hk => (hv4 k hk).1)
       obtain ⟨A5, n5, c5, rfl, hbt5⟩ := hown5.slice (ok_append (ok_append ha.ok HPO.out) hb.ok)
       have hn5 : na + K ≤ n5 := by rw [← hbt5.len, List.length_append, List.length_append, HLA.out, HPL.out]; omega
       clear hg5)
    | (go_at_call 12; (with_reducible refine (get_yes A5 n5 c5 (la ++ p ++ lb) na K w5 hbt5 h1 h2 hn5).mono ?_); rintro e w6 ⟨he, rfl⟩
       rw [HALL.out] at he
       subst he)
    | (go_at_call 12; (with_reducible refine (get_no B nb cb lb i K w5 (hb.below hB5) hi0 hi1 (by omega) (by omega) H5.out).mono ?_); rintro e w6 ⟨rfl, rfl⟩)
)
  go_ret
  exact ⟨by simp, hB5⟩

set_option maxRecDepth 100000 in
set_option maxHeartbeats 4000000 in
theorem nback_ny (n : Int) (K a : Nat) (A B : Option Addr) (na ca nb cb : Nat) (la lb : List Int) (w : World) (hna : na ≤ 200) (hnb : nb ≤ 200) (ha : Bts w A na ca la) (hb : Bts w B nb cb lb) (g0 : 0 ≤ n) (g1 : n < 18446744073709551616) (h6 : fitB n K = false) (h1 : 1 ≤ K) (h2 : K ≤ 8) (h4 : a + K ≤ nb) :
    Calls Try.prog 4 #[.int .u64 n, .int .i64 K, .slice A na ca, .slice B nb cb, .int .i64 a] w fun e w' => e = .returned (.bool true) ∧ Below w.heap.size w w' := by
  have hna' : (na : Int) ≤ 200 := by omega
  have HLA := Lib.hid ha.len
  have hnb' : (nb : Int) ≤ 200 := by omega
  have H6 := Lib.hid h6
  have HG := Lib.hid g1
  clear h6 g1
  obtain ⟨x, hx⟩ : ∃ x, numL ((lb.drop a).take K) = x := ⟨_, rfl⟩
  have hxl := num_piece lb a K hb.ok (by rw [hb.len]; exact h4)
  have hpp := put_piece lb a K hb.ok (by rw [hb.len]; exact h4)
  rw [hx] at hxl hpp
  obtain ⟨bb, off, hB, _⟩ := hb.at_ (by omega)
  subst hB
  obtain ⟨s, hs⟩ : ∃ s, bstr ((lb.drop a).take K) = s := ⟨_, rfl⟩
  have hcut : ∀ w, (Instr.slice 23 (.slice (some ⟨bb, off, none⟩) nb cb) (some (.int .i64 a)) (some (.int .i64 ((a : Int) + K))) none).run Try.prog w = .ok (.slice (some ⟨bb, off + a, none⟩) K (cb - a)) w := fun w => by
    have := run_cut bb off nb cb a (a + K) a ((a : Int) + K) rfl (by omega) (by omega) (by have := hb.le; omega) (by have := hb.le; omega) w
    rw [show a + K - a = K by omega] at this
    exact this
  have hpc : Bts w (some ⟨bb, off + a, none⟩) K (cb - a) ((lb.drop a).take K) := piece_bts hb h4 h1
  have g3 : (a : Int) < a + K := by omega
  have g4 : (a : Int) + K ≤ nb := by omega
  have HX := Lib.hid hx
  have HXL := Lib.hid hxl
  have HPP := Lib.hid hpp
  have HS := Lib.hid hs
  have HPC := Lib.hid hpc
  clear hx hxl hpp hs hpc
  go_enter Try.func4, Try.ntmps4
  go_wp2_with (first
    | (go_at_call 9; refine (nawake_any _).mono ?_; rintro e w1 ⟨rfl, hB1⟩)
    | (go_at_call 10; (with_reducible refine (put_no n K w1 g0 HG.out H6.out).mono ?_); rintro e w2 ⟨rfl, rfl⟩
       have hB2 := hB1
       have hP2 := Bts.nil w1)
    | (at_builtin
       refine wpList_append_b rfl (.const (.slice none 0 0)) (.tmp 48) rfl w.heap.size (.slice none 0 0) [] rfl (Own.nil _ _) A na ca la rfl (ha.below hB2) (by simp only [List.length_nil]; omega) hB2.size ?_
       intro v3 w3 hown3 hg3
       rw [List.nil_append] at hown3
       have hB3 : Below w.heap.size w w3 := hB2.grown hg3 hB2.size (fun k hk => by cases hk)
       have hP3 := hP2.grown hg3 (fun b off e => by simp [Value.ownBlock])
       have hv3 := hown3.size
       clear hg3)
    | (at_builtin
       refine wpList_append_b rfl (.tmp 49) (.tmp 50) rfl w.heap.size v3 la rfl hown3 none 0 0 [] rfl hP3 (by rw [HLA.out]; omega) hB3.size ?_
       intro v4 w4 hown4 hg4
       have hB4 : Below w.heap.size w w4 := hB3.grown hg4 hB3.size (fun k hk => (hv3 k hk).1)
       have hv4 := hown4.size
       clear hg4)
    | (at_builtin
       refine wpList_append_b rfl (.tmp 51) (.tmp 52) rfl w.heap.size v4 (la ++ []) rfl hown4 (some ⟨bb, off, none⟩) nb cb lb rfl (hb.below hB4) (by rw [List.length_append, HLA.out, List.length_nil]; omega) hB4.size ?_
       intro v5 w5 hown5 hg5
       have hB5 : Below w.heap.size w w5 := hB4.grown hg5 hB4.size (fun k hk => (hv4 k hk).1)
       obtain ⟨A5, n5, c5, rfl, hbt5⟩ := hown5.slice (ok_append (ok_append ha.ok ok_nil) hb.ok)
       clear hg5)
    | (go_at_call 12; (with_reducible refine (get_some A5 n5 c5 (la ++ [] ++ lb) na K w5 hbt5 (by omega) (by omega) (by omega) (by omega)).mono ?_); rintro e w6 ⟨x6, y6, rfl, rfl⟩)
    | (go_at_call 12; (with_reducible refine (get_yes (some ⟨bb, off, none⟩) nb cb lb a K w5 (hb.below hB5) h1 h2 h4).mono ?_); rintro e w6 ⟨he, rfl⟩
       rw [HX.out] at he
       subst he)
    | (go_at_call 10; (with_reducible refine (put_yes x K w5 h1 h2 HXL.out).mono ?_); rintro e w7 ⟨rfl, hX7, hb7⟩
       rw [HPP.out] at hX7
       have hB7 := then_below hB5 hb7
       clear hb7)
)
  have kq : ∀ n, (convert 23 9 (.slice (some ⟨w5.heap.size, 0, none⟩) K K)).run Try.prog (w7.drewN n) = .ok (.string s) (w7.drewN n) := fun n => by
    rw [← HS.out]
    exact conv_bts ((hX7.draw n).bts (by rw [List.length_take, List.length_drop, hb.len]; omega) (by unfold maxLen; omega) (ok_piece lb hb.ok a K))
  have kp : ∀ n, (convert 23 9 (.slice (some ⟨bb, off + a, none⟩) K (cb - a))).run Try.prog (w7.drewN n) = .ok (.string s) (w7.drewN n) := fun n => by
    rw [← HS.out]
    exact conv_bts ((HPC.out.below hB7).draw n)
  go_quiet (fail)
  go_wp2
  go_ret
  exact ⟨by simp, below_drewN hB7 _⟩

set_option maxRecDepth 100000 in
set_option maxHeartbeats 4000000 in
theorem nback_nn (n k i : Int) (A B : Option Addr) (na ca nb cb : Nat) (la lb : List Int) (w : World) (hna : na ≤ 200) (hnb : nb ≤ 200) (ha : Bts w A na ca la) (hb : Bts w B nb cb lb) (g0 : 0 ≤ n) (g1 : n < 18446744073709551616) (h6 : fitB n k = false) (h5 : mayGet nb i k = false) (hk0 : -9223372036854775808 ≤ k) (hk1 : k ≤ 9223372036854775807) (hi0 : -9223372036854775808 ≤ i) (hi1 : i ≤ 9223372036854775807) :
    Calls Try.prog 4 #[.int .u64 n, .int .i64 k, .slice A na ca, .slice B nb cb, .int .i64 i] w fun e w' => e = .returned (.bool true) ∧ Below w.heap.size w w' := by
  have hna' : (na : Int) ≤ 200 := by omega
  have HLA := Lib.hid ha.len
  have hnb' : (nb : Int) ≤ 200 := by omega
  have H6 := Lib.hid h6
  have HG := Lib.hid g1
  clear h6 g1
  have H5 := Lib.hid h5
  clear h5
  go_enter Try.func4, Try.ntmps4
  go_wp2_with (first
    | (go_at_call 9; refine (nawake_any _).mono ?_; rintro e w1 ⟨rfl, hB1⟩)
    | (go_at_call 10; (with_reducible refine (put_no n k w1 g0 HG.out H6.out).mono ?_); rintro e w2 ⟨rfl, rfl⟩
       have hB2 := hB1
       have hP2 := Bts.nil w1)
    | (at_builtin
       refine wpList_append_b rfl (.const (.slice none 0 0)) (.tmp 48) rfl w.heap.size (.slice none 0 0) [] rfl (Own.nil _ _) A na ca la rfl (ha.below hB2) (by simp only [List.length_nil]; omega) hB2.size ?_
       intro v3 w3 hown3 hg3
       rw [List.nil_append] at hown3
       have hB3 : Below w.heap.size w w3 := hB2.grown hg3 hB2.size (fun k hk => by cases hk)
       have hP3 := hP2.grown hg3 (fun b off e => by simp [Value.ownBlock])
       have hv3 := hown3.size
       clear hg3)
    | (at_builtin
       refine wpList_append_b rfl (.tmp 49) (.tmp 50) rfl w.heap.size v3 la rfl hown3 none 0 0 [] rfl hP3 (by rw [HLA.out]; omega) hB3.size ?_
       intro v4 w4 hown4 hg4
       have hB4 : Below w.heap.size w w4 := hB3.grown hg4 hB3.size (fun k hk => (hv3 k hk).1)
       have hv4 := hown4.size
       clear hg4)
    | (at_builtin
       refine wpList_append_b rfl (.tmp 51) (.tmp 52) rfl w.heap.size v4 (la ++ []) rfl hown4 B nb cb lb rfl (hb.below hB4) (by rw [List.length_append, HLA.out, List.length_nil]; omega) hB4.size ?_
       intro v5 w5 hown5 hg5
       have hB5 : Below w.heap.size w w5 := hB4.grown hg5 hB4.size (fun k hk => (hv4 k hk).1)
       obtain ⟨A5, n5, c5, rfl, hbt5⟩ := hown5.slice (ok_append (ok_append ha.ok ok_nil) hb.ok)
       clear hg5)
    | (go_at_call 12; (with_reducible refine (get_some A5 n5 c5 (la ++ [] ++ lb) na k w5 hbt5 (by omega) (by omega) hk0 hk1).mono ?_); rintro e w6 ⟨x6, y6, rfl, rfl⟩)
    | (go_at_call 12; (with_reducible refine (get_no B nb cb lb i k w5 (hb.below hB5) hi0 hi1 hk0 hk1 H5.out).mono ?_); rintro e w6 ⟨rfl, rfl⟩)
)
  go_ret
  exact ⟨by simp, hB5⟩

theorem nback_all (n k i : Int) (A B : Option Addr) (na ca nb cb : Nat) (la lb : List Int) (w : World) (ha : Bts w A na ca la) (hb : Bts w B nb cb lb) (g0 : 0 ≤ n) (g1 : n < 18446744073709551616) (hk0 : -9223372036854775808 ≤ k) (hk1 : k ≤ 9223372036854775807) (hi0 : -9223372036854775808 ≤ i) (hi1 : i ≤ 9223372036854775807) :
    Calls Try.prog 4 #[.int .u64 n, .int .i64 k, .slice A na ca, .slice B nb cb, .int .i64 i] w fun e w' => e = .returned (.bool true) ∧ Below w.heap.size w w' := by
  by_cases h : 200 < na ∨ 200 < nb
  · exact nback_not n k A B na ca nb cb i w ha.small hb.small h
  · have e1 : na ≤ 200 := by omega
    have e2 : nb ≤ 200 := by omega
    cases hf : fitB n k with
    | true =>
      obtain ⟨N, K, rfl, rfl, h1, h2, h3⟩ := fit_nat g0 hf
      cases hg : mayGet nb i K with
      | true =>
        obtain ⟨a, K2, rfl, hK, _, _, h4⟩ := mayGet_nat hg
        obtain rfl : K2 = K := by omega
        exact nback_yy N K2 a A B na ca nb cb la lb w e1 e2 ha hb h1 h2 h3 h4
      | false => exact nback_yn N K i A B na ca nb cb la lb w e1 e2 ha hb h1 h2 h3 hg hi0 hi1
    | false =>
      cases hg : mayGet nb i k with
      | true =>
        obtain ⟨a, K, rfl, rfl, h1, h2, h4⟩ := mayGet_nat hg
        exact nback_ny n K a A B na ca nb cb la lb w e1 e2 ha hb g0 g1 hf h1 h2 h4
      | false => exact nback_nn n k i A B na ca nb cb la lb w e1 e2 ha hb g0 g1 hf hg hk0 hk1 hi0 hi1
end Go.Proofs.Ytocmhmjjjkamhaa
