/- The walk over package mac's Derive: a key that is made of another one. -/
import Derived.Test.YtcfkpepohnjdfaaDoorMacTag
import Derived.Lib.AppendStr
import Derived.Laws.ResultCell
namespace Go.Proofs.YtcfkpepohnjdfaaDoor
open Go.RowKit

set_option maxRecDepth 100000 in
set_option maxHeartbeats 1000000 in
theorem derive_yes (A B : Option Addr) (n c m d : Nat) (key b : List Int) (s : ByteArray) (w : World) (hK : KTab w) (hn : n ≤ 1048576) (hm : m ≤ 1048000) (hk : Bts w A n c key) (hb : Bts w B m d b) (h0 : 0 < s.size) (h1 : s.size ≤ 32) :
    Calls Tryd.prog 23 #[.slice A n c, .string s, .slice B m d] w fun e w' => e = .returned (.tuple #[.agg (idv (tagL key (labelL (strL s) b))), .bool true]) ∧ Below w.heap.size w w' := by
  obtain ⟨L, hL⟩ : ∃ L, L = [(s.size : Int)] ++ strL s := ⟨_, rfl⟩
  have hLl : L.length = 1 + s.size := by rw [hL, List.length_append, strL_length]; simp
  have hLo : ∀ j, 0 ≤ L.getD j 0 ∧ L.getD j 0 < 256 := by rw [hL]; exact ok_append (ok_one1 _ (by omega) (by omega)) (strL_ok s)
  obtain ⟨Z, hZ⟩ : ∃ Z, Z = tagL key (L ++ b) := ⟨_, rfl⟩
  have hZl : Z.length = 32 := by rw [hZ, tagL]; exact sumL_length _
  have hfin : tagL key (labelL (strL s) b) = Z := by rw [hZ, labelL, strL_length, hL]
  have he : s.toList.isEmpty = false := by rw [str_empty, decide_eq_false_iff_not]; omega
  have h2 : (s.size : Int) ≤ 32 := by omega
  have h3 : decide (32 < (s.size : Int)) = false := by rw [decide_eq_false_iff_not]; omega
  rw [hfin]
  have HL := Lib.hid hL
  have HLL := Lib.hid hLl
  have HLO := Lib.hid hLo
  have HZ := Lib.hid hZ
  have HZL := Lib.hid hZl
  clear hL hLl hLo hZ hZl hfin
  go_enter Tryd.func23, Tryd.ntmps23
  go_wp2_with (first
    | (at_builtin
       refine wpList_append_str rfl (.tmp 20) (.tmp 21) rfl (w.heap.size + 1) _ [(s.size : Int)] rfl (one_own_next w _ _) s rfl (by simp only [List.length_cons, List.length_nil]; omega) (size_two w _ _).1 ?_
       intro v1 w1 hown1 hg1
       have hg1 : ((w.alloc _).alloc _).grownBy w1 (some (w.heap.size + 1)) := hg1
       rw [← HL.out] at hown1
       have hB1 : Below w.heap.size w w1 := (two_below w _ _).grown hg1 (Nat.le_of_lt (size_two w _ _).2) (fun k hk => by injection hk with hk; omega)
       have hO1 : RowB w1 w.heap.size 30 (List.replicate 32 0) := (hg1.block w.heap.size (size_two w _ _).2 (ne_some (by omega))).trans (heap_alloc2_old w _ _)
       have hv1 := hown1.size
       clear hg1)
    | (at_builtin
       refine wpList_append_b rfl (.tmp 24) (.tmp 25) rfl (w.heap.size + 1) _ L rfl hown1 B m d b rfl (hb.below hB1) (by rw [HLL.out]; omega) hO1.lt ?_
       intro v2 w2 hown2 hg2
       have hB2 : Below w.heap.size w w2 := hB1.grown hg2 hB1.size (fun k hk => by have := (hv1 k hk).1; omega)
       have hO2 : RowB w2 w.heap.size 30 (List.replicate 32 0) := hO1.grown hg2 (fun e => by have := (hv1 _ e.symm).1; omega)
       obtain ⟨A2, n2, c2, rfl, hbt2⟩ := hown2.slice (ok_append HLO.out hb.ok)
       have hn2 : n2 ≤ 1048512 := by have h1 := hbt2.len; rw [List.length_append, HLL.out, hb.len] at h1; omega
       clear hg2 hown2 hown1 hv1)
    | (go_at_call 34; refine (tag_any A A2 n c n2 c2 key (L ++ b) w2 (hK.from hB2) hn hn2 (hk.below hB2) hbt2).mono ?_; rintro e w3 ⟨he, hb3⟩
       rw [← HZ.out] at he
       subst he
       have hO3 := hO2.keep hb3
       have hB3 : Below w.heap.size w w3 := hB2.trans (hb3.mono hB2.size)
       clear hb3)
    | ((with_reducible refine wpList_store_b rfl 30 _ _ rfl w.heap.size Z ?hx ?hy 30 (List.replicate 32 0) hO3 (info32 HZL.out) ?hl ?hm); (case hx => rfl); (case hy => rfl); (case hl => rw [HZL.out]; rfl)
       intro w6 hg6 hX6 hs6
       have hB6 : Below w.heap.size w w6 := Below.grows hB3 hg6 hB3.size (Nat.le_refl _)))
  refine bodyPost_ret (v := .tuple #[.agg (idv Z), .bool true]) ?_ ?_ ?_
  · exact results_row_tmp Tryd.results23 _ _ _ w.heap.size 30 _ (0, 0) rfl hX6.is Tryd.underlying30 (info32 HZL.out) _ rfl
  · rfl
  · exact ⟨rfl, hB6⟩

set_option maxHeartbeats 1000000 in
theorem derive_no (A B : Option Addr) (n c m d : Nat) (s : ByteArray) (w : World) (hs : s.size ≤ 9223372036854775807) (h1 : s.size = 0 ∨ 32 < s.size) :
    Calls Tryd.prog 23 #[.slice A n c, .string s, .slice B m d] w fun e w' => e = .returned (.tuple #[.agg (idv (List.replicate 32 0)), .bool false]) ∧ Below w.heap.size w w' := by
  rcases h1 with h0 | h0
  · have he : s.toList.isEmpty = true := by rw [str_empty, decide_eq_true_eq]; exact h0
    go_enter Tryd.func23, Tryd.ntmps23
    go_wp2_with (first | ((with_reducible refine wpList_store_b rfl 30 _ _ rfl w.heap.size (List.replicate 32 0) ?hx7 ?hy7 30 (List.replicate 32 0) (rowb_lit w 30 _ _ ?hz7) (info32 rfl) ?hl7 ?_); (case hx7 => rfl); (case hy7 => rfl); (case hz7 => rfl); (case hl7 => rfl); intro w6 hg6 hX6 hs6; have hB6 : Below w.heap.size w w6 := Below.grows (mac_alloc _ _) hg6 (size_le_alloc _ _) (Nat.le_refl _)))
    refine bodyPost_ret (v := .tuple #[.agg (idv (List.replicate 32 0)), .bool false]) ?_ ?_ ?_
    · exact results_row_tmp Tryd.results23 _ _ _ w.heap.size 30 _ (0, 0) rfl hX6.is Tryd.underlying30 (info32 rfl) _ rfl
    · rfl
    · exact ⟨rfl, hB6⟩
  · have he : s.toList.isEmpty = false := by rw [str_empty, decide_eq_false_iff_not]; omega
    have h2 : (32 : Int) < s.size := by omega
    go_enter Tryd.func23, Tryd.ntmps23
    go_wp2_with (first | ((with_reducible refine wpList_store_b rfl 30 _ _ rfl w.heap.size (List.replicate 32 0) ?ghx8 ?ghy8 30 (List.replicate 32 0) (rowb_lit w 30 _ _ ?ghz8) (info32 rfl) ?ghl8 ?_); (case ghx8 => rfl); (case ghy8 => rfl); (case ghz8 => rfl); (case ghl8 => rfl); intro w6 hg6 hX6 hs6; have hB6 : Below w.heap.size w w6 := Below.grows (mac_alloc _ _) hg6 (size_le_alloc _ _) (Nat.le_refl _)))
    refine bodyPost_ret (v := .tuple #[.agg (idv (List.replicate 32 0)), .bool false]) ?_ ?_ ?_
    · exact results_row_tmp Tryd.results23 _ _ _ w.heap.size 30 _ (0, 0) rfl hX6.is Tryd.underlying30 (info32 rfl) _ rfl
    · rfl
    · exact ⟨rfl, hB6⟩
end Go.Proofs.YtcfkpepohnjdfaaDoor
