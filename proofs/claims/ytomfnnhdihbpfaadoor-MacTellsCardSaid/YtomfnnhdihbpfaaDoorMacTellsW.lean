/- The walk over the law MacTells: any key has the block, and the tags, and makes the keys, or none, that the document says. -/
import Derived.Test.YtomfnnhdihbpfaaDoorRefMac
import Derived.Test.YtomfnnhdihbpfaaDoorMacAwake
import Derived.Test.YtomfnnhdihbpfaaDoorMacSameW
namespace Go.Proofs.YtomfnnhdihbpfaaDoor
open Go.RowKit

set_option maxRecDepth 100000 in
set_option maxHeartbeats 1000000 in
theorem r2derive_yes (A B : Option Addr) (n c m d : Nat) (key b : List Int) (s : ByteArray) (w : World) (hn : n ≤ 1048576) (hm : m ≤ 1048000) (hk : Bts w A n c key) (hb : Bts w B m d b) (h0 : 0 < s.size) (h1 : s.size ≤ 32) :
    Calls Tryd.prog 30 #[.slice A n c, .string s, .slice B m d] w fun e w' => e = .returned (.tuple #[.agg (idv (tagL key (labelL (strL s) b))), .bool true]) ∧ Below w.heap.size w w' := by
  obtain ⟨L, hL⟩ : ∃ L, L = [(s.size : Int)] ++ strL s := ⟨_, rfl⟩
  have hLl : L.length = 1 + s.size := by rw [hL, List.length_append, strL_length]; simp
  have hLo : ∀ j, 0 ≤ L.getD j 0 ∧ L.getD j 0 < 256 := by rw [hL]; exact ok_append (ok_one1 _ (by omega) (by omega)) (strL_ok s)
  obtain ⟨Z, hZ⟩ : ∃ Z, Z = tagL key (L ++ b) := ⟨_, rfl⟩
  have hZl : Z.length = 32 := by rw [hZ, tagL]; exact sumL_length _
  have hfin : tagL key (labelL (strL s) b) = Z := by rw [hZ, labelL, strL_length, hL]
  have h4 : (1 : Int) ≤ s.size := by omega
  have h2 : (s.size : Int) ≤ 32 := by omega
  have h3 : decide (32 < (s.size : Int)) = false := by rw [decide_eq_false_iff_not]; omega
  rw [hfin]
  have HL := Lib.hid hL
  have HLL := Lib.hid hLl
  have HLO := Lib.hid hLo
  have HZ := Lib.hid hZ
  have HZL := Lib.hid hZl
  clear hL hLl hLo hZ hZl hfin
  go_enter Tryd.func30, Tryd.ntmps30
  go_wp2_with (first
    | (at_builtin
       refine wpList_append_str rfl (.tmp 21) (.tmp 22) rfl (w.heap.size + 1) _ [(s.size : Int)] rfl (one_own_next w _ _) s rfl (by simp only [List.length_cons, List.length_nil]; omega) (size_two w _ _).1 ?_
       intro v1 w1 hown1 hg1
       have hg1 : ((w.alloc _).alloc _).grownBy w1 (some (w.heap.size + 1)) := hg1
       rw [← HL.out] at hown1
       have hB1 : Below w.heap.size w w1 := (two_below w _ _).grown hg1 (Nat.le_of_lt (size_two w _ _).2) (fun k hk => by injection hk with hk; omega)
       have hO1 : RowB w1 w.heap.size 33 (List.replicate 32 0) := (hg1.block w.heap.size (size_two w _ _).2 (ne_some (by omega))).trans (heap_alloc2_old w _ _)
       have hv1 := hown1.size
       clear hg1)
    | (at_builtin
       refine wpList_append_b rfl (.tmp 24) (.tmp 25) rfl (w.heap.size + 1) _ L rfl hown1 B m d b rfl (hb.below hB1) (by rw [HLL.out]; omega) hO1.lt ?_
       intro v2 w2 hown2 hg2
       have hB2 : Below w.heap.size w w2 := hB1.grown hg2 hB1.size (fun k hk => by have := (hv1 k hk).1; omega)
       have hO2 : RowB w2 w.heap.size 33 (List.replicate 32 0) := hO1.grown hg2 (fun e => by have := (hv1 _ e.symm).1; omega)
       obtain ⟨A2, n2, c2, rfl, hbt2⟩ := hown2.slice (ok_append HLO.out hb.ok)
       have hn2 : n2 ≤ 1048512 := by have h1 := hbt2.len; rw [List.length_append, HLL.out, hb.len] at h1; omega
       clear hg2 hown2 hown1 hv1)
    | (go_at_call 34; refine (r2tag_any A A2 n c n2 c2 key (L ++ b) w2 hn hn2 (hk.below hB2) hbt2).mono ?_; rintro e w3 ⟨he, hb3⟩
       rw [← HZ.out] at he
       subst he
       have hO3 := hO2.keep hb3
       have hB3 : Below w.heap.size w w3 := hB2.trans (hb3.mono hB2.size)
       clear hb3)
    | ((with_reducible refine wpList_store_b rfl 33 _ _ rfl w.heap.size Z ?hx ?hy 33 (List.replicate 32 0) hO3 (info32 HZL.out) ?hl ?hm); (case hx => rfl); (case hy => rfl); (case hl => rw [HZL.out]; rfl)
       intro w6 hg6 hX6 hs6
       have hB6 : Below w.heap.size w w6 := Below.grows hB3 hg6 hB3.size (Nat.le_refl _)))
  refine bodyPost_ret (v := .tuple #[.agg (idv Z), .bool true]) ?_ ?_ ?_
  · exact results_row_tmp Tryd.results30 _ _ _ w.heap.size 33 _ (0, 0) rfl hX6.is Tryd.underlying33 (info32 HZL.out) _ rfl
  · rfl
  · exact ⟨rfl, hB6⟩

set_option maxHeartbeats 1000000 in
theorem r2derive_no (A B : Option Addr) (n c m d : Nat) (s : ByteArray) (w : World) (hs : s.size ≤ 9223372036854775807) (h1 : s.size = 0 ∨ 32 < s.size) :
    Calls Tryd.prog 30 #[.slice A n c, .string s, .slice B m d] w fun e w' => e = .returned (.tuple #[.agg (idv (List.replicate 32 0)), .bool false]) ∧ Below w.heap.size w w' := by
  rcases h1 with h0 | h0
  · have h4 : (s.size : Int) < 1 := by omega
    go_enter Tryd.func30, Tryd.ntmps30
    go_wp2_with (first | ((with_reducible refine wpList_store_b rfl 33 _ _ rfl w.heap.size (List.replicate 32 0) ?hx7 ?hy7 33 (List.replicate 32 0) (rowb_lit w 33 _ _ ?hz7) (info32 rfl) ?hl7 ?_); (case hx7 => rfl); (case hy7 => rfl); (case hz7 => rfl); (case hl7 => rfl); intro w6 hg6 hX6 hs6; have hB6 : Below w.heap.size w w6 := Below.grows (mac_alloc _ _) hg6 (size_le_alloc _ _) (Nat.le_refl _)))
    refine bodyPost_ret (v := .tuple #[.agg (idv (List.replicate 32 0)), .bool false]) ?_ ?_ ?_
    · exact results_row_tmp Tryd.results30 _ _ _ w.heap.size 33 _ (0, 0) rfl hX6.is Tryd.underlying33 (info32 rfl) _ rfl
    · rfl
    · exact ⟨rfl, hB6⟩
  · have h4 : (1 : Int) ≤ s.size := by omega
    have h2 : (32 : Int) < s.size := by omega
    go_enter Tryd.func30, Tryd.ntmps30
    go_wp2_with (first | ((with_reducible refine wpList_store_b rfl 33 _ _ rfl w.heap.size (List.replicate 32 0) ?ghx8 ?ghy8 33 (List.replicate 32 0) (rowb_lit w 33 _ _ ?ghz8) (info32 rfl) ?ghl8 ?_); (case ghx8 => rfl); (case ghy8 => rfl); (case ghz8 => rfl); (case ghl8 => rfl); intro w6 hg6 hX6 hs6; have hB6 : Below w.heap.size w w6 := Below.grows (mac_alloc _ _) hg6 (size_le_alloc _ _) (Nat.le_refl _)))
    refine bodyPost_ret (v := .tuple #[.agg (idv (List.replicate 32 0)), .bool false]) ?_ ?_ ?_
    · exact results_row_tmp Tryd.results30 _ _ _ w.heap.size 33 _ (0, 0) rfl hX6.is Tryd.underlying33 (info32 rfl) _ rfl
    · rfl
    · exact ⟨rfl, hB6⟩

/-- both packages' Derive answer the same -/
theorem derive_both (A B : Option Addr) (n c m d : Nat) (key b : List Int) (s : ByteArray) (w : World) (hK : KTab w) (hn : n ≤ 200) (hm : m ≤ 200) (hs : s.size ≤ 200) (hk : Bts w A n c key) (hb : Bts w B m d b) :
    ∃ (Z : List Int) (G : Bool), Z.length = 32 ∧ (∀ W, Below w.heap.size w W → Calls Tryd.prog 29 #[.slice A n c, .string s, .slice B m d] W fun e w' => e = .returned (.tuple #[.agg (idv Z), .bool G]) ∧ Below W.heap.size W w') ∧
      (∀ W, Below w.heap.size w W → Calls Tryd.prog 30 #[.slice A n c, .string s, .slice B m d] W fun e w' => e = .returned (.tuple #[.agg (idv Z), .bool G]) ∧ Below W.heap.size W w') := by
  by_cases h : s.size = 0 ∨ 32 < s.size
  · exact ⟨List.replicate 32 0, false, rfl, fun W _ => derive_no A B n c m d s W (by omega) h, fun W _ => r2derive_no A B n c m d s W (by omega) h⟩
  · exact ⟨tagL key (labelL (strL s) b), true, by rw [tagL]; exact sumL_length _, fun W hW => derive_yes A B n c m d key b s W (hK.from hW) (by omega) (by omega) (hk.below hW) (hb.below hW) (by omega) (by omega), fun W hW => r2derive_yes A B n c m d key b s W (by omega) (by omega) (hk.below hW) (hb.below hW) (by omega) (by omega)⟩

section
variable {P : Program} {l : List Oper} {Q : Exit → Act → World → Prop} {md : Region.Mode} {S S' : World → Prop} {oi : Oper} {fuel : Nat} {listed : Array Bool} {a : Act} {w : World}
theorem take_if (i : Nat) (v : Value) (hi : l[i]? = some oi) (hs : Region.noSelect l.toArray = true) (hf : Region.free md l.toArray listed i = true) (hr : (Region.ready md l.toArray listed).contains i = true)
    (hQ : ∀ c a w, Q (.panic c) (a.put oi.dst v) w → Q (.panic c) a w) (hw : Region.wanted oi (yielded l.toArray a.tmps) = true) (hS : S w) (hrun : ∀ w, S w → (execOp a.eval oi).run P w = .ok (.value v) w)
    (h : wpAnyH P md l.toArray Q S fuel (listed.setIfInBounds i true) (a.put oi.dst v) w) : wpAnyH P md l.toArray Q S (fuel + 1) listed a w :=
  wpAnyH_take (by simpa using hi) hs hf hr hQ (.inl ⟨hw, hrun⟩) hS h
theorem wpAnyH_mono {ops : Array Oper} (hSS : ∀ w, S' w → S w) : ∀ (fuel : Nat) {listed : Array Bool} {a : Act} {w : World}, wpAnyH P md ops Q S' fuel listed a w → wpAnyH P md ops Q S fuel listed a w
  | 0, _, _, _, h => h
  | fuel + 1, _, _, _, h => ⟨h.1, fun i hi => wpOp_mono (fun _ _ h' => ⟨hSS _ h'.1, wpAnyH_mono hSS fuel h'.2⟩) (h.2 i hi)⟩
end

set_option maxHeartbeats 400000 in
theorem mtel_not (A B D : Option Addr) (n c m d p q : Nat) (s : ByteArray) (w : World) (hK : KTab w) (hn : n ≤ 9223372036854775807) (hm : m ≤ 9223372036854775807) (hp : p ≤ 9223372036854775807) (hs : s.size ≤ 9223372036854775807) (h : 200 < n ∨ 200 < m ∨ 200 < p ∨ 200 < s.size) :
    Calls Tryd.prog 9 #[.slice A n c, .slice B m d, .slice D p q, .string s] w fun e w' => e = .returned (.bool true) ∧ Below w.heap.size w w' := by
  by_cases h1 : 200 < n
  · have h2 : (200 : Int) < n := by omega
    clear h h1
    go_enter Tryd.func9, Tryd.ntmps9
    go_wp2_with (go_at_call 28; refine (mawake_any _ hK).mono ?_; rintro e w1 ⟨rfl, hB1⟩)
    go_ret
    exact ⟨rfl, hB1⟩
  · have h2 : (n : Int) ≤ 200 := by omega
    by_cases h3 : 200 < m
    · have h4 : (200 : Int) < m := by omega
      clear h h1 h3
      go_enter Tryd.func9, Tryd.ntmps9
      go_wp2_with (go_at_call 28; refine (mawake_any _ hK).mono ?_; rintro e w1 ⟨rfl, hB1⟩)
      go_ret
      exact ⟨rfl, hB1⟩
    · have h4 : (m : Int) ≤ 200 := by omega
      by_cases h5 : 200 < p
      · have h6 : (200 : Int) < p := by omega
        clear h h1 h3 h5
        go_enter Tryd.func9, Tryd.ntmps9
        go_wp2_with (go_at_call 28; refine (mawake_any _ hK).mono ?_; rintro e w1 ⟨rfl, hB1⟩)
        go_ret
        exact ⟨rfl, hB1⟩
      · have h6 : (p : Int) ≤ 200 := by omega
        have h7 : (200 : Int) < s.size := by omega
        clear h h1 h3 h5
        go_enter Tryd.func9, Tryd.ntmps9
        go_wp2_with (go_at_call 28; refine (mawake_any _ hK).mono ?_; rintro e w1 ⟨rfl, hB1⟩)
        go_ret
        exact ⟨rfl, hB1⟩

set_option maxRecDepth 100000 in
set_option maxHeartbeats 4000000 in
theorem mtel_good (A B D : Option Addr) (n c m d p q : Nat) (key b c1 : List Int) (s : ByteArray) (w : World) (hK : KTab w) (hn : n ≤ 200) (hm : m ≤ 200) (hp : p ≤ 200) (hs : s.size ≤ 200) (hk : Bts w A n c key) (hb : Bts w B m d b) (hc : Bts w D p q c1) :
    Calls Tryd.prog 9 #[.slice A n c, .slice B m d, .slice D p q, .string s] w fun e w' => e = .returned (.bool true) ∧ Below w.heap.size w w' := by
  obtain ⟨Z, G, hZl, cd, cr⟩ := derive_both A B n c m d key b s w hK hn hm hs hk hb
  obtain ⟨s1, hs1⟩ : ∃ s, s = bstr b := ⟨_, rfl⟩
  obtain ⟨s2, hs2⟩ : ∃ s, s = bstr c1 := ⟨_, rfl⟩
  obtain ⟨E, hE⟩ : ∃ E, E = (b == c1) := ⟨_, rfl⟩
  have hstr : (s1.toList == s2.toList) = E := by rw [hs1, hs2, hE]; exact run_eq_bstr b c1 hb.ok hc.ok
  have k1 : ∀ w', Below w.heap.size w w' → (convert 24 9 (.slice B m d)).run Tryd.prog w' = .ok (.string s1) w' := fun w' h => by rw [hs1]; exact conv_bts (hb.below h)
  have k2 : ∀ w', Below w.heap.size w w' → (convert 24 9 (.slice D p q)).run Tryd.prog w' = .ok (.string s2) w' := fun w' h => by rw [hs2]; exact conv_bts (hc.below h)
  obtain ⟨X, hX⟩ : ∃ X, X = blockL key := ⟨_, rfl⟩
  have hXl : X.length = 64 := by rw [hX]; exact blockL_length _
  have hXo : ∀ j, 0 ≤ X.getD j 0 ∧ X.getD j 0 < 256 := by rw [hX]; exact ok_block key hk.ok
  obtain ⟨sX, hsX⟩ : ∃ s, s = bstr X := ⟨_, rfl⟩
  have cX : ∀ (A' : Option Addr) (n' c' : Nat) {w' : World}, Bts w' A' n' c' X → (convert 24 9 (.slice A' n' c')).run Tryd.prog w' = .ok (.string sX) w' := fun A' n' c' {w'} h => by rw [hsX]; exact conv_bts h
  obtain ⟨T, hT⟩ : ∃ T, T = tagL key b := ⟨_, rfl⟩
  have hTl : T.length = 32 := by rw [hT, tagL]; exact sumL_length _
  have heqT : ∀ w, (Op.equalIn 10000 33 (.agg (idv T)) (.agg (idv T))).run Tryd.prog w = .ok true w := fun w => (eq32 T T hTl hTl w).trans (by rw [beq_self_eq_true])
  have heqZ : ∀ w, (Op.equalIn 10000 33 (.agg (byv Z).toArray) (.agg (byv Z).toArray)).run Tryd.prog w = .ok true w := fun w => (eq32 Z Z hZl hZl w).trans (by rw [beq_self_eq_true])
  have hZ32 : (byv Z).length = 32 := by rw [byv_length, hZl]
  have hu33 := Tryd.underlying33
  have hi33 : (Tryd.prog.info? 33).map (·.size) = some 32 := by kernel_rfl
  have hKT := hK
  have h1 : (n : Int) ≤ 200 := by omega
  have h2 : (m : Int) ≤ 200 := by omega
  have h3 : (p : Int) ≤ 200 := by omega
  have h4 : (s.size : Int) ≤ 200 := by omega
  have CD := Lib.hid cd
  have CR := Lib.hid cr
  have HE := Lib.hid hE
  have HX := Lib.hid hX
  have HXL := Lib.hid hXl
  have HXO := Lib.hid hXo
  have HTT := Lib.hid hT
  have HZL := Lib.hid hZl
  clear cd cr hE hX hXl hXo hT hTl hZl hs1 hs2 hsX
  go_enter Tryd.func9, Tryd.ntmps9
  go_wp2_with (first
    | (go_at_call 28; refine (mawake_any _ hK).mono ?_; rintro e w1 ⟨rfl, hB1⟩)
    | (go_at_call 29; refine (CD.out w1 hB1).mono ?_; rintro e w2 ⟨rfl, hb2⟩
       have hB2 : Below w.heap.size w w2 := hB1.trans (hb2.mono hB1.size)
       clear hb2)
    | ((with_reducible refine wpList_store_b rfl 33 _ _ rfl w2.heap.size Z ?hx ?hy 33 (List.replicate 32 0) (rowb_lit w2 33 _ _ ?hz) (info32 HZL.out) ?hl ?_); (case hx => rfl); (case hy => rfl); (case hz => rfl); (case hl => rw [HZL.out]; rfl)
       intro w3 hg3 hZ3 hs3
       have hB3 : Below w.heap.size w w3 := Below.grows (hB2.alloc hB2.size _) hg3 (Nat.le_trans hB2.size (size_le_alloc _ _)) hB2.size
       have hZ3l := hZ3.lt
       clear hg3 hs3)
    | (go_at_call 30; refine (CR.out w3 hB3).mono ?_; rintro e w4 ⟨rfl, hb4⟩
       have hB4 : Below w.heap.size w w4 := hB3.trans (hb4.mono hB3.size)
       have hZ4 := hZ3.keep hb4
       have hZ4l := hZ4.lt
       clear hb4)
    | ((with_reducible refine wpList_store_b rfl 33 _ _ rfl w4.heap.size Z ?dx ?dy 33 (List.replicate 32 0) (rowb_lit w4 33 _ _ ?dz) (info32 HZL.out) ?dl ?_); (case dx => rfl); (case dy => rfl); (case dz => rfl); (case dl => rw [HZL.out]; rfl)
       intro w5 hg5 hY5 hs5
       have hZ5 : RowB w5 w2.heap.size 33 Z := (hZ4.more _).grown hg5 (ne_some (Nat.ne_of_lt hZ4l))
       have hB5 : Below w.heap.size w w5 := Below.grows (hB4.alloc hB4.size _) hg5 (Nat.le_trans hB4.size (size_le_alloc _ _)) hB4.size
       clear hg5 hs5))
  clear hZ3 hZ4
  refine wp_region_held_drew (S := (fun w' => Below w.heap.size w w' ∧ w'.rangeAt w2.heap.size 0 (byv Z) ∧ w'.rangeAt w4.heap.size 0 (byv Z))) (by kernel_rfl) ⟨hB5.drew, hZ5.draw1.range, hY5.draw1.range⟩ (fun hHeld => ?_)
  refine take_move 0 (.tmp 0) (.slice A n c) rfl rfl rfl (by kernel_rfl) (by kernel_rfl) (by kernel_rfl) (fun _ _ _ h => h) rfl hHeld ?_
  simp only [Act.put, List.setIfInBounds_toArray, List.set_cons_zero, List.set_cons_succ]
  refine take_move 3 (.tmp 0) (.slice A n c) rfl rfl rfl (by kernel_rfl) (by kernel_rfl) (by kernel_rfl) (fun _ _ _ h => h) rfl hHeld ?_
  simp only [Act.put, List.setIfInBounds_toArray, List.set_cons_zero, List.set_cons_succ]
  refine one_step 1 (by kernel_rfl) rfl (fun K hK => ?_)
  go_simp
  go_at_call 31
  refine (block_any A n c key w5.drew (hKT.from hB5.drew) (by omega) (hk.below hB5.drew)).mono ?_
  rintro e w6 ⟨rfl, hX6, hb6⟩
  have hb6 := below_draw hb6
  have hX6 : RowB w6 w5.heap.size 5 (blockL key) := hX6
  rw [← HX.out] at hX6
  have hB6 : Below w.heap.size w w6 := hB5.trans (hb6.mono hB5.size)
  have hZ6 := hZ5.keep hb6
  have hY6 := hY5.keep hb6
  refine hK.out _ _ ⟨hB6, hZ6.range, hY6.range⟩ (fun hHeld0 => ?_)
  clear hK K hb6
  try simp only [Act.put, List.setIfInBounds_toArray, List.set_cons_zero, List.set_cons_succ]
  refine wpAnyH_mono (S' := (fun w' => (Below w.heap.size w w' ∧ w'.rangeAt w2.heap.size 0 (byv Z) ∧ w'.rangeAt w4.heap.size 0 (byv Z)) ∧ RowB w' w5.heap.size 5 X)) (fun _ h => h.1) _ ?_
  have hHeld : (fun w' => (Below w.heap.size w w' ∧ w'.rangeAt w2.heap.size 0 (byv Z) ∧ w'.rangeAt w4.heap.size 0 (byv Z)) ∧ RowB w' w5.heap.size 5 X) w6 := ⟨hHeld0, hX6⟩
  clear hHeld0
  refine take_if 2 (.string sX) rfl (by kernel_rfl) (by kernel_rfl) (by kernel_rfl) (fun _ _ _ h => h) rfl hHeld (fun w' hw' => ?_) ?_
  · have hcv := cX _ _ _ (hw'.2.bts HXL.out (by unfold maxLen; omega) HXO.out)
    go_simp
  simp only [Act.put, List.setIfInBounds_toArray, List.set_cons_zero, List.set_cons_succ]
  refine one_step 4 (by kernel_rfl) rfl (fun K hK => ?_)
  go_simp
  go_at_call 32
  refine (r2block_any A n c key w6 (by omega) (hk.below hB6)).mono ?_
  rintro e w7 ⟨v7, rfl, hown7, hb7⟩
  rw [← HX.out] at hown7
  obtain ⟨A7, n7, c7, rfl, hbt7⟩ := hown7.slice HXO.out
  have hB7 : Below w.heap.size w w7 := hB6.trans (hb7.mono hB6.size)
  have hZ7 := hZ6.keep hb7
  have hY7 := hY6.keep hb7
  have hX7 := hX6.keep hb7
  refine hK.out _ _ ⟨⟨hB7, hZ7.range, hY7.range⟩, hX7⟩ (fun hHeld0 => ?_)
  clear hK K hb7 hHeld
  try simp only [Act.put, List.setIfInBounds_toArray, List.set_cons_zero, List.set_cons_succ]
  refine wpAnyH_mono (S' := (fun w' => ((Below w.heap.size w w' ∧ w'.rangeAt w2.heap.size 0 (byv Z) ∧ w'.rangeAt w4.heap.size 0 (byv Z)) ∧ RowB w' w5.heap.size 5 X) ∧ Bts w' A7 n7 c7 X)) (fun _ h => h.1) _ ?_
  have hHeld : (fun w' => ((Below w.heap.size w w' ∧ w'.rangeAt w2.heap.size 0 (byv Z) ∧ w'.rangeAt w4.heap.size 0 (byv Z)) ∧ RowB w' w5.heap.size 5 X) ∧ Bts w' A7 n7 c7 X) w7 := ⟨hHeld0, hbt7⟩
  clear hHeld0
  refine take_if 5 (.string sX) rfl (by kernel_rfl) (by kernel_rfl) (by kernel_rfl) (fun _ _ _ h => h) rfl hHeld (fun w' hw' => ?_) ?_
  · have hcv := cX _ _ _ hw'.2
    go_simp
  simp only [Act.put, List.setIfInBounds_toArray, List.set_cons_zero, List.set_cons_succ]
  refine take_run 6 (.bool true) rfl (by kernel_rfl) (by kernel_rfl) (by kernel_rfl) (fun _ _ _ h => h) rfl hHeld (fun w => ?_) ?_
  · go_simp
  simp only [Act.put, List.setIfInBounds_toArray, List.set_cons_zero, List.set_cons_succ]
  refine take_move 7 (.tmp 58) (.bool true) rfl rfl rfl (by kernel_rfl) (by kernel_rfl) (by kernel_rfl) (fun _ _ _ h => h) rfl hHeld ?_
  simp only [Act.put, List.setIfInBounds_toArray, List.set_cons_zero, List.set_cons_succ]
  refine take_move 8 (.tmp 0) (.slice A n c) rfl rfl rfl (by kernel_rfl) (by kernel_rfl) (by kernel_rfl) (fun _ _ _ h => h) rfl hHeld ?_
  simp only [Act.put, List.setIfInBounds_toArray, List.set_cons_zero, List.set_cons_succ]
  refine take_move 9 (.tmp 1) (.slice B m d) rfl rfl rfl (by kernel_rfl) (by kernel_rfl) (by kernel_rfl) (fun _ _ _ h => h) rfl hHeld ?_
  simp only [Act.put, List.setIfInBounds_toArray, List.set_cons_zero, List.set_cons_succ]
  refine take_move 11 (.tmp 0) (.slice A n c) rfl rfl rfl (by kernel_rfl) (by kernel_rfl) (by kernel_rfl) (fun _ _ _ h => h) rfl hHeld ?_
  simp only [Act.put, List.setIfInBounds_toArray, List.set_cons_zero, List.set_cons_succ]
  refine take_move 12 (.tmp 1) (.slice B m d) rfl rfl rfl (by kernel_rfl) (by kernel_rfl) (by kernel_rfl) (fun _ _ _ h => h) rfl hHeld ?_
  simp only [Act.put, List.setIfInBounds_toArray, List.set_cons_zero, List.set_cons_succ]
  refine one_step 10 (by kernel_rfl) rfl (fun K hK => ?_)
  go_simp
  go_at_call 33
  refine (tag_any A B n c m d key b w7 (hKT.from hB7) (by omega) (by omega) (hk.below hB7) (hb.below hB7)).mono ?_
  rintro e w8 ⟨he, hb8⟩
  rw [← HTT.out] at he
  subst he
  have hB8 : Below w.heap.size w w8 := hB7.trans (hb8.mono hB7.size)
  have hZ8 := hZ7.keep hb8
  have hY8 := hY7.keep hb8
  have hX8 := hX7.keep hb8
  have hbt8 := hbt7.below hb8
  refine hK.out _ _ ⟨⟨⟨hB8, hZ8.range, hY8.range⟩, hX8⟩, hbt8⟩ (fun hHeld0 => ?_)
  clear hK K hb8 hHeld
  have hHeld := hHeld0
  clear hHeld0
  try simp only [Act.put, List.setIfInBounds_toArray, List.set_cons_zero, List.set_cons_succ]
  refine one_step 13 (by kernel_rfl) rfl (fun K hK => ?_)
  go_simp
  go_at_call 34
  refine (r2tag_any A B n c m d key b w8 (by omega) (by omega) (hk.below hB8) (hb.below hB8)).mono ?_
  rintro e w9 ⟨he, hb9⟩
  rw [← HTT.out] at he
  subst he
  have hB9 : Below w.heap.size w w9 := hB8.trans (hb9.mono hB8.size)
  have hZ9 := hZ8.keep hb9
  have hY9 := hY8.keep hb9
  have hX9 := hX8.keep hb9
  have hbt9 := hbt8.below hb9
  refine hK.out _ _ ⟨⟨⟨hB9, hZ9.range, hY9.range⟩, hX9⟩, hbt9⟩ (fun hHeld0 => ?_)
  clear hK K hb9 hHeld
  have hHeld := hHeld0
  clear hHeld0
  try simp only [Act.put, List.setIfInBounds_toArray, List.set_cons_zero, List.set_cons_succ]
  refine take_run 14 (.bool true) rfl (by kernel_rfl) (by kernel_rfl) (by kernel_rfl) (fun _ _ _ h => h) rfl hHeld (fun w => ?_) ?_
  · go_simp
  simp only [Act.put, List.setIfInBounds_toArray, List.set_cons_zero, List.set_cons_succ]
  refine take_run 15 (.bool true) rfl (by kernel_rfl) (by kernel_rfl) (by kernel_rfl) (fun _ _ _ h => h) rfl hHeld (fun w => ?_) ?_
  · go_simp
  simp only [Act.put, List.setIfInBounds_toArray, List.set_cons_zero, List.set_cons_succ]
  refine take_move 16 (.tmp 67) (.bool true) rfl rfl rfl (by kernel_rfl) (by kernel_rfl) (by kernel_rfl) (fun _ _ _ h => h) rfl hHeld ?_
  simp only [Act.put, List.setIfInBounds_toArray, List.set_cons_zero, List.set_cons_succ]
  refine take_long 17 33 (.tmp 10) w2.heap.size (byv Z) _ rfl rfl rfl (by kernel_rfl) (by kernel_rfl) (by kernel_rfl) (fun _ _ _ h => h) rfl hHeld (fun _ h => h.1.1.2.1) hu33 rfl (by rw [hZ32]; exact hi33) ?_
  simp only [Act.put, List.setIfInBounds_toArray, List.set_cons_zero, List.set_cons_succ]
  refine take_long 18 33 (.tmp 12) w4.heap.size (byv Z) _ rfl rfl rfl (by kernel_rfl) (by kernel_rfl) (by kernel_rfl) (fun _ _ _ h => h) rfl hHeld (fun _ h => h.1.1.2.2) hu33 rfl (by rw [hZ32]; exact hi33) ?_
  simp only [Act.put, List.setIfInBounds_toArray, List.set_cons_zero, List.set_cons_succ]
  refine take_run 19 (.bool true) rfl (by kernel_rfl) (by kernel_rfl) (by kernel_rfl) (fun _ _ _ h => h) rfl hHeld (fun w => ?_) ?_
  · go_simp
  simp only [Act.put, List.setIfInBounds_toArray, List.set_cons_zero, List.set_cons_succ]
  refine take_run 20 (.bool true) rfl (by kernel_rfl) (by kernel_rfl) (by kernel_rfl) (fun _ _ _ h => h) rfl hHeld (fun w => ?_) ?_
  · go_simp
  simp only [Act.put, List.setIfInBounds_toArray, List.set_cons_zero, List.set_cons_succ]
  refine take_move 21 (.tmp 72) (.bool true) rfl rfl rfl (by kernel_rfl) (by kernel_rfl) (by kernel_rfl) (fun _ _ _ h => h) rfl hHeld ?_
  simp only [Act.put, List.setIfInBounds_toArray, List.set_cons_zero, List.set_cons_succ]
  refine take_move 22 (.tmp 11) (.bool G) rfl rfl rfl (by kernel_rfl) (by kernel_rfl) (by kernel_rfl) (fun _ _ _ h => h) rfl hHeld ?_
  simp only [Act.put, List.setIfInBounds_toArray, List.set_cons_zero, List.set_cons_succ]
  refine take_move 23 (.tmp 13) (.bool G) rfl rfl rfl (by kernel_rfl) (by kernel_rfl) (by kernel_rfl) (fun _ _ _ h => h) rfl hHeld ?_
  simp only [Act.put, List.setIfInBounds_toArray, List.set_cons_zero, List.set_cons_succ]
  refine take_run 24 (.bool true) rfl (by kernel_rfl) (by kernel_rfl) (by kernel_rfl) (fun _ _ _ h => h) rfl hHeld (fun w => ?_) ?_
  · go_simp
  simp only [Act.put, List.setIfInBounds_toArray, List.set_cons_zero, List.set_cons_succ]
  refine take_run 25 (.bool true) rfl (by kernel_rfl) (by kernel_rfl) (by kernel_rfl) (fun _ _ _ h => h) rfl hHeld (fun w => ?_) ?_
  · go_simp
  simp only [Act.put, List.setIfInBounds_toArray, List.set_cons_zero, List.set_cons_succ]
  refine take_move 26 (.tmp 77) (.bool true) rfl rfl rfl (by kernel_rfl) (by kernel_rfl) (by kernel_rfl) (fun _ _ _ h => h) rfl hHeld ?_
  simp only [Act.put, List.setIfInBounds_toArray, List.set_cons_zero, List.set_cons_succ]
  refine take_move 27 (.tmp 1) (.slice B m d) rfl rfl rfl (by kernel_rfl) (by kernel_rfl) (by kernel_rfl) (fun _ _ _ h => h) rfl hHeld ?_
  simp only [Act.put, List.setIfInBounds_toArray, List.set_cons_zero, List.set_cons_succ]
  refine take_move 28 (.tmp 2) (.slice D p q) rfl rfl rfl (by kernel_rfl) (by kernel_rfl) (by kernel_rfl) (fun _ _ _ h => h) rfl hHeld ?_
  simp only [Act.put, List.setIfInBounds_toArray, List.set_cons_zero, List.set_cons_succ]
  refine take_move 30 (.tmp 1) (.slice B m d) rfl rfl rfl (by kernel_rfl) (by kernel_rfl) (by kernel_rfl) (fun _ _ _ h => h) rfl hHeld ?_
  simp only [Act.put, List.setIfInBounds_toArray, List.set_cons_zero, List.set_cons_succ]
  refine take_if 31 (.string s1) rfl (by kernel_rfl) (by kernel_rfl) (by kernel_rfl) (fun _ _ _ h => h) rfl hHeld (fun w' hw' => ?_) ?_
  · have hcv := k1 _ hw'.1.1.1
    go_simp
  simp only [Act.put, List.setIfInBounds_toArray, List.set_cons_zero, List.set_cons_succ]
  refine take_move 32 (.tmp 2) (.slice D p q) rfl rfl rfl (by kernel_rfl) (by kernel_rfl) (by kernel_rfl) (fun _ _ _ h => h) rfl hHeld ?_
  simp only [Act.put, List.setIfInBounds_toArray, List.set_cons_zero, List.set_cons_succ]
  refine take_if 33 (.string s2) rfl (by kernel_rfl) (by kernel_rfl) (by kernel_rfl) (fun _ _ _ h => h) rfl hHeld (fun w' hw' => ?_) ?_
  · have hcv := k2 _ hw'.1.1.1
    go_simp
  simp only [Act.put, List.setIfInBounds_toArray, List.set_cons_zero, List.set_cons_succ]
  refine take_run 34 (.bool E) rfl (by kernel_rfl) (by kernel_rfl) (by kernel_rfl) (fun _ _ _ h => h) rfl hHeld (fun w => ?_) ?_
  · go_simp
  simp only [Act.put, List.setIfInBounds_toArray, List.set_cons_zero, List.set_cons_succ]
  refine one_step 29 (by kernel_rfl) rfl (fun K hK => ?_)
  go_simp
  go_at_call 35
  refine (msame_any B D m d p q b c1 w9 (hb.below hB9) (hc.below hB9)).mono ?_
  rintro e w10 ⟨he, j10, hw10⟩
  rw [← HE.out] at he
  subst he
  have hb10 : Below w9.heap.size w9 w10 := by rw [hw10]; exact below_drewN (Below.refl _ _) _
  have hB10 : Below w.heap.size w w10 := hB9.trans (hb10.mono hB9.size)
  refine hK.out _ _ ⟨⟨⟨hB10, (hZ9.keep hb10).range, (hY9.keep hb10).range⟩, hX9.keep hb10⟩, hbt9.below hb10⟩ (fun hHeld0 => ?_)
  clear hK K hb10 hHeld hw10
  have hHeld := hHeld0
  clear hHeld0
  try simp only [Act.put, List.setIfInBounds_toArray, List.set_cons_zero, List.set_cons_succ]
  refine take_run 35 (.bool true) rfl (by kernel_rfl) (by kernel_rfl) (by kernel_rfl) (fun _ _ _ h => h) rfl hHeld (fun w => ?_) ?_
  · go_simp
  simp only [Act.put, List.setIfInBounds_toArray, List.set_cons_zero, List.set_cons_succ]
  refine take_run 36 (.bool true) rfl (by kernel_rfl) (by kernel_rfl) (by kernel_rfl) (fun _ _ _ h => h) rfl hHeld (fun w => ?_) ?_
  · go_simp
  simp only [Act.put, List.setIfInBounds_toArray, List.set_cons_zero, List.set_cons_succ]
  refine take_run 37 (.bool true) rfl (by kernel_rfl) (by kernel_rfl) (by kernel_rfl) (fun _ _ _ h => h) rfl hHeld (fun w => ?_) ?_
  · go_simp
  simp only [Act.put, List.setIfInBounds_toArray, List.set_cons_zero, List.set_cons_succ]
  refine wpAnyH_done (by kernel_rfl) ?_ _
  go_wp2
  go_ret
  exact ⟨rfl, hB10⟩

theorem mtel_all (A B D : Option Addr) (n c m d p q : Nat) (key b c1 : List Int) (s : ByteArray) (w : World) (hK : KTab w) (hk : Bts w A n c key) (hb : Bts w B m d b) (hc : Bts w D p q c1) (hs : s.size ≤ maxLen) :
    Calls Tryd.prog 9 #[.slice A n c, .slice B m d, .slice D p q, .string s] w fun e w' => e = .returned (.bool true) ∧ Below w.heap.size w w' := by
  by_cases h : 200 < n ∨ 200 < m ∨ 200 < p ∨ 200 < s.size
  · exact mtel_not A B D n c m d p q s w hK hk.small hb.small hc.small (by unfold maxLen at hs; omega) h
  · exact mtel_good A B D n c m d p q key b c1 s w hK (by omega) (by omega) (by omega) (by omega) hk hb hc
end Go.Proofs.YtomfnnhdihbpfaaDoor
