/- The walk over the law MacSame: two texts are the same just if all bytes are. -/
import Derived.Test.YtomfnnhdihbpfaaDoorMacStep
import Derived.Test.YtomfnnhdihbpfaaDoorMacPad
import Derived.Test.YtomfnnhdihbpfaaDoorMacAwake
import Derived.Test.YtomfnnhdihbpfaaDoorShaStr
import Derived.BigQuiet
namespace Go.Proofs.YtomfnnhdihbpfaaDoor
open Go.RowKit

set_option maxHeartbeats 400000 in
theorem msam_not (A B : Option Addr) (n c m d : Nat) (i x : Int) (w : World) (hK : KTab w) (hn : n ≤ 9223372036854775807) (hm : m ≤ 9223372036854775807) (h : 300 < n ∨ 300 < m) :
    Calls Tryd.prog 12 #[.slice A n c, .slice B m d, .int .i64 i, .int .u8 x] w fun e w' => e = .returned (.bool true) ∧ Below w.heap.size w w' := by
  by_cases h1 : 300 < n
  · have h2 : (300 : Int) < n := by omega
    clear h h1
    go_enter Tryd.func12, Tryd.ntmps12
    go_wp2_with (go_at_call 28; refine (mawake_any _ hK).mono ?_; rintro e w1 ⟨rfl, hb1⟩)
    go_ret
    exact ⟨rfl, hb1⟩
  · have h2 : (n : Int) ≤ 300 := by omega
    have h3 : (300 : Int) < m := by omega
    clear h h1
    go_enter Tryd.func12, Tryd.ntmps12
    go_wp2_with (go_at_call 28; refine (mawake_any _ hK).mono ?_; rintro e w1 ⟨rfl, hb1⟩)
    go_ret
    exact ⟨rfl, hb1⟩

/-- a text with another byte at one place is the same just if that byte is -/
theorem set_same (a : List Int) (k : Nat) (x : Int) (hk : k < a.length) : (a == a.set k x) = (a.getD k 0 == x) := by
  rw [Bool.eq_iff_iff, beq_iff_eq, beq_iff_eq]
  constructor
  · intro h
    have := congrArg (fun l => l.getD k 0) h
    simpa [List.getD_eq_getElem?_getD, List.getElem?_set, hk] using this
  · intro h
    refine ext_getD (by simp) (fun j hj => ?_)
    by_cases e : j = k
    · subst e
      simp [List.getD_eq_getElem?_getD, hj] at h ⊢
      exact h
    · simp [List.getD_eq_getElem?_getD, Ne.symm e]
theorem Bts.grown {w w' : World} {A : Option Addr} {n c : Nat} {l : List Int} {row : Option Nat} (h : Bts w A n c l) (hg : w.grownBy w' row) (hne : ∀ b off, A = some ⟨b, off, none⟩ → some b ≠ row) : Bts w' A n c l := by
  refine ⟨h.len, h.le, h.max, h.ok, h.bare, fun hn => ?_⟩
  obtain ⟨b, off, hA, hc⟩ := h.at_ hn
  refine ⟨b, off, hA, fun j hj => ?_⟩
  rw [World.cell?_of_block (w := w) (a := ⟨b, off + j, none⟩) (hg.block b (block_lt_of_cell (hc j hj)) (hne b off hA))]
  exact hc j hj
theorem more_not (a : List Int) (x : Int) : (a == a ++ [x]) = false := by
  rw [beq_eq_false_iff_ne]
  intro h
  have := congrArg List.length h
  simp at this
theorem run_eq_bstr (l m : List Int) (hl : ∀ j, 0 ≤ l.getD j 0 ∧ l.getD j 0 < 256) (hm : ∀ j, 0 ≤ m.getD j 0 ∧ m.getD j 0 < 256) : ((bstr l).toList == (bstr m).toList) = (l == m) := by
  rw [Bool.eq_iff_iff, beq_iff_eq, beq_iff_eq]
  exact ⟨bstr_inj hl hm, fun h => by rw [h]⟩
theorem comm_beq (a b : List Int) : (b == a) = (a == b) := by
  rw [Bool.eq_iff_iff, beq_iff_eq, beq_iff_eq]
  exact eq_comm

theorem Own.btsAt {w : World} {base g n cap : Nat} {l : List Int} (h : Own w base (.slice (some ⟨g, 0, none⟩) n cap) l) (hl : l.length = n) (hok : ∀ j, 0 ≤ l.getD j 0 ∧ l.getD j 0 < 256) : Bts w (some ⟨g, 0, none⟩) n cap l := by
  obtain ⟨A, cap', hv, hb⟩ := h.bts hok
  simp only [Value.slice.injEq] at hv
  obtain ⟨rfl, h2, rfl⟩ := hv
  rw [hl] at hb
  exact hb
theorem ok_set {l : List Int} (h : ∀ j, 0 ≤ l.getD j 0 ∧ l.getD j 0 < 256) (k : Nat) (x : Int) (h0 : 0 ≤ x) (h1 : x < 256) : ∀ j, 0 ≤ (l.set k x).getD j 0 ∧ (l.set k x).getD j 0 < 256 := by
  intro j
  have := h j
  simp only [List.getD_eq_getElem?_getD, List.getElem?_set] at this ⊢
  split
  · split
    · exact ⟨h0, h1⟩
    · simp
  · exact this

set_option maxRecDepth 100000 in
set_option maxHeartbeats 4000000 in
theorem msam_out (A B : Option Addr) (n c m d : Nat) (a b : List Int) (i : Int) (x : Int) (w : World) (hK : KTab w) (hn : n ≤ 300) (hm : m ≤ 300) (hx0 : 0 ≤ x) (hx1 : x < 256) (hi : i < 0 ∨ (n : Int) ≤ i) (ha : Bts w A n c a) (hb : Bts w B m d b) :
    Calls Tryd.prog 12 #[.slice A n c, .slice B m d, .int .i64 i, .int .u8 x] w fun e w' => e = .returned (.bool true) ∧ Below w.heap.size w w' := by
  obtain ⟨s1, hs1⟩ : ∃ s, s = bstr a := ⟨_, rfl⟩
  obtain ⟨s2, hs2⟩ : ∃ s, s = bstr b := ⟨_, rfl⟩
  obtain ⟨E, hE⟩ : ∃ E, E = (a == b) := ⟨_, rfl⟩
  have hstr : (s1.toList == s2.toList) = E := by rw [hs1, hs2, hE]; exact run_eq_bstr a b ha.ok hb.ok
  have hba : (b == a) = E := by rw [hE]; exact comm_beq a b
  have k1 : ∀ w', Below w.heap.size w w' → (convert 24 9 (.slice A n c)).run Tryd.prog w' = .ok (.string s1) w' := fun w' h => by rw [hs1]; exact conv_bts (ha.below h)
  have k2 : ∀ w', Below w.heap.size w w' → (convert 24 9 (.slice B m d)).run Tryd.prog w' = .ok (.string s2) w' := fun w' h => by rw [hs2]; exact conv_bts (hb.below h)
  have h1 : (n : Int) ≤ 300 := by omega
  have h2 : (m : Int) ≤ 300 := by omega
  have hal := ha.len
  have HE := Lib.hid hE
  have HBA := Lib.hid hba
  have HAL := Lib.hid hal
  clear hs1 hs2 hE hba hal
  go_enter Tryd.func12, Tryd.ntmps12
  go_wp2_with (go_at_call 28; refine (mawake_any _ hK).mono ?_; rintro e w1 ⟨rfl, hS1⟩)
  go_region_held3 (fun w' => Below w.heap.size w w') (first | with_reducible exact hS1.drew | with_reducible exact hS2 | with_reducible exact hS3 | with_reducible exact hS4 | with_reducible exact hS5 | with_reducible exact hS6 | with_reducible exact hS7 | with_reducible exact hS4.alloc hS4.size _ | with_reducible exact hS5.alloc hS5.size _)
    (first
    | (go_at_call 35; (with_reducible refine (msame_any A B n c m d a b w1.drew (ha.below hS1.drew) (hb.below hS1.drew)).mono ?_); rintro e w2 ⟨he, j2, hw2⟩
       rw [← HE.out] at he
       subst he
       have hS2 : Below w.heap.size w w2 := by rw [hw2]; exact below_drewN hS1.drew _
       clear hw2)
    | (go_at_call 35; (with_reducible refine (msame_any A B n c m d a b w2 (ha.below hS2) (hb.below hS2)).mono ?_); rintro e w3 ⟨he, j3, hw3⟩
       rw [← HE.out] at he
       subst he
       have hS3 : Below w.heap.size w w3 := by rw [hw3]; exact below_drewN hS2 _
       clear hw3)
    | (go_at_call 35; (with_reducible refine (msame_any B A m d n c b a w3 (hb.below hS3) (ha.below hS3)).mono ?_); rintro e w4 ⟨he, j4, hw4⟩
       rw [HBA.out] at he
       subst he
       have hS4 : Below w.heap.size w w4 := by rw [hw4]; exact below_drewN hS3 _
       clear hw4)
    | (go_at_call 35; (with_reducible refine (msame_any A A6 n c n6 c6 a (a ++ [x]) w6 (ha.below hS6) hbt6).mono ?_); rintro e w7 ⟨he, j7, hw7⟩
       rw [more_not] at he
       subst he
       have hS7 : Below w.heap.size w w7 := by rw [hw7]; exact below_drewN hS6 _
       clear hw7)
    | (refine step_append_o (.const (.slice none 0 0)) (.tmp 45) rfl w.heap.size (.slice none 0 0) [] rfl (Own.nil _ _) A n c a rfl (ha.below hS4) (by simp only [List.length_nil]; omega) hS4.size rfl ?_
       intro v5 w5 hown5 hg5
       rw [List.nil_append] at hown5
       have hS5 : Below w.heap.size w w5 := hS4.grown hg5 hS4.size (fun k hk => by cases hk)
       have hv5 := hown5.size
       clear hg5)
    | (refine step_append_o (.const (.slice none 0 0)) (.tmp 45) rfl w.heap.size (.slice none 0 0) [] rfl (Own.nil _ _) A n c a rfl (ha.below (hS4.alloc hS4.size _)) (by simp only [List.length_nil]; omega) (Nat.le_trans hS4.size (size_le_alloc _ _)) rfl ?_
       intro v5 w5 hown5 hg5
       rw [List.nil_append] at hown5
       have ho5 : Bts w5 (some ⟨w4.heap.size, 0, none⟩) 1 1 [x] := (one_bts w4 x hx0 hx1).grown hg5 (fun b off e => by simp [Value.ownBlock])
       have hS5 : Below w.heap.size w w5 := (hS4.alloc hS4.size _).grown hg5 (Nat.le_trans hS4.size (size_le_alloc _ _)) (fun k hk => by cases hk)
       have hv5 := hown5.size
       clear hg5)
    | (refine step_append_o (.tmp 46) (.tmp 48) rfl w.heap.size v5 a rfl hown5 (some ⟨w4.heap.size, 0, none⟩) 1 1 [x] rfl ho5 (by rw [HAL.out]; omega) hS5.size rfl ?_
       intro v6 w6 hown6 hg6
       have hS6 : Below w.heap.size w w6 := hS5.grown hg6 hS5.size (fun k hk => (hv5 k hk).1)
       obtain ⟨A6, n6, c6, rfl, hbt6⟩ := hown6.slice (ok_append ha.ok (ok_one1 x hx0 hx1))
       clear hg6 hown6)
    | (refine step_append_o (.tmp 46) (.tmp 48) rfl w.heap.size v5 a rfl (hown5.more _) (some ⟨w5.heap.size, 0, none⟩) 1 1 [x] rfl (one_bts w5 x hx0 hx1) (by rw [HAL.out]; omega) (Nat.le_trans hS5.size (size_le_alloc _ _)) rfl ?_
       intro v6 w6 hown6 hg6
       have hS6 : Below w.heap.size w w6 := (hS5.alloc hS5.size _).grown hg6 (Nat.le_trans hS5.size (size_le_alloc _ _)) (fun k hk => (hv5 k hk).1)
       obtain ⟨A6, n6, c6, rfl, hbt6⟩ := hown6.slice (ok_append ha.ok (ok_one1 x hx0 hx1))
       clear hg6 hown6))
  all_goals
    go_wp2_with (go_at_call 35; refine (msame_any A A n c n c a a w7 (ha.below hS7) (ha.below hS7)).mono ?_; rintro e w8 ⟨he, j8, hw8⟩
                 rw [beq_self_eq_true] at he
                 subst he
                 have hS8 : Below w.heap.size w w8 := by rw [hw8]; exact below_drewN hS7 _
                 clear hw8)
  all_goals
    go_ret
    exact ⟨rfl, hS8⟩

set_option maxRecDepth 100000 in
set_option maxHeartbeats 4000000 in
theorem msam_in (A B : Option Addr) (n c m d : Nat) (a b : List Int) (k : Nat) (x : Int) (w : World) (hK : KTab w) (hn : n ≤ 300) (hm : m ≤ 300) (hx0 : 0 ≤ x) (hx1 : x < 256) (hk : k < n) (ha : Bts w A n c a) (hb : Bts w B m d b) :
    Calls Tryd.prog 12 #[.slice A n c, .slice B m d, .int .i64 k, .int .u8 x] w fun e w' => e = .returned (.bool true) ∧ Below w.heap.size w w' := by
  obtain ⟨s1, hs1⟩ : ∃ s, s = bstr a := ⟨_, rfl⟩
  obtain ⟨s2, hs2⟩ : ∃ s, s = bstr b := ⟨_, rfl⟩
  obtain ⟨E, hE⟩ : ∃ E, E = (a == b) := ⟨_, rfl⟩
  have hstr : (s1.toList == s2.toList) = E := by rw [hs1, hs2, hE]; exact run_eq_bstr a b ha.ok hb.ok
  have hba : (b == a) = E := by rw [hE]; exact comm_beq a b
  have k1 : ∀ w', Below w.heap.size w w' → (convert 24 9 (.slice A n c)).run Tryd.prog w' = .ok (.string s1) w' := fun w' h => by rw [hs1]; exact conv_bts (ha.below h)
  have k2 : ∀ w', Below w.heap.size w w' → (convert 24 9 (.slice B m d)).run Tryd.prog w' = .ok (.string s2) w' := fun w' h => by rw [hs2]; exact conv_bts (hb.below h)
  have h1 : (n : Int) ≤ 300 := by omega
  have h2 : (m : Int) ≤ 300 := by omega
  have hal := ha.len
  have HE := Lib.hid hE
  have HBA := Lib.hid hba
  have HAL := Lib.hid hal
  obtain ⟨ba, oa, hA, hcells⟩ := ha.at_ (show 0 < n by omega)
  have hck := hcells k hk
  obtain ⟨y, hy⟩ : ∃ y, y = a.getD k 0 := ⟨_, rfl⟩
  rw [← hy] at hck
  have hset : (a == a.set k x) = (y == x) := by rw [hy]; exact set_same a k x (by omega)
  have hk0 : 0 ≤ (k : Int) := by omega
  have hk1 : (k : Int) < n := by omega
  have hbl := block_lt_of_cell hck
  have HA := Lib.hid hA
  have HCK := Lib.hid hck
  have HSET := Lib.hid hset
  clear hs1 hs2 hE hba hal hA hcells hck hy hset
  go_enter Tryd.func12, Tryd.ntmps12
  go_wp2_with (go_at_call 28; refine (mawake_any _ hK).mono ?_; rintro e w1 ⟨rfl, hS1⟩)
  go_region_held3 (fun w' => Below w.heap.size w w') (first | with_reducible exact hS1.drew | with_reducible exact hS2 | with_reducible exact hS3 | with_reducible exact hS4 | with_reducible exact hS5 | with_reducible exact hS6 | with_reducible exact hS7 | with_reducible exact hS4.alloc hS4.size _ | with_reducible exact hS5.alloc hS5.size _)
    (first
    | (go_at_call 35; (with_reducible refine (msame_any A B n c m d a b w1.drew (ha.below hS1.drew) (hb.below hS1.drew)).mono ?_); rintro e w2 ⟨he, j2, hw2⟩
       rw [← HE.out] at he
       subst he
       have hS2 : Below w.heap.size w w2 := by rw [hw2]; exact below_drewN hS1.drew _
       clear hw2)
    | (go_at_call 35; (with_reducible refine (msame_any A B n c m d a b w2 (ha.below hS2) (hb.below hS2)).mono ?_); rintro e w3 ⟨he, j3, hw3⟩
       rw [← HE.out] at he
       subst he
       have hS3 : Below w.heap.size w w3 := by rw [hw3]; exact below_drewN hS2 _
       clear hw3)
    | (go_at_call 35; (with_reducible refine (msame_any B A m d n c b a w3 (hb.below hS3) (ha.below hS3)).mono ?_); rintro e w4 ⟨he, j4, hw4⟩
       rw [HBA.out] at he
       subst he
       have hS4 : Below w.heap.size w w4 := by rw [hw4]; exact below_drewN hS3 _
       clear hw4)
    | (go_at_call 35; (with_reducible refine (msame_any A A6 n c n6 c6 a (a ++ [x]) w6 (ha.below hS6) hbt6).mono ?_); rintro e w7 ⟨he, j7, hw7⟩
       rw [more_not] at he
       subst he
       have hS7 : Below w.heap.size w w7 := by rw [hw7]; exact below_drewN hS6 _
       clear hw7)
    | (refine step_append_o (.const (.slice none 0 0)) (.tmp 45) rfl w.heap.size (.slice none 0 0) [] rfl (Own.nil _ _) A n c a rfl (ha.below hS4) (by simp only [List.length_nil]; omega) hS4.size rfl ?_
       intro v5 w5 hown5 hg5
       rw [List.nil_append] at hown5
       have hS5 : Below w.heap.size w w5 := hS4.grown hg5 hS4.size (fun k hk => by cases hk)
       have hv5 := hown5.size
       clear hg5)
    | (refine step_append_o (.const (.slice none 0 0)) (.tmp 45) rfl w.heap.size (.slice none 0 0) [] rfl (Own.nil _ _) A n c a rfl (ha.below (hS4.alloc hS4.size _)) (by simp only [List.length_nil]; omega) (Nat.le_trans hS4.size (size_le_alloc _ _)) rfl ?_
       intro v5 w5 hown5 hg5
       rw [List.nil_append] at hown5
       have ho5 : Bts w5 (some ⟨w4.heap.size, 0, none⟩) 1 1 [x] := (one_bts w4 x hx0 hx1).grown hg5 (fun b off e => by simp [Value.ownBlock])
       have hS5 : Below w.heap.size w w5 := (hS4.alloc hS4.size _).grown hg5 (Nat.le_trans hS4.size (size_le_alloc _ _)) (fun k hk => by cases hk)
       have hv5 := hown5.size
       clear hg5)
    | (refine step_append_o (.tmp 46) (.tmp 48) rfl w.heap.size v5 a rfl hown5 (some ⟨w4.heap.size, 0, none⟩) 1 1 [x] rfl ho5 (by rw [HAL.out]; omega) hS5.size rfl ?_
       intro v6 w6 hown6 hg6
       have hS6 : Below w.heap.size w w6 := hS5.grown hg6 hS5.size (fun k hk => (hv5 k hk).1)
       obtain ⟨A6, n6, c6, rfl, hbt6⟩ := hown6.slice (ok_append ha.ok (ok_one1 x hx0 hx1))
       clear hg6 hown6)
    | (refine step_append_o (.tmp 46) (.tmp 48) rfl w.heap.size v5 a rfl (hown5.more _) (some ⟨w5.heap.size, 0, none⟩) 1 1 [x] rfl (one_bts w5 x hx0 hx1) (by rw [HAL.out]; omega) (Nat.le_trans hS5.size (size_le_alloc _ _)) rfl ?_
       intro v6 w6 hown6 hg6
       have hS6 : Below w.heap.size w w6 := (hS5.alloc hS5.size _).grown hg6 (Nat.le_trans hS5.size (size_le_alloc _ _)) (fun k hk => (hv5 k hk).1)
       obtain ⟨A6, n6, c6, rfl, hbt6⟩ := hown6.slice (ok_append ha.ok (ok_one1 x hx0 hx1))
       clear hg6 hown6))
  all_goals
    go_wp2_with (first
      | (at_builtin
         refine wpList_append_b rfl (.const (.slice none 0 0)) (.tmp 63) rfl w.heap.size (.slice none 0 0) [] rfl (Own.nil _ _) A n c a rfl (ha.below hS7) (by simp only [List.length_nil]; omega) hS7.size ?_
         intro v8 w8 hown8 hg8
         rw [List.nil_append] at hown8
         have hS8 : Below w.heap.size w w8 := hS7.grown hg8 hS7.size (fun k hk => by cases hk)
         obtain ⟨g, cap, rfl, hgb, hgl, hgc, hgm⟩ := hown8.form (by rw [HAL.out]; omega)
         rw [HAL.out] at hown8 hgc ⊢
         have hcell8 := hown8.cell k (by rw [HAL.out]; exact hk) HAL.out
         have hfr8 := hown8.free k HAL.out
         clear hg8))
  all_goals
    generalize hW : World.setCell _ _ _ = W
    have hown9 : Own W w.heap.size (.slice (some ⟨g, 0, none⟩) n cap) (a.set k x) := by rw [← hW]; exact (hown8.put k x HAL.out).1
    have hS9 : Below w.heap.size w W := by rw [← hW]; exact hS8.setCell (p := ⟨g, k, none⟩) hgb _
    have hbt9 := hown9.btsAt (by rw [List.length_set]; exact HAL.out) (ok_set ha.ok k x hx0 hx1)
    have hA9 := ha.below hS9
    have hcA := (hS9.cell (p := ⟨ba, oa + k, none⟩) hbl).trans HCK.out
    have hA := HA.out
    subst hA
    clear hW hown8 hcell8 hfr8 hown9
    go_quiet ((go_at_call 35; exact Calls.quiet_of ((msame_any _ _ n c n cap a (a.set k x) _ (hA9.draw _) (hbt9.draw _)).mono fun _ _ h => ⟨h.1.trans (congrArg (fun b => Ending.returned (Value.bool b)) HSET.out), h.2⟩)))
    go_wp2
    go_ret
    exact ⟨by simp, below_drewN hS9 _⟩

theorem msam_all (A B : Option Addr) (n c m d : Nat) (a b : List Int) (i x : Int) (w : World) (hK : KTab w) (hx0 : 0 ≤ x) (hx1 : x < 256) (ha : Bts w A n c a) (hb : Bts w B m d b) :
    Calls Tryd.prog 12 #[.slice A n c, .slice B m d, .int .i64 i, .int .u8 x] w fun e w' => e = .returned (.bool true) ∧ Below w.heap.size w w' := by
  by_cases h : 300 < n ∨ 300 < m
  · exact msam_not A B n c m d i x w hK ha.small hb.small h
  · by_cases h2 : i < 0 ∨ (n : Int) ≤ i
    · exact msam_out A B n c m d a b i x w hK (by omega) (by omega) hx0 hx1 h2 ha hb
    · obtain ⟨k, rfl⟩ := Int.eq_ofNat_of_zero_le (show 0 ≤ i by omega)
      exact msam_in A B n c m d a b k x w hK (by omega) (by omega) hx0 hx1 (by omega) ha hb
end Go.Proofs.YtomfnnhdihbpfaaDoor
