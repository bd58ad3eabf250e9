/- Joined texts: The walk over the law FrameTells: frames as bytes are what the document says. -/
import Derived.Test.YtncedbjbooemjaaFtJK
import Derived.Test.YtncedbjbooemjaaFtJL
/- The walk over the law FrameTells: frames as bytes are what the document says. -/
namespace Go.Proofs.Ytncedbjbooemjaa
set_option linter.unusedVariables false
set_option linter.unusedSimpArgs false
open Go.RowKit

set_option maxRecDepth 100000 in
theorem ftells_big (f : Fr) (A : Option Addr) (n c : Nat) (w : World) (hn : 400 < n) :
    Calls Try.prog 3 #[frV f, .slice A n c] w fun e w' => e = .returned (.bool true) ∧ Below w.heap.size w w' := by
  have hn' : (400 : Int) < n := by omega
  unfold frV
  obtain ⟨C, hC⟩ : ∃ C, frA f = C := ⟨_, rfl⟩
  rw [hC]
  go_enter Try.func3, Try.ntmps3
  go_wp2_with (go_at_call 9; (with_reducible refine (fawake_any _).mono ?_); rintro e w1 ⟨rfl, hb1⟩
               have hB1 := (after_one hb1).1)
  go_ret
  exact ⟨rfl, hB1⟩

set_option maxRecDepth 100000 in
set_option maxHeartbeats 8000000 in
/-- the law, once it is known that both sides give one thing -/
theorem ftells_core (C H : List Value) (X Y l R : List Int) (q : Bool) (E : Int) (L : List (List Int)) (A : Option Addr) (n c : Nat) (w : World) (hn : n ≤ 400) (hb : Bts w A n c l) (hCl : C.length = 40) (hHl : H.length = 40) (hH1 : H.toArray.all (·.oneCell') = true)
    (hp : ∀ w, Calls Try.prog 10 #[.agg C.toArray] w (GivesB X q w)) (hq : ∀ w, Calls Try.prog 11 #[.agg C.toArray] w (GivesB X q w))
    (hr : ∀ (A : Option Addr) (n c : Nat) (w : World), Bts w A n c l → Calls Try.prog 12 #[.slice A n c] w fun e w' => e = .returned (.tuple #[.agg H.toArray, .int .i64 E]) ∧ Below w.heap.size w w')
    (hs : ∀ (A : Option Addr) (n c : Nat) (w : World), Bts w A n c l → Calls Try.prog 13 #[.slice A n c] w fun e w' => e = .returned (.tuple #[.agg H.toArray, .int .i64 E]) ∧ Below w.heap.size w w')
    (ht : ∀ (A : Option Addr) (n c : Nat) (w : World), Bts w A n c l → Calls Try.prog 14 #[.slice A n c] w fun e w' => ∃ A1 n1 c1 A2 n2 c2 sl, e = .returned (.tuple #[.slice A1 n1 c1, .slice A2 n2 c2]) ∧ Lst w' A1 n1 c1 sl L ∧ Bts w' A2 n2 c2 R ∧ Below w.heap.size w w')
    (hu : ∀ (A : Option Addr) (n c : Nat) (w : World), Bts w A n c l → Calls Try.prog 15 #[.slice A n c] w fun e w' => ∃ A1 n1 c1 A2 n2 c2 sl, e = .returned (.tuple #[.slice A1 n1 c1, .slice A2 n2 c2]) ∧ Lst w' A1 n1 c1 sl L ∧ Bts w' A2 n2 c2 R ∧ Below w.heap.size w w')
    (hbd : ∀ w, Calls Try.prog 17 #[.agg C.toArray] w (GivesS Y w)) (hbe : ∀ w, Calls Try.prog 18 #[.agg C.toArray] w (GivesS Y w))
    (heq : ∀ w, (Op.equalIn 10000 26 (.agg H.toArray) (.agg H.toArray)).run Try.prog w = .ok true w) :
    Calls Try.prog 3 #[.agg C.toArray, .slice A n c] w fun e w' => e = .returned (.bool true) ∧ Below w.heap.size w w' := by
  have hn' : (n : Int) ≤ 400 := by omega
  have hCs : C.toArray.size = 40 := by simpa using hCl
  have hHs : H.toArray.size = 40 := by simpa using hHl
  obtain ⟨s1, hs1⟩ : ∃ z, bstr X = z := ⟨_, rfl⟩
  obtain ⟨s2, hs2⟩ : ∃ z, bstr R = z := ⟨_, rfl⟩
  obtain ⟨s3, hs3⟩ : ∃ z, bstr Y = z := ⟨_, rfl⟩
  have HP := Lib.hid hp
  have HQ := Lib.hid hq
  have HR := Lib.hid hr
  have HS := Lib.hid hs
  have HT := Lib.hid ht
  have HU := Lib.hid hu
  have HBD := Lib.hid hbd
  have HBE := Lib.hid hbe
  have HEQ := Lib.hid heq
  have HCS := Lib.hid hCs
  have HHS := Lib.hid hHs
  have HCL := Lib.hid hCl
  have HHL := Lib.hid hHl
  have HH1 := Lib.hid hH1
  have HB := Lib.hid hb
  have HS1 := Lib.hid hs1
  have HS2 := Lib.hid hs2
  have HS3 := Lib.hid hs3
  clear hp hq hr hs ht hu hbd hbe heq hCs hHs hCl hHl hH1 hb hs1 hs2 hs3 hn
  go_enter Try.func3, Try.ntmps3
  go_wp2_with (first
    | (go_at_call 9; (with_reducible refine (fawake_any _).mono ?_); rintro e w1 ⟨rfl, hb1⟩
       have hB1 := (after_one hb1).1
       have hX1 := (after_one hb1).2.2
       clear hb1)
    | ((with_reducible refine wpList_load_blk 26 _ rfl w.heap.size ?hxa1 26 C.toArray (0, 0) _ hX1 Try.underlying26 ?hda1 (info_frame HCS.out) ?_ ?hwa1); (case hxa1 => rfl); (case hda1 => rfl); (case hwa1 => rfl))
    | (go_at_call 10; (with_reducible refine (HP.out _).mono ?_); rintro e w2 ⟨A2, m2, c2, rfl, hv2, hb2⟩
       have hB2 := hB1.trans (hb2.mono hB1.size)
       have hX2 := (hb2.block _ (Array.getElem?_eq_some_iff.1 hX1).1).trans hX1
       clear hb2 hX1 hB1)
    | ((with_reducible refine wpList_load_blk 26 _ rfl w.heap.size ?hxa2 26 C.toArray (0, 0) _ hX2 Try.underlying26 ?hda2 (info_frame HCS.out) ?_ ?hwa2); (case hxa2 => rfl); (case hda2 => rfl); (case hwa2 => rfl))
    | (go_at_call 11; (with_reducible refine (HQ.out _).mono ?_); rintro e w3 ⟨A3, m3, c3, rfl, hu3, hb3⟩
       have hB3 := hB2.trans (hb3.mono hB2.size)
       have hX3 := (hb3.block _ (Array.getElem?_eq_some_iff.1 hX2).1).trans hX2
       have hv3 := hv2.below hb3
       clear hb3 hX2 hv2 hB2)
    | (go_at_call 12; (with_reducible refine (HR.out A n c w3 (HB.out.below hB3)).mono ?_); rintro e w4 ⟨rfl, hb4⟩
       have hB4 := hB3.trans (hb4.mono hB3.size)
       have hX4 := (hb4.block _ (Array.getElem?_eq_some_iff.1 hX3).1).trans hX3
       have hv4 := hv3.below hb4
       have hu4 := hu3.below hb4
       clear hb4 hX3 hv3 hu3 hB3)
    | ((with_reducible refine wpList_store_blk rfl 26 _ _ rfl w4.heap.size H.toArray ?hxs5 ?hys5 26 _ (heap_alloc_new w4 _) (info_frame HHS.out) ?hss5 HH1.out ?_); (case hxs5 => rfl); (case hys5 => rfl); (case hss5 => rw [HHS.out]; rfl)
       intro w5 hg5 hY5 hs5
       have hB5 : Below w.heap.size w w5 := (hB4.alloc hB4.size _).grown hg5 (Nat.le_trans hB4.size (size_le_alloc _ _)) (fun k e => by cases e; exact hB4.size)
       have hb5 : Below w4.heap.size w4 w5 := (one_alloc w4 _).grown hg5 (size_le_alloc _ _) (fun k e => by cases e; exact Nat.le_refl _)
       have hX5 := (hb5.block _ (Array.getElem?_eq_some_iff.1 hX4).1).trans hX4
       have hv5 := hv4.below hb5
       have hu5 := hu4.below hb5
       clear hg5 hs5 hb5 hX4 hv4 hu4 hB4)
    | (go_at_call 13; (with_reducible refine (HS.out A n c w5 (HB.out.below hB5)).mono ?_); rintro e w6 ⟨rfl, hb6⟩
       have hB6 := hB5.trans (hb6.mono hB5.size)
       have hX6 := (hb6.block _ (Array.getElem?_eq_some_iff.1 hX5).1).trans hX5
       have hv6 := hv5.below hb6
       have hu6 := hu5.below hb6
       have hY6 := (hb6.block _ (Array.getElem?_eq_some_iff.1 hY5).1).trans hY5
       clear hb6 hX5 hv5 hu5 hY5 hB5)
    | ((with_reducible refine wpList_store_blk rfl 26 _ _ rfl w6.heap.size H.toArray ?hxs7 ?hys7 26 _ (heap_alloc_new w6 _) (info_frame HHS.out) ?hss7 HH1.out ?_); (case hxs7 => rfl); (case hys7 => rfl); (case hss7 => rw [HHS.out]; rfl)
       intro w7 hg7 hZ7 hs7
       have hB7 : Below w.heap.size w w7 := (hB6.alloc hB6.size _).grown hg7 (Nat.le_trans hB6.size (size_le_alloc _ _)) (fun k e => by cases e; exact hB6.size)
       have hb7 : Below w6.heap.size w6 w7 := (one_alloc w6 _).grown hg7 (size_le_alloc _ _) (fun k e => by cases e; exact Nat.le_refl _)
       have hX7 := (hb7.block _ (Array.getElem?_eq_some_iff.1 hX6).1).trans hX6
       have hv7 := hv6.below hb7
       have hu7 := hu6.below hb7
       have hY7 := (hb7.block _ (Array.getElem?_eq_some_iff.1 hY6).1).trans hY6
       clear hg7 hs7 hb7 hX6 hv6 hu6 hY6 hB6)
    | (go_at_call 14; (with_reducible refine (HT.out A n c w7 (HB.out.below hB7)).mono ?_); rintro e w8 ⟨A8, n8, c8, A9, n9, c9, sl, rfl, hl8, hr8, hb8⟩
       have hB8 := hB7.trans (hb8.mono hB7.size)
       have hX8 := (hb8.block _ (Array.getElem?_eq_some_iff.1 hX7).1).trans hX7
       have hv8 := hv7.below hb8
       have hu8 := hu7.below hb8
       have hY8 := (hb8.block _ (Array.getElem?_eq_some_iff.1 hY7).1).trans hY7
       have hZ8 := (hb8.block _ (Array.getElem?_eq_some_iff.1 hZ7).1).trans hZ7
       clear hb8 hX7 hv7 hu7 hY7 hZ7 hB7)
    | (go_at_call 15; (with_reducible refine (HU.out A n c w8 (HB.out.below hB8)).mono ?_); rintro e w9 ⟨A10, n10, c10, A11, n11, c11, sm, rfl, hm9, hq9, hb9⟩
       have hB9 := hB8.trans (hb9.mono hB8.size)
       have hX9 := (hb9.block _ (Array.getElem?_eq_some_iff.1 hX8).1).trans hX8
       have hv9 := hv8.below hb9
       have hu9 := hu8.below hb9
       have hY9 := (hb9.block _ (Array.getElem?_eq_some_iff.1 hY8).1).trans hY8
       have hZ9 := (hb9.block _ (Array.getElem?_eq_some_iff.1 hZ8).1).trans hZ8
       have hl9 := hl8.below hb9
       have hr9 := hr8.below hb9
       clear hb9 hX8 hv8 hu8 hY8 hZ8 hl8 hr8 hB8)
    | (go_at_call 16; (with_reducible refine (rows_any A8 A10 n8 c8 n10 c10 sl sm L L w9 hl9 hm9).mono ?_); rintro e w10 ⟨he, j, hw10⟩
       rw [beq_self_eq_true] at he
       subst he
       have hb10 : Below w9.heap.size w9 w10 := by rw [hw10]; exact below_drewN (Below.refl _ _) _
       have hB10 := hB9.trans (hb10.mono hB9.size)
       have hX10 := (hb10.block _ (Array.getElem?_eq_some_iff.1 hX9).1).trans hX9
       have hv10 := hv9.below hb10
       have hu10 := hu9.below hb10
       have hY10 := (hb10.block _ (Array.getElem?_eq_some_iff.1 hY9).1).trans hY9
       have hZ10 := (hb10.block _ (Array.getElem?_eq_some_iff.1 hZ9).1).trans hZ9
       have hr10 := hr9.below hb10
       have hq10 := hq9.below hb10
       clear hb10 hw10 hX9 hv9 hu9 hY9 hZ9 hl9 hr9 hm9 hq9 hB9))
  have KV : ∀ w', Below w10.heap.size w10 w' → (convert 27 9 (.slice A2 m2 c2)).run Try.prog w' = .ok (.string s1) w' := fun w' h => by rw [← HS1.out]; exact conv_bts (hv10.below h)
  have KU : ∀ w', Below w10.heap.size w10 w' → (convert 27 9 (.slice A3 m3 c3)).run Try.prog w' = .ok (.string s1) w' := fun w' h => by rw [← HS1.out]; exact conv_bts (hu10.below h)
  have KR : ∀ w', Below w10.heap.size w10 w' → (convert 27 9 (.slice A9 n9 c9)).run Try.prog w' = .ok (.string s2) w' := fun w' h => by rw [← HS2.out]; exact conv_bts (hr10.below h)
  have KQ : ∀ w', Below w10.heap.size w10 w' → (convert 27 9 (.slice A11 n11 c11)).run Try.prog w' = .ok (.string s2) w' := fun w' h => by rw [← HS2.out]; exact conv_bts (hq10.below h)
  have KX : ∀ w', Below w10.heap.size w10 w' → w'.heap[w.heap.size]? = some (.cells C.toArray 26 (0, 0)) := fun w' h => (h.block _ (Array.getElem?_eq_some_iff.1 hX10).1).trans hX10
  have KY : ∀ w', Below w10.heap.size w10 w' → w'.heap[w4.heap.size]? = some (.cells H.toArray 26 (0, 0)) := fun w' h => (h.block _ (Array.getElem?_eq_some_iff.1 hY10).1).trans hY10
  have KZ : ∀ w', Below w10.heap.size w10 w' → w'.heap[w6.heap.size]? = some (.cells H.toArray 26 (0, 0)) := fun w' h => (h.block _ (Array.getElem?_eq_some_iff.1 hZ10).1).trans hZ10
  clear hX10 hv10 hu10 hY10 hZ10 hr10 hq10
  refine wp_region_held_drew (S := (fun w' => Below w10.heap.size w10 w')) (by kernel_rfl) (Below.refl _ _).drew (fun hHeld => ?_)
  refine take_move 0 (.tmp 6) (.slice A2 m2 c2) rfl rfl rfl (by kernel_rfl) (by kernel_rfl) (by kernel_rfl) (fun _ _ _ h => h) rfl hHeld ?_
  simp only [Act.put, List.setIfInBounds_toArray, List.set_cons_zero, List.set_cons_succ]
  refine take_if 1 (.string s1) rfl (by kernel_rfl) (by kernel_rfl) (by kernel_rfl) (fun _ _ _ h => h) rfl hHeld (fun w' hw' => ?_) ?_
  · have hc := KV w' hw'
    go_simp
  simp only [Act.put, List.setIfInBounds_toArray, List.set_cons_zero, List.set_cons_succ]
  refine take_move 2 (.tmp 8) (.slice A3 m3 c3) rfl rfl rfl (by kernel_rfl) (by kernel_rfl) (by kernel_rfl) (fun _ _ _ h => h) rfl hHeld ?_
  simp only [Act.put, List.setIfInBounds_toArray, List.set_cons_zero, List.set_cons_succ]
  refine take_if 3 (.string s1) rfl (by kernel_rfl) (by kernel_rfl) (by kernel_rfl) (fun _ _ _ h => h) rfl hHeld (fun w' hw' => ?_) ?_
  · have hc := KU w' hw'
    go_simp
  simp only [Act.put, List.setIfInBounds_toArray, List.set_cons_zero, List.set_cons_succ]
  refine take_run 4 (.bool true) rfl (by kernel_rfl) (by kernel_rfl) (by kernel_rfl) (fun _ _ _ h => h) rfl hHeld (fun w => ?_) ?_
  · go_simp
  simp only [Act.put, List.setIfInBounds_toArray, List.set_cons_zero, List.set_cons_succ]
  refine take_move 5 (.tmp 65) (.bool true) rfl rfl rfl (by kernel_rfl) (by kernel_rfl) (by kernel_rfl) (fun _ _ _ h => h) rfl hHeld ?_
  simp only [Act.put, List.setIfInBounds_toArray, List.set_cons_zero, List.set_cons_succ]
  refine take_move 6 (.tmp 7) (.bool q) rfl rfl rfl (by kernel_rfl) (by kernel_rfl) (by kernel_rfl) (fun _ _ _ h => h) rfl hHeld ?_
  simp only [Act.put, List.setIfInBounds_toArray, List.set_cons_zero, List.set_cons_succ]
  refine take_move 7 (.tmp 9) (.bool q) rfl rfl rfl (by kernel_rfl) (by kernel_rfl) (by kernel_rfl) (fun _ _ _ h => h) rfl hHeld ?_
  simp only [Act.put, List.setIfInBounds_toArray, List.set_cons_zero, List.set_cons_succ]
  refine take_run 8 (.bool true) rfl (by kernel_rfl) (by kernel_rfl) (by kernel_rfl) (fun _ _ _ h => h) rfl hHeld (fun w => ?_) ?_
  · go_simp
  simp only [Act.put, List.setIfInBounds_toArray, List.set_cons_zero, List.set_cons_succ]
  refine take_run 9 (.bool true) rfl (by kernel_rfl) (by kernel_rfl) (by kernel_rfl) (fun _ _ _ h => h) rfl hHeld (fun w => ?_) ?_
  · go_simp
  simp only [Act.put, List.setIfInBounds_toArray, List.set_cons_zero, List.set_cons_succ]
  refine take_move 10 (.tmp 70) (.bool true) rfl rfl rfl (by kernel_rfl) (by kernel_rfl) (by kernel_rfl) (fun _ _ _ h => h) rfl hHeld ?_
  simp only [Act.put, List.setIfInBounds_toArray, List.set_cons_zero, List.set_cons_succ]
  refine take_long 11 26 (.tmp 10) w4.heap.size H _ rfl rfl rfl (by kernel_rfl) (by kernel_rfl) (by kernel_rfl) (fun _ _ _ h => h) rfl hHeld (fun w' h => range_of_blk (KY w' h)) Try.underlying26 rfl (info_row HHL.out) ?_
  simp only [Act.put, List.setIfInBounds_toArray, List.set_cons_zero, List.set_cons_succ]
  refine take_long 12 26 (.tmp 12) w6.heap.size H _ rfl rfl rfl (by kernel_rfl) (by kernel_rfl) (by kernel_rfl) (fun _ _ _ h => h) rfl hHeld (fun w' h => range_of_blk (KZ w' h)) Try.underlying26 rfl (info_row HHL.out) ?_
  simp only [Act.put, List.setIfInBounds_toArray, List.set_cons_zero, List.set_cons_succ]
  refine take_run 13 (.bool true) rfl (by kernel_rfl) (by kernel_rfl) (by kernel_rfl) (fun _ _ _ h => h) rfl hHeld (fun w => ?_) ?_
  · exact run_eq_fr rfl rfl rfl (.inl ⟨rfl, rfl⟩) (HEQ.out w)
  simp only [Act.put, List.setIfInBounds_toArray, List.set_cons_zero, List.set_cons_succ]
  refine take_run 14 (.bool true) rfl (by kernel_rfl) (by kernel_rfl) (by kernel_rfl) (fun _ _ _ h => h) rfl hHeld (fun w => ?_) ?_
  · go_simp
  simp only [Act.put, List.setIfInBounds_toArray, List.set_cons_zero, List.set_cons_succ]
  refine take_move 15 (.tmp 75) (.bool true) rfl rfl rfl (by kernel_rfl) (by kernel_rfl) (by kernel_rfl) (fun _ _ _ h => h) rfl hHeld ?_
  simp only [Act.put, List.setIfInBounds_toArray, List.set_cons_zero, List.set_cons_succ]
  refine take_move 16 (.tmp 11) (.int .i64 E) rfl rfl rfl (by kernel_rfl) (by kernel_rfl) (by kernel_rfl) (fun _ _ _ h => h) rfl hHeld ?_
  simp only [Act.put, List.setIfInBounds_toArray, List.set_cons_zero, List.set_cons_succ]
  refine take_move 17 (.tmp 13) (.int .i64 E) rfl rfl rfl (by kernel_rfl) (by kernel_rfl) (by kernel_rfl) (fun _ _ _ h => h) rfl hHeld ?_
  simp only [Act.put, List.setIfInBounds_toArray, List.set_cons_zero, List.set_cons_succ]
  refine take_run 18 (.bool true) rfl (by kernel_rfl) (by kernel_rfl) (by kernel_rfl) (fun _ _ _ h => h) rfl hHeld (fun w => ?_) ?_
  · go_simp
  simp only [Act.put, List.setIfInBounds_toArray, List.set_cons_zero, List.set_cons_succ]
  refine take_run 19 (.bool true) rfl (by kernel_rfl) (by kernel_rfl) (by kernel_rfl) (fun _ _ _ h => h) rfl hHeld (fun w => ?_) ?_
  · go_simp
  simp only [Act.put, List.setIfInBounds_toArray, List.set_cons_zero, List.set_cons_succ]
  refine take_move 20 (.tmp 80) (.bool true) rfl rfl rfl (by kernel_rfl) (by kernel_rfl) (by kernel_rfl) (fun _ _ _ h => h) rfl hHeld ?_
  simp only [Act.put, List.setIfInBounds_toArray, List.set_cons_zero, List.set_cons_succ]
  refine take_move 21 (.tmp 18) (.bool true) rfl rfl rfl (by kernel_rfl) (by kernel_rfl) (by kernel_rfl) (fun _ _ _ h => h) rfl hHeld ?_
  simp only [Act.put, List.setIfInBounds_toArray, List.set_cons_zero, List.set_cons_succ]
  refine take_run 22 (.bool true) rfl (by kernel_rfl) (by kernel_rfl) (by kernel_rfl) (fun _ _ _ h => h) rfl hHeld (fun w => ?_) ?_
  · go_simp
  simp only [Act.put, List.setIfInBounds_toArray, List.set_cons_zero, List.set_cons_succ]
  refine take_move 23 (.tmp 83) (.bool true) rfl rfl rfl (by kernel_rfl) (by kernel_rfl) (by kernel_rfl) (fun _ _ _ h => h) rfl hHeld ?_
  simp only [Act.put, List.setIfInBounds_toArray, List.set_cons_zero, List.set_cons_succ]
  refine take_move 24 (.tmp 15) (.slice A9 n9 c9) rfl rfl rfl (by kernel_rfl) (by kernel_rfl) (by kernel_rfl) (fun _ _ _ h => h) rfl hHeld ?_
  simp only [Act.put, List.setIfInBounds_toArray, List.set_cons_zero, List.set_cons_succ]
  refine take_if 25 (.string s2) rfl (by kernel_rfl) (by kernel_rfl) (by kernel_rfl) (fun _ _ _ h => h) rfl hHeld (fun w' hw' => ?_) ?_
  · have hc := KR w' hw'
    go_simp
  simp only [Act.put, List.setIfInBounds_toArray, List.set_cons_zero, List.set_cons_succ]
  refine take_move 26 (.tmp 17) (.slice A11 n11 c11) rfl rfl rfl (by kernel_rfl) (by kernel_rfl) (by kernel_rfl) (fun _ _ _ h => h) rfl hHeld ?_
  simp only [Act.put, List.setIfInBounds_toArray, List.set_cons_zero, List.set_cons_succ]
  refine take_if 27 (.string s2) rfl (by kernel_rfl) (by kernel_rfl) (by kernel_rfl) (fun _ _ _ h => h) rfl hHeld (fun w' hw' => ?_) ?_
  · have hc := KQ w' hw'
    go_simp
  simp only [Act.put, List.setIfInBounds_toArray, List.set_cons_zero, List.set_cons_succ]
  refine take_run 28 (.bool true) rfl (by kernel_rfl) (by kernel_rfl) (by kernel_rfl) (fun _ _ _ h => h) rfl hHeld (fun w => ?_) ?_
  · go_simp
  simp only [Act.put, List.setIfInBounds_toArray, List.set_cons_zero, List.set_cons_succ]
  refine take_run 29 (.bool true) rfl (by kernel_rfl) (by kernel_rfl) (by kernel_rfl) (fun _ _ _ h => h) rfl hHeld (fun w => ?_) ?_
  · go_simp
  simp only [Act.put, List.setIfInBounds_toArray, List.set_cons_zero, List.set_cons_succ]
  refine take_move 30 (.tmp 90) (.bool true) rfl rfl rfl (by kernel_rfl) (by kernel_rfl) (by kernel_rfl) (fun _ _ _ h => h) rfl hHeld ?_
  simp only [Act.put, List.setIfInBounds_toArray, List.set_cons_zero, List.set_cons_succ]
  refine take_long 31 26 (.tmp 2) w.heap.size C _ rfl rfl rfl (by kernel_rfl) (by kernel_rfl) (by kernel_rfl) (fun _ _ _ h => h) rfl hHeld (fun w' h => range_of_blk (KX w' h)) Try.underlying26 rfl (info_row HCL.out) ?_
  simp only [Act.put, List.setIfInBounds_toArray, List.set_cons_zero, List.set_cons_succ]
  refine take_long 34 26 (.tmp 2) w.heap.size C _ rfl rfl rfl (by kernel_rfl) (by kernel_rfl) (by kernel_rfl) (fun _ _ _ h => h) rfl hHeld (fun w' h => range_of_blk (KX w' h)) Try.underlying26 rfl (info_row HCL.out) ?_
  simp only [Act.put, List.setIfInBounds_toArray, List.set_cons_zero, List.set_cons_succ]
  refine one_step 32 (by kernel_rfl) rfl (fun K hK => ?_)
  go_simp
  go_at_call 17
  refine (HBD.out _).mono ?_
  rintro e w11 ⟨A13, m13, c13, rfl, hv13, hb11⟩
  have hb11 := below_draw hb11
  refine hK.out _ _ hb11 (fun hHeld0 => ?_)
  clear hK K hHeld
  try simp only [Act.put, List.setIfInBounds_toArray, List.set_cons_zero, List.set_cons_succ]
  refine wpAnyH_mono (S' := (fun w' => Below w11.heap.size w11 w')) (fun _ h => hb11.trans (h.mono hb11.size)) _ ?_
  have hHeld : (fun w' => Below w11.heap.size w11 w') w11 := Below.refl _ _
  have KB : ∀ w', Below w11.heap.size w11 w' → (convert 27 9 (.slice A13 m13 c13)).run Try.prog w' = .ok (.string s3) w' := fun w' h => by rw [← HS3.out]; exact conv_bts (hv13.below h)
  clear hHeld0 hv13
  refine take_if 33 (.string s3) rfl (by kernel_rfl) (by kernel_rfl) (by kernel_rfl) (fun _ _ _ h => h) rfl hHeld (fun w' hw' => ?_) ?_
  · have hc := KB w' hw'
    go_simp
  simp only [Act.put, List.setIfInBounds_toArray, List.set_cons_zero, List.set_cons_succ]
  refine one_step 35 (by kernel_rfl) rfl (fun K hK => ?_)
  go_simp
  go_at_call 18
  refine (HBE.out _).mono ?_
  rintro e w12 ⟨A14, m14, c14, rfl, hv14, hb12⟩
  refine hK.out _ _ hb12 (fun hHeld0 => ?_)
  clear hK K hHeld
  try simp only [Act.put, List.setIfInBounds_toArray, List.set_cons_zero, List.set_cons_succ]
  refine wpAnyH_mono (S' := (fun w' => Below w12.heap.size w12 w')) (fun _ h => hb12.trans (h.mono hb12.size)) _ ?_
  have hHeld : (fun w' => Below w12.heap.size w12 w') w12 := Below.refl _ _
  have KC : ∀ w', Below w12.heap.size w12 w' → (convert 27 9 (.slice A14 m14 c14)).run Try.prog w' = .ok (.string s3) w' := fun w' h => by rw [← HS3.out]; exact conv_bts (hv14.below h)
  clear hHeld0 hv14
  refine take_if 36 (.string s3) rfl (by kernel_rfl) (by kernel_rfl) (by kernel_rfl) (fun _ _ _ h => h) rfl hHeld (fun w' hw' => ?_) ?_
  · have hc := KC w' hw'
    go_simp
  simp only [Act.put, List.setIfInBounds_toArray, List.set_cons_zero, List.set_cons_succ]
  refine take_run 37 (.bool true) rfl (by kernel_rfl) (by kernel_rfl) (by kernel_rfl) (fun _ _ _ h => h) rfl hHeld (fun w => ?_) ?_
  · go_simp
  simp only [Act.put, List.setIfInBounds_toArray, List.set_cons_zero, List.set_cons_succ]
  refine take_run 38 (.bool true) rfl (by kernel_rfl) (by kernel_rfl) (by kernel_rfl) (fun _ _ _ h => h) rfl hHeld (fun w => ?_) ?_
  · go_simp
  simp only [Act.put, List.setIfInBounds_toArray, List.set_cons_zero, List.set_cons_succ]
  refine take_run 39 (.bool true) rfl (by kernel_rfl) (by kernel_rfl) (by kernel_rfl) (fun _ _ _ h => h) rfl hHeld (fun w => ?_) ?_
  · go_simp
  simp only [Act.put, List.setIfInBounds_toArray, List.set_cons_zero, List.set_cons_succ]
  refine wpAnyH_done (by kernel_rfl) ?_ _
  clear hHeld
  go_wp2
  go_ret
  exact ⟨rfl, hB10.trans ((hb11.trans (hb12.mono hb11.size)).mono hB10.size)⟩
theorem ftells_all (f : Fr) (l : List Int) (A : Option Addr) (n c : Nat) (w : World) (hf : f.ok) (hb : Bts w A n c l) :
    Calls Try.prog 3 #[frV f, .slice A n c] w fun e w' => e = .returned (.bool true) ∧ Below w.heap.size w w' := by
  by_cases hn : 400 < n
  · exact ftells_big f A n c w hn
  · have hro := read_okay l hb.ok
    have hlen := hb.len
    exact ftells_core (frC f) (frC (readF l)) (if plainB f then putF f else []) (bodyF f) l (restL l) (plainB f) (errL l) (framesL l) A n c w (by omega) hb (frC_length hf.len) (frC_length hro.len) (frA_one _)
      (fun w => put_plain_b f w hf _ rfl) (fun w => rput_frame f w hf _ rfl) (fun A n c w h => read_any A n c l w h) (fun A n c w h => rread_any A n c l w h)
      (fun A n c w h => split_lst A n c l w h (by have := h.len; omega)) (fun A n c w h => rsplit_lst A n c l w h (by have := h.len; omega)) (fun w => body_any f w hf) (fun w => rbody_any f w hf)
      (fun w => by
        have h := eq_frames (readF l) (readF l) hro.len hro.len w
        rw [(eqFr_iff _ _).2 rfl] at h
        exact h)
end Go.Proofs.Ytncedbjbooemjaa
