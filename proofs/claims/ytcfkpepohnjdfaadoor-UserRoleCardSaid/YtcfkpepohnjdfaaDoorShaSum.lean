/- The walks over package sha's Add and End where they answer noughts, and over Sum. -/
import Derived.Test.YtcfkpepohnjdfaaDoorShaAdd
namespace Go.Proofs.YtcfkpepohnjdfaaDoor
open Go.RowKit

theorem add_yes (x0 x1 x2 x3 x4 x5 x6 x7 len : Int) (A B : Option Addr) (n c m d : Nat) (rest b : List Int) (w : World) (hK : KTab w) (hmay : mayB n len = true) (hroom : (m : Int) ≤ 1048576 - len) (ha : Bts w A n c rest) (hb : Bts w B m d b) :
    Calls Tryd.prog 45 #[hashV x0 x1 x2 x3 x4 x5 x6 x7 A n c len, .slice B m d] w (AddPost w [x0, x1, x2, x3, x4, x5, x6, x7] (rest ++ b) (len + (m : Int))) := by
  obtain ⟨N, rfl⟩ := Int.eq_ofNat_of_zero_le (mayB_yes hmay).1
  exact add_good x0 x1 x2 x3 x4 x5 x6 x7 A B n c N m d rest b w hK hmay hroom ha hb
theorem end_yes (x0 x1 x2 x3 x4 x5 x6 x7 len : Int) (A : Option Addr) (n c : Nat) (rest : List Int) (w : World) (hK : KTab w) (hmay : mayB n len = true) (hb : Bts w A n c rest) :
    Calls Tryd.prog 44 #[hashV x0 x1 x2 x3 x4 x5 x6 x7 A n c len] w fun e w' => e = .returned (.agg (idv (endL [x0, x1, x2, x3, x4, x5, x6, x7] rest len.toNat))) ∧ Below w.heap.size w w' := by
  obtain ⟨N, rfl⟩ := Int.eq_ofNat_of_zero_le (mayB_yes hmay).1
  exact end_good x0 x1 x2 x3 x4 x5 x6 x7 A n c N rest w hK hmay hb

set_option maxHeartbeats 400000 in
theorem add_zero_may (x0 x1 x2 x3 x4 x5 x6 x7 len : Int) (A B : Option Addr) (n c m d : Nat) (w : World) (hmay : mayB n len = false) :
    Calls Tryd.prog 45 #[hashV x0 x1 x2 x3 x4 x5 x6 x7 A n c len, .slice B m d] w fun e w' => e = .returned (hashV 0 0 0 0 0 0 0 0 none 0 0 0) ∧ Below w.heap.size w w' := by
  have hi26 : (Tryd.prog.info? 63).map (·.size) = some 10 := by kernel_rfl
  go_enter Tryd.func45, Tryd.ntmps45
  go_wp2_with fail
  refine (may_any _ _ _ _ _ _ _ _ _ _ _ _ _).mono ?_
  rintro e w0 ⟨rfl, rfl⟩
  generalize hW : World.alloc _ _ = W
  obtain ⟨hB0, hz0, hX0, hO0⟩ := named_three hW
  have hbe : BoxAt W w.heap.size x0 x1 x2 x3 x4 x5 x6 x7 A n c len := hX0
  have hbo : BoxAt W (w.heap.size + 1) 0 0 0 0 0 0 0 0 none 0 0 0 := hO0
  obtain ⟨o0, o1, o2, o3, o4, o5, o6, o7, o8, o9⟩ := BoxAt.cells hbo
  obtain ⟨f0, f1, f2, f3, f4, f5, f6, f7, f8, f9⟩ := BoxAt.free hbo
  obtain ⟨_, _, _, _, _, _, _, _, _, e9⟩ := BoxAt.cells hbe
  clear hW hX0 hO0 hz0
  rw [hmay]
  go_wp2
  refine bodyPost_ret (v := hashV 0 0 0 0 0 0 0 0 none 0 0 0) ?_ ?_ ?_
  · exact results_cell_row Tryd.results45 _ _ (w.heap.size + 1) 63 _ (0, 0) _ rfl (heap_put10 hbo _ _ _ _ _ _ _ _ _ _) Tryd.underlying63 rfl hi26
  · rfl
  · exact ⟨rfl, below_put10 (Nat.le_succ _) hB0 _ _ _ _ _ _ _ _ _ _⟩

set_option maxHeartbeats 400000 in
theorem add_zero_room (x0 x1 x2 x3 x4 x5 x6 x7 len : Int) (A B : Option Addr) (n c m d : Nat) (w : World) (hmay : mayB n len = true) (_hm : m ≤ 9223372036854775807) (hroom : 1048576 - len < (m : Int)) :
    Calls Tryd.prog 45 #[hashV x0 x1 x2 x3 x4 x5 x6 x7 A n c len, .slice B m d] w fun e w' => e = .returned (hashV 0 0 0 0 0 0 0 0 none 0 0 0) ∧ Below w.heap.size w w' := by
  obtain ⟨h0, h1, h2⟩ := mayB_yes hmay
  have H2 := Lib.hid h2
  clear h2
  have hi26 : (Tryd.prog.info? 63).map (·.size) = some 10 := by kernel_rfl
  go_enter Tryd.func45, Tryd.ntmps45
  go_wp2_with fail
  refine (may_any _ _ _ _ _ _ _ _ _ _ _ _ _).mono ?_
  rintro e w0 ⟨rfl, rfl⟩
  generalize hW : World.alloc _ _ = W
  obtain ⟨hB0, hz0, hX0, hO0⟩ := named_three hW
  have hbe : BoxAt W w.heap.size x0 x1 x2 x3 x4 x5 x6 x7 A n c len := hX0
  have hbo : BoxAt W (w.heap.size + 1) 0 0 0 0 0 0 0 0 none 0 0 0 := hO0
  obtain ⟨o0, o1, o2, o3, o4, o5, o6, o7, o8, o9⟩ := BoxAt.cells hbo
  obtain ⟨f0, f1, f2, f3, f4, f5, f6, f7, f8, f9⟩ := BoxAt.free hbo
  obtain ⟨_, _, _, _, _, _, _, _, _, e9⟩ := BoxAt.cells hbe
  clear hW hX0 hO0 hz0
  rw [hmay]
  go_wp2
  refine bodyPost_ret (v := hashV 0 0 0 0 0 0 0 0 none 0 0 0) ?_ ?_ ?_
  · exact results_cell_row Tryd.results45 _ _ (w.heap.size + 1) 63 _ (0, 0) _ rfl (heap_put10 hbo _ _ _ _ _ _ _ _ _ _) Tryd.underlying63 rfl hi26
  · rfl
  · exact ⟨rfl, below_put10 (Nat.le_succ _) hB0 _ _ _ _ _ _ _ _ _ _⟩

set_option maxHeartbeats 400000 in
theorem end_zero (x0 x1 x2 x3 x4 x5 x6 x7 len : Int) (A : Option Addr) (n c : Nat) (w : World) (hmay : mayB n len = false) :
    Calls Tryd.prog 44 #[hashV x0 x1 x2 x3 x4 x5 x6 x7 A n c len] w fun e w' => e = .returned (.agg (idv (List.replicate 32 0))) ∧ Below w.heap.size w w' := by
  go_enter Tryd.func44, Tryd.ntmps44
  go_wp2_with fail
  refine (may_any _ _ _ _ _ _ _ _ _ _ _ _ _).mono ?_
  rintro e w0 ⟨rfl, rfl⟩
  generalize hW : World.alloc _ _ = W
  obtain ⟨hB0, hz0, hX0, hO0⟩ := named_three hW
  have hO0 : RowB W (w.heap.size + 1) 30 (List.replicate 32 0) := hO0
  clear hW hX0 hz0
  rw [hmay]
  go_wp2_with (first | ((with_reducible refine wpList_store_b rfl 30 _ _ rfl (w.heap.size + 1) (List.replicate 32 0) ?hx7 ?hy7 30 (List.replicate 32 0) hO0 (info32 rfl) ?hl7 ?hm7); (case hx7 => rfl); (case hy7 => rfl); (case hl7 => rfl); intro w6 hg6 hX6 hs6))
  refine bodyPost_ret (v := .agg (idv (List.replicate 32 0))) ?_ ?_ ?_
  · exact results_cell_row Tryd.results44 _ _ (w.heap.size + 1) 30 _ (0, 0) _ rfl hX6.is Tryd.underlying30 rfl (info32 rfl)
  · rfl
  · exact ⟨rfl, Below.grows hB0 hg6 hB0.size (by omega)⟩

theorem whole_le (l : List Int) : whole l ≤ l.length := by unfold whole; omega
theorem add_new (B : Option Addr) (m d : Nat) (l : List Int) (w : World) (hK : KTab w) (hm : m ≤ 1048576) (hb : Bts w B m d l) :
    Calls Tryd.prog 45 #[hashV 1779033703 3144134277 1013904242 2773480762 1359893119 2600822924 528734635 1541459225 none 0 0 0, .slice B m d] w (AddPost w iList l (m : Int)) := by
  have h := add_yes 1779033703 3144134277 1013904242 2773480762 1359893119 2600822924 528734635 1541459225 0 none B 0 0 m d [] l w hK (by decide) (by omega) (Bts.nil w) hb
  rw [Int.zero_add, List.nil_append] at h
  exact h

set_option maxHeartbeats 400000 in
theorem sum_yes (B : Option Addr) (m d : Nat) (l : List Int) (w : World) (hK : KTab w) (hm : m ≤ 1048576) (hb : Bts w B m d l) :
    Calls Tryd.prog 40 #[.slice B m d] w fun e w' => e = .returned (.agg (idv (sumL l))) ∧ Below w.heap.size w w' := by
  obtain ⟨Z, hZ⟩ : ∃ Z, Z = sumL l := ⟨_, rfl⟩
  have hZl : Z.length = 32 := by rw [hZ, sumL, endL]; exact spelt_length _
  rw [← hZ]
  have HZ := Lib.hid hZ
  have HZL := Lib.hid hZl
  clear hZ hZl
  go_enter Tryd.func40, Tryd.ntmps40
  go_wp2_with fail
  refine (new_any _).mono ?_
  rintro e w1 ⟨rfl, hb1⟩
  obtain ⟨hB1, hz1, hO1⟩ := after_one hb1
  have hO1 : RowB w1 w.heap.size 30 (List.replicate 32 0) := hO1
  clear hb1
  go_wp2_with fail
  refine (add_new B m d l w1 (hK.from hB1) hm (hb.below hB1)).mono ?_
  rintro e w2 ⟨y0, y1, y2, y3, y4, y5, y6, y7, A3, n3, c3, rfl, hY, hbt, hb2⟩
  have hO2 := hO1.below hb2 hO1.lt
  have hB2 := hB1.trans (hb2.mono hB1.size)
  have hmay : mayB n3 (m : Int) = true := by
    have h1 := hbt.len
    rw [List.length_drop, hb.len, whole, hb.len] at h1
    unfold mayB
    rw [decide_eq_true_eq]
    omega
  have hfin : endL [y0, y1, y2, y3, y4, y5, y6, y7] (l.drop (whole l)) ((m : Int)).toNat = Z := by
    rw [HZ.out, sumL, ← hY, Int.toNat_natCast, ← hb.len]
    rfl
  have HF := Lib.hid hfin
  have HMAY := Lib.hid hmay
  clear hfin hmay hY hb2
  go_wp2_with fail
  refine (end_yes y0 y1 y2 y3 y4 y5 y6 y7 (m : Int) A3 n3 c3 (l.drop (whole l)) w2 (hK.from hB2) HMAY.out hbt).mono ?_
  rintro e w3 ⟨he, hb3⟩
  rw [HF.out] at he
  subst he
  have hO3 := hO2.below hb3 hO2.lt
  have hB3 := hB2.trans (hb3.mono hB2.size)
  clear hb3
  go_wp2_with (first | ((with_reducible refine wpList_store_b rfl 30 _ _ rfl w.heap.size Z ?hx7 ?hy7 30 (List.replicate 32 0) hO3 (info32 HZL.out) ?hl7 ?hm7); (case hx7 => rfl); (case hy7 => rfl); (case hl7 => rw [HZL.out]; rfl); intro w6 hg6 hX6 hs6))
  refine bodyPost_ret (v := .agg (idv Z)) ?_ ?_ ?_
  · exact results_cell_row Tryd.results40 _ _ w.heap.size 30 _ (0, 0) _ rfl hX6.is Tryd.underlying30 rfl (info32 HZL.out)
  · rfl
  · exact ⟨rfl, Below.grows hB3 hg6 hB3.size (Nat.le_refl _)⟩
end Go.Proofs.YtcfkpepohnjdfaaDoor
