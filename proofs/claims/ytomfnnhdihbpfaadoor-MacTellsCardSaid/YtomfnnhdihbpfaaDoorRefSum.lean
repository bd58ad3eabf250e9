/- The walk over the plain answers' Sum. -/
import Derived.Test.YtomfnnhdihbpfaaDoorRefEnd
import Derived.Test.YtomfnnhdihbpfaaDoorRefZero
namespace Go.Proofs.YtomfnnhdihbpfaaDoor
open Go.RowKit

theorem radd_yes (x0 x1 x2 x3 x4 x5 x6 x7 len : Int) (A B : Option Addr) (n c m d : Nat) (rest b : List Int) (w : World) (hmay : mayB n len = true) (hroom : (m : Int) ≤ 1048576 - len) (ha : Bts w A n c rest) (hb : Bts w B m d b) :
    Calls Tryd.prog 20 #[hashV x0 x1 x2 x3 x4 x5 x6 x7 A n c len, .slice B m d] w (AddPost w [x0, x1, x2, x3, x4, x5, x6, x7] (rest ++ b) (len + (m : Int))) := by
  obtain ⟨N, rfl⟩ := Int.eq_ofNat_of_zero_le (mayB_yes hmay).1
  exact radd_good x0 x1 x2 x3 x4 x5 x6 x7 A B n c N m d rest b w hmay hroom ha hb
theorem rend_yes (x0 x1 x2 x3 x4 x5 x6 x7 len : Int) (A : Option Addr) (n c : Nat) (rest : List Int) (w : World) (hmay : mayB n len = true) (hb : Bts w A n c rest) :
    Calls Tryd.prog 25 #[hashV x0 x1 x2 x3 x4 x5 x6 x7 A n c len] w fun e w' => e = .returned (.agg (idv (endL [x0, x1, x2, x3, x4, x5, x6, x7] rest len.toNat))) ∧ Below w.heap.size w w' := by
  obtain ⟨N, rfl⟩ := Int.eq_ofNat_of_zero_le (mayB_yes hmay).1
  exact rend_good x0 x1 x2 x3 x4 x5 x6 x7 A n c N rest w hmay hb

theorem radd_new (B : Option Addr) (m d : Nat) (l : List Int) (w : World) (hm : m ≤ 1048576) (hb : Bts w B m d l) :
    Calls Tryd.prog 20 #[hashV 1779033703 3144134277 1013904242 2773480762 1359893119 2600822924 528734635 1541459225 none 0 0 0, .slice B m d] w (AddPost w iList l (m : Int)) := by
  have h := radd_yes 1779033703 3144134277 1013904242 2773480762 1359893119 2600822924 528734635 1541459225 0 none B 0 0 m d [] l w (by decide) (by omega) (Bts.nil w) hb
  rw [Int.zero_add, List.nil_append] at h
  exact h

set_option maxHeartbeats 400000 in
theorem rsum_yes (B : Option Addr) (m d : Nat) (l : List Int) (w : World) (hm : m ≤ 1048576) (hb : Bts w B m d l) :
    Calls Tryd.prog 27 #[.slice B m d] w fun e w' => e = .returned (.agg (idv (sumL l))) ∧ Below w.heap.size w w' := by
  obtain ⟨Z, hZ⟩ : ∃ Z, Z = sumL l := ⟨_, rfl⟩
  have hZl : Z.length = 32 := by rw [hZ, sumL, endL]; exact spelt_length _
  rw [← hZ]
  have HZ := Lib.hid hZ
  have HZL := Lib.hid hZl
  clear hZ hZl
  go_enter Tryd.func27, Tryd.ntmps27
  go_wp2_with fail
  refine (rnew_any _).mono ?_
  rintro e w1 ⟨rfl, hb1⟩
  obtain ⟨hB1, hz1, hO1⟩ := after_one hb1
  have hO1 : RowB w1 w.heap.size 33 (List.replicate 32 0) := hO1
  clear hb1
  go_wp2_with fail
  refine (radd_new B m d l w1 hm (hb.below hB1)).mono ?_
  rintro e w2 ⟨y0, y1, y2, y3, y4, y5, y6, y7, A3, n3, c3, rfl, hY, hbt, hb2⟩
  have hO2 := hO1.below hb2 hO1.lt
  have hB2 := hB1.trans (hb2.mono hB1.size)
  have hmay : mayB n3 (m : Int) = true := by
    have h1 := hbt.len
    rw [List.length_drop, hb.len, whole, hb.len] at h1
    unfold mayB
    rw [decide_eq_true_eq]
    omega
  have hfin : endL [y0, y1, y2, y3, y4, y5, y6, y7] (l.drop (whole l)) ((m : Int)).toNat = Z := by
    rw [HZ.out, sumL, ← hY, Int.toNat_natCast, ← hb.len]
    rfl
  have HF := Lib.hid hfin
  have HMAY := Lib.hid hmay
  clear hfin hmay hY hb2
  go_wp2_with fail
  refine (rend_yes y0 y1 y2 y3 y4 y5 y6 y7 (m : Int) A3 n3 c3 (l.drop (whole l)) w2 HMAY.out hbt).mono ?_
  rintro e w3 ⟨he, hb3⟩
  rw [HF.out] at he
  subst he
  have hO3 := hO2.below hb3 hO2.lt
  have hB3 := hB2.trans (hb3.mono hB2.size)
  clear hb3
  go_wp2_with (first | ((with_reducible refine wpList_store_b rfl 33 _ _ rfl w.heap.size Z ?hx7 ?hy7 33 (List.replicate 32 0) hO3 (info32 HZL.out) ?hl7 ?hm7); (case hx7 => rfl); (case hy7 => rfl); (case hl7 => rw [HZL.out]; rfl); intro w6 hg6 hX6 hs6))
  refine bodyPost_ret (v := .agg (idv Z)) ?_ ?_ ?_
  · exact results_cell_row Tryd.results27 _ _ w.heap.size 33 _ (0, 0) _ rfl hX6.is Tryd.underlying33 rfl (info32 HZL.out)
  · rfl
  · exact ⟨rfl, Below.grows hB3 hg6 hB3.size (Nat.le_refl _)⟩
end Go.Proofs.YtomfnnhdihbpfaaDoor
