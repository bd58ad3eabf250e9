/- The walk over the law GroupTells: matrices, sets and lists are all that the document says. -/
import Derived.Test.YtlejeecnkbapmaaGrpAwake
import Derived.Test.YtlejeecnkbapmaaGrpInts
namespace Go.Proofs.Ytlejeecnkbapmaa
set_option maxRecDepth 100000
set_option linter.unusedVariables false
set_option linter.unusedSimpArgs false
open Go.RowKit

theorem ints_self (l : List Int) : (l == l) = true := by simp
set_option maxHeartbeats 8000000 in
theorem gtells_rows (HG : GrpOk) (A : Option Addr) (n c : Nat) (m : List Int) (s : Int) (B : Option Addr) (k d : Nat) (l : List Int) (w : World) (hm : Its .i64 w A n c m) (hl : Its .i64 w B k d l) (h1 : 10 < n) :
    Calls Try.prog 3 #[.slice A n c, .int .i64 s, .slice B k d] w fun e w' => e = .returned (.bool true) ∧ Below w.heap.size w w' := by
  have hns := hm.small
  have hks := hl.small
  have h1a : (10 : Int) < n := by omega
  clear hm hl
  go_enter Try.func3, Try.ntmps3
  go_wp2_with (first
    | (go_at_call 8
       (with_reducible refine (gawake_any HG _).mono ?_)
       rintro e w1 ⟨rfl, hb1⟩
       have HB1 := Lib.hid hb1
       clear hb1))
  go_ret
  exact ⟨rfl, HB1.out⟩
set_option maxHeartbeats 8000000 in
theorem gtells_long (HG : GrpOk) (A : Option Addr) (n c : Nat) (m : List Int) (s : Int) (B : Option Addr) (k d : Nat) (l : List Int) (w : World) (hm : Its .i64 w A n c m) (hl : Its .i64 w B k d l) (h1 : ¬ 10 < n) (h2 : 20 < k) :
    Calls Try.prog 3 #[.slice A n c, .int .i64 s, .slice B k d] w fun e w' => e = .returned (.bool true) ∧ Below w.heap.size w w' := by
  have hns := hm.small
  have hks := hl.small
  have h1a : ¬ (10 : Int) < n := by omega
  have h2a : (20 : Int) < k := by omega
  clear hm hl
  go_enter Try.func3, Try.ntmps3
  go_wp2_with (first
    | (go_at_call 8
       (with_reducible refine (gawake_any HG _).mono ?_)
       rintro e w1 ⟨rfl, hb1⟩
       have HB1 := Lib.hid hb1
       clear hb1))
  go_ret
  exact ⟨rfl, HB1.out⟩
set_option maxHeartbeats 8000000 in
theorem gtells_main (HG : GrpOk) (A : Option Addr) (n c : Nat) (m : List Int) (s : Int) (B : Option Addr) (k d : Nat) (l : List Int) (w : World) (hm : Its .i64 w A n c m) (hl : Its .i64 w B k d l) (h1 : ¬ 10 < n) (h2 : ¬ 20 < k) :
    Calls Try.prog 3 #[.slice A n c, .int .i64 s, .slice B k d] w fun e w' => e = .returned (.bool true) ∧ Below w.heap.size w w' := by
  have hns := hm.small
  have hks := hl.small
  have h1a : ¬ (10 : Int) < n := by omega
  have h2a : ¬ (20 : Int) < k := by omega
  have HMR := Lib.hid (fun (X : World) (hX : Below w.heap.size w X) => rgmay_any A n c m X (hm.below hX))
  have HMG := Lib.hid (fun (X : World) (hX : Below w.heap.size w X) => HG.may A n c m X (hm.below hX) (by omega))
  have HFR := Lib.hid (fun (X : World) (hX : Below w.heap.size w X) => rgfree_any A n c m s X (hm.below hX))
  have HFG := Lib.hid (fun (X : World) (hX : Below w.heap.size w X) => HG.free A n c m s X (hm.below hX) (by omega))
  have HAR := Lib.hid (fun (X : World) (hX : Below w.heap.size w X) => rgagainst_any A n c m s X (hm.below hX))
  have HAG := Lib.hid (fun (X : World) (hX : Below w.heap.size w X) => HG.against A n c m s X (hm.below hX) (by omega))
  have HSR := Lib.hid (fun (X : World) (hX : Below w.heap.size w X) => rgsets_any A n c m X (hm.below hX))
  have HSG := Lib.hid (fun (X : World) (hX : Below w.heap.size w X) => HG.sets A n c m X (hm.below hX) (by omega))
  have HLR := Lib.hid (fun (X : World) => rglist_any s X)
  have HLG := Lib.hid (fun (X : World) => HG.list s X)
  have HOR := Lib.hid (show ∀ (X : World), Below w.heap.size w X → Calls Try.prog 21 #[.slice B k d] X fun e w' => e = .returned (.int .i64 (ofM l)) ∧ Below X.heap.size X w' from fun X hX => (rgof_any B k d l X (hl.below hX)).mono fun e w' ⟨he, hw⟩ => ⟨he, by subst hw; exact Below.refl _ _⟩)
  have HOG := Lib.hid (fun (X : World) (hX : Below w.heap.size w X) => HG.of B k d l X (hl.below hX) (by omega))
  have HIT := Lib.hid (show ∀ (A1 B1 : Option Addr) (n1 c1 m1 d1 : Nat) (L : List Int) (X : World), Its .i64 X A1 n1 c1 L → Its .i64 X B1 m1 d1 L → Calls Try.prog 11 #[.slice A1 n1 c1, .slice B1 m1 d1] X fun e w' => e = .returned (.bool true) ∧ Below X.heap.size X w' from fun A1 B1 n1 c1 m1 d1 L X h1 h2 => (ints_any A1 B1 n1 c1 m1 d1 L L X h1 h2).mono fun e w' ⟨he, j, hw⟩ => ⟨by rw [he, ints_self], by subst hw; exact below_drewN (Below.refl _ _) _⟩)
  obtain ⟨M, hM⟩ : ∃ x, mayM m = x := ⟨_, rfl⟩
  obtain ⟨F, hF⟩ : ∃ x, freeM m s = x := ⟨_, rfl⟩
  obtain ⟨G, hG⟩ : ∃ x, againstM m s = x := ⟨_, rfl⟩
  obtain ⟨S, hS⟩ : ∃ x, setsM m = x := ⟨_, rfl⟩
  obtain ⟨L, hL⟩ : ∃ x, listM s = x := ⟨_, rfl⟩
  obtain ⟨O, hO⟩ : ∃ x, ofM l = x := ⟨_, rfl⟩
  simp only [hM] at HMR HMG
  simp only [hF] at HFR HFG
  simp only [hG] at HAR HAG
  simp only [hS] at HSR HSG
  simp only [hL] at HLR HLG
  simp only [hO] at HOR HOG
  clear hm hl hM hF hG hS hL hO
  go_enter Try.func3, Try.ntmps3
  go_wp2_with (first
    | (go_at_call 8
       (with_reducible refine (gawake_any HG _).mono ?_)
       rintro e w1 ⟨rfl, hb1⟩
       have HB1 := Lib.hid hb1
       clear hb1)
    | (go_at_call 9
       (with_reducible refine (HMR.out _ HB1.out).mono ?_)
       rintro e w2 ⟨rfl, hbx⟩
       have HB2 := Lib.hid (HB1.out.trans (hbx.mono HB1.out.size))
       clear hbx)
    | (go_at_call 10
       (with_reducible refine (HFR.out _ HB2.out).mono ?_)
       rintro e w3 ⟨rfl, hbx⟩
       have HB3 := Lib.hid (HB2.out.trans (hbx.mono HB2.out.size))
       clear hbx)
    | (go_at_call 12
       (with_reducible refine (HSG.out _ HB3.out).mono ?_)
       rintro e w4 ⟨A4, n4, c4, rfl, hi4, hbx⟩
       have HI4 := Lib.hid hi4
       clear hi4
       have HB4 := Lib.hid (HB3.out.trans (hbx.mono HB3.out.size))
       clear hbx)
    | (go_at_call 13
       (with_reducible refine (HSR.out _ HB4.out).mono ?_)
       rintro e w5 ⟨A5, n5, c5, rfl, hi5, hbx⟩
       have HI4 := Lib.hid (HI4.out.below hbx)
       have HI5 := Lib.hid hi5
       clear hi5
       have HB5 := Lib.hid (HB4.out.trans (hbx.mono HB4.out.size))
       clear hbx)
    | (go_at_call 11
       (with_reducible refine (HIT.out A4 A5 n4 c4 n5 c5 S _ HI4.out HI5.out).mono ?_)
       rintro e w6 ⟨rfl, hbx⟩
       have HB6 := Lib.hid (HB5.out.trans (hbx.mono HB5.out.size))
       clear hbx)
    | (go_at_call 14
       (with_reducible refine (HLG.out _).mono ?_)
       rintro e w7 ⟨A7, n7, c7, rfl, hi7, hbx⟩
       have HI7 := Lib.hid hi7
       clear hi7
       have HB7 := Lib.hid (HB6.out.trans (hbx.mono HB6.out.size))
       clear hbx)
    | (go_at_call 15
       (with_reducible refine (HLR.out _).mono ?_)
       rintro e w8 ⟨A8, n8, c8, rfl, hi8, hbx⟩
       have HI7 := Lib.hid (HI7.out.below hbx)
       have HI8 := Lib.hid hi8
       clear hi8
       have HB8 := Lib.hid (HB7.out.trans (hbx.mono HB7.out.size))
       clear hbx)
    | (go_at_call 11
       (with_reducible refine (HIT.out A7 A8 n7 c7 n8 c8 L _ HI7.out HI8.out).mono ?_)
       rintro e w9 ⟨rfl, hbx⟩
       have HB9 := Lib.hid (HB8.out.trans (hbx.mono HB8.out.size))
       clear hbx)
    | (go_at_call 16
       (with_reducible refine (HMG.out _ HB9.out).mono ?_)
       rintro e w10 ⟨rfl, hbx⟩
       have HB10 := Lib.hid (HB9.out.trans (hbx.mono HB9.out.size))
       clear hbx)
    | (go_at_call 17
       (with_reducible refine (HFG.out _ HB10.out).mono ?_)
       rintro e w11 ⟨rfl, hbx⟩
       have HB11 := Lib.hid (HB10.out.trans (hbx.mono HB10.out.size))
       clear hbx)
    | (go_at_call 18
       (with_reducible refine (HAG.out _ HB11.out).mono ?_)
       rintro e w12 ⟨rfl, hbx⟩
       have HB12 := Lib.hid (HB11.out.trans (hbx.mono HB11.out.size))
       clear hbx)
    | (go_at_call 19
       (with_reducible refine (HAR.out _ HB12.out).mono ?_)
       rintro e w13 ⟨rfl, hbx⟩
       have HB13 := Lib.hid (HB12.out.trans (hbx.mono HB12.out.size))
       clear hbx)
    | (go_at_call 20
       (with_reducible refine (HOG.out _ HB13.out).mono ?_)
       rintro e w14 ⟨rfl, hbx⟩
       have HB14 := Lib.hid (HB13.out.trans (hbx.mono HB13.out.size))
       clear hbx)
    | (go_at_call 21
       (with_reducible refine (HOR.out _ HB14.out).mono ?_)
       rintro e w15 ⟨rfl, hbx⟩
       have HB15 := Lib.hid (HB14.out.trans (hbx.mono HB14.out.size))
       clear hbx))
  go_ret
  exact ⟨rfl, HB15.out⟩
theorem gtells_any (HG : GrpOk) (A : Option Addr) (n c : Nat) (m : List Int) (s : Int) (B : Option Addr) (k d : Nat) (l : List Int) (w : World) (hm : Its .i64 w A n c m) (hl : Its .i64 w B k d l) :
    Calls Try.prog 3 #[.slice A n c, .int .i64 s, .slice B k d] w fun e w' => e = .returned (.bool true) ∧ Below w.heap.size w w' := by
  by_cases h1 : 10 < n
  · exact gtells_rows HG A n c m s B k d l w hm hl h1
  · by_cases h2 : 20 < k
    · exact gtells_long HG A n c m s B k d l w hm hl h1 h2
    · exact gtells_main HG A n c m s B k d l w hm hl h1 h2
end Go.Proofs.Ytlejeecnkbapmaa
