/- The walk over the law EntryTells: an entry may be, has the bytes, bytes are the entry, and lists have those of a kind, and the epoch, that the document says. -/
import Derived.Test.YtfjiefhicjnnnaaEntBackW
import Derived.Test.YtfjiefhicjnnnaaEntRGet
import Derived.Test.YtfjiefhicjnnnaaEntRSame
import Derived.Test.YtfjiefhicjnnnaaEntROf
namespace Go.Proofs.Ytfjiefhicjnnnaa
set_option linter.unusedVariables false
set_option linter.unusedSimpArgs false
open Go.RowKit

set_option maxHeartbeats 1000000 in
theorem etellsw_big (u : En) (A1 : Option Addr) (n1 c1 : Nat) (b : List Int) (A2 : Option Addr) (n2 c2 : Nat) (l : List En) (A3 : Option Addr) (n3 c3 : Nat) (k : List En) (kind : Int) (w : World) (hu : u.ok) (hb : Bts w A1 n1 c1 b) (hl : Ens w A2 n2 c2 l) (hk : Ens w A3 n3 c3 k) (h : 100 < n1 ∨ (n1 ≤ 100 ∧ 300 < n2) ∨ (n1 ≤ 100 ∧ n2 ≤ 300 ∧ 300 < n3)) :
    Calls Try.prog 3 #[enV u, .slice A1 n1 c1, .slice A2 n2 c2, .slice A3 n3 c3, .int .i64 kind] w fun e w' => e = .returned (.bool true) ∧ Below w.heap.size w w' := by
  have h1 := hb.small
  have h2 := hl.small
  have h3 := hk.small
  unfold enV
  rcases h with h | ⟨h, h'⟩ | ⟨h, h', h''⟩
  case' inl => have g1 : (100 : Int) < n1 := by omega
  case' inr.inl =>
    have g1 : (n1 : Int) ≤ 100 := by omega
    have g2 : (300 : Int) < n2 := by omega
  case' inr.inr =>
    have g1 : (n1 : Int) ≤ 100 := by omega
    have g2 : (n2 : Int) ≤ 300 := by omega
    have g3 : (300 : Int) < n3 := by omega
  all_goals
    go_enter Try.func3, Try.ntmps3
    go_wp2_with (go_at_call 9; refine (eawake_any _).mono ?_; rintro e w1 ⟨rfl, hb1⟩; have HB1 := Lib.hid (after_one hb1).1; clear hb1)
    go_ret
    exact ⟨rfl, HB1.out⟩
set_option maxRecDepth 100000 in
set_option maxHeartbeats 4000000 in
theorem etellsw_core (u : En) (A1 : Option Addr) (n1 c1 : Nat) (b : List Int) (A2 : Option Addr) (n2 c2 : Nat) (l : List En) (A3 : Option Addr) (n3 c3 : Nat) (k : List En) (kind : Int) (w : World) (hu : u.ok) (hb : Bts w A1 n1 c1 b) (hl : Ens w A2 n2 c2 l) (hk : Ens w A3 n3 c3 k) (hn1 : n1 ≤ 100) (hn2 : n2 ≤ 300) (hn3 : n3 ≤ 300) :
    Calls Try.prog 3 #[enV u, .slice A1 n1 c1, .slice A2 n2 c2, .slice A3 n3 c3, .int .i64 kind] w fun e w' => e = .returned (.bool true) ∧ Below w.heap.size w w' := by
  have g1 : (n1 : Int) ≤ 100 := by omega
  have g2 : (n2 : Int) ≤ 300 := by omega
  have g3 : (n3 : Int) ≤ 300 := by omega
  have HDb := Lib.hid hb
  have HL := Lib.hid hl
  have HK := Lib.hid hk
  have HPE := Lib.hid (fun W => eput_any u W hu)
  have HPR := Lib.hid (fun W => erput_any u W hu)
  have HMU := Lib.hid (fun W => may_any u W)
  have HMR := Lib.hid (fun W => rmay_any u W)
  obtain ⟨M, hM⟩ : ∃ M, mayE u = M := ⟨_, rfl⟩
  rw [hM] at HPE HPR HMU HMR
  obtain ⟨P, hP⟩ : ∃ P, (if M = true then putE u else []) = P := ⟨_, rfl⟩
  rw [hP] at HPE HPR
  obtain ⟨G, hG⟩ : ∃ G, getE b = G := ⟨_, rfl⟩
  obtain ⟨H, hH⟩ : ∃ H, gotB b = H := ⟨_, rfl⟩
  have HGE := Lib.hid (show ∀ W, Bts W A1 n1 c1 b → Calls Try.prog 12 #[.slice A1 n1 c1] W (GE G H W) from fun W h => by rw [← hG, ← hH]; exact eget_any A1 n1 c1 b W h)
  have HGR := Lib.hid (show ∀ W, Bts W A1 n1 c1 b → Calls Try.prog 13 #[.slice A1 n1 c1] W (GE G H W) from fun W h => by rw [← hG, ← hH]; exact erget_any A1 n1 c1 b W h)
  obtain ⟨S, hS⟩ : ∃ S, sameE l k = S := ⟨_, rfl⟩
  have HSE := Lib.hid (show ∀ W, Ens W A2 n2 c2 l → Ens W A3 n3 c3 k → Calls Try.prog 19 #[.slice A2 n2 c2, .slice A3 n3 c3] W (GB S W) from fun W h1 h2 => by rw [← hS]; exact esame_any A2 n2 c2 l A3 n3 c3 k W h1 h2)
  have HSR := Lib.hid (show ∀ W, Ens W A2 n2 c2 l → Ens W A3 n3 c3 k → Calls Try.prog 15 #[.slice A2 n2 c2, .slice A3 n3 c3] W (GB S W) from fun W h1 h2 => by rw [← hS]; exact ersame_any A2 n2 c2 l A3 n3 c3 k W h1 h2)
  obtain ⟨O, hO⟩ : ∃ O, ofE l kind = O := ⟨_, rfl⟩
  have HOE := Lib.hid (show ∀ W, Ens W A2 n2 c2 l → Calls Try.prog 16 #[.slice A2 n2 c2, .int .i64 kind] W (GL O W) from fun W h => by rw [← hO]; exact eof_any A2 n2 c2 l kind W h (by omega))
  have HOR := Lib.hid (show ∀ W, Ens W A2 n2 c2 l → Calls Try.prog 17 #[.slice A2 n2 c2, .int .i64 kind] W (GL O W) from fun W h => by rw [← hO]; exact erof_any A2 n2 c2 l kind W h (by omega))
  have HOS := Lib.hid (show ∀ A n c A' n' c' W, Ens W A n c O → Ens W A' n' c' O → Calls Try.prog 15 #[.slice A n c, .slice A' n' c'] W (GB true W) from fun A n c A' n' c' W h1 h2 => by
    have := ersame_any A n c O A' n' c' O W h1 h2
    rw [sameE, decide_eq_true rfl] at this
    exact this)
  obtain ⟨E, hE⟩ : ∃ E, epochE l = E := ⟨_, rfl⟩
  have HEE := Lib.hid (show ∀ W, Ens W A2 n2 c2 l → Calls Try.prog 20 #[.slice A2 n2 c2] W (GI E W) from fun W h => by rw [← hE]; exact eepoch_any A2 n2 c2 l W h)
  have HER := Lib.hid (show ∀ W, Ens W A2 n2 c2 l → Calls Try.prog 21 #[.slice A2 n2 c2] W (GI E W) from fun W h => by rw [← hE]; exact erepoch_any A2 n2 c2 l W h)
  obtain ⟨s, hs⟩ : ∃ s, bstr P = s := ⟨_, rfl⟩
  have HS := Lib.hid hs
  have HEQ := Lib.hid (show ∀ w, (Op.equalIn 10000 25 (.agg (enA G)) (.agg (enA G))).run Try.prog w = .ok true w from fun w => by rw [eq_ens, decide_eq_true rfl])
  unfold GE at HGE HGR
  unfold enV at HPE HPR HGE HGR HMU HMR ⊢
  clear hu hb hl hk hn1 hn2 hn3 hM hP hG hH hS hO hE hs
  go_enter Try.func3, Try.ntmps3
  go_wp2_with (first
    | (go_at_call 9
       refine (eawake_any _).mono ?_
       rintro e w1 ⟨rfl, hb1⟩
       obtain ⟨hb0, -, hEe⟩ := after_one hb1
       have HBw1 := Lib.hid hb0
       have HDb := Lib.hid (HDb.out.below hb0)
       have HL := Lib.hid (HL.out.below hb0)
       have HK := Lib.hid (HK.out.below hb0)
       clear hb1 hb0)
    | ((with_reducible refine wpList_load_blk 25 _ rfl w.heap.size ?hx1 25 (enA u) (0, 0) _ hEe Try.underlying25 ?hd1 (info_en (enA_size _)) ?_ ?hw1); (case hx1 => rfl); (case hd1 => rfl); (case hw1 => rfl))
    | (go_at_call 10
       (with_reducible refine (HPE.out _).mono ?_)
       rintro e w2 ⟨Ax, mx, cx, rfl, hbt, hbx⟩
       have HDx := Lib.hid hbt
       have HBw2 := Lib.hid (HBw1.out.trans (hbx.mono HBw1.out.size))
       have hEe := (hbx.block _ (Array.getElem?_eq_some_iff.1 hEe).1).trans hEe
       have HDb := Lib.hid (HDb.out.below hbx)
       have HL := Lib.hid (HL.out.below hbx)
       have HK := Lib.hid (HK.out.below hbx)
       clear hbx hbt)
    | (go_at_call 11
       (with_reducible refine (HPR.out _).mono ?_)
       rintro e w3 ⟨Ay, my, cy, rfl, hbt, hbx⟩
       have HDy := Lib.hid hbt
       have HBw3 := Lib.hid (HBw2.out.trans (hbx.mono HBw2.out.size))
       have hEe := (hbx.block _ (Array.getElem?_eq_some_iff.1 hEe).1).trans hEe
       have HDb := Lib.hid (HDb.out.below hbx)
       have HDx := Lib.hid (HDx.out.below hbx)
       have HL := Lib.hid (HL.out.below hbx)
       have HK := Lib.hid (HK.out.below hbx)
       clear hbx hbt)
    | (go_at_call 12
       (with_reducible refine (HGE.out w3 HDb.out).mono ?_)
       rintro e w4 ⟨rfl, hbx⟩
       have HBw4 := Lib.hid (HBw3.out.trans (hbx.mono HBw3.out.size))
       have hEe := (hbx.block _ (Array.getElem?_eq_some_iff.1 hEe).1).trans hEe
       have HDb := Lib.hid (HDb.out.below hbx)
       have HDx := Lib.hid (HDx.out.below hbx)
       have HDy := Lib.hid (HDy.out.below hbx)
       have HL := Lib.hid (HL.out.below hbx)
       have HK := Lib.hid (HK.out.below hbx)
       clear hbx)
    | ((with_reducible refine wpList_store_blk rfl 25 _ _ rfl w4.heap.size (enA G) ?hx5 ?hy5 25 _ (heap_alloc_new w4 _) (info_en (enA_size _)) ?hs5 (enA_one _) ?_); (case hx5 => rfl); (case hy5 => rfl); (case hs5 => rfl)
       intro w5 hg5 hEg hs5
       have hbx : Below w4.heap.size w4 w5 := Below.grows (one_alloc w4 _) hg5 (size_le_alloc _ _) (Nat.le_refl _)
       have HBw5 := Lib.hid (HBw4.out.trans (hbx.mono HBw4.out.size))
       have hEe := (hbx.block _ (Array.getElem?_eq_some_iff.1 hEe).1).trans hEe
       have HDb := Lib.hid (HDb.out.below hbx)
       have HDx := Lib.hid (HDx.out.below hbx)
       have HDy := Lib.hid (HDy.out.below hbx)
       have HL := Lib.hid (HL.out.below hbx)
       have HK := Lib.hid (HK.out.below hbx)
       clear hbx hg5 hs5)
    | (go_at_call 13
       (with_reducible refine (HGR.out w5 HDb.out).mono ?_)
       rintro e w6 ⟨rfl, hbx⟩
       have HBw6 := Lib.hid (HBw5.out.trans (hbx.mono HBw5.out.size))
       have hEe := (hbx.block _ (Array.getElem?_eq_some_iff.1 hEe).1).trans hEe
       have hEg := (hbx.block _ (Array.getElem?_eq_some_iff.1 hEg).1).trans hEg
       have HDx := Lib.hid (HDx.out.below hbx)
       have HDy := Lib.hid (HDy.out.below hbx)
       have HL := Lib.hid (HL.out.below hbx)
       have HK := Lib.hid (HK.out.below hbx)
       clear hbx)
    | ((with_reducible refine wpList_store_blk rfl 25 _ _ rfl w6.heap.size (enA G) ?hx7 ?hy7 25 _ (heap_alloc_new w6 _) (info_en (enA_size _)) ?hs7 (enA_one _) ?_); (case hx7 => rfl); (case hy7 => rfl); (case hs7 => rfl)
       intro w7 hg7 hEh hs7
       have hbx : Below w6.heap.size w6 w7 := Below.grows (one_alloc w6 _) hg7 (size_le_alloc _ _) (Nat.le_refl _)
       have HBw7 := Lib.hid (HBw6.out.trans (hbx.mono HBw6.out.size))
       have hEe := (hbx.block _ (Array.getElem?_eq_some_iff.1 hEe).1).trans hEe
       have hEg := (hbx.block _ (Array.getElem?_eq_some_iff.1 hEg).1).trans hEg
       have HDx := Lib.hid (HDx.out.below hbx)
       have HDy := Lib.hid (HDy.out.below hbx)
       have HL := Lib.hid (HL.out.below hbx)
       have HK := Lib.hid (HK.out.below hbx)
       clear hbx hg7 hs7)
    | (go_at_call 14
       (with_reducible refine (HMR.out _).mono ?_)
       rintro e w8 ⟨rfl, hbx⟩
       have HBw8 := Lib.hid (HBw7.out.trans (hbx.mono HBw7.out.size))
       have hEe := (hbx.block _ (Array.getElem?_eq_some_iff.1 hEe).1).trans hEe
       have hEg := (hbx.block _ (Array.getElem?_eq_some_iff.1 hEg).1).trans hEg
       have hEh := (hbx.block _ (Array.getElem?_eq_some_iff.1 hEh).1).trans hEh
       have HDx := Lib.hid (HDx.out.below hbx)
       have HDy := Lib.hid (HDy.out.below hbx)
       have HL := Lib.hid (HL.out.below hbx)
       have HK := Lib.hid (HK.out.below hbx)
       clear hbx)
    | (go_at_call 15
       (with_reducible refine (HOS.out _ _ _ _ _ _ w11 HO1.out HO2.out).mono ?_)
       rintro e w12 ⟨rfl, hbx⟩
       have HBw12 := Lib.hid (HBw11.out.trans (hbx.mono HBw11.out.size))
       have hEe := (hbx.block _ (Array.getElem?_eq_some_iff.1 hEe).1).trans hEe
       have hEg := (hbx.block _ (Array.getElem?_eq_some_iff.1 hEg).1).trans hEg
       have hEh := (hbx.block _ (Array.getElem?_eq_some_iff.1 hEh).1).trans hEh
       have HDx := Lib.hid (HDx.out.below hbx)
       have HDy := Lib.hid (HDy.out.below hbx)
       have HL := Lib.hid (HL.out.below hbx)
       have HK := Lib.hid (HK.out.below hbx)
       have kx := conv_bts HDx.out
       have ky := conv_bts HDy.out
       rw [HS.out] at kx ky
       clear hbx)
    | (go_at_call 15
       (with_reducible refine (HSR.out w8 HL.out HK.out).mono ?_)
       rintro e w9 ⟨rfl, hbx⟩
       have HBw9 := Lib.hid (HBw8.out.trans (hbx.mono HBw8.out.size))
       have hEe := (hbx.block _ (Array.getElem?_eq_some_iff.1 hEe).1).trans hEe
       have hEg := (hbx.block _ (Array.getElem?_eq_some_iff.1 hEg).1).trans hEg
       have hEh := (hbx.block _ (Array.getElem?_eq_some_iff.1 hEh).1).trans hEh
       have HDx := Lib.hid (HDx.out.below hbx)
       have HDy := Lib.hid (HDy.out.below hbx)
       have HL := Lib.hid (HL.out.below hbx)
       have HK := Lib.hid (HK.out.below hbx)
       clear hbx)
    | (go_at_call 16
       (with_reducible refine (HOE.out w9 HL.out).mono ?_)
       rintro e w10 ⟨Ao, no, co, rfl, hen, hbx⟩
       have HO1 := Lib.hid hen
       have HBw10 := Lib.hid (HBw9.out.trans (hbx.mono HBw9.out.size))
       have hEe := (hbx.block _ (Array.getElem?_eq_some_iff.1 hEe).1).trans hEe
       have hEg := (hbx.block _ (Array.getElem?_eq_some_iff.1 hEg).1).trans hEg
       have hEh := (hbx.block _ (Array.getElem?_eq_some_iff.1 hEh).1).trans hEh
       have HDx := Lib.hid (HDx.out.below hbx)
       have HDy := Lib.hid (HDy.out.below hbx)
       have HL := Lib.hid (HL.out.below hbx)
       have HK := Lib.hid (HK.out.below hbx)
       clear hbx hen)
    | (go_at_call 17
       (with_reducible refine (HOR.out w10 HL.out).mono ?_)
       rintro e w11 ⟨Ap, np, cp, rfl, hen, hbx⟩
       have HO1 := Lib.hid (HO1.out.below hbx)
       have HO2 := Lib.hid hen
       have HBw11 := Lib.hid (HBw10.out.trans (hbx.mono HBw10.out.size))
       have hEe := (hbx.block _ (Array.getElem?_eq_some_iff.1 hEe).1).trans hEe
       have hEg := (hbx.block _ (Array.getElem?_eq_some_iff.1 hEg).1).trans hEg
       have hEh := (hbx.block _ (Array.getElem?_eq_some_iff.1 hEh).1).trans hEh
       have HDx := Lib.hid (HDx.out.below hbx)
       have HDy := Lib.hid (HDy.out.below hbx)
       have HL := Lib.hid (HL.out.below hbx)
       have HK := Lib.hid (HK.out.below hbx)
       clear hbx hen)
    | ((with_reducible refine wpList_load_blk 25 _ rfl w4.heap.size ?hx2 25 (enA G) (0, 0) _ hEg Try.underlying25 ?hd2 (info_en (enA_size _)) ?_ ?hw2); (case hx2 => rfl); (case hd2 => rfl); (case hw2 => rfl))
    | ((with_reducible refine wpList_load_blk 25 _ rfl w6.heap.size ?hx3 25 (enA G) (0, 0) _ hEh Try.underlying25 ?hd3 (info_en (enA_size _)) ?_ ?hw3); (case hx3 => rfl); (case hd3 => rfl); (case hw3 => rfl))
    | ((with_reducible refine wpList_eq_en .eql _ _ rfl (enA G) (enA G) ?hx11 ?hy11 true true (.inl ⟨rfl, rfl⟩) (fun w => HEQ.out w) ?_ ?hw11); (case hx11 => rfl); (case hy11 => rfl); (case hw11 => rfl))
    | (go_at_call 18
       (with_reducible refine (HMU.out _).mono ?_)
       rintro e w13 ⟨rfl, hbx⟩
       have HBw13 := Lib.hid (HBw12.out.trans (hbx.mono HBw12.out.size))
       have HL := Lib.hid (HL.out.below hbx)
       have HK := Lib.hid (HK.out.below hbx)
       clear hbx kx ky hEe hEg hEh)
    | (go_at_call 19
       (with_reducible refine (HSE.out w13 HL.out HK.out).mono ?_)
       rintro e w14 ⟨rfl, hbx⟩
       have HBw14 := Lib.hid (HBw13.out.trans (hbx.mono HBw13.out.size))
       have HL := Lib.hid (HL.out.below hbx)
       have HK := Lib.hid (HK.out.below hbx)
       clear hbx)
    | (go_at_call 20
       (with_reducible refine (HEE.out w14 HL.out).mono ?_)
       rintro e w15 ⟨rfl, hbx⟩
       have HBw15 := Lib.hid (HBw14.out.trans (hbx.mono HBw14.out.size))
       have HL := Lib.hid (HL.out.below hbx)
       have HK := Lib.hid (HK.out.below hbx)
       clear hbx)
    | (go_at_call 21
       (with_reducible refine (HER.out w15 HL.out).mono ?_)
       rintro e w16 ⟨rfl, hbx⟩
       have HBw16 := Lib.hid (HBw15.out.trans (hbx.mono HBw15.out.size))
       clear hbx))
  go_ret
  exact ⟨by simp, HBw16.out⟩
theorem etellsw_any (u : En) (A1 : Option Addr) (n1 c1 : Nat) (b : List Int) (A2 : Option Addr) (n2 c2 : Nat) (l : List En) (A3 : Option Addr) (n3 c3 : Nat) (k : List En) (kind : Int) (w : World) (hu : u.ok) (hb : Bts w A1 n1 c1 b) (hl : Ens w A2 n2 c2 l) (hk : Ens w A3 n3 c3 k) :
    Calls Try.prog 3 #[enV u, .slice A1 n1 c1, .slice A2 n2 c2, .slice A3 n3 c3, .int .i64 kind] w fun e w' => e = .returned (.bool true) ∧ Below w.heap.size w w' := by
  by_cases h1 : 100 < n1
  · exact etellsw_big u A1 n1 c1 b A2 n2 c2 l A3 n3 c3 k kind w hu hb hl hk (.inl h1)
  · by_cases h2 : 300 < n2
    · exact etellsw_big u A1 n1 c1 b A2 n2 c2 l A3 n3 c3 k kind w hu hb hl hk (.inr (.inl ⟨by omega, h2⟩))
    · by_cases h3 : 300 < n3
      · exact etellsw_big u A1 n1 c1 b A2 n2 c2 l A3 n3 c3 k kind w hu hb hl hk (.inr (.inr ⟨by omega, by omega, h3⟩))
      · exact etellsw_core u A1 n1 c1 b A2 n2 c2 l A3 n3 c3 k kind w hu hb hl hk (by omega) (by omega) (by omega)
end Go.Proofs.Ytfjiefhicjnnnaa
