/- The walk over the law ChainTells: all that the document tells of a chain. -/
import Derived.Test.YtplfpaclhapldaaDoorCnJO
set_option linter.unusedVariables false
set_option linter.unusedSimpArgs false
namespace Go.Proofs.YtplfpaclhapldaaDoor
set_option maxRecDepth 100000
open Go.RowKit

set_option maxRecDepth 100000 in
set_option maxHeartbeats 2000000 in
theorem ctellsw_l (A : Option Addr) (n c : Nat) (l : List En) (B : Option Addr) (m d : Nat) (k : List En) (h : List Int) (u : En) (C : Option Addr) (p q : Nat) (b : List Int) (w : World) (hK : KTab w) (hl : Ens w A n c l) (hm : Ens w B m d k) (hb : Bts w C p q b) (ol : ∀ u ∈ l, u.ok) (ok : ∀ u ∈ k, u.ok) (hh : h.length = 32) (hhb : ∀ j, 0 ≤ h.getD j 0 ∧ h.getD j 0 < 256) (hu : u.ok) (h1 : 20 < n) :
    Calls Tryd.prog 3 #[.slice A n c, .slice B m d, .agg (idv h), enV u, .slice C p q] w fun e w' => e = .returned (.bool true) ∧ Below w.heap.size w w' := by
  have hn1 := hl.small
  have hn2 := hm.small
  have hn3 := hb.small
  have HK := Lib.hid hK
  have e1 : (20 : Int) < n := by omega
  unfold enV
  clear hl hm hb ol ok hK hu
  go_enter Tryd.func3, Tryd.ntmps3
  go_wp2_with (first
    | (go_at_call 9
       refine (cawake_any _ (HK.out.from ((one_alloc w _).trans (((Below.refl _ _).alloc (Nat.le_refl _) _).mono (size_le_alloc _ _))))).mono ?_
       rintro e w1 ⟨rfl, hb1⟩
       obtain ⟨hb0, -, hTe, hTf⟩ := after_two hb1
       have HBw1 := Lib.hid hb0
       have hT : RowB w1 w.heap.size 24 h := hTe
       have hE : w1.heap[w.heap.size + 1]? = some (.cells (enA u) 28 (0, 0)) := hTf
       clear hb1 hb0 hTe hTf))
  go_ret
  exact ⟨rfl, HBw1.out⟩
set_option maxRecDepth 100000 in
set_option maxHeartbeats 2000000 in
theorem ctellsw_k (A : Option Addr) (n c : Nat) (l : List En) (B : Option Addr) (m d : Nat) (k : List En) (h : List Int) (u : En) (C : Option Addr) (p q : Nat) (b : List Int) (w : World) (hK : KTab w) (hl : Ens w A n c l) (hm : Ens w B m d k) (hb : Bts w C p q b) (ol : ∀ u ∈ l, u.ok) (ok : ∀ u ∈ k, u.ok) (hh : h.length = 32) (hhb : ∀ j, 0 ≤ h.getD j 0 ∧ h.getD j 0 < 256) (hu : u.ok) (h1 : n ≤ 20) (h2 : 20 < m) :
    Calls Tryd.prog 3 #[.slice A n c, .slice B m d, .agg (idv h), enV u, .slice C p q] w fun e w' => e = .returned (.bool true) ∧ Below w.heap.size w w' := by
  have hn1 := hl.small
  have hn2 := hm.small
  have hn3 := hb.small
  have HK := Lib.hid hK
  have e1 : ¬ (20 : Int) < n := by omega
  have e2 : (20 : Int) < m := by omega
  unfold enV
  clear hl hm hb ol ok hK hu
  go_enter Tryd.func3, Tryd.ntmps3
  go_wp2_with (first
    | (go_at_call 9
       refine (cawake_any _ (HK.out.from ((one_alloc w _).trans (((Below.refl _ _).alloc (Nat.le_refl _) _).mono (size_le_alloc _ _))))).mono ?_
       rintro e w1 ⟨rfl, hb1⟩
       obtain ⟨hb0, -, hTe, hTf⟩ := after_two hb1
       have HBw1 := Lib.hid hb0
       have hT : RowB w1 w.heap.size 24 h := hTe
       have hE : w1.heap[w.heap.size + 1]? = some (.cells (enA u) 28 (0, 0)) := hTf
       clear hb1 hb0 hTe hTf))
  go_ret
  exact ⟨rfl, HBw1.out⟩
set_option maxRecDepth 100000 in
set_option maxHeartbeats 2000000 in
theorem ctellsw_b (A : Option Addr) (n c : Nat) (l : List En) (B : Option Addr) (m d : Nat) (k : List En) (h : List Int) (u : En) (C : Option Addr) (p q : Nat) (b : List Int) (w : World) (hK : KTab w) (hl : Ens w A n c l) (hm : Ens w B m d k) (hb : Bts w C p q b) (ol : ∀ u ∈ l, u.ok) (ok : ∀ u ∈ k, u.ok) (hh : h.length = 32) (hhb : ∀ j, 0 ≤ h.getD j 0 ∧ h.getD j 0 < 256) (hu : u.ok) (h1 : n ≤ 20) (h2 : m ≤ 20) (h3 : 1500 < p) :
    Calls Tryd.prog 3 #[.slice A n c, .slice B m d, .agg (idv h), enV u, .slice C p q] w fun e w' => e = .returned (.bool true) ∧ Below w.heap.size w w' := by
  have hn1 := hl.small
  have hn2 := hm.small
  have hn3 := hb.small
  have HK := Lib.hid hK
  have e1 : ¬ (20 : Int) < n := by omega
  have e2 : ¬ (20 : Int) < m := by omega
  have e3 : (1500 : Int) < p := by omega
  unfold enV
  clear hl hm hb ol ok hK hu
  go_enter Tryd.func3, Tryd.ntmps3
  go_wp2_with (first
    | (go_at_call 9
       refine (cawake_any _ (HK.out.from ((one_alloc w _).trans (((Below.refl _ _).alloc (Nat.le_refl _) _).mono (size_le_alloc _ _))))).mono ?_
       rintro e w1 ⟨rfl, hb1⟩
       obtain ⟨hb0, -, hTe, hTf⟩ := after_two hb1
       have HBw1 := Lib.hid hb0
       have hT : RowB w1 w.heap.size 24 h := hTe
       have hE : w1.heap[w.heap.size + 1]? = some (.cells (enA u) 28 (0, 0)) := hTf
       clear hb1 hb0 hTe hTf))
  go_ret
  exact ⟨rfl, HBw1.out⟩
set_option maxRecDepth 100000 in
set_option maxHeartbeats 8000000 in
theorem ctellsw_yes (A : Option Addr) (n c : Nat) (l : List En) (B : Option Addr) (m d : Nat) (k : List En) (h : List Int) (u : En) (C : Option Addr) (p q : Nat) (b : List Int) (w : World) (hK : KTab w) (hl : Ens w A n c l) (hm : Ens w B m d k) (hb : Bts w C p q b) (ol : ∀ u ∈ l, u.ok) (ok : ∀ u ∈ k, u.ok) (hh : h.length = 32) (hhb : ∀ j, 0 ≤ h.getD j 0 ∧ h.getD j 0 < 256) (hu : u.ok) (h1 : n ≤ 20) (h2 : m ≤ 20) (h3 : p ≤ 1500) :
    Calls Tryd.prog 3 #[.slice A n c, .slice B m d, .agg (idv h), enV u, .slice C p q] w fun e w' => e = .returned (.bool true) ∧ Below w.heap.size w w' := by
  have hn1 := hl.small
  have hn2 := hm.small
  have hn3 := hb.small
  have HK := Lib.hid hK
  have e1 : ¬ (20 : Int) < n := by omega
  have e2 : ¬ (20 : Int) < m := by omega
  have e3 : ¬ (1500 : Int) < p := by omega
  have HL := Lib.hid hl
  have HM := Lib.hid hm
  have HD := Lib.hid hb
  have HPA := Lib.hid (fun (X : World) (hk : KTab X) (h : Ens X A n c l) => cput_any A n c l X hk h ol)
  have HPB := Lib.hid (fun (X : World) (h : Ens X A n c l) => rputc_any A n c l X h ol)
  have HLA := Lib.hid (fun (X : World) (hk : KTab X) => clink_any h u X hk hh hhb hu)
  have HLB := Lib.hid (fun (X : World) => rlink_any h u X hh hhb hu)
  have HRA := Lib.hid (fun (X : World) (hk : KTab X) (h : Bts X C p q b) => cread_any C p q b X hk h)
  have HRB := Lib.hid (fun (X : World) (h : Bts X C p q b) => rreadc_any C p q b X h)
  have HVA := Lib.hid (fun (X : World) (hk : KTab X) (h : Bts X C p q b) => cver_any C p q b X hk h)
  have HVB := Lib.hid (fun (X : World) (h : Bts X C p q b) => rverc_any C p q b X h)
  have HCA := Lib.hid (fun (X : World) (hk : KTab X) (h1 : Ens X A n c l) (h2 : Ens X B m d k) => cclash_any A n c l B m d k X hk h1 h2 ol ok)
  have HCB := Lib.hid (fun (X : World) (h1 : Ens X A n c l) (h2 : Ens X B m d k) => rclash_any A n c l B m d k X h1 h2 ol ok)
  have HSA := Lib.hid (fun (X : World) (hk : KTab X) => cstart_any X hk)
  have HSB := Lib.hid (show ∀ W : World, Calls Tryd.prog 22 #[.slice none 0 0] W (fun e w' => e = .returned (.agg (idv startC)) ∧ Below W.heap.size W w') from fun W => rheadc_any none 0 0 [] W (Ens.nil W) rfl (fun u hu => by cases hu))
  have HSM := Lib.hid (fun (A1 : Option Addr) (d1 : Nat) (A2 : Option Addr) (n1 n2 d2 : Nat) (X : World) (h1 : Ens X A1 n1 d1 (readC b)) (h2 : Ens X A2 n2 d2 (readC b)) => ersame_any A1 n1 d1 _ A2 n2 d2 _ X h1 h2)
  rw [show sameE (readC b) (readC b) = true from decide_eq_true rfl] at HSM
  unfold GBe at HSM
  have HSL := Lib.hid (show startC.length = 32 from csum_len [0])
  obtain ⟨SC, hSC⟩ : ∃ s, startC = s := ⟨_, rfl⟩
  rw [hSC] at HSA HSB HSL
  obtain ⟨RC, hRC⟩ : ∃ R, (if putC l = true then recsC l else []) = R := ⟨_, rfl⟩
  obtain ⟨H, hH⟩ : ∃ R, (if putC l = true then headC l else noughtsC) = R := ⟨_, rfl⟩
  have HHL := Lib.hid (show H.length = 32 by rw [← hH]; split; exact headC_len _; rfl)
  obtain ⟨I, hI⟩ : ∃ I, putC l = I := ⟨_, rfl⟩
  rw [hRC, hH, hI] at HPA HPB
  obtain ⟨X, hX⟩ : ∃ X, linkP h u = X := ⟨_, rfl⟩
  have HXL := Lib.hid (show X.length = 32 by rw [← hX]; exact linkP_len _ _)
  obtain ⟨J, hJ⟩ : ∃ J, mayE u = J := ⟨_, rfl⟩
  rw [hX, hJ] at HLA HLB
  obtain ⟨R, hR⟩ : ∃ R, readC b = R := ⟨_, rfl⟩
  rw [hR] at HRA HRB HSM
  obtain ⟨Z, hZ⟩ : ∃ Z, headC R = Z := ⟨_, rfl⟩
  have HZL := Lib.hid (show Z.length = 32 by rw [← hZ]; exact headC_len _)
  rw [hZ] at HRA HRB
  obtain ⟨N, hN⟩ : ∃ N, R.length = N := ⟨_, rfl⟩
  rw [hN] at HRA HRB
  obtain ⟨V, hV⟩ : ∃ V, verC b = V := ⟨_, rfl⟩
  have HVL := Lib.hid (show V.length = 32 by rw [← hV]; exact verC_len b)
  obtain ⟨E, hE'⟩ : ∃ E, errC b = E := ⟨_, rfl⟩
  rw [hV, hE'] at HVA HVB
  obtain ⟨Y1, hY1⟩ : ∃ Y, (clashP l k).1 = Y := ⟨_, rfl⟩
  obtain ⟨Y2, hY2⟩ : ∃ Y, (clashP l k).2 = Y := ⟨_, rfl⟩
  obtain ⟨G, hG⟩ : ∃ G, clashB l k = G := ⟨_, rfl⟩
  rw [hY1, hY2, hG] at HCA HCB
  obtain ⟨sp, hsp⟩ : ∃ s, bstr RC = s := ⟨_, rfl⟩
  obtain ⟨s1, hs1⟩ : ∃ s, bstr Y1 = s := ⟨_, rfl⟩
  obtain ⟨s2, hs2⟩ : ∃ s, bstr Y2 = s := ⟨_, rfl⟩
  have HSP := Lib.hid hsp
  have HS1 := Lib.hid hs1
  have HS2 := Lib.hid hs2
  have HTL := Lib.hid hh
  have hq := fun (Q : List Int) (hQ : Q.length = 32) (w : World) => (show (Op.equalIn 10000 24 (.agg (idv Q)) (.agg (idv Q))).run Tryd.prog w = .ok true w by rw [eq_ids _ _ hQ hQ, decide_eq_true rfl])
  have HQ := Lib.hid hq
  unfold enV at HLA HLB ⊢
  clear hl hm hb ol ok hK hu hh hhb hRC hH hI hX hJ hR hZ hN hV hE' hY1 hY2 hG hsp hs1 hs2 hSC hq
  go_enter Tryd.func3, Tryd.ntmps3
  go_wp2_with (first
    | (go_at_call 9
       refine (cawake_any _ (HK.out.from ((one_alloc w _).trans (((Below.refl _ _).alloc (Nat.le_refl _) _).mono (size_le_alloc _ _))))).mono ?_
       rintro e w1 ⟨rfl, hb1⟩
       obtain ⟨hb0, -, hTe, hTf⟩ := after_two hb1
       have HBw1 := Lib.hid hb0
       have hT : RowB w1 w.heap.size 24 h := hTe
       have hE : w1.heap[w.heap.size + 1]? = some (.cells (enA u) 28 (0, 0)) := hTf
       clear hb1 hb0 hTe hTf)
    | (go_at_call 10
       (with_reducible refine (HPA.out _ (HK.out.from HBw1.out) (HL.out.below HBw1.out)).mono ?_)
       rintro e w2 ⟨A2, n2, c2, rfl, hbtp, hbx⟩
       have HBw2 := Lib.hid (HBw1.out.trans (hbx.mono HBw1.out.size))
       have hT := hT.keep hbx
       have hE := (hbx.block _ (Array.getElem?_eq_some_iff.1 hE).1).trans hE
       have HDp := Lib.hid hbtp
       clear hbtp
       clear hbx)
    | ((with_reducible refine wpList_store_blk rfl 24 _ _ rfl w2.heap.size (idv H) ?hx2 ?hy2 24 _ (heap_alloc_new w2 _) (info32 HHL.out) ?hs2 (idv_one _) ?_); (case hx2 => rfl); (case hy2 => rfl); (case hs2 => rw [idv_size, HHL.out]; rfl)
       intro w3 hg2 hH hs2
       have hH : RowB w3 w2.heap.size 24 H := hH
       have hbx : Below w2.heap.size w2 w3 := Below.grows (one_alloc w2 _) hg2 (size_le_alloc _ _) (Nat.le_refl _)
       have HBw3 := Lib.hid (HBw2.out.trans (hbx.mono HBw2.out.size))
       have hT := hT.keep hbx
       have HDp := Lib.hid (HDp.out.below hbx)
       have hE := (hbx.block _ (Array.getElem?_eq_some_iff.1 hE).1).trans hE
       clear hbx hg2 hs2)
    | (go_at_call 11
       (with_reducible refine (HPB.out _ (HL.out.below HBw3.out)).mono ?_)
       rintro e w4 ⟨A3, n3, c3, rfl, hbtq, hbx⟩
       have HBw4 := Lib.hid (HBw3.out.trans (hbx.mono HBw3.out.size))
       have hT := hT.keep hbx
       have hH := hH.keep hbx
       have HDp := Lib.hid (HDp.out.below hbx)
       have hE := (hbx.block _ (Array.getElem?_eq_some_iff.1 hE).1).trans hE
       have HDq := Lib.hid hbtq
       clear hbtq
       clear hbx)
    | ((with_reducible refine wpList_store_blk rfl 24 _ _ rfl w4.heap.size (idv H) ?hx3 ?hy3 24 _ (heap_alloc_new w4 _) (info32 HHL.out) ?hs3 (idv_one _) ?_); (case hx3 => rfl); (case hy3 => rfl); (case hs3 => rw [idv_size, HHL.out]; rfl)
       intro w5 hg3 hHb hs3
       have hHb : RowB w5 w4.heap.size 24 H := hHb
       have hbx : Below w4.heap.size w4 w5 := Below.grows (one_alloc w4 _) hg3 (size_le_alloc _ _) (Nat.le_refl _)
       have HBw5 := Lib.hid (HBw4.out.trans (hbx.mono HBw4.out.size))
       have hT := hT.keep hbx
       have hH := hH.keep hbx
       have HDp := Lib.hid (HDp.out.below hbx)
       have HDq := Lib.hid (HDq.out.below hbx)
       have hE := (hbx.block _ (Array.getElem?_eq_some_iff.1 hE).1).trans hE
       clear hbx hg3 hs3)
    | ((with_reducible refine wpList_load_blk 24 _ rfl w.heap.size ?hx40 24 (idv h) (0, 0) _ hT.is Tryd.underlying24 ?hd40 (info32 HTL.out) ?_ ?hw40); (case hx40 => rfl); (case hd40 => rfl); (case hw40 => rfl))
    | ((with_reducible refine wpList_load_blk 28 _ rfl (w.heap.size + 1) ?hx41 28 (enA u) (0, 0) _ hE Tryd.underlying28 ?hd41 (info_en (enA_size _)) ?_ ?hw41); (case hx41 => rfl); (case hd41 => rfl); (case hw41 => rfl))
    | (go_at_call 12
       (with_reducible refine (HLA.out _ (HK.out.from HBw5.out)).mono ?_)
       rintro e w6 ⟨rfl, hbx⟩
       have HBw6 := Lib.hid (HBw5.out.trans (hbx.mono HBw5.out.size))
       have hT := hT.keep hbx
       have hH := hH.keep hbx
       have hHb := hHb.keep hbx
       have HDp := Lib.hid (HDp.out.below hbx)
       have HDq := Lib.hid (HDq.out.below hbx)
       have hE := (hbx.block _ (Array.getElem?_eq_some_iff.1 hE).1).trans hE
       clear hbx)
    | ((with_reducible refine wpList_store_blk rfl 24 _ _ rfl w6.heap.size (idv X) ?hx4 ?hy4 24 _ (heap_alloc_new w6 _) (info32 HXL.out) ?hs4 (idv_one _) ?_); (case hx4 => rfl); (case hy4 => rfl); (case hs4 => rw [idv_size, HXL.out]; rfl)
       intro w7 hg4 hX hs4
       have hX : RowB w7 w6.heap.size 24 X := hX
       have hbx : Below w6.heap.size w6 w7 := Below.grows (one_alloc w6 _) hg4 (size_le_alloc _ _) (Nat.le_refl _)
       have HBw7 := Lib.hid (HBw6.out.trans (hbx.mono HBw6.out.size))
       have hT := hT.keep hbx
       have hH := hH.keep hbx
       have hHb := hHb.keep hbx
       have HDp := Lib.hid (HDp.out.below hbx)
       have HDq := Lib.hid (HDq.out.below hbx)
       have hE := (hbx.block _ (Array.getElem?_eq_some_iff.1 hE).1).trans hE
       clear hbx hg4 hs4)
    | ((with_reducible refine wpList_load_blk 24 _ rfl w.heap.size ?hx42 24 (idv h) (0, 0) _ hT.is Tryd.underlying24 ?hd42 (info32 HTL.out) ?_ ?hw42); (case hx42 => rfl); (case hd42 => rfl); (case hw42 => rfl))
    | ((with_reducible refine wpList_load_blk 28 _ rfl (w.heap.size + 1) ?hx43 28 (enA u) (0, 0) _ hE Tryd.underlying28 ?hd43 (info_en (enA_size _)) ?_ ?hw43); (case hx43 => rfl); (case hd43 => rfl); (case hw43 => rfl))
    | (go_at_call 13
       (with_reducible refine (HLB.out _).mono ?_)
       rintro e w8 ⟨rfl, hbx⟩
       have HBw8 := Lib.hid (HBw7.out.trans (hbx.mono HBw7.out.size))
       have hT := hT.keep hbx
       have hH := hH.keep hbx
       have hHb := hHb.keep hbx
       have hX := hX.keep hbx
       have HDp := Lib.hid (HDp.out.below hbx)
       have HDq := Lib.hid (HDq.out.below hbx)
       have hE := (hbx.block _ (Array.getElem?_eq_some_iff.1 hE).1).trans hE
       clear hbx)
    | ((with_reducible refine wpList_store_blk rfl 24 _ _ rfl w8.heap.size (idv X) ?hx5 ?hy5 24 _ (heap_alloc_new w8 _) (info32 HXL.out) ?hs5 (idv_one _) ?_); (case hx5 => rfl); (case hy5 => rfl); (case hs5 => rw [idv_size, HXL.out]; rfl)
       intro w9 hg5 hXb hs5
       have hXb : RowB w9 w8.heap.size 24 X := hXb
       have hbx : Below w8.heap.size w8 w9 := Below.grows (one_alloc w8 _) hg5 (size_le_alloc _ _) (Nat.le_refl _)
       have HBw9 := Lib.hid (HBw8.out.trans (hbx.mono HBw8.out.size))
       have hT := hT.keep hbx
       have hH := hH.keep hbx
       have hHb := hHb.keep hbx
       have hX := hX.keep hbx
       have HDp := Lib.hid (HDp.out.below hbx)
       have HDq := Lib.hid (HDq.out.below hbx)
       have hE := (hbx.block _ (Array.getElem?_eq_some_iff.1 hE).1).trans hE
       clear hbx hg5 hs5)
    | (go_at_call 14
       (with_reducible refine (HRA.out _ (HK.out.from HBw9.out) (HD.out.below HBw9.out)).mono ?_)
       rintro e w10 ⟨A6, n6, c6, rfl, hen, hbx⟩
       have HBw10 := Lib.hid (HBw9.out.trans (hbx.mono HBw9.out.size))
       have hT := hT.keep hbx
       have hH := hH.keep hbx
       have hHb := hHb.keep hbx
       have hX := hX.keep hbx
       have hXb := hXb.keep hbx
       have HDp := Lib.hid (HDp.out.below hbx)
       have HDq := Lib.hid (HDq.out.below hbx)
       have hE := (hbx.block _ (Array.getElem?_eq_some_iff.1 hE).1).trans hE
       have HEr := Lib.hid hen
       clear hen
       clear hbx)
    | ((with_reducible refine wpList_store_blk rfl 24 _ _ rfl w10.heap.size (idv Z) ?hx6 ?hy6 24 _ (heap_alloc_new w10 _) (info32 HZL.out) ?hs6 (idv_one _) ?_); (case hx6 => rfl); (case hy6 => rfl); (case hs6 => rw [idv_size, HZL.out]; rfl)
       intro w11 hg6 hZ hs6
       have hZ : RowB w11 w10.heap.size 24 Z := hZ
       have hbx : Below w10.heap.size w10 w11 := Below.grows (one_alloc w10 _) hg6 (size_le_alloc _ _) (Nat.le_refl _)
       have HBw11 := Lib.hid (HBw10.out.trans (hbx.mono HBw10.out.size))
       have hT := hT.keep hbx
       have hH := hH.keep hbx
       have hHb := hHb.keep hbx
       have hX := hX.keep hbx
       have hXb := hXb.keep hbx
       have HDp := Lib.hid (HDp.out.below hbx)
       have HDq := Lib.hid (HDq.out.below hbx)
       have HEr := Lib.hid (HEr.out.below hbx)
       have hE := (hbx.block _ (Array.getElem?_eq_some_iff.1 hE).1).trans hE
       clear hbx hg6 hs6)
    | (go_at_call 15
       (with_reducible refine (HRB.out _ (HD.out.below HBw11.out)).mono ?_)
       rintro e w12 ⟨A7, n7, c7, rfl, hen, hbx⟩
       have HBw12 := Lib.hid (HBw11.out.trans (hbx.mono HBw11.out.size))
       have hT := hT.keep hbx
       have hH := hH.keep hbx
       have hHb := hHb.keep hbx
       have hX := hX.keep hbx
       have hXb := hXb.keep hbx
       have hZ := hZ.keep hbx
       have HDp := Lib.hid (HDp.out.below hbx)
       have HDq := Lib.hid (HDq.out.below hbx)
       have HEr := Lib.hid (HEr.out.below hbx)
       have hE := (hbx.block _ (Array.getElem?_eq_some_iff.1 hE).1).trans hE
       have HEs := Lib.hid hen
       clear hen
       clear hbx)
    | ((with_reducible refine wpList_store_blk rfl 24 _ _ rfl w12.heap.size (idv Z) ?hx7 ?hy7 24 _ (heap_alloc_new w12 _) (info32 HZL.out) ?hs7 (idv_one _) ?_); (case hx7 => rfl); (case hy7 => rfl); (case hs7 => rw [idv_size, HZL.out]; rfl)
       intro w13 hg7 hZb hs7
       have hZb : RowB w13 w12.heap.size 24 Z := hZb
       have hbx : Below w12.heap.size w12 w13 := Below.grows (one_alloc w12 _) hg7 (size_le_alloc _ _) (Nat.le_refl _)
       have HBw13 := Lib.hid (HBw12.out.trans (hbx.mono HBw12.out.size))
       have hT := hT.keep hbx
       have hH := hH.keep hbx
       have hHb := hHb.keep hbx
       have hX := hX.keep hbx
       have hXb := hXb.keep hbx
       have hZ := hZ.keep hbx
       have HDp := Lib.hid (HDp.out.below hbx)
       have HDq := Lib.hid (HDq.out.below hbx)
       have HEr := Lib.hid (HEr.out.below hbx)
       have HEs := Lib.hid (HEs.out.below hbx)
       have hE := (hbx.block _ (Array.getElem?_eq_some_iff.1 hE).1).trans hE
       clear hbx hg7 hs7)
    | (go_at_call 16
       (with_reducible refine (HVA.out _ (HK.out.from HBw13.out) (HD.out.below HBw13.out)).mono ?_)
       rintro e w14 ⟨rfl, hbx⟩
       have HBw14 := Lib.hid (HBw13.out.trans (hbx.mono HBw13.out.size))
       have hT := hT.keep hbx
       have hH := hH.keep hbx
       have hHb := hHb.keep hbx
       have hX := hX.keep hbx
       have hXb := hXb.keep hbx
       have hZ := hZ.keep hbx
       have hZb := hZb.keep hbx
       have HDp := Lib.hid (HDp.out.below hbx)
       have HDq := Lib.hid (HDq.out.below hbx)
       have HEr := Lib.hid (HEr.out.below hbx)
       have HEs := Lib.hid (HEs.out.below hbx)
       have hE := (hbx.block _ (Array.getElem?_eq_some_iff.1 hE).1).trans hE
       clear hbx)
    | ((with_reducible refine wpList_store_blk rfl 24 _ _ rfl w14.heap.size (idv V) ?hx8 ?hy8 24 _ (heap_alloc_new w14 _) (info32 HVL.out) ?hs8 (idv_one _) ?_); (case hx8 => rfl); (case hy8 => rfl); (case hs8 => rw [idv_size, HVL.out]; rfl)
       intro w15 hg8 hV hs8
       have hV : RowB w15 w14.heap.size 24 V := hV
       have hbx : Below w14.heap.size w14 w15 := Below.grows (one_alloc w14 _) hg8 (size_le_alloc _ _) (Nat.le_refl _)
       have HBw15 := Lib.hid (HBw14.out.trans (hbx.mono HBw14.out.size))
       have hT := hT.keep hbx
       have hH := hH.keep hbx
       have hHb := hHb.keep hbx
       have hX := hX.keep hbx
       have hXb := hXb.keep hbx
       have hZ := hZ.keep hbx
       have hZb := hZb.keep hbx
       have HDp := Lib.hid (HDp.out.below hbx)
       have HDq := Lib.hid (HDq.out.below hbx)
       have HEr := Lib.hid (HEr.out.below hbx)
       have HEs := Lib.hid (HEs.out.below hbx)
       have hE := (hbx.block _ (Array.getElem?_eq_some_iff.1 hE).1).trans hE
       clear hbx hg8 hs8)
    | (go_at_call 17
       (with_reducible refine (HVB.out _ (HD.out.below HBw15.out)).mono ?_)
       rintro e w16 ⟨rfl, hbx⟩
       have HBw16 := Lib.hid (HBw15.out.trans (hbx.mono HBw15.out.size))
       have hT := hT.keep hbx
       have hH := hH.keep hbx
       have hHb := hHb.keep hbx
       have hX := hX.keep hbx
       have hXb := hXb.keep hbx
       have hZ := hZ.keep hbx
       have hZb := hZb.keep hbx
       have hV := hV.keep hbx
       have HDp := Lib.hid (HDp.out.below hbx)
       have HDq := Lib.hid (HDq.out.below hbx)
       have HEr := Lib.hid (HEr.out.below hbx)
       have HEs := Lib.hid (HEs.out.below hbx)
       have hE := (hbx.block _ (Array.getElem?_eq_some_iff.1 hE).1).trans hE
       clear hbx)
    | ((with_reducible refine wpList_store_blk rfl 24 _ _ rfl w16.heap.size (idv V) ?hx9 ?hy9 24 _ (heap_alloc_new w16 _) (info32 HVL.out) ?hs9 (idv_one _) ?_); (case hx9 => rfl); (case hy9 => rfl); (case hs9 => rw [idv_size, HVL.out]; rfl)
       intro w17 hg9 hVb hs9
       have hVb : RowB w17 w16.heap.size 24 V := hVb
       have hbx : Below w16.heap.size w16 w17 := Below.grows (one_alloc w16 _) hg9 (size_le_alloc _ _) (Nat.le_refl _)
       have HBw17 := Lib.hid (HBw16.out.trans (hbx.mono HBw16.out.size))
       have hT := hT.keep hbx
       have hH := hH.keep hbx
       have hHb := hHb.keep hbx
       have hX := hX.keep hbx
       have hXb := hXb.keep hbx
       have hZ := hZ.keep hbx
       have hZb := hZb.keep hbx
       have hV := hV.keep hbx
       have HDp := Lib.hid (HDp.out.below hbx)
       have HDq := Lib.hid (HDq.out.below hbx)
       have HEr := Lib.hid (HEr.out.below hbx)
       have HEs := Lib.hid (HEs.out.below hbx)
       have hE := (hbx.block _ (Array.getElem?_eq_some_iff.1 hE).1).trans hE
       clear hbx hg9 hs9)
    | (go_at_call 18
       (with_reducible refine (HSM.out _ _ _ _ _ _ _ HEr.out HEs.out).mono ?_)
       rintro e w18 ⟨rfl, hbx⟩
       have HBw18 := Lib.hid (HBw17.out.trans (hbx.mono HBw17.out.size))
       have hT := hT.keep hbx
       have hH := hH.keep hbx
       have hHb := hHb.keep hbx
       have hX := hX.keep hbx
       have hXb := hXb.keep hbx
       have hZ := hZ.keep hbx
       have hZb := hZb.keep hbx
       have hV := hV.keep hbx
       have hVb := hVb.keep hbx
       have HDp := Lib.hid (HDp.out.below hbx)
       have HDq := Lib.hid (HDq.out.below hbx)
       have HEr := Lib.hid (HEr.out.below hbx)
       have HEs := Lib.hid (HEs.out.below hbx)
       have hE := (hbx.block _ (Array.getElem?_eq_some_iff.1 hE).1).trans hE
       have kp := conv_bts HDp.out
       have kq := conv_bts HDq.out
       rw [HSP.out] at kp kq
       clear hbx)
    | ((with_reducible refine wpList_load_blk 24 _ rfl w2.heap.size ?hx50 24 (idv H) (0, 0) _ hH.is Tryd.underlying24 ?hd50 (info32 HHL.out) ?_ ?hw50); (case hx50 => rfl); (case hd50 => rfl); (case hw50 => rfl))
    | ((with_reducible refine wpList_load_blk 24 _ rfl w4.heap.size ?hx51 24 (idv H) (0, 0) _ hHb.is Tryd.underlying24 ?hd51 (info32 HHL.out) ?_ ?hw51); (case hx51 => rfl); (case hd51 => rfl); (case hw51 => rfl))
    | ((with_reducible refine wpList_load_blk 24 _ rfl w6.heap.size ?hx52 24 (idv X) (0, 0) _ hX.is Tryd.underlying24 ?hd52 (info32 HXL.out) ?_ ?hw52); (case hx52 => rfl); (case hd52 => rfl); (case hw52 => rfl))
    | ((with_reducible refine wpList_load_blk 24 _ rfl w8.heap.size ?hx53 24 (idv X) (0, 0) _ hXb.is Tryd.underlying24 ?hd53 (info32 HXL.out) ?_ ?hw53); (case hx53 => rfl); (case hd53 => rfl); (case hw53 => rfl))
    | ((with_reducible refine wpList_load_blk 24 _ rfl w10.heap.size ?hx54 24 (idv Z) (0, 0) _ hZ.is Tryd.underlying24 ?hd54 (info32 HZL.out) ?_ ?hw54); (case hx54 => rfl); (case hd54 => rfl); (case hw54 => rfl))
    | ((with_reducible refine wpList_load_blk 24 _ rfl w12.heap.size ?hx55 24 (idv Z) (0, 0) _ hZb.is Tryd.underlying24 ?hd55 (info32 HZL.out) ?_ ?hw55); (case hx55 => rfl); (case hd55 => rfl); (case hw55 => rfl))
    | ((with_reducible refine wpList_load_blk 24 _ rfl w14.heap.size ?hx56 24 (idv V) (0, 0) _ hV.is Tryd.underlying24 ?hd56 (info32 HVL.out) ?_ ?hw56); (case hx56 => rfl); (case hd56 => rfl); (case hw56 => rfl))
    | ((with_reducible refine wpList_load_blk 24 _ rfl w16.heap.size ?hx57 24 (idv V) (0, 0) _ hVb.is Tryd.underlying24 ?hd57 (info32 HVL.out) ?_ ?hw57); (case hx57 => rfl); (case hd57 => rfl); (case hw57 => rfl))
    | ((with_reducible refine wpList_eq_id .neq _ _ rfl (idv H) (idv H) ?hx60 ?hy60 true false (.inr ⟨rfl, rfl⟩) (fun w => HQ.out _ HHL.out w) ?_ ?hw60); (case hx60 => rfl); (case hy60 => rfl); (case hw60 => rfl))
    | ((with_reducible refine wpList_eq_id .neq _ _ rfl (idv X) (idv X) ?hx61 ?hy61 true false (.inr ⟨rfl, rfl⟩) (fun w => HQ.out _ HXL.out w) ?_ ?hw61); (case hx61 => rfl); (case hy61 => rfl); (case hw61 => rfl))
    | ((with_reducible refine wpList_eq_id .neq _ _ rfl (idv Z) (idv Z) ?hx62 ?hy62 true false (.inr ⟨rfl, rfl⟩) (fun w => HQ.out _ HZL.out w) ?_ ?hw62); (case hx62 => rfl); (case hy62 => rfl); (case hw62 => rfl))
    | ((with_reducible refine wpList_eq_id .neq _ _ rfl (idv V) (idv V) ?hx63 ?hy63 true false (.inr ⟨rfl, rfl⟩) (fun w => HQ.out _ HVL.out w) ?_ ?hw63); (case hx63 => rfl); (case hy63 => rfl); (case hw63 => rfl))
    | (go_at_call 19
       (with_reducible refine (HCA.out _ (HK.out.from HBw18.out) (HL.out.below HBw18.out) (HM.out.below HBw18.out)).mono ?_)
       rintro e w19 ⟨A8, n8, c8, A9, n9, c9, rfl, hbta, hbtb, hbx⟩
       have HBw19 := Lib.hid (HBw18.out.trans (hbx.mono HBw18.out.size))
       have HDa := Lib.hid hbta
       have HDb := Lib.hid hbtb
       clear hbta hbtb
       clear kp kq
       clear hbx)
    | (go_at_call 20
       (with_reducible refine (HCB.out _ (HL.out.below HBw19.out) (HM.out.below HBw19.out)).mono ?_)
       rintro e w20 ⟨A10, n10, c10, A11, n11, c11, rfl, hbtc, hbtd, hbx⟩
       have HBw20 := Lib.hid (HBw19.out.trans (hbx.mono HBw19.out.size))
       have HDa := Lib.hid (HDa.out.below hbx)
       have HDb := Lib.hid (HDb.out.below hbx)
       have HDc := Lib.hid hbtc
       have HDd := Lib.hid hbtd
       clear hbtc hbtd
       have ka := conv_bts HDa.out
       have kb := conv_bts HDb.out
       have kc := conv_bts HDc.out
       have kd := conv_bts HDd.out
       rw [HS1.out] at ka kc
       rw [HS2.out] at kb kd
       clear hbx)
    | (go_at_call 21
       (with_reducible refine (HSA.out _ (HK.out.from HBw20.out)).mono ?_)
       rintro e w21 ⟨rfl, hbx⟩
       have HBw21 := Lib.hid (HBw20.out.trans (hbx.mono HBw20.out.size))
       have HDa := Lib.hid (HDa.out.below hbx)
       have HDb := Lib.hid (HDb.out.below hbx)
       have HDc := Lib.hid (HDc.out.below hbx)
       have HDd := Lib.hid (HDd.out.below hbx)
       clear ka kb kc kd
       clear hbx)
    | (go_at_call 22
       (with_reducible refine (HSB.out _).mono ?_)
       rintro e w22 ⟨rfl, hbx⟩
       have HBw22 := Lib.hid (HBw21.out.trans (hbx.mono HBw21.out.size))
       have HDa := Lib.hid (HDa.out.below hbx)
       have HDb := Lib.hid (HDb.out.below hbx)
       have HDc := Lib.hid (HDc.out.below hbx)
       have HDd := Lib.hid (HDd.out.below hbx)
       clear hbx)
    | ((with_reducible refine wpList_eq_id .eql _ _ rfl (idv SC) (idv SC) ?hx70 ?hy70 true true (.inl ⟨rfl, rfl⟩) (fun w => HQ.out _ HSL.out w) ?_ ?hw70); (case hx70 => rfl); (case hy70 => rfl); (case hw70 => rfl)))
  go_ret
  exact ⟨rfl, HBw22.out⟩
theorem ctellsw_any (A : Option Addr) (n c : Nat) (l : List En) (B : Option Addr) (m d : Nat) (k : List En) (h : List Int) (u : En) (C : Option Addr) (p q : Nat) (b : List Int) (w : World) (hK : KTab w) (hl : Ens w A n c l) (hm : Ens w B m d k) (hb : Bts w C p q b) (ol : ∀ u ∈ l, u.ok) (ok : ∀ u ∈ k, u.ok) (hh : h.length = 32) (hhb : ∀ j, 0 ≤ h.getD j 0 ∧ h.getD j 0 < 256) (hu : u.ok) : Calls Tryd.prog 3 #[.slice A n c, .slice B m d, .agg (idv h), enV u, .slice C p q] w fun e w' => e = .returned (.bool true) ∧ Below w.heap.size w w' := by
  by_cases h1 : n ≤ 20
  · by_cases h2 : m ≤ 20
    · by_cases h3 : p ≤ 1500
      · exact ctellsw_yes A n c l B m d k h u C p q b w hK hl hm hb ol ok hh hhb hu h1 h2 h3
      · exact ctellsw_b A n c l B m d k h u C p q b w hK hl hm hb ol ok hh hhb hu h1 h2 (by omega)
    · exact ctellsw_k A n c l B m d k h u C p q b w hK hl hm hb ol ok hh hhb hu h1 (by omega)
  · exact ctellsw_l A n c l B m d k h u C p q b w hK hl hm hb ol ok hh hhb hu (by omega)
end Go.Proofs.YtplfpaclhapldaaDoor
