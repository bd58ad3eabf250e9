/- Joined texts: The walk over the document's Verify of bytes. The walk over the document's own Same of entries. -/
import Derived.Test.YtplfpaclhapldaaDoorCnJJ
import Derived.Test.YtplfpaclhapldaaDoorCnJG
/- The walk over the document's Verify of bytes. -/
namespace Go.Proofs.YtplfpaclhapldaaDoor
set_option maxRecDepth 100000
set_option linter.unusedVariables false
set_option linter.unusedSimpArgs false
open Go.RowKit

/-- gives a head and what is wrong -/
def GV (Z : List Int) (x : Int) (w : World) (e : Ending) (w' : World) : Prop := e = .returned (.tuple #[.agg (idv Z), .int .i64 x]) ∧ Below w.heap.size w w'
set_option maxRecDepth 100000 in
set_option maxHeartbeats 2000000 in
theorem rverc_ok (A : Option Addr) (n c : Nat) (b : List Int) (w : World) (hb : Bts w A n c b) (hc : 62 * (readC b).length = b.length) :
    Calls Tryd.prog 17 #[.slice A n c] w (GV (headC (readC b)) 0 w) := by
  have hn := hb.small
  have hbl := hb.len
  have hbm := bytes_mem hb.ok
  have hro := readC_room b
  have hrl := readC_le b
  have hall := run_all32
  have HRD := Lib.hid (fun (W : World) (h : Bts W A n c b) => rreadc_any A n c b W h)
  have HNL := Lib.hid (show noughtsC.length = 32 from rfl)
  obtain ⟨R, hR⟩ : ∃ R, readC b = R := ⟨_, rfl⟩
  rw [hR] at HRD hro hrl hc
  obtain ⟨Z, hZ⟩ : ∃ Z, headC R = Z := ⟨_, rfl⟩
  have HZL := Lib.hid (show Z.length = 32 by rw [← hZ]; exact headC_len _)
  rw [hZ] at HRD
  have e1 : ((62 * (R.length : Int)) == (n : Int)) = true := by rw [beq_iff_eq]; omega
  have q0 : 0 ≤ (R.length : Int) := by omega
  have HBD := Lib.hid hb
  rw [hR, hZ]
  clear hb hR hZ hc
  go_enter Tryd.func17, Tryd.ntmps17
  go_wp2_with (first
    | (go_at_call 15; (with_reducible refine (HRD.out _ (HBD.out.more _)).mono ?_); rintro e w1 ⟨A5, n5, c5, rfl, hen, hb1⟩
       obtain ⟨hb0, -, hz1⟩ := after_one hb1
       have hz1 : RowB w1 w.heap.size 24 noughtsC := hz1
       have hn5 : R.length = n5 := hen.len
       subst hn5
       have HB1 := Lib.hid hb0
       have HBD := Lib.hid (HBD.out.below hb0)
       clear hb1 hb0 hen)
    | ((with_reducible refine wpList_store_blk rfl 24 _ _ rfl w1.heap.size (idv Z) ?hx2 ?hy2 24 _ (heap_alloc_new w1 _) (info32 HZL.out) ?hs2 (idv_one _) ?_); (case hx2 => rfl); (case hy2 => rfl); (case hs2 => rw [idv_size, HZL.out]; rfl)
       intro w2 hg2 hX2 hs2
       have hb2 : Below w1.heap.size w1 w2 := Below.grows (one_alloc w1 _) hg2 (size_le_alloc _ _) (Nat.le_refl _)
       have hz2 := hz1.keep hb2
       have hX2 : RowB w2 w1.heap.size 24 Z := hX2
       have HB2 := Lib.hid (HB1.out.trans (hb2.mono HB1.out.size))
       have HBD := Lib.hid (HBD.out.below hb2)
       clear hb2 hg2 hs2 hz1)
    | ((with_reducible refine wpList_load_blk 24 _ rfl w1.heap.size ?hx8 24 (idv Z) (0, 0) _ hX2.is Tryd.underlying24 ?hd8 (info32 HZL.out) ?_ ?hw8); (case hx8 => rfl); (case hd8 => rfl); (case hw8 => rfl))
    | ((with_reducible refine wpList_store_blk rfl 24 _ _ rfl w.heap.size (idv Z) ?hx7 ?hy7 24 _ hz2.is (info32 HZL.out) ?hs7 (idv_one _) ?_); (case hx7 => rfl); (case hy7 => rfl); (case hs7 => first | rfl | (rw [idv_size, idv_size, HZL.out]; rfl))
       intro w7 hg7 hX7 hs7
       clear hz2))
  refine bodyPost_ret (v := .tuple #[.agg (idv Z), .int .i64 0]) ?_ rfl ⟨rfl, ?_⟩
  · exact results_blk_tmp Tryd.results17 _ _ _ w.heap.size 24 _ (0, 0) _ rfl hX7 Tryd.underlying24 rfl (info32 HZL.out) _ rfl
  · exact HB2.out.grown hg7 HB2.out.size (fun k e => by cases e; exact Nat.le_refl _)
set_option maxRecDepth 100000 in
set_option maxHeartbeats 2000000 in
theorem rverc_most (A : Option Addr) (n c : Nat) (b : List Int) (w : World) (hb : Bts w A n c b) (hc : 62 * (readC b).length ≠ b.length ∧ (readC b).length = 264) :
    Calls Tryd.prog 17 #[.slice A n c] w (GV (noughtsC) 4 w) := by
  have hn := hb.small
  have hbl := hb.len
  have hbm := bytes_mem hb.ok
  have hro := readC_room b
  have hrl := readC_le b
  have hall := run_all32
  have HRD := Lib.hid (fun (W : World) (h : Bts W A n c b) => rreadc_any A n c b W h)
  have HNL := Lib.hid (show noughtsC.length = 32 from rfl)
  obtain ⟨R, hR⟩ : ∃ R, readC b = R := ⟨_, rfl⟩
  rw [hR] at HRD hro hrl hc
  obtain ⟨Z, hZ⟩ : ∃ Z, headC R = Z := ⟨_, rfl⟩
  have HZL := Lib.hid (show Z.length = 32 by rw [← hZ]; exact headC_len _)
  rw [hZ] at HRD
  have e1 : ((62 * (R.length : Int)) == (n : Int)) = false := by rw [beq_eq_false_iff_ne]; omega
  have q0 : 0 ≤ (R.length : Int) := by omega
  have e2 : ((R.length : Int) == 264) = true := by rw [beq_iff_eq]; omega
  have HBD := Lib.hid hb
  clear hb hR hZ hc
  go_enter Tryd.func17, Tryd.ntmps17
  go_wp2_with (first
    | (go_at_call 15; (with_reducible refine (HRD.out _ (HBD.out.more _)).mono ?_); rintro e w1 ⟨A5, n5, c5, rfl, hen, hb1⟩
       obtain ⟨hb0, -, hz1⟩ := after_one hb1
       have hz1 : RowB w1 w.heap.size 24 noughtsC := hz1
       have hn5 : R.length = n5 := hen.len
       subst hn5
       have HB1 := Lib.hid hb0
       have HBD := Lib.hid (HBD.out.below hb0)
       clear hb1 hb0 hen)
    | ((with_reducible refine wpList_store_blk rfl 24 _ _ rfl w1.heap.size (idv Z) ?hx2 ?hy2 24 _ (heap_alloc_new w1 _) (info32 HZL.out) ?hs2 (idv_one _) ?_); (case hx2 => rfl); (case hy2 => rfl); (case hs2 => rw [idv_size, HZL.out]; rfl)
       intro w2 hg2 hX2 hs2
       have hb2 : Below w1.heap.size w1 w2 := Below.grows (one_alloc w1 _) hg2 (size_le_alloc _ _) (Nat.le_refl _)
       have hz2 := hz1.keep hb2
       have hX2 : RowB w2 w1.heap.size 24 Z := hX2
       have HB2 := Lib.hid (HB1.out.trans (hb2.mono HB1.out.size))
       have HBD := Lib.hid (HBD.out.below hb2)
       clear hb2 hg2 hs2 hz1)
    | ((with_reducible refine wpList_store_blk rfl 24 _ _ rfl w.heap.size (idv noughtsC) ?hx7 ?hy7 24 _ hz2.is (info32 HNL.out) ?hs7 (idv_one _) ?_); (case hx7 => rfl); (case hy7 => rfl); (case hs7 => first | rfl | (rw [idv_size, idv_size, HNL.out]; rfl))
       intro w7 hg7 hX7 hs7
       clear hz2))
  refine bodyPost_ret (v := .tuple #[.agg (idv noughtsC), .int .i64 4]) ?_ rfl ⟨rfl, ?_⟩
  · exact results_blk_tmp Tryd.results17 _ _ _ w.heap.size 24 _ (0, 0) _ rfl hX7 Tryd.underlying24 rfl (info32 HNL.out) _ rfl
  · exact HB2.out.grown hg7 HB2.out.size (fun k e => by cases e; exact Nat.le_refl _)
set_option maxRecDepth 100000 in
set_option maxHeartbeats 2000000 in
theorem rverc_short (A : Option Addr) (n c : Nat) (b : List Int) (w : World) (hb : Bts w A n c b) (hc : 62 * (readC b).length ≠ b.length ∧ (readC b).length ≠ 264 ∧ b.length < 62 * (readC b).length + 62) :
    Calls Tryd.prog 17 #[.slice A n c] w (GV (noughtsC) 4 w) := by
  have hn := hb.small
  have hbl := hb.len
  have hbm := bytes_mem hb.ok
  have hro := readC_room b
  have hrl := readC_le b
  have hall := run_all32
  have HRD := Lib.hid (fun (W : World) (h : Bts W A n c b) => rreadc_any A n c b W h)
  have HNL := Lib.hid (show noughtsC.length = 32 from rfl)
  obtain ⟨R, hR⟩ : ∃ R, readC b = R := ⟨_, rfl⟩
  rw [hR] at HRD hro hrl hc
  obtain ⟨Z, hZ⟩ : ∃ Z, headC R = Z := ⟨_, rfl⟩
  have HZL := Lib.hid (show Z.length = 32 by rw [← hZ]; exact headC_len _)
  rw [hZ] at HRD
  have e1 : ((62 * (R.length : Int)) == (n : Int)) = false := by rw [beq_eq_false_iff_ne]; omega
  have q0 : 0 ≤ (R.length : Int) := by omega
  have e2 : ((R.length : Int) == 264) = false := by rw [beq_eq_false_iff_ne]; omega
  have e3 : (n : Int) - 62 * (R.length : Int) < 62 := by omega
  have HBD := Lib.hid hb
  clear hb hR hZ hc
  go_enter Tryd.func17, Tryd.ntmps17
  go_wp2_with (first
    | (go_at_call 15; (with_reducible refine (HRD.out _ (HBD.out.more _)).mono ?_); rintro e w1 ⟨A5, n5, c5, rfl, hen, hb1⟩
       obtain ⟨hb0, -, hz1⟩ := after_one hb1
       have hz1 : RowB w1 w.heap.size 24 noughtsC := hz1
       have hn5 : R.length = n5 := hen.len
       subst hn5
       have HB1 := Lib.hid hb0
       have HBD := Lib.hid (HBD.out.below hb0)
       clear hb1 hb0 hen)
    | ((with_reducible refine wpList_store_blk rfl 24 _ _ rfl w1.heap.size (idv Z) ?hx2 ?hy2 24 _ (heap_alloc_new w1 _) (info32 HZL.out) ?hs2 (idv_one _) ?_); (case hx2 => rfl); (case hy2 => rfl); (case hs2 => rw [idv_size, HZL.out]; rfl)
       intro w2 hg2 hX2 hs2
       have hb2 : Below w1.heap.size w1 w2 := Below.grows (one_alloc w1 _) hg2 (size_le_alloc _ _) (Nat.le_refl _)
       have hz2 := hz1.keep hb2
       have hX2 : RowB w2 w1.heap.size 24 Z := hX2
       have HB2 := Lib.hid (HB1.out.trans (hb2.mono HB1.out.size))
       have HBD := Lib.hid (HBD.out.below hb2)
       clear hb2 hg2 hs2 hz1)
    | ((with_reducible refine wpList_store_blk rfl 24 _ _ rfl w.heap.size (idv noughtsC) ?hx7 ?hy7 24 _ hz2.is (info32 HNL.out) ?hs7 (idv_one _) ?_); (case hx7 => rfl); (case hy7 => rfl); (case hs7 => first | rfl | (rw [idv_size, idv_size, HNL.out]; rfl))
       intro w7 hg7 hX7 hs7
       clear hz2))
  refine bodyPost_ret (v := .tuple #[.agg (idv noughtsC), .int .i64 4]) ?_ rfl ⟨rfl, ?_⟩
  · exact results_blk_tmp Tryd.results17 _ _ _ w.heap.size 24 _ (0, 0) _ rfl hX7 Tryd.underlying24 rfl (info32 HNL.out) _ rfl
  · exact HB2.out.grown hg7 HB2.out.size (fun k e => by cases e; exact Nat.le_refl _)
set_option maxRecDepth 100000 in
set_option maxHeartbeats 2000000 in
theorem rverc_tag (A : Option Addr) (n c : Nat) (b : List Int) (w : World) (hb : Bts w A n c b) (hc : (readC b).length ≠ 264 ∧ 62 * (readC b).length + 62 ≤ b.length) (hg : gotB ((b.drop (62 * (readC b).length)).take 30) = true) :
    Calls Tryd.prog 17 #[.slice A n c] w (GV (noughtsC) 7 w) := by
  have hn := hb.small
  have hbl := hb.len
  have hbm := bytes_mem hb.ok
  have hro := readC_room b
  have hrl := readC_le b
  have hall := run_all32
  have HRD := Lib.hid (fun (W : World) (h : Bts W A n c b) => rreadc_any A n c b W h)
  have HNL := Lib.hid (show noughtsC.length = 32 from rfl)
  obtain ⟨R, hR⟩ : ∃ R, readC b = R := ⟨_, rfl⟩
  rw [hR] at HRD hro hrl hc hg
  obtain ⟨Z, hZ⟩ : ∃ Z, headC R = Z := ⟨_, rfl⟩
  have HZL := Lib.hid (show Z.length = 32 by rw [← hZ]; exact headC_len _)
  rw [hZ] at HRD
  have e1 : ((62 * (R.length : Int)) == (n : Int)) = false := by rw [beq_eq_false_iff_ne]; omega
  have q0 : 0 ≤ (R.length : Int) := by omega
  have e2 : ((R.length : Int) == 264) = false := by rw [beq_eq_false_iff_ne]; omega
  have e3 : ¬ (n : Int) - 62 * (R.length : Int) < 62 := by omega
  obtain ⟨b1, o1, rfl, -, hcut⟩ := cut_any hb (62 * R.length) 30 (by omega) (by omega)
  have hc1 : ∀ W : World, (Instr.slice 29 (.slice (some ⟨b1, o1, none⟩) n c) (some (.int .i64 (62 * R.length))) (some (.int .i64 (62 * R.length + 30))) none).run Tryd.prog W = .ok (.slice (some ⟨b1, o1 + 62 * R.length, none⟩) 30 (c - 62 * R.length)) W := fun W => hcut _ _ W (by omega) (by omega)
  have HBD := Lib.hid hb
  have HGE := Lib.hid (show ∀ W, Bts W (some ⟨b1, o1, none⟩) n c b → Calls Tryd.prog 31 #[.slice (some ⟨b1, o1 + 62 * R.length, none⟩) 30 (c - 62 * R.length)] W (GE (getE ((b.drop (62 * R.length)).take 30)) true W) from fun W hW => by
    obtain ⟨b2, o2, he, hp, -⟩ := cut_any hW (62 * R.length) 30 (by omega) (by omega)
    cases he
    rw [← hg]
    exact erget_any _ 30 _ _ W hp)
  obtain ⟨G, hG⟩ : ∃ G, getE ((b.drop (62 * R.length)).take 30) = G := ⟨_, rfl⟩
  rw [hG] at HGE
  unfold GE enV at HGE
  clear hb hR hZ hc hG hg hcut
  go_enter Tryd.func17, Tryd.ntmps17
  go_wp2_with (first
    | (go_at_call 15; (with_reducible refine (HRD.out _ (HBD.out.more _)).mono ?_); rintro e w1 ⟨A5, n5, c5, rfl, hen, hb1⟩
       obtain ⟨hb0, -, hz1⟩ := after_one hb1
       have hz1 : RowB w1 w.heap.size 24 noughtsC := hz1
       have hn5 : R.length = n5 := hen.len
       subst hn5
       have HB1 := Lib.hid hb0
       have HBD := Lib.hid (HBD.out.below hb0)
       clear hb1 hb0 hen)
    | ((with_reducible refine wpList_store_blk rfl 24 _ _ rfl w1.heap.size (idv Z) ?hx2 ?hy2 24 _ (heap_alloc_new w1 _) (info32 HZL.out) ?hs2 (idv_one _) ?_); (case hx2 => rfl); (case hy2 => rfl); (case hs2 => rw [idv_size, HZL.out]; rfl)
       intro w2 hg2 hX2 hs2
       have hb2 : Below w1.heap.size w1 w2 := Below.grows (one_alloc w1 _) hg2 (size_le_alloc _ _) (Nat.le_refl _)
       have hz2 := hz1.keep hb2
       have hX2 : RowB w2 w1.heap.size 24 Z := hX2
       have HB2 := Lib.hid (HB1.out.trans (hb2.mono HB1.out.size))
       have HBD := Lib.hid (HBD.out.below hb2)
       clear hb2 hg2 hs2 hz1)
    | (go_at_call 31; (with_reducible refine (HGE.out _ HBD.out).mono ?_); rintro e w3 ⟨rfl, hb3⟩
       have hz3 := hz2.keep hb3
       have HB3 := Lib.hid (HB2.out.trans (hb3.mono HB2.out.size))
       clear hb3 hz2)
    | ((with_reducible refine wpList_store_blk rfl 28 _ _ rfl w3.heap.size (enA G) ?hx4 ?hy4 28 _ (heap_alloc_new w3 _) (info_en (enA_size _)) ?hs4 (enA_one _) ?_); (case hx4 => rfl); (case hy4 => rfl); (case hs4 => rfl)
       intro w4 hg4 hE4 hs4
       have hb4 : Below w3.heap.size w3 w4 := Below.grows (one_alloc w3 _) hg4 (size_le_alloc _ _) (Nat.le_refl _)
       have hz4 := hz3.keep hb4
       have HB4 := Lib.hid (HB3.out.trans (hb4.mono HB3.out.size))
       clear hb4 hg4 hs4 hz3)
    | ((with_reducible refine wpList_store_blk rfl 24 _ _ rfl w.heap.size (idv noughtsC) ?hx7 ?hy7 24 _ hz4.is (info32 HNL.out) ?hs7 (idv_one _) ?_); (case hx7 => rfl); (case hy7 => rfl); (case hs7 => first | rfl | (rw [idv_size, idv_size, HNL.out]; rfl))
       intro w7 hg7 hX7 hs7
       clear hz4))
  refine bodyPost_ret (v := .tuple #[.agg (idv noughtsC), .int .i64 7]) ?_ rfl ⟨rfl, ?_⟩
  · exact results_blk_tmp Tryd.results17 _ _ _ w.heap.size 24 _ (0, 0) _ rfl hX7 Tryd.underlying24 rfl (info32 HNL.out) _ rfl
  · exact HB4.out.grown hg7 HB4.out.size (fun k e => by cases e; exact Nat.le_refl _)
set_option maxRecDepth 100000 in
set_option maxHeartbeats 2000000 in
theorem rverc_form (A : Option Addr) (n c : Nat) (b : List Int) (w : World) (hb : Bts w A n c b) (hc : (readC b).length ≠ 264 ∧ 62 * (readC b).length + 62 ≤ b.length) (hg : gotB ((b.drop (62 * (readC b).length)).take 30) = false) :
    Calls Tryd.prog 17 #[.slice A n c] w (GV (noughtsC) 3 w) := by
  have hn := hb.small
  have hbl := hb.len
  have hbm := bytes_mem hb.ok
  have hro := readC_room b
  have hrl := readC_le b
  have hall := run_all32
  have HRD := Lib.hid (fun (W : World) (h : Bts W A n c b) => rreadc_any A n c b W h)
  have HNL := Lib.hid (show noughtsC.length = 32 from rfl)
  obtain ⟨R, hR⟩ : ∃ R, readC b = R := ⟨_, rfl⟩
  rw [hR] at HRD hro hrl hc hg
  obtain ⟨Z, hZ⟩ : ∃ Z, headC R = Z := ⟨_, rfl⟩
  have HZL := Lib.hid (show Z.length = 32 by rw [← hZ]; exact headC_len _)
  rw [hZ] at HRD
  have e1 : ((62 * (R.length : Int)) == (n : Int)) = false := by rw [beq_eq_false_iff_ne]; omega
  have q0 : 0 ≤ (R.length : Int) := by omega
  have e2 : ((R.length : Int) == 264) = false := by rw [beq_eq_false_iff_ne]; omega
  have e3 : ¬ (n : Int) - 62 * (R.length : Int) < 62 := by omega
  obtain ⟨b1, o1, rfl, -, hcut⟩ := cut_any hb (62 * R.length) 30 (by omega) (by omega)
  have hc1 : ∀ W : World, (Instr.slice 29 (.slice (some ⟨b1, o1, none⟩) n c) (some (.int .i64 (62 * R.length))) (some (.int .i64 (62 * R.length + 30))) none).run Tryd.prog W = .ok (.slice (some ⟨b1, o1 + 62 * R.length, none⟩) 30 (c - 62 * R.length)) W := fun W => hcut _ _ W (by omega) (by omega)
  have HBD := Lib.hid hb
  have HGE := Lib.hid (show ∀ W, Bts W (some ⟨b1, o1, none⟩) n c b → Calls Tryd.prog 31 #[.slice (some ⟨b1, o1 + 62 * R.length, none⟩) 30 (c - 62 * R.length)] W (GE (getE ((b.drop (62 * R.length)).take 30)) false W) from fun W hW => by
    obtain ⟨b2, o2, he, hp, -⟩ := cut_any hW (62 * R.length) 30 (by omega) (by omega)
    cases he
    rw [← hg]
    exact erget_any _ 30 _ _ W hp)
  obtain ⟨G, hG⟩ : ∃ G, getE ((b.drop (62 * R.length)).take 30) = G := ⟨_, rfl⟩
  rw [hG] at HGE
  unfold GE enV at HGE
  clear hb hR hZ hc hG hg hcut
  go_enter Tryd.func17, Tryd.ntmps17
  go_wp2_with (first
    | (go_at_call 15; (with_reducible refine (HRD.out _ (HBD.out.more _)).mono ?_); rintro e w1 ⟨A5, n5, c5, rfl, hen, hb1⟩
       obtain ⟨hb0, -, hz1⟩ := after_one hb1
       have hz1 : RowB w1 w.heap.size 24 noughtsC := hz1
       have hn5 : R.length = n5 := hen.len
       subst hn5
       have HB1 := Lib.hid hb0
       have HBD := Lib.hid (HBD.out.below hb0)
       clear hb1 hb0 hen)
    | ((with_reducible refine wpList_store_blk rfl 24 _ _ rfl w1.heap.size (idv Z) ?hx2 ?hy2 24 _ (heap_alloc_new w1 _) (info32 HZL.out) ?hs2 (idv_one _) ?_); (case hx2 => rfl); (case hy2 => rfl); (case hs2 => rw [idv_size, HZL.out]; rfl)
       intro w2 hg2 hX2 hs2
       have hb2 : Below w1.heap.size w1 w2 := Below.grows (one_alloc w1 _) hg2 (size_le_alloc _ _) (Nat.le_refl _)
       have hz2 := hz1.keep hb2
       have hX2 : RowB w2 w1.heap.size 24 Z := hX2
       have HB2 := Lib.hid (HB1.out.trans (hb2.mono HB1.out.size))
       have HBD := Lib.hid (HBD.out.below hb2)
       clear hb2 hg2 hs2 hz1)
    | (go_at_call 31; (with_reducible refine (HGE.out _ HBD.out).mono ?_); rintro e w3 ⟨rfl, hb3⟩
       have hz3 := hz2.keep hb3
       have HB3 := Lib.hid (HB2.out.trans (hb3.mono HB2.out.size))
       clear hb3 hz2)
    | ((with_reducible refine wpList_store_blk rfl 28 _ _ rfl w3.heap.size (enA G) ?hx4 ?hy4 28 _ (heap_alloc_new w3 _) (info_en (enA_size _)) ?hs4 (enA_one _) ?_); (case hx4 => rfl); (case hy4 => rfl); (case hs4 => rfl)
       intro w4 hg4 hE4 hs4
       have hb4 : Below w3.heap.size w3 w4 := Below.grows (one_alloc w3 _) hg4 (size_le_alloc _ _) (Nat.le_refl _)
       have hz4 := hz3.keep hb4
       have HB4 := Lib.hid (HB3.out.trans (hb4.mono HB3.out.size))
       clear hb4 hg4 hs4 hz3)
    | ((with_reducible refine wpList_store_blk rfl 24 _ _ rfl w.heap.size (idv noughtsC) ?hx7 ?hy7 24 _ hz4.is (info32 HNL.out) ?hs7 (idv_one _) ?_); (case hx7 => rfl); (case hy7 => rfl); (case hs7 => first | rfl | (rw [idv_size, idv_size, HNL.out]; rfl))
       intro w7 hg7 hX7 hs7
       clear hz4))
  refine bodyPost_ret (v := .tuple #[.agg (idv noughtsC), .int .i64 3]) ?_ rfl ⟨rfl, ?_⟩
  · exact results_blk_tmp Tryd.results17 _ _ _ w.heap.size 24 _ (0, 0) _ rfl hX7 Tryd.underlying24 rfl (info32 HNL.out) _ rfl
  · exact HB4.out.grown hg7 HB4.out.size (fun k e => by cases e; exact Nat.le_refl _)
theorem rverc_any (A : Option Addr) (n c : Nat) (b : List Int) (w : World) (hb : Bts w A n c b) : Calls Tryd.prog 17 #[.slice A n c] w (GV (verC b) (errC b) w) := by
  by_cases h0 : 62 * (readC b).length = b.length
  · have e : errC b = 0 := (err_ok b).2 h0
    rw [verC, if_pos e, e]
    exact rverc_ok A n c b w hb h0
  · have hne : errC b ≠ 0 := fun e => h0 ((err_ok b).1 e)
    rw [verC, if_neg hne, errC, if_neg h0]
    by_cases h1 : (readC b).length = 264 ∨ b.length < 62 * (readC b).length + 62
    · rw [if_pos h1]
      by_cases h2 : (readC b).length = 264
      · exact rverc_most A n c b w hb ⟨h0, h2⟩
      · exact rverc_short A n c b w hb ⟨h0, h2, by omega⟩
    · rw [if_neg h1]
      cases hg : gotB ((b.drop (62 * (readC b).length)).take 30) with
      | true => rw [if_pos rfl]; exact rverc_tag A n c b w hb ⟨fun e => h1 (.inl e), by omega⟩ hg
      | false => rw [if_neg (by simp)]; exact rverc_form A n c b w hb ⟨fun e => h1 (.inl e), by omega⟩ hg
end Go.Proofs.YtplfpaclhapldaaDoor

/- The walk over the document's own Same of entries. -/
namespace Go.Proofs.YtplfpaclhapldaaDoor
set_option linter.unusedVariables false
set_option linter.unusedSimpArgs false
open Go.RowKit

set_option maxHeartbeats 2000000 in
theorem ersame_any (A : Option Addr) (n c : Nat) (l : List En) (B : Option Addr) (m d : Nat) (l2 : List En) (w : World) (hl : Ens w A n c l) (hm : Ens w B m d l2) :
    Calls Tryd.prog 18 #[.slice A n c, .slice B m d] w (GBe (sameE l l2) w) := by
  have hn := hl.small
  have hn2 := hm.small
  have HL := Lib.hid hl.len
  have HL2 := Lib.hid hm.len
  by_cases hmm : n = m
  · subst hmm
    have hne : ((n : Int) != (n : Int)) = false := by simp
    go_enter Tryd.func18, Tryd.ntmps18
    go_wp2
    go_loopw [5] (fun v wr => ∃ j : Nat, j ≤ n ∧ v = .int .i64 j ∧ l.take j = l2.take j ∧ Below w.heap.size w wr) (fun v _ => n - (intOf v).toNat)
    case atStart => exact ⟨0, Nat.zero_le _, rfl, by simp, Below.refl _ _⟩
    case round =>
      obtain ⟨j, hj, rfl, hsm, hbw⟩ := hrel
      have HBW := Lib.hid hbw
      by_cases hlt : j < n
      · obtain ⟨b, off, u, rfl, hu, hr1⟩ := (hl.below hbw).range j hlt
        obtain ⟨b2, off2, v, rfl, hv, hr2⟩ := (hm.below hbw).range j hlt
        have HNX := Lib.hid (same_take hu hv hsm)
        have HST := Lib.hid (same_stop hu hv)
        have R1 := Lib.hid hr1
        have R2 := Lib.hid hr2
        have q0 : 0 ≤ (j : Int) := by omega
        have q1 : (j : Int) < n := by omega
        clear hbw hsm hu hv hr1 hr2
        go_wp2
        obtain ⟨Y0, hY0⟩ : ∃ Y, wr.drew = Y := ⟨_, rfl⟩
        have HB0 := Lib.hid (show Below w.heap.size w Y0 by rw [← hY0]; exact HBW.out.drew)
        refine wp_region_held_drew (S := (fun w' => w'.rangeAt b (off + j * 9) u.row ∧ w'.rangeAt b2 (off2 + j * 9) v.row)) (by kernel_rfl) ⟨R1.out, R2.out⟩ (fun hHeld => ?_)
        rw [hY0] at hHeld ⊢
        clear hY0
        refine take_move 0 (.tmp 0) (.slice (some ⟨b, off, none⟩) n c) rfl rfl rfl (by kernel_rfl) (by kernel_rfl) (by kernel_rfl) (fun _ _ _ h => h) rfl hHeld ?_
        simp only [Act.put, List.setIfInBounds_toArray, List.set_cons_zero, List.set_cons_succ]
        refine take_move 1 (.tmp 5) (.int .i64 j) rfl rfl rfl (by kernel_rfl) (by kernel_rfl) (by kernel_rfl) (fun _ _ _ h => h) rfl hHeld ?_
        simp only [Act.put, List.setIfInBounds_toArray, List.set_cons_zero, List.set_cons_succ]
        refine take_run 2 (.pointer (some ⟨b, off + j * 9, none⟩)) rfl (by kernel_rfl) (by kernel_rfl) (by kernel_rfl) (fun _ _ _ h => h) rfl hHeld (fun w => ?_) ?_
        · go_simp
        simp only [Act.put, List.setIfInBounds_toArray, List.set_cons_zero, List.set_cons_succ]
        refine take_if 3 (.agg (enA u)) rfl (by kernel_rfl) (by kernel_rfl) (by kernel_rfl) (fun _ _ _ h => h) rfl hHeld (fun w' hw' => ?_) ?_
        · exact run_load_en rfl rfl hw'.1
        simp only [Act.put, List.setIfInBounds_toArray, List.set_cons_zero, List.set_cons_succ]
        refine take_move 4 (.tmp 1) (.slice (some ⟨b2, off2, none⟩) n d) rfl rfl rfl (by kernel_rfl) (by kernel_rfl) (by kernel_rfl) (fun _ _ _ h => h) rfl hHeld ?_
        simp only [Act.put, List.setIfInBounds_toArray, List.set_cons_zero, List.set_cons_succ]
        refine take_move 5 (.tmp 5) (.int .i64 j) rfl rfl rfl (by kernel_rfl) (by kernel_rfl) (by kernel_rfl) (fun _ _ _ h => h) rfl hHeld ?_
        simp only [Act.put, List.setIfInBounds_toArray, List.set_cons_zero, List.set_cons_succ]
        refine take_run 6 (.pointer (some ⟨b2, off2 + j * 9, none⟩)) rfl (by kernel_rfl) (by kernel_rfl) (by kernel_rfl) (fun _ _ _ h => h) rfl hHeld (fun w => ?_) ?_
        · go_simp
        simp only [Act.put, List.setIfInBounds_toArray, List.set_cons_zero, List.set_cons_succ]
        refine take_if 7 (.agg (enA v)) rfl (by kernel_rfl) (by kernel_rfl) (by kernel_rfl) (fun _ _ _ h => h) rfl hHeld (fun w' hw' => ?_) ?_
        · exact run_load_en rfl rfl hw'.2
        simp only [Act.put, List.setIfInBounds_toArray, List.set_cons_zero, List.set_cons_succ]
        refine take_run 8 (.bool (!decide (u = v))) rfl (by kernel_rfl) (by kernel_rfl) (by kernel_rfl) (fun _ _ _ h => h) rfl hHeld (fun w => ?_) ?_
        · exact run_eq_en rfl rfl rfl (.inr ⟨rfl, rfl⟩) (eq_ens u v w)
        simp only [Act.put, List.setIfInBounds_toArray, List.set_cons_zero, List.set_cons_succ]
        refine wpAnyH_done (by kernel_rfl) ?_ _
        by_cases he : u = v
        · have hd : decide (u = v) = true := decide_eq_true he
          rw [hd]
          have HN2 := Lib.hid (HNX.out he)
          clear hd he HNX HST
          go_wp2
          go_roundw
          case rel => exact ⟨j + 1, by omega, by go_num, HN2.out, HB0.out⟩
          case measure => simp [intOf]; omega
        · have hd : decide (u = v) = false := decide_eq_false he
          rw [hd]
          have HS2 := Lib.hid (HST.out he)
          clear hd he HNX HST
          go_wp2
          go_ret
          exact ⟨by rw [HS2.out]; rfl, HB0.out⟩
      · obtain rfl : j = n := by omega
        rw [List.take_of_length_le (by rw [HL.out]; exact Nat.le_refl _), List.take_of_length_le (by rw [HL2.out]; exact Nat.le_refl _)] at hsm
        have HS := Lib.hid (show sameE l l2 = true by rw [sameE, decide_eq_true_eq]; exact hsm)
        clear hbw hsm
        go_wp2
        go_ret
        exact ⟨by rw [HS.out]; rfl, HBW.out⟩
  · have hne : ((n : Int) != (m : Int)) = true := by rw [bne_iff_ne]; omega
    have hr : false = sameE l l2 := (same_len (by rw [HL.out, HL2.out]; exact hmm)).symm
    have HR := Lib.hid hr
    clear hr
    go_enter Tryd.func18, Tryd.ntmps18
    go_wp2
    go_ret
    exact ⟨congrArg (fun b => Ending.returned (Value.bool b)) HR.out, Below.refl _ _⟩
end Go.Proofs.YtplfpaclhapldaaDoor
