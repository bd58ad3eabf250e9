/- The walk over package frame's Read, where the bytes are whole. -/
import Derived.Test.YtadcbikdbekmgaaFrmRead
namespace Go.Proofs.Ytadcbikdbekmgaa
set_option linter.unusedVariables false
set_option linter.unusedSimpArgs false
open Go.RowKit

theorem size_zero : (frA Fr.zero).size = 40 := rfl

set_option maxHeartbeats 1000000 in
theorem read_form (A : Option Addr) (n c : Nat) (l : List Int) (w : World) (hb : Bts w A n c l) (h64 : n ≤ 64) (hw : wholeB l = true) (hform : formB l = false) :
    Calls Try.prog 12 #[.slice A n c] w (ReadPost l w) := by
  have hgood : goodB l = false := by unfold goodB; rw [hform]; rfl
  have herr : errL l = 3 := by
    unfold errL
    rw [hb.len, if_neg (by omega), if_neg (by rw [hw]; simp), hgood]
    rfl
  have hres : readF l = Fr.zero := readF_no (by rw [herr]; omega)
  have HE := Lib.hid herr
  have HRES0 := Lib.hid hres
  have hn := hb.small
  have hZs := size_zero
  have hZ1 := frA_one Fr.zero
  have hzb := built_zero
  have h64' : (n : Int) ≤ 64 := by omega
  have hpa := parsed_any A n c l
  have hwz := whole_any A n c l _ (hb.more (.cells (frA Fr.zero) 26))
  have hpz := hpa _ (hb.more (.cells (frA Fr.zero) 26))
  unfold ParsedPost at hpz
  rw [hw] at hwz
  rw [hform] at hpz
  obtain ⟨Y, hY⟩ : ∃ Y, frA (if false = true then parseF l else Fr.zero) = Y := ⟨_, rfl⟩
  have hYs : Y.size = 40 := by rw [← hY]; exact frA_size (rfl)
  have hY1 : Y.all (·.oneCell') = true := by rw [← hY]; exact frA_one _
  have hYV : frV (if false = true then parseF l else Fr.zero) = .agg Y := by rw [← hY]; rfl
  rw [hYV] at hpz
  obtain ⟨Z, hZ⟩ : ∃ Z, Z = frA Fr.zero := ⟨_, rfl⟩
  have hZV : frV Fr.zero = .agg Z := by rw [hZ]; rfl
  have hX0 : (w.alloc (.cells (frA Fr.zero) 26)).heap[w.heap.size]? = some (.cells Z 26 (0, 0)) := by rw [hZ]; exact heap_alloc_new w _
  rw [← hZ] at hZs hZ1 hzb
  have HX0 := Lib.hid hX0
  have HZ := Lib.hid hZ
  have HZS := Lib.hid hZs
  have HZ1 := Lib.hid hZ1
  have HZB := Lib.hid hzb
  have HZV := Lib.hid hZV
  have HYS := Lib.hid hYs
  have HY1 := Lib.hid hY1
  have HYV := Lib.hid hYV
  have HY := Lib.hid hY
  have HWZ := Lib.hid hwz
  have HPZ := Lib.hid hpz
  have HB := Lib.hid hb
  have HRES : Hid (frV (readF l) = .agg Z) := Lib.hid (by rw [HRES0.out]; exact HZV.out)
  have hpc := True.intro
  clear hX0 hZ hZs hZ1 hzb hZV hYs hY1 hYV hY hwz hpz hpa hb h64 hw hform hgood hres herr hpc
  go_enter Try.func12, Try.ntmps12
  go_wp2_with (first
    | (go_at_call 26; refine HWZ.out.mono ?_; rintro e w1 ⟨rfl, rfl⟩)
    | (go_at_call 27; refine HPZ.out.mono ?_; rintro e w2 ⟨rfl, hb2⟩
       have hB2 := (after_one hb2).1
       have hX2 : w2.heap[w.heap.size]? = some (.cells Z 26 (0, 0)) := (hb2.block _ (by simp)).trans HX0.out
       clear hb2)
    | ((with_reducible refine wpList_build_to rfl 26 _ rfl _ Z ?hb3 HZB.out ?_); (case hb3 => rfl))
    | ((refine wpList_store_blk rfl 26 _ _ rfl w2.heap.size Y ?hx3 ?hy3 26 _ (heap_alloc_new w2 _) (info_frame HYS.out) ?hs3 HY1.out ?_); (case hx3 => rfl); (case hy3 => rfl); (case hs3 => rw [HYS.out]; rfl)
       intro w3 hg3 hX3 hs3
       have hB3 : Below w.heap.size w w3 := (hB2.alloc hB2.size _).grown hg3 (Nat.le_trans hB2.size (size_le_alloc _ _)) (fun k e => by cases e; exact hB2.size)
       have hlt2 : w.heap.size < w2.heap.size := (Array.getElem?_eq_some_iff.1 hX2).1
       have hX5 : w3.heap[w.heap.size]? = some (.cells Z 26 (0, 0)) := (hg3.block _ (by simp; omega) (ne_some (Nat.ne_of_lt hlt2))).trans (two_rows_in hX2 _)
       clear hg3 hs3)
    | ((with_reducible refine wpList_load_blk 26 _ rfl w2.heap.size ?hx6 26 Y (0, 0) _ hX3 Try.underlying26 ?hd6 (info_frame HYS.out) ?_ ?hw6); (case hx6 => rfl); (case hd6 => rfl); (case hw6 => rfl))
    | ((with_reducible refine wpList_load_blk 26 _ rfl w2.heap.size ?hx8 26 Y (0, 0) _ hXL Try.underlying26 ?hd8 (info_frame HYS.out) ?_ ?hw8); (case hx8 => rfl); (case hd8 => rfl); (case hw8 => rfl))
    | ((refine wpList_store_blk rfl 26 _ _ rfl w.heap.size Z ?hx4 ?hy4 26 Z hX5 (info_frame HZS.out) (HZS.out.trans HZS.out.symm) HZ1.out ?_); (case hx4 => rfl); (case hy4 => rfl)
       intro w6 hg6 hX6 hs6))
  refine bodyPost_ret (v := .tuple #[.agg Z, .int .i64 3]) ?_ ?_ ?_
  · exact results_blk_tmp Try.results12 _ _ _ w.heap.size 26 _ (0, 0) _ rfl hX6 Try.underlying26 rfl (info_frame HZS.out) _ rfl
  · rfl
  · exact ⟨by rw [HRES.out, HE.out], hB3.grown hg6 hB3.size (fun k e => by cases e; exact Nat.le_refl _)⟩

set_option maxHeartbeats 1000000 in
theorem read_plain (A : Option Addr) (n c : Nat) (l : List Int) (w : World) (hb : Bts w A n c l) (h64 : n ≤ 64) (hw : wholeB l = true) (hform : formB l = true) (hp : plainB (parseF l) = false) :
    Calls Try.prog 12 #[.slice A n c] w (ReadPost l w) := by
  have hgood : goodB l = false := by unfold goodB; rw [hform, hp]; rfl
  have herr : errL l = 3 := by
    unfold errL
    rw [hb.len, if_neg (by omega), if_neg (by rw [hw]; simp), hgood]
    rfl
  have hres : readF l = Fr.zero := readF_no (by rw [herr]; omega)
  have HE := Lib.hid herr
  have HRES0 := Lib.hid hres
  have hn := hb.small
  have hZs := size_zero
  have hZ1 := frA_one Fr.zero
  have hzb := built_zero
  have h64' : (n : Int) ≤ 64 := by omega
  have hpa := parsed_any A n c l
  have hwz := whole_any A n c l _ (hb.more (.cells (frA Fr.zero) 26))
  have hpz := hpa _ (hb.more (.cells (frA Fr.zero) 26))
  unfold ParsedPost at hpz
  rw [hw] at hwz
  rw [hform] at hpz
  obtain ⟨Y, hY⟩ : ∃ Y, frA (if true = true then parseF l else Fr.zero) = Y := ⟨_, rfl⟩
  have hYs : Y.size = 40 := by rw [← hY]; exact frA_size ((parse_ok hb.ok hform).len)
  have hY1 : Y.all (·.oneCell') = true := by rw [← hY]; exact frA_one _
  have hYV : frV (if true = true then parseF l else Fr.zero) = .agg Y := by rw [← hY]; rfl
  rw [hYV] at hpz
  obtain ⟨Z, hZ⟩ : ∃ Z, Z = frA Fr.zero := ⟨_, rfl⟩
  have hZV : frV Fr.zero = .agg Z := by rw [hZ]; rfl
  have hX0 : (w.alloc (.cells (frA Fr.zero) 26)).heap[w.heap.size]? = some (.cells Z 26 (0, 0)) := by rw [hZ]; exact heap_alloc_new w _
  rw [← hZ] at hZs hZ1 hzb
  have HX0 := Lib.hid hX0
  have HZ := Lib.hid hZ
  have HZS := Lib.hid hZs
  have HZ1 := Lib.hid hZ1
  have HZB := Lib.hid hzb
  have HZV := Lib.hid hZV
  have HYS := Lib.hid hYs
  have HY1 := Lib.hid hY1
  have HYV := Lib.hid hYV
  have HY := Lib.hid hY
  have HWZ := Lib.hid hwz
  have HPZ := Lib.hid hpz
  have HB := Lib.hid hb
  have HRES : Hid (frV (readF l) = .agg Z) := Lib.hid (by rw [HRES0.out]; exact HZV.out)
  have hpc := fun w => put_plain_b (parseF l) w (parse_ok HB.out.ok hform) false hp
  rw [show frV (parseF l) = .agg Y from HYV.out] at hpc
  have HPC := Lib.hid hpc
  clear hX0 hZ hZs hZ1 hzb hZV hYs hY1 hYV hY hwz hpz hpa hb h64 hw hform hgood hres herr hpc
  go_enter Try.func12, Try.ntmps12
  go_wp2_with (first
    | (go_at_call 26; refine HWZ.out.mono ?_; rintro e w1 ⟨rfl, rfl⟩)
    | (go_at_call 27; refine HPZ.out.mono ?_; rintro e w2 ⟨rfl, hb2⟩
       have hB2 := (after_one hb2).1
       have hX2 : w2.heap[w.heap.size]? = some (.cells Z 26 (0, 0)) := (hb2.block _ (by simp)).trans HX0.out
       clear hb2)
    | ((with_reducible refine wpList_build_to rfl 26 _ rfl _ Z ?hb3 HZB.out ?_); (case hb3 => rfl))
    | ((refine wpList_store_blk rfl 26 _ _ rfl w2.heap.size Y ?hx3 ?hy3 26 _ (heap_alloc_new w2 _) (info_frame HYS.out) ?hs3 HY1.out ?_); (case hx3 => rfl); (case hy3 => rfl); (case hs3 => rw [HYS.out]; rfl)
       intro w3 hg3 hX3 hs3
       have hB3 : Below w.heap.size w w3 := (hB2.alloc hB2.size _).grown hg3 (Nat.le_trans hB2.size (size_le_alloc _ _)) (fun k e => by cases e; exact hB2.size)
       have hlt2 : w.heap.size < w2.heap.size := (Array.getElem?_eq_some_iff.1 hX2).1
       have hX5 : w3.heap[w.heap.size]? = some (.cells Z 26 (0, 0)) := (hg3.block _ (by simp; omega) (ne_some (Nat.ne_of_lt hlt2))).trans (two_rows_in hX2 _)
       clear hg3 hs3)
    | (go_at_call 10; (with_reducible refine (HPC.out _).mono ?_); rintro e w4 ⟨A4, m4, c4, rfl, hv4, hb4⟩
       have hB4 := hB3.trans (hb4.mono hB3.size)
       have hX4 := (hb4.block _ (Array.getElem?_eq_some_iff.1 hX5).1).trans hX5
       have hXL := (hb4.block _ (Array.getElem?_eq_some_iff.1 hX3).1).trans hX3
       clear hb4)
    | ((with_reducible refine wpList_load_blk 26 _ rfl w2.heap.size ?hx6 26 Y (0, 0) _ hX3 Try.underlying26 ?hd6 (info_frame HYS.out) ?_ ?hw6); (case hx6 => rfl); (case hd6 => rfl); (case hw6 => rfl))
    | ((with_reducible refine wpList_load_blk 26 _ rfl w2.heap.size ?hx8 26 Y (0, 0) _ hXL Try.underlying26 ?hd8 (info_frame HYS.out) ?_ ?hw8); (case hx8 => rfl); (case hd8 => rfl); (case hw8 => rfl))
    | ((refine wpList_store_blk rfl 26 _ _ rfl w.heap.size Z ?hx4 ?hy4 26 Z hX4 (info_frame HZS.out) (HZS.out.trans HZS.out.symm) HZ1.out ?_); (case hx4 => rfl); (case hy4 => rfl)
       intro w6 hg6 hX6 hs6))
  refine bodyPost_ret (v := .tuple #[.agg Z, .int .i64 3]) ?_ ?_ ?_
  · exact results_blk_tmp Try.results12 _ _ _ w.heap.size 26 _ (0, 0) _ rfl hX6 Try.underlying26 rfl (info_frame HZS.out) _ rfl
  · rfl
  · exact ⟨by rw [HRES.out, HE.out], hB4.grown hg6 hB4.size (fun k e => by cases e; exact Nat.le_refl _)⟩

set_option maxHeartbeats 1000000 in
theorem read_other (A : Option Addr) (n c : Nat) (l : List Int) (w : World) (hb : Bts w A n c l) (h64 : n ≤ 64) (hw : wholeB l = true) (hform : formB l = true) (hp : plainB (parseF l) = true) (heq : (putF (parseF l) == l) = false) :
    Calls Try.prog 12 #[.slice A n c] w (ReadPost l w) := by
  have hgood : goodB l = false := by unfold goodB; rw [hform, hp, heq]; rfl
  have herr : errL l = 3 := by
    unfold errL
    rw [hb.len, if_neg (by omega), if_neg (by rw [hw]; simp), hgood]
    rfl
  have hres : readF l = Fr.zero := readF_no (by rw [herr]; omega)
  have HE := Lib.hid herr
  have HRES0 := Lib.hid hres
  have hn := hb.small
  have hZs := size_zero
  have hZ1 := frA_one Fr.zero
  have hzb := built_zero
  have h64' : (n : Int) ≤ 64 := by omega
  have hpa := parsed_any A n c l
  have hwz := whole_any A n c l _ (hb.more (.cells (frA Fr.zero) 26))
  have hpz := hpa _ (hb.more (.cells (frA Fr.zero) 26))
  unfold ParsedPost at hpz
  rw [hw] at hwz
  rw [hform] at hpz
  obtain ⟨Y, hY⟩ : ∃ Y, frA (if true = true then parseF l else Fr.zero) = Y := ⟨_, rfl⟩
  have hYs : Y.size = 40 := by rw [← hY]; exact frA_size ((parse_ok hb.ok hform).len)
  have hY1 : Y.all (·.oneCell') = true := by rw [← hY]; exact frA_one _
  have hYV : frV (if true = true then parseF l else Fr.zero) = .agg Y := by rw [← hY]; rfl
  rw [hYV] at hpz
  obtain ⟨Z, hZ⟩ : ∃ Z, Z = frA Fr.zero := ⟨_, rfl⟩
  have hZV : frV Fr.zero = .agg Z := by rw [hZ]; rfl
  have hX0 : (w.alloc (.cells (frA Fr.zero) 26)).heap[w.heap.size]? = some (.cells Z 26 (0, 0)) := by rw [hZ]; exact heap_alloc_new w _
  rw [← hZ] at hZs hZ1 hzb
  have HX0 := Lib.hid hX0
  have HZ := Lib.hid hZ
  have HZS := Lib.hid hZs
  have HZ1 := Lib.hid hZ1
  have HZB := Lib.hid hzb
  have HZV := Lib.hid hZV
  have HYS := Lib.hid hYs
  have HY1 := Lib.hid hY1
  have HYV := Lib.hid hYV
  have HY := Lib.hid hY
  have HWZ := Lib.hid hwz
  have HPZ := Lib.hid hpz
  have HB := Lib.hid hb
  have HRES : Hid (frV (readF l) = .agg Z) := Lib.hid (by rw [HRES0.out]; exact HZV.out)
  have hpc := fun w => put_plain_b (parseF l) w (parse_ok HB.out.ok hform) true hp
  rw [show frV (parseF l) = .agg Y from HYV.out] at hpc
  have HPC := Lib.hid hpc
  have HEQ := Lib.hid heq
  clear hX0 hZ hZs hZ1 hzb hZV hYs hY1 hYV hY hwz hpz hpa hb h64 hw hform hgood hres herr hpc heq
  go_enter Try.func12, Try.ntmps12
  go_wp2_with (first
    | (go_at_call 26; refine HWZ.out.mono ?_; rintro e w1 ⟨rfl, rfl⟩)
    | (go_at_call 27; refine HPZ.out.mono ?_; rintro e w2 ⟨rfl, hb2⟩
       have hB2 := (after_one hb2).1
       have hX2 : w2.heap[w.heap.size]? = some (.cells Z 26 (0, 0)) := (hb2.block _ (by simp)).trans HX0.out
       clear hb2)
    | ((with_reducible refine wpList_build_to rfl 26 _ rfl _ Z ?hb3 HZB.out ?_); (case hb3 => rfl))
    | ((refine wpList_store_blk rfl 26 _ _ rfl w2.heap.size Y ?hx3 ?hy3 26 _ (heap_alloc_new w2 _) (info_frame HYS.out) ?hs3 HY1.out ?_); (case hx3 => rfl); (case hy3 => rfl); (case hs3 => rw [HYS.out]; rfl)
       intro w3 hg3 hX3 hs3
       have hB3 : Below w.heap.size w w3 := (hB2.alloc hB2.size _).grown hg3 (Nat.le_trans hB2.size (size_le_alloc _ _)) (fun k e => by cases e; exact hB2.size)
       have hlt2 : w.heap.size < w2.heap.size := (Array.getElem?_eq_some_iff.1 hX2).1
       have hX5 : w3.heap[w.heap.size]? = some (.cells Z 26 (0, 0)) := (hg3.block _ (by simp; omega) (ne_some (Nat.ne_of_lt hlt2))).trans (two_rows_in hX2 _)
       clear hg3 hs3)
    | (go_at_call 10; (with_reducible refine (HPC.out _).mono ?_); rintro e w4 ⟨A4, m4, c4, rfl, hv4, hb4⟩
       have hB4 := hB3.trans (hb4.mono hB3.size)
       have hX4 := (hb4.block _ (Array.getElem?_eq_some_iff.1 hX5).1).trans hX5
       have hXL := (hb4.block _ (Array.getElem?_eq_some_iff.1 hX3).1).trans hX3
       clear hb4)
    | (go_at_call 28; have hv4 : Bts w4 A4 m4 c4 (putF (parseF l)) := hv4
       (with_reducible refine (equal_any A4 A m4 c4 n c _ l w4 hv4 (HB.out.below hB4)).mono ?_); rintro e w5 ⟨he5, rfl⟩
       rw [HEQ.out] at he5
       subst he5)
    | ((with_reducible refine wpList_load_blk 26 _ rfl w2.heap.size ?hx6 26 Y (0, 0) _ hX3 Try.underlying26 ?hd6 (info_frame HYS.out) ?_ ?hw6); (case hx6 => rfl); (case hd6 => rfl); (case hw6 => rfl))
    | ((with_reducible refine wpList_load_blk 26 _ rfl w2.heap.size ?hx8 26 Y (0, 0) _ hXL Try.underlying26 ?hd8 (info_frame HYS.out) ?_ ?hw8); (case hx8 => rfl); (case hd8 => rfl); (case hw8 => rfl))
    | ((refine wpList_store_blk rfl 26 _ _ rfl w.heap.size Z ?hx4 ?hy4 26 Z hX4 (info_frame HZS.out) (HZS.out.trans HZS.out.symm) HZ1.out ?_); (case hx4 => rfl); (case hy4 => rfl)
       intro w6 hg6 hX6 hs6))
  refine bodyPost_ret (v := .tuple #[.agg Z, .int .i64 3]) ?_ ?_ ?_
  · exact results_blk_tmp Try.results12 _ _ _ w.heap.size 26 _ (0, 0) _ rfl hX6 Try.underlying26 rfl (info_frame HZS.out) _ rfl
  · rfl
  · exact ⟨by rw [HRES.out, HE.out], hB4.grown hg6 hB4.size (fun k e => by cases e; exact Nat.le_refl _)⟩

set_option maxHeartbeats 1000000 in
theorem read_good (A : Option Addr) (n c : Nat) (l : List Int) (w : World) (hb : Bts w A n c l) (h64 : n ≤ 64) (hw : wholeB l = true) (hform : formB l = true) (hp : plainB (parseF l) = true) (heq : (putF (parseF l) == l) = true) :
    Calls Try.prog 12 #[.slice A n c] w (ReadPost l w) := by
  have hgood : goodB l = true := by unfold goodB; rw [hform, hp, heq]; rfl
  have herr : errL l = 0 := by
    unfold errL
    rw [hb.len, if_neg (by omega), if_neg (by rw [hw]; simp), hgood]
    rfl
  have hres : readF l = parseF l := by unfold readF; rw [if_pos herr]
  have HE := Lib.hid herr
  have HRES0 := Lib.hid hres
  have hn := hb.small
  have hZs := size_zero
  have hZ1 := frA_one Fr.zero
  have hzb := built_zero
  have h64' : (n : Int) ≤ 64 := by omega
  have hpa := parsed_any A n c l
  have hwz := whole_any A n c l _ (hb.more (.cells (frA Fr.zero) 26))
  have hpz := hpa _ (hb.more (.cells (frA Fr.zero) 26))
  unfold ParsedPost at hpz
  rw [hw] at hwz
  rw [hform] at hpz
  obtain ⟨Y, hY⟩ : ∃ Y, frA (if true = true then parseF l else Fr.zero) = Y := ⟨_, rfl⟩
  have hYs : Y.size = 40 := by rw [← hY]; exact frA_size ((parse_ok hb.ok hform).len)
  have hY1 : Y.all (·.oneCell') = true := by rw [← hY]; exact frA_one _
  have hYV : frV (if true = true then parseF l else Fr.zero) = .agg Y := by rw [← hY]; rfl
  rw [hYV] at hpz
  obtain ⟨Z, hZ⟩ : ∃ Z, Z = frA Fr.zero := ⟨_, rfl⟩
  have hZV : frV Fr.zero = .agg Z := by rw [hZ]; rfl
  have hX0 : (w.alloc (.cells (frA Fr.zero) 26)).heap[w.heap.size]? = some (.cells Z 26 (0, 0)) := by rw [hZ]; exact heap_alloc_new w _
  rw [← hZ] at hZs hZ1 hzb
  have HX0 := Lib.hid hX0
  have HZ := Lib.hid hZ
  have HZS := Lib.hid hZs
  have HZ1 := Lib.hid hZ1
  have HZB := Lib.hid hzb
  have HZV := Lib.hid hZV
  have HYS := Lib.hid hYs
  have HY1 := Lib.hid hY1
  have HYV := Lib.hid hYV
  have HY := Lib.hid hY
  have HWZ := Lib.hid hwz
  have HPZ := Lib.hid hpz
  have HB := Lib.hid hb
  have HRES : Hid (frV (readF l) = .agg Y) := Lib.hid (by rw [HRES0.out]; exact HYV.out)
  have hpc := fun w => put_plain_b (parseF l) w (parse_ok HB.out.ok hform) true hp
  rw [show frV (parseF l) = .agg Y from HYV.out] at hpc
  have HPC := Lib.hid hpc
  have HEQ := Lib.hid heq
  clear hX0 hZ hZs hZ1 hzb hZV hYs hY1 hYV hY hwz hpz hpa hb h64 hw hform hgood hres herr hpc heq
  go_enter Try.func12, Try.ntmps12
  go_wp2_with (first
    | (go_at_call 26; refine HWZ.out.mono ?_; rintro e w1 ⟨rfl, rfl⟩)
    | (go_at_call 27; refine HPZ.out.mono ?_; rintro e w2 ⟨rfl, hb2⟩
       have hB2 := (after_one hb2).1
       have hX2 : w2.heap[w.heap.size]? = some (.cells Z 26 (0, 0)) := (hb2.block _ (by simp)).trans HX0.out
       clear hb2)
    | ((with_reducible refine wpList_build_to rfl 26 _ rfl _ Z ?hb3 HZB.out ?_); (case hb3 => rfl))
    | ((refine wpList_store_blk rfl 26 _ _ rfl w2.heap.size Y ?hx3 ?hy3 26 _ (heap_alloc_new w2 _) (info_frame HYS.out) ?hs3 HY1.out ?_); (case hx3 => rfl); (case hy3 => rfl); (case hs3 => rw [HYS.out]; rfl)
       intro w3 hg3 hX3 hs3
       have hB3 : Below w.heap.size w w3 := (hB2.alloc hB2.size _).grown hg3 (Nat.le_trans hB2.size (size_le_alloc _ _)) (fun k e => by cases e; exact hB2.size)
       have hlt2 : w.heap.size < w2.heap.size := (Array.getElem?_eq_some_iff.1 hX2).1
       have hX5 : w3.heap[w.heap.size]? = some (.cells Z 26 (0, 0)) := (hg3.block _ (by simp; omega) (ne_some (Nat.ne_of_lt hlt2))).trans (two_rows_in hX2 _)
       clear hg3 hs3)
    | (go_at_call 10; (with_reducible refine (HPC.out _).mono ?_); rintro e w4 ⟨A4, m4, c4, rfl, hv4, hb4⟩
       have hB4 := hB3.trans (hb4.mono hB3.size)
       have hX4 := (hb4.block _ (Array.getElem?_eq_some_iff.1 hX5).1).trans hX5
       have hXL := (hb4.block _ (Array.getElem?_eq_some_iff.1 hX3).1).trans hX3
       clear hb4)
    | (go_at_call 28; have hv4 : Bts w4 A4 m4 c4 (putF (parseF l)) := hv4
       (with_reducible refine (equal_any A4 A m4 c4 n c _ l w4 hv4 (HB.out.below hB4)).mono ?_); rintro e w5 ⟨he5, rfl⟩
       rw [HEQ.out] at he5
       subst he5)
    | ((with_reducible refine wpList_load_blk 26 _ rfl w2.heap.size ?hx6 26 Y (0, 0) _ hX3 Try.underlying26 ?hd6 (info_frame HYS.out) ?_ ?hw6); (case hx6 => rfl); (case hd6 => rfl); (case hw6 => rfl))
    | ((with_reducible refine wpList_load_blk 26 _ rfl w2.heap.size ?hx8 26 Y (0, 0) _ hXL Try.underlying26 ?hd8 (info_frame HYS.out) ?_ ?hw8); (case hx8 => rfl); (case hd8 => rfl); (case hw8 => rfl))
    | ((refine wpList_store_blk rfl 26 _ _ rfl w.heap.size Y ?hx4 ?hy4 26 Z hX4 (info_frame HYS.out) (HZS.out.trans HYS.out.symm) HY1.out ?_); (case hx4 => rfl); (case hy4 => rfl)
       intro w6 hg6 hX6 hs6))
  refine bodyPost_ret (v := .tuple #[.agg Y, .int .i64 0]) ?_ ?_ ?_
  · exact results_blk_tmp Try.results12 _ _ _ w.heap.size 26 _ (0, 0) _ rfl hX6 Try.underlying26 rfl (info_frame HYS.out) _ rfl
  · rfl
  · exact ⟨by rw [HRES.out, HE.out], hB4.grown hg6 hB4.size (fun k e => by cases e; exact Nat.le_refl _)⟩

theorem read_any (A : Option Addr) (n c : Nat) (l : List Int) (w : World) (hb : Bts w A n c l) :
    Calls Try.prog 12 #[.slice A n c] w (ReadPost l w) := by
  by_cases h64 : 64 < n
  · exact read_early A n c l w hb (.inl h64)
  · have h64 : n ≤ 64 := by omega
    cases hw : wholeB l with
    | false => exact read_early A n c l w hb (.inr hw)
    | true =>
      cases hform : formB l with
      | false => exact read_form A n c l w hb h64 hw hform
      | true =>
        cases hp : plainB (parseF l) with
        | false => exact read_plain A n c l w hb h64 hw hform hp
        | true =>
          cases heq : (putF (parseF l) == l) with
          | false => exact read_other A n c l w hb h64 hw hform hp heq
          | true => exact read_good A n c l w hb h64 hw hform hp heq
end Go.Proofs.Ytadcbikdbekmgaa
