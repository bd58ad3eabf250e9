/- The walk over package frame's parsed, where bytes are none's. -/
import Derived.Test.YtadcbikdbekmgaaFrmWhole
namespace Go.Proofs.Ytadcbikdbekmgaa
set_option linter.unusedVariables false
set_option linter.unusedSimpArgs false
open Go.RowKit

/-- the kind that bytes tell -/
def kindL (l : List Int) : Nat := numL ((l.drop 2).take 1)
/-- are they as many as their kind's frames have? -/
def formB (l : List Int) : Bool := decide (3 ≤ l.length) && (kindB (kindL l) && decide (l.length = 2 + folL (szK (kindL l)) (tagK (kindL l))))
theorem kindL_small {l : List Int} (h : ∀ j, 0 ≤ l.getD j 0 ∧ l.getD j 0 < 256) : kindL l < 256 := by
  have h1 := numL_bound ((l.drop 2).take 1) (fun x hx => mem_ok h x (List.mem_of_mem_drop (List.mem_of_mem_take hx)))
  refine Nat.lt_of_lt_of_le h1 ?_
  have : (256 : Nat) ^ ((l.drop 2).take 1).length ≤ 256 ^ 1 := Nat.pow_le_pow_right (by omega) (by rw [List.length_take]; omega)
  simpa using this
theorem built_zero : Try.prog.built 26 [] = some (frA Fr.zero) :=
  built_of (z := .agg (frA Fr.zero)) (places := [(0, 1), (1, 1), (2, 1), (3, 1), (4, 1), (5, 1), (6, 1), (7, 1), (8, 32)]) Try.underlying26 (by kernel_rfl) (by kernel_rfl) rfl
/-- what parsed hands back where bytes are none's -/
def NoFrame (w : World) (e : Ending) (w' : World) : Prop := e = .returned (.tuple #[frV Fr.zero, .bool false]) ∧ Below w.heap.size w w'

set_option maxHeartbeats 1000000 in
theorem parsed_short (A : Option Addr) (n c : Nat) (l : List Int) (w : World) (hb : Bts w A n c l) (h : n < 3) :
    Calls Try.prog 27 #[.slice A n c] w (NoFrame w) := by
  have hn := hb.small
  have hg := get_no A n c l 2 1 (w.alloc (.cells (frA Fr.zero) 26)) (hb.more _) (by omega) (by omega) (by omega) (by omega) (by unfold mayGet; rw [decide_eq_false_iff_not]; omega)
  have hsc := fun w => shape_yes 0 w rfl
  have hl0 : shV (szK (Int.toNat 0)) (tagK (Int.toNat 0)) = .agg #[.int .i64 1, .int .i64 1, .int .i64 0, .int .i64 8, .int .i64 0, .int .i64 0, .int .i64 0, .int .i64 0, .bool false] := rfl
  rw [hl0] at hsc
  have hZs : (frA Fr.zero).size = 40 := rfl
  have hZ1 := frA_one Fr.zero
  have hzb := built_zero
  obtain ⟨Z, hZ⟩ : ∃ Z, Z = frA Fr.zero := ⟨_, rfl⟩
  have hres : frV Fr.zero = .agg Z := by rw [hZ]; rfl
  rw [← hZ] at hZs hZ1 hzb
  have HG := Lib.hid hg
  have HSC := Lib.hid hsc
  have HZ := Lib.hid hZ
  have HZS := Lib.hid hZs
  have HZ1 := Lib.hid hZ1
  have HZB := Lib.hid hzb
  have HRES := Lib.hid hres
  clear hg hsc hZ hZs hZ1 hzb hres hl0 hb
  go_enter Try.func27, Try.ntmps27
  go_wp2_with (first
    | (go_at_call 38; refine HG.out.mono ?_; rintro e w1 ⟨rfl, rfl⟩)
    | (go_at_call 19; (with_reducible refine (HSC.out _).mono ?_); rintro e w2 ⟨rfl, hb2⟩
       have hX2 : w2.heap[w.heap.size]? = some (.cells Z 26 (0, 0)) := by rw [HZ.out]; exact after_alloc hb2
       have hB2 := (after_one hb2).1
       clear hb2)
    | ((with_reducible refine wpList_build_to rfl 26 _ rfl _ Z ?hb3 HZB.out ?_); (case hb3 => rfl))
    | ((with_reducible refine wpList_store_blk rfl 26 _ _ rfl w.heap.size Z ?hx4 ?hy4 26 Z (two_rows_in hX2 _) (info_frame HZS.out) rfl HZ1.out ?_); (case hx4 => rfl); (case hy4 => rfl)
       intro w6 hg6 hX6 hs6))
  refine bodyPost_ret (v := .tuple #[.agg Z, .bool false]) ?_ ?_ ?_
  · exact results_blk_tmp Try.results27 _ _ _ w.heap.size 26 _ (0, 0) _ rfl hX6 Try.underlying26 rfl (info_frame HZS.out) _ rfl
  · rfl
  · exact ⟨by rw [HRES.out], (hB2.alloc hB2.size _).grown hg6 (Nat.le_trans hB2.size (size_le_alloc _ _)) (fun k e => by cases e; exact Nat.le_refl _)⟩
set_option maxHeartbeats 1000000 in
theorem parsed_kind (A : Option Addr) (n c : Nat) (l : List Int) (w : World) (hb : Bts w A n c l) (h : 3 ≤ n) (hk : kindB (kindL l) = false) :
    Calls Try.prog 27 #[.slice A n c] w (NoFrame w) := by
  have hn := hb.small
  have hg := get_at A n c l 2 1 2 1 (w.alloc (.cells (frA Fr.zero) 26)) rfl rfl (hb.more _) (by omega) (by omega) (by omega)
  have hks := kindL_small hb.ok
  unfold kindL at hk hks
  obtain ⟨x, hx⟩ : ∃ x, numL ((l.drop 2).take 1) = x := ⟨_, rfl⟩
  rw [hx] at hg hk hks
  have hks' : (x : Int) < 256 := by omega
  have hsc := fun w => shape_no x w hk
  have hl0 : shV [0, 0, 0, 0, 0, 0, 0, 0] false = .agg #[.int .i64 0, .int .i64 0, .int .i64 0, .int .i64 0, .int .i64 0, .int .i64 0, .int .i64 0, .int .i64 0, .bool false] := rfl
  rw [hl0] at hsc
  have hZs : (frA Fr.zero).size = 40 := rfl
  have hZ1 := frA_one Fr.zero
  have hzb := built_zero
  obtain ⟨Z, hZ⟩ : ∃ Z, Z = frA Fr.zero := ⟨_, rfl⟩
  have hres : frV Fr.zero = .agg Z := by rw [hZ]; rfl
  rw [← hZ] at hZs hZ1 hzb
  have HG := Lib.hid hg
  have HSC := Lib.hid hsc
  have HZ := Lib.hid hZ
  have HZS := Lib.hid hZs
  have HZ1 := Lib.hid hZ1
  have HZB := Lib.hid hzb
  have HRES := Lib.hid hres
  clear hg hsc hZ hZs hZ1 hzb hres hl0 hb hx hk hks
  go_enter Try.func27, Try.ntmps27
  go_wp2_with (first
    | (go_at_call 38; refine HG.out.mono ?_; rintro e w1 ⟨rfl, rfl⟩)
    | (go_at_call 19; (with_reducible refine (HSC.out _).mono ?_); rintro e w2 ⟨rfl, hb2⟩
       have hX2 : w2.heap[w.heap.size]? = some (.cells Z 26 (0, 0)) := by rw [HZ.out]; exact after_alloc hb2
       have hB2 := (after_one hb2).1
       clear hb2)
    | ((with_reducible refine wpList_build_to rfl 26 _ rfl _ Z ?hb3 HZB.out ?_); (case hb3 => rfl))
    | ((with_reducible refine wpList_store_blk rfl 26 _ _ rfl w.heap.size Z ?hx4 ?hy4 26 Z (two_rows_in hX2 _) (info_frame HZS.out) rfl HZ1.out ?_); (case hx4 => rfl); (case hy4 => rfl)
       intro w6 hg6 hX6 hs6))
  refine bodyPost_ret (v := .tuple #[.agg Z, .bool false]) ?_ ?_ ?_
  · exact results_blk_tmp Try.results27 _ _ _ w.heap.size 26 _ (0, 0) _ rfl hX6 Try.underlying26 rfl (info_frame HZS.out) _ rfl
  · rfl
  · exact ⟨by rw [HRES.out], (hB2.alloc hB2.size _).grown hg6 (Nat.le_trans hB2.size (size_le_alloc _ _)) (fun k e => by cases e; exact Nat.le_refl _)⟩
set_option maxHeartbeats 1000000 in
theorem parsed_long (A : Option Addr) (n c : Nat) (l : List Int) (w : World) (hb : Bts w A n c l) (h : 3 ≤ n) (hk : kindB (kindL l) = true) (hf : n ≠ 2 + folL (szK (kindL l)) (tagK (kindL l))) :
    Calls Try.prog 27 #[.slice A n c] w (NoFrame w) := by
  have hn := hb.small
  have hg := get_at A n c l 2 1 2 1 (w.alloc (.cells (frA Fr.zero) 26)) rfl rfl (hb.more _) (by omega) (by omega) (by omega)
  have hks := kindL_small hb.ok
  have hgk : numL ((l.drop 2).take 1) = kindL l := rfl
  rw [hgk] at hg
  obtain ⟨x, hx⟩ : ∃ x, kindL l = x := ⟨_, rfl⟩
  rw [hx] at hg hk hks hf
  have hks' : (x : Int) < 256 := by omega
  have hsc := fun w => shape_yes x w hk
  rw [Int.toNat_natCast] at hsc
  have hS := szK_length x
  have hsm := szK_small x
  have hTb := folK_small x
  obtain ⟨S, hSS⟩ : ∃ S, szK x = S := ⟨_, rfl⟩
  obtain ⟨t, ht⟩ : ∃ t, tagK x = t := ⟨_, rfl⟩
  rw [hSS] at hS hsm hsc hf hTb
  rw [ht] at hsc hf hTb
  have hfc := fun w => fol_any S t w hS hsm
  obtain ⟨s0, s1, s2, s3, s4, s5, s6, s7, hl⟩ := list8 S hS
  rw [shV_lit hl] at hsc hfc
  obtain ⟨T, hT⟩ : ∃ T, folL S t = T := ⟨_, rfl⟩
  rw [hT] at hfc hTb hf
  have hT' : (T : Int) ≤ 52 := by omega
  have hne : ((n : Int) != 2 + (T : Int)) = true := by rw [bne_iff_ne]; omega
  have HFC := Lib.hid hfc
  have hZs : (frA Fr.zero).size = 40 := rfl
  have hZ1 := frA_one Fr.zero
  have hzb := built_zero
  obtain ⟨Z, hZ⟩ : ∃ Z, Z = frA Fr.zero := ⟨_, rfl⟩
  have hres : frV Fr.zero = .agg Z := by rw [hZ]; rfl
  rw [← hZ] at hZs hZ1 hzb
  have HG := Lib.hid hg
  have HSC := Lib.hid hsc
  have HZ := Lib.hid hZ
  have HZS := Lib.hid hZs
  have HZ1 := Lib.hid hZ1
  have HZB := Lib.hid hzb
  have HRES := Lib.hid hres
  clear hg hsc hZ hZs hZ1 hzb hres hb hx hk hks hgk hS hsm hTb hSS ht hl hT hfc hf
  go_enter Try.func27, Try.ntmps27
  go_wp2_with (first
    | (go_at_call 38; refine HG.out.mono ?_; rintro e w1 ⟨rfl, rfl⟩)
    | (go_at_call 19; (with_reducible refine (HSC.out _).mono ?_); rintro e w2 ⟨rfl, hb2⟩
       have hX2 : w2.heap[w.heap.size]? = some (.cells Z 26 (0, 0)) := by rw [HZ.out]; exact after_alloc hb2
       have hB2 := (after_one hb2).1
       clear hb2)
    | (go_at_call 21; (with_reducible refine (HFC.out _).mono ?_); rintro e w3 ⟨rfl, hb3⟩
       have hB3 := hB2.trans ((after_one hb3).1.mono hB2.size)
       have hX3 := ((after_one hb3).1.block w.heap.size (Array.getElem?_eq_some_iff.1 hX2).1).trans hX2
       clear hb3)
    | ((with_reducible refine wpList_build_to rfl 26 _ rfl _ Z ?hb3 HZB.out ?_); (case hb3 => rfl))
    | ((with_reducible refine wpList_store_blk rfl 26 _ _ rfl w.heap.size Z ?hx4 ?hy4 26 Z hX3 (info_frame HZS.out) rfl HZ1.out ?_); (case hx4 => rfl); (case hy4 => rfl)
       intro w6 hg6 hX6 hs6))
  refine bodyPost_ret (v := .tuple #[.agg Z, .bool false]) ?_ ?_ ?_
  · exact results_blk_tmp Try.results27 _ _ _ w.heap.size 26 _ (0, 0) _ rfl hX6 Try.underlying26 rfl (info_frame HZS.out) _ rfl
  · rfl
  · exact ⟨by rw [HRES.out], hB3.grown hg6 hB3.size (fun k e => by cases e; exact Nat.le_refl _)⟩
end Go.Proofs.Ytadcbikdbekmgaa
