/- The walk over the law ChainTorn: records that are cut off anywhere are read up to the last whole one; verified they are short, if they are not cut behind one. -/
import Derived.Test.YtplfpaclhapldaaDoorCnJO
import Derived.Test.YtplfpaclhapldaaDoorCnJG
namespace Go.Proofs.YtplfpaclhapldaaDoor
set_option maxRecDepth 100000
set_option linter.unusedVariables false
set_option linter.unusedSimpArgs false
open Go.RowKit

set_option maxHeartbeats 1000000 in
theorem ctornw_long (A : Option Addr) (n c : Nat) (l : List En) (k : Int) (w : World) (hK : KTab w) (hl : Ens w A n c l) (ho : ∀ u ∈ l, u.ok) (h : 20 < n) :
    Calls Tryd.prog 4 #[.slice A n c, .int .i64 k] w fun e w' => e = .returned (.bool true) ∧ Below w.heap.size w w' := by
  have hn := hl.small
  have h1 : (20 : Int) < n := by omega
  have HK := Lib.hid hK
  clear hl hK ho
  go_enter Tryd.func4, Tryd.ntmps4
  go_wp2_with (go_at_call 9; refine (cawake_any _ HK.out).mono ?_; rintro e w1 ⟨rfl, hb1⟩; have HBw1 := Lib.hid hb1; clear hb1)
  go_ret
  exact ⟨rfl, HBw1.out⟩
set_option maxRecDepth 100000 in
set_option maxHeartbeats 2000000 in
theorem ctornw_no (A : Option Addr) (n c : Nat) (l : List En) (k : Int) (w : World) (hK : KTab w) (hl : Ens w A n c l) (ho : ∀ u ∈ l, u.ok) (h : n ≤ 20) (hp : putC l = false)  :
    Calls Tryd.prog 4 #[.slice A n c, .int .i64 k] w fun e w' => e = .returned (.bool true) ∧ Below w.heap.size w w' := by
  have hn := hl.small
  have h1 : (n : Int) ≤ 20 := by omega
  have HK := Lib.hid hK
  have HL := Lib.hid hl
  have hll := hl.len
  have HPU := Lib.hid (fun (X : World) (hk : KTab X) (h : Ens X A n c l) => cput_any A n c l X hk h ho)
  rw [hp] at HPU
  obtain ⟨RC, hRC⟩ : ∃ R, (if false = true then recsC l else []) = R := ⟨_, rfl⟩
  obtain ⟨H, hH⟩ : ∃ R, (if false = true then headC l else noughtsC) = R := ⟨_, rfl⟩
  have HHL := Lib.hid (show H.length = 32 by rw [← hH]; split; exact headC_len _; rfl)
  skip
  rw [hRC, hH] at HPU
  clear hl hK ho hRC hH hp
  go_enter Tryd.func4, Tryd.ntmps4
  go_wp2_with (first
    | (go_at_call 9; refine (cawake_any _ HK.out).mono ?_; rintro e w1 ⟨rfl, hb1⟩; have HBw1 := Lib.hid hb1; clear hb1)
    | (go_at_call 10
       (with_reducible refine (HPU.out _ (HK.out.from HBw1.out) (HL.out.below HBw1.out)).mono ?_)
       rintro e w2 ⟨A6, n6, c6, rfl, hbt, hbx⟩
       clear hbt
       have HBw2 := Lib.hid (HBw1.out.trans (hbx.mono HBw1.out.size))
       clear hbx)
    | ((with_reducible refine wpList_store_blk rfl 24 _ _ rfl w2.heap.size (idv H) ?hx2 ?hy2 24 _ (heap_alloc_new w2 _) (info32 HHL.out) ?hs2 (idv_one _) ?_); (case hx2 => rfl); (case hy2 => rfl); (case hs2 => rw [idv_size, HHL.out]; rfl)
       intro w3 hg2 hH hs2
       have hH : RowB w3 w2.heap.size 24 H := hH
       have hbx : Below w2.heap.size w2 w3 := Below.grows (one_alloc w2 _) hg2 (size_le_alloc _ _) (Nat.le_refl _)
       have HBw3 := Lib.hid (HBw2.out.trans (hbx.mono HBw2.out.size))
       clear hbx hg2 hs2))
  go_ret
  exact ⟨rfl, HBw3.out⟩
set_option maxRecDepth 100000 in
set_option maxHeartbeats 2000000 in
theorem ctornw_out (A : Option Addr) (n c : Nat) (l : List En) (k : Int) (w : World) (hK : KTab w) (hl : Ens w A n c l) (ho : ∀ u ∈ l, u.ok) (h : n ≤ 20) (hp : putC l = true) (hk : k < 0) :
    Calls Tryd.prog 4 #[.slice A n c, .int .i64 k] w fun e w' => e = .returned (.bool true) ∧ Below w.heap.size w w' := by
  have hn := hl.small
  have h1 : (n : Int) ≤ 20 := by omega
  have HK := Lib.hid hK
  have HL := Lib.hid hl
  have hll := hl.len
  have HPU := Lib.hid (fun (X : World) (hk : KTab X) (h : Ens X A n c l) => cput_any A n c l X hk h ho)
  rw [hp] at HPU
  obtain ⟨RC, hRC⟩ : ∃ R, (if true = true then recsC l else []) = R := ⟨_, rfl⟩
  obtain ⟨H, hH⟩ : ∃ R, (if true = true then headC l else noughtsC) = R := ⟨_, rfl⟩
  have HHL := Lib.hid (show H.length = 32 by rw [← hH]; split; exact headC_len _; rfl)
  have HRL := Lib.hid (show RC.length = 62 * n by rw [← hRC, if_pos rfl, recsC, recsF_len, hll])
  rw [hRC, hH] at HPU
  clear hl hK ho hRC hH hp
  go_enter Tryd.func4, Tryd.ntmps4
  go_wp2_with (first
    | (go_at_call 9; refine (cawake_any _ HK.out).mono ?_; rintro e w1 ⟨rfl, hb1⟩; have HBw1 := Lib.hid hb1; clear hb1)
    | (go_at_call 10
       (with_reducible refine (HPU.out _ (HK.out.from HBw1.out) (HL.out.below HBw1.out)).mono ?_)
       rintro e w2 ⟨A6, n6, c6, rfl, hbt, hbx⟩
       have hn6 : 62 * n = n6 := HRL.out.symm.trans hbt.len
       subst hn6
       clear hbt
       have HBw2 := Lib.hid (HBw1.out.trans (hbx.mono HBw1.out.size))
       clear hbx)
    | ((with_reducible refine wpList_store_blk rfl 24 _ _ rfl w2.heap.size (idv H) ?hx2 ?hy2 24 _ (heap_alloc_new w2 _) (info32 HHL.out) ?hs2 (idv_one _) ?_); (case hx2 => rfl); (case hy2 => rfl); (case hs2 => rw [idv_size, HHL.out]; rfl)
       intro w3 hg2 hH hs2
       have hH : RowB w3 w2.heap.size 24 H := hH
       have hbx : Below w2.heap.size w2 w3 := Below.grows (one_alloc w2 _) hg2 (size_le_alloc _ _) (Nat.le_refl _)
       have HBw3 := Lib.hid (HBw2.out.trans (hbx.mono HBw2.out.size))
       clear hbx hg2 hs2))
  go_ret
  exact ⟨rfl, HBw3.out⟩
set_option maxRecDepth 100000 in
set_option maxHeartbeats 2000000 in
theorem ctornw_far (A : Option Addr) (n c : Nat) (l : List En) (k : Int) (w : World) (hK : KTab w) (hl : Ens w A n c l) (ho : ∀ u ∈ l, u.ok) (h : n ≤ 20) (hp : putC l = true) (hk0 : ¬ k < 0) (hk : 62 * (l.length : Int) < k) :
    Calls Tryd.prog 4 #[.slice A n c, .int .i64 k] w fun e w' => e = .returned (.bool true) ∧ Below w.heap.size w w' := by
  have hn := hl.small
  have h1 : (n : Int) ≤ 20 := by omega
  have HK := Lib.hid hK
  have HL := Lib.hid hl
  have hll := hl.len
  have HPU := Lib.hid (fun (X : World) (hk : KTab X) (h : Ens X A n c l) => cput_any A n c l X hk h ho)
  rw [hp] at HPU
  rw [hll] at hk
  obtain ⟨RC, hRC⟩ : ∃ R, (if true = true then recsC l else []) = R := ⟨_, rfl⟩
  obtain ⟨H, hH⟩ : ∃ R, (if true = true then headC l else noughtsC) = R := ⟨_, rfl⟩
  have HHL := Lib.hid (show H.length = 32 by rw [← hH]; split; exact headC_len _; rfl)
  have HRL := Lib.hid (show RC.length = 62 * n by rw [← hRC, if_pos rfl, recsC, recsF_len, hll])
  rw [hRC, hH] at HPU
  clear hl hK ho hRC hH hp
  go_enter Tryd.func4, Tryd.ntmps4
  go_wp2_with (first
    | (go_at_call 9; refine (cawake_any _ HK.out).mono ?_; rintro e w1 ⟨rfl, hb1⟩; have HBw1 := Lib.hid hb1; clear hb1)
    | (go_at_call 10
       (with_reducible refine (HPU.out _ (HK.out.from HBw1.out) (HL.out.below HBw1.out)).mono ?_)
       rintro e w2 ⟨A6, n6, c6, rfl, hbt, hbx⟩
       have hn6 : 62 * n = n6 := HRL.out.symm.trans hbt.len
       subst hn6
       clear hbt
       have HBw2 := Lib.hid (HBw1.out.trans (hbx.mono HBw1.out.size))
       clear hbx)
    | ((with_reducible refine wpList_store_blk rfl 24 _ _ rfl w2.heap.size (idv H) ?hx2 ?hy2 24 _ (heap_alloc_new w2 _) (info32 HHL.out) ?hs2 (idv_one _) ?_); (case hx2 => rfl); (case hy2 => rfl); (case hs2 => rw [idv_size, HHL.out]; rfl)
       intro w3 hg2 hH hs2
       have hH : RowB w3 w2.heap.size 24 H := hH
       have hbx : Below w2.heap.size w2 w3 := Below.grows (one_alloc w2 _) hg2 (size_le_alloc _ _) (Nat.le_refl _)
       have HBw3 := Lib.hid (HBw2.out.trans (hbx.mono HBw2.out.size))
       clear hbx hg2 hs2))
  go_ret
  exact ⟨rfl, HBw3.out⟩
set_option maxRecDepth 100000 in
set_option maxHeartbeats 4000000 in
theorem ctornw_whole (A : Option Addr) (n c : Nat) (l : List En) (K : Nat) (w : World) (hK : KTab w) (hl : Ens w A n c l) (ho : ∀ u ∈ l, u.ok) (h : n ≤ 20) (hp : putC l = true) (hk : K ≤ 62 * l.length) (hr : K % 62 = 0) :
    Calls Tryd.prog 4 #[.slice A n c, .int .i64 K] w fun e w' => e = .returned (.bool true) ∧ Below w.heap.size w w' := by
  have hn := hl.small
  have h1 : (n : Int) ≤ 20 := by omega
  have HK := Lib.hid hK
  have HL := Lib.hid hl
  have hll := hl.len
  have hmc : mayC l = true := by rw [putC, Bool.and_eq_true] at hp; exact hp.2
  obtain ⟨g1, g2, g3, g4⟩ := torn_all hmc ho (by omega) hk
  have HPU := Lib.hid (fun (X : World) (hk : KTab X) (h : Ens X A n c l) => cput_any A n c l X hk h ho)
  rw [hp, if_pos rfl, if_pos rfl] at HPU
  have HRD := Lib.hid (fun (A : Option Addr) (d : Nat) (X : World) (hk : KTab X) (h : Bts X A K d ((recsC l).take K)) => cread_any A K d _ X hk h)
  have HVE := Lib.hid (fun (A : Option Addr) (d : Nat) (X : World) (hk : KTab X) (h : Bts X A K d ((recsC l).take K)) => cver_any A K d _ X hk h)
  obtain ⟨hsl, hup⟩ := hl.upto (K / 62) ((K / 62 : Nat) : Int) rfl (by omega)
  have HPM := Lib.hid (fun (X : World) (hk : KTab X) (h : Ens X A (K / 62) c (l.take (K / 62))) => cput_any A (K / 62) c _ X hk h (fun u hu => ho u (List.mem_of_mem_take hu)))
  rw [putC_take hp, if_pos rfl, if_pos rfl] at HPM
  have HSA := Lib.hid (fun (B : Option Addr) (d : Nat) (X : World) (h1 : Ens X B (K / 62) d (l.take (K / 62))) (h2 : Ens X A (K / 62) c (l.take (K / 62))) => esame_any B (K / 62) d _ A (K / 62) c _ X h1 h2)
  rw [show sameE (l.take (K / 62)) (l.take (K / 62)) = true from decide_eq_true rfl] at HSA
  unfold GBe at HSA
  rw [g2, List.length_take, Nat.min_eq_left g1] at HRD
  rw [g4] at HVE
  rw [if_pos hr, torn_ver hmc ho (by omega) hk hr] at HVE
  have HHL := Lib.hid (show (headC l).length = 32 from headC_len _)
  have HML := Lib.hid (show (headC (l.take (K / 62))).length = 32 from headC_len _)
  have HRL := Lib.hid (show (recsC l).length = 62 * n by rw [recsC, recsF_len, hll])
  have HUP := Lib.hid hup
  have hq : Int.tdiv (K : Int) 62 = ((K / 62 : Nat) : Int) := by rw [Int.tdiv_eq_ediv_of_nonneg (by omega)]; omega
  have hm : Int.tmod (K : Int) 62 = ((K % 62 : Nat) : Int) := by rw [Int.tmod_eq_emod_of_nonneg (by omega)]; omega
  obtain ⟨M, hM⟩ : ∃ M, K / 62 = M := ⟨_, rfl⟩
  obtain ⟨r, hrr⟩ : ∃ r, K % 62 = r := ⟨_, rfl⟩
  rw [hM] at hq hsl HUP HPM HSA HRD g1 HVE HML
  rw [hrr] at hm hr
  obtain ⟨H, hH⟩ : ∃ H, headC l = H := ⟨_, rfl⟩
  obtain ⟨LM, hLM⟩ : ∃ x, l.take M = x := ⟨_, rfl⟩
  rw [hLM] at HUP HPM HSA HRD HVE HML
  obtain ⟨HM, hHM⟩ : ∃ H, headC LM = H := ⟨_, rfl⟩
  rw [hH] at HPU HHL
  rw [hHM] at HPM HRD HVE HML
  have HEQ := Lib.hid (show ∀ w, (Op.equalIn 10000 24 (.agg (idv HM)) (.agg (idv HM))).run Tryd.prog w = .ok true w from fun w => by rw [eq_ids _ _ HML.out HML.out, decide_eq_true rfl])
  have q0 : 0 ≤ (K : Int) := by omega
  have q1 : (K : Int) ≤ 62 * n := by omega
  have q2 : 0 ≤ (M : Int) := by omega
  have q3 : (M : Int) ≤ n := by omega
  have q4 : 62 * M ≤ K := by omega
  obtain ⟨RC, hRC⟩ : ∃ R, recsC l = R := ⟨_, rfl⟩
  rw [hRC] at HPU HRD HVE HRL
  obtain ⟨RM, hRM⟩ : ∃ R, recsC LM = R := ⟨_, rfl⟩
  rw [hRM] at HPM
  have e0 : ((r : Int) == 0) = true := by rw [beq_iff_eq]; omega
  clear hl hK ho hp hk hup hM hrr hLM hH hHM hRC hRM g1 g2 g3 g4 hmc
  go_enter Tryd.func4, Tryd.ntmps4
  go_wp2_with (first
    | (go_at_call 9; refine (cawake_any _ HK.out).mono ?_; rintro e w1 ⟨rfl, hb1⟩; have HBw1 := Lib.hid hb1; clear hb1)
    | (go_at_call 10
       (with_reducible refine (HPU.out _ (HK.out.from HBw1.out) (HL.out.below HBw1.out)).mono ?_)
       rintro e w2 ⟨A6, n6, c6, rfl, hbt, hbx⟩
       have hn6 : 62 * n = n6 := HRL.out.symm.trans hbt.len
       subst hn6
       obtain ⟨hcut, hbk⟩ := run_to hbt (K : Int) rfl (by omega)
       have HBK := Lib.hid hbk
       clear hbt hbk
       have HBw2 := Lib.hid (HBw1.out.trans (hbx.mono HBw1.out.size))
       clear hbx)
    | ((with_reducible refine wpList_store_blk rfl 24 _ _ rfl w2.heap.size (idv H) ?hx2 ?hy2 24 _ (heap_alloc_new w2 _) (info32 HHL.out) ?hs2 (idv_one _) ?_); (case hx2 => rfl); (case hy2 => rfl); (case hs2 => rw [idv_size, HHL.out]; rfl)
       intro w3 hg2 hH hs2
       have hH : RowB w3 w2.heap.size 24 H := hH
       have hbx : Below w2.heap.size w2 w3 := Below.grows (one_alloc w2 _) hg2 (size_le_alloc _ _) (Nat.le_refl _)
       have HBw3 := Lib.hid (HBw2.out.trans (hbx.mono HBw2.out.size))
       have HBK := Lib.hid (HBK.out.below hbx)
       clear hbx hg2 hs2)
    | (go_at_call 14
       (with_reducible refine (HRD.out _ _ _ (HK.out.from HBw3.out) HBK.out).mono ?_)
       rintro e w4 ⟨A5, n5, c5, rfl, hen, hbx⟩
       have hn5 : M = n5 := HUP.out.len.symm.trans hen.len
       subst hn5
       have HEN := Lib.hid hen
       have HBK := Lib.hid (HBK.out.below hbx)
       clear hen
       have HBw4 := Lib.hid (HBw3.out.trans (hbx.mono HBw3.out.size))
       have hH := hH.keep hbx
       clear hbx)
    | ((with_reducible refine wpList_store_blk rfl 24 _ _ rfl w4.heap.size (idv HM) ?hx4 ?hy4 24 _ (heap_alloc_new w4 _) (info32 HML.out) ?hs4 (idv_one _) ?_); (case hx4 => rfl); (case hy4 => rfl); (case hs4 => rw [idv_size, HML.out]; rfl)
       intro w5 hg4 hR hs4
       have hR : RowB w5 w4.heap.size 24 HM := hR
       have hbx : Below w4.heap.size w4 w5 := Below.grows (one_alloc w4 _) hg4 (size_le_alloc _ _) (Nat.le_refl _)
       have HBw5 := Lib.hid (HBw4.out.trans (hbx.mono HBw4.out.size))
       have HEN := Lib.hid (HEN.out.below hbx)
       have HBK := Lib.hid (HBK.out.below hbx)
       have hH := hH.keep hbx
       clear hbx hg4 hs4)
    | (go_at_call 10
       (with_reducible refine (HPM.out _ (HK.out.from HBw5.out) (HUP.out.below HBw5.out)).mono ?_)
       rintro e w6 ⟨A7, n7, c7, rfl, -, hbx⟩
       have HEN := Lib.hid (HEN.out.below hbx)
       have HBK := Lib.hid (HBK.out.below hbx)
       have HBw6 := Lib.hid (HBw5.out.trans (hbx.mono HBw5.out.size))
       have hH := hH.keep hbx
       have hR := hR.keep hbx
       clear hbx)
    | ((with_reducible refine wpList_store_blk rfl 24 _ _ rfl w6.heap.size (idv HM) ?hx6 ?hy6 24 _ (heap_alloc_new w6 _) (info32 HML.out) ?hs6 (idv_one _) ?_); (case hx6 => rfl); (case hy6 => rfl); (case hs6 => rw [idv_size, HML.out]; rfl)
       intro w7 hg6 hP hs6
       have hP : RowB w7 w6.heap.size 24 HM := hP
       have hbx : Below w6.heap.size w6 w7 := Below.grows (one_alloc w6 _) hg6 (size_le_alloc _ _) (Nat.le_refl _)
       have HBw7 := Lib.hid (HBw6.out.trans (hbx.mono HBw6.out.size))
       have HEN := Lib.hid (HEN.out.below hbx)
       have HBK := Lib.hid (HBK.out.below hbx)
       have hH := hH.keep hbx
       have hR := hR.keep hbx
       clear hbx hg6 hs6)
    | (go_at_call 16
       (with_reducible refine (HVE.out _ _ _ (HK.out.from HBw7.out) HBK.out).mono ?_)
       rintro e w8 ⟨rfl, hbx⟩
       have HEN := Lib.hid (HEN.out.below hbx)
       have HBw8 := Lib.hid (HBw7.out.trans (hbx.mono HBw7.out.size))
       have hH := hH.keep hbx
       have hR := hR.keep hbx
       have hP := hP.keep hbx
       clear hbx)
    | ((with_reducible refine wpList_store_blk rfl 24 _ _ rfl w8.heap.size (idv HM) ?hx8 ?hy8 24 _ (heap_alloc_new w8 _) (info32 HML.out) ?hs8 (idv_one _) ?_); (case hx8 => rfl); (case hy8 => rfl); (case hs8 => rw [idv_size, HML.out]; rfl)
       intro w9 hg8 hV hs8
       have hV : RowB w9 w8.heap.size 24 HM := hV
       have hbx : Below w8.heap.size w8 w9 := Below.grows (one_alloc w8 _) hg8 (size_le_alloc _ _) (Nat.le_refl _)
       have HBw9 := Lib.hid (HBw8.out.trans (hbx.mono HBw8.out.size))
       have HEN := Lib.hid (HEN.out.below hbx)
       have hH := hH.keep hbx
       have hR := hR.keep hbx
       have hP := hP.keep hbx
       clear hbx hg8 hs8)
    | (go_at_call 23
       (with_reducible refine (HSA.out _ _ _ HEN.out (HUP.out.below HBw9.out)).mono ?_)
       rintro e w10 ⟨rfl, hbx⟩
       have HBw10 := Lib.hid (HBw9.out.trans (hbx.mono HBw9.out.size))
       have hH := hH.keep hbx
       have hR := hR.keep hbx
       have hP := hP.keep hbx
       have hV := hV.keep hbx
       clear hbx)
    | ((with_reducible refine wpList_load_blk 24 _ rfl w4.heap.size ?hx11 24 (idv HM) (0, 0) _ hR.is Tryd.underlying24 ?hd11 (info32 HML.out) ?_ ?hw11); (case hx11 => rfl); (case hd11 => rfl); (case hw11 => rfl))
    | ((with_reducible refine wpList_load_blk 24 _ rfl w6.heap.size ?hx12 24 (idv HM) (0, 0) _ hP.is Tryd.underlying24 ?hd12 (info32 HML.out) ?_ ?hw12); (case hx12 => rfl); (case hd12 => rfl); (case hw12 => rfl))
    | ((with_reducible refine wpList_load_blk 24 _ rfl w8.heap.size ?hx13 24 (idv HM) (0, 0) _ hV.is Tryd.underlying24 ?hd13 (info32 HML.out) ?_ ?hw13); (case hx13 => rfl); (case hd13 => rfl); (case hw13 => rfl))
    | ((with_reducible refine wpList_eq_id .eql _ _ rfl (idv HM) (idv HM) ?hx14 ?hy14 true true (.inl ⟨rfl, rfl⟩) (fun w => HEQ.out w) ?_ ?hw14); (case hx14 => rfl); (case hy14 => rfl); (case hw14 => rfl)))
  go_ret
  exact ⟨rfl, HBw10.out⟩
set_option maxRecDepth 100000 in
set_option maxHeartbeats 4000000 in
theorem ctornw_torn (A : Option Addr) (n c : Nat) (l : List En) (K : Nat) (w : World) (hK : KTab w) (hl : Ens w A n c l) (ho : ∀ u ∈ l, u.ok) (h : n ≤ 20) (hp : putC l = true) (hk : K ≤ 62 * l.length) (hr : K % 62 ≠ 0) :
    Calls Tryd.prog 4 #[.slice A n c, .int .i64 K] w fun e w' => e = .returned (.bool true) ∧ Below w.heap.size w w' := by
  have hn := hl.small
  have h1 : (n : Int) ≤ 20 := by omega
  have HK := Lib.hid hK
  have HL := Lib.hid hl
  have hll := hl.len
  have hmc : mayC l = true := by rw [putC, Bool.and_eq_true] at hp; exact hp.2
  obtain ⟨g1, g2, g3, g4⟩ := torn_all hmc ho (by omega) hk
  have HPU := Lib.hid (fun (X : World) (hk : KTab X) (h : Ens X A n c l) => cput_any A n c l X hk h ho)
  rw [hp, if_pos rfl, if_pos rfl] at HPU
  have HRD := Lib.hid (fun (A : Option Addr) (d : Nat) (X : World) (hk : KTab X) (h : Bts X A K d ((recsC l).take K)) => cread_any A K d _ X hk h)
  have HVE := Lib.hid (fun (A : Option Addr) (d : Nat) (X : World) (hk : KTab X) (h : Bts X A K d ((recsC l).take K)) => cver_any A K d _ X hk h)
  obtain ⟨hsl, hup⟩ := hl.upto (K / 62) ((K / 62 : Nat) : Int) rfl (by omega)
  have HPM := Lib.hid (fun (X : World) (hk : KTab X) (h : Ens X A (K / 62) c (l.take (K / 62))) => cput_any A (K / 62) c _ X hk h (fun u hu => ho u (List.mem_of_mem_take hu)))
  rw [putC_take hp, if_pos rfl, if_pos rfl] at HPM
  have HSA := Lib.hid (fun (B : Option Addr) (d : Nat) (X : World) (h1 : Ens X B (K / 62) d (l.take (K / 62))) (h2 : Ens X A (K / 62) c (l.take (K / 62))) => esame_any B (K / 62) d _ A (K / 62) c _ X h1 h2)
  rw [show sameE (l.take (K / 62)) (l.take (K / 62)) = true from decide_eq_true rfl] at HSA
  unfold GBe at HSA
  rw [g2, List.length_take, Nat.min_eq_left g1] at HRD
  rw [g4] at HVE
  rw [if_neg hr] at HVE
  have HVL := Lib.hid (show (verC ((recsC l).take K)).length = 32 from verC_len _)
  obtain ⟨V, hV⟩ : ∃ V, verC ((recsC l).take K) = V := ⟨_, rfl⟩
  rw [hV] at HVE HVL
  clear hV
  have HHL := Lib.hid (show (headC l).length = 32 from headC_len _)
  have HML := Lib.hid (show (headC (l.take (K / 62))).length = 32 from headC_len _)
  have HRL := Lib.hid (show (recsC l).length = 62 * n by rw [recsC, recsF_len, hll])
  have HUP := Lib.hid hup
  have hq : Int.tdiv (K : Int) 62 = ((K / 62 : Nat) : Int) := by rw [Int.tdiv_eq_ediv_of_nonneg (by omega)]; omega
  have hm : Int.tmod (K : Int) 62 = ((K % 62 : Nat) : Int) := by rw [Int.tmod_eq_emod_of_nonneg (by omega)]; omega
  obtain ⟨M, hM⟩ : ∃ M, K / 62 = M := ⟨_, rfl⟩
  obtain ⟨r, hrr⟩ : ∃ r, K % 62 = r := ⟨_, rfl⟩
  rw [hM] at hq hsl HUP HPM HSA HRD g1 HML
  rw [hrr] at hm hr
  obtain ⟨H, hH⟩ : ∃ H, headC l = H := ⟨_, rfl⟩
  obtain ⟨LM, hLM⟩ : ∃ x, l.take M = x := ⟨_, rfl⟩
  rw [hLM] at HUP HPM HSA HRD HML
  obtain ⟨HM, hHM⟩ : ∃ H, headC LM = H := ⟨_, rfl⟩
  rw [hH] at HPU HHL
  rw [hHM] at HPM HRD HML
  have HEQ := Lib.hid (show ∀ w, (Op.equalIn 10000 24 (.agg (idv HM)) (.agg (idv HM))).run Tryd.prog w = .ok true w from fun w => by rw [eq_ids _ _ HML.out HML.out, decide_eq_true rfl])
  have q0 : 0 ≤ (K : Int) := by omega
  have q1 : (K : Int) ≤ 62 * n := by omega
  have q2 : 0 ≤ (M : Int) := by omega
  have q3 : (M : Int) ≤ n := by omega
  have q4 : 62 * M ≤ K := by omega
  obtain ⟨RC, hRC⟩ : ∃ R, recsC l = R := ⟨_, rfl⟩
  rw [hRC] at HPU HRD HVE HRL
  obtain ⟨RM, hRM⟩ : ∃ R, recsC LM = R := ⟨_, rfl⟩
  rw [hRM] at HPM
  have e0 : ((r : Int) == 0) = false := by rw [beq_eq_false_iff_ne]; omega
  clear hl hK ho hp hk hup hM hrr hLM hH hHM hRC hRM g1 g2 g3 g4 hmc
  go_enter Tryd.func4, Tryd.ntmps4
  go_wp2_with (first
    | (go_at_call 9; refine (cawake_any _ HK.out).mono ?_; rintro e w1 ⟨rfl, hb1⟩; have HBw1 := Lib.hid hb1; clear hb1)
    | (go_at_call 10
       (with_reducible refine (HPU.out _ (HK.out.from HBw1.out) (HL.out.below HBw1.out)).mono ?_)
       rintro e w2 ⟨A6, n6, c6, rfl, hbt, hbx⟩
       have hn6 : 62 * n = n6 := HRL.out.symm.trans hbt.len
       subst hn6
       obtain ⟨hcut, hbk⟩ := run_to hbt (K : Int) rfl (by omega)
       have HBK := Lib.hid hbk
       clear hbt hbk
       have HBw2 := Lib.hid (HBw1.out.trans (hbx.mono HBw1.out.size))
       clear hbx)
    | ((with_reducible refine wpList_store_blk rfl 24 _ _ rfl w2.heap.size (idv H) ?hx2 ?hy2 24 _ (heap_alloc_new w2 _) (info32 HHL.out) ?hs2 (idv_one _) ?_); (case hx2 => rfl); (case hy2 => rfl); (case hs2 => rw [idv_size, HHL.out]; rfl)
       intro w3 hg2 hH hs2
       have hH : RowB w3 w2.heap.size 24 H := hH
       have hbx : Below w2.heap.size w2 w3 := Below.grows (one_alloc w2 _) hg2 (size_le_alloc _ _) (Nat.le_refl _)
       have HBw3 := Lib.hid (HBw2.out.trans (hbx.mono HBw2.out.size))
       have HBK := Lib.hid (HBK.out.below hbx)
       clear hbx hg2 hs2)
    | (go_at_call 14
       (with_reducible refine (HRD.out _ _ _ (HK.out.from HBw3.out) HBK.out).mono ?_)
       rintro e w4 ⟨A5, n5, c5, rfl, hen, hbx⟩
       have hn5 : M = n5 := HUP.out.len.symm.trans hen.len
       subst hn5
       have HEN := Lib.hid hen
       have HBK := Lib.hid (HBK.out.below hbx)
       clear hen
       have HBw4 := Lib.hid (HBw3.out.trans (hbx.mono HBw3.out.size))
       have hH := hH.keep hbx
       clear hbx)
    | ((with_reducible refine wpList_store_blk rfl 24 _ _ rfl w4.heap.size (idv HM) ?hx4 ?hy4 24 _ (heap_alloc_new w4 _) (info32 HML.out) ?hs4 (idv_one _) ?_); (case hx4 => rfl); (case hy4 => rfl); (case hs4 => rw [idv_size, HML.out]; rfl)
       intro w5 hg4 hR hs4
       have hR : RowB w5 w4.heap.size 24 HM := hR
       have hbx : Below w4.heap.size w4 w5 := Below.grows (one_alloc w4 _) hg4 (size_le_alloc _ _) (Nat.le_refl _)
       have HBw5 := Lib.hid (HBw4.out.trans (hbx.mono HBw4.out.size))
       have HEN := Lib.hid (HEN.out.below hbx)
       have HBK := Lib.hid (HBK.out.below hbx)
       have hH := hH.keep hbx
       clear hbx hg4 hs4)
    | (go_at_call 10
       (with_reducible refine (HPM.out _ (HK.out.from HBw5.out) (HUP.out.below HBw5.out)).mono ?_)
       rintro e w6 ⟨A7, n7, c7, rfl, -, hbx⟩
       have HEN := Lib.hid (HEN.out.below hbx)
       have HBK := Lib.hid (HBK.out.below hbx)
       have HBw6 := Lib.hid (HBw5.out.trans (hbx.mono HBw5.out.size))
       have hH := hH.keep hbx
       have hR := hR.keep hbx
       clear hbx)
    | ((with_reducible refine wpList_store_blk rfl 24 _ _ rfl w6.heap.size (idv HM) ?hx6 ?hy6 24 _ (heap_alloc_new w6 _) (info32 HML.out) ?hs6 (idv_one _) ?_); (case hx6 => rfl); (case hy6 => rfl); (case hs6 => rw [idv_size, HML.out]; rfl)
       intro w7 hg6 hP hs6
       have hP : RowB w7 w6.heap.size 24 HM := hP
       have hbx : Below w6.heap.size w6 w7 := Below.grows (one_alloc w6 _) hg6 (size_le_alloc _ _) (Nat.le_refl _)
       have HBw7 := Lib.hid (HBw6.out.trans (hbx.mono HBw6.out.size))
       have HEN := Lib.hid (HEN.out.below hbx)
       have HBK := Lib.hid (HBK.out.below hbx)
       have hH := hH.keep hbx
       have hR := hR.keep hbx
       clear hbx hg6 hs6)
    | (go_at_call 16
       (with_reducible refine (HVE.out _ _ _ (HK.out.from HBw7.out) HBK.out).mono ?_)
       rintro e w8 ⟨rfl, hbx⟩
       have HEN := Lib.hid (HEN.out.below hbx)
       have HBw8 := Lib.hid (HBw7.out.trans (hbx.mono HBw7.out.size))
       have hH := hH.keep hbx
       have hR := hR.keep hbx
       have hP := hP.keep hbx
       clear hbx)
    | ((with_reducible refine wpList_store_blk rfl 24 _ _ rfl w8.heap.size (idv V) ?hx8 ?hy8 24 _ (heap_alloc_new w8 _) (info32 HVL.out) ?hs8 (idv_one _) ?_); (case hx8 => rfl); (case hy8 => rfl); (case hs8 => rw [idv_size, HVL.out]; rfl)
       intro w9 hg8 hV hs8
       have hV : RowB w9 w8.heap.size 24 V := hV
       have hbx : Below w8.heap.size w8 w9 := Below.grows (one_alloc w8 _) hg8 (size_le_alloc _ _) (Nat.le_refl _)
       have HBw9 := Lib.hid (HBw8.out.trans (hbx.mono HBw8.out.size))
       have HEN := Lib.hid (HEN.out.below hbx)
       have hH := hH.keep hbx
       have hR := hR.keep hbx
       have hP := hP.keep hbx
       clear hbx hg8 hs8)
    | (go_at_call 23
       (with_reducible refine (HSA.out _ _ _ HEN.out (HUP.out.below HBw9.out)).mono ?_)
       rintro e w10 ⟨rfl, hbx⟩
       have HBw10 := Lib.hid (HBw9.out.trans (hbx.mono HBw9.out.size))
       have hH := hH.keep hbx
       have hR := hR.keep hbx
       have hP := hP.keep hbx
       have hV := hV.keep hbx
       clear hbx)
    | ((with_reducible refine wpList_load_blk 24 _ rfl w4.heap.size ?hx11 24 (idv HM) (0, 0) _ hR.is Tryd.underlying24 ?hd11 (info32 HML.out) ?_ ?hw11); (case hx11 => rfl); (case hd11 => rfl); (case hw11 => rfl))
    | ((with_reducible refine wpList_load_blk 24 _ rfl w6.heap.size ?hx12 24 (idv HM) (0, 0) _ hP.is Tryd.underlying24 ?hd12 (info32 HML.out) ?_ ?hw12); (case hx12 => rfl); (case hd12 => rfl); (case hw12 => rfl))
    | ((with_reducible refine wpList_load_blk 24 _ rfl w8.heap.size ?hx13 24 (idv V) (0, 0) _ hV.is Tryd.underlying24 ?hd13 (info32 HVL.out) ?_ ?hw13); (case hx13 => rfl); (case hd13 => rfl); (case hw13 => rfl))
    | ((with_reducible refine wpList_eq_id .eql _ _ rfl (idv HM) (idv HM) ?hx14 ?hy14 true true (.inl ⟨rfl, rfl⟩) (fun w => HEQ.out w) ?_ ?hw14); (case hx14 => rfl); (case hy14 => rfl); (case hw14 => rfl)))
  go_ret
  exact ⟨rfl, HBw10.out⟩
theorem ctornw_any (A : Option Addr) (n c : Nat) (l : List En) (k : Int) (w : World) (hK : KTab w) (hl : Ens w A n c l) (ho : ∀ u ∈ l, u.ok) : Calls Tryd.prog 4 #[.slice A n c, .int .i64 k] w fun e w' => e = .returned (.bool true) ∧ Below w.heap.size w w' := by
  by_cases h : n ≤ 20
  · cases hp : putC l with
    | false => exact ctornw_no A n c l k w hK hl ho h hp
    | true =>
      by_cases hk0 : k < 0
      · exact ctornw_out A n c l k w hK hl ho h hp hk0
      · by_cases hk : 62 * (l.length : Int) < k
        · exact ctornw_far A n c l k w hK hl ho h hp hk0 hk
        obtain ⟨K, rfl⟩ : ∃ K : Nat, k = K := ⟨k.toNat, by omega⟩
        by_cases hr : K % 62 = 0
        · exact ctornw_whole A n c l K w hK hl ho h hp (by omega) hr
        · exact ctornw_torn A n c l K w hK hl ho h hp (by omega) hr
  · exact ctornw_long A n c l k w hK hl ho (by omega)
end Go.Proofs.YtplfpaclhapldaaDoor
