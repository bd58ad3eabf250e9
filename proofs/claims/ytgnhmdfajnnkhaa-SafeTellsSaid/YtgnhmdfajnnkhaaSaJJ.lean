/- Joined texts: The walk over the document's All. The walk over the document's Play. The walk over the document's Errs: are two lists of errors the same? A literal of rows. -/
import Derived.Test.YtgnhmdfajnnkhaaSaJI
import Derived.Test.YtgnhmdfajnnkhaaSaJB
import Derived.Test.YtgnhmdfajnnkhaaSaJA
/- The walk over the document's All. -/
namespace Go.Proofs.Ytgnhmdfajnnkhaa
set_option maxRecDepth 100000
set_option linter.unusedVariables false
set_option linter.unusedSimpArgs false
open Go.RowKit

set_option maxHeartbeats 16000000 in
theorem rasks_any (A : Option Addr) (n c : Nat) (l : List Pl) (s : Sg) (B : Option Addr) (m d : Nat) (q : List Ak) (w : World) (hl : Pls w A n c l) (hq : Aks w B m d q) (hqm : m ≤ 1000) (hts : SmG s) : Calls Try.prog 15 #[.slice A n c, sgV s, .slice B m d] w (GivesGEs (allG l s q m) (allE l s q m) w) := by
  have HDO := Lib.hid (fun (k : Nat) X (hX : Below w.heap.size w X) => rdo_any A n c l (allG l s q k) (q.getD k Ak.zero).cmd (q.getD k Ak.zero).arg X (hl.below hX) (allG_small hts k))
  have HAS := Lib.hid (fun X (hX : Below w.heap.size w X) => hq.below hX)
  have hql := hq.len
  have hqs := hq.small
  clear hl hq
  have HT0 := Lib.hid (show allG l s q 0 = s from rfl)
  have HTS := Lib.hid (fun k => show allG l s q (k + 1) = (doS l (allG l s q k) (q.getD k Ak.zero).cmd (q.getD k Ak.zero).arg).1 from rfl)
  have HES := Lib.hid (fun k => show allE l s q (k + 1) = allE l s q k ++ [(doS l (allG l s q k) (q.getD k Ak.zero).cmd (q.getD k Ak.zero).arg).2] from rfl)
  have HEL := Lib.hid (allE_len l s q)
  obtain ⟨T, hT⟩ : ∃ T, allG l s q = T := ⟨_, rfl⟩
  obtain ⟨R, hR⟩ : ∃ R, allE l s q = R := ⟨_, rfl⟩
  have HR0 := Lib.hid (show R 0 = [] by rw [← hR]; rfl)
  rw [hT] at HDO HT0 HTS HES ⊢
  rw [hR] at HES HEL ⊢
  simp only [GivesGE, sgV] at HDO ⊢
  clear hT hR
  have HW2 := Lib.hid (below_alloc2 w (.cells #[.int .i64 s.pl, .int .i64 s.st, .int .i64 s.nx, .int .i64 s.ph, .int .i64 s.t, .int .i64 s.hd, .int .i64 s.hl, .int .i64 s.ak, .int .i64 s.wt, .bool s.sp] 24) (.cells #[.int .i64 0, .int .i64 0, .int .i64 0, .int .i64 0, .int .i64 0, .int .i64 0, .int .i64 0, .int .i64 0, .int .i64 0, .bool false] 24))
  have hs1 := alloc2_old w (.cells #[.int .i64 s.pl, .int .i64 s.st, .int .i64 s.nx, .int .i64 s.ph, .int .i64 s.t, .int .i64 s.hd, .int .i64 s.hl, .int .i64 s.ak, .int .i64 s.wt, .bool s.sp] 24) (.cells #[.int .i64 0, .int .i64 0, .int .i64 0, .int .i64 0, .int .i64 0, .int .i64 0, .int .i64 0, .int .i64 0, .int .i64 0, .bool false] 24)
  have hr1 := alloc2_new w (.cells #[.int .i64 s.pl, .int .i64 s.st, .int .i64 s.nx, .int .i64 s.ph, .int .i64 s.t, .int .i64 s.hd, .int .i64 s.hl, .int .i64 s.ak, .int .i64 s.wt, .bool s.sp] 24) (.cells #[.int .i64 0, .int .i64 0, .int .i64 0, .int .i64 0, .int .i64 0, .int .i64 0, .int .i64 0, .int .i64 0, .int .i64 0, .bool false] 24)
  obtain ⟨W2, hW2⟩ : ∃ W, (w.alloc (.cells #[.int .i64 s.pl, .int .i64 s.st, .int .i64 s.nx, .int .i64 s.ph, .int .i64 s.t, .int .i64 s.hd, .int .i64 s.hl, .int .i64 s.ak, .int .i64 s.wt, .bool s.sp] 24)).alloc (.cells #[.int .i64 0, .int .i64 0, .int .i64 0, .int .i64 0, .int .i64 0, .int .i64 0, .int .i64 0, .int .i64 0, .int .i64 0, .bool false] 24) = W := ⟨_, rfl⟩
  rw [hW2] at HW2 hs1 hr1
  have HS1 := Lib.hid hs1
  have HR1 := Lib.hid hr1
  clear hs1 hr1
  go_enter Try.func15, Try.ntmps15
  go_wp2
  try rw [hW2]
  clear hW2
  go_loopw [8, 9] (fun v i wr => ∃ (j : Nat) (E : List Int), j ≤ m ∧ i = .int .i64 j ∧ R j = E ∧ OwnI .i64 28 wr (w.heap.size + 2) v E ∧ BoxG wr w.heap.size (T j) ∧ wr.heap[w.heap.size + 1]? = some (.cells #[.int .i64 0, .int .i64 0, .int .i64 0, .int .i64 0, .int .i64 0, .int .i64 0, .int .i64 0, .int .i64 0, .int .i64 0, .bool false] 24 (0, 0)) ∧ Below w.heap.size w wr) (fun _ i _ => m - (intOf i).toNat)
  case atStart => exact ⟨0, [], by omega, rfl, HR0.out, OwnI.nil _ _ _ _, by rw [HT0.out]; exact HS1.out, HR1.out, HW2.out⟩
  case round =>
    obtain ⟨j, E, hj, rfl, hE, hown, hbx, hr0, hbw⟩ := hrel
    have HBW := Lib.hid hbw
    have HO := Lib.hid hown
    have hn2 : w.heap.size + 1 < wr.heap.size := (Array.getElem?_eq_some_iff.1 hr0).1
    have hEl : E.length ≤ 1000 := by rw [← hE, HEL.out]; omega
    by_cases hlt : j < m
    · have hlt2 : (j : Int) < m := by omega
      have q0 : 0 ≤ (j : Int) := by omega
      obtain ⟨ab, ao, y, rfl, hy, -, -⟩ := (HAS.out wr hbw).at_ j hlt
      have HAK := Lib.hid (show ∀ X, Below w.heap.size w X → X.cell? ⟨ab, ao + j * 2, none⟩ = some (.int .i64 y.cmd) ∧ X.cell? ⟨ab, ao + j * 2 + 1, none⟩ = some (.int .i64 y.arg) from fun X hX => by
        obtain ⟨ab', ao', y', hA', hy', z1, z2⟩ := (HAS.out X hX).at_ j hlt
        cases hA'
        obtain rfl := hy.symm.trans hy'
        exact ⟨z1, z2⟩)
      have HDJ := Lib.hid (HDO.out j)
      have hTE := HTS.out j
      have hEE := HES.out j
      obtain ⟨u, hu⟩ : ∃ u, T j = u := ⟨_, rfl⟩
      rw [hu] at hbx HDJ hTE hEE
      rw [hy] at HDJ hTE hEE
      obtain ⟨⟨g, er⟩, hge⟩ : ∃ r, doS l u y.cmd y.arg = r := ⟨_, rfl⟩
      rw [hge] at HDJ hTE hEE
      rw [hE] at hEE
      have HNG := Lib.hid hTE
      have HNE := Lib.hid hEE
      have HF := Lib.hid (show ∀ X, Below wr.heap.size wr X → X.cell? ⟨w.heap.size, 0, none⟩ = some (.int .i64 u.pl) ∧ X.cell? ⟨w.heap.size, 1, none⟩ = some (.int .i64 u.st) ∧ X.cell? ⟨w.heap.size, 2, none⟩ = some (.int .i64 u.nx) ∧ X.cell? ⟨w.heap.size, 3, none⟩ = some (.int .i64 u.ph) ∧ X.cell? ⟨w.heap.size, 4, none⟩ = some (.int .i64 u.t) ∧ X.cell? ⟨w.heap.size, 5, none⟩ = some (.int .i64 u.hd) ∧ X.cell? ⟨w.heap.size, 6, none⟩ = some (.int .i64 u.hl) ∧ X.cell? ⟨w.heap.size, 7, none⟩ = some (.int .i64 u.ak) ∧ X.cell? ⟨w.heap.size, 8, none⟩ = some (.int .i64 u.wt) ∧ X.cell? ⟨w.heap.size, 9, none⟩ = some (.bool u.sp) ∧ X.cell? ⟨ab, ao + j * 2, none⟩ = some (.int .i64 y.cmd) ∧ X.cell? ⟨ab, ao + j * 2 + 1, none⟩ = some (.int .i64 y.arg) from fun X hX => by
        obtain ⟨y0, y1, y2, y3, y4, y5, y6, y7, y8, y9⟩ := (BoxG.below hbx hX).cells
        obtain ⟨v1, v2⟩ := HAK.out X (HBW.out.trans (hX.mono HBW.out.size))
        exact ⟨y0, y1, y2, y3, y4, y5, y6, y7, y8, y9, v1, v2⟩)
      clear hown hbw hy hu hge hTE hEE hE
      go_wp2
      have hSd : Below wr.heap.size wr wr.drew := (Below.refl _ wr).drew
      refine wp_region_held_drew (S := fun X => Below wr.heap.size wr X) (by kernel_rfl) hSd (fun hHeld => ?_)
      obtain ⟨y0, hY0⟩ : ∃ Y, wr.drew = Y := ⟨_, rfl⟩
      rw [hY0] at hSd hHeld ⊢
      clear hY0
      refine tk 0 (.slice A n c) hHeld (fun w => ?_) ?_
      · go_simp
      simp only [PT]
      refine tkS 1 (.agg #[.int .i64 u.pl, .int .i64 u.st, .int .i64 u.nx, .int .i64 u.ph, .int .i64 u.t, .int .i64 u.hd, .int .i64 u.hl, .int .i64 u.ak, .int .i64 u.wt, .bool u.sp]) hHeld (fun w hq => ?_) ?_
      · obtain ⟨z0, z1, z2, z3, z4, z5, z6, z7, z8, z9, x1, x2⟩ := HF.out w hq
        go_simp
      simp only [PT]
      refine tk 2 (.slice (some ⟨ab, ao, none⟩) m d) hHeld (fun w => ?_) ?_
      · go_simp
      simp only [PT]
      refine tk 3 (.int .i64 (j : Int)) hHeld (fun w => ?_) ?_
      · go_simp
      simp only [PT]
      refine tk 4 (.pointer (some ⟨ab, ao + j * 2, none⟩)) hHeld (fun w => ?_) ?_
      · go_simp
      simp only [PT]
      refine tk 5 (.pointer (some ⟨ab, ao + j * 2, none⟩)) hHeld (fun w => ?_) ?_
      · go_simp
      simp only [PT]
      refine tkS 6 (.int .i64 y.cmd) hHeld (fun w hq => ?_) ?_
      · obtain ⟨z0, z1, z2, z3, z4, z5, z6, z7, z8, z9, x1, x2⟩ := HF.out w hq
        go_simp
      simp only [PT]
      refine tk 7 (.slice (some ⟨ab, ao, none⟩) m d) hHeld (fun w => ?_) ?_
      · go_simp
      simp only [PT]
      refine tk 8 (.int .i64 (j : Int)) hHeld (fun w => ?_) ?_
      · go_simp
      simp only [PT]
      refine tk 9 (.pointer (some ⟨ab, ao + j * 2, none⟩)) hHeld (fun w => ?_) ?_
      · go_simp
      simp only [PT]
      refine tk 10 (.pointer (some ⟨ab, ao + j * 2 + 1, none⟩)) hHeld (fun w => ?_) ?_
      · go_simp
      simp only [PT]
      refine tkS 11 (.int .i64 y.arg) hHeld (fun w hq => ?_) ?_
      · obtain ⟨z0, z1, z2, z3, z4, z5, z6, z7, z8, z9, x1, x2⟩ := HF.out w hq
        go_simp
      simp only [PT]
      refine two_steps 12 16 (by kernel_rfl) rfl rfl (fun Kq hKq => ?_) (fun Kq hKq => ?_)
      · go_simp
        go_at_call 13
        (with_reducible refine (HDJ.out _ (HBW.out.trans (hSd.mono HBW.out.size))).mono ?_)
        rintro e y1 ⟨rfl, hbx⟩
        try simp only [sgV]
        have hS1 : Below wr.heap.size wr y1 := hSd.trans (hbx.mono hSd.size)
        clear hbx
        refine hKq.out _ _ hS1 (fun hHeld0 => ?_)
        clear hKq Kq hHeld
        have hHeld := hHeld0
        clear hHeld0
        try simp only [PT]
        refine tk 13 (.tuple #[.agg #[.int .i64 g.pl, .int .i64 g.st, .int .i64 g.nx, .int .i64 g.ph, .int .i64 g.t, .int .i64 g.hd, .int .i64 g.hl, .int .i64 g.ak, .int .i64 g.wt, .bool g.sp], .int .i64 er]) hHeld (fun w => ?_) ?_
        · (go_simp; try rfl)
        simp only [PT]
        refine tk 14 (.agg #[.int .i64 g.pl, .int .i64 g.st, .int .i64 g.nx, .int .i64 g.ph, .int .i64 g.t, .int .i64 g.hd, .int .i64 g.hl, .int .i64 g.ak, .int .i64 g.wt, .bool g.sp]) hHeld (fun w => ?_) ?_
        · (go_simp; try rfl)
        simp only [PT]
        refine tk 15 (.int .i64 er) hHeld (fun w => ?_) ?_
        · (go_simp; try rfl)
        simp only [PT]
        refine one_step 16 (by kernel_rfl) rfl (fun Kq hKq => ?_)
        go_simp
        obtain ⟨y2, hYn⟩ : ∃ Y, y1.alloc (.cells #[.int .i64 0, .int .i64 0, .int .i64 0, .int .i64 0, .int .i64 0, .int .i64 0, .int .i64 0, .int .i64 0, .int .i64 0, .bool false] 24) = Y := ⟨_, rfl⟩
        have hbx : Below y1.heap.size y1 y2 := by rw [← hYn]; exact one_alloc _ _
        have hS2 : Below wr.heap.size wr y2 := hS1.trans (hbx.mono hS1.size)
        have HBK := Lib.hid (show BoxG y2 y1.heap.size ⟨0, 0, 0, 0, 0, 0, 0, 0, 0, false⟩ from by rw [← hYn]; exact BoxG.new y1 ⟨0, 0, 0, 0, 0, 0, 0, 0, 0, false⟩)
        rw [hYn]
        clear hYn
        clear hbx
        refine hKq.out _ _ hS2 (fun hHeld0 => ?_)
        clear hKq Kq hHeld
        have hHeld := hHeld0
        clear hHeld0
        try simp only [PT]
        refine one_step 17 (by kernel_rfl) rfl (fun Kq hKq => ?_)
        refine step_store_part 24 _ _ rfl y1.heap.size 0 (.agg #[.int .i64 g.pl, .int .i64 g.st, .int .i64 g.nx, .int .i64 g.ph, .int .i64 g.t, .int .i64 g.hd, .int .i64 g.hl, .int .i64 g.ak, .int .i64 g.wt, .bool g.sp]) #[.int .i64 g.pl, .int .i64 g.st, .int .i64 g.nx, .int .i64 g.ph, .int .i64 g.t, .int .i64 g.hd, .int .i64 g.hl, .int .i64 g.ak, .int .i64 g.wt, .bool g.sp] rfl rfl rfl 24 #[.int .i64 0, .int .i64 0, .int .i64 0, .int .i64 0, .int .i64 0, .int .i64 0, .int .i64 0, .int .i64 0, .int .i64 0, .bool false] #[.int .i64 g.pl, .int .i64 g.st, .int .i64 g.nx, .int .i64 g.ph, .int .i64 g.t, .int .i64 g.hd, .int .i64 g.hl, .int .i64 g.ak, .int .i64 g.wt, .bool g.sp] HBK.out info_sig (by simp) (one_sig _ _ _ _ _ _ _ _ _ _) rfl rfl ?_
        intro y3 hgk hbk hzk
        have hS3 : Below wr.heap.size wr y3 := Below.grows hS2 hgk hS2.size (by first | exact Nat.le_refl _ | exact hS1.size | exact hSd.size | omega)
        have HBA := Lib.hid (show BoxG y3 y1.heap.size g from hbk)
        clear hgk hbk hzk
        refine hKq.out _ _ hS3 (fun hHeld0 => ?_)
        clear hKq Kq hHeld
        have hHeld := hHeld0
        clear hHeld0
        try simp only [PT]
        refine tk 18 (.int .i64 er) hHeld (fun w => ?_) ?_
        · (go_simp; try rfl)
        simp only [PT]
        refine wpAnyH_done (by kernel_rfl) ?_ _
        clear hHeld
        obtain ⟨W6, hW6⟩ : ∃ W, y3 = W := ⟨_, rfl⟩
        have hb6 := hS3
        rw [hW6] at hb6 HBA ⊢
        obtain ⟨ba, hba⟩ : ∃ b : Nat, y1.heap.size = b := ⟨_, rfl⟩
        rw [hba] at HBA ⊢
        clear hW6 hba
        have hs6 := (hb6.block w.heap.size (by omega)).trans hbx
        have hr6 := (hb6.block (w.heap.size + 1) (by omega)).trans hr0
        have hn6 : w.heap.size + 1 < W6.heap.size := Nat.lt_of_lt_of_le hn2 hb6.size
        have HB6 := Lib.hid (HBW.out.trans (hb6.mono HBW.out.size))
        have HO6 := Lib.hid (HO.out.below hb6)
        obtain ⟨d0, d1, d2, d3, d4, d5, d6, d7, d8, d9⟩ := HBA.out.cells
        clear hb6
        go_wp2_with (first
          | ((with_reducible refine wpList_store_part rfl 24 _ _ rfl w.heap.size 0 (.agg #[.int .i64 g.pl, .int .i64 g.st, .int .i64 g.nx, .int .i64 g.ph, .int .i64 g.t, .int .i64 g.hd, .int .i64 g.hl, .int .i64 g.ak, .int .i64 g.wt, .bool g.sp]) #[.int .i64 g.pl, .int .i64 g.st, .int .i64 g.nx, .int .i64 g.ph, .int .i64 g.t, .int .i64 g.hd, .int .i64 g.hl, .int .i64 g.ak, .int .i64 g.wt, .bool g.sp] ?hx7 ?hy7 ?hv7 24 #[.int .i64 u.pl, .int .i64 u.st, .int .i64 u.nx, .int .i64 u.ph, .int .i64 u.t, .int .i64 u.hd, .int .i64 u.hl, .int .i64 u.ak, .int .i64 u.wt, .bool u.sp] #[.int .i64 g.pl, .int .i64 g.st, .int .i64 g.nx, .int .i64 g.ph, .int .i64 g.t, .int .i64 g.hd, .int .i64 g.hl, .int .i64 g.ak, .int .i64 g.wt, .bool g.sp] hs6 ?hi7 ?hl7 ?ho7 ?hn7 ?_); (case hx7 => rfl); (case hy7 => rfl); (case hv7 => rfl); (case hi7 => exact info_sig); (case hl7 => simp); (case ho7 => exact one_sig _ _ _ _ _ _ _ _ _ _); (case hn7 => rfl)
             intro w7 hg7 hs7 hz7
             have hr7 := (other_block hg7 (show w.heap.size + 1 ≠ w.heap.size by omega) (by omega)).trans hr6
             have hn7 : w.heap.size + 1 < w7.heap.size := by omega
             have HO7 := Lib.hid (HO6.out.far hg7 (by
               rcases hq : Value.ownBlock _ with _ | k
               · exact .inl rfl
               · exact .inr (ne_some (by have := (HO6.out.size k hq).1; omega))))
             have HB7 := Lib.hid (Below.grows HB6.out hg7 HB6.out.size (Nat.le_refl _))
             clear hg7 hz7)
          | (at_builtin
             have hbb := one_alloc w7 (.cells #[.int .i64 er] 28)
             refine wpList_append_i rfl 31 28 .i64 8 _ _ rfl Try.underlying31 (by kernel_rfl) (by omega) (w.heap.size + 2) _ E rfl (HO7.out.more _) _ 1 1 [er] rfl (one_its .i64 28 _ er) (by omega) (by simp; omega) ?_
             intro v8 w8 hown8 hg8
             have hs8 := (hg8.block w.heap.size (by simp; omega) (fun e => by have := (HO7.out.size _ e.symm).1; omega)).trans ((hbb.block w.heap.size (by omega)).trans hs7)
             have hr8 := (hg8.block (w.heap.size + 1) (by simp; omega) (fun e => by have := (HO7.out.size _ e.symm).1; omega)).trans ((hbb.block (w.heap.size + 1) (by omega)).trans hr7)
             have HB8 := Lib.hid ((HB7.out.trans (hbb.mono HB7.out.size)).grown hg8 (Nat.le_trans HB7.out.size hbb.size) (fun k hk => by have := (HO7.out.size k hk).1; omega))
             clear hbb hg8))
        go_roundw
        case rel => exact ⟨j + 1, E ++ [er], by omega, by go_num, HNE.out, hown8, by rw [HNG.out]; exact hs8, hr8, HB8.out⟩
        case measure => simp [intOf]; omega
      · go_simp
        obtain ⟨y1, hYn⟩ : ∃ Y, y0.alloc (.cells #[.int .i64 0, .int .i64 0, .int .i64 0, .int .i64 0, .int .i64 0, .int .i64 0, .int .i64 0, .int .i64 0, .int .i64 0, .bool false] 24) = Y := ⟨_, rfl⟩
        have hbx : Below y0.heap.size y0 y1 := by rw [← hYn]; exact one_alloc _ _
        have hS1 : Below wr.heap.size wr y1 := hSd.trans (hbx.mono hSd.size)
        have HBK := Lib.hid (show BoxG y1 y0.heap.size ⟨0, 0, 0, 0, 0, 0, 0, 0, 0, false⟩ from by rw [← hYn]; exact BoxG.new y0 ⟨0, 0, 0, 0, 0, 0, 0, 0, 0, false⟩)
        rw [hYn]
        clear hYn
        clear hbx
        refine hKq.out _ _ hS1 (fun hHeld0 => ?_)
        clear hKq Kq hHeld
        have hHeld := hHeld0
        clear hHeld0
        try simp only [PT]
        refine one_step 12 (by kernel_rfl) rfl (fun Kq hKq => ?_)
        go_simp
        go_at_call 13
        (with_reducible refine (HDJ.out _ (HBW.out.trans (hS1.mono HBW.out.size))).mono ?_)
        rintro e y2 ⟨rfl, hbx⟩
        try simp only [sgV]
        have hS2 : Below wr.heap.size wr y2 := hS1.trans (hbx.mono hS1.size)
        have HBK := Lib.hid (HBK.out.below hbx)
        clear hbx
        refine hKq.out _ _ hS2 (fun hHeld0 => ?_)
        clear hKq Kq hHeld
        have hHeld := hHeld0
        clear hHeld0
        try simp only [PT]
        refine tk 13 (.tuple #[.agg #[.int .i64 g.pl, .int .i64 g.st, .int .i64 g.nx, .int .i64 g.ph, .int .i64 g.t, .int .i64 g.hd, .int .i64 g.hl, .int .i64 g.ak, .int .i64 g.wt, .bool g.sp], .int .i64 er]) hHeld (fun w => ?_) ?_
        · (go_simp; try rfl)
        simp only [PT]
        refine tk 14 (.agg #[.int .i64 g.pl, .int .i64 g.st, .int .i64 g.nx, .int .i64 g.ph, .int .i64 g.t, .int .i64 g.hd, .int .i64 g.hl, .int .i64 g.ak, .int .i64 g.wt, .bool g.sp]) hHeld (fun w => ?_) ?_
        · (go_simp; try rfl)
        simp only [PT]
        refine tk 15 (.int .i64 er) hHeld (fun w => ?_) ?_
        · (go_simp; try rfl)
        simp only [PT]
        refine one_step 17 (by kernel_rfl) rfl (fun Kq hKq => ?_)
        refine step_store_part 24 _ _ rfl y0.heap.size 0 (.agg #[.int .i64 g.pl, .int .i64 g.st, .int .i64 g.nx, .int .i64 g.ph, .int .i64 g.t, .int .i64 g.hd, .int .i64 g.hl, .int .i64 g.ak, .int .i64 g.wt, .bool g.sp]) #[.int .i64 g.pl, .int .i64 g.st, .int .i64 g.nx, .int .i64 g.ph, .int .i64 g.t, .int .i64 g.hd, .int .i64 g.hl, .int .i64 g.ak, .int .i64 g.wt, .bool g.sp] rfl rfl rfl 24 #[.int .i64 0, .int .i64 0, .int .i64 0, .int .i64 0, .int .i64 0, .int .i64 0, .int .i64 0, .int .i64 0, .int .i64 0, .bool false] #[.int .i64 g.pl, .int .i64 g.st, .int .i64 g.nx, .int .i64 g.ph, .int .i64 g.t, .int .i64 g.hd, .int .i64 g.hl, .int .i64 g.ak, .int .i64 g.wt, .bool g.sp] HBK.out info_sig (by simp) (one_sig _ _ _ _ _ _ _ _ _ _) rfl rfl ?_
        intro y3 hgk hbk hzk
        have hS3 : Below wr.heap.size wr y3 := Below.grows hS2 hgk hS2.size (by first | exact Nat.le_refl _ | exact hS1.size | exact hSd.size | omega)
        have HBA := Lib.hid (show BoxG y3 y0.heap.size g from hbk)
        clear hgk hbk hzk
        refine hKq.out _ _ hS3 (fun hHeld0 => ?_)
        clear hKq Kq hHeld
        have hHeld := hHeld0
        clear hHeld0
        try simp only [PT]
        refine tk 18 (.int .i64 er) hHeld (fun w => ?_) ?_
        · (go_simp; try rfl)
        simp only [PT]
        refine wpAnyH_done (by kernel_rfl) ?_ _
        clear hHeld
        obtain ⟨W6, hW6⟩ : ∃ W, y3 = W := ⟨_, rfl⟩
        have hb6 := hS3
        rw [hW6] at hb6 HBA ⊢
        obtain ⟨ba, hba⟩ : ∃ b : Nat, y0.heap.size = b := ⟨_, rfl⟩
        rw [hba] at HBA ⊢
        clear hW6 hba
        have hs6 := (hb6.block w.heap.size (by omega)).trans hbx
        have hr6 := (hb6.block (w.heap.size + 1) (by omega)).trans hr0
        have hn6 : w.heap.size + 1 < W6.heap.size := Nat.lt_of_lt_of_le hn2 hb6.size
        have HB6 := Lib.hid (HBW.out.trans (hb6.mono HBW.out.size))
        have HO6 := Lib.hid (HO.out.below hb6)
        obtain ⟨d0, d1, d2, d3, d4, d5, d6, d7, d8, d9⟩ := HBA.out.cells
        clear hb6
        go_wp2_with (first
          | ((with_reducible refine wpList_store_part rfl 24 _ _ rfl w.heap.size 0 (.agg #[.int .i64 g.pl, .int .i64 g.st, .int .i64 g.nx, .int .i64 g.ph, .int .i64 g.t, .int .i64 g.hd, .int .i64 g.hl, .int .i64 g.ak, .int .i64 g.wt, .bool g.sp]) #[.int .i64 g.pl, .int .i64 g.st, .int .i64 g.nx, .int .i64 g.ph, .int .i64 g.t, .int .i64 g.hd, .int .i64 g.hl, .int .i64 g.ak, .int .i64 g.wt, .bool g.sp] ?hx7 ?hy7 ?hv7 24 #[.int .i64 u.pl, .int .i64 u.st, .int .i64 u.nx, .int .i64 u.ph, .int .i64 u.t, .int .i64 u.hd, .int .i64 u.hl, .int .i64 u.ak, .int .i64 u.wt, .bool u.sp] #[.int .i64 g.pl, .int .i64 g.st, .int .i64 g.nx, .int .i64 g.ph, .int .i64 g.t, .int .i64 g.hd, .int .i64 g.hl, .int .i64 g.ak, .int .i64 g.wt, .bool g.sp] hs6 ?hi7 ?hl7 ?ho7 ?hn7 ?_); (case hx7 => rfl); (case hy7 => rfl); (case hv7 => rfl); (case hi7 => exact info_sig); (case hl7 => simp); (case ho7 => exact one_sig _ _ _ _ _ _ _ _ _ _); (case hn7 => rfl)
             intro w7 hg7 hs7 hz7
             have hr7 := (other_block hg7 (show w.heap.size + 1 ≠ w.heap.size by omega) (by omega)).trans hr6
             have hn7 : w.heap.size + 1 < w7.heap.size := by omega
             have HO7 := Lib.hid (HO6.out.far hg7 (by
               rcases hq : Value.ownBlock _ with _ | k
               · exact .inl rfl
               · exact .inr (ne_some (by have := (HO6.out.size k hq).1; omega))))
             have HB7 := Lib.hid (Below.grows HB6.out hg7 HB6.out.size (Nat.le_refl _))
             clear hg7 hz7)
          | (at_builtin
             have hbb := one_alloc w7 (.cells #[.int .i64 er] 28)
             refine wpList_append_i rfl 31 28 .i64 8 _ _ rfl Try.underlying31 (by kernel_rfl) (by omega) (w.heap.size + 2) _ E rfl (HO7.out.more _) _ 1 1 [er] rfl (one_its .i64 28 _ er) (by omega) (by simp; omega) ?_
             intro v8 w8 hown8 hg8
             have hs8 := (hg8.block w.heap.size (by simp; omega) (fun e => by have := (HO7.out.size _ e.symm).1; omega)).trans ((hbb.block w.heap.size (by omega)).trans hs7)
             have hr8 := (hg8.block (w.heap.size + 1) (by simp; omega) (fun e => by have := (HO7.out.size _ e.symm).1; omega)).trans ((hbb.block (w.heap.size + 1) (by omega)).trans hr7)
             have HB8 := Lib.hid ((HB7.out.trans (hbb.mono HB7.out.size)).grown hg8 (Nat.le_trans HB7.out.size hbb.size) (fun k hk => by have := (HO7.out.size k hk).1; omega))
             clear hbb hg8))
        go_roundw
        case rel => exact ⟨j + 1, E ++ [er], by omega, by go_num, HNE.out, hown8, by rw [HNG.out]; exact hs8, hr8, HB8.out⟩
        case measure => simp [intOf]; omega
    · obtain rfl : j = m := by omega
      have hge : ¬ ((j : Int) < j) := by omega
      obtain ⟨u, hu⟩ : ∃ u, T j = u := ⟨_, rfl⟩
      rw [hu] at hbx
      have HU := Lib.hid hu
      have HE := Lib.hid hE
      obtain ⟨c0, c1, c2, c3, c4, c5, c6, c7, c8, c9⟩ := hbx.cells
      obtain ⟨A2, n2, d2, rfl, hrs⟩ := hown.its
      have hr1 := hr0
      have HB1 := Lib.hid hbw
      clear hown hbw hu hE
      go_wp2_with (first
    | ((with_reducible refine wpList_store_part rfl 24 _ _ rfl (w.heap.size + 1) 0 (.agg #[.int .i64 u.pl, .int .i64 u.st, .int .i64 u.nx, .int .i64 u.ph, .int .i64 u.t, .int .i64 u.hd, .int .i64 u.hl, .int .i64 u.ak, .int .i64 u.wt, .bool u.sp]) #[.int .i64 u.pl, .int .i64 u.st, .int .i64 u.nx, .int .i64 u.ph, .int .i64 u.t, .int .i64 u.hd, .int .i64 u.hl, .int .i64 u.ak, .int .i64 u.wt, .bool u.sp] ?hx9 ?hy9 ?hv9 24 #[.int .i64 0, .int .i64 0, .int .i64 0, .int .i64 0, .int .i64 0, .int .i64 0, .int .i64 0, .int .i64 0, .int .i64 0, .bool false] #[.int .i64 u.pl, .int .i64 u.st, .int .i64 u.nx, .int .i64 u.ph, .int .i64 u.t, .int .i64 u.hd, .int .i64 u.hl, .int .i64 u.ak, .int .i64 u.wt, .bool u.sp] hr1 ?hi9 ?hl9 ?ho9 ?hn9 ?_); (case hx9 => rfl); (case hy9 => rfl); (case hv9 => rfl); (case hi9 => exact info_sig); (case hl9 => simp); (case ho9 => exact one_sig _ _ _ _ _ _ _ _ _ _); (case hn9 => rfl)
       intro w9 hg9 hr9 hz9
       have HB9 := Lib.hid (Below.grows HB1.out hg9 HB1.out.size (by omega))
       have HR9 := Lib.hid (hrs.grown hg9 (fun b o e => ne_some (by have := (HO.out.size b (by rw [e]; rfl)).1; omega)))
       clear hg9))
      refine bodyPost_ret (v := .tuple #[.agg #[.int .i64 u.pl, .int .i64 u.st, .int .i64 u.nx, .int .i64 u.ph, .int .i64 u.t, .int .i64 u.hd, .int .i64 u.hl, .int .i64 u.ak, .int .i64 u.wt, .bool u.sp], .slice A2 n2 d2]) ?_ rfl ⟨A2, n2, d2, by rw [HU.out]; rfl, by rw [HE.out]; exact HR9.out, HB9.out⟩
      exact results_blk_val Try.results15 _ _ _ (w.heap.size + 1) 24 #[.int .i64 u.pl, .int .i64 u.st, .int .i64 u.nx, .int .i64 u.ph, .int .i64 u.t, .int .i64 u.hd, .int .i64 u.hl, .int .i64 u.ak, .int .i64 u.wt, .bool u.sp] (0, 0) _ rfl hr9 Try.underlying24 rfl info_sig _ rfl
end Go.Proofs.Ytgnhmdfajnnkhaa


/- The walk over the document's Play. -/
namespace Go.Proofs.Ytgnhmdfajnnkhaa
set_option maxRecDepth 100000
set_option linter.unusedVariables false
set_option linter.unusedSimpArgs false
open Go.RowKit

set_option maxHeartbeats 16000000 in
theorem rplay_any (A : Option Addr) (n c : Nat) (l : List Pl) (s : Sg) (B : Option Addr) (m d : Nat) (q : List Ak) (w : World) (hl : Pls w A n c l) (hq : Aks w B m d q) (hqm : m ≤ 1000) (hts : SmG s) : Calls Try.prog 17 #[.slice A n c, sgV s, .slice B m d] w (GivesGL (playG l s q m) (playL l s q m) w) := by
  have HDO := Lib.hid (fun (k : Nat) X (hX : Below w.heap.size w X) => rdo_any A n c l (playG l s q k) (q.getD k Ak.zero).cmd (q.getD k Ak.zero).arg X (hl.below hX) (playG_small hts k))
  have HAS := Lib.hid (fun X (hX : Below w.heap.size w X) => hq.below hX)
  have HTK := Lib.hid (fun (k : Nat) X (hX : Below w.heap.size w X) => rtick_any A n c l (playG l s q k) X (hl.below hX) (playG_small hts k))
  have HLP := Lib.hid (fun (k : Nat) X (hX : Below w.heap.size w X) => rlamps_own A n c l (playG l s q k) X (hl.below hX) (playG_small hts k))
  have hql := hq.len
  have hqs := hq.small
  clear hl hq
  have HT0 := Lib.hid (show playG l s q 0 = s from rfl)
  have HTS := Lib.hid (fun k => show playG l s q (k + 1) = stepS l (playG l s q k) (q.getD k Ak.zero) from rfl)
  have HES := Lib.hid (fun k => show playL l s q (k + 1) = playL l s q k ++ (if (q.getD k Ak.zero).cmd = -1 then [lampsS l (playG l s q (k + 1))] else []) from rfl)
  have HEL := Lib.hid (playL_len l s q)
  obtain ⟨T, hT⟩ : ∃ T, playG l s q = T := ⟨_, rfl⟩
  obtain ⟨R, hR⟩ : ∃ R, playL l s q = R := ⟨_, rfl⟩
  have HR0 := Lib.hid (show R 0 = [] by rw [← hR]; rfl)
  rw [hT] at HDO HT0 HTS HES HTK HLP ⊢
  rw [hR] at HES HEL ⊢
  simp only [GivesGE, GivesG, sgV] at HDO HTK HLP ⊢
  clear hT hR
  have HW2 := Lib.hid (below_alloc2 w (.cells #[.int .i64 s.pl, .int .i64 s.st, .int .i64 s.nx, .int .i64 s.ph, .int .i64 s.t, .int .i64 s.hd, .int .i64 s.hl, .int .i64 s.ak, .int .i64 s.wt, .bool s.sp] 24) (.cells #[.int .i64 0, .int .i64 0, .int .i64 0, .int .i64 0, .int .i64 0, .int .i64 0, .int .i64 0, .int .i64 0, .int .i64 0, .bool false] 24))
  have hs1 := alloc2_old w (.cells #[.int .i64 s.pl, .int .i64 s.st, .int .i64 s.nx, .int .i64 s.ph, .int .i64 s.t, .int .i64 s.hd, .int .i64 s.hl, .int .i64 s.ak, .int .i64 s.wt, .bool s.sp] 24) (.cells #[.int .i64 0, .int .i64 0, .int .i64 0, .int .i64 0, .int .i64 0, .int .i64 0, .int .i64 0, .int .i64 0, .int .i64 0, .bool false] 24)
  have hr1 := alloc2_new w (.cells #[.int .i64 s.pl, .int .i64 s.st, .int .i64 s.nx, .int .i64 s.ph, .int .i64 s.t, .int .i64 s.hd, .int .i64 s.hl, .int .i64 s.ak, .int .i64 s.wt, .bool s.sp] 24) (.cells #[.int .i64 0, .int .i64 0, .int .i64 0, .int .i64 0, .int .i64 0, .int .i64 0, .int .i64 0, .int .i64 0, .int .i64 0, .bool false] 24)
  obtain ⟨W2, hW2⟩ : ∃ W, (w.alloc (.cells #[.int .i64 s.pl, .int .i64 s.st, .int .i64 s.nx, .int .i64 s.ph, .int .i64 s.t, .int .i64 s.hd, .int .i64 s.hl, .int .i64 s.ak, .int .i64 s.wt, .bool s.sp] 24)).alloc (.cells #[.int .i64 0, .int .i64 0, .int .i64 0, .int .i64 0, .int .i64 0, .int .i64 0, .int .i64 0, .int .i64 0, .int .i64 0, .bool false] 24) = W := ⟨_, rfl⟩
  rw [hW2] at HW2 hs1 hr1
  have HS1 := Lib.hid hs1
  have HR1 := Lib.hid hr1
  clear hs1 hr1
  go_enter Try.func17, Try.ntmps17
  go_wp2
  try rw [hW2]
  clear hW2
  go_loopw [8, 9] (fun v i wr => ∃ (j : Nat) (rows : List Rw), j ≤ m ∧ i = .int .i64 j ∧ OwnR 40 1 wr (w.heap.size + 2) v (rows.map Rw.row) ∧ RowsAt wr (w.heap.size + 2) v rows ∧ rows.map Rw.l = R j ∧ BoxG wr w.heap.size (T j) ∧ wr.heap[w.heap.size + 1]? = some (.cells #[.int .i64 0, .int .i64 0, .int .i64 0, .int .i64 0, .int .i64 0, .int .i64 0, .int .i64 0, .int .i64 0, .int .i64 0, .bool false] 24 (0, 0)) ∧ Below w.heap.size w wr) (fun _ i _ => m - (intOf i).toNat)
  case atStart => exact ⟨0, [], by omega, rfl, OwnR.nil _ _ _ _, RowsAt.nil _ _ _, by rw [HR0.out]; rfl, by rw [HT0.out]; exact HS1.out, HR1.out, HW2.out⟩
  case round =>
    obtain ⟨j, rows, hj, rfl, hown, hat, hrw, hbx, hr0, hbw⟩ := hrel
    have HBW := Lib.hid hbw
    have HAT := Lib.hid hat
    have HRW := Lib.hid hrw
    have HO := Lib.hid hown
    have hlen : rows.length ≤ 1000 := by have h1 := HEL.out j; rw [← hrw, List.length_map] at h1; omega
    have hn2 : w.heap.size + 1 < wr.heap.size := (Array.getElem?_eq_some_iff.1 hr0).1
    by_cases hlt : j < m
    · have hlt2 : (j : Int) < m := by omega
      have q0 : 0 ≤ (j : Int) := by omega
      obtain ⟨ab, ao, y, rfl, hy, zc, -⟩ := (HAS.out wr hbw).at_ j hlt
      have HAK := Lib.hid (show ∀ X, Below w.heap.size w X → X.cell? ⟨ab, ao + j * 2, none⟩ = some (.int .i64 y.cmd) ∧ X.cell? ⟨ab, ao + j * 2 + 1, none⟩ = some (.int .i64 y.arg) from fun X hX => by
        obtain ⟨ab', ao', y', hA', hy', z1, z2⟩ := (HAS.out X hX).at_ j hlt
        cases hA'
        obtain rfl := hy.symm.trans hy'
        exact ⟨z1, z2⟩)
      have HDJ := Lib.hid (HDO.out j)
      have HTJ := Lib.hid (HTK.out j)
      have HLJ := Lib.hid (HLP.out (j + 1))
      have hTE := HTS.out j
      have hEE := HES.out j
      obtain ⟨u, hu⟩ : ∃ u, T j = u := ⟨_, rfl⟩
      rw [hu] at hbx HDJ hTE HTJ
      rw [hy] at HDJ hTE hEE
      by_cases hc : y.cmd = -1
      · have hcb : (y.cmd == -1) = true := by rw [hc]; rfl
        rw [stepS, if_pos hc] at hTE
        rw [if_pos hc] at hEE
        obtain ⟨g, hg⟩ : ∃ g, tickS l u = g := ⟨_, rfl⟩
        rw [hg] at hTE HTJ
        rw [hTE] at HLJ hEE
        have HNG := Lib.hid hTE
        have HRE := Lib.hid hEE
        obtain ⟨c0, c1, c2, c3, c4, c5, c6, c7, c8, c9⟩ := hbx.cells
        clear hown hat hrw hbw hy hu hg hTE hEE hc HDJ
        go_wp2_with (first
          | (go_at_call 39
             (with_reducible refine (HTJ.out _ HBW.out).mono ?_)
             rintro e w3 ⟨rfl, hb3⟩
             have hs3 := (hb3.block w.heap.size (by omega)).trans hbx
             have hr3 := (hb3.block (w.heap.size + 1) (by omega)).trans hr0
             have hn3 : w.heap.size + 1 < w3.heap.size := Nat.lt_of_lt_of_le hn2 hb3.size
             have HO3 := Lib.hid (HO.out.below hb3)
             have HA3 := Lib.hid (HAT.out.below hb3)
             have HB3 := Lib.hid (HBW.out.trans (hb3.mono HBW.out.size))
             clear hb3)
          | ((with_reducible refine wpList_store_part rfl 24 _ _ rfl w.heap.size 0 (.agg #[.int .i64 g.pl, .int .i64 g.st, .int .i64 g.nx, .int .i64 g.ph, .int .i64 g.t, .int .i64 g.hd, .int .i64 g.hl, .int .i64 g.ak, .int .i64 g.wt, .bool g.sp]) #[.int .i64 g.pl, .int .i64 g.st, .int .i64 g.nx, .int .i64 g.ph, .int .i64 g.t, .int .i64 g.hd, .int .i64 g.hl, .int .i64 g.ak, .int .i64 g.wt, .bool g.sp] ?hx4 ?hy4 ?hv4 24 #[.int .i64 u.pl, .int .i64 u.st, .int .i64 u.nx, .int .i64 u.ph, .int .i64 u.t, .int .i64 u.hd, .int .i64 u.hl, .int .i64 u.ak, .int .i64 u.wt, .bool u.sp] #[.int .i64 g.pl, .int .i64 g.st, .int .i64 g.nx, .int .i64 g.ph, .int .i64 g.t, .int .i64 g.hd, .int .i64 g.hl, .int .i64 g.ak, .int .i64 g.wt, .bool g.sp] hs3 ?hi4 ?hl4 ?ho4 ?hn4 ?_); (case hx4 => rfl); (case hy4 => rfl); (case hv4 => rfl); (case hi4 => exact info_sig); (case hl4 => simp); (case ho4 => exact one_sig _ _ _ _ _ _ _ _ _ _); (case hn4 => rfl)
             intro w4 hg4 hs4 hz4
             have hr4 := (other_block hg4 (show w.heap.size + 1 ≠ w.heap.size by omega) (by omega)).trans hr3
             have hn4 : w.heap.size + 1 < w4.heap.size := by omega
             have HO4 := Lib.hid (HO3.out.far hg4 (by
               rcases hq : Value.ownBlock _ with _ | k
               · exact .inl rfl
               · exact .inr (ne_some (by have := (HO3.out.size k hq).1; omega))))
             have HA4 := Lib.hid (HA3.out.low hg4 (by omega) hz4)
             have HB4 := Lib.hid (Below.grows HB3.out hg4 HB3.out.size (Nat.le_refl _))
             obtain ⟨d0, d1, d2, d3, d4, d5, d6, d7, d8, d9⟩ := (show BoxG w4 w.heap.size g from hs4).cells
             clear hg4)
          | (go_at_call 40
             (with_reducible refine (HLJ.out _ HB4.out).mono ?_)
             rintro e w5 ⟨A1, n1, c1', rfl, ho5, hb5⟩
             have hs5 := (hb5.block w.heap.size (by omega)).trans hs4
             have hr5 := (hb5.block (w.heap.size + 1) (by omega)).trans hr4
             have hn5 : w.heap.size + 1 < w5.heap.size := Nat.lt_of_lt_of_le hn4 hb5.size
             obtain ⟨hi5, hat5⟩ := own_at ho5
             have HI5 := Lib.hid hi5
             have HT5 := Lib.hid (show ∀ b o, A1 = some ⟨b, o, none⟩ → w.heap.size + 2 ≤ b ∧ b < w5.heap.size ∧ Value.ownBlock _ ≠ some b from fun b o e => ⟨by have := (hat5 b o e).1; omega, (hat5 b o e).2, fun e2 => by have := (HO4.out.size b e2).2; have := (hat5 b o e).1; omega⟩)
             have HO5 := Lib.hid (HO4.out.below hb5)
             have HA5 := Lib.hid (HA4.out.below hb5)
             have HB5 := Lib.hid (HB4.out.trans (hb5.mono HB4.out.size))
             clear hb5 hi5 hat5 ho5)
          | (at_builtin
             have hbb := one_alloc w5 (.cells #[.slice A1 n1 c1'] 40)
             refine wpList_append_r_at rfl 34 40 1 24 _ _ rfl Try.underlying34 info_rows (by omega) (w.heap.size + 2) _ _ rfl (HO5.out.below hbb) (some ⟨w5.heap.size, 0, none⟩) 1 1 [[.slice A1 n1 c1']] rfl (one_rws 1 40 w5 [.slice A1 n1 c1'] rfl (fun v hv => by rw [List.mem_singleton.1 hv]; rfl)) (by rw [List.length_map]; omega) (by rw [List.length_map]; omega) (by simp; omega) ?_
             intro v6 w6 hown6 hg6 hv6
             have HA6 := Lib.hid ((((HA5.out.below hbb).snoc (r := ⟨A1, n1, c1', _⟩) (HI5.out.below hbb) (fun b o e => ⟨(HT5.out b o e).1, Nat.lt_of_lt_of_le (HT5.out b o e).2.1 hbb.size, (HT5.out b o e).2.2⟩))).turn hg6 hv6 hg6.size)
             have hs6 := (other_blocks hg6 (HO5.out.below hbb) (show w.heap.size < w.heap.size + 2 by omega) (by simp; omega)).trans ((hbb.block w.heap.size (by omega)).trans hs5)
             have hr6 := (other_blocks hg6 (HO5.out.below hbb) (show w.heap.size + 1 < w.heap.size + 2 by omega) (by simp; omega)).trans ((hbb.block (w.heap.size + 1) (by omega)).trans hr5)
             have HB6 := Lib.hid ((HB5.out.trans (hbb.mono HB5.out.size)).grown hg6 (Nat.le_trans HB5.out.size hbb.size) (fun k hk => by have := ((HO5.out.below hbb).size k hk).1; omega))
             clear hbb hg6 hv6))
        go_roundw
        case rel => exact ⟨j + 1, rows ++ [⟨A1, n1, c1', _⟩], by omega, by go_num, by rw [List.map_append]; exact hown6, HA6.out, by rw [List.map_append, HRW.out, HRE.out]; rfl, by rw [HNG.out]; exact hs6, hr6, HB6.out⟩
        case measure => simp [intOf]; omega
      · have hcb : (y.cmd == -1) = false := by rw [beq_eq_false_iff_ne]; exact hc
        rw [stepS, if_neg hc] at hTE
        rw [if_neg hc, List.append_nil] at hEE
        obtain ⟨⟨g, er⟩, hge⟩ : ∃ r, doS l u y.cmd y.arg = r := ⟨_, rfl⟩
        rw [hge] at HDJ hTE
        have HNG := Lib.hid hTE
        have HRE := Lib.hid hEE
        have HF := Lib.hid (show ∀ X, Below wr.heap.size wr X → X.cell? ⟨w.heap.size, 0, none⟩ = some (.int .i64 u.pl) ∧ X.cell? ⟨w.heap.size, 1, none⟩ = some (.int .i64 u.st) ∧ X.cell? ⟨w.heap.size, 2, none⟩ = some (.int .i64 u.nx) ∧ X.cell? ⟨w.heap.size, 3, none⟩ = some (.int .i64 u.ph) ∧ X.cell? ⟨w.heap.size, 4, none⟩ = some (.int .i64 u.t) ∧ X.cell? ⟨w.heap.size, 5, none⟩ = some (.int .i64 u.hd) ∧ X.cell? ⟨w.heap.size, 6, none⟩ = some (.int .i64 u.hl) ∧ X.cell? ⟨w.heap.size, 7, none⟩ = some (.int .i64 u.ak) ∧ X.cell? ⟨w.heap.size, 8, none⟩ = some (.int .i64 u.wt) ∧ X.cell? ⟨w.heap.size, 9, none⟩ = some (.bool u.sp) ∧ X.cell? ⟨ab, ao + j * 2, none⟩ = some (.int .i64 y.cmd) ∧ X.cell? ⟨ab, ao + j * 2 + 1, none⟩ = some (.int .i64 y.arg) from fun X hX => by
          obtain ⟨y0, y1, y2, y3, y4, y5, y6, y7, y8, y9⟩ := (BoxG.below hbx hX).cells
          obtain ⟨v1, v2⟩ := HAK.out X (HBW.out.trans (hX.mono HBW.out.size))
          exact ⟨y0, y1, y2, y3, y4, y5, y6, y7, y8, y9, v1, v2⟩)
        clear hown hat hrw hbw hy hu hge hTE hEE hc HTJ HLJ
        go_wp2
        have hSd : Below wr.heap.size wr wr.drew := (Below.refl _ wr).drew
        refine wp_region_held_drew (S := fun X => Below wr.heap.size wr X) (by kernel_rfl) hSd (fun hHeld => ?_)
        obtain ⟨y0, hY0⟩ : ∃ Y, wr.drew = Y := ⟨_, rfl⟩
        rw [hY0] at hSd hHeld ⊢
        clear hY0
        refine tk 0 (.slice A n c) hHeld (fun w => ?_) ?_
        · go_simp
        simp only [PT]
        refine tkS 1 (.agg #[.int .i64 u.pl, .int .i64 u.st, .int .i64 u.nx, .int .i64 u.ph, .int .i64 u.t, .int .i64 u.hd, .int .i64 u.hl, .int .i64 u.ak, .int .i64 u.wt, .bool u.sp]) hHeld (fun w hq => ?_) ?_
        · obtain ⟨z0, z1, z2, z3, z4, z5, z6, z7, z8, z9, x1, x2⟩ := HF.out w hq
          go_simp
        simp only [PT]
        refine tk 2 (.slice (some ⟨ab, ao, none⟩) m d) hHeld (fun w => ?_) ?_
        · go_simp
        simp only [PT]
        refine tk 3 (.int .i64 (j : Int)) hHeld (fun w => ?_) ?_
        · go_simp
        simp only [PT]
        refine tk 4 (.pointer (some ⟨ab, ao + j * 2, none⟩)) hHeld (fun w => ?_) ?_
        · go_simp
        simp only [PT]
        refine tk 5 (.pointer (some ⟨ab, ao + j * 2, none⟩)) hHeld (fun w => ?_) ?_
        · go_simp
        simp only [PT]
        refine tkS 6 (.int .i64 y.cmd) hHeld (fun w hq => ?_) ?_
        · obtain ⟨z0, z1, z2, z3, z4, z5, z6, z7, z8, z9, x1, x2⟩ := HF.out w hq
          go_simp
        simp only [PT]
        refine tk 7 (.slice (some ⟨ab, ao, none⟩) m d) hHeld (fun w => ?_) ?_
        · go_simp
        simp only [PT]
        refine tk 8 (.int .i64 (j : Int)) hHeld (fun w => ?_) ?_
        · go_simp
        simp only [PT]
        refine tk 9 (.pointer (some ⟨ab, ao + j * 2, none⟩)) hHeld (fun w => ?_) ?_
        · go_simp
        simp only [PT]
        refine tk 10 (.pointer (some ⟨ab, ao + j * 2 + 1, none⟩)) hHeld (fun w => ?_) ?_
        · go_simp
        simp only [PT]
        refine tkS 11 (.int .i64 y.arg) hHeld (fun w hq => ?_) ?_
        · obtain ⟨z0, z1, z2, z3, z4, z5, z6, z7, z8, z9, x1, x2⟩ := HF.out w hq
          go_simp
        simp only [PT]
        refine two_steps 12 16 (by kernel_rfl) rfl rfl (fun Kq hKq => ?_) (fun Kq hKq => ?_)
        · go_simp
          go_at_call 13
          (with_reducible refine (HDJ.out _ (HBW.out.trans (hSd.mono HBW.out.size))).mono ?_)
          rintro e y1 ⟨rfl, hbx⟩
          try simp only [sgV]
          have hS1 : Below wr.heap.size wr y1 := hSd.trans (hbx.mono hSd.size)
          clear hbx
          refine hKq.out _ _ hS1 (fun hHeld0 => ?_)
          clear hKq Kq hHeld
          have hHeld := hHeld0
          clear hHeld0
          try simp only [PT]
          refine tk 13 (.tuple #[.agg #[.int .i64 g.pl, .int .i64 g.st, .int .i64 g.nx, .int .i64 g.ph, .int .i64 g.t, .int .i64 g.hd, .int .i64 g.hl, .int .i64 g.ak, .int .i64 g.wt, .bool g.sp], .int .i64 er]) hHeld (fun w => ?_) ?_
          · (go_simp; try rfl)
          simp only [PT]
          refine tk 14 (.agg #[.int .i64 g.pl, .int .i64 g.st, .int .i64 g.nx, .int .i64 g.ph, .int .i64 g.t, .int .i64 g.hd, .int .i64 g.hl, .int .i64 g.ak, .int .i64 g.wt, .bool g.sp]) hHeld (fun w => ?_) ?_
          · (go_simp; try rfl)
          simp only [PT]
          refine tk 15 (.int .i64 er) hHeld (fun w => ?_) ?_
          · (go_simp; try rfl)
          simp only [PT]
          refine one_step 16 (by kernel_rfl) rfl (fun Kq hKq => ?_)
          go_simp
          obtain ⟨y2, hYn⟩ : ∃ Y, y1.alloc (.cells #[.int .i64 0, .int .i64 0, .int .i64 0, .int .i64 0, .int .i64 0, .int .i64 0, .int .i64 0, .int .i64 0, .int .i64 0, .bool false] 24) = Y := ⟨_, rfl⟩
          have hbx : Below y1.heap.size y1 y2 := by rw [← hYn]; exact one_alloc _ _
          have hS2 : Below wr.heap.size wr y2 := hS1.trans (hbx.mono hS1.size)
          have HBK := Lib.hid (show BoxG y2 y1.heap.size ⟨0, 0, 0, 0, 0, 0, 0, 0, 0, false⟩ from by rw [← hYn]; exact BoxG.new y1 ⟨0, 0, 0, 0, 0, 0, 0, 0, 0, false⟩)
          rw [hYn]
          clear hYn
          clear hbx
          refine hKq.out _ _ hS2 (fun hHeld0 => ?_)
          clear hKq Kq hHeld
          have hHeld := hHeld0
          clear hHeld0
          try simp only [PT]
          refine one_step 17 (by kernel_rfl) rfl (fun Kq hKq => ?_)
          refine step_store_part 24 _ _ rfl y1.heap.size 0 (.agg #[.int .i64 g.pl, .int .i64 g.st, .int .i64 g.nx, .int .i64 g.ph, .int .i64 g.t, .int .i64 g.hd, .int .i64 g.hl, .int .i64 g.ak, .int .i64 g.wt, .bool g.sp]) #[.int .i64 g.pl, .int .i64 g.st, .int .i64 g.nx, .int .i64 g.ph, .int .i64 g.t, .int .i64 g.hd, .int .i64 g.hl, .int .i64 g.ak, .int .i64 g.wt, .bool g.sp] rfl rfl rfl 24 #[.int .i64 0, .int .i64 0, .int .i64 0, .int .i64 0, .int .i64 0, .int .i64 0, .int .i64 0, .int .i64 0, .int .i64 0, .bool false] #[.int .i64 g.pl, .int .i64 g.st, .int .i64 g.nx, .int .i64 g.ph, .int .i64 g.t, .int .i64 g.hd, .int .i64 g.hl, .int .i64 g.ak, .int .i64 g.wt, .bool g.sp] HBK.out info_sig (by simp) (one_sig _ _ _ _ _ _ _ _ _ _) rfl rfl ?_
          intro y3 hgk hbk hzk
          have hS3 : Below wr.heap.size wr y3 := Below.grows hS2 hgk hS2.size (by first | exact Nat.le_refl _ | exact hS1.size | exact hSd.size | omega)
          have HBA := Lib.hid (show BoxG y3 y1.heap.size g from hbk)
          clear hgk hbk hzk
          refine hKq.out _ _ hS3 (fun hHeld0 => ?_)
          clear hKq Kq hHeld
          have hHeld := hHeld0
          clear hHeld0
          try simp only [PT]
          refine tk 18 (.int .i64 er) hHeld (fun w => ?_) ?_
          · (go_simp; try rfl)
          simp only [PT]
          refine wpAnyH_done (by kernel_rfl) ?_ _
          clear hHeld
          obtain ⟨W6, hW6⟩ : ∃ W, y3 = W := ⟨_, rfl⟩
          have hb6 := hS3
          rw [hW6] at hb6 HBA ⊢
          obtain ⟨ba, hba⟩ : ∃ b : Nat, y1.heap.size = b := ⟨_, rfl⟩
          rw [hba] at HBA ⊢
          clear hW6 hba
          have hs6 := (hb6.block w.heap.size (by omega)).trans hbx
          have hr6 := (hb6.block (w.heap.size + 1) (by omega)).trans hr0
          have hn6 : w.heap.size + 1 < W6.heap.size := Nat.lt_of_lt_of_le hn2 hb6.size
          have HB6 := Lib.hid (HBW.out.trans (hb6.mono HBW.out.size))
          have HO6 := Lib.hid (HO.out.below hb6)
          obtain ⟨d0, d1, d2, d3, d4, d5, d6, d7, d8, d9⟩ := HBA.out.cells
          have HA6 := Lib.hid (HAT.out.below hb6)
          clear hb6
          go_wp2_with (first
            | ((with_reducible refine wpList_store_part rfl 24 _ _ rfl w.heap.size 0 (.agg #[.int .i64 g.pl, .int .i64 g.st, .int .i64 g.nx, .int .i64 g.ph, .int .i64 g.t, .int .i64 g.hd, .int .i64 g.hl, .int .i64 g.ak, .int .i64 g.wt, .bool g.sp]) #[.int .i64 g.pl, .int .i64 g.st, .int .i64 g.nx, .int .i64 g.ph, .int .i64 g.t, .int .i64 g.hd, .int .i64 g.hl, .int .i64 g.ak, .int .i64 g.wt, .bool g.sp] ?hx7 ?hy7 ?hv7 24 #[.int .i64 u.pl, .int .i64 u.st, .int .i64 u.nx, .int .i64 u.ph, .int .i64 u.t, .int .i64 u.hd, .int .i64 u.hl, .int .i64 u.ak, .int .i64 u.wt, .bool u.sp] #[.int .i64 g.pl, .int .i64 g.st, .int .i64 g.nx, .int .i64 g.ph, .int .i64 g.t, .int .i64 g.hd, .int .i64 g.hl, .int .i64 g.ak, .int .i64 g.wt, .bool g.sp] hs6 ?hi7 ?hl7 ?ho7 ?hn7 ?_); (case hx7 => rfl); (case hy7 => rfl); (case hv7 => rfl); (case hi7 => exact info_sig); (case hl7 => simp); (case ho7 => exact one_sig _ _ _ _ _ _ _ _ _ _); (case hn7 => rfl)
               intro w7 hg7 hs7 hz7
               have hr7 := (other_block hg7 (show w.heap.size + 1 ≠ w.heap.size by omega) (by omega)).trans hr6
               have hn7 : w.heap.size + 1 < w7.heap.size := by omega
               have HO7 := Lib.hid (HO6.out.far hg7 (by
                 rcases hq : Value.ownBlock _ with _ | k
                 · exact .inl rfl
                 · exact .inr (ne_some (by have := (HO6.out.size k hq).1; omega))))
               have HB7 := Lib.hid (Below.grows HB6.out hg7 HB6.out.size (Nat.le_refl _))
               have HA7 := Lib.hid (HA6.out.low hg7 (by omega) hz7)
               clear hg7 hz7))
          go_roundw
          case rel => exact ⟨j + 1, rows, by omega, by go_num, HO7.out, HA7.out, by rw [HRE.out, HRW.out], by rw [HNG.out]; exact hs7, hr7, HB7.out⟩
          case measure => simp [intOf]; omega
        · go_simp
          obtain ⟨y1, hYn⟩ : ∃ Y, y0.alloc (.cells #[.int .i64 0, .int .i64 0, .int .i64 0, .int .i64 0, .int .i64 0, .int .i64 0, .int .i64 0, .int .i64 0, .int .i64 0, .bool false] 24) = Y := ⟨_, rfl⟩
          have hbx : Below y0.heap.size y0 y1 := by rw [← hYn]; exact one_alloc _ _
          have hS1 : Below wr.heap.size wr y1 := hSd.trans (hbx.mono hSd.size)
          have HBK := Lib.hid (show BoxG y1 y0.heap.size ⟨0, 0, 0, 0, 0, 0, 0, 0, 0, false⟩ from by rw [← hYn]; exact BoxG.new y0 ⟨0, 0, 0, 0, 0, 0, 0, 0, 0, false⟩)
          rw [hYn]
          clear hYn
          clear hbx
          refine hKq.out _ _ hS1 (fun hHeld0 => ?_)
          clear hKq Kq hHeld
          have hHeld := hHeld0
          clear hHeld0
          try simp only [PT]
          refine one_step 12 (by kernel_rfl) rfl (fun Kq hKq => ?_)
          go_simp
          go_at_call 13
          (with_reducible refine (HDJ.out _ (HBW.out.trans (hS1.mono HBW.out.size))).mono ?_)
          rintro e y2 ⟨rfl, hbx⟩
          try simp only [sgV]
          have hS2 : Below wr.heap.size wr y2 := hS1.trans (hbx.mono hS1.size)
          have HBK := Lib.hid (HBK.out.below hbx)
          clear hbx
          refine hKq.out _ _ hS2 (fun hHeld0 => ?_)
          clear hKq Kq hHeld
          have hHeld := hHeld0
          clear hHeld0
          try simp only [PT]
          refine tk 13 (.tuple #[.agg #[.int .i64 g.pl, .int .i64 g.st, .int .i64 g.nx, .int .i64 g.ph, .int .i64 g.t, .int .i64 g.hd, .int .i64 g.hl, .int .i64 g.ak, .int .i64 g.wt, .bool g.sp], .int .i64 er]) hHeld (fun w => ?_) ?_
          · (go_simp; try rfl)
          simp only [PT]
          refine tk 14 (.agg #[.int .i64 g.pl, .int .i64 g.st, .int .i64 g.nx, .int .i64 g.ph, .int .i64 g.t, .int .i64 g.hd, .int .i64 g.hl, .int .i64 g.ak, .int .i64 g.wt, .bool g.sp]) hHeld (fun w => ?_) ?_
          · (go_simp; try rfl)
          simp only [PT]
          refine tk 15 (.int .i64 er) hHeld (fun w => ?_) ?_
          · (go_simp; try rfl)
          simp only [PT]
          refine one_step 17 (by kernel_rfl) rfl (fun Kq hKq => ?_)
          refine step_store_part 24 _ _ rfl y0.heap.size 0 (.agg #[.int .i64 g.pl, .int .i64 g.st, .int .i64 g.nx, .int .i64 g.ph, .int .i64 g.t, .int .i64 g.hd, .int .i64 g.hl, .int .i64 g.ak, .int .i64 g.wt, .bool g.sp]) #[.int .i64 g.pl, .int .i64 g.st, .int .i64 g.nx, .int .i64 g.ph, .int .i64 g.t, .int .i64 g.hd, .int .i64 g.hl, .int .i64 g.ak, .int .i64 g.wt, .bool g.sp] rfl rfl rfl 24 #[.int .i64 0, .int .i64 0, .int .i64 0, .int .i64 0, .int .i64 0, .int .i64 0, .int .i64 0, .int .i64 0, .int .i64 0, .bool false] #[.int .i64 g.pl, .int .i64 g.st, .int .i64 g.nx, .int .i64 g.ph, .int .i64 g.t, .int .i64 g.hd, .int .i64 g.hl, .int .i64 g.ak, .int .i64 g.wt, .bool g.sp] HBK.out info_sig (by simp) (one_sig _ _ _ _ _ _ _ _ _ _) rfl rfl ?_
          intro y3 hgk hbk hzk
          have hS3 : Below wr.heap.size wr y3 := Below.grows hS2 hgk hS2.size (by first | exact Nat.le_refl _ | exact hS1.size | exact hSd.size | omega)
          have HBA := Lib.hid (show BoxG y3 y0.heap.size g from hbk)
          clear hgk hbk hzk
          refine hKq.out _ _ hS3 (fun hHeld0 => ?_)
          clear hKq Kq hHeld
          have hHeld := hHeld0
          clear hHeld0
          try simp only [PT]
          refine tk 18 (.int .i64 er) hHeld (fun w => ?_) ?_
          · (go_simp; try rfl)
          simp only [PT]
          refine wpAnyH_done (by kernel_rfl) ?_ _
          clear hHeld
          obtain ⟨W6, hW6⟩ : ∃ W, y3 = W := ⟨_, rfl⟩
          have hb6 := hS3
          rw [hW6] at hb6 HBA ⊢
          obtain ⟨ba, hba⟩ : ∃ b : Nat, y0.heap.size = b := ⟨_, rfl⟩
          rw [hba] at HBA ⊢
          clear hW6 hba
          have hs6 := (hb6.block w.heap.size (by omega)).trans hbx
          have hr6 := (hb6.block (w.heap.size + 1) (by omega)).trans hr0
          have hn6 : w.heap.size + 1 < W6.heap.size := Nat.lt_of_lt_of_le hn2 hb6.size
          have HB6 := Lib.hid (HBW.out.trans (hb6.mono HBW.out.size))
          have HO6 := Lib.hid (HO.out.below hb6)
          obtain ⟨d0, d1, d2, d3, d4, d5, d6, d7, d8, d9⟩ := HBA.out.cells
          have HA6 := Lib.hid (HAT.out.below hb6)
          clear hb6
          go_wp2_with (first
            | ((with_reducible refine wpList_store_part rfl 24 _ _ rfl w.heap.size 0 (.agg #[.int .i64 g.pl, .int .i64 g.st, .int .i64 g.nx, .int .i64 g.ph, .int .i64 g.t, .int .i64 g.hd, .int .i64 g.hl, .int .i64 g.ak, .int .i64 g.wt, .bool g.sp]) #[.int .i64 g.pl, .int .i64 g.st, .int .i64 g.nx, .int .i64 g.ph, .int .i64 g.t, .int .i64 g.hd, .int .i64 g.hl, .int .i64 g.ak, .int .i64 g.wt, .bool g.sp] ?hx7 ?hy7 ?hv7 24 #[.int .i64 u.pl, .int .i64 u.st, .int .i64 u.nx, .int .i64 u.ph, .int .i64 u.t, .int .i64 u.hd, .int .i64 u.hl, .int .i64 u.ak, .int .i64 u.wt, .bool u.sp] #[.int .i64 g.pl, .int .i64 g.st, .int .i64 g.nx, .int .i64 g.ph, .int .i64 g.t, .int .i64 g.hd, .int .i64 g.hl, .int .i64 g.ak, .int .i64 g.wt, .bool g.sp] hs6 ?hi7 ?hl7 ?ho7 ?hn7 ?_); (case hx7 => rfl); (case hy7 => rfl); (case hv7 => rfl); (case hi7 => exact info_sig); (case hl7 => simp); (case ho7 => exact one_sig _ _ _ _ _ _ _ _ _ _); (case hn7 => rfl)
               intro w7 hg7 hs7 hz7
               have hr7 := (other_block hg7 (show w.heap.size + 1 ≠ w.heap.size by omega) (by omega)).trans hr6
               have hn7 : w.heap.size + 1 < w7.heap.size := by omega
               have HO7 := Lib.hid (HO6.out.far hg7 (by
                 rcases hq : Value.ownBlock _ with _ | k
                 · exact .inl rfl
                 · exact .inr (ne_some (by have := (HO6.out.size k hq).1; omega))))
               have HB7 := Lib.hid (Below.grows HB6.out hg7 HB6.out.size (Nat.le_refl _))
               have HA7 := Lib.hid (HA6.out.low hg7 (by omega) hz7)
               clear hg7 hz7))
          go_roundw
          case rel => exact ⟨j + 1, rows, by omega, by go_num, HO7.out, HA7.out, by rw [HRE.out, HRW.out], by rw [HNG.out]; exact hs7, hr7, HB7.out⟩
          case measure => simp [intOf]; omega
    · obtain rfl : j = m := by omega
      have hge : ¬ ((j : Int) < j) := by omega
      obtain ⟨u, hu⟩ : ∃ u, T j = u := ⟨_, rfl⟩
      rw [hu] at hbx
      have HU := Lib.hid hu
      obtain ⟨c0, c1, c2, c3, c4, c5, c6, c7, c8, c9⟩ := hbx.cells
      obtain ⟨A2, n2, d2, rfl, hrs⟩ := hown.rws
      have hr1 := hr0
      have HB1 := Lib.hid hbw
      clear hown hat hrw hbw hu
      go_wp2_with (first
    | ((with_reducible refine wpList_store_part rfl 24 _ _ rfl (w.heap.size + 1) 0 (.agg #[.int .i64 u.pl, .int .i64 u.st, .int .i64 u.nx, .int .i64 u.ph, .int .i64 u.t, .int .i64 u.hd, .int .i64 u.hl, .int .i64 u.ak, .int .i64 u.wt, .bool u.sp]) #[.int .i64 u.pl, .int .i64 u.st, .int .i64 u.nx, .int .i64 u.ph, .int .i64 u.t, .int .i64 u.hd, .int .i64 u.hl, .int .i64 u.ak, .int .i64 u.wt, .bool u.sp] ?hx9 ?hy9 ?hv9 24 #[.int .i64 0, .int .i64 0, .int .i64 0, .int .i64 0, .int .i64 0, .int .i64 0, .int .i64 0, .int .i64 0, .int .i64 0, .bool false] #[.int .i64 u.pl, .int .i64 u.st, .int .i64 u.nx, .int .i64 u.ph, .int .i64 u.t, .int .i64 u.hd, .int .i64 u.hl, .int .i64 u.ak, .int .i64 u.wt, .bool u.sp] hr1 ?hi9 ?hl9 ?ho9 ?hn9 ?_); (case hx9 => rfl); (case hy9 => rfl); (case hv9 => rfl); (case hi9 => exact info_sig); (case hl9 => simp); (case ho9 => exact one_sig _ _ _ _ _ _ _ _ _ _); (case hn9 => rfl)
       intro w9 hg9 hr9 hz9
       have HB9 := Lib.hid (Below.grows HB1.out hg9 HB1.out.size (by omega))
       have HR9 := Lib.hid (hrs.grown hg9 (fun b o e => ne_some (by have := (HO.out.size b (by rw [e]; rfl)).1; omega)))
       have HA9 := Lib.hid (HAT.out.low hg9 (by omega) hz9)
       clear hg9))
      refine bodyPost_ret (v := .tuple #[.agg #[.int .i64 u.pl, .int .i64 u.st, .int .i64 u.nx, .int .i64 u.ph, .int .i64 u.t, .int .i64 u.hd, .int .i64 u.hl, .int .i64 u.ak, .int .i64 u.wt, .bool u.sp], .slice A2 n2 d2]) ?_ rfl ⟨A2, n2, d2, rows, by rw [HU.out]; rfl, ⟨HR9.out, HA9.out.its⟩, HRW.out, HB9.out⟩
      exact results_blk_val Try.results17 _ _ _ (w.heap.size + 1) 24 #[.int .i64 u.pl, .int .i64 u.st, .int .i64 u.nx, .int .i64 u.ph, .int .i64 u.t, .int .i64 u.hd, .int .i64 u.hl, .int .i64 u.ak, .int .i64 u.wt, .bool u.sp] (0, 0) _ rfl hr9 Try.underlying24 rfl info_sig _ rfl
end Go.Proofs.Ytgnhmdfajnnkhaa


/- The walk over the document's Errs: are two lists of errors the same? -/
namespace Go.Proofs.Ytgnhmdfajnnkhaa
set_option maxRecDepth 100000
set_option linter.unusedVariables false
set_option linter.unusedSimpArgs false
open Go.RowKit

set_option maxHeartbeats 1000000 in
/-- are two lists of errors the same? -/
theorem errs_any (A B : Option Addr) (n c m d : Nat) (a b : List Int) (w : World) (ha : Its .i64 w A n c a) (hb : Its .i64 w B m d b) :
    Calls Try.prog 18 #[.slice A n c, .slice B m d] w fun e w' => e = .returned (.bool (a == b)) ∧ ∃ j, w' = w.drewN j := by
  have hna := ha.small
  have hmb := hb.small
  by_cases hnm : n = m
  · subst hnm
    have hne : ((n : Int) != (n : Int)) = false := by simp
    have HAL := Lib.hid ha.len
    have HBL := Lib.hid hb.len
    go_enter Try.func18, Try.ntmps18
    go_wp2
    go_loopw [5] (fun i wr => ∃ k : Nat, k ≤ n ∧ i = .int .i64 k ∧ (∀ j, j < k → a.getD j 0 = b.getD j 0) ∧ ∃ j, wr = w.drewN j) (fun i _ => n - (intOf i).toNat)
    case atStart => exact ⟨0, by omega, rfl, (fun j hj => by omega), 0, rfl⟩
    case round =>
      obtain ⟨k, hk, rfl, hsame, j, rfl⟩ := hrel
      have HS := Lib.hid hsame
      clear hsame
      by_cases hlt : k < n
      · obtain ⟨ba, oa, rfl, hca⟩ := ha.at_ (by omega)
        obtain ⟨bb, ob, rfl, hcb⟩ := hb.at_ (by omega)
        have hxa := hca k hlt
        have hxb := hcb k hlt
        obtain ⟨x, hx⟩ : ∃ x, x = a.getD k 0 := ⟨_, rfl⟩
        obtain ⟨y, hy⟩ : ∃ y, y = b.getD k 0 := ⟨_, rfl⟩
        rw [← hx] at hxa
        rw [← hy] at hxb
        have hp0 : 0 ≤ (k : Int) := by omega
        have hp1 : (k : Int) < n := by omega
        by_cases hxy : x = y
        · subst hxy
          have hne2 : (x != x) = false := by simp
          have hnext : ∀ j, j < k + 1 → a.getD j 0 = b.getD j 0 := fun j hj => by
            by_cases e : j = k
            · rw [e, ← hx, ← hy]
            · exact HS.out j (by omega)
          have HN := Lib.hid hnext
          clear hx hy hnext hca hcb
          go_wp2
          go_quiet (fail)
          go_wp2
          go_roundw
          case rel => exact ⟨k + 1, by omega, by go_num, HN.out, _, rfl⟩
          case measure => simp [intOf]; omega
        · have hne2 : (x != y) = true := by rw [bne_iff_ne]; exact hxy
          have hres : false = (a == b) := (ints_differ a b k (by rw [← hx, ← hy]; exact hxy)).symm
          have HR := Lib.hid hres
          clear hx hy hres hxy hca hcb
          go_wp2
          go_quiet (fail)
          go_wp2
          go_ret
          exact ⟨congrArg (fun b => Ending.returned (Value.bool b)) HR.out, _, World.drewN_drewN _ _ _⟩
      · have hkn : k = n := by omega
        subst hkn
        have hge : ¬ ((k : Int) < k) := by omega
        have hres : true = (a == b) := (ints_same a b k HAL.out HBL.out HS.out).symm
        have HR := Lib.hid hres
        clear hres
        go_wp2
        go_ret
        exact ⟨congrArg (fun b => Ending.returned (Value.bool b)) HR.out, _, rfl⟩
  · have hne : ((n : Int) != (m : Int)) = true := by rw [bne_iff_ne]; omega
    have hres : false = (a == b) := by
      rw [eq_comm, beq_eq_false_iff_ne]
      rintro rfl
      exact hnm (ha.len.symm.trans hb.len)
    have HR := Lib.hid hres
    clear hres hnm
    go_enter Try.func18, Try.ntmps18
    go_wp2
    go_ret
    exact ⟨congrArg (fun b => Ending.returned (Value.bool b)) HR.out, 0, rfl⟩
end Go.Proofs.Ytgnhmdfajnnkhaa


/- A literal of rows. -/
namespace Go.Proofs.Ytgnhmdfajnnkhaa
set_option maxRecDepth 100000
set_option linter.unusedVariables false
set_option linter.unusedSimpArgs false
open Go.RowKit

/-- a literal of rows -/
theorem lit_rws (k : Nat) (e : TypeId) (w : World) (cs : Array Value) (rows : List (List Value)) (n : Nat) (hcs : cs = rows.flatten.toArray) (hn : rows.length = n) (hw : ∀ r ∈ rows, r.length = k) (h1 : ∀ r ∈ rows, ∀ u ∈ r, u.oneCell' = true) (hm : n ≤ maxLen) :
    Rws k (w.alloc (.cells cs e)) (some ⟨w.heap.size, 0, none⟩) n n rows := by
  subst hcs
  refine ⟨hn, hw, h1, Nat.le_refl _, hm, (fun e => by cases e), fun _ => ⟨w.heap.size, 0, rfl, fun j hj i hi => ?_⟩⟩
  rw [Nat.zero_add, cell_of_row _ _ _ _ _ _ (heap_alloc_new w _), List.getElem?_toArray, flat_get hw j i (by omega) hi]
end Go.Proofs.Ytgnhmdfajnnkhaa

