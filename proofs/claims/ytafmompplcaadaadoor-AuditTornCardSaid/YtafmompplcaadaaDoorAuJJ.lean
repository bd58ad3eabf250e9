/- Joined texts: The walks over package chain's Read, Verify and Clash. The walks over package entry's Same. The laws' own test: has a log few entries, and few bytes? The walk over the law AuditTorn: behind a crash in the midst of adding a log is as it was, or has that entry. The walk over the document's May of a log. The walks over the document's slots and Room of a log. The walks over package store's done, for each method. -/
import Derived.Test.YtafmompplcaadaaDoorAuJH
import Derived.Test.YtafmompplcaadaaDoorAuJI
import Derived.Test.YtafmompplcaadaaDoorAuJG
import Derived.Test.YtafmompplcaadaaDoorAuJF
/- The walks over package chain's Read, Verify and Clash. -/
namespace Go.Proofs.YtafmompplcaadaaDoor
set_option maxRecDepth 100000
set_option linter.unusedVariables false
set_option linter.unusedSimpArgs false
open Go.RowKit

theorem reads_len {b : List Int} (hb : ∀ x ∈ b, 0 ≤ x ∧ x < 256) : headB (b.take (62 * (readC b).length)) = headC (readC b) := by
  rw [← (reads_all hb).2.1, headB_recs]
set_option maxHeartbeats 2000000 in
theorem creadl_any (A : Option Addr) (n c : Nat) (b : List Int) (w : World) (hK : KTab w) (hb : Bts w A n c b) :
    Calls Tryd.prog 17 #[.slice A n c] w (GRl (readC b) (headC (readC b)) (readC b).length w) := by
  have hn := hb.small
  have hro := readC_room b
  have hrl := readC_le b
  have hbl := hb.len
  have HRD := Lib.hid (fun (W : World) (hk : KTab W) (h : Bts W A n c b) => cread0_any A n c b W hk h)
  have hrh := reads_len (bytes_mem hb.ok)
  obtain ⟨hcut, hbt⟩ := run_to hb (((readC b).length : Int) * 62) (hi := 62 * (readC b).length) (by omega) (by omega)
  obtain ⟨R, hR⟩ : ∃ R, readC b = R := ⟨_, rfl⟩
  rw [hR] at HRD hro hrl hrh hcut hbt ⊢
  obtain ⟨E, hE⟩ : ∃ E, errC b = E := ⟨_, rfl⟩
  rw [hE] at HRD
  obtain ⟨Z, hZ⟩ : ∃ Z, headC R = Z := ⟨_, rfl⟩
  have HZL := Lib.hid (show Z.length = 32 by rw [← hZ]; exact headC_len _)
  rw [hZ] at hrh ⊢
  have HBT := Lib.hid hbt
  have HHD := Lib.hid (fun (W : World) (hk : KTab W) (hW : Below w.heap.size w W) => cheadof_any A (62 * R.length) c _ W hk (hbt.below hW) (by omega))
  rw [hrh] at HHD
  have HD := Lib.hid hb
  have HK := Lib.hid hK
  have hw0 : IntKind.i64.wrap ((R.length : Int) * 62) = (R.length : Int) * 62 := by rw [IntKind.wrap_i64]; omega
  clear hb hR hE hZ hbt hrh hK hbl
  go_enter Tryd.func17, Tryd.ntmps17
  go_wp2_with (first
    | (go_at_call 30; (with_reducible refine (HRD.out _ (HK.out.from (one_alloc w _)) (HD.out.more _)).mono ?_); rintro e w1 ⟨A5, n5, c5, rfl, hen, hown, hb1⟩
       obtain ⟨hb0, -, hz1⟩ := after_one hb1
       have hz1 : RowB w1 w.heap.size 27 noughtsC := hz1
       have hn5 : R.length = n5 := hen.len
       subst hn5
       have HB1 := Lib.hid hb0
       have hown1 := Lib.hid hown
       rw [size_next] at hown1
       clear hb1 hb0 hen hown)
    | (go_at_call 31; (with_reducible refine (HHD.out _ (HK.out.from HB1.out) HB1.out).mono ?_); rintro e w2 ⟨rfl, hb2⟩
       have hz2 := hz1.keep hb2
       have hown2 := Lib.hid (hown1.out.below hb2)
       have HB2 := Lib.hid (HB1.out.trans (hb2.mono HB1.out.size))
       clear hb2 hz1 hown1)
    | ((with_reducible refine wpList_store_blk rfl 27 _ _ rfl w.heap.size (idv Z) ?hx7 ?hy7 27 _ hz2.is (info32 HZL.out) ?hs7 (idv_one _) ?_); (case hx7 => rfl); (case hy7 => rfl); (case hs7 => rw [idv_size, idv_size, HZL.out]; rfl)
       intro w7 hg7 hX7 hs7))
  have hown7 := hown2.out.far hg7 (ownr_far hown2.out (Nat.lt_succ_self _))
  obtain ⟨A6, n6, c6, he6, hen6⟩ := own_ens hown7
  cases he6
  refine bodyPost_ret (v := .tuple #[.slice A5 R.length c5, .agg (idv Z), .int .i64 ((R.length : Int) * 62)]) ?_ rfl ⟨A5, R.length, c5, by rw [Int.mul_comm], hen6, fun a ha => Nat.le_trans (Nat.le_succ _) (ownr_loc hown7 a ha), ?_⟩
  · exact results_tct Tryd.results17 _ _ _ w.heap.size 27 _ (0, 0) _ rfl hX7 Tryd.underlying27 rfl (info32 HZL.out) _ _ rfl rfl
  · exact HB2.out.grown hg7 HB2.out.size (fun k e => by cases e; exact Nat.le_refl _)
theorem cread_any (A : Option Addr) (n c : Nat) (b : List Int) (w : World) (hK : KTab w) (hb : Bts w A n c b) :
    Calls Tryd.prog 17 #[.slice A n c] w (GRd (readC b) (headC (readC b)) (readC b).length w) :=
  (creadl_any A n c b w hK hb).mono fun e w' ⟨A, n, c, he, h1, _, h2⟩ => ⟨A, n, c, he, h1, h2⟩
theorem ver_all {b : List Int} (hb : ∀ x ∈ b, 0 ≤ x ∧ x < 256) (he : errC b = 0) : headB b = headC (readC b) := by
  have h := (err_ok b).1 he
  have h2 := reads_len hb
  rwa [h, List.take_length] at h2
end Go.Proofs.YtafmompplcaadaaDoor

/- The walks over package entry's Same. -/
namespace Go.Proofs.YtafmompplcaadaaDoor
set_option linter.unusedVariables false
set_option linter.unusedSimpArgs false
open Go.RowKit

set_option maxHeartbeats 2000000 in
theorem eequal_any (A : Option Addr) (n c : Nat) (l : List En) (B : Option Addr) (m d : Nat) (l2 : List En) (w : World) (hl : Ens w A n c l) (hm : Ens w B m d l2) :
    Calls Tryd.prog 28 #[.slice A n c, .slice B m d] w (GBe (sameE l l2) w) := by
  have hn := hl.small
  have hn2 := hm.small
  have HL := Lib.hid hl.len
  have HL2 := Lib.hid hm.len
  by_cases hmm : n = m
  · subst hmm
    have hne : ((n : Int) != (n : Int)) = false := by simp
    go_enter Tryd.func28, Tryd.ntmps28
    go_wp2
    go_loopw [5, 13] (fun x v wr => ∃ j : Nat, j ≤ n ∧ v = .int .i64 j ∧ l.take j = l2.take j ∧ Below w.heap.size w wr) (fun x v _ => n - (intOf v).toNat)
    case atStart => exact ⟨0, Nat.zero_le _, rfl, by simp, Below.refl _ _⟩
    case round =>
      obtain ⟨j, hj, rfl, hsm, hbw⟩ := hrel
      have HBW := Lib.hid hbw
      by_cases hlt : j < n
      · obtain ⟨b, off, u, rfl, hu, hr1⟩ := (hl.below hbw).range j hlt
        obtain ⟨b2, off2, v, rfl, hv, hr2⟩ := (hm.below hbw).range j hlt
        have HNX := Lib.hid (same_take hu hv hsm)
        have HST := Lib.hid (same_stop hu hv)
        have R1 := Lib.hid hr1
        have R2 := Lib.hid hr2
        have q0 : 0 ≤ (j : Int) := by omega
        have q1 : (j : Int) < n := by omega
        clear hbw hsm hu hv hr1 hr2
        go_wp2
        obtain ⟨Y0, hY0⟩ : ∃ Y, wr.drew = Y := ⟨_, rfl⟩
        have HB0 := Lib.hid (show Below w.heap.size w Y0 by rw [← hY0]; exact HBW.out.drew)
        refine wp_region_held_drew (S := (fun w' => w'.rangeAt b (off + j * 9) u.row ∧ w'.rangeAt b2 (off2 + j * 9) v.row)) (by kernel_rfl) ⟨R1.out, R2.out⟩ (fun hHeld => ?_)
        rw [hY0] at hHeld ⊢
        clear hY0
        refine take_move 0 (.tmp 0) (.slice (some ⟨b, off, none⟩) n c) rfl rfl rfl (by kernel_rfl) (by kernel_rfl) (by kernel_rfl) (fun _ _ _ h => h) rfl hHeld ?_
        simp only [Act.put, List.setIfInBounds_toArray, List.set_cons_zero, List.set_cons_succ]
        refine take_move 1 (.tmp 5) (.int .i64 j) rfl rfl rfl (by kernel_rfl) (by kernel_rfl) (by kernel_rfl) (fun _ _ _ h => h) rfl hHeld ?_
        simp only [Act.put, List.setIfInBounds_toArray, List.set_cons_zero, List.set_cons_succ]
        refine take_run 2 (.pointer (some ⟨b, off + j * 9, none⟩)) rfl (by kernel_rfl) (by kernel_rfl) (by kernel_rfl) (fun _ _ _ h => h) rfl hHeld (fun w => ?_) ?_
        · go_simp
        simp only [Act.put, List.setIfInBounds_toArray, List.set_cons_zero, List.set_cons_succ]
        refine take_if 3 (.agg (enA u)) rfl (by kernel_rfl) (by kernel_rfl) (by kernel_rfl) (fun _ _ _ h => h) rfl hHeld (fun w' hw' => ?_) ?_
        · exact run_load_en rfl rfl hw'.1
        simp only [Act.put, List.setIfInBounds_toArray, List.set_cons_zero, List.set_cons_succ]
        refine take_move 4 (.tmp 1) (.slice (some ⟨b2, off2, none⟩) n d) rfl rfl rfl (by kernel_rfl) (by kernel_rfl) (by kernel_rfl) (fun _ _ _ h => h) rfl hHeld ?_
        simp only [Act.put, List.setIfInBounds_toArray, List.set_cons_zero, List.set_cons_succ]
        refine take_move 5 (.tmp 5) (.int .i64 j) rfl rfl rfl (by kernel_rfl) (by kernel_rfl) (by kernel_rfl) (fun _ _ _ h => h) rfl hHeld ?_
        simp only [Act.put, List.setIfInBounds_toArray, List.set_cons_zero, List.set_cons_succ]
        refine take_run 6 (.pointer (some ⟨b2, off2 + j * 9, none⟩)) rfl (by kernel_rfl) (by kernel_rfl) (by kernel_rfl) (fun _ _ _ h => h) rfl hHeld (fun w => ?_) ?_
        · go_simp
        simp only [Act.put, List.setIfInBounds_toArray, List.set_cons_zero, List.set_cons_succ]
        refine take_if 7 (.agg (enA v)) rfl (by kernel_rfl) (by kernel_rfl) (by kernel_rfl) (fun _ _ _ h => h) rfl hHeld (fun w' hw' => ?_) ?_
        · exact run_load_en rfl rfl hw'.2
        simp only [Act.put, List.setIfInBounds_toArray, List.set_cons_zero, List.set_cons_succ]
        refine take_run 8 (.bool (!decide (u = v))) rfl (by kernel_rfl) (by kernel_rfl) (by kernel_rfl) (fun _ _ _ h => h) rfl hHeld (fun w => ?_) ?_
        · exact run_eq_en rfl rfl rfl (.inr ⟨rfl, rfl⟩) (eq_ens u v w)
        simp only [Act.put, List.setIfInBounds_toArray, List.set_cons_zero, List.set_cons_succ]
        refine wpAnyH_done (by kernel_rfl) ?_ _
        by_cases he : u = v
        · have hd : decide (u = v) = true := decide_eq_true he
          rw [hd]
          have HN2 := Lib.hid (HNX.out he)
          clear hd he HNX HST
          go_wp2
          go_roundw
          case rel => exact ⟨j + 1, by omega, by go_num, HN2.out, HB0.out⟩
          case measure => simp [intOf]; omega
        · have hd : decide (u = v) = false := decide_eq_false he
          rw [hd]
          have HS2 := Lib.hid (HST.out he)
          clear hd he HNX HST
          go_wp2
          go_ret
          exact ⟨by rw [HS2.out]; rfl, HB0.out⟩
      · obtain rfl : j = n := by omega
        rw [List.take_of_length_le (by rw [HL.out]; exact Nat.le_refl _), List.take_of_length_le (by rw [HL2.out]; exact Nat.le_refl _)] at hsm
        have HS := Lib.hid (show sameE l l2 = true by rw [sameE, decide_eq_true_eq]; exact hsm)
        clear hbw hsm
        go_wp2
        go_ret
        exact ⟨by rw [HS.out]; rfl, HBW.out⟩
  · have hne : ((n : Int) != (m : Int)) = true := by rw [bne_iff_ne]; omega
    have hr : false = sameE l l2 := (same_len (by rw [HL.out, HL2.out]; exact hmm)).symm
    have HR := Lib.hid hr
    clear hr
    go_enter Tryd.func28, Tryd.ntmps28
    go_wp2
    go_ret
    exact ⟨congrArg (fun b => Ending.returned (Value.bool b)) HR.out, Below.refl _ _⟩
theorem esame_any (A : Option Addr) (n c : Nat) (l : List En) (B : Option Addr) (m d : Nat) (l2 : List En) (w : World) (hl : Ens w A n c l) (hm : Ens w B m d l2) :
    Calls Tryd.prog 14 #[.slice A n c, .slice B m d] w (GBe (sameE l l2) w) := by
  have HC := Lib.hid (eequal_any A n c l B m d l2 w hl hm)
  obtain ⟨E, hE⟩ : ∃ E, sameE l l2 = E := ⟨_, rfl⟩
  rw [hE] at HC ⊢
  clear hl hm hE
  go_enter Tryd.func14, Tryd.ntmps14
  go_wp2_with (go_at_call 28; refine HC.out.mono ?_; rintro e w1 ⟨rfl, hb4⟩; have HB4 := Lib.hid hb4; clear hb4)
  go_ret
  exact ⟨rfl, HB4.out⟩
end Go.Proofs.YtafmompplcaadaaDoor

/- The laws' own test: has a log few entries, and few bytes? -/
namespace Go.Proofs.YtafmompplcaadaaDoor
set_option maxRecDepth 100000
set_option linter.unusedVariables false
set_option linter.unusedSimpArgs false
open Go.RowKit

def fewG (g : Lg) : Bool := decide (g.l.length ≤ 30) && decide (g.st.data.length ≤ 2500)
theorem few_sm {g : Lg} (h : fewG g = true) : LgSm g ∧ g.l.length ≤ 30 ∧ g.st.data.length ≤ 2500 := by
  rw [fewG, Bool.and_eq_true, decide_eq_true_eq, decide_eq_true_eq] at h
  exact ⟨⟨by omega, by omega⟩, h⟩
set_option maxHeartbeats 1000000 in
theorem afew_any (p : Lp) (g : Lg) (w : World) (h : LgAt w p g) : Calls Tryd.prog 9 #[.agg p.arr] w (GBe (fewG g) w) := by
  obtain ⟨x0, x1, x2, x3⟩ := lg_cells (heap_alloc_new w (.cells p.arr 29 (0, 0)))
  have HB0 := Lib.hid (one_alloc w (.cells p.arr 29 (0, 0)))
  have hn := h.data.small
  have hm := h.ents.small
  have h1 := h.ents.len
  have h2 := h.data.len
  by_cases q1 : (p.m : Int) ≤ 30
  · by_cases q2 : (p.n : Int) ≤ 2500
    · have HR := Lib.hid (show true = fewG g by rw [fewG, decide_eq_true (by omega), decide_eq_true (by omega)]; rfl)
      clear h h1 h2
      go_enter Tryd.func9, Tryd.ntmps9
      go_wp2
      go_ret
      exact ⟨ret_bool HR.out, HB0.out⟩
    · have HR := Lib.hid (show false = fewG g by rw [fewG, decide_eq_true (by omega : g.l.length ≤ 30), decide_eq_false (by omega)]; rfl)
      clear h h1 h2
      go_enter Tryd.func9, Tryd.ntmps9
      go_wp2
      go_ret
      exact ⟨ret_bool HR.out, HB0.out⟩
  · have HR := Lib.hid (show false = fewG g by rw [fewG, decide_eq_false (by omega : ¬ g.l.length ≤ 30)]; rfl)
    clear h h1 h2
    go_enter Tryd.func9, Tryd.ntmps9
    go_wp2
    go_ret
    exact ⟨ret_bool HR.out, HB0.out⟩
end Go.Proofs.YtafmompplcaadaaDoor

/- The walk over the law AuditTorn: behind a crash in the midst of adding a log is as it was, or has that entry. -/
namespace Go.Proofs.YtafmompplcaadaaDoor
set_option maxRecDepth 100000
set_option linter.unusedVariables false
set_option linter.unusedSimpArgs false
open Go.RowKit

theorem torn_sm {g : Lg} {e : En} {keep : Int} (h : mayG g = true) (hl : g.l.length ≤ 30) : (tornG g e keep).data.length ≤ 1000000 := by
  by_cases he : mayE e = true ∧ (g.l.length : Int) < slotsG g
  · obtain ⟨j, hj, h1, h2, -, -⟩ := torn_cases keep h he.1 he.2
    rw [hj]
    simp only [List.length_take]
    omega
  · have ht : tornG g e keep = g.st := by
      rw [tornG, if_neg]
      intro hc
      rw [Bool.and_eq_true, Bool.and_eq_true, decide_eq_true_eq] at hc
      exact he hc.2
    rw [ht]
    have := (mayG_len h).1
    omega
theorem add_sm {g : Lg} {e : En} {u : Bool} (h : mayG g = true) (hs : LgSm g) (hl : g.l.length ≤ 30) : LgSm (addG g e u).1 := by
  rcases add_cases (e := e) (u := u) h with ⟨-, h2⟩ | ⟨-, -, h2⟩ | ⟨-, -, -, h2⟩
  · rw [h2]; exact hs
  · rw [h2]; exact hs
  · rw [h2]
    obtain ⟨p1, -, -, -, p5, -⟩ := moreG_parts g e
    refine ⟨?_, ?_⟩
    · simp only; rw [p5]; omega
    · simp only; rw [p1]; omega
set_option maxHeartbeats 4000000 in
theorem atornw_few (HA : AudOk) (p : Lp) (g : Lg) (u : En) (keep : Int) (w : World) (hK : KTab w) (h : LgAt w p g) (hu : u.ok) (hf : fewG g = false) :
    Calls Tryd.prog 4 #[.agg p.arr, enV u, .int .i64 keep] w fun e w' => e = .returned (.bool true) ∧ Below w.heap.size w w' := by
  have HK := Lib.hid hK
  have HAW := Lib.hid (fun (X : World) (hk : KTab X) => aawake_any HA X hk)
  have HFW := Lib.hid (fun (X : World) (hX : Below w.heap.size w X) => afew_any p g X (h.below hX))
  have HW := Lib.hid h.whole
  simp only [hf] at HFW
  clear h hu hK HA hf
  unfold enV
  go_enter Tryd.func4, Tryd.ntmps4
  go_wp2_with (first
    | (go_at_call 8
       (with_reducible refine (HAW.out _ (HK.out.from (two_below w _ _))).mono ?_)
       rintro e w1 ⟨rfl, hb1⟩
       obtain ⟨hb0, hz1, y0, y1⟩ := after_two hb1
       have k0 : w1.heap[w.heap.size]? = some (.cells p.arr 29 (0, 0)) := y0
       have ke : w1.heap[w.heap.size + 1]? = some (.cells (enA u) 33 (0, 0)) := y1
       have HB1 := Lib.hid hb0
       clear hb1 hb0 y0 y1 hz1)
    | ((with_reducible refine wpList_load_blk 29 _ rfl w.heap.size ?hx1 29 p.arr (0, 0) _ k0 Tryd.underlying29 ?hd1 HW.out ?_ ?hw1); (case hx1 => rfl); (case hd1 => rfl); (case hw1 => rfl))
    | (go_at_call 9
       (with_reducible refine (HFW.out _ HB1.out).mono ?_)
       rintro e w2 ⟨rfl, hbx⟩
       have k0 := blk_below k0 hbx
       have ke := blk_below ke hbx
       have HB2 := Lib.hid (HB1.out.trans (hbx.mono HB1.out.size))
       clear hbx))
  go_ret
  exact ⟨rfl, HB2.out⟩
set_option maxHeartbeats 4000000 in
theorem atornw_may (HA : AudOk) (p : Lp) (g : Lg) (u : En) (keep : Int) (w : World) (hK : KTab w) (h : LgAt w p g) (hu : u.ok) (hf : fewG g = true) (hm : mayG g = false) :
    Calls Tryd.prog 4 #[.agg p.arr, enV u, .int .i64 keep] w fun e w' => e = .returned (.bool true) ∧ Below w.heap.size w w' := by
  have HK := Lib.hid hK
  have HAW := Lib.hid (fun (X : World) (hk : KTab X) => aawake_any HA X hk)
  have HFW := Lib.hid (fun (X : World) (hX : Below w.heap.size w X) => afew_any p g X (h.below hX))
  have HW := Lib.hid h.whole
  obtain ⟨hsm, hl30, hd25⟩ := few_sm hf
  simp only [hf] at HFW
  have HMY := Lib.hid (fun (X : World) (hk : KTab X) (hX : Below w.heap.size w X) => HA.may p g X hk (h.below hX) hsm)
  simp only [hm] at HMY
  clear h hu hK HA hf hm hsm hl30 hd25
  unfold enV
  go_enter Tryd.func4, Tryd.ntmps4
  go_wp2_with (first
    | (go_at_call 8
       (with_reducible refine (HAW.out _ (HK.out.from (two_below w _ _))).mono ?_)
       rintro e w1 ⟨rfl, hb1⟩
       obtain ⟨hb0, hz1, y0, y1⟩ := after_two hb1
       have k0 : w1.heap[w.heap.size]? = some (.cells p.arr 29 (0, 0)) := y0
       have ke : w1.heap[w.heap.size + 1]? = some (.cells (enA u) 33 (0, 0)) := y1
       have HB1 := Lib.hid hb0
       clear hb1 hb0 y0 y1 hz1)
    | ((with_reducible refine wpList_load_blk 29 _ rfl w.heap.size ?hx1 29 p.arr (0, 0) _ k0 Tryd.underlying29 ?hd1 HW.out ?_ ?hw1); (case hx1 => rfl); (case hd1 => rfl); (case hw1 => rfl))
    | (go_at_call 9
       (with_reducible refine (HFW.out _ HB1.out).mono ?_)
       rintro e w2 ⟨rfl, hbx⟩
       have k0 := blk_below k0 hbx
       have ke := blk_below ke hbx
       have HB2 := Lib.hid (HB1.out.trans (hbx.mono HB1.out.size))
       clear hbx)
    | (go_at_call 10
       (with_reducible refine (HMY.out _ (HK.out.from HB2.out) HB2.out).mono ?_)
       rintro e w3 ⟨rfl, hbx⟩
       have k0 := blk_below k0 hbx
       have ke := blk_below ke hbx
       have HB3 := Lib.hid (HB2.out.trans (hbx.mono HB2.out.size))
       clear hbx))
  go_ret
  exact ⟨rfl, HB3.out⟩
set_option maxHeartbeats 4000000 in
theorem atornw_err (HA : AudOk) (p : Lp) (g : Lg) (u : En) (keep : Int) (w : World) (hK : KTab w) (h : LgAt w p g) (hu : u.ok) (hf : fewG g = true) (hm : mayG g = true) (hd : ¬ (addG g u true).2 = 0) :
    Calls Tryd.prog 4 #[.agg p.arr, enV u, .int .i64 keep] w fun e w' => e = .returned (.bool true) ∧ Below w.heap.size w w' := by
  have HK := Lib.hid hK
  have HAW := Lib.hid (fun (X : World) (hk : KTab X) => aawake_any HA X hk)
  have HFW := Lib.hid (fun (X : World) (hX : Below w.heap.size w X) => afew_any p g X (h.below hX))
  have HW := Lib.hid h.whole
  obtain ⟨hsm, hl30, hd25⟩ := few_sm hf
  simp only [hf] at HFW
  have HMY := Lib.hid (fun (X : World) (hk : KTab X) (hX : Below w.heap.size w X) => HA.may p g X hk (h.below hX) hsm)
  simp only [hm] at HMY
  have hae := add_sm (e := u) (u := true) hm hsm hl30
  have hts := torn_sm (e := u) (keep := keep) hm hl30
  obtain ⟨t1, t2⟩ := torn_all_g (keep := keep) hm h.ok.each hu
  have hop := t1 (.inl hd)
  have HAD := Lib.hid (fun (X : World) (hk : KTab X) (hX : Below w.heap.size w X) => HA.add p g u true X hk (h.below hX) hsm hu)
  have HTO := Lib.hid (fun (X : World) (hk : KTab X) (hX : Below w.heap.size w X) => HA.torn p g u keep X hk (h.below hX) hsm hu)
  obtain ⟨T, hT⟩ : ∃ T, tornG g u keep = T := ⟨_, rfl⟩
  simp only [hT] at HTO hop hts
  have HOP := Lib.hid (fun (A : Option Addr) (n c : Nat) (X : World) (hk : KTab X) (hb : Bts X A n c T.data) => HA.open_ T A n c X hk hb (by have := hb.len; omega))
  rw [hop] at HOP
  obtain ⟨x, hx⟩ : ∃ x, (addG g u true).1 = x := ⟨_, rfl⟩
  obtain ⟨E, hE⟩ : ∃ x, (addG g u true).2 = x := ⟨_, rfl⟩
  have hpe : addG g u true = (x, E) := by rw [← hx, ← hE]
  simp only [hpe] at HAD
  rw [hx] at hae
  have HP := Lib.hid h
  rw [hE] at hd
  have HSM := Lib.hid (fun (q p : Lp) (X : World) (hk : KTab X) (h1 : LgAt X q g) (h2 : LgAt X p g) => HA.same q p g g X hk h1 h2 hsm hsm)
  rw [sameG_self] at HSM
  clear h hu hK HA hf hm hsm hl30 hd25 hae hts t1 t2 hop hT hx hE hpe
  unfold enV
  go_enter Tryd.func4, Tryd.ntmps4
  go_wp2_with (first
    | (go_at_call 8
       (with_reducible refine (HAW.out _ (HK.out.from (two_below w _ _))).mono ?_)
       rintro e w1 ⟨rfl, hb1⟩
       obtain ⟨hb0, hz1, y0, y1⟩ := after_two hb1
       have k0 : w1.heap[w.heap.size]? = some (.cells p.arr 29 (0, 0)) := y0
       have ke : w1.heap[w.heap.size + 1]? = some (.cells (enA u) 33 (0, 0)) := y1
       have HB1 := Lib.hid hb0
       clear hb1 hb0 y0 y1 hz1)
    | ((with_reducible refine wpList_load_blk 29 _ rfl w.heap.size ?hx1 29 p.arr (0, 0) _ k0 Tryd.underlying29 ?hd1 HW.out ?_ ?hw1); (case hx1 => rfl); (case hd1 => rfl); (case hw1 => rfl))
    | ((with_reducible refine wpList_load_blk 33 _ rfl (w.heap.size + 1) ?hx2 33 (enA u) (0, 0) _ ke Tryd.underlying33 ?hd2 (info_en (enA_size _)) ?_ ?hw2); (case hx2 => rfl); (case hd2 => rfl); (case hw2 => rfl))
    | (go_at_call 9
       (with_reducible refine (HFW.out _ HB1.out).mono ?_)
       rintro e w2 ⟨rfl, hbx⟩
       have k0 := blk_below k0 hbx
       have ke := blk_below ke hbx
       have HB2 := Lib.hid (HB1.out.trans (hbx.mono HB1.out.size))
       clear hbx)
    | (go_at_call 10
       (with_reducible refine (HMY.out _ (HK.out.from HB2.out) HB2.out).mono ?_)
       rintro e w3 ⟨rfl, hbx⟩
       have k0 := blk_below k0 hbx
       have ke := blk_below ke hbx
       have HB3 := Lib.hid (HB2.out.trans (hbx.mono HB2.out.size))
       clear hbx)
    | (go_at_call 11
       (with_reducible refine (HAD.out _ (HK.out.from HB3.out) HB3.out).mono ?_)
       rintro e w4 ⟨p1, rfl, hp1, hbx⟩
       have HP1 := Lib.hid hp1
       have k0 := blk_below k0 hbx
       have ke := blk_below ke hbx
       have HB4 := Lib.hid (HB3.out.trans (hbx.mono HB3.out.size))
       clear hp1 hbx)
    | ((with_reducible refine wpList_store_blk rfl 29 _ _ rfl w4.heap.size p1.arr ?hx31 ?hy31 29 _ (heap_alloc_new w4 _) HP1.out.whole ?hs31 (lp_one _) ?_); (case hx31 => rfl); (case hy31 => rfl); (case hs31 => exact (lp_size (p := Lp.zero) rfl).trans (lp_size HP1.out.hlen).symm)
       intro w5 hg k1 hs
       have hbx : Below w4.heap.size w4 w5 := Below.grows (one_alloc w4 _) hg (size_le_alloc _ _) (Nat.le_refl _)
       have k0 := blk_below k0 hbx
       have ke := blk_below ke hbx
       have HP1 := Lib.hid (HP1.out.below hbx)
       have HB5 := Lib.hid (HB4.out.trans (hbx.mono HB4.out.size))
       clear hbx hg hs)
    | (go_at_call 15
       (with_reducible refine (HTO.out _ (HK.out.from HB5.out) HB5.out).mono ?_)
       rintro e w6 ⟨A6, n6, c6, rfl, hbt, hbx⟩
       have HBT := Lib.hid hbt
       have k0 := blk_below k0 hbx
       have k1 := blk_below k1 hbx
       have HP1 := Lib.hid (HP1.out.below hbx)
       have HB6 := Lib.hid (HB5.out.trans (hbx.mono HB5.out.size))
       clear hbt hbx ke)
    | (go_at_call 12
       (with_reducible refine (HOP.out A6 n6 c6 _ (HK.out.from HB6.out) HBT.out).mono ?_)
       rintro e w7 ⟨p2, rfl, hp2, hbx⟩
       have HP2 := Lib.hid hp2
       have k0 := blk_below k0 hbx
       have k1 := blk_below k1 hbx
       have HP1 := Lib.hid (HP1.out.below hbx)
       have HB7 := Lib.hid (HB6.out.trans (hbx.mono HB6.out.size))
       clear hp2 hbx)
    | ((with_reducible refine wpList_store_blk rfl 29 _ _ rfl w7.heap.size p2.arr ?hx32 ?hy32 29 _ (heap_alloc_new w7 _) HP2.out.whole ?hs32 (lp_one _) ?_); (case hx32 => rfl); (case hy32 => rfl); (case hs32 => exact (lp_size (p := Lp.zero) rfl).trans (lp_size HP2.out.hlen).symm)
       intro w8 hg k2 hs
       have hbx : Below w7.heap.size w7 w8 := Below.grows (one_alloc w7 _) hg (size_le_alloc _ _) (Nat.le_refl _)
       have k0 := blk_below k0 hbx
       have k1 := blk_below k1 hbx
       have HP1 := Lib.hid (HP1.out.below hbx)
       have HP2 := Lib.hid (HP2.out.below hbx)
       have HB8 := Lib.hid (HB7.out.trans (hbx.mono HB7.out.size))
       clear hbx hg hs)
    | ((with_reducible refine wpList_load_blk 29 _ rfl w4.heap.size ?hx4 29 p1.arr (0, 0) _ k1 Tryd.underlying29 ?hd4 HP1.out.whole ?_ ?hw4); (case hx4 => rfl); (case hd4 => rfl); (case hw4 => rfl))
    | ((with_reducible refine wpList_load_blk 29 _ rfl w7.heap.size ?hx5 29 p2.arr (0, 0) _ k2 Tryd.underlying29 ?hd5 HP2.out.whole ?_ ?hw5); (case hx5 => rfl); (case hd5 => rfl); (case hw5 => rfl))
    | (go_at_call 13
       (with_reducible refine (HSM.out p2 p _ (HK.out.from HB8.out) HP2.out (HP.out.below HB8.out)).mono ?_)
       rintro e w9 ⟨rfl, hbx⟩
       have HB9 := Lib.hid (HB8.out.trans (hbx.mono HB8.out.size))
       clear hbx))
  go_ret
  exact ⟨rfl, HB9.out⟩
set_option maxHeartbeats 4000000 in
theorem atornw_low (HA : AudOk) (p : Lp) (g : Lg) (u : En) (keep : Int) (w : World) (hK : KTab w) (h : LgAt w p g) (hu : u.ok) (hf : fewG g = true) (hm : mayG g = true) (hd : (addG g u true).2 = 0) (hk : keep < 62) :
    Calls Tryd.prog 4 #[.agg p.arr, enV u, .int .i64 keep] w fun e w' => e = .returned (.bool true) ∧ Below w.heap.size w w' := by
  have HK := Lib.hid hK
  have HAW := Lib.hid (fun (X : World) (hk : KTab X) => aawake_any HA X hk)
  have HFW := Lib.hid (fun (X : World) (hX : Below w.heap.size w X) => afew_any p g X (h.below hX))
  have HW := Lib.hid h.whole
  obtain ⟨hsm, hl30, hd25⟩ := few_sm hf
  simp only [hf] at HFW
  have HMY := Lib.hid (fun (X : World) (hk : KTab X) (hX : Below w.heap.size w X) => HA.may p g X hk (h.below hX) hsm)
  simp only [hm] at HMY
  have hae := add_sm (e := u) (u := true) hm hsm hl30
  have hts := torn_sm (e := u) (keep := keep) hm hl30
  obtain ⟨t1, t2⟩ := torn_all_g (keep := keep) hm h.ok.each hu
  have hop := t1 (.inr hk)
  have HAD := Lib.hid (fun (X : World) (hk : KTab X) (hX : Below w.heap.size w X) => HA.add p g u true X hk (h.below hX) hsm hu)
  have HTO := Lib.hid (fun (X : World) (hk : KTab X) (hX : Below w.heap.size w X) => HA.torn p g u keep X hk (h.below hX) hsm hu)
  obtain ⟨T, hT⟩ : ∃ T, tornG g u keep = T := ⟨_, rfl⟩
  simp only [hT] at HTO hop hts
  have HOP := Lib.hid (fun (A : Option Addr) (n c : Nat) (X : World) (hk : KTab X) (hb : Bts X A n c T.data) => HA.open_ T A n c X hk hb (by have := hb.len; omega))
  rw [hop] at HOP
  obtain ⟨x, hx⟩ : ∃ x, (addG g u true).1 = x := ⟨_, rfl⟩
  obtain ⟨E, hE⟩ : ∃ x, (addG g u true).2 = x := ⟨_, rfl⟩
  have hpe : addG g u true = (x, E) := by rw [← hx, ← hE]
  simp only [hpe] at HAD
  rw [hx] at hae
  have HP := Lib.hid h
  rw [hE] at hd
  subst hd
  have HSM := Lib.hid (fun (q p : Lp) (X : World) (hk : KTab X) (h1 : LgAt X q g) (h2 : LgAt X p g) => HA.same q p g g X hk h1 h2 hsm hsm)
  rw [sameG_self] at HSM
  clear h hu hK HA hf hm hsm hl30 hd25 hae hts t1 t2 hop hT hx hE hpe
  unfold enV
  go_enter Tryd.func4, Tryd.ntmps4
  go_wp2_with (first
    | (go_at_call 8
       (with_reducible refine (HAW.out _ (HK.out.from (two_below w _ _))).mono ?_)
       rintro e w1 ⟨rfl, hb1⟩
       obtain ⟨hb0, hz1, y0, y1⟩ := after_two hb1
       have k0 : w1.heap[w.heap.size]? = some (.cells p.arr 29 (0, 0)) := y0
       have ke : w1.heap[w.heap.size + 1]? = some (.cells (enA u) 33 (0, 0)) := y1
       have HB1 := Lib.hid hb0
       clear hb1 hb0 y0 y1 hz1)
    | ((with_reducible refine wpList_load_blk 29 _ rfl w.heap.size ?hx1 29 p.arr (0, 0) _ k0 Tryd.underlying29 ?hd1 HW.out ?_ ?hw1); (case hx1 => rfl); (case hd1 => rfl); (case hw1 => rfl))
    | ((with_reducible refine wpList_load_blk 33 _ rfl (w.heap.size + 1) ?hx2 33 (enA u) (0, 0) _ ke Tryd.underlying33 ?hd2 (info_en (enA_size _)) ?_ ?hw2); (case hx2 => rfl); (case hd2 => rfl); (case hw2 => rfl))
    | (go_at_call 9
       (with_reducible refine (HFW.out _ HB1.out).mono ?_)
       rintro e w2 ⟨rfl, hbx⟩
       have k0 := blk_below k0 hbx
       have ke := blk_below ke hbx
       have HB2 := Lib.hid (HB1.out.trans (hbx.mono HB1.out.size))
       clear hbx)
    | (go_at_call 10
       (with_reducible refine (HMY.out _ (HK.out.from HB2.out) HB2.out).mono ?_)
       rintro e w3 ⟨rfl, hbx⟩
       have k0 := blk_below k0 hbx
       have ke := blk_below ke hbx
       have HB3 := Lib.hid (HB2.out.trans (hbx.mono HB2.out.size))
       clear hbx)
    | (go_at_call 11
       (with_reducible refine (HAD.out _ (HK.out.from HB3.out) HB3.out).mono ?_)
       rintro e w4 ⟨p1, rfl, hp1, hbx⟩
       have HP1 := Lib.hid hp1
       have k0 := blk_below k0 hbx
       have ke := blk_below ke hbx
       have HB4 := Lib.hid (HB3.out.trans (hbx.mono HB3.out.size))
       clear hp1 hbx)
    | ((with_reducible refine wpList_store_blk rfl 29 _ _ rfl w4.heap.size p1.arr ?hx31 ?hy31 29 _ (heap_alloc_new w4 _) HP1.out.whole ?hs31 (lp_one _) ?_); (case hx31 => rfl); (case hy31 => rfl); (case hs31 => exact (lp_size (p := Lp.zero) rfl).trans (lp_size HP1.out.hlen).symm)
       intro w5 hg k1 hs
       have hbx : Below w4.heap.size w4 w5 := Below.grows (one_alloc w4 _) hg (size_le_alloc _ _) (Nat.le_refl _)
       have k0 := blk_below k0 hbx
       have ke := blk_below ke hbx
       have HP1 := Lib.hid (HP1.out.below hbx)
       have HB5 := Lib.hid (HB4.out.trans (hbx.mono HB4.out.size))
       clear hbx hg hs)
    | (go_at_call 15
       (with_reducible refine (HTO.out _ (HK.out.from HB5.out) HB5.out).mono ?_)
       rintro e w6 ⟨A6, n6, c6, rfl, hbt, hbx⟩
       have HBT := Lib.hid hbt
       have k0 := blk_below k0 hbx
       have k1 := blk_below k1 hbx
       have HP1 := Lib.hid (HP1.out.below hbx)
       have HB6 := Lib.hid (HB5.out.trans (hbx.mono HB5.out.size))
       clear hbt hbx ke)
    | (go_at_call 12
       (with_reducible refine (HOP.out A6 n6 c6 _ (HK.out.from HB6.out) HBT.out).mono ?_)
       rintro e w7 ⟨p2, rfl, hp2, hbx⟩
       have HP2 := Lib.hid hp2
       have k0 := blk_below k0 hbx
       have k1 := blk_below k1 hbx
       have HP1 := Lib.hid (HP1.out.below hbx)
       have HB7 := Lib.hid (HB6.out.trans (hbx.mono HB6.out.size))
       clear hp2 hbx)
    | ((with_reducible refine wpList_store_blk rfl 29 _ _ rfl w7.heap.size p2.arr ?hx32 ?hy32 29 _ (heap_alloc_new w7 _) HP2.out.whole ?hs32 (lp_one _) ?_); (case hx32 => rfl); (case hy32 => rfl); (case hs32 => exact (lp_size (p := Lp.zero) rfl).trans (lp_size HP2.out.hlen).symm)
       intro w8 hg k2 hs
       have hbx : Below w7.heap.size w7 w8 := Below.grows (one_alloc w7 _) hg (size_le_alloc _ _) (Nat.le_refl _)
       have k0 := blk_below k0 hbx
       have k1 := blk_below k1 hbx
       have HP1 := Lib.hid (HP1.out.below hbx)
       have HP2 := Lib.hid (HP2.out.below hbx)
       have HB8 := Lib.hid (HB7.out.trans (hbx.mono HB7.out.size))
       clear hbx hg hs)
    | ((with_reducible refine wpList_load_blk 29 _ rfl w4.heap.size ?hx4 29 p1.arr (0, 0) _ k1 Tryd.underlying29 ?hd4 HP1.out.whole ?_ ?hw4); (case hx4 => rfl); (case hd4 => rfl); (case hw4 => rfl))
    | ((with_reducible refine wpList_load_blk 29 _ rfl w7.heap.size ?hx5 29 p2.arr (0, 0) _ k2 Tryd.underlying29 ?hd5 HP2.out.whole ?_ ?hw5); (case hx5 => rfl); (case hd5 => rfl); (case hw5 => rfl))
    | (go_at_call 13
       (with_reducible refine (HSM.out p2 p _ (HK.out.from HB8.out) HP2.out (HP.out.below HB8.out)).mono ?_)
       rintro e w9 ⟨rfl, hbx⟩
       have HB9 := Lib.hid (HB8.out.trans (hbx.mono HB8.out.size))
       clear hbx))
  go_ret
  exact ⟨rfl, HB9.out⟩
set_option maxHeartbeats 4000000 in
theorem atornw_high (HA : AudOk) (p : Lp) (g : Lg) (u : En) (keep : Int) (w : World) (hK : KTab w) (h : LgAt w p g) (hu : u.ok) (hf : fewG g = true) (hm : mayG g = true) (hd : (addG g u true).2 = 0) (hk : 62 ≤ keep) :
    Calls Tryd.prog 4 #[.agg p.arr, enV u, .int .i64 keep] w fun e w' => e = .returned (.bool true) ∧ Below w.heap.size w w' := by
  have HK := Lib.hid hK
  have HAW := Lib.hid (fun (X : World) (hk : KTab X) => aawake_any HA X hk)
  have HFW := Lib.hid (fun (X : World) (hX : Below w.heap.size w X) => afew_any p g X (h.below hX))
  have HW := Lib.hid h.whole
  obtain ⟨hsm, hl30, hd25⟩ := few_sm hf
  simp only [hf] at HFW
  have HMY := Lib.hid (fun (X : World) (hk : KTab X) (hX : Below w.heap.size w X) => HA.may p g X hk (h.below hX) hsm)
  simp only [hm] at HMY
  have hae := add_sm (e := u) (u := true) hm hsm hl30
  have hts := torn_sm (e := u) (keep := keep) hm hl30
  obtain ⟨t1, t2⟩ := torn_all_g (keep := keep) hm h.ok.each hu
  have hop := t2 hd hk
  have HAD := Lib.hid (fun (X : World) (hk : KTab X) (hX : Below w.heap.size w X) => HA.add p g u true X hk (h.below hX) hsm hu)
  have HTO := Lib.hid (fun (X : World) (hk : KTab X) (hX : Below w.heap.size w X) => HA.torn p g u keep X hk (h.below hX) hsm hu)
  obtain ⟨T, hT⟩ : ∃ T, tornG g u keep = T := ⟨_, rfl⟩
  simp only [hT] at HTO hop hts
  have HOP := Lib.hid (fun (A : Option Addr) (n c : Nat) (X : World) (hk : KTab X) (hb : Bts X A n c T.data) => HA.open_ T A n c X hk hb (by have := hb.len; omega))
  rw [hop] at HOP
  obtain ⟨x, hx⟩ : ∃ x, (addG g u true).1 = x := ⟨_, rfl⟩
  obtain ⟨E, hE⟩ : ∃ x, (addG g u true).2 = x := ⟨_, rfl⟩
  have hpe : addG g u true = (x, E) := by rw [← hx, ← hE]
  simp only [hpe] at HAD
  rw [hx] at hae
  have HP := Lib.hid h
  rw [hE] at hd
  subst hd
  rw [hx] at HOP
  have HSM := Lib.hid (fun (q p : Lp) (X : World) (hk : KTab X) (h1 : LgAt X q x) (h2 : LgAt X p x) => HA.same q p x x X hk h1 h2 hae hae)
  rw [sameG_self] at HSM
  clear h hu hK HA hf hm hsm hl30 hd25 hae hts t1 t2 hop hT hx hE hpe
  unfold enV
  go_enter Tryd.func4, Tryd.ntmps4
  go_wp2_with (first
    | (go_at_call 8
       (with_reducible refine (HAW.out _ (HK.out.from (two_below w _ _))).mono ?_)
       rintro e w1 ⟨rfl, hb1⟩
       obtain ⟨hb0, hz1, y0, y1⟩ := after_two hb1
       have k0 : w1.heap[w.heap.size]? = some (.cells p.arr 29 (0, 0)) := y0
       have ke : w1.heap[w.heap.size + 1]? = some (.cells (enA u) 33 (0, 0)) := y1
       have HB1 := Lib.hid hb0
       clear hb1 hb0 y0 y1 hz1)
    | ((with_reducible refine wpList_load_blk 29 _ rfl w.heap.size ?hx1 29 p.arr (0, 0) _ k0 Tryd.underlying29 ?hd1 HW.out ?_ ?hw1); (case hx1 => rfl); (case hd1 => rfl); (case hw1 => rfl))
    | ((with_reducible refine wpList_load_blk 33 _ rfl (w.heap.size + 1) ?hx2 33 (enA u) (0, 0) _ ke Tryd.underlying33 ?hd2 (info_en (enA_size _)) ?_ ?hw2); (case hx2 => rfl); (case hd2 => rfl); (case hw2 => rfl))
    | (go_at_call 9
       (with_reducible refine (HFW.out _ HB1.out).mono ?_)
       rintro e w2 ⟨rfl, hbx⟩
       have k0 := blk_below k0 hbx
       have ke := blk_below ke hbx
       have HB2 := Lib.hid (HB1.out.trans (hbx.mono HB1.out.size))
       clear hbx)
    | (go_at_call 10
       (with_reducible refine (HMY.out _ (HK.out.from HB2.out) HB2.out).mono ?_)
       rintro e w3 ⟨rfl, hbx⟩
       have k0 := blk_below k0 hbx
       have ke := blk_below ke hbx
       have HB3 := Lib.hid (HB2.out.trans (hbx.mono HB2.out.size))
       clear hbx)
    | (go_at_call 11
       (with_reducible refine (HAD.out _ (HK.out.from HB3.out) HB3.out).mono ?_)
       rintro e w4 ⟨p1, rfl, hp1, hbx⟩
       have HP1 := Lib.hid hp1
       have k0 := blk_below k0 hbx
       have ke := blk_below ke hbx
       have HB4 := Lib.hid (HB3.out.trans (hbx.mono HB3.out.size))
       clear hp1 hbx)
    | ((with_reducible refine wpList_store_blk rfl 29 _ _ rfl w4.heap.size p1.arr ?hx31 ?hy31 29 _ (heap_alloc_new w4 _) HP1.out.whole ?hs31 (lp_one _) ?_); (case hx31 => rfl); (case hy31 => rfl); (case hs31 => exact (lp_size (p := Lp.zero) rfl).trans (lp_size HP1.out.hlen).symm)
       intro w5 hg k1 hs
       have hbx : Below w4.heap.size w4 w5 := Below.grows (one_alloc w4 _) hg (size_le_alloc _ _) (Nat.le_refl _)
       have k0 := blk_below k0 hbx
       have ke := blk_below ke hbx
       have HP1 := Lib.hid (HP1.out.below hbx)
       have HB5 := Lib.hid (HB4.out.trans (hbx.mono HB4.out.size))
       clear hbx hg hs)
    | (go_at_call 15
       (with_reducible refine (HTO.out _ (HK.out.from HB5.out) HB5.out).mono ?_)
       rintro e w6 ⟨A6, n6, c6, rfl, hbt, hbx⟩
       have HBT := Lib.hid hbt
       have k0 := blk_below k0 hbx
       have k1 := blk_below k1 hbx
       have HP1 := Lib.hid (HP1.out.below hbx)
       have HB6 := Lib.hid (HB5.out.trans (hbx.mono HB5.out.size))
       clear hbt hbx ke)
    | (go_at_call 12
       (with_reducible refine (HOP.out A6 n6 c6 _ (HK.out.from HB6.out) HBT.out).mono ?_)
       rintro e w7 ⟨p2, rfl, hp2, hbx⟩
       have HP2 := Lib.hid hp2
       have k0 := blk_below k0 hbx
       have k1 := blk_below k1 hbx
       have HP1 := Lib.hid (HP1.out.below hbx)
       have HB7 := Lib.hid (HB6.out.trans (hbx.mono HB6.out.size))
       clear hp2 hbx)
    | ((with_reducible refine wpList_store_blk rfl 29 _ _ rfl w7.heap.size p2.arr ?hx32 ?hy32 29 _ (heap_alloc_new w7 _) HP2.out.whole ?hs32 (lp_one _) ?_); (case hx32 => rfl); (case hy32 => rfl); (case hs32 => exact (lp_size (p := Lp.zero) rfl).trans (lp_size HP2.out.hlen).symm)
       intro w8 hg k2 hs
       have hbx : Below w7.heap.size w7 w8 := Below.grows (one_alloc w7 _) hg (size_le_alloc _ _) (Nat.le_refl _)
       have k0 := blk_below k0 hbx
       have k1 := blk_below k1 hbx
       have HP1 := Lib.hid (HP1.out.below hbx)
       have HP2 := Lib.hid (HP2.out.below hbx)
       have HB8 := Lib.hid (HB7.out.trans (hbx.mono HB7.out.size))
       clear hbx hg hs)
    | ((with_reducible refine wpList_load_blk 29 _ rfl w4.heap.size ?hx4 29 p1.arr (0, 0) _ k1 Tryd.underlying29 ?hd4 HP1.out.whole ?_ ?hw4); (case hx4 => rfl); (case hd4 => rfl); (case hw4 => rfl))
    | ((with_reducible refine wpList_load_blk 29 _ rfl w7.heap.size ?hx5 29 p2.arr (0, 0) _ k2 Tryd.underlying29 ?hd5 HP2.out.whole ?_ ?hw5); (case hx5 => rfl); (case hd5 => rfl); (case hw5 => rfl))
    | (go_at_call 13
       (with_reducible refine (HSM.out p2 p1 _ (HK.out.from HB8.out) HP2.out HP1.out).mono ?_)
       rintro e w9 ⟨rfl, hbx⟩
       have HB9 := Lib.hid (HB8.out.trans (hbx.mono HB8.out.size))
       clear hbx))
  go_ret
  exact ⟨rfl, HB9.out⟩
theorem atornw_any (HA : AudOk) (p : Lp) (g : Lg) (u : En) (keep : Int) (w : World) (hK : KTab w) (h : LgAt w p g) (hu : u.ok) :
    Calls Tryd.prog 4 #[.agg p.arr, enV u, .int .i64 keep] w fun e w' => e = .returned (.bool true) ∧ Below w.heap.size w w' := by
  cases hf : fewG g with
  | false => exact atornw_few HA p g u keep w hK h hu hf
  | true =>
    cases hm : mayG g with
    | false => exact atornw_may HA p g u keep w hK h hu hf hm
    | true =>
      by_cases hd : (addG g u true).2 = 0
      · by_cases hk : keep < 62
        · exact atornw_low HA p g u keep w hK h hu hf hm hd hk
        · exact atornw_high HA p g u keep w hK h hu hf hm hd (by omega)
      · exact atornw_err HA p g u keep w hK h hu hf hm hd
end Go.Proofs.YtafmompplcaadaaDoor

/- The walk over the document's May of a log. -/
namespace Go.Proofs.YtafmompplcaadaaDoor
set_option maxRecDepth 100000
set_option linter.unusedVariables false
set_option linter.unusedSimpArgs false
open Go.RowKit

theorem put_z_len (l : List En) : (if putC l then headC l else noughtsC).length = 32 := by split; exact headC_len _; rfl
end Go.Proofs.YtafmompplcaadaaDoor

/- The walks over the document's slots and Room of a log. -/
namespace Go.Proofs.YtafmompplcaadaaDoor
set_option maxRecDepth 100000
set_option linter.unusedVariables false
set_option linter.unusedSimpArgs false
open Go.RowKit

theorem slots_at {c : Int} (h : -9223372036854775808 ≤ c ∧ c ≤ 9223372036854775807) : -150000000000000000 ≤ c.tdiv 62 ∧ c.tdiv 62 ≤ 150000000000000000 := by
  by_cases hc : 0 ≤ c
  · rw [Int.tdiv_eq_ediv_of_nonneg hc]; omega
  · have e : c.tdiv 62 = -((-c).tdiv 62) := by rw [← Int.neg_tdiv, Int.neg_neg]
    rw [e, Int.tdiv_eq_ediv_of_nonneg (by omega : 0 ≤ -c)]; omega
theorem room_no {g : Lg} (h : mayG g = false) : roomG g = 0 := by rw [roomG, if_neg (by rw [h]; simp)]
theorem room_yes {g : Lg} (h : mayG g = true) : roomG g = max (slotsG g - 4 - g.l.length) 0 := by rw [roomG, if_pos h]
end Go.Proofs.YtafmompplcaadaaDoor

/- The walks over package store's done, for each method. -/
namespace Go.Proofs.YtafmompplcaadaaDoor
set_option maxRecDepth 100000
set_option linter.unusedVariables false
set_option linter.unusedSimpArgs false
open Go.RowKit

set_option maxHeartbeats 1000000 in
theorem done_write (s : Sp) (A : Option Addr) (n c : Nat) (x : Value) (r : Sp × Int) (w : World) (hb : Bts w A n c s.data) (hs : n ≤ 140737488355328) (hr : r.1.data.length ≤ 140737488355328)
    (hK : mayP s = true → ∀ W, Below w.heap.size w W → Calls Tryd.prog 52 #[s.val A n c, x] W (GSE r A n W)) (hno : mayP s = false → r = (s, 1)) :
    Calls Tryd.prog 51 #[s.val A n c, .func (.func 52) #[] #[], x] w fun e w' => ∃ A' n' c', e = .returned (.tuple #[r.1.val A' n' c', .int .i64 r.2]) ∧ Bts w' A' n' c' r.1.data ∧ (∀ a, A' = some a → w.heap.size ≤ a.block) ∧ Below w.heap.size w w' := by
  have hn := hb.small
  have hl := hb.len
  have hmm : mayP s = mayT s.cap n s.sure := by rw [mayP, hl]
  rw [hmm] at hK hno
  obtain ⟨cap, data, sure⟩ := s
  obtain ⟨⟨cap', data', sure'⟩, er⟩ := r
  unfold Sp.val at hK ⊢
  simp only at hb hK hno hl hr ⊢
  cases hm : mayT cap n sure with
  | false =>
    have hr2 := hno hm
    injection hr2 with e1 e2
    injection e1 with e3 e4 e5
    subst e2 e3 e4 e5
    have HM := Lib.hid hm
    have HB := Lib.hid hb
    clear hb hm hno hK hmm hl hr
    go_enter Tryd.func51, Tryd.ntmps51
    go_wp2_with (first
      | (go_at_call 16
         (with_reducible refine (stmay_any _ A n c _ _ hn).mono ?_)
         rintro e w2 ⟨he, hb2⟩
         rw [HM.out] at he
         subst he
         obtain ⟨hB2, hs2, y1, y2, y3⟩ := after_3 hb2
         have HX2 := Lib.hid (show BoxT w2 (w.heap.size + 1) 24 0 none 0 0 0 from y2)
         have HF2 := Lib.hid (show BoxT w2 (w.heap.size + 2) 83 _ A n c _ from y3)
         obtain ⟨x0, x1, x2⟩ := HF2.out.cells
         have HB2 := Lib.hid hB2
         have HS2 := Lib.hid hs2
         clear hb2 hB2 hs2 y1 y2 y3)
      | (go_at_call 38
         (with_reducible refine (clone_bts A n c _ w2 (HB.out.below HB2.out) hs).mono ?_)
         rintro e w3 ⟨A', c', rfl, hb3, hlo, hbel⟩
         have HX3 := Lib.hid (HX2.out.below hbel)
         have HF3 := Lib.hid (HF2.out.below hbel)
         clear x0 x1 x2
         obtain ⟨x0, x1, x2⟩ := HF3.out.cells
         obtain ⟨z0, z1, z2⟩ := HX3.out.cells
         have g0 := HX3.out.free 0
         have g1 := HX3.out.free 1
         have g2 := HX3.out.free 2
         have f1 := HF3.out.free 1
         have HB3 := Lib.hid hb3
         have HLO := Lib.hid hlo
         have HBE := Lib.hid (HB2.out.trans (hbel.mono HB2.out.size))
         clear hb3 hlo hbel))
    have hf : Far A' n w.heap.size (w.heap.size + 3) := fun a ha _ => .inr (Nat.le_trans HS2.out (HLO.out a ha))
    refine bodyPost_ret (v := .tuple #[.agg #[.int .i64 cap', .slice A' n c', .int .i64 sure'], .int .i64 1]) ?_ ?_ ?_
    · exact ret_store Tryd.results51 _ _ (w.heap.size + 1) 24 _ _ _ _ rfl (set3_heap _ _ _ ((heap_setCell_other _ _ _ _ (by simp)).trans HX3.out)) rfl
    · rfl
    · exact ⟨A', n, c', rfl, (HB3.out.set hf (by omega) (by omega) _).set3 hf (Nat.le_succ _) (by omega) _ _ _, (fun a ha => Nat.le_trans HB2.out.size (HLO.out a ha)), set3_below (below_at HBE.out (by omega) _ _) (Nat.le_succ _) _ _ _⟩
  | true =>
    have HM := Lib.hid hm
    have HB := Lib.hid hb
    have HK := Lib.hid (hK hm)
    have HR := Lib.hid hr
    clear hb hm hno hK hmm hl hr
    go_enter Tryd.func51, Tryd.ntmps51
    go_wp2_with (first
      | (go_at_call 16
         (with_reducible refine (stmay_any _ A n c _ _ hn).mono ?_)
         rintro e w2 ⟨he, hb2⟩
         rw [HM.out] at he
         subst he
         obtain ⟨hB2, hs2, y1, y2, y3⟩ := after_3 hb2
         have HX2 := Lib.hid (show BoxT w2 (w.heap.size + 1) 24 0 none 0 0 0 from y2)
         have HF2 := Lib.hid (show BoxT w2 (w.heap.size + 2) 83 _ A n c _ from y3)
         obtain ⟨x0, x1, x2⟩ := HF2.out.cells
         have HB2 := Lib.hid hB2
         have HS2 := Lib.hid hs2
         clear hb2 hB2 hs2 y1 y2 y3)
      | (go_at_call 52
         (with_reducible refine (HK.out w2 HB2.out).mono ?_)
         rintro e w3 ⟨A1, n1, c1, he, hb3, hlo3, hbel⟩
         have he2 : e = .returned (.tuple #[.agg #[.int .i64 cap', .slice A1 n1 c1, .int .i64 sure'], .int .i64 er]) := he
         clear he
         subst he2
         have hb3 : Bts w3 A1 n1 c1 data' := hb3
         have HX3 := Lib.hid (HX2.out.below hbel)
         have HF3 := Lib.hid (HF2.out.below hbel)
         clear x0 x1 x2
         obtain ⟨x0, x1, x2⟩ := HF3.out.cells
         have f0 := HF3.out.free 0
         have f1 := HF3.out.free 1
         have f2 := HF3.out.free 2
         have hf3 := far_loc HB.out hlo3 HS2.out
         have hsz3 : n1 ≤ 140737488355328 := by have := HR.out; have := hb3.len; omega
         have HB3 := Lib.hid (hb3.set3 hf3 (g := w.heap.size + 2) (by omega) (by omega) (.int .i64 cap') (.slice A1 n1 c1) (.int .i64 sure'))
         have HXS := Lib.hid (show BoxT (((w3.setCell ⟨w.heap.size + 2, 0, none⟩ (.int .i64 cap')).setCell ⟨w.heap.size + 2, 1, none⟩ (.slice A1 n1 c1)).setCell ⟨w.heap.size + 2, 2, none⟩ (.int .i64 sure')) (w.heap.size + 1) 24 0 none 0 0 0 from (heap_setCell_other _ _ _ _ (by simp)).trans ((heap_setCell_other _ _ _ _ (by simp)).trans ((heap_setCell_other _ _ _ _ (by simp)).trans HX3.out)))
         have HFS := Lib.hid (show BoxT (((w3.setCell ⟨w.heap.size + 2, 0, none⟩ (.int .i64 cap')).setCell ⟨w.heap.size + 2, 1, none⟩ (.slice A1 n1 c1)).setCell ⟨w.heap.size + 2, 2, none⟩ (.int .i64 sure')) (w.heap.size + 2) 83 cap' A1 n1 c1 sure' from set3_heap _ _ _ HF3.out)
         have hbs := set3_below (B := w.heap.size) (HB2.out.trans (hbel.mono HB2.out.size)) (g := w.heap.size + 2) (by omega) (.int .i64 cap') (.slice A1 n1 c1) (.int .i64 sure')
         have HLS := Lib.hid (show w.heap.size + 3 ≤ (((w3.setCell ⟨w.heap.size + 2, 0, none⟩ (.int .i64 cap')).setCell ⟨w.heap.size + 2, 1, none⟩ (.slice A1 n1 c1)).setCell ⟨w.heap.size + 2, 2, none⟩ (.int .i64 sure')).heap.size from by have := HS2.out; have := hbel.size; simp; omega)
         have HBS := Lib.hid hbs
         clear hb3 hlo3 hbel hf3 hbs)
      | (go_at_call 38
         (with_reducible refine (clone_bts A1 n1 c1 data' _ HB3.out hsz3).mono ?_)
         rintro e w4 ⟨A', c', rfl, hb4, hlo, hbel⟩
         have HX4 := Lib.hid (HXS.out.below hbel)
         have HF4 := Lib.hid (HFS.out.below hbel)
         clear x0 x1 x2 f0 f1 f2
         obtain ⟨x0, x1, x2⟩ := HF4.out.cells
         obtain ⟨z0, z1, z2⟩ := HX4.out.cells
         have g0 := HX4.out.free 0
         have g1 := HX4.out.free 1
         have g2 := HX4.out.free 2
         have f1 := HF4.out.free 1
         have HB4 := Lib.hid hb4
         have HLO := Lib.hid (fun a ha => Nat.le_trans HLS.out (hlo a ha))
         have HBE := Lib.hid (HBS.out.trans (hbel.mono HBS.out.size))
         clear hb4 hlo hbel))
    have hf : Far A' n1 w.heap.size (w.heap.size + 3) := fun a ha _ => .inr (HLO.out a ha)
    refine bodyPost_ret (v := .tuple #[.agg #[.int .i64 cap', .slice A' n1 c', .int .i64 sure'], .int .i64 er]) ?_ ?_ ?_
    · exact ret_store Tryd.results51 _ _ (w.heap.size + 1) 24 _ _ _ _ rfl (set3_heap _ _ _ ((heap_setCell_other _ _ _ _ (by simp)).trans HX4.out)) rfl
    · rfl
    · exact ⟨A', n1, c', rfl, (HB4.out.set hf (by omega) (by omega) _).set3 hf (Nat.le_succ _) (by omega) _ _ _, (fun a ha => Nat.le_trans (Nat.le_add_right _ 3) (HLO.out a ha)), set3_below (below_at HBE.out (by omega) _ _) (Nat.le_succ _) _ _ _⟩
set_option maxHeartbeats 1000000 in
theorem done_cut (s : Sp) (A : Option Addr) (n c : Nat) (x : Value) (r : Sp × Int) (w : World) (hb : Bts w A n c s.data) (hs : n ≤ 140737488355328) (hr : r.1.data.length ≤ 140737488355328)
    (hK : mayP s = true → ∀ W, Below w.heap.size w W → Calls Tryd.prog 42 #[s.val A n c, x] W (GSE r A n W)) (hno : mayP s = false → r = (s, 1)) :
    Calls Tryd.prog 41 #[s.val A n c, .func (.func 42) #[] #[], x] w fun e w' => ∃ A' n' c', e = .returned (.tuple #[r.1.val A' n' c', .int .i64 r.2]) ∧ Bts w' A' n' c' r.1.data ∧ (∀ a, A' = some a → w.heap.size ≤ a.block) ∧ Below w.heap.size w w' := by
  have hn := hb.small
  have hl := hb.len
  have hmm : mayP s = mayT s.cap n s.sure := by rw [mayP, hl]
  rw [hmm] at hK hno
  obtain ⟨cap, data, sure⟩ := s
  obtain ⟨⟨cap', data', sure'⟩, er⟩ := r
  unfold Sp.val at hK ⊢
  simp only at hb hK hno hl hr ⊢
  cases hm : mayT cap n sure with
  | false =>
    have hr2 := hno hm
    injection hr2 with e1 e2
    injection e1 with e3 e4 e5
    subst e2 e3 e4 e5
    have HM := Lib.hid hm
    have HB := Lib.hid hb
    clear hb hm hno hK hmm hl hr
    go_enter Tryd.func41, Tryd.ntmps41
    go_wp2_with (first
      | (go_at_call 16
         (with_reducible refine (stmay_any _ A n c _ _ hn).mono ?_)
         rintro e w2 ⟨he, hb2⟩
         rw [HM.out] at he
         subst he
         obtain ⟨hB2, hs2, y1, y2, y3⟩ := after_3 hb2
         have HX2 := Lib.hid (show BoxT w2 (w.heap.size + 1) 24 0 none 0 0 0 from y2)
         have HF2 := Lib.hid (show BoxT w2 (w.heap.size + 2) 83 _ A n c _ from y3)
         obtain ⟨x0, x1, x2⟩ := HF2.out.cells
         have HB2 := Lib.hid hB2
         have HS2 := Lib.hid hs2
         clear hb2 hB2 hs2 y1 y2 y3)
      | (go_at_call 38
         (with_reducible refine (clone_bts A n c _ w2 (HB.out.below HB2.out) hs).mono ?_)
         rintro e w3 ⟨A', c', rfl, hb3, hlo, hbel⟩
         have HX3 := Lib.hid (HX2.out.below hbel)
         have HF3 := Lib.hid (HF2.out.below hbel)
         clear x0 x1 x2
         obtain ⟨x0, x1, x2⟩ := HF3.out.cells
         obtain ⟨z0, z1, z2⟩ := HX3.out.cells
         have g0 := HX3.out.free 0
         have g1 := HX3.out.free 1
         have g2 := HX3.out.free 2
         have f1 := HF3.out.free 1
         have HB3 := Lib.hid hb3
         have HLO := Lib.hid hlo
         have HBE := Lib.hid (HB2.out.trans (hbel.mono HB2.out.size))
         clear hb3 hlo hbel))
    have hf : Far A' n w.heap.size (w.heap.size + 3) := fun a ha _ => .inr (Nat.le_trans HS2.out (HLO.out a ha))
    refine bodyPost_ret (v := .tuple #[.agg #[.int .i64 cap', .slice A' n c', .int .i64 sure'], .int .i64 1]) ?_ ?_ ?_
    · exact ret_store Tryd.results41 _ _ (w.heap.size + 1) 24 _ _ _ _ rfl (set3_heap _ _ _ ((heap_setCell_other _ _ _ _ (by simp)).trans HX3.out)) rfl
    · rfl
    · exact ⟨A', n, c', rfl, (HB3.out.set hf (by omega) (by omega) _).set3 hf (Nat.le_succ _) (by omega) _ _ _, (fun a ha => Nat.le_trans HB2.out.size (HLO.out a ha)), set3_below (below_at HBE.out (by omega) _ _) (Nat.le_succ _) _ _ _⟩
  | true =>
    have HM := Lib.hid hm
    have HB := Lib.hid hb
    have HK := Lib.hid (hK hm)
    have HR := Lib.hid hr
    clear hb hm hno hK hmm hl hr
    go_enter Tryd.func41, Tryd.ntmps41
    go_wp2_with (first
      | (go_at_call 16
         (with_reducible refine (stmay_any _ A n c _ _ hn).mono ?_)
         rintro e w2 ⟨he, hb2⟩
         rw [HM.out] at he
         subst he
         obtain ⟨hB2, hs2, y1, y2, y3⟩ := after_3 hb2
         have HX2 := Lib.hid (show BoxT w2 (w.heap.size + 1) 24 0 none 0 0 0 from y2)
         have HF2 := Lib.hid (show BoxT w2 (w.heap.size + 2) 83 _ A n c _ from y3)
         obtain ⟨x0, x1, x2⟩ := HF2.out.cells
         have HB2 := Lib.hid hB2
         have HS2 := Lib.hid hs2
         clear hb2 hB2 hs2 y1 y2 y3)
      | (go_at_call 42
         (with_reducible refine (HK.out w2 HB2.out).mono ?_)
         rintro e w3 ⟨A1, n1, c1, he, hb3, hlo3, hbel⟩
         have he2 : e = .returned (.tuple #[.agg #[.int .i64 cap', .slice A1 n1 c1, .int .i64 sure'], .int .i64 er]) := he
         clear he
         subst he2
         have hb3 : Bts w3 A1 n1 c1 data' := hb3
         have HX3 := Lib.hid (HX2.out.below hbel)
         have HF3 := Lib.hid (HF2.out.below hbel)
         clear x0 x1 x2
         obtain ⟨x0, x1, x2⟩ := HF3.out.cells
         have f0 := HF3.out.free 0
         have f1 := HF3.out.free 1
         have f2 := HF3.out.free 2
         have hf3 := far_loc HB.out hlo3 HS2.out
         have hsz3 : n1 ≤ 140737488355328 := by have := HR.out; have := hb3.len; omega
         have HB3 := Lib.hid (hb3.set3 hf3 (g := w.heap.size + 2) (by omega) (by omega) (.int .i64 cap') (.slice A1 n1 c1) (.int .i64 sure'))
         have HXS := Lib.hid (show BoxT (((w3.setCell ⟨w.heap.size + 2, 0, none⟩ (.int .i64 cap')).setCell ⟨w.heap.size + 2, 1, none⟩ (.slice A1 n1 c1)).setCell ⟨w.heap.size + 2, 2, none⟩ (.int .i64 sure')) (w.heap.size + 1) 24 0 none 0 0 0 from (heap_setCell_other _ _ _ _ (by simp)).trans ((heap_setCell_other _ _ _ _ (by simp)).trans ((heap_setCell_other _ _ _ _ (by simp)).trans HX3.out)))
         have HFS := Lib.hid (show BoxT (((w3.setCell ⟨w.heap.size + 2, 0, none⟩ (.int .i64 cap')).setCell ⟨w.heap.size + 2, 1, none⟩ (.slice A1 n1 c1)).setCell ⟨w.heap.size + 2, 2, none⟩ (.int .i64 sure')) (w.heap.size + 2) 83 cap' A1 n1 c1 sure' from set3_heap _ _ _ HF3.out)
         have hbs := set3_below (B := w.heap.size) (HB2.out.trans (hbel.mono HB2.out.size)) (g := w.heap.size + 2) (by omega) (.int .i64 cap') (.slice A1 n1 c1) (.int .i64 sure')
         have HLS := Lib.hid (show w.heap.size + 3 ≤ (((w3.setCell ⟨w.heap.size + 2, 0, none⟩ (.int .i64 cap')).setCell ⟨w.heap.size + 2, 1, none⟩ (.slice A1 n1 c1)).setCell ⟨w.heap.size + 2, 2, none⟩ (.int .i64 sure')).heap.size from by have := HS2.out; have := hbel.size; simp; omega)
         have HBS := Lib.hid hbs
         clear hb3 hlo3 hbel hf3 hbs)
      | (go_at_call 38
         (with_reducible refine (clone_bts A1 n1 c1 data' _ HB3.out hsz3).mono ?_)
         rintro e w4 ⟨A', c', rfl, hb4, hlo, hbel⟩
         have HX4 := Lib.hid (HXS.out.below hbel)
         have HF4 := Lib.hid (HFS.out.below hbel)
         clear x0 x1 x2 f0 f1 f2
         obtain ⟨x0, x1, x2⟩ := HF4.out.cells
         obtain ⟨z0, z1, z2⟩ := HX4.out.cells
         have g0 := HX4.out.free 0
         have g1 := HX4.out.free 1
         have g2 := HX4.out.free 2
         have f1 := HF4.out.free 1
         have HB4 := Lib.hid hb4
         have HLO := Lib.hid (fun a ha => Nat.le_trans HLS.out (hlo a ha))
         have HBE := Lib.hid (HBS.out.trans (hbel.mono HBS.out.size))
         clear hb4 hlo hbel))
    have hf : Far A' n1 w.heap.size (w.heap.size + 3) := fun a ha _ => .inr (HLO.out a ha)
    refine bodyPost_ret (v := .tuple #[.agg #[.int .i64 cap', .slice A' n1 c', .int .i64 sure'], .int .i64 er]) ?_ ?_ ?_
    · exact ret_store Tryd.results41 _ _ (w.heap.size + 1) 24 _ _ _ _ rfl (set3_heap _ _ _ ((heap_setCell_other _ _ _ _ (by simp)).trans HX4.out)) rfl
    · rfl
    · exact ⟨A', n1, c', rfl, (HB4.out.set hf (by omega) (by omega) _).set3 hf (Nat.le_succ _) (by omega) _ _ _, (fun a ha => Nat.le_trans (Nat.le_add_right _ 3) (HLO.out a ha)), set3_below (below_at HBE.out (by omega) _ _) (Nat.le_succ _) _ _ _⟩
set_option maxHeartbeats 1000000 in
theorem done_crash (s : Sp) (A : Option Addr) (n c : Nat) (x : Value) (r : Sp × Int) (w : World) (hb : Bts w A n c s.data) (hs : n ≤ 140737488355328) (hr : r.1.data.length ≤ 140737488355328)
    (hK : mayP s = true → ∀ W, Below w.heap.size w W → Calls Tryd.prog 43 #[s.val A n c, x] W (GSE r A n W)) (hno : mayP s = false → r = (s, 1)) :
    Calls Tryd.prog 41 #[s.val A n c, .func (.func 43) #[] #[], x] w fun e w' => ∃ A' n' c', e = .returned (.tuple #[r.1.val A' n' c', .int .i64 r.2]) ∧ Bts w' A' n' c' r.1.data ∧ (∀ a, A' = some a → w.heap.size ≤ a.block) ∧ Below w.heap.size w w' := by
  have hn := hb.small
  have hl := hb.len
  have hmm : mayP s = mayT s.cap n s.sure := by rw [mayP, hl]
  rw [hmm] at hK hno
  obtain ⟨cap, data, sure⟩ := s
  obtain ⟨⟨cap', data', sure'⟩, er⟩ := r
  unfold Sp.val at hK ⊢
  simp only at hb hK hno hl hr ⊢
  cases hm : mayT cap n sure with
  | false =>
    have hr2 := hno hm
    injection hr2 with e1 e2
    injection e1 with e3 e4 e5
    subst e2 e3 e4 e5
    have HM := Lib.hid hm
    have HB := Lib.hid hb
    clear hb hm hno hK hmm hl hr
    go_enter Tryd.func41, Tryd.ntmps41
    go_wp2_with (first
      | (go_at_call 16
         (with_reducible refine (stmay_any _ A n c _ _ hn).mono ?_)
         rintro e w2 ⟨he, hb2⟩
         rw [HM.out] at he
         subst he
         obtain ⟨hB2, hs2, y1, y2, y3⟩ := after_3 hb2
         have HX2 := Lib.hid (show BoxT w2 (w.heap.size + 1) 24 0 none 0 0 0 from y2)
         have HF2 := Lib.hid (show BoxT w2 (w.heap.size + 2) 83 _ A n c _ from y3)
         obtain ⟨x0, x1, x2⟩ := HF2.out.cells
         have HB2 := Lib.hid hB2
         have HS2 := Lib.hid hs2
         clear hb2 hB2 hs2 y1 y2 y3)
      | (go_at_call 38
         (with_reducible refine (clone_bts A n c _ w2 (HB.out.below HB2.out) hs).mono ?_)
         rintro e w3 ⟨A', c', rfl, hb3, hlo, hbel⟩
         have HX3 := Lib.hid (HX2.out.below hbel)
         have HF3 := Lib.hid (HF2.out.below hbel)
         clear x0 x1 x2
         obtain ⟨x0, x1, x2⟩ := HF3.out.cells
         obtain ⟨z0, z1, z2⟩ := HX3.out.cells
         have g0 := HX3.out.free 0
         have g1 := HX3.out.free 1
         have g2 := HX3.out.free 2
         have f1 := HF3.out.free 1
         have HB3 := Lib.hid hb3
         have HLO := Lib.hid hlo
         have HBE := Lib.hid (HB2.out.trans (hbel.mono HB2.out.size))
         clear hb3 hlo hbel))
    have hf : Far A' n w.heap.size (w.heap.size + 3) := fun a ha _ => .inr (Nat.le_trans HS2.out (HLO.out a ha))
    refine bodyPost_ret (v := .tuple #[.agg #[.int .i64 cap', .slice A' n c', .int .i64 sure'], .int .i64 1]) ?_ ?_ ?_
    · exact ret_store Tryd.results41 _ _ (w.heap.size + 1) 24 _ _ _ _ rfl (set3_heap _ _ _ ((heap_setCell_other _ _ _ _ (by simp)).trans HX3.out)) rfl
    · rfl
    · exact ⟨A', n, c', rfl, (HB3.out.set hf (by omega) (by omega) _).set3 hf (Nat.le_succ _) (by omega) _ _ _, (fun a ha => Nat.le_trans HB2.out.size (HLO.out a ha)), set3_below (below_at HBE.out (by omega) _ _) (Nat.le_succ _) _ _ _⟩
  | true =>
    have HM := Lib.hid hm
    have HB := Lib.hid hb
    have HK := Lib.hid (hK hm)
    have HR := Lib.hid hr
    clear hb hm hno hK hmm hl hr
    go_enter Tryd.func41, Tryd.ntmps41
    go_wp2_with (first
      | (go_at_call 16
         (with_reducible refine (stmay_any _ A n c _ _ hn).mono ?_)
         rintro e w2 ⟨he, hb2⟩
         rw [HM.out] at he
         subst he
         obtain ⟨hB2, hs2, y1, y2, y3⟩ := after_3 hb2
         have HX2 := Lib.hid (show BoxT w2 (w.heap.size + 1) 24 0 none 0 0 0 from y2)
         have HF2 := Lib.hid (show BoxT w2 (w.heap.size + 2) 83 _ A n c _ from y3)
         obtain ⟨x0, x1, x2⟩ := HF2.out.cells
         have HB2 := Lib.hid hB2
         have HS2 := Lib.hid hs2
         clear hb2 hB2 hs2 y1 y2 y3)
      | (go_at_call 43
         (with_reducible refine (HK.out w2 HB2.out).mono ?_)
         rintro e w3 ⟨A1, n1, c1, he, hb3, hlo3, hbel⟩
         have he2 : e = .returned (.tuple #[.agg #[.int .i64 cap', .slice A1 n1 c1, .int .i64 sure'], .int .i64 er]) := he
         clear he
         subst he2
         have hb3 : Bts w3 A1 n1 c1 data' := hb3
         have HX3 := Lib.hid (HX2.out.below hbel)
         have HF3 := Lib.hid (HF2.out.below hbel)
         clear x0 x1 x2
         obtain ⟨x0, x1, x2⟩ := HF3.out.cells
         have f0 := HF3.out.free 0
         have f1 := HF3.out.free 1
         have f2 := HF3.out.free 2
         have hf3 := far_loc HB.out hlo3 HS2.out
         have hsz3 : n1 ≤ 140737488355328 := by have := HR.out; have := hb3.len; omega
         have HB3 := Lib.hid (hb3.set3 hf3 (g := w.heap.size + 2) (by omega) (by omega) (.int .i64 cap') (.slice A1 n1 c1) (.int .i64 sure'))
         have HXS := Lib.hid (show BoxT (((w3.setCell ⟨w.heap.size + 2, 0, none⟩ (.int .i64 cap')).setCell ⟨w.heap.size + 2, 1, none⟩ (.slice A1 n1 c1)).setCell ⟨w.heap.size + 2, 2, none⟩ (.int .i64 sure')) (w.heap.size + 1) 24 0 none 0 0 0 from (heap_setCell_other _ _ _ _ (by simp)).trans ((heap_setCell_other _ _ _ _ (by simp)).trans ((heap_setCell_other _ _ _ _ (by simp)).trans HX3.out)))
         have HFS := Lib.hid (show BoxT (((w3.setCell ⟨w.heap.size + 2, 0, none⟩ (.int .i64 cap')).setCell ⟨w.heap.size + 2, 1, none⟩ (.slice A1 n1 c1)).setCell ⟨w.heap.size + 2, 2, none⟩ (.int .i64 sure')) (w.heap.size + 2) 83 cap' A1 n1 c1 sure' from set3_heap _ _ _ HF3.out)
         have hbs := set3_below (B := w.heap.size) (HB2.out.trans (hbel.mono HB2.out.size)) (g := w.heap.size + 2) (by omega) (.int .i64 cap') (.slice A1 n1 c1) (.int .i64 sure')
         have HLS := Lib.hid (show w.heap.size + 3 ≤ (((w3.setCell ⟨w.heap.size + 2, 0, none⟩ (.int .i64 cap')).setCell ⟨w.heap.size + 2, 1, none⟩ (.slice A1 n1 c1)).setCell ⟨w.heap.size + 2, 2, none⟩ (.int .i64 sure')).heap.size from by have := HS2.out; have := hbel.size; simp; omega)
         have HBS := Lib.hid hbs
         clear hb3 hlo3 hbel hf3 hbs)
      | (go_at_call 38
         (with_reducible refine (clone_bts A1 n1 c1 data' _ HB3.out hsz3).mono ?_)
         rintro e w4 ⟨A', c', rfl, hb4, hlo, hbel⟩
         have HX4 := Lib.hid (HXS.out.below hbel)
         have HF4 := Lib.hid (HFS.out.below hbel)
         clear x0 x1 x2 f0 f1 f2
         obtain ⟨x0, x1, x2⟩ := HF4.out.cells
         obtain ⟨z0, z1, z2⟩ := HX4.out.cells
         have g0 := HX4.out.free 0
         have g1 := HX4.out.free 1
         have g2 := HX4.out.free 2
         have f1 := HF4.out.free 1
         have HB4 := Lib.hid hb4
         have HLO := Lib.hid (fun a ha => Nat.le_trans HLS.out (hlo a ha))
         have HBE := Lib.hid (HBS.out.trans (hbel.mono HBS.out.size))
         clear hb4 hlo hbel))
    have hf : Far A' n1 w.heap.size (w.heap.size + 3) := fun a ha _ => .inr (HLO.out a ha)
    refine bodyPost_ret (v := .tuple #[.agg #[.int .i64 cap', .slice A' n1 c', .int .i64 sure'], .int .i64 er]) ?_ ?_ ?_
    · exact ret_store Tryd.results41 _ _ (w.heap.size + 1) 24 _ _ _ _ rfl (set3_heap _ _ _ ((heap_setCell_other _ _ _ _ (by simp)).trans HX4.out)) rfl
    · rfl
    · exact ⟨A', n1, c', rfl, (HB4.out.set hf (by omega) (by omega) _).set3 hf (Nat.le_succ _) (by omega) _ _ _, (fun a ha => Nat.le_trans (Nat.le_add_right _ 3) (HLO.out a ha)), set3_below (below_at HBE.out (by omega) _ _) (Nat.le_succ _) _ _ _⟩
end Go.Proofs.YtafmompplcaadaaDoor
