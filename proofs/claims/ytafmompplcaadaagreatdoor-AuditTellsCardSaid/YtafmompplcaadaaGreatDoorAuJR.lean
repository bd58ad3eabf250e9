/- Joined texts: The walk over a desk's write: an entry put behind, whose record is not sure yet. -/
import Derived.Test.YtafmompplcaadaaGreatDoorAuJP
import Derived.Test.YtafmompplcaadaaGreatDoorAuJL
import Derived.Test.YtafmompplcaadaaGreatDoorAuJK
import Derived.Test.YtafmompplcaadaaGreatDoorAuJD
import Derived.Test.YtafmompplcaadaaGreatDoorAuJQ
/- The walk over a desk's write: an entry put behind, whose record is not sure yet. -/
namespace Go.Proofs.YtafmompplcaadaaGreatDoor
set_option maxRecDepth 100000
set_option linter.unusedVariables false
set_option linter.unusedSimpArgs false
open Go.RowKit

/-- a desk: its log, the entries its own -/
structure Desk (w : World) (B g : Nat) (p : Lp) (lg : Lg) : Prop where
  blk : w.heap[g]? = some (.cells p.arr 48 (0, 0))
  at_ : LgAt w p lg
  own : OwnR 33 9 w B (.slice p.B p.m p.d) (lg.l.map En.row)
  low : B ≤ g
  lowA : ∀ a, p.A = some a → B ≤ a.block
theorem far_at {A : Option Addr} {n lo hi : Nat} (h : ∀ a, A = some a → hi ≤ a.block) : Far A n lo hi := fun a ha _ => .inr (h a ha)
theorem LgAt.kept_g {w w' : World} {p : Lp} {g : Lg} {k hi : Nat} {rows : List (List Value)} (h : LgAt w p g) (hA : ∀ a, p.A = some a → hi ≤ a.block) (hB : OwnR 33 9 w hi (.slice p.B p.m p.d) rows) (hg : w.grownBy w' (some k)) (h2 : k < hi) : LgAt w' p g :=
  ⟨h.cap, h.sure, h.head, h.data.kept (far_at (lo := 0) hA) hg (Nat.zero_le _) h2, ens_kept h.ents (own_ens_far (lo := 0) hB (Nat.le_refl _)) hg (Nat.zero_le _) h2, h.ok, h.fits⟩
def Wrote (B g : Nat) (r : Int) (lg : Lg) (w : World) (e : Ending) (w' : World) : Prop := ∃ q : Lp, e = .returned (.int .i64 r) ∧ w'.heap[g]? = some (.cells q.arr 48 (0, 0)) ∧ LgAt w' q lg ∧ (∀ a, q.A = some a → B ≤ a.block) ∧ OwnR 33 9 w' B (.slice q.B q.m q.d) (lg.l.map En.row) ∧ Below B w w'
theorem own_ne {w : World} {b g : Nat} {v : Value} {rows : List (List Value)} {C : Array Value} {fr : Nat × Nat} (h : OwnR 33 9 w b v rows) (hg : w.heap[g]? = some (.cells C 48 fr)) : v.ownBlock = none ∨ v.ownBlock ≠ some g := by
  rcases h.row.2 with hv | ⟨k, cap, cur, hv, hk, hh, -⟩
  · left; rw [hv.1]; rfl
  · right
    rw [hv]
    intro e
    have e : k = g := by simpa [Value.ownBlock] using e
    subst e
    rw [hh] at hg
    have := Obj.cells.inj (Option.some.inj hg)
    exact absurd this.2.1 (by decide)
theorem _root_.Go.RowKit.Below.size_from {b : Nat} {w w' : World} (h : Below b w w') (hz : b ≤ w.heap.size) : b ≤ w'.heap.size := Nat.le_trans hz h.size
set_option maxHeartbeats 8000000 in
theorem awrite_no (B g : Nat) (p : Lp) (lg : Lg) (u : En) (spare : Int) (w : World) (hK : KTab w) (hD : Desk w B g p lg) (hsm : LgSm lg) (hu : u.ok) (he : mayE u = false) :
    Calls Tryz.prog 22 #[.pointer (some ⟨g, 0, none⟩), enV u, .int .i64 spare] w (Wrote B g 1 lg w) := by
  have h := hD.at_
  have hgl : g < w.heap.size := (Array.getElem?_eq_some_iff.1 hD.blk).1
  have kg0 := hD.blk
  have HK := Lib.hid hK
  have HL := Lib.hid h
  have HLO := Lib.hid hD.low
  have HLA := Lib.hid hD.lowA
  have HOZ := Lib.hid hD.own
  have HBL := Lib.hid (show B ≤ w.heap.size from Nat.le_of_lt (Nat.lt_of_le_of_lt hD.low hgl))
  have HHI := Lib.hid h.info
  have HW := Lib.hid h.whole
  have HWD := Lib.hid (info_desk (C := p.arr) (lp_size h.hlen))
  have HLK := Lib.hid (fun (X : World) (hk : KTab X) => clink_any p.H u X hk h.hlen h.hbyte hu)
  have HZL := Lib.hid (linkP_len p.H u)
  have HPU := Lib.hid (fun (X : World) => eput_no u X he)
  rw [he] at HLK
  obtain ⟨Z, hZ⟩ : ∃ Z, linkP p.H u = Z := ⟨_, rfl⟩
  simp only [hZ] at HLK HZL
  have HB0 := Lib.hid (one_alloc w (.cells (enA u) 33 (0, 0)))
  clear h hZ hD hK hsm hu he
  unfold enV at HPU HLK ⊢
  go_enter Tryz.func22, Tryz.ntmps22
  go_wp2
  refine wp_scope_ahead 0 rfl ?_
  go_wp2_with (first
    | ((with_reducible refine wpList_load_blk 33 _ rfl w.heap.size ?hx1 33 (enA u) (0, 0) _ (heap_alloc_new w _) Tryz.underlying33 ?hd1 (info_en (enA_size _)) ?_ ?hw1); (case hx1 => rfl); (case hd1 => rfl); (case hw1 => rfl))
    | (go_at_call 50
       (with_reducible refine (HPU.out _).mono ?_)
       rintro e w1 ⟨rfl, hb1⟩
       have kg1 := blk_below (blk_below kg0 (one_alloc w (.cells (enA u) 33 (0, 0)))) hb1
       have ke1 := blk_below (heap_alloc_new w (.cells (enA u) 33 (0, 0))) hb1
       have HB1 := Lib.hid (HB0.out.trans (hb1.mono HB0.out.size))
       have hz1 : w.heap.size + 1 ≤ w1.heap.size := by have := hb1.size; simpa using this
       clear hb1))
  have hSd : Below w1.heap.size w1 w1.drew := (Below.refl _ w1).drew
  refine wp_region_held_drew (S := fun X => Below w1.heap.size w1 X) (by kernel_rfl) hSd (fun hHeld => ?_)
  refine take_move 0 (.tmp 0) (.pointer (some ⟨g, 0, none⟩)) rfl rfl rfl (by kernel_rfl) (by kernel_rfl) (by kernel_rfl) (fun _ _ _ h => h) rfl hHeld ?_
  simp only [Act.put, List.setIfInBounds_toArray, List.set_cons_zero, List.set_cons_succ]
  refine take_run 1 (.pointer (some ⟨g, 0, none⟩)) rfl (by kernel_rfl) (by kernel_rfl) (by kernel_rfl) (fun _ _ _ h => h) rfl hHeld (fun w' => ?_) ?_
  · go_simp
  simp only [Act.put, List.setIfInBounds_toArray, List.set_cons_zero, List.set_cons_succ]
  refine take_run 2 (.pointer (some ⟨g, 0, none⟩)) rfl (by kernel_rfl) (by kernel_rfl) (by kernel_rfl) (fun _ _ _ h => h) rfl hHeld (fun w' => ?_) ?_
  · go_simp
  simp only [Act.put, List.setIfInBounds_toArray, List.set_cons_zero, List.set_cons_succ]
  refine take_run 3 (.pointer (some ⟨g, 4, none⟩)) rfl (by kernel_rfl) (by kernel_rfl) (by kernel_rfl) (fun _ _ _ h => h) rfl hHeld (fun w' => ?_) ?_
  · go_simp
  simp only [Act.put, List.setIfInBounds_toArray, List.set_cons_zero, List.set_cons_succ]
  refine take_mid 4 27 _ g 4 (byv p.H) (idv p.H) rfl _ rfl rfl rfl (by kernel_rfl) (by kernel_rfl) (by kernel_rfl) (fun _ _ _ h => h) rfl hHeld (fun X hX => dk_head (blk_below kg1 hX)) Tryz.underlying27 rfl HHI.out ?_
  simp only [Act.put, List.setIfInBounds_toArray, List.set_cons_zero, List.set_cons_succ]
  refine take_blk 5 33 _ w.heap.size 33 (enA u) (0, 0) _ rfl rfl rfl (by kernel_rfl) (by kernel_rfl) (by kernel_rfl) (fun _ _ _ h => h) rfl hHeld (fun X hX => blk_below ke1 hX) Tryz.underlying33 rfl (info_en (enA_size _)) ?_
  simp only [Act.put, List.setIfInBounds_toArray, List.set_cons_zero, List.set_cons_succ]
  refine two_steps 6 10 (by kernel_rfl) rfl rfl (fun Kq hKq => ?_) (fun Kq hKq => ?_)
  · skip
    go_simp
    go_at_call 51
    refine (HLK.out _ (HK.out.from (HB1.out.trans (hSd.mono HB1.out.size)))).mono ?_
    rintro e y1 ⟨rfl, hbx⟩
    have hS1 : Below w1.heap.size w1 y1 := hSd.trans (hbx.mono hSd.size)
    clear hbx
    refine hKq.out _ _ hS1 (fun hHeld0 => ?_)
    clear hKq Kq hHeld
    have hHeld := hHeld0
    clear hHeld0
    try simp only [Act.put, List.setIfInBounds_toArray, List.set_cons_zero, List.set_cons_succ]
    refine take_run 7 (.tuple #[.agg (idv Z), .bool false]) rfl (by kernel_rfl) (by kernel_rfl) (by kernel_rfl) (fun _ _ _ h => h) rfl hHeld (fun w' => ?_) ?_
    · go_simp
    simp only [Act.put, List.setIfInBounds_toArray, List.set_cons_zero, List.set_cons_succ]
    refine take_run 8 (.agg (idv Z)) rfl (by kernel_rfl) (by kernel_rfl) (by kernel_rfl) (fun _ _ _ h => h) rfl hHeld (fun w' => ?_) ?_
    · go_simp
    simp only [Act.put, List.setIfInBounds_toArray, List.set_cons_zero, List.set_cons_succ]
    refine take_run 9 (.bool false) rfl (by kernel_rfl) (by kernel_rfl) (by kernel_rfl) (fun _ _ _ h => h) rfl hHeld (fun w' => ?_) ?_
    · go_simp
    simp only [Act.put, List.setIfInBounds_toArray, List.set_cons_zero, List.set_cons_succ]
    refine one_step 10 (by kernel_rfl) rfl (fun Kq hKq => ?_)
    have hz : RowB (y1.alloc (.cells (idv noughtsC) 27)) y1.heap.size 27 noughtsC := rowb_lit _ _ _ _ rfl
    have hS2 : Below w1.heap.size w1 (y1.alloc (.cells (idv noughtsC) 27)) := hS1.alloc hS1.size _
    have hgx : w1.heap.size ≤ y1.heap.size := hS1.size
    go_simp
    refine hKq.out _ _ hS2 (fun hHeld0 => ?_)
    clear hKq Kq hHeld
    have hHeld := hHeld0
    clear hHeld0
    try simp only [Act.put, List.setIfInBounds_toArray, List.set_cons_zero, List.set_cons_succ]
    refine one_step 11 (by kernel_rfl) rfl (fun Kq hKq => ?_)
    refine step_store_b 27 _ _ rfl y1.heap.size Z noughtsC rfl rfl 27 hz (info32 HZL.out) (by rw [HZL.out]; rfl) rfl ?_
    intro wM hgM hXM hsM
    have hSM : Below w1.heap.size w1 wM := hS2.grown hgM hS2.size (fun q e => by cases e; exact hgx)
    clear hgM hsM
    refine hKq.out _ _ hSM (fun hHeld0 => ?_)
    clear hKq Kq hHeld
    have hHeld := hHeld0
    clear hHeld0
    try simp only [Act.put, List.setIfInBounds_toArray, List.set_cons_zero, List.set_cons_succ]
    refine take_run 12 (.bool false) rfl (by kernel_rfl) (by kernel_rfl) (by kernel_rfl) (fun _ _ _ h => h) rfl hHeld (fun w' => ?_) ?_
    · go_simp
    simp only [Act.put, List.setIfInBounds_toArray, List.set_cons_zero, List.set_cons_succ]
    refine wpAnyH_done (by kernel_rfl) ?_ _
    obtain ⟨gx, hgxe⟩ : ∃ q, y1.heap.size = q := ⟨_, rfl⟩
    have hgx : w1.heap.size ≤ gx := Nat.le_trans hgx (Nat.le_of_eq hgxe)
    rw [hgxe] at hXM ⊢
    have kg2 := blk_below kg1 hSM
    have ke2 := blk_below ke1 hSM
    have HB2 := Lib.hid (HB1.out.trans (hSM.mono HB1.out.size))
    clear hgxe hHeld hSM hz hSd
    go_wp2_with (first
      | (refine wp_goto ⟨rfl, ?_⟩)
      | (apply wp_label))
    first | rw [Exit.noGoto_ret] | rw [jump_ret] | skip
    go_ret
    exact ⟨p, rfl, kg2, HL.out.below HB2.out, HLA.out, HOZ.out.below HB2.out, HB2.out.mono HBL.out⟩
  · skip
    have hz : RowB (w1.drew.alloc (.cells (idv noughtsC) 27)) w1.drew.heap.size 27 noughtsC := rowb_lit _ _ _ _ rfl
    have hS1 : Below w1.heap.size w1 (w1.drew.alloc (.cells (idv noughtsC) 27)) := hSd.alloc hSd.size _
    have hgx : w1.heap.size ≤ w1.drew.heap.size := hSd.size
    go_simp
    refine hKq.out _ _ hS1 (fun hHeld0 => ?_)
    clear hKq Kq hHeld
    have hHeld := hHeld0
    clear hHeld0
    try simp only [Act.put, List.setIfInBounds_toArray, List.set_cons_zero, List.set_cons_succ]
    refine one_step 6 (by kernel_rfl) rfl (fun Kq hKq => ?_)
    go_simp
    go_at_call 51
    refine (HLK.out _ (HK.out.from (HB1.out.trans (hS1.mono HB1.out.size)))).mono ?_
    rintro e y1 ⟨rfl, hbx⟩
    have hS2 : Below w1.heap.size w1 y1 := hS1.trans (hbx.mono hS1.size)
    have hz := hz.keep hbx
    clear hbx
    refine hKq.out _ _ hS2 (fun hHeld0 => ?_)
    clear hKq Kq hHeld
    have hHeld := hHeld0
    clear hHeld0
    try simp only [Act.put, List.setIfInBounds_toArray, List.set_cons_zero, List.set_cons_succ]
    refine take_run 7 (.tuple #[.agg (idv Z), .bool false]) rfl (by kernel_rfl) (by kernel_rfl) (by kernel_rfl) (fun _ _ _ h => h) rfl hHeld (fun w' => ?_) ?_
    · go_simp
    simp only [Act.put, List.setIfInBounds_toArray, List.set_cons_zero, List.set_cons_succ]
    refine take_run 8 (.agg (idv Z)) rfl (by kernel_rfl) (by kernel_rfl) (by kernel_rfl) (fun _ _ _ h => h) rfl hHeld (fun w' => ?_) ?_
    · go_simp
    simp only [Act.put, List.setIfInBounds_toArray, List.set_cons_zero, List.set_cons_succ]
    refine take_run 9 (.bool false) rfl (by kernel_rfl) (by kernel_rfl) (by kernel_rfl) (fun _ _ _ h => h) rfl hHeld (fun w' => ?_) ?_
    · go_simp
    simp only [Act.put, List.setIfInBounds_toArray, List.set_cons_zero, List.set_cons_succ]
    refine one_step 11 (by kernel_rfl) rfl (fun Kq hKq => ?_)
    refine step_store_b 27 _ _ rfl w1.heap.size Z noughtsC rfl rfl 27 hz (info32 HZL.out) (by rw [HZL.out]; rfl) rfl ?_
    intro wM hgM hXM hsM
    have hSM : Below w1.heap.size w1 wM := hS2.grown hgM hS2.size (fun q e => by cases e; exact hgx)
    clear hgM hsM
    refine hKq.out _ _ hSM (fun hHeld0 => ?_)
    clear hKq Kq hHeld
    have hHeld := hHeld0
    clear hHeld0
    try simp only [Act.put, List.setIfInBounds_toArray, List.set_cons_zero, List.set_cons_succ]
    refine take_run 12 (.bool false) rfl (by kernel_rfl) (by kernel_rfl) (by kernel_rfl) (fun _ _ _ h => h) rfl hHeld (fun w' => ?_) ?_
    · go_simp
    simp only [Act.put, List.setIfInBounds_toArray, List.set_cons_zero, List.set_cons_succ]
    refine wpAnyH_done (by kernel_rfl) ?_ _
    obtain ⟨gx, hgxe⟩ : ∃ q, w1.heap.size = q := ⟨_, rfl⟩
    have hgx : w1.heap.size ≤ gx := Nat.le_trans hgx (Nat.le_of_eq hgxe)
    rw [hgxe] at hXM ⊢
    have kg2 := blk_below kg1 hSM
    have ke2 := blk_below ke1 hSM
    have HB2 := Lib.hid (HB1.out.trans (hSM.mono HB1.out.size))
    clear hgxe hHeld hSM hz hSd
    go_wp2_with (first
      | (refine wp_goto ⟨rfl, ?_⟩)
      | (apply wp_label))
    first | rw [Exit.noGoto_ret] | rw [jump_ret] | skip
    go_ret
    exact ⟨p, rfl, kg2, HL.out.below HB2.out, HLA.out, HOZ.out.below HB2.out, HB2.out.mono HBL.out⟩
set_option maxHeartbeats 8000000 in
theorem awrite_may (B g : Nat) (p : Lp) (lg : Lg) (u : En) (spare : Int) (w : World) (hK : KTab w) (hD : Desk w B g p lg) (hsm : LgSm lg) (hu : u.ok) (he : mayE u = true) (hm : mayG lg = false) :
    Calls Tryz.prog 22 #[.pointer (some ⟨g, 0, none⟩), enV u, .int .i64 spare] w (Wrote B g 1 lg w) := by
  have h := hD.at_
  have hgl : g < w.heap.size := (Array.getElem?_eq_some_iff.1 hD.blk).1
  have kg0 := hD.blk
  have HK := Lib.hid hK
  have HL := Lib.hid h
  have HLO := Lib.hid hD.low
  have HLA := Lib.hid hD.lowA
  have HOZ := Lib.hid hD.own
  have HBL := Lib.hid (show B ≤ w.heap.size from Nat.le_of_lt (Nat.lt_of_le_of_lt hD.low hgl))
  have HHI := Lib.hid h.info
  have HW := Lib.hid h.whole
  have HWD := Lib.hid (info_desk (C := p.arr) (lp_size h.hlen))
  have HLK := Lib.hid (fun (X : World) (hk : KTab X) => clink_any p.H u X hk h.hlen h.hbyte hu)
  have HZL := Lib.hid (linkP_len p.H u)
  have HMY := Lib.hid (fun (X : World) (hX : Below w.heap.size w X) => amay_any p lg X (hK.from hX) (h.below hX))
  rw [hm] at HMY
  have HPU := Lib.hid (fun (X : World) => eput_yes u X he hu)
  have HPK := Lib.hid (put_ok u)
  have HPL := Lib.hid (show (putE u).length ≤ 30 by rw [put_len]; exact Nat.le_refl _)
  obtain ⟨PE, hPE⟩ : ∃ x, putE u = x := ⟨_, rfl⟩
  rw [hPE] at HPK HPL
  simp only [hPE] at HPU
  rw [he] at HLK
  clear hPE
  obtain ⟨Z, hZ⟩ : ∃ Z, linkP p.H u = Z := ⟨_, rfl⟩
  simp only [hZ] at HLK HZL
  have HB0 := Lib.hid (one_alloc w (.cells (enA u) 33 (0, 0)))
  clear h hZ hD hK hsm hu he hm
  unfold enV at HPU HLK ⊢
  go_enter Tryz.func22, Tryz.ntmps22
  go_wp2
  refine wp_scope_ahead 0 rfl ?_
  go_wp2_with (first
    | ((with_reducible refine wpList_load_blk 33 _ rfl w.heap.size ?hx1 33 (enA u) (0, 0) _ (heap_alloc_new w _) Tryz.underlying33 ?hd1 (info_en (enA_size _)) ?_ ?hw1); (case hx1 => rfl); (case hd1 => rfl); (case hw1 => rfl))
    | (go_at_call 50
       (with_reducible refine (HPU.out _).mono ?_)
       rintro e w1 ⟨v1, rfl, hown, hb1⟩
       have hown1 : Own w1 (w.heap.size + 1) v1 PE := by simpa using hown
       obtain ⟨A1, m1, c1, rfl, -⟩ := hown1.slice HPK.out
       have hb1 : Below (w.alloc (.cells (enA u) 33 (0, 0))).heap.size (w.alloc (.cells (enA u) 33 (0, 0))) w1 := hb1
       have HO1 := Lib.hid (fun k hk => (hown1.size k hk).2)
       have kg1 := blk_below (blk_below kg0 (one_alloc w (.cells (enA u) 33 (0, 0)))) hb1
       have ke1 := blk_below (heap_alloc_new w (.cells (enA u) 33 (0, 0))) hb1
       have HB1 := Lib.hid (HB0.out.trans (hb1.mono HB0.out.size))
       have hz1 : w.heap.size + 1 ≤ w1.heap.size := by have := hb1.size; simpa using this
       clear hb1 hown))
  have hSd : Below w1.heap.size w1 w1.drew := (Below.refl _ w1).drew
  refine wp_region_held_drew (S := fun X => Below w1.heap.size w1 X) (by kernel_rfl) hSd (fun hHeld => ?_)
  refine take_move 0 (.tmp 0) (.pointer (some ⟨g, 0, none⟩)) rfl rfl rfl (by kernel_rfl) (by kernel_rfl) (by kernel_rfl) (fun _ _ _ h => h) rfl hHeld ?_
  simp only [Act.put, List.setIfInBounds_toArray, List.set_cons_zero, List.set_cons_succ]
  refine take_run 1 (.pointer (some ⟨g, 0, none⟩)) rfl (by kernel_rfl) (by kernel_rfl) (by kernel_rfl) (fun _ _ _ h => h) rfl hHeld (fun w' => ?_) ?_
  · go_simp
  simp only [Act.put, List.setIfInBounds_toArray, List.set_cons_zero, List.set_cons_succ]
  refine take_run 2 (.pointer (some ⟨g, 0, none⟩)) rfl (by kernel_rfl) (by kernel_rfl) (by kernel_rfl) (fun _ _ _ h => h) rfl hHeld (fun w' => ?_) ?_
  · go_simp
  simp only [Act.put, List.setIfInBounds_toArray, List.set_cons_zero, List.set_cons_succ]
  refine take_run 3 (.pointer (some ⟨g, 4, none⟩)) rfl (by kernel_rfl) (by kernel_rfl) (by kernel_rfl) (fun _ _ _ h => h) rfl hHeld (fun w' => ?_) ?_
  · go_simp
  simp only [Act.put, List.setIfInBounds_toArray, List.set_cons_zero, List.set_cons_succ]
  refine take_mid 4 27 _ g 4 (byv p.H) (idv p.H) rfl _ rfl rfl rfl (by kernel_rfl) (by kernel_rfl) (by kernel_rfl) (fun _ _ _ h => h) rfl hHeld (fun X hX => dk_head (blk_below kg1 hX)) Tryz.underlying27 rfl HHI.out ?_
  simp only [Act.put, List.setIfInBounds_toArray, List.set_cons_zero, List.set_cons_succ]
  refine take_blk 5 33 _ w.heap.size 33 (enA u) (0, 0) _ rfl rfl rfl (by kernel_rfl) (by kernel_rfl) (by kernel_rfl) (fun _ _ _ h => h) rfl hHeld (fun X hX => blk_below ke1 hX) Tryz.underlying33 rfl (info_en (enA_size _)) ?_
  simp only [Act.put, List.setIfInBounds_toArray, List.set_cons_zero, List.set_cons_succ]
  refine two_steps 6 10 (by kernel_rfl) rfl rfl (fun Kq hKq => ?_) (fun Kq hKq => ?_)
  · skip
    go_simp
    go_at_call 51
    refine (HLK.out _ (HK.out.from (HB1.out.trans (hSd.mono HB1.out.size)))).mono ?_
    rintro e y1 ⟨rfl, hbx⟩
    have hS1 : Below w1.heap.size w1 y1 := hSd.trans (hbx.mono hSd.size)
    clear hbx
    refine hKq.out _ _ hS1 (fun hHeld0 => ?_)
    clear hKq Kq hHeld
    have hHeld := hHeld0
    clear hHeld0
    try simp only [Act.put, List.setIfInBounds_toArray, List.set_cons_zero, List.set_cons_succ]
    refine take_run 7 (.tuple #[.agg (idv Z), .bool true]) rfl (by kernel_rfl) (by kernel_rfl) (by kernel_rfl) (fun _ _ _ h => h) rfl hHeld (fun w' => ?_) ?_
    · go_simp
    simp only [Act.put, List.setIfInBounds_toArray, List.set_cons_zero, List.set_cons_succ]
    refine take_run 8 (.agg (idv Z)) rfl (by kernel_rfl) (by kernel_rfl) (by kernel_rfl) (fun _ _ _ h => h) rfl hHeld (fun w' => ?_) ?_
    · go_simp
    simp only [Act.put, List.setIfInBounds_toArray, List.set_cons_zero, List.set_cons_succ]
    refine take_run 9 (.bool true) rfl (by kernel_rfl) (by kernel_rfl) (by kernel_rfl) (fun _ _ _ h => h) rfl hHeld (fun w' => ?_) ?_
    · go_simp
    simp only [Act.put, List.setIfInBounds_toArray, List.set_cons_zero, List.set_cons_succ]
    refine one_step 10 (by kernel_rfl) rfl (fun Kq hKq => ?_)
    have hz : RowB (y1.alloc (.cells (idv noughtsC) 27)) y1.heap.size 27 noughtsC := rowb_lit _ _ _ _ rfl
    have hS2 : Below w1.heap.size w1 (y1.alloc (.cells (idv noughtsC) 27)) := hS1.alloc hS1.size _
    have hgx : w1.heap.size ≤ y1.heap.size := hS1.size
    go_simp
    refine hKq.out _ _ hS2 (fun hHeld0 => ?_)
    clear hKq Kq hHeld
    have hHeld := hHeld0
    clear hHeld0
    try simp only [Act.put, List.setIfInBounds_toArray, List.set_cons_zero, List.set_cons_succ]
    refine one_step 11 (by kernel_rfl) rfl (fun Kq hKq => ?_)
    refine step_store_b 27 _ _ rfl y1.heap.size Z noughtsC rfl rfl 27 hz (info32 HZL.out) (by rw [HZL.out]; rfl) rfl ?_
    intro wM hgM hXM hsM
    have hSM : Below w1.heap.size w1 wM := hS2.grown hgM hS2.size (fun q e => by cases e; exact hgx)
    clear hgM hsM
    refine hKq.out _ _ hSM (fun hHeld0 => ?_)
    clear hKq Kq hHeld
    have hHeld := hHeld0
    clear hHeld0
    try simp only [Act.put, List.setIfInBounds_toArray, List.set_cons_zero, List.set_cons_succ]
    refine take_run 12 (.bool true) rfl (by kernel_rfl) (by kernel_rfl) (by kernel_rfl) (fun _ _ _ h => h) rfl hHeld (fun w' => ?_) ?_
    · go_simp
    simp only [Act.put, List.setIfInBounds_toArray, List.set_cons_zero, List.set_cons_succ]
    refine wpAnyH_done (by kernel_rfl) ?_ _
    obtain ⟨gx, hgxe⟩ : ∃ q, y1.heap.size = q := ⟨_, rfl⟩
    have hgx : w1.heap.size ≤ gx := Nat.le_trans hgx (Nat.le_of_eq hgxe)
    rw [hgxe] at hXM ⊢
    have kg2 := blk_below kg1 hSM
    have ke2 := blk_below ke1 hSM
    have HB2 := Lib.hid (HB1.out.trans (hSM.mono HB1.out.size))
    clear hgxe hHeld hSM hz hSd
    go_wp2_with (first
      | (refine wp_goto ⟨rfl, ?_⟩)
      | (apply wp_label)
      | ((with_reducible refine wpList_load_blk 29 _ rfl g ?hx3 48 p.arr (0, 0) _ kg2 Tryz.underlying29 ?hd3 HW.out ?_ ?hw3); (case hx3 => rfl); (case hd3 => rfl); (case hw3 => rfl))
      | (go_at_call 17
         (with_reducible refine (HMY.out _ HB2.out).mono ?_)
         rintro e w3 ⟨rfl, hbx⟩
         have kg3 := blk_below kg2 hbx
         have ke3 := blk_below ke2 hbx
         have HB3 := Lib.hid (HB2.out.trans (hbx.mono HB2.out.size))
         clear hbx))
    first | rw [Exit.noGoto_ret] | rw [jump_ret] | skip
    go_ret
    exact ⟨p, rfl, kg3, HL.out.below HB3.out, HLA.out, HOZ.out.below HB3.out, HB3.out.mono HBL.out⟩
  · skip
    have hz : RowB (w1.drew.alloc (.cells (idv noughtsC) 27)) w1.drew.heap.size 27 noughtsC := rowb_lit _ _ _ _ rfl
    have hS1 : Below w1.heap.size w1 (w1.drew.alloc (.cells (idv noughtsC) 27)) := hSd.alloc hSd.size _
    have hgx : w1.heap.size ≤ w1.drew.heap.size := hSd.size
    go_simp
    refine hKq.out _ _ hS1 (fun hHeld0 => ?_)
    clear hKq Kq hHeld
    have hHeld := hHeld0
    clear hHeld0
    try simp only [Act.put, List.setIfInBounds_toArray, List.set_cons_zero, List.set_cons_succ]
    refine one_step 6 (by kernel_rfl) rfl (fun Kq hKq => ?_)
    go_simp
    go_at_call 51
    refine (HLK.out _ (HK.out.from (HB1.out.trans (hS1.mono HB1.out.size)))).mono ?_
    rintro e y1 ⟨rfl, hbx⟩
    have hS2 : Below w1.heap.size w1 y1 := hS1.trans (hbx.mono hS1.size)
    have hz := hz.keep hbx
    clear hbx
    refine hKq.out _ _ hS2 (fun hHeld0 => ?_)
    clear hKq Kq hHeld
    have hHeld := hHeld0
    clear hHeld0
    try simp only [Act.put, List.setIfInBounds_toArray, List.set_cons_zero, List.set_cons_succ]
    refine take_run 7 (.tuple #[.agg (idv Z), .bool true]) rfl (by kernel_rfl) (by kernel_rfl) (by kernel_rfl) (fun _ _ _ h => h) rfl hHeld (fun w' => ?_) ?_
    · go_simp
    simp only [Act.put, List.setIfInBounds_toArray, List.set_cons_zero, List.set_cons_succ]
    refine take_run 8 (.agg (idv Z)) rfl (by kernel_rfl) (by kernel_rfl) (by kernel_rfl) (fun _ _ _ h => h) rfl hHeld (fun w' => ?_) ?_
    · go_simp
    simp only [Act.put, List.setIfInBounds_toArray, List.set_cons_zero, List.set_cons_succ]
    refine take_run 9 (.bool true) rfl (by kernel_rfl) (by kernel_rfl) (by kernel_rfl) (fun _ _ _ h => h) rfl hHeld (fun w' => ?_) ?_
    · go_simp
    simp only [Act.put, List.setIfInBounds_toArray, List.set_cons_zero, List.set_cons_succ]
    refine one_step 11 (by kernel_rfl) rfl (fun Kq hKq => ?_)
    refine step_store_b 27 _ _ rfl w1.heap.size Z noughtsC rfl rfl 27 hz (info32 HZL.out) (by rw [HZL.out]; rfl) rfl ?_
    intro wM hgM hXM hsM
    have hSM : Below w1.heap.size w1 wM := hS2.grown hgM hS2.size (fun q e => by cases e; exact hgx)
    clear hgM hsM
    refine hKq.out _ _ hSM (fun hHeld0 => ?_)
    clear hKq Kq hHeld
    have hHeld := hHeld0
    clear hHeld0
    try simp only [Act.put, List.setIfInBounds_toArray, List.set_cons_zero, List.set_cons_succ]
    refine take_run 12 (.bool true) rfl (by kernel_rfl) (by kernel_rfl) (by kernel_rfl) (fun _ _ _ h => h) rfl hHeld (fun w' => ?_) ?_
    · go_simp
    simp only [Act.put, List.setIfInBounds_toArray, List.set_cons_zero, List.set_cons_succ]
    refine wpAnyH_done (by kernel_rfl) ?_ _
    obtain ⟨gx, hgxe⟩ : ∃ q, w1.heap.size = q := ⟨_, rfl⟩
    have hgx : w1.heap.size ≤ gx := Nat.le_trans hgx (Nat.le_of_eq hgxe)
    rw [hgxe] at hXM ⊢
    have kg2 := blk_below kg1 hSM
    have ke2 := blk_below ke1 hSM
    have HB2 := Lib.hid (HB1.out.trans (hSM.mono HB1.out.size))
    clear hgxe hHeld hSM hz hSd
    go_wp2_with (first
      | (refine wp_goto ⟨rfl, ?_⟩)
      | (apply wp_label)
      | ((with_reducible refine wpList_load_blk 29 _ rfl g ?hx3 48 p.arr (0, 0) _ kg2 Tryz.underlying29 ?hd3 HW.out ?_ ?hw3); (case hx3 => rfl); (case hd3 => rfl); (case hw3 => rfl))
      | (go_at_call 17
         (with_reducible refine (HMY.out _ HB2.out).mono ?_)
         rintro e w3 ⟨rfl, hbx⟩
         have kg3 := blk_below kg2 hbx
         have ke3 := blk_below ke2 hbx
         have HB3 := Lib.hid (HB2.out.trans (hbx.mono HB2.out.size))
         clear hbx))
    first | rw [Exit.noGoto_ret] | rw [jump_ret] | skip
    go_ret
    exact ⟨p, rfl, kg3, HL.out.below HB3.out, HLA.out, HOZ.out.below HB3.out, HB3.out.mono HBL.out⟩
set_option maxHeartbeats 8000000 in
theorem awrite_full (B g : Nat) (p : Lp) (lg : Lg) (u : En) (spare : Int) (w : World) (hK : KTab w) (hD : Desk w B g p lg) (hsm : LgSm lg) (hu : u.ok) (he : mayE u = true) (hm : mayG lg = true) (hs : slotsG lg - lg.l.length ≤ spare) :
    Calls Tryz.prog 22 #[.pointer (some ⟨g, 0, none⟩), enV u, .int .i64 spare] w (Wrote B g 12 lg w) := by
  have h := hD.at_
  have hgl : g < w.heap.size := (Array.getElem?_eq_some_iff.1 hD.blk).1
  have kg0 := hD.blk
  have HK := Lib.hid hK
  have HL := Lib.hid h
  have HLO := Lib.hid hD.low
  have HLA := Lib.hid hD.lowA
  have HOZ := Lib.hid hD.own
  have HBL := Lib.hid (show B ≤ w.heap.size from Nat.le_of_lt (Nat.lt_of_le_of_lt hD.low hgl))
  have HHI := Lib.hid h.info
  have HW := Lib.hid h.whole
  have HWD := Lib.hid (info_desk (C := p.arr) (lp_size h.hlen))
  have HLK := Lib.hid (fun (X : World) (hk : KTab X) => clink_any p.H u X hk h.hlen h.hbyte hu)
  have HZL := Lib.hid (linkP_len p.H u)
  have HMY := Lib.hid (fun (X : World) (hX : Below w.heap.size w X) => amay_any p lg X (hK.from hX) (h.below hX))
  rw [hm] at HMY
  have HPU := Lib.hid (fun (X : World) => eput_yes u X he hu)
  have HPK := Lib.hid (put_ok u)
  have HPL := Lib.hid (show (putE u).length ≤ 30 by rw [put_len]; exact Nat.le_refl _)
  obtain ⟨PE, hPE⟩ : ∃ x, putE u = x := ⟨_, rfl⟩
  rw [hPE] at HPK HPL
  simp only [hPE] at HPU
  rw [he] at HLK
  clear hPE
  have HLF := Lib.hid (fun X => aleft_any p X h.hlen h.fits (by have := h.ents.len; have := hsm.2; omega))
  have hq0 : slotsG lg - lg.l.length = p.cap.tdiv 62 - p.m := by rw [slotsG, h.cap, h.ents.len]
  rw [hq0] at hs
  obtain ⟨q, hq⟩ : ∃ q, p.cap.tdiv 62 - (p.m : Int) = q := ⟨_, rfl⟩
  simp only [hq] at HLF hs
  clear hq hq0
  obtain ⟨Z, hZ⟩ : ∃ Z, linkP p.H u = Z := ⟨_, rfl⟩
  simp only [hZ] at HLK HZL
  have HB0 := Lib.hid (one_alloc w (.cells (enA u) 33 (0, 0)))
  clear h hZ hD hK hsm hu he hm
  unfold enV at HPU HLK ⊢
  go_enter Tryz.func22, Tryz.ntmps22
  go_wp2
  refine wp_scope_ahead 0 rfl ?_
  go_wp2_with (first
    | ((with_reducible refine wpList_load_blk 33 _ rfl w.heap.size ?hx1 33 (enA u) (0, 0) _ (heap_alloc_new w _) Tryz.underlying33 ?hd1 (info_en (enA_size _)) ?_ ?hw1); (case hx1 => rfl); (case hd1 => rfl); (case hw1 => rfl))
    | (go_at_call 50
       (with_reducible refine (HPU.out _).mono ?_)
       rintro e w1 ⟨v1, rfl, hown, hb1⟩
       have hown1 : Own w1 (w.heap.size + 1) v1 PE := by simpa using hown
       obtain ⟨A1, m1, c1, rfl, -⟩ := hown1.slice HPK.out
       have hb1 : Below (w.alloc (.cells (enA u) 33 (0, 0))).heap.size (w.alloc (.cells (enA u) 33 (0, 0))) w1 := hb1
       have HO1 := Lib.hid (fun k hk => (hown1.size k hk).2)
       have kg1 := blk_below (blk_below kg0 (one_alloc w (.cells (enA u) 33 (0, 0)))) hb1
       have ke1 := blk_below (heap_alloc_new w (.cells (enA u) 33 (0, 0))) hb1
       have HB1 := Lib.hid (HB0.out.trans (hb1.mono HB0.out.size))
       have hz1 : w.heap.size + 1 ≤ w1.heap.size := by have := hb1.size; simpa using this
       clear hb1 hown))
  have hSd : Below w1.heap.size w1 w1.drew := (Below.refl _ w1).drew
  refine wp_region_held_drew (S := fun X => Below w1.heap.size w1 X) (by kernel_rfl) hSd (fun hHeld => ?_)
  refine take_move 0 (.tmp 0) (.pointer (some ⟨g, 0, none⟩)) rfl rfl rfl (by kernel_rfl) (by kernel_rfl) (by kernel_rfl) (fun _ _ _ h => h) rfl hHeld ?_
  simp only [Act.put, List.setIfInBounds_toArray, List.set_cons_zero, List.set_cons_succ]
  refine take_run 1 (.pointer (some ⟨g, 0, none⟩)) rfl (by kernel_rfl) (by kernel_rfl) (by kernel_rfl) (fun _ _ _ h => h) rfl hHeld (fun w' => ?_) ?_
  · go_simp
  simp only [Act.put, List.setIfInBounds_toArray, List.set_cons_zero, List.set_cons_succ]
  refine take_run 2 (.pointer (some ⟨g, 0, none⟩)) rfl (by kernel_rfl) (by kernel_rfl) (by kernel_rfl) (fun _ _ _ h => h) rfl hHeld (fun w' => ?_) ?_
  · go_simp
  simp only [Act.put, List.setIfInBounds_toArray, List.set_cons_zero, List.set_cons_succ]
  refine take_run 3 (.pointer (some ⟨g, 4, none⟩)) rfl (by kernel_rfl) (by kernel_rfl) (by kernel_rfl) (fun _ _ _ h => h) rfl hHeld (fun w' => ?_) ?_
  · go_simp
  simp only [Act.put, List.setIfInBounds_toArray, List.set_cons_zero, List.set_cons_succ]
  refine take_mid 4 27 _ g 4 (byv p.H) (idv p.H) rfl _ rfl rfl rfl (by kernel_rfl) (by kernel_rfl) (by kernel_rfl) (fun _ _ _ h => h) rfl hHeld (fun X hX => dk_head (blk_below kg1 hX)) Tryz.underlying27 rfl HHI.out ?_
  simp only [Act.put, List.setIfInBounds_toArray, List.set_cons_zero, List.set_cons_succ]
  refine take_blk 5 33 _ w.heap.size 33 (enA u) (0, 0) _ rfl rfl rfl (by kernel_rfl) (by kernel_rfl) (by kernel_rfl) (fun _ _ _ h => h) rfl hHeld (fun X hX => blk_below ke1 hX) Tryz.underlying33 rfl (info_en (enA_size _)) ?_
  simp only [Act.put, List.setIfInBounds_toArray, List.set_cons_zero, List.set_cons_succ]
  refine two_steps 6 10 (by kernel_rfl) rfl rfl (fun Kq hKq => ?_) (fun Kq hKq => ?_)
  · skip
    go_simp
    go_at_call 51
    refine (HLK.out _ (HK.out.from (HB1.out.trans (hSd.mono HB1.out.size)))).mono ?_
    rintro e y1 ⟨rfl, hbx⟩
    have hS1 : Below w1.heap.size w1 y1 := hSd.trans (hbx.mono hSd.size)
    clear hbx
    refine hKq.out _ _ hS1 (fun hHeld0 => ?_)
    clear hKq Kq hHeld
    have hHeld := hHeld0
    clear hHeld0
    try simp only [Act.put, List.setIfInBounds_toArray, List.set_cons_zero, List.set_cons_succ]
    refine take_run 7 (.tuple #[.agg (idv Z), .bool true]) rfl (by kernel_rfl) (by kernel_rfl) (by kernel_rfl) (fun _ _ _ h => h) rfl hHeld (fun w' => ?_) ?_
    · go_simp
    simp only [Act.put, List.setIfInBounds_toArray, List.set_cons_zero, List.set_cons_succ]
    refine take_run 8 (.agg (idv Z)) rfl (by kernel_rfl) (by kernel_rfl) (by kernel_rfl) (fun _ _ _ h => h) rfl hHeld (fun w' => ?_) ?_
    · go_simp
    simp only [Act.put, List.setIfInBounds_toArray, List.set_cons_zero, List.set_cons_succ]
    refine take_run 9 (.bool true) rfl (by kernel_rfl) (by kernel_rfl) (by kernel_rfl) (fun _ _ _ h => h) rfl hHeld (fun w' => ?_) ?_
    · go_simp
    simp only [Act.put, List.setIfInBounds_toArray, List.set_cons_zero, List.set_cons_succ]
    refine one_step 10 (by kernel_rfl) rfl (fun Kq hKq => ?_)
    have hz : RowB (y1.alloc (.cells (idv noughtsC) 27)) y1.heap.size 27 noughtsC := rowb_lit _ _ _ _ rfl
    have hS2 : Below w1.heap.size w1 (y1.alloc (.cells (idv noughtsC) 27)) := hS1.alloc hS1.size _
    have hgx : w1.heap.size ≤ y1.heap.size := hS1.size
    go_simp
    refine hKq.out _ _ hS2 (fun hHeld0 => ?_)
    clear hKq Kq hHeld
    have hHeld := hHeld0
    clear hHeld0
    try simp only [Act.put, List.setIfInBounds_toArray, List.set_cons_zero, List.set_cons_succ]
    refine one_step 11 (by kernel_rfl) rfl (fun Kq hKq => ?_)
    refine step_store_b 27 _ _ rfl y1.heap.size Z noughtsC rfl rfl 27 hz (info32 HZL.out) (by rw [HZL.out]; rfl) rfl ?_
    intro wM hgM hXM hsM
    have hSM : Below w1.heap.size w1 wM := hS2.grown hgM hS2.size (fun q e => by cases e; exact hgx)
    clear hgM hsM
    refine hKq.out _ _ hSM (fun hHeld0 => ?_)
    clear hKq Kq hHeld
    have hHeld := hHeld0
    clear hHeld0
    try simp only [Act.put, List.setIfInBounds_toArray, List.set_cons_zero, List.set_cons_succ]
    refine take_run 12 (.bool true) rfl (by kernel_rfl) (by kernel_rfl) (by kernel_rfl) (fun _ _ _ h => h) rfl hHeld (fun w' => ?_) ?_
    · go_simp
    simp only [Act.put, List.setIfInBounds_toArray, List.set_cons_zero, List.set_cons_succ]
    refine wpAnyH_done (by kernel_rfl) ?_ _
    obtain ⟨gx, hgxe⟩ : ∃ q, y1.heap.size = q := ⟨_, rfl⟩
    have hgx : w1.heap.size ≤ gx := Nat.le_trans hgx (Nat.le_of_eq hgxe)
    rw [hgxe] at hXM ⊢
    have kg2 := blk_below kg1 hSM
    have ke2 := blk_below ke1 hSM
    have HB2 := Lib.hid (HB1.out.trans (hSM.mono HB1.out.size))
    clear hgxe hHeld hSM hz hSd
    go_wp2_with (first
      | (refine wp_goto ⟨rfl, ?_⟩)
      | (apply wp_label)
      | ((with_reducible refine wpList_load_blk 29 _ rfl g ?hx3 48 p.arr (0, 0) _ kg2 Tryz.underlying29 ?hd3 HW.out ?_ ?hw3); (case hx3 => rfl); (case hd3 => rfl); (case hw3 => rfl))
      | (go_at_call 17
         (with_reducible refine (HMY.out _ HB2.out).mono ?_)
         rintro e w3 ⟨rfl, hbx⟩
         have kg3 := blk_below kg2 hbx
         have ke3 := blk_below ke2 hbx
         have HB3 := Lib.hid (HB2.out.trans (hbx.mono HB2.out.size))
         clear hbx)
      | ((with_reducible refine wpList_load_blk 48 _ rfl g ?hx5 48 p.arr (0, 0) _ kg3 Tryz.underlying48 ?hd5 HWD.out ?_ ?hw5); (case hx5 => rfl); (case hd5 => rfl); (case hw5 => rfl))
      | (go_at_call 47
         (with_reducible refine (HLF.out _).mono ?_)
         rintro e w4 ⟨rfl, hbx⟩
         have kg4 := blk_below kg3 hbx
         have ke4 := blk_below ke3 hbx
         have HB4 := Lib.hid (HB3.out.trans (hbx.mono HB3.out.size))
         clear hbx))
    first | rw [Exit.noGoto_ret] | rw [jump_ret] | skip
    go_ret
    exact ⟨p, rfl, kg4, HL.out.below HB4.out, HLA.out, HOZ.out.below HB4.out, HB4.out.mono HBL.out⟩
  · skip
    have hz : RowB (w1.drew.alloc (.cells (idv noughtsC) 27)) w1.drew.heap.size 27 noughtsC := rowb_lit _ _ _ _ rfl
    have hS1 : Below w1.heap.size w1 (w1.drew.alloc (.cells (idv noughtsC) 27)) := hSd.alloc hSd.size _
    have hgx : w1.heap.size ≤ w1.drew.heap.size := hSd.size
    go_simp
    refine hKq.out _ _ hS1 (fun hHeld0 => ?_)
    clear hKq Kq hHeld
    have hHeld := hHeld0
    clear hHeld0
    try simp only [Act.put, List.setIfInBounds_toArray, List.set_cons_zero, List.set_cons_succ]
    refine one_step 6 (by kernel_rfl) rfl (fun Kq hKq => ?_)
    go_simp
    go_at_call 51
    refine (HLK.out _ (HK.out.from (HB1.out.trans (hS1.mono HB1.out.size)))).mono ?_
    rintro e y1 ⟨rfl, hbx⟩
    have hS2 : Below w1.heap.size w1 y1 := hS1.trans (hbx.mono hS1.size)
    have hz := hz.keep hbx
    clear hbx
    refine hKq.out _ _ hS2 (fun hHeld0 => ?_)
    clear hKq Kq hHeld
    have hHeld := hHeld0
    clear hHeld0
    try simp only [Act.put, List.setIfInBounds_toArray, List.set_cons_zero, List.set_cons_succ]
    refine take_run 7 (.tuple #[.agg (idv Z), .bool true]) rfl (by kernel_rfl) (by kernel_rfl) (by kernel_rfl) (fun _ _ _ h => h) rfl hHeld (fun w' => ?_) ?_
    · go_simp
    simp only [Act.put, List.setIfInBounds_toArray, List.set_cons_zero, List.set_cons_succ]
    refine take_run 8 (.agg (idv Z)) rfl (by kernel_rfl) (by kernel_rfl) (by kernel_rfl) (fun _ _ _ h => h) rfl hHeld (fun w' => ?_) ?_
    · go_simp
    simp only [Act.put, List.setIfInBounds_toArray, List.set_cons_zero, List.set_cons_succ]
    refine take_run 9 (.bool true) rfl (by kernel_rfl) (by kernel_rfl) (by kernel_rfl) (fun _ _ _ h => h) rfl hHeld (fun w' => ?_) ?_
    · go_simp
    simp only [Act.put, List.setIfInBounds_toArray, List.set_cons_zero, List.set_cons_succ]
    refine one_step 11 (by kernel_rfl) rfl (fun Kq hKq => ?_)
    refine step_store_b 27 _ _ rfl w1.heap.size Z noughtsC rfl rfl 27 hz (info32 HZL.out) (by rw [HZL.out]; rfl) rfl ?_
    intro wM hgM hXM hsM
    have hSM : Below w1.heap.size w1 wM := hS2.grown hgM hS2.size (fun q e => by cases e; exact hgx)
    clear hgM hsM
    refine hKq.out _ _ hSM (fun hHeld0 => ?_)
    clear hKq Kq hHeld
    have hHeld := hHeld0
    clear hHeld0
    try simp only [Act.put, List.setIfInBounds_toArray, List.set_cons_zero, List.set_cons_succ]
    refine take_run 12 (.bool true) rfl (by kernel_rfl) (by kernel_rfl) (by kernel_rfl) (fun _ _ _ h => h) rfl hHeld (fun w' => ?_) ?_
    · go_simp
    simp only [Act.put, List.setIfInBounds_toArray, List.set_cons_zero, List.set_cons_succ]
    refine wpAnyH_done (by kernel_rfl) ?_ _
    obtain ⟨gx, hgxe⟩ : ∃ q, w1.heap.size = q := ⟨_, rfl⟩
    have hgx : w1.heap.size ≤ gx := Nat.le_trans hgx (Nat.le_of_eq hgxe)
    rw [hgxe] at hXM ⊢
    have kg2 := blk_below kg1 hSM
    have ke2 := blk_below ke1 hSM
    have HB2 := Lib.hid (HB1.out.trans (hSM.mono HB1.out.size))
    clear hgxe hHeld hSM hz hSd
    go_wp2_with (first
      | (refine wp_goto ⟨rfl, ?_⟩)
      | (apply wp_label)
      | ((with_reducible refine wpList_load_blk 29 _ rfl g ?hx3 48 p.arr (0, 0) _ kg2 Tryz.underlying29 ?hd3 HW.out ?_ ?hw3); (case hx3 => rfl); (case hd3 => rfl); (case hw3 => rfl))
      | (go_at_call 17
         (with_reducible refine (HMY.out _ HB2.out).mono ?_)
         rintro e w3 ⟨rfl, hbx⟩
         have kg3 := blk_below kg2 hbx
         have ke3 := blk_below ke2 hbx
         have HB3 := Lib.hid (HB2.out.trans (hbx.mono HB2.out.size))
         clear hbx)
      | ((with_reducible refine wpList_load_blk 48 _ rfl g ?hx5 48 p.arr (0, 0) _ kg3 Tryz.underlying48 ?hd5 HWD.out ?_ ?hw5); (case hx5 => rfl); (case hd5 => rfl); (case hw5 => rfl))
      | (go_at_call 47
         (with_reducible refine (HLF.out _).mono ?_)
         rintro e w4 ⟨rfl, hbx⟩
         have kg4 := blk_below kg3 hbx
         have ke4 := blk_below ke3 hbx
         have HB4 := Lib.hid (HB3.out.trans (hbx.mono HB3.out.size))
         clear hbx))
    first | rw [Exit.noGoto_ret] | rw [jump_ret] | skip
    go_ret
    exact ⟨p, rfl, kg4, HL.out.below HB4.out, HLA.out, HOZ.out.below HB4.out, HB4.out.mono HBL.out⟩
set_option maxHeartbeats 8000000 in
theorem awrite_ok (B g : Nat) (p : Lp) (lg : Lg) (u : En) (spare : Int) (w : World) (hK : KTab w) (hD : Desk w B g p lg) (hsm : LgSm lg) (hu : u.ok) (he : mayE u = true) (hm : mayG lg = true) (hs : spare < slotsG lg - lg.l.length) (h0 : 0 ≤ spare) :
    Calls Tryz.prog 22 #[.pointer (some ⟨g, 0, none⟩), enV u, .int .i64 spare] w (Wrote B g 0 ⟨(writeP lg.st (recG lg u)).1, lg.l ++ [u], linkP lg.head u⟩ w) := by
  have h := hD.at_
  have hgl : g < w.heap.size := (Array.getElem?_eq_some_iff.1 hD.blk).1
  have kg0 := hD.blk
  have HK := Lib.hid hK
  have HL := Lib.hid h
  have HLO := Lib.hid hD.low
  have HLA := Lib.hid hD.lowA
  have HOZ := Lib.hid hD.own
  have HBL := Lib.hid (show B ≤ w.heap.size from Nat.le_of_lt (Nat.lt_of_le_of_lt hD.low hgl))
  have HHI := Lib.hid h.info
  have HW := Lib.hid h.whole
  have HWD := Lib.hid (info_desk (C := p.arr) (lp_size h.hlen))
  have HLK := Lib.hid (fun (X : World) (hk : KTab X) => clink_any p.H u X hk h.hlen h.hbyte hu)
  have HZL := Lib.hid (linkP_len p.H u)
  have HMY := Lib.hid (fun (X : World) (hX : Below w.heap.size w X) => amay_any p lg X (hK.from hX) (h.below hX))
  rw [hm] at HMY
  have HPU := Lib.hid (fun (X : World) => eput_yes u X he hu)
  have HPK := Lib.hid (put_ok u)
  have HPL := Lib.hid (show (putE u).length ≤ 30 by rw [put_len]; exact Nat.le_refl _)
  have hr : (lg.l.length : Int) < slotsG lg := by omega
  have hwr := write_rec hm he hr
  have hoc := (write_may (mayG_iff.1 hm).1 hwr).1
  have hcp : (writeP lg.st (recG lg u)).1.cap = lg.st.cap := by rw [hwr]
  have HZB := Lib.hid (linkP_byte p.H u)
  have HROK := Lib.hid (rec_ok (g := lg) (u := u))
  have HRE := Lib.hid (show putE u ++ linkP lg.head u = recG lg u by rw [recG, if_pos he])
  have HOK := Lib.hid (show Lg.ok ⟨(writeP lg.st (recG lg u)).1, lg.l ++ [u], linkP lg.head u⟩ from ⟨fun v hv => by
    rcases List.mem_append.1 hv with hv | hv
    · exact h.ok.each v hv
    · rw [List.mem_singleton.1 hv]; exact hu, linkP_len _ _, linkP_byte _ _⟩)
  have HFT := Lib.hid (show -9223372036854775808 ≤ (writeP lg.st (recG lg u)).1.cap ∧ (writeP lg.st (recG lg u)).1.cap ≤ 9223372036854775807 by rw [hcp, ← h.cap]; exact h.fits)
  have h20 : (writeP lg.st (recG lg u)).2 = 0 := by rw [hwr]
  have HWR := Lib.hid (show ∀ (A8 : Option Addr) (n8 c8 : Nat) (X : World), Below w.heap.size w X → Bts X A8 n8 c8 (recG lg u) → Calls Tryz.prog 52 #[.agg #[.int .i64 p.cap, .slice p.A p.n p.c, .int .i64 p.sure], .slice A8 n8 c8] X (GSEn (writeP lg.st (recG lg u)) X) from fun A8 n8 c8 X hX hb => by
    have h0 := stwrite_new lg.st (recG lg u) p.A A8 p.n p.c n8 c8 X (h.data.below hX) (by have := h.data.len; have := hsm.1; omega) hb
    rw [h.val] at h0
    exact h0)
  rw [← h.head] at HRE HOK ⊢
  obtain ⟨T, hT⟩ : ∃ T, writeP lg.st (recG lg u) = T := ⟨_, rfl⟩
  simp only [hT] at HWR HOK HFT h20 ⊢
  obtain ⟨⟨C1, D1, S1⟩, E1⟩ := T
  simp only at h20 HOK HFT HWR ⊢
  subst h20
  unfold GSEn at HWR
  simp only at HWR
  obtain ⟨RC, hRC⟩ : ∃ x, recG lg u = x := ⟨_, rfl⟩
  rw [hRC] at HRE HROK
  simp only [hRC] at HWR
  have HOE := Lib.hid hD.own
  have HRO := Lib.hid (show (lg.l ++ [u]).map En.row = lg.l.map En.row ++ [En.row u] by simp)
  have HRL := Lib.hid (show (lg.l.map En.row).length ≤ 1000000 by rw [List.length_map]; exact hsm.2)
  have HOW := Lib.hid (fun k hk => (hD.own.size k hk).2)
  have HS := Lib.hid (lp_size h.hlen)
  have HPH := Lib.hid h.hlen
  obtain ⟨RW, hRW⟩ : ∃ x, lg.l.map En.row = x := ⟨_, rfl⟩
  rw [hRW] at HOE HRO HRL
  clear hwr hoc hcp hT hRC hRW hr
  obtain ⟨PE, hPE⟩ : ∃ x, putE u = x := ⟨_, rfl⟩
  rw [hPE] at HPK HPL HRE
  simp only [hPE] at HPU
  rw [he] at HLK
  clear hPE
  have HLF := Lib.hid (fun X => aleft_any p X h.hlen h.fits (by have := h.ents.len; have := hsm.2; omega))
  have hq0 : slotsG lg - lg.l.length = p.cap.tdiv 62 - p.m := by rw [slotsG, h.cap, h.ents.len]
  rw [hq0] at hs
  obtain ⟨q, hq⟩ : ∃ q, p.cap.tdiv 62 - (p.m : Int) = q := ⟨_, rfl⟩
  simp only [hq] at HLF hs
  clear hq hq0
  obtain ⟨Z, hZ⟩ : ∃ Z, linkP p.H u = Z := ⟨_, rfl⟩
  simp only [hZ] at HLK HZL HZB HRE HOK ⊢
  have HB0 := Lib.hid (one_alloc w (.cells (enA u) 33 (0, 0)))
  clear h hZ hD hK hsm hu he hm
  unfold enV at HPU HLK ⊢
  go_enter Tryz.func22, Tryz.ntmps22
  go_wp2
  refine wp_scope_ahead 0 rfl ?_
  go_wp2_with (first
    | ((with_reducible refine wpList_load_blk 33 _ rfl w.heap.size ?hx1 33 (enA u) (0, 0) _ (heap_alloc_new w _) Tryz.underlying33 ?hd1 (info_en (enA_size _)) ?_ ?hw1); (case hx1 => rfl); (case hd1 => rfl); (case hw1 => rfl))
    | (go_at_call 50
       (with_reducible refine (HPU.out _).mono ?_)
       rintro e w1 ⟨v1, rfl, hown, hb1⟩
       have hown1 : Own w1 (w.heap.size + 1) v1 PE := by simpa using hown
       obtain ⟨A1, m1, c1, rfl, -⟩ := hown1.slice HPK.out
       have hb1 : Below (w.alloc (.cells (enA u) 33 (0, 0))).heap.size (w.alloc (.cells (enA u) 33 (0, 0))) w1 := hb1
       have HO1 := Lib.hid (fun k hk => (hown1.size k hk).2)
       have kg1 := blk_below (blk_below kg0 (one_alloc w (.cells (enA u) 33 (0, 0)))) hb1
       have ke1 := blk_below (heap_alloc_new w (.cells (enA u) 33 (0, 0))) hb1
       have HB1 := Lib.hid (HB0.out.trans (hb1.mono HB0.out.size))
       have hz1 : w.heap.size + 1 ≤ w1.heap.size := by have := hb1.size; simpa using this
       clear hb1 hown))
  have hSd : Below w1.heap.size w1 w1.drew := (Below.refl _ w1).drew
  refine wp_region_held_drew (S := fun X => Below w1.heap.size w1 X) (by kernel_rfl) hSd (fun hHeld => ?_)
  refine take_move 0 (.tmp 0) (.pointer (some ⟨g, 0, none⟩)) rfl rfl rfl (by kernel_rfl) (by kernel_rfl) (by kernel_rfl) (fun _ _ _ h => h) rfl hHeld ?_
  simp only [Act.put, List.setIfInBounds_toArray, List.set_cons_zero, List.set_cons_succ]
  refine take_run 1 (.pointer (some ⟨g, 0, none⟩)) rfl (by kernel_rfl) (by kernel_rfl) (by kernel_rfl) (fun _ _ _ h => h) rfl hHeld (fun w' => ?_) ?_
  · go_simp
  simp only [Act.put, List.setIfInBounds_toArray, List.set_cons_zero, List.set_cons_succ]
  refine take_run 2 (.pointer (some ⟨g, 0, none⟩)) rfl (by kernel_rfl) (by kernel_rfl) (by kernel_rfl) (fun _ _ _ h => h) rfl hHeld (fun w' => ?_) ?_
  · go_simp
  simp only [Act.put, List.setIfInBounds_toArray, List.set_cons_zero, List.set_cons_succ]
  refine take_run 3 (.pointer (some ⟨g, 4, none⟩)) rfl (by kernel_rfl) (by kernel_rfl) (by kernel_rfl) (fun _ _ _ h => h) rfl hHeld (fun w' => ?_) ?_
  · go_simp
  simp only [Act.put, List.setIfInBounds_toArray, List.set_cons_zero, List.set_cons_succ]
  refine take_mid 4 27 _ g 4 (byv p.H) (idv p.H) rfl _ rfl rfl rfl (by kernel_rfl) (by kernel_rfl) (by kernel_rfl) (fun _ _ _ h => h) rfl hHeld (fun X hX => dk_head (blk_below kg1 hX)) Tryz.underlying27 rfl HHI.out ?_
  simp only [Act.put, List.setIfInBounds_toArray, List.set_cons_zero, List.set_cons_succ]
  refine take_blk 5 33 _ w.heap.size 33 (enA u) (0, 0) _ rfl rfl rfl (by kernel_rfl) (by kernel_rfl) (by kernel_rfl) (fun _ _ _ h => h) rfl hHeld (fun X hX => blk_below ke1 hX) Tryz.underlying33 rfl (info_en (enA_size _)) ?_
  simp only [Act.put, List.setIfInBounds_toArray, List.set_cons_zero, List.set_cons_succ]
  refine two_steps 6 10 (by kernel_rfl) rfl rfl (fun Kq hKq => ?_) (fun Kq hKq => ?_)
  · skip
    go_simp
    go_at_call 51
    refine (HLK.out _ (HK.out.from (HB1.out.trans (hSd.mono HB1.out.size)))).mono ?_
    rintro e y1 ⟨rfl, hbx⟩
    have hS1 : Below w1.heap.size w1 y1 := hSd.trans (hbx.mono hSd.size)
    clear hbx
    refine hKq.out _ _ hS1 (fun hHeld0 => ?_)
    clear hKq Kq hHeld
    have hHeld := hHeld0
    clear hHeld0
    try simp only [Act.put, List.setIfInBounds_toArray, List.set_cons_zero, List.set_cons_succ]
    refine take_run 7 (.tuple #[.agg (idv Z), .bool true]) rfl (by kernel_rfl) (by kernel_rfl) (by kernel_rfl) (fun _ _ _ h => h) rfl hHeld (fun w' => ?_) ?_
    · go_simp
    simp only [Act.put, List.setIfInBounds_toArray, List.set_cons_zero, List.set_cons_succ]
    refine take_run 8 (.agg (idv Z)) rfl (by kernel_rfl) (by kernel_rfl) (by kernel_rfl) (fun _ _ _ h => h) rfl hHeld (fun w' => ?_) ?_
    · go_simp
    simp only [Act.put, List.setIfInBounds_toArray, List.set_cons_zero, List.set_cons_succ]
    refine take_run 9 (.bool true) rfl (by kernel_rfl) (by kernel_rfl) (by kernel_rfl) (fun _ _ _ h => h) rfl hHeld (fun w' => ?_) ?_
    · go_simp
    simp only [Act.put, List.setIfInBounds_toArray, List.set_cons_zero, List.set_cons_succ]
    refine one_step 10 (by kernel_rfl) rfl (fun Kq hKq => ?_)
    have hz : RowB (y1.alloc (.cells (idv noughtsC) 27)) y1.heap.size 27 noughtsC := rowb_lit _ _ _ _ rfl
    have hS2 : Below w1.heap.size w1 (y1.alloc (.cells (idv noughtsC) 27)) := hS1.alloc hS1.size _
    have hgx : w1.heap.size ≤ y1.heap.size := hS1.size
    go_simp
    refine hKq.out _ _ hS2 (fun hHeld0 => ?_)
    clear hKq Kq hHeld
    have hHeld := hHeld0
    clear hHeld0
    try simp only [Act.put, List.setIfInBounds_toArray, List.set_cons_zero, List.set_cons_succ]
    refine one_step 11 (by kernel_rfl) rfl (fun Kq hKq => ?_)
    refine step_store_b 27 _ _ rfl y1.heap.size Z noughtsC rfl rfl 27 hz (info32 HZL.out) (by rw [HZL.out]; rfl) rfl ?_
    intro wM hgM hXM hsM
    have hSM : Below w1.heap.size w1 wM := hS2.grown hgM hS2.size (fun q e => by cases e; exact hgx)
    clear hgM hsM
    refine hKq.out _ _ hSM (fun hHeld0 => ?_)
    clear hKq Kq hHeld
    have hHeld := hHeld0
    clear hHeld0
    try simp only [Act.put, List.setIfInBounds_toArray, List.set_cons_zero, List.set_cons_succ]
    refine take_run 12 (.bool true) rfl (by kernel_rfl) (by kernel_rfl) (by kernel_rfl) (fun _ _ _ h => h) rfl hHeld (fun w' => ?_) ?_
    · go_simp
    simp only [Act.put, List.setIfInBounds_toArray, List.set_cons_zero, List.set_cons_succ]
    refine wpAnyH_done (by kernel_rfl) ?_ _
    obtain ⟨gx, hgxe⟩ : ∃ q, y1.heap.size = q := ⟨_, rfl⟩
    have hgx : w1.heap.size ≤ gx := Nat.le_trans hgx (Nat.le_of_eq hgxe)
    rw [hgxe] at hXM ⊢
    have kg2 := blk_below kg1 hSM
    have ke2 := blk_below ke1 hSM
    have HB2 := Lib.hid (HB1.out.trans (hSM.mono HB1.out.size))
    have hown2 := hown1.below hSM
    have HE2 := Lib.hid (show Below (w.heap.size + 1) w1 wM from hSM.mono hz1)
    clear hgxe hHeld hSM hz hSd
    go_wp2_with (first
      | (refine wp_goto ⟨rfl, ?_⟩)
      | (apply wp_label)
      | ((with_reducible refine wpList_load_blk 29 _ rfl g ?hx3 48 p.arr (0, 0) _ kg2 Tryz.underlying29 ?hd3 HW.out ?_ ?hw3); (case hx3 => rfl); (case hd3 => rfl); (case hw3 => rfl))
      | (go_at_call 17
         (with_reducible refine (HMY.out _ HB2.out).mono ?_)
         rintro e w3 ⟨rfl, hbx⟩
         have kg3 := blk_below kg2 hbx
         have ke3 := blk_below ke2 hbx
         have HB3 := Lib.hid (HB2.out.trans (hbx.mono HB2.out.size))
         have hown3 := hown2.below hbx
         have HE3 := Lib.hid (HE2.out.trans (hbx.mono (HE2.out.size_from hz1)))
         have hX3 := hXM.keep hbx
         clear hbx)
      | ((with_reducible refine wpList_load_blk 48 _ rfl g ?hx5 48 p.arr (0, 0) _ kg3 Tryz.underlying48 ?hd5 HWD.out ?_ ?hw5); (case hx5 => rfl); (case hd5 => rfl); (case hw5 => rfl))
      | (go_at_call 47
         (with_reducible refine (HLF.out _).mono ?_)
         rintro e w4 ⟨rfl, hbx⟩
         have kg4 := blk_below kg3 hbx
         have ke4 := blk_below ke3 hbx
         have HB4 := Lib.hid (HB3.out.trans (hbx.mono HB3.out.size))
         have hown4 := hown3.below hbx
         have HE4 := Lib.hid (HE3.out.trans (hbx.mono (HE3.out.size_from hz1)))
         have hX4 := hX3.keep hbx
         clear hbx))
    clear kg2 kg3 ke2 ke3 hown2 hown3 hXM hX3
    have hE4d := HE4.out.drew
    have hXd := hX4.draw1
    have hownd := hown4.draw1
    have kgd := blk_drew kg4
    have hBd := HB4.out.drew
    have hzd : w.heap.size + 1 ≤ w4.drew.heap.size := HE4.out.size_from hz1
    clear kg4 ke4 hX4 hown4
    refine wp_region_held_drew (S := fun _ => True) (by kernel_rfl) trivial (fun hHeld => ?_)
    refine take_move 0 (.tmp 0) (.pointer (some ⟨g, 0, none⟩)) rfl rfl rfl (by kernel_rfl) (by kernel_rfl) (by kernel_rfl) (fun _ _ _ h => h) rfl hHeld ?_
    simp only [Act.put, List.setIfInBounds_toArray, List.set_cons_zero, List.set_cons_succ]
    refine take_move 1 (.tmp 0) (.pointer (some ⟨g, 0, none⟩)) rfl rfl rfl (by kernel_rfl) (by kernel_rfl) (by kernel_rfl) (fun _ _ _ h => h) rfl hHeld ?_
    simp only [Act.put, List.setIfInBounds_toArray, List.set_cons_zero, List.set_cons_succ]
    refine take_run 2 (.pointer (some ⟨g, 0, none⟩)) rfl (by kernel_rfl) (by kernel_rfl) (by kernel_rfl) (fun _ _ _ h => h) rfl hHeld (fun w' => ?_) ?_
    · go_simp
    simp only [Act.put, List.setIfInBounds_toArray, List.set_cons_zero, List.set_cons_succ]
    refine take_run 3 (.pointer (some ⟨g, 0, none⟩)) rfl (by kernel_rfl) (by kernel_rfl) (by kernel_rfl) (fun _ _ _ h => h) rfl hHeld (fun w' => ?_) ?_
    · go_simp
    simp only [Act.put, List.setIfInBounds_toArray, List.set_cons_zero, List.set_cons_succ]
    refine take_run 4 (.pointer (some ⟨g, 0, none⟩)) rfl (by kernel_rfl) (by kernel_rfl) (by kernel_rfl) (fun _ _ _ h => h) rfl hHeld (fun w' => ?_) ?_
    · go_simp
    simp only [Act.put, List.setIfInBounds_toArray, List.set_cons_zero, List.set_cons_succ]
    refine take_move 6 (.tmp 7) (.slice A1 m1 c1) rfl rfl rfl (by kernel_rfl) (by kernel_rfl) (by kernel_rfl) (fun _ _ _ h => h) rfl hHeld ?_
    simp only [Act.put, List.setIfInBounds_toArray, List.set_cons_zero, List.set_cons_succ]
    refine take_run 7 (.slice (some ⟨gx, 0, none⟩) 32 32) rfl (by kernel_rfl) (by kernel_rfl) (by kernel_rfl) (fun _ _ _ h => h) rfl hHeld (fun w' => ?_) ?_
    · have hq := run_all32 ⟨gx, 0, none⟩ w'
      go_simp
    simp only [Act.put, List.setIfInBounds_toArray, List.set_cons_zero, List.set_cons_succ]
    refine two_steps 5 8 (by kernel_rfl) rfl rfl (fun Kq hKq => ?_) (fun Kq hKq => ?_)
    · skip
      refine step_load_mid 24 _ rfl g 0 rfl [.int .i64 p.cap, .slice p.A p.n p.c, .int .i64 p.sure] _ rfl _ (dk_st kgd) Tryz.underlying24 rfl (by kernel_rfl) rfl ?_
      refine hKq.out _ _ trivial (fun hHeld0 => ?_)
      clear hKq Kq hHeld
      have hHeld := hHeld0
      clear hHeld0
      try simp only [Act.put, List.setIfInBounds_toArray, List.set_cons_zero, List.set_cons_succ]
      refine one_step 8 (by kernel_rfl) rfl (fun Kq hKq => ?_)
      refine step_append_o (.tmp 50) (.tmp 51) rfl (w.heap.size + 1) (.slice A1 m1 c1) PE rfl hownd (some ⟨gx, 0, none⟩) 32 32 Z rfl (hXd.btsAt HZL.out (by unfold maxLen; omega) HZB.out) (by have := HPL.out; omega) hzd rfl ?_
      intro v8 w8 hown8 hg8
      have hE8 := hE4d.grown hg8 hzd (fun k hk => (hownd.size k hk).1)
      have hX8 := hXd.grown hg8 (fun e => absurd (HO1.out _ e.symm) (Nat.not_lt.2 hgx))
      rw [HRE.out] at hown8
      obtain ⟨A8, n8, c8, rfl, hbt8⟩ := hown8.slice HROK.out
      have hB8 := HB1.out.trans (hE8.mono (Nat.le_succ _))
      clear hg8 hown8
      refine hKq.out _ _ trivial (fun hHeld0 => ?_)
      clear hKq Kq hHeld
      have hHeld := hHeld0
      clear hHeld0
      try simp only [Act.put, List.setIfInBounds_toArray, List.set_cons_zero, List.set_cons_succ]
      refine one_step 9 (by kernel_rfl) rfl (fun Kq hKq => ?_)
      go_simp
      go_at_call 52
      refine (HWR.out A8 n8 c8 w8 hB8 hbt8).mono ?_
      rintro e y9 ⟨A9, n9, c9, rfl, hbt9, hlo9, hbx⟩
      have hz8 : w.heap.size + 1 ≤ w8.heap.size := hE8.size_from hz1
      have hE9 := hE8.trans (hbx.mono hz8)
      have hX9 := hX8.keep hbx
      have hfa := blk_far (n := n9) (lo := B) hlo9 (Nat.le_of_succ_le hz8)
      have hB9 := HB1.out.trans (hE9.mono (Nat.le_succ _))
      have hal : ∀ a, A9 = some a → w.heap.size ≤ a.block := fun a ha => Nat.le_trans (Nat.le_of_succ_le hz8) (hlo9 a ha)
      have kg9 := (hE9.block g (Nat.lt_succ_of_lt hgl)).trans kg1
      have ke9 := (hE9.block w.heap.size (Nat.lt_succ_self _)).trans ke1
      have hoe9 := HOE.out.below hB9
      clear hbx hX8 hbt8 hE8 hlo9
      refine hKq.out _ _ trivial (fun hHeld0 => ?_)
      clear hKq Kq hHeld
      have hHeld := hHeld0
      clear hHeld0
      try simp only [Act.put, List.setIfInBounds_toArray, List.set_cons_zero, List.set_cons_succ]
      refine take_run 10 (.tuple #[.agg #[.int .i64 C1, .slice A9 n9 c9, .int .i64 S1], .int .i64 0]) rfl (by kernel_rfl) (by kernel_rfl) (by kernel_rfl) (fun _ _ _ h => h) rfl hHeld (fun w' => ?_) ?_
      · go_simp
      simp only [Act.put, List.setIfInBounds_toArray, List.set_cons_zero, List.set_cons_succ]
      refine take_run 11 (.agg #[.int .i64 C1, .slice A9 n9 c9, .int .i64 S1]) rfl (by kernel_rfl) (by kernel_rfl) (by kernel_rfl) (fun _ _ _ h => h) rfl hHeld (fun w' => ?_) ?_
      · go_simp
      simp only [Act.put, List.setIfInBounds_toArray, List.set_cons_zero, List.set_cons_succ]
      refine take_run 12 (.int .i64 0) rfl (by kernel_rfl) (by kernel_rfl) (by kernel_rfl) (fun _ _ _ h => h) rfl hHeld (fun w' => ?_) ?_
      · go_simp
      simp only [Act.put, List.setIfInBounds_toArray, List.set_cons_zero, List.set_cons_succ]
      refine take_run 13 (.pointer (some ⟨g, 0, none⟩)) rfl (by kernel_rfl) (by kernel_rfl) (by kernel_rfl) (fun _ _ _ h => h) rfl hHeld (fun w' => ?_) ?_
      · go_simp
      simp only [Act.put, List.setIfInBounds_toArray, List.set_cons_zero, List.set_cons_succ]
      refine take_run 14 (.pointer (some ⟨g, 0, none⟩)) rfl (by kernel_rfl) (by kernel_rfl) (by kernel_rfl) (fun _ _ _ h => h) rfl hHeld (fun w' => ?_) ?_
      · go_simp
      simp only [Act.put, List.setIfInBounds_toArray, List.set_cons_zero, List.set_cons_succ]
      refine take_run 15 (.pointer (some ⟨g, 0, none⟩)) rfl (by kernel_rfl) (by kernel_rfl) (by kernel_rfl) (fun _ _ _ h => h) rfl hHeld (fun w' => ?_) ?_
      · go_simp
      simp only [Act.put, List.setIfInBounds_toArray, List.set_cons_zero, List.set_cons_succ]
      refine one_step 16 (by kernel_rfl) rfl (fun Kq hKq => ?_)
      refine step_store_in 24 _ _ rfl g 0 (.agg #[.int .i64 C1, .slice A9 n9 c9, .int .i64 S1]) #[.int .i64 C1, .slice A9 n9 c9, .int .i64 S1] rfl rfl rfl 48 p.arr (p.putS C1 A9 n9 c9 S1).arr kg9 (size_st3 _ _ _) (by rw [HS.out]; show 0 + 3 ≤ 36; omega) (one_store _ _ _ _ _) (new_s _ _ _ _ _ _) rfl ?_
      intro z hgz kz hsz
      have hez := blk_other ke9 hgz (Nat.ne_of_gt hgl)
      have hXz := rowb_grown hX9 hgz (Nat.ne_of_gt (Nat.lt_of_lt_of_le hgl (Nat.le_trans HB1.out.size hgx)))
      have hbtz := hbt9.kept hfa hgz HLO.out hgl
      have hBz : Below B w z := (hB9.mono HBL.out).grown hgz (Nat.le_trans HBL.out hB9.size) (fun k e => by cases e; exact HLO.out)
      have hoez := hoe9.far hgz (own_ne hoe9 kg9)
      have hzz : w.heap.size ≤ z.heap.size := by rw [hsz]; exact hB9.size
      clear hgz hsz kg9 ke9 hX9 hbt9 hB9 hoe9 hE9 hfa
      refine hKq.out _ _ trivial (fun hHeld0 => ?_)
      clear hKq Kq hHeld
      have hHeld := hHeld0
      clear hHeld0
      try simp only [Act.put, List.setIfInBounds_toArray, List.set_cons_zero, List.set_cons_succ]
      refine take_run 17 (.int .i64 0) rfl (by kernel_rfl) (by kernel_rfl) (by kernel_rfl) (fun _ _ _ h => h) rfl hHeld (fun w' => ?_) ?_
      · go_simp
      simp only [Act.put, List.setIfInBounds_toArray, List.set_cons_zero, List.set_cons_succ]
      refine wpAnyH_done (by kernel_rfl) ?_ _
      clear hHeld hownd hXd kgd hE4d hBd hB8
      go_wp2
      obtain ⟨g0, g1, g2, g3, g4, g5, g6, g7, g8⟩ := u
      have hSd : (fun X => X.heap[w.heap.size]? = some (.cells (enA ⟨g0, g1, g2, g3, g4, g5, g6, g7, g8⟩) 33 (0, 0)) ∧ RowB X gx 27 Z) z.drew := ⟨blk_drew hez, hXz.draw1⟩
      have kzd := blk_drew kz
      have hod := hoez.draw1
      have hbd := hbtz.draw1
      have hBd := hBz.drew
      have hzd : w.heap.size ≤ z.drew.heap.size := hzz
      clear kz hez hXz hoez hbtz hBz hzz
      refine wp_region_held_drew (S := (fun X => X.heap[w.heap.size]? = some (.cells (enA ⟨g0, g1, g2, g3, g4, g5, g6, g7, g8⟩) 33 (0, 0)) ∧ RowB X gx 27 Z)) (by kernel_rfl) hSd (fun hHeld => ?_)
      refine take_move 0 (.tmp 0) (.pointer (some ⟨g, 0, none⟩)) rfl rfl rfl (by kernel_rfl) (by kernel_rfl) (by kernel_rfl) (fun _ _ _ h => h) rfl hHeld ?_
      simp only [Act.put, List.setIfInBounds_toArray, List.set_cons_zero, List.set_cons_succ]
      refine take_move 1 (.tmp 0) (.pointer (some ⟨g, 0, none⟩)) rfl rfl rfl (by kernel_rfl) (by kernel_rfl) (by kernel_rfl) (fun _ _ _ h => h) rfl hHeld ?_
      simp only [Act.put, List.setIfInBounds_toArray, List.set_cons_zero, List.set_cons_succ]
      refine take_move 2 (.tmp 0) (.pointer (some ⟨g, 0, none⟩)) rfl rfl rfl (by kernel_rfl) (by kernel_rfl) (by kernel_rfl) (fun _ _ _ h => h) rfl hHeld ?_
      simp only [Act.put, List.setIfInBounds_toArray, List.set_cons_zero, List.set_cons_succ]
      refine take_run 3 (.pointer (some ⟨g, 0, none⟩)) rfl (by kernel_rfl) (by kernel_rfl) (by kernel_rfl) (fun _ _ _ h => h) rfl hHeld (fun w' => ?_) ?_
      · go_simp
      simp only [Act.put, List.setIfInBounds_toArray, List.set_cons_zero, List.set_cons_succ]
      refine take_run 4 (.pointer (some ⟨g, 0, none⟩)) rfl (by kernel_rfl) (by kernel_rfl) (by kernel_rfl) (fun _ _ _ h => h) rfl hHeld (fun w' => ?_) ?_
      · go_simp
      simp only [Act.put, List.setIfInBounds_toArray, List.set_cons_zero, List.set_cons_succ]
      refine take_run 5 (.pointer (some ⟨g, 3, none⟩)) rfl (by kernel_rfl) (by kernel_rfl) (by kernel_rfl) (fun _ _ _ h => h) rfl hHeld (fun w' => ?_) ?_
      · go_simp
      simp only [Act.put, List.setIfInBounds_toArray, List.set_cons_zero, List.set_cons_succ]
      refine take_blk 7 33 _ w.heap.size 33 #[.int .i64 g0, .int .i64 g1, .int .i64 g2, .int .i64 g3, .int .u64 g4, .int .u64 g5, .int .i64 g6, .int .i64 g7, .int .i64 g8] (0, 0) _ rfl rfl rfl (by kernel_rfl) (by kernel_rfl) (by kernel_rfl) (fun _ _ _ h => h) rfl hHeld (fun X hX => hX.1) Tryz.underlying33 rfl (info_en rfl) ?_
      simp only [Act.put, List.setIfInBounds_toArray, List.set_cons_zero, List.set_cons_succ]
      refine take_if 10 (.agg (idv Z)) rfl (by kernel_rfl) (by kernel_rfl) (by kernel_rfl) (fun _ _ _ h => h) rfl hHeld (fun w' hw' => ?_) ?_
      · exact id_load hw'.2 HZL.out rfl rfl
      simp only [Act.put, List.setIfInBounds_toArray, List.set_cons_zero, List.set_cons_succ]
      refine two_steps 6 8 (by kernel_rfl) rfl rfl (fun Kq hKq => ?_) (fun Kq hKq => ?_)
      · skip
        have hq : (z).cell? ⟨g, 3, none⟩ = some (.slice p.B p.m p.d) := (dk_cells kzd).2.2.2
        refine step_run (.slice p.B p.m p.d) rfl (by go_simp) ?_
        clear hq
        refine hKq.out _ _ hSd (fun hHeld0 => ?_)
        clear hKq Kq hHeld
        have hHeld := hHeld0
        clear hHeld0
        try simp only [Act.put, List.setIfInBounds_toArray, List.set_cons_zero, List.set_cons_succ]
        refine one_step 8 (by kernel_rfl) rfl (fun Kq hKq => ?_)
        have hz := one_rws 9 33 z.drew (En.row ⟨g0, g1, g2, g3, g4, g5, g6, g7, g8⟩) rfl (row_one9 ⟨g0, g1, g2, g3, g4, g5, g6, g7, g8⟩)
        have hBa : Below z.drew.heap.size z.drew (z.drew.alloc (.cells #[.int .i64 g0, .int .i64 g1, .int .i64 g2, .int .i64 g3, .int .u64 g4, .int .u64 g5, .int .i64 g6, .int .i64 g7, .int .i64 g8] 33 (0, 0))) := one_alloc _ _
        have hSa : (fun X => X.heap[w.heap.size]? = some (.cells (enA ⟨g0, g1, g2, g3, g4, g5, g6, g7, g8⟩) 33 (0, 0)) ∧ RowB X gx 27 Z) (z.drew.alloc (.cells #[.int .i64 g0, .int .i64 g1, .int .i64 g2, .int .i64 g3, .int .u64 g4, .int .u64 g5, .int .i64 g6, .int .i64 g7, .int .i64 g8] 33 (0, 0))) := ⟨blk_below hSd.1 hBa, hSd.2.keep hBa⟩
        have koa := hod.more (.cells #[.int .i64 g0, .int .i64 g1, .int .i64 g2, .int .i64 g3, .int .u64 g4, .int .u64 g5, .int .i64 g6, .int .i64 g7, .int .i64 g8] 33 (0, 0))
        go_simp
        refine hKq.out _ _ hSa (fun hHeld0 => ?_)
        clear hKq Kq hHeld
        have hHeld := hHeld0
        clear hHeld0
        try simp only [Act.put, List.setIfInBounds_toArray, List.set_cons_zero, List.set_cons_succ]
        refine one_step 9 (by kernel_rfl) rfl (fun Kq hKq => ?_)
        refine step_append_r 25 33 9 72 _ _ rfl Tryz.underlying25 info_entry (by omega) B (.slice p.B p.m p.d) RW rfl koa _ 1 1 [En.row ⟨g0, g1, g2, g3, g4, g5, g6, g7, g8⟩] rfl hz (by have := HRL.out; omega) (by have := HRL.out; omega) (Nat.le_trans HBL.out (Nat.le_trans hzd hBa.size)) rfl ?_
        intro v9 z2 hown9 hg9
        rw [← HRO.out] at hown9
        obtain ⟨B9, m9, d9, rfl, -⟩ := own_ens hown9
        have kza := blk_below kzd hBa
        have kz2 := (hg9.block g (Nat.lt_of_lt_of_le hgl (Nat.le_trans hzd hBa.size)) (fun e => (own_ne koa kza).elim (fun h => by rw [h] at e; cases e) (fun h => h e.symm))).trans kza
        have hS2 : (fun X => X.heap[w.heap.size]? = some (.cells (enA ⟨g0, g1, g2, g3, g4, g5, g6, g7, g8⟩) 33 (0, 0)) ∧ RowB X gx 27 Z) z2 := ⟨(hg9.block _ (Array.getElem?_eq_some_iff.1 hSa.1).1 (fun e => absurd (HOW.out _ e.symm) (Nat.lt_irrefl _))).trans hSa.1, hSa.2.grown hg9 (fun e => absurd (HOW.out _ e.symm) (Nat.not_lt.2 (Nat.le_trans HB1.out.size hgx)))⟩
        have hb2 := (hbd.below hBa).grown hg9 (fun b off e he => absurd (HOW.out b he.symm) (Nat.not_lt.2 (hal _ e)))
        have hB2 : Below B w z2 := (hBd.trans (hBa.mono (Nat.le_trans HBL.out hzd))).grown hg9 (Nat.le_trans HBL.out (Nat.le_trans hzd hBa.size)) (fun k hk => (koa.size k hk).1)
        clear hg9 kza
        refine hKq.out _ _ hS2 (fun hHeld0 => ?_)
        clear hKq Kq hHeld
        have hHeld := hHeld0
        clear hHeld0
        try simp only [Act.put, List.setIfInBounds_toArray, List.set_cons_zero, List.set_cons_succ]
        refine take_run 11 (.pointer (some ⟨g, 0, none⟩)) rfl (by kernel_rfl) (by kernel_rfl) (by kernel_rfl) (fun _ _ _ h => h) rfl hHeld (fun w' => ?_) ?_
        · go_simp
        simp only [Act.put, List.setIfInBounds_toArray, List.set_cons_zero, List.set_cons_succ]
        refine take_run 12 (.pointer (some ⟨g, 0, none⟩)) rfl (by kernel_rfl) (by kernel_rfl) (by kernel_rfl) (fun _ _ _ h => h) rfl hHeld (fun w' => ?_) ?_
        · go_simp
        simp only [Act.put, List.setIfInBounds_toArray, List.set_cons_zero, List.set_cons_succ]
        refine take_run 13 (.pointer (some ⟨g, 3, none⟩)) rfl (by kernel_rfl) (by kernel_rfl) (by kernel_rfl) (fun _ _ _ h => h) rfl hHeld (fun w' => ?_) ?_
        · go_simp
        simp only [Act.put, List.setIfInBounds_toArray, List.set_cons_zero, List.set_cons_succ]
        refine one_step 14 (by kernel_rfl) rfl (fun Kq hKq => ?_)
        refine step_store_in 25 _ _ rfl g 3 (.slice B9 m9 d9) #[.slice B9 m9 d9] rfl rfl rfl 48 (p.putS C1 A9 n9 c9 S1).arr ((p.putS C1 A9 n9 c9 S1).putB B9 m9 d9).arr kz2 (size_ens1 _) (by rw [lp_size (show (p.putS C1 A9 n9 c9 S1).H.length = 32 from HPH.out)]; show 3 + 1 ≤ 36; omega) (one_slice _ _ _) (new_b _ _ _ _) rfl ?_
        intro z3 hg3 kz3 hs3
        have hS3 : (fun X => X.heap[w.heap.size]? = some (.cells (enA ⟨g0, g1, g2, g3, g4, g5, g6, g7, g8⟩) 33 (0, 0)) ∧ RowB X gx 27 Z) z3 := ⟨blk_other hS2.1 hg3 (Nat.ne_of_gt hgl), rowb_grown hS2.2 hg3 (Nat.ne_of_gt (Nat.lt_of_lt_of_le hgl (Nat.le_trans HB1.out.size hgx)))⟩
        have hb3 := hb2.kept (blk_far (n := n9) (lo := B) hal (Nat.le_refl _)) hg3 HLO.out hgl
        have hown10 := hown9.far hg3 (own_ne hown9 kz2)
        have hB3 : Below B w z3 := hB2.grown hg3 (Nat.le_of_lt (Nat.lt_of_le_of_lt HLO.out (Array.getElem?_eq_some_iff.1 kz2).1)) (fun k e => by cases e; exact HLO.out)
        clear hg3 hs3
        refine hKq.out _ _ hS3 (fun hHeld0 => ?_)
        clear hKq Kq hHeld
        have hHeld := hHeld0
        clear hHeld0
        try simp only [Act.put, List.setIfInBounds_toArray, List.set_cons_zero, List.set_cons_succ]
        refine take_run 15 (.pointer (some ⟨g, 0, none⟩)) rfl (by kernel_rfl) (by kernel_rfl) (by kernel_rfl) (fun _ _ _ h => h) rfl hHeld (fun w' => ?_) ?_
        · go_simp
        simp only [Act.put, List.setIfInBounds_toArray, List.set_cons_zero, List.set_cons_succ]
        refine take_run 16 (.pointer (some ⟨g, 0, none⟩)) rfl (by kernel_rfl) (by kernel_rfl) (by kernel_rfl) (fun _ _ _ h => h) rfl hHeld (fun w' => ?_) ?_
        · go_simp
        simp only [Act.put, List.setIfInBounds_toArray, List.set_cons_zero, List.set_cons_succ]
        refine take_run 17 (.pointer (some ⟨g, 4, none⟩)) rfl (by kernel_rfl) (by kernel_rfl) (by kernel_rfl) (fun _ _ _ h => h) rfl hHeld (fun w' => ?_) ?_
        · go_simp
        simp only [Act.put, List.setIfInBounds_toArray, List.set_cons_zero, List.set_cons_succ]
        refine one_step 18 (by kernel_rfl) rfl (fun Kq hKq => ?_)
        refine step_store_in 27 _ _ rfl g 4 (.agg (idv Z)) (idv Z) rfl rfl rfl 48 ((p.putS C1 A9 n9 c9 S1).putB B9 m9 d9).arr (((p.putS C1 A9 n9 c9 S1).putB B9 m9 d9).putH Z).arr kz3 (info32 HZL.out) (by rw [idv_size, HZL.out, lp_size (show ((p.putS C1 A9 n9 c9 S1).putB B9 m9 d9).H.length = 32 from HPH.out)]; exact Nat.le_refl _) (idv_one _) (new_h _ _ HPH.out HZL.out) rfl ?_
        intro z4 hg4 kz4 hs4
        have hS4 : (fun X => X.heap[w.heap.size]? = some (.cells (enA ⟨g0, g1, g2, g3, g4, g5, g6, g7, g8⟩) 33 (0, 0)) ∧ RowB X gx 27 Z) z4 := ⟨blk_other hS3.1 hg4 (Nat.ne_of_gt hgl), rowb_grown hS3.2 hg4 (Nat.ne_of_gt (Nat.lt_of_lt_of_le hgl (Nat.le_trans HB1.out.size hgx)))⟩
        have hb4 := hb3.kept (blk_far (n := n9) (lo := B) hal (Nat.le_refl _)) hg4 HLO.out hgl
        have hown11 := hown10.far hg4 (own_ne hown10 kz3)
        have hB4 : Below B w z4 := hB3.grown hg4 (Nat.le_of_lt (Nat.lt_of_le_of_lt HLO.out (Array.getElem?_eq_some_iff.1 kz3).1)) (fun k e => by cases e; exact HLO.out)
        clear hg4 hs4
        refine hKq.out _ _ hS4 (fun hHeld0 => ?_)
        clear hKq Kq hHeld
        have hHeld := hHeld0
        clear hHeld0
        try simp only [Act.put, List.setIfInBounds_toArray, List.set_cons_zero, List.set_cons_succ]
        refine wpAnyH_done (by kernel_rfl) ?_ _
        obtain ⟨B0, m0, d0, he0, hen0⟩ := own_ens hown11
        cases he0
        clear hHeld
        go_wp2_with (first
          | (refine wp_goto ⟨rfl, ?_⟩)
          | (apply wp_label))
        first | rw [Exit.noGoto_ret] | rw [jump_ret] | skip
        go_ret
        exact ⟨⟨C1, A9, n9, c9, S1, B9, m9, d9, Z⟩, rfl, kz4, ⟨rfl, rfl, rfl, hb4, hen0, HOK.out, HFT.out⟩, fun a ha => Nat.le_trans HBL.out (hal a ha), hown11, hB4⟩
      · skip
        have hz := one_rws 9 33 z.drew (En.row ⟨g0, g1, g2, g3, g4, g5, g6, g7, g8⟩) rfl (row_one9 ⟨g0, g1, g2, g3, g4, g5, g6, g7, g8⟩)
        have hBa : Below z.drew.heap.size z.drew (z.drew.alloc (.cells #[.int .i64 g0, .int .i64 g1, .int .i64 g2, .int .i64 g3, .int .u64 g4, .int .u64 g5, .int .i64 g6, .int .i64 g7, .int .i64 g8] 33 (0, 0))) := one_alloc _ _
        have hSa : (fun X => X.heap[w.heap.size]? = some (.cells (enA ⟨g0, g1, g2, g3, g4, g5, g6, g7, g8⟩) 33 (0, 0)) ∧ RowB X gx 27 Z) (z.drew.alloc (.cells #[.int .i64 g0, .int .i64 g1, .int .i64 g2, .int .i64 g3, .int .u64 g4, .int .u64 g5, .int .i64 g6, .int .i64 g7, .int .i64 g8] 33 (0, 0))) := ⟨blk_below hSd.1 hBa, hSd.2.keep hBa⟩
        have koa := hod.more (.cells #[.int .i64 g0, .int .i64 g1, .int .i64 g2, .int .i64 g3, .int .u64 g4, .int .u64 g5, .int .i64 g6, .int .i64 g7, .int .i64 g8] 33 (0, 0))
        go_simp
        refine hKq.out _ _ hSa (fun hHeld0 => ?_)
        clear hKq Kq hHeld
        have hHeld := hHeld0
        clear hHeld0
        try simp only [Act.put, List.setIfInBounds_toArray, List.set_cons_zero, List.set_cons_succ]
        refine one_step 6 (by kernel_rfl) rfl (fun Kq hKq => ?_)
        have kza := blk_below kzd hBa
        have hq : ((z.alloc (.cells #[.int .i64 g0, .int .i64 g1, .int .i64 g2, .int .i64 g3, .int .u64 g4, .int .u64 g5, .int .i64 g6, .int .i64 g7, .int .i64 g8] 33 (0, 0)))).cell? ⟨g, 3, none⟩ = some (.slice p.B p.m p.d) := (dk_cells kza).2.2.2
        refine step_run (.slice p.B p.m p.d) rfl (by go_simp) ?_
        clear hq
        refine hKq.out _ _ hSa (fun hHeld0 => ?_)
        clear hKq Kq hHeld
        have hHeld := hHeld0
        clear hHeld0
        try simp only [Act.put, List.setIfInBounds_toArray, List.set_cons_zero, List.set_cons_succ]
        clear kza
        refine one_step 9 (by kernel_rfl) rfl (fun Kq hKq => ?_)
        refine step_append_r 25 33 9 72 _ _ rfl Tryz.underlying25 info_entry (by omega) B (.slice p.B p.m p.d) RW rfl koa _ 1 1 [En.row ⟨g0, g1, g2, g3, g4, g5, g6, g7, g8⟩] rfl hz (by have := HRL.out; omega) (by have := HRL.out; omega) (Nat.le_trans HBL.out (Nat.le_trans hzd hBa.size)) rfl ?_
        intro v9 z2 hown9 hg9
        rw [← HRO.out] at hown9
        obtain ⟨B9, m9, d9, rfl, -⟩ := own_ens hown9
        have kza := blk_below kzd hBa
        have kz2 := (hg9.block g (Nat.lt_of_lt_of_le hgl (Nat.le_trans hzd hBa.size)) (fun e => (own_ne koa kza).elim (fun h => by rw [h] at e; cases e) (fun h => h e.symm))).trans kza
        have hS2 : (fun X => X.heap[w.heap.size]? = some (.cells (enA ⟨g0, g1, g2, g3, g4, g5, g6, g7, g8⟩) 33 (0, 0)) ∧ RowB X gx 27 Z) z2 := ⟨(hg9.block _ (Array.getElem?_eq_some_iff.1 hSa.1).1 (fun e => absurd (HOW.out _ e.symm) (Nat.lt_irrefl _))).trans hSa.1, hSa.2.grown hg9 (fun e => absurd (HOW.out _ e.symm) (Nat.not_lt.2 (Nat.le_trans HB1.out.size hgx)))⟩
        have hb2 := (hbd.below hBa).grown hg9 (fun b off e he => absurd (HOW.out b he.symm) (Nat.not_lt.2 (hal _ e)))
        have hB2 : Below B w z2 := (hBd.trans (hBa.mono (Nat.le_trans HBL.out hzd))).grown hg9 (Nat.le_trans HBL.out (Nat.le_trans hzd hBa.size)) (fun k hk => (koa.size k hk).1)
        clear hg9 kza
        refine hKq.out _ _ hS2 (fun hHeld0 => ?_)
        clear hKq Kq hHeld
        have hHeld := hHeld0
        clear hHeld0
        try simp only [Act.put, List.setIfInBounds_toArray, List.set_cons_zero, List.set_cons_succ]
        refine take_run 11 (.pointer (some ⟨g, 0, none⟩)) rfl (by kernel_rfl) (by kernel_rfl) (by kernel_rfl) (fun _ _ _ h => h) rfl hHeld (fun w' => ?_) ?_
        · go_simp
        simp only [Act.put, List.setIfInBounds_toArray, List.set_cons_zero, List.set_cons_succ]
        refine take_run 12 (.pointer (some ⟨g, 0, none⟩)) rfl (by kernel_rfl) (by kernel_rfl) (by kernel_rfl) (fun _ _ _ h => h) rfl hHeld (fun w' => ?_) ?_
        · go_simp
        simp only [Act.put, List.setIfInBounds_toArray, List.set_cons_zero, List.set_cons_succ]
        refine take_run 13 (.pointer (some ⟨g, 3, none⟩)) rfl (by kernel_rfl) (by kernel_rfl) (by kernel_rfl) (fun _ _ _ h => h) rfl hHeld (fun w' => ?_) ?_
        · go_simp
        simp only [Act.put, List.setIfInBounds_toArray, List.set_cons_zero, List.set_cons_succ]
        refine one_step 14 (by kernel_rfl) rfl (fun Kq hKq => ?_)
        refine step_store_in 25 _ _ rfl g 3 (.slice B9 m9 d9) #[.slice B9 m9 d9] rfl rfl rfl 48 (p.putS C1 A9 n9 c9 S1).arr ((p.putS C1 A9 n9 c9 S1).putB B9 m9 d9).arr kz2 (size_ens1 _) (by rw [lp_size (show (p.putS C1 A9 n9 c9 S1).H.length = 32 from HPH.out)]; show 3 + 1 ≤ 36; omega) (one_slice _ _ _) (new_b _ _ _ _) rfl ?_
        intro z3 hg3 kz3 hs3
        have hS3 : (fun X => X.heap[w.heap.size]? = some (.cells (enA ⟨g0, g1, g2, g3, g4, g5, g6, g7, g8⟩) 33 (0, 0)) ∧ RowB X gx 27 Z) z3 := ⟨blk_other hS2.1 hg3 (Nat.ne_of_gt hgl), rowb_grown hS2.2 hg3 (Nat.ne_of_gt (Nat.lt_of_lt_of_le hgl (Nat.le_trans HB1.out.size hgx)))⟩
        have hb3 := hb2.kept (blk_far (n := n9) (lo := B) hal (Nat.le_refl _)) hg3 HLO.out hgl
        have hown10 := hown9.far hg3 (own_ne hown9 kz2)
        have hB3 : Below B w z3 := hB2.grown hg3 (Nat.le_of_lt (Nat.lt_of_le_of_lt HLO.out (Array.getElem?_eq_some_iff.1 kz2).1)) (fun k e => by cases e; exact HLO.out)
        clear hg3 hs3
        refine hKq.out _ _ hS3 (fun hHeld0 => ?_)
        clear hKq Kq hHeld
        have hHeld := hHeld0
        clear hHeld0
        try simp only [Act.put, List.setIfInBounds_toArray, List.set_cons_zero, List.set_cons_succ]
        refine take_run 15 (.pointer (some ⟨g, 0, none⟩)) rfl (by kernel_rfl) (by kernel_rfl) (by kernel_rfl) (fun _ _ _ h => h) rfl hHeld (fun w' => ?_) ?_
        · go_simp
        simp only [Act.put, List.setIfInBounds_toArray, List.set_cons_zero, List.set_cons_succ]
        refine take_run 16 (.pointer (some ⟨g, 0, none⟩)) rfl (by kernel_rfl) (by kernel_rfl) (by kernel_rfl) (fun _ _ _ h => h) rfl hHeld (fun w' => ?_) ?_
        · go_simp
        simp only [Act.put, List.setIfInBounds_toArray, List.set_cons_zero, List.set_cons_succ]
        refine take_run 17 (.pointer (some ⟨g, 4, none⟩)) rfl (by kernel_rfl) (by kernel_rfl) (by kernel_rfl) (fun _ _ _ h => h) rfl hHeld (fun w' => ?_) ?_
        · go_simp
        simp only [Act.put, List.setIfInBounds_toArray, List.set_cons_zero, List.set_cons_succ]
        refine one_step 18 (by kernel_rfl) rfl (fun Kq hKq => ?_)
        refine step_store_in 27 _ _ rfl g 4 (.agg (idv Z)) (idv Z) rfl rfl rfl 48 ((p.putS C1 A9 n9 c9 S1).putB B9 m9 d9).arr (((p.putS C1 A9 n9 c9 S1).putB B9 m9 d9).putH Z).arr kz3 (info32 HZL.out) (by rw [idv_size, HZL.out, lp_size (show ((p.putS C1 A9 n9 c9 S1).putB B9 m9 d9).H.length = 32 from HPH.out)]; exact Nat.le_refl _) (idv_one _) (new_h _ _ HPH.out HZL.out) rfl ?_
        intro z4 hg4 kz4 hs4
        have hS4 : (fun X => X.heap[w.heap.size]? = some (.cells (enA ⟨g0, g1, g2, g3, g4, g5, g6, g7, g8⟩) 33 (0, 0)) ∧ RowB X gx 27 Z) z4 := ⟨blk_other hS3.1 hg4 (Nat.ne_of_gt hgl), rowb_grown hS3.2 hg4 (Nat.ne_of_gt (Nat.lt_of_lt_of_le hgl (Nat.le_trans HB1.out.size hgx)))⟩
        have hb4 := hb3.kept (blk_far (n := n9) (lo := B) hal (Nat.le_refl _)) hg4 HLO.out hgl
        have hown11 := hown10.far hg4 (own_ne hown10 kz3)
        have hB4 : Below B w z4 := hB3.grown hg4 (Nat.le_of_lt (Nat.lt_of_le_of_lt HLO.out (Array.getElem?_eq_some_iff.1 kz3).1)) (fun k e => by cases e; exact HLO.out)
        clear hg4 hs4
        refine hKq.out _ _ hS4 (fun hHeld0 => ?_)
        clear hKq Kq hHeld
        have hHeld := hHeld0
        clear hHeld0
        try simp only [Act.put, List.setIfInBounds_toArray, List.set_cons_zero, List.set_cons_succ]
        refine wpAnyH_done (by kernel_rfl) ?_ _
        obtain ⟨B0, m0, d0, he0, hen0⟩ := own_ens hown11
        cases he0
        clear hHeld
        go_wp2_with (first
          | (refine wp_goto ⟨rfl, ?_⟩)
          | (apply wp_label))
        first | rw [Exit.noGoto_ret] | rw [jump_ret] | skip
        go_ret
        exact ⟨⟨C1, A9, n9, c9, S1, B9, m9, d9, Z⟩, rfl, kz4, ⟨rfl, rfl, rfl, hb4, hen0, HOK.out, HFT.out⟩, fun a ha => Nat.le_trans HBL.out (hal a ha), hown11, hB4⟩
    · skip
      refine step_append_o (.tmp 50) (.tmp 51) rfl (w.heap.size + 1) (.slice A1 m1 c1) PE rfl hownd (some ⟨gx, 0, none⟩) 32 32 Z rfl (hXd.btsAt HZL.out (by unfold maxLen; omega) HZB.out) (by have := HPL.out; omega) hzd rfl ?_
      intro v8 w8 hown8 hg8
      have hE8 := hE4d.grown hg8 hzd (fun k hk => (hownd.size k hk).1)
      have hX8 := hXd.grown hg8 (fun e => absurd (HO1.out _ e.symm) (Nat.not_lt.2 hgx))
      rw [HRE.out] at hown8
      obtain ⟨A8, n8, c8, rfl, hbt8⟩ := hown8.slice HROK.out
      have hB8 := HB1.out.trans (hE8.mono (Nat.le_succ _))
      clear hg8 hown8
      refine hKq.out _ _ trivial (fun hHeld0 => ?_)
      clear hKq Kq hHeld
      have hHeld := hHeld0
      clear hHeld0
      try simp only [Act.put, List.setIfInBounds_toArray, List.set_cons_zero, List.set_cons_succ]
      refine one_step 5 (by kernel_rfl) rfl (fun Kq hKq => ?_)
      have kg8 := (hE8.block g (Nat.lt_succ_of_lt hgl)).trans kg1
      refine step_load_mid 24 _ rfl g 0 rfl [.int .i64 p.cap, .slice p.A p.n p.c, .int .i64 p.sure] _ rfl _ (dk_st kg8) Tryz.underlying24 rfl (by kernel_rfl) rfl ?_
      refine hKq.out _ _ trivial (fun hHeld0 => ?_)
      clear hKq Kq hHeld
      have hHeld := hHeld0
      clear hHeld0
      try simp only [Act.put, List.setIfInBounds_toArray, List.set_cons_zero, List.set_cons_succ]
      clear kg8
      refine one_step 9 (by kernel_rfl) rfl (fun Kq hKq => ?_)
      go_simp
      go_at_call 52
      refine (HWR.out A8 n8 c8 w8 hB8 hbt8).mono ?_
      rintro e y9 ⟨A9, n9, c9, rfl, hbt9, hlo9, hbx⟩
      have hz8 : w.heap.size + 1 ≤ w8.heap.size := hE8.size_from hz1
      have hE9 := hE8.trans (hbx.mono hz8)
      have hX9 := hX8.keep hbx
      have hfa := blk_far (n := n9) (lo := B) hlo9 (Nat.le_of_succ_le hz8)
      have hB9 := HB1.out.trans (hE9.mono (Nat.le_succ _))
      have hal : ∀ a, A9 = some a → w.heap.size ≤ a.block := fun a ha => Nat.le_trans (Nat.le_of_succ_le hz8) (hlo9 a ha)
      have kg9 := (hE9.block g (Nat.lt_succ_of_lt hgl)).trans kg1
      have ke9 := (hE9.block w.heap.size (Nat.lt_succ_self _)).trans ke1
      have hoe9 := HOE.out.below hB9
      clear hbx hX8 hbt8 hE8 hlo9
      refine hKq.out _ _ trivial (fun hHeld0 => ?_)
      clear hKq Kq hHeld
      have hHeld := hHeld0
      clear hHeld0
      try simp only [Act.put, List.setIfInBounds_toArray, List.set_cons_zero, List.set_cons_succ]
      refine take_run 10 (.tuple #[.agg #[.int .i64 C1, .slice A9 n9 c9, .int .i64 S1], .int .i64 0]) rfl (by kernel_rfl) (by kernel_rfl) (by kernel_rfl) (fun _ _ _ h => h) rfl hHeld (fun w' => ?_) ?_
      · go_simp
      simp only [Act.put, List.setIfInBounds_toArray, List.set_cons_zero, List.set_cons_succ]
      refine take_run 11 (.agg #[.int .i64 C1, .slice A9 n9 c9, .int .i64 S1]) rfl (by kernel_rfl) (by kernel_rfl) (by kernel_rfl) (fun _ _ _ h => h) rfl hHeld (fun w' => ?_) ?_
      · go_simp
      simp only [Act.put, List.setIfInBounds_toArray, List.set_cons_zero, List.set_cons_succ]
      refine take_run 12 (.int .i64 0) rfl (by kernel_rfl) (by kernel_rfl) (by kernel_rfl) (fun _ _ _ h => h) rfl hHeld (fun w' => ?_) ?_
      · go_simp
      simp only [Act.put, List.setIfInBounds_toArray, List.set_cons_zero, List.set_cons_succ]
      refine take_run 13 (.pointer (some ⟨g, 0, none⟩)) rfl (by kernel_rfl) (by kernel_rfl) (by kernel_rfl) (fun _ _ _ h => h) rfl hHeld (fun w' => ?_) ?_
      · go_simp
      simp only [Act.put, List.setIfInBounds_toArray, List.set_cons_zero, List.set_cons_succ]
      refine take_run 14 (.pointer (some ⟨g, 0, none⟩)) rfl (by kernel_rfl) (by kernel_rfl) (by kernel_rfl) (fun _ _ _ h => h) rfl hHeld (fun w' => ?_) ?_
      · go_simp
      simp only [Act.put, List.setIfInBounds_toArray, List.set_cons_zero, List.set_cons_succ]
      refine take_run 15 (.pointer (some ⟨g, 0, none⟩)) rfl (by kernel_rfl) (by kernel_rfl) (by kernel_rfl) (fun _ _ _ h => h) rfl hHeld (fun w' => ?_) ?_
      · go_simp
      simp only [Act.put, List.setIfInBounds_toArray, List.set_cons_zero, List.set_cons_succ]
      refine one_step 16 (by kernel_rfl) rfl (fun Kq hKq => ?_)
      refine step_store_in 24 _ _ rfl g 0 (.agg #[.int .i64 C1, .slice A9 n9 c9, .int .i64 S1]) #[.int .i64 C1, .slice A9 n9 c9, .int .i64 S1] rfl rfl rfl 48 p.arr (p.putS C1 A9 n9 c9 S1).arr kg9 (size_st3 _ _ _) (by rw [HS.out]; show 0 + 3 ≤ 36; omega) (one_store _ _ _ _ _) (new_s _ _ _ _ _ _) rfl ?_
      intro z hgz kz hsz
      have hez := blk_other ke9 hgz (Nat.ne_of_gt hgl)
      have hXz := rowb_grown hX9 hgz (Nat.ne_of_gt (Nat.lt_of_lt_of_le hgl (Nat.le_trans HB1.out.size hgx)))
      have hbtz := hbt9.kept hfa hgz HLO.out hgl
      have hBz : Below B w z := (hB9.mono HBL.out).grown hgz (Nat.le_trans HBL.out hB9.size) (fun k e => by cases e; exact HLO.out)
      have hoez := hoe9.far hgz (own_ne hoe9 kg9)
      have hzz : w.heap.size ≤ z.heap.size := by rw [hsz]; exact hB9.size
      clear hgz hsz kg9 ke9 hX9 hbt9 hB9 hoe9 hE9 hfa
      refine hKq.out _ _ trivial (fun hHeld0 => ?_)
      clear hKq Kq hHeld
      have hHeld := hHeld0
      clear hHeld0
      try simp only [Act.put, List.setIfInBounds_toArray, List.set_cons_zero, List.set_cons_succ]
      refine take_run 17 (.int .i64 0) rfl (by kernel_rfl) (by kernel_rfl) (by kernel_rfl) (fun _ _ _ h => h) rfl hHeld (fun w' => ?_) ?_
      · go_simp
      simp only [Act.put, List.setIfInBounds_toArray, List.set_cons_zero, List.set_cons_succ]
      refine wpAnyH_done (by kernel_rfl) ?_ _
      clear hHeld hownd hXd kgd hE4d hBd hB8
      go_wp2
      obtain ⟨g0, g1, g2, g3, g4, g5, g6, g7, g8⟩ := u
      have hSd : (fun X => X.heap[w.heap.size]? = some (.cells (enA ⟨g0, g1, g2, g3, g4, g5, g6, g7, g8⟩) 33 (0, 0)) ∧ RowB X gx 27 Z) z.drew := ⟨blk_drew hez, hXz.draw1⟩
      have kzd := blk_drew kz
      have hod := hoez.draw1
      have hbd := hbtz.draw1
      have hBd := hBz.drew
      have hzd : w.heap.size ≤ z.drew.heap.size := hzz
      clear kz hez hXz hoez hbtz hBz hzz
      refine wp_region_held_drew (S := (fun X => X.heap[w.heap.size]? = some (.cells (enA ⟨g0, g1, g2, g3, g4, g5, g6, g7, g8⟩) 33 (0, 0)) ∧ RowB X gx 27 Z)) (by kernel_rfl) hSd (fun hHeld => ?_)
      refine take_move 0 (.tmp 0) (.pointer (some ⟨g, 0, none⟩)) rfl rfl rfl (by kernel_rfl) (by kernel_rfl) (by kernel_rfl) (fun _ _ _ h => h) rfl hHeld ?_
      simp only [Act.put, List.setIfInBounds_toArray, List.set_cons_zero, List.set_cons_succ]
      refine take_move 1 (.tmp 0) (.pointer (some ⟨g, 0, none⟩)) rfl rfl rfl (by kernel_rfl) (by kernel_rfl) (by kernel_rfl) (fun _ _ _ h => h) rfl hHeld ?_
      simp only [Act.put, List.setIfInBounds_toArray, List.set_cons_zero, List.set_cons_succ]
      refine take_move 2 (.tmp 0) (.pointer (some ⟨g, 0, none⟩)) rfl rfl rfl (by kernel_rfl) (by kernel_rfl) (by kernel_rfl) (fun _ _ _ h => h) rfl hHeld ?_
      simp only [Act.put, List.setIfInBounds_toArray, List.set_cons_zero, List.set_cons_succ]
      refine take_run 3 (.pointer (some ⟨g, 0, none⟩)) rfl (by kernel_rfl) (by kernel_rfl) (by kernel_rfl) (fun _ _ _ h => h) rfl hHeld (fun w' => ?_) ?_
      · go_simp
      simp only [Act.put, List.setIfInBounds_toArray, List.set_cons_zero, List.set_cons_succ]
      refine take_run 4 (.pointer (some ⟨g, 0, none⟩)) rfl (by kernel_rfl) (by kernel_rfl) (by kernel_rfl) (fun _ _ _ h => h) rfl hHeld (fun w' => ?_) ?_
      · go_simp
      simp only [Act.put, List.setIfInBounds_toArray, List.set_cons_zero, List.set_cons_succ]
      refine take_run 5 (.pointer (some ⟨g, 3, none⟩)) rfl (by kernel_rfl) (by kernel_rfl) (by kernel_rfl) (fun _ _ _ h => h) rfl hHeld (fun w' => ?_) ?_
      · go_simp
      simp only [Act.put, List.setIfInBounds_toArray, List.set_cons_zero, List.set_cons_succ]
      refine take_blk 7 33 _ w.heap.size 33 #[.int .i64 g0, .int .i64 g1, .int .i64 g2, .int .i64 g3, .int .u64 g4, .int .u64 g5, .int .i64 g6, .int .i64 g7, .int .i64 g8] (0, 0) _ rfl rfl rfl (by kernel_rfl) (by kernel_rfl) (by kernel_rfl) (fun _ _ _ h => h) rfl hHeld (fun X hX => hX.1) Tryz.underlying33 rfl (info_en rfl) ?_
      simp only [Act.put, List.setIfInBounds_toArray, List.set_cons_zero, List.set_cons_succ]
      refine take_if 10 (.agg (idv Z)) rfl (by kernel_rfl) (by kernel_rfl) (by kernel_rfl) (fun _ _ _ h => h) rfl hHeld (fun w' hw' => ?_) ?_
      · exact id_load hw'.2 HZL.out rfl rfl
      simp only [Act.put, List.setIfInBounds_toArray, List.set_cons_zero, List.set_cons_succ]
      refine two_steps 6 8 (by kernel_rfl) rfl rfl (fun Kq hKq => ?_) (fun Kq hKq => ?_)
      · skip
        have hq : (z).cell? ⟨g, 3, none⟩ = some (.slice p.B p.m p.d) := (dk_cells kzd).2.2.2
        refine step_run (.slice p.B p.m p.d) rfl (by go_simp) ?_
        clear hq
        refine hKq.out _ _ hSd (fun hHeld0 => ?_)
        clear hKq Kq hHeld
        have hHeld := hHeld0
        clear hHeld0
        try simp only [Act.put, List.setIfInBounds_toArray, List.set_cons_zero, List.set_cons_succ]
        refine one_step 8 (by kernel_rfl) rfl (fun Kq hKq => ?_)
        have hz := one_rws 9 33 z.drew (En.row ⟨g0, g1, g2, g3, g4, g5, g6, g7, g8⟩) rfl (row_one9 ⟨g0, g1, g2, g3, g4, g5, g6, g7, g8⟩)
        have hBa : Below z.drew.heap.size z.drew (z.drew.alloc (.cells #[.int .i64 g0, .int .i64 g1, .int .i64 g2, .int .i64 g3, .int .u64 g4, .int .u64 g5, .int .i64 g6, .int .i64 g7, .int .i64 g8] 33 (0, 0))) := one_alloc _ _
        have hSa : (fun X => X.heap[w.heap.size]? = some (.cells (enA ⟨g0, g1, g2, g3, g4, g5, g6, g7, g8⟩) 33 (0, 0)) ∧ RowB X gx 27 Z) (z.drew.alloc (.cells #[.int .i64 g0, .int .i64 g1, .int .i64 g2, .int .i64 g3, .int .u64 g4, .int .u64 g5, .int .i64 g6, .int .i64 g7, .int .i64 g8] 33 (0, 0))) := ⟨blk_below hSd.1 hBa, hSd.2.keep hBa⟩
        have koa := hod.more (.cells #[.int .i64 g0, .int .i64 g1, .int .i64 g2, .int .i64 g3, .int .u64 g4, .int .u64 g5, .int .i64 g6, .int .i64 g7, .int .i64 g8] 33 (0, 0))
        go_simp
        refine hKq.out _ _ hSa (fun hHeld0 => ?_)
        clear hKq Kq hHeld
        have hHeld := hHeld0
        clear hHeld0
        try simp only [Act.put, List.setIfInBounds_toArray, List.set_cons_zero, List.set_cons_succ]
        refine one_step 9 (by kernel_rfl) rfl (fun Kq hKq => ?_)
        refine step_append_r 25 33 9 72 _ _ rfl Tryz.underlying25 info_entry (by omega) B (.slice p.B p.m p.d) RW rfl koa _ 1 1 [En.row ⟨g0, g1, g2, g3, g4, g5, g6, g7, g8⟩] rfl hz (by have := HRL.out; omega) (by have := HRL.out; omega) (Nat.le_trans HBL.out (Nat.le_trans hzd hBa.size)) rfl ?_
        intro v9 z2 hown9 hg9
        rw [← HRO.out] at hown9
        obtain ⟨B9, m9, d9, rfl, -⟩ := own_ens hown9
        have kza := blk_below kzd hBa
        have kz2 := (hg9.block g (Nat.lt_of_lt_of_le hgl (Nat.le_trans hzd hBa.size)) (fun e => (own_ne koa kza).elim (fun h => by rw [h] at e; cases e) (fun h => h e.symm))).trans kza
        have hS2 : (fun X => X.heap[w.heap.size]? = some (.cells (enA ⟨g0, g1, g2, g3, g4, g5, g6, g7, g8⟩) 33 (0, 0)) ∧ RowB X gx 27 Z) z2 := ⟨(hg9.block _ (Array.getElem?_eq_some_iff.1 hSa.1).1 (fun e => absurd (HOW.out _ e.symm) (Nat.lt_irrefl _))).trans hSa.1, hSa.2.grown hg9 (fun e => absurd (HOW.out _ e.symm) (Nat.not_lt.2 (Nat.le_trans HB1.out.size hgx)))⟩
        have hb2 := (hbd.below hBa).grown hg9 (fun b off e he => absurd (HOW.out b he.symm) (Nat.not_lt.2 (hal _ e)))
        have hB2 : Below B w z2 := (hBd.trans (hBa.mono (Nat.le_trans HBL.out hzd))).grown hg9 (Nat.le_trans HBL.out (Nat.le_trans hzd hBa.size)) (fun k hk => (koa.size k hk).1)
        clear hg9 kza
        refine hKq.out _ _ hS2 (fun hHeld0 => ?_)
        clear hKq Kq hHeld
        have hHeld := hHeld0
        clear hHeld0
        try simp only [Act.put, List.setIfInBounds_toArray, List.set_cons_zero, List.set_cons_succ]
        refine take_run 11 (.pointer (some ⟨g, 0, none⟩)) rfl (by kernel_rfl) (by kernel_rfl) (by kernel_rfl) (fun _ _ _ h => h) rfl hHeld (fun w' => ?_) ?_
        · go_simp
        simp only [Act.put, List.setIfInBounds_toArray, List.set_cons_zero, List.set_cons_succ]
        refine take_run 12 (.pointer (some ⟨g, 0, none⟩)) rfl (by kernel_rfl) (by kernel_rfl) (by kernel_rfl) (fun _ _ _ h => h) rfl hHeld (fun w' => ?_) ?_
        · go_simp
        simp only [Act.put, List.setIfInBounds_toArray, List.set_cons_zero, List.set_cons_succ]
        refine take_run 13 (.pointer (some ⟨g, 3, none⟩)) rfl (by kernel_rfl) (by kernel_rfl) (by kernel_rfl) (fun _ _ _ h => h) rfl hHeld (fun w' => ?_) ?_
        · go_simp
        simp only [Act.put, List.setIfInBounds_toArray, List.set_cons_zero, List.set_cons_succ]
        refine one_step 14 (by kernel_rfl) rfl (fun Kq hKq => ?_)
        refine step_store_in 25 _ _ rfl g 3 (.slice B9 m9 d9) #[.slice B9 m9 d9] rfl rfl rfl 48 (p.putS C1 A9 n9 c9 S1).arr ((p.putS C1 A9 n9 c9 S1).putB B9 m9 d9).arr kz2 (size_ens1 _) (by rw [lp_size (show (p.putS C1 A9 n9 c9 S1).H.length = 32 from HPH.out)]; show 3 + 1 ≤ 36; omega) (one_slice _ _ _) (new_b _ _ _ _) rfl ?_
        intro z3 hg3 kz3 hs3
        have hS3 : (fun X => X.heap[w.heap.size]? = some (.cells (enA ⟨g0, g1, g2, g3, g4, g5, g6, g7, g8⟩) 33 (0, 0)) ∧ RowB X gx 27 Z) z3 := ⟨blk_other hS2.1 hg3 (Nat.ne_of_gt hgl), rowb_grown hS2.2 hg3 (Nat.ne_of_gt (Nat.lt_of_lt_of_le hgl (Nat.le_trans HB1.out.size hgx)))⟩
        have hb3 := hb2.kept (blk_far (n := n9) (lo := B) hal (Nat.le_refl _)) hg3 HLO.out hgl
        have hown10 := hown9.far hg3 (own_ne hown9 kz2)
        have hB3 : Below B w z3 := hB2.grown hg3 (Nat.le_of_lt (Nat.lt_of_le_of_lt HLO.out (Array.getElem?_eq_some_iff.1 kz2).1)) (fun k e => by cases e; exact HLO.out)
        clear hg3 hs3
        refine hKq.out _ _ hS3 (fun hHeld0 => ?_)
        clear hKq Kq hHeld
        have hHeld := hHeld0
        clear hHeld0
        try simp only [Act.put, List.setIfInBounds_toArray, List.set_cons_zero, List.set_cons_succ]
        refine take_run 15 (.pointer (some ⟨g, 0, none⟩)) rfl (by kernel_rfl) (by kernel_rfl) (by kernel_rfl) (fun _ _ _ h => h) rfl hHeld (fun w' => ?_) ?_
        · go_simp
        simp only [Act.put, List.setIfInBounds_toArray, List.set_cons_zero, List.set_cons_succ]
        refine take_run 16 (.pointer (some ⟨g, 0, none⟩)) rfl (by kernel_rfl) (by kernel_rfl) (by kernel_rfl) (fun _ _ _ h => h) rfl hHeld (fun w' => ?_) ?_
        · go_simp
        simp only [Act.put, List.setIfInBounds_toArray, List.set_cons_zero, List.set_cons_succ]
        refine take_run 17 (.pointer (some ⟨g, 4, none⟩)) rfl (by kernel_rfl) (by kernel_rfl) (by kernel_rfl) (fun _ _ _ h => h) rfl hHeld (fun w' => ?_) ?_
        · go_simp
        simp only [Act.put, List.setIfInBounds_toArray, List.set_cons_zero, List.set_cons_succ]
        refine one_step 18 (by kernel_rfl) rfl (fun Kq hKq => ?_)
        refine step_store_in 27 _ _ rfl g 4 (.agg (idv Z)) (idv Z) rfl rfl rfl 48 ((p.putS C1 A9 n9 c9 S1).putB B9 m9 d9).arr (((p.putS C1 A9 n9 c9 S1).putB B9 m9 d9).putH Z).arr kz3 (info32 HZL.out) (by rw [idv_size, HZL.out, lp_size (show ((p.putS C1 A9 n9 c9 S1).putB B9 m9 d9).H.length = 32 from HPH.out)]; exact Nat.le_refl _) (idv_one _) (new_h _ _ HPH.out HZL.out) rfl ?_
        intro z4 hg4 kz4 hs4
        have hS4 : (fun X => X.heap[w.heap.size]? = some (.cells (enA ⟨g0, g1, g2, g3, g4, g5, g6, g7, g8⟩) 33 (0, 0)) ∧ RowB X gx 27 Z) z4 := ⟨blk_other hS3.1 hg4 (Nat.ne_of_gt hgl), rowb_grown hS3.2 hg4 (Nat.ne_of_gt (Nat.lt_of_lt_of_le hgl (Nat.le_trans HB1.out.size hgx)))⟩
        have hb4 := hb3.kept (blk_far (n := n9) (lo := B) hal (Nat.le_refl _)) hg4 HLO.out hgl
        have hown11 := hown10.far hg4 (own_ne hown10 kz3)
        have hB4 : Below B w z4 := hB3.grown hg4 (Nat.le_of_lt (Nat.lt_of_le_of_lt HLO.out (Array.getElem?_eq_some_iff.1 kz3).1)) (fun k e => by cases e; exact HLO.out)
        clear hg4 hs4
        refine hKq.out _ _ hS4 (fun hHeld0 => ?_)
        clear hKq Kq hHeld
        have hHeld := hHeld0
        clear hHeld0
        try simp only [Act.put, List.setIfInBounds_toArray, List.set_cons_zero, List.set_cons_succ]
        refine wpAnyH_done (by kernel_rfl) ?_ _
        obtain ⟨B0, m0, d0, he0, hen0⟩ := own_ens hown11
        cases he0
        clear hHeld
        go_wp2_with (first
          | (refine wp_goto ⟨rfl, ?_⟩)
          | (apply wp_label))
        first | rw [Exit.noGoto_ret] | rw [jump_ret] | skip
        go_ret
        exact ⟨⟨C1, A9, n9, c9, S1, B9, m9, d9, Z⟩, rfl, kz4, ⟨rfl, rfl, rfl, hb4, hen0, HOK.out, HFT.out⟩, fun a ha => Nat.le_trans HBL.out (hal a ha), hown11, hB4⟩
      · skip
        have hz := one_rws 9 33 z.drew (En.row ⟨g0, g1, g2, g3, g4, g5, g6, g7, g8⟩) rfl (row_one9 ⟨g0, g1, g2, g3, g4, g5, g6, g7, g8⟩)
        have hBa : Below z.drew.heap.size z.drew (z.drew.alloc (.cells #[.int .i64 g0, .int .i64 g1, .int .i64 g2, .int .i64 g3, .int .u64 g4, .int .u64 g5, .int .i64 g6, .int .i64 g7, .int .i64 g8] 33 (0, 0))) := one_alloc _ _
        have hSa : (fun X => X.heap[w.heap.size]? = some (.cells (enA ⟨g0, g1, g2, g3, g4, g5, g6, g7, g8⟩) 33 (0, 0)) ∧ RowB X gx 27 Z) (z.drew.alloc (.cells #[.int .i64 g0, .int .i64 g1, .int .i64 g2, .int .i64 g3, .int .u64 g4, .int .u64 g5, .int .i64 g6, .int .i64 g7, .int .i64 g8] 33 (0, 0))) := ⟨blk_below hSd.1 hBa, hSd.2.keep hBa⟩
        have koa := hod.more (.cells #[.int .i64 g0, .int .i64 g1, .int .i64 g2, .int .i64 g3, .int .u64 g4, .int .u64 g5, .int .i64 g6, .int .i64 g7, .int .i64 g8] 33 (0, 0))
        go_simp
        refine hKq.out _ _ hSa (fun hHeld0 => ?_)
        clear hKq Kq hHeld
        have hHeld := hHeld0
        clear hHeld0
        try simp only [Act.put, List.setIfInBounds_toArray, List.set_cons_zero, List.set_cons_succ]
        refine one_step 6 (by kernel_rfl) rfl (fun Kq hKq => ?_)
        have kza := blk_below kzd hBa
        have hq : ((z.alloc (.cells #[.int .i64 g0, .int .i64 g1, .int .i64 g2, .int .i64 g3, .int .u64 g4, .int .u64 g5, .int .i64 g6, .int .i64 g7, .int .i64 g8] 33 (0, 0)))).cell? ⟨g, 3, none⟩ = some (.slice p.B p.m p.d) := (dk_cells kza).2.2.2
        refine step_run (.slice p.B p.m p.d) rfl (by go_simp) ?_
        clear hq
        refine hKq.out _ _ hSa (fun hHeld0 => ?_)
        clear hKq Kq hHeld
        have hHeld := hHeld0
        clear hHeld0
        try simp only [Act.put, List.setIfInBounds_toArray, List.set_cons_zero, List.set_cons_succ]
        clear kza
        refine one_step 9 (by kernel_rfl) rfl (fun Kq hKq => ?_)
        refine step_append_r 25 33 9 72 _ _ rfl Tryz.underlying25 info_entry (by omega) B (.slice p.B p.m p.d) RW rfl koa _ 1 1 [En.row ⟨g0, g1, g2, g3, g4, g5, g6, g7, g8⟩] rfl hz (by have := HRL.out; omega) (by have := HRL.out; omega) (Nat.le_trans HBL.out (Nat.le_trans hzd hBa.size)) rfl ?_
        intro v9 z2 hown9 hg9
        rw [← HRO.out] at hown9
        obtain ⟨B9, m9, d9, rfl, -⟩ := own_ens hown9
        have kza := blk_below kzd hBa
        have kz2 := (hg9.block g (Nat.lt_of_lt_of_le hgl (Nat.le_trans hzd hBa.size)) (fun e => (own_ne koa kza).elim (fun h => by rw [h] at e; cases e) (fun h => h e.symm))).trans kza
        have hS2 : (fun X => X.heap[w.heap.size]? = some (.cells (enA ⟨g0, g1, g2, g3, g4, g5, g6, g7, g8⟩) 33 (0, 0)) ∧ RowB X gx 27 Z) z2 := ⟨(hg9.block _ (Array.getElem?_eq_some_iff.1 hSa.1).1 (fun e => absurd (HOW.out _ e.symm) (Nat.lt_irrefl _))).trans hSa.1, hSa.2.grown hg9 (fun e => absurd (HOW.out _ e.symm) (Nat.not_lt.2 (Nat.le_trans HB1.out.size hgx)))⟩
        have hb2 := (hbd.below hBa).grown hg9 (fun b off e he => absurd (HOW.out b he.symm) (Nat.not_lt.2 (hal _ e)))
        have hB2 : Below B w z2 := (hBd.trans (hBa.mono (Nat.le_trans HBL.out hzd))).grown hg9 (Nat.le_trans HBL.out (Nat.le_trans hzd hBa.size)) (fun k hk => (koa.size k hk).1)
        clear hg9 kza
        refine hKq.out _ _ hS2 (fun hHeld0 => ?_)
        clear hKq Kq hHeld
        have hHeld := hHeld0
        clear hHeld0
        try simp only [Act.put, List.setIfInBounds_toArray, List.set_cons_zero, List.set_cons_succ]
        refine take_run 11 (.pointer (some ⟨g, 0, none⟩)) rfl (by kernel_rfl) (by kernel_rfl) (by kernel_rfl) (fun _ _ _ h => h) rfl hHeld (fun w' => ?_) ?_
        · go_simp
        simp only [Act.put, List.setIfInBounds_toArray, List.set_cons_zero, List.set_cons_succ]
        refine take_run 12 (.pointer (some ⟨g, 0, none⟩)) rfl (by kernel_rfl) (by kernel_rfl) (by kernel_rfl) (fun _ _ _ h => h) rfl hHeld (fun w' => ?_) ?_
        · go_simp
        simp only [Act.put, List.setIfInBounds_toArray, List.set_cons_zero, List.set_cons_succ]
        refine take_run 13 (.pointer (some ⟨g, 3, none⟩)) rfl (by kernel_rfl) (by kernel_rfl) (by kernel_rfl) (fun _ _ _ h => h) rfl hHeld (fun w' => ?_) ?_
        · go_simp
        simp only [Act.put, List.setIfInBounds_toArray, List.set_cons_zero, List.set_cons_succ]
        refine one_step 14 (by kernel_rfl) rfl (fun Kq hKq => ?_)
        refine step_store_in 25 _ _ rfl g 3 (.slice B9 m9 d9) #[.slice B9 m9 d9] rfl rfl rfl 48 (p.putS C1 A9 n9 c9 S1).arr ((p.putS C1 A9 n9 c9 S1).putB B9 m9 d9).arr kz2 (size_ens1 _) (by rw [lp_size (show (p.putS C1 A9 n9 c9 S1).H.length = 32 from HPH.out)]; show 3 + 1 ≤ 36; omega) (one_slice _ _ _) (new_b _ _ _ _) rfl ?_
        intro z3 hg3 kz3 hs3
        have hS3 : (fun X => X.heap[w.heap.size]? = some (.cells (enA ⟨g0, g1, g2, g3, g4, g5, g6, g7, g8⟩) 33 (0, 0)) ∧ RowB X gx 27 Z) z3 := ⟨blk_other hS2.1 hg3 (Nat.ne_of_gt hgl), rowb_grown hS2.2 hg3 (Nat.ne_of_gt (Nat.lt_of_lt_of_le hgl (Nat.le_trans HB1.out.size hgx)))⟩
        have hb3 := hb2.kept (blk_far (n := n9) (lo := B) hal (Nat.le_refl _)) hg3 HLO.out hgl
        have hown10 := hown9.far hg3 (own_ne hown9 kz2)
        have hB3 : Below B w z3 := hB2.grown hg3 (Nat.le_of_lt (Nat.lt_of_le_of_lt HLO.out (Array.getElem?_eq_some_iff.1 kz2).1)) (fun k e => by cases e; exact HLO.out)
        clear hg3 hs3
        refine hKq.out _ _ hS3 (fun hHeld0 => ?_)
        clear hKq Kq hHeld
        have hHeld := hHeld0
        clear hHeld0
        try simp only [Act.put, List.setIfInBounds_toArray, List.set_cons_zero, List.set_cons_succ]
        refine take_run 15 (.pointer (some ⟨g, 0, none⟩)) rfl (by kernel_rfl) (by kernel_rfl) (by kernel_rfl) (fun _ _ _ h => h) rfl hHeld (fun w' => ?_) ?_
        · go_simp
        simp only [Act.put, List.setIfInBounds_toArray, List.set_cons_zero, List.set_cons_succ]
        refine take_run 16 (.pointer (some ⟨g, 0, none⟩)) rfl (by kernel_rfl) (by kernel_rfl) (by kernel_rfl) (fun _ _ _ h => h) rfl hHeld (fun w' => ?_) ?_
        · go_simp
        simp only [Act.put, List.setIfInBounds_toArray, List.set_cons_zero, List.set_cons_succ]
        refine take_run 17 (.pointer (some ⟨g, 4, none⟩)) rfl (by kernel_rfl) (by kernel_rfl) (by kernel_rfl) (fun _ _ _ h => h) rfl hHeld (fun w' => ?_) ?_
        · go_simp
        simp only [Act.put, List.setIfInBounds_toArray, List.set_cons_zero, List.set_cons_succ]
        refine one_step 18 (by kernel_rfl) rfl (fun Kq hKq => ?_)
        refine step_store_in 27 _ _ rfl g 4 (.agg (idv Z)) (idv Z) rfl rfl rfl 48 ((p.putS C1 A9 n9 c9 S1).putB B9 m9 d9).arr (((p.putS C1 A9 n9 c9 S1).putB B9 m9 d9).putH Z).arr kz3 (info32 HZL.out) (by rw [idv_size, HZL.out, lp_size (show ((p.putS C1 A9 n9 c9 S1).putB B9 m9 d9).H.length = 32 from HPH.out)]; exact Nat.le_refl _) (idv_one _) (new_h _ _ HPH.out HZL.out) rfl ?_
        intro z4 hg4 kz4 hs4
        have hS4 : (fun X => X.heap[w.heap.size]? = some (.cells (enA ⟨g0, g1, g2, g3, g4, g5, g6, g7, g8⟩) 33 (0, 0)) ∧ RowB X gx 27 Z) z4 := ⟨blk_other hS3.1 hg4 (Nat.ne_of_gt hgl), rowb_grown hS3.2 hg4 (Nat.ne_of_gt (Nat.lt_of_lt_of_le hgl (Nat.le_trans HB1.out.size hgx)))⟩
        have hb4 := hb3.kept (blk_far (n := n9) (lo := B) hal (Nat.le_refl _)) hg4 HLO.out hgl
        have hown11 := hown10.far hg4 (own_ne hown10 kz3)
        have hB4 : Below B w z4 := hB3.grown hg4 (Nat.le_of_lt (Nat.lt_of_le_of_lt HLO.out (Array.getElem?_eq_some_iff.1 kz3).1)) (fun k e => by cases e; exact HLO.out)
        clear hg4 hs4
        refine hKq.out _ _ hS4 (fun hHeld0 => ?_)
        clear hKq Kq hHeld
        have hHeld := hHeld0
        clear hHeld0
        try simp only [Act.put, List.setIfInBounds_toArray, List.set_cons_zero, List.set_cons_succ]
        refine wpAnyH_done (by kernel_rfl) ?_ _
        obtain ⟨B0, m0, d0, he0, hen0⟩ := own_ens hown11
        cases he0
        clear hHeld
        go_wp2_with (first
          | (refine wp_goto ⟨rfl, ?_⟩)
          | (apply wp_label))
        first | rw [Exit.noGoto_ret] | rw [jump_ret] | skip
        go_ret
        exact ⟨⟨C1, A9, n9, c9, S1, B9, m9, d9, Z⟩, rfl, kz4, ⟨rfl, rfl, rfl, hb4, hen0, HOK.out, HFT.out⟩, fun a ha => Nat.le_trans HBL.out (hal a ha), hown11, hB4⟩
  · skip
    have hz : RowB (w1.drew.alloc (.cells (idv noughtsC) 27)) w1.drew.heap.size 27 noughtsC := rowb_lit _ _ _ _ rfl
    have hS1 : Below w1.heap.size w1 (w1.drew.alloc (.cells (idv noughtsC) 27)) := hSd.alloc hSd.size _
    have hgx : w1.heap.size ≤ w1.drew.heap.size := hSd.size
    go_simp
    refine hKq.out _ _ hS1 (fun hHeld0 => ?_)
    clear hKq Kq hHeld
    have hHeld := hHeld0
    clear hHeld0
    try simp only [Act.put, List.setIfInBounds_toArray, List.set_cons_zero, List.set_cons_succ]
    refine one_step 6 (by kernel_rfl) rfl (fun Kq hKq => ?_)
    go_simp
    go_at_call 51
    refine (HLK.out _ (HK.out.from (HB1.out.trans (hS1.mono HB1.out.size)))).mono ?_
    rintro e y1 ⟨rfl, hbx⟩
    have hS2 : Below w1.heap.size w1 y1 := hS1.trans (hbx.mono hS1.size)
    have hz := hz.keep hbx
    clear hbx
    refine hKq.out _ _ hS2 (fun hHeld0 => ?_)
    clear hKq Kq hHeld
    have hHeld := hHeld0
    clear hHeld0
    try simp only [Act.put, List.setIfInBounds_toArray, List.set_cons_zero, List.set_cons_succ]
    refine take_run 7 (.tuple #[.agg (idv Z), .bool true]) rfl (by kernel_rfl) (by kernel_rfl) (by kernel_rfl) (fun _ _ _ h => h) rfl hHeld (fun w' => ?_) ?_
    · go_simp
    simp only [Act.put, List.setIfInBounds_toArray, List.set_cons_zero, List.set_cons_succ]
    refine take_run 8 (.agg (idv Z)) rfl (by kernel_rfl) (by kernel_rfl) (by kernel_rfl) (fun _ _ _ h => h) rfl hHeld (fun w' => ?_) ?_
    · go_simp
    simp only [Act.put, List.setIfInBounds_toArray, List.set_cons_zero, List.set_cons_succ]
    refine take_run 9 (.bool true) rfl (by kernel_rfl) (by kernel_rfl) (by kernel_rfl) (fun _ _ _ h => h) rfl hHeld (fun w' => ?_) ?_
    · go_simp
    simp only [Act.put, List.setIfInBounds_toArray, List.set_cons_zero, List.set_cons_succ]
    refine one_step 11 (by kernel_rfl) rfl (fun Kq hKq => ?_)
    refine step_store_b 27 _ _ rfl w1.heap.size Z noughtsC rfl rfl 27 hz (info32 HZL.out) (by rw [HZL.out]; rfl) rfl ?_
    intro wM hgM hXM hsM
    have hSM : Below w1.heap.size w1 wM := hS2.grown hgM hS2.size (fun q e => by cases e; exact hgx)
    clear hgM hsM
    refine hKq.out _ _ hSM (fun hHeld0 => ?_)
    clear hKq Kq hHeld
    have hHeld := hHeld0
    clear hHeld0
    try simp only [Act.put, List.setIfInBounds_toArray, List.set_cons_zero, List.set_cons_succ]
    refine take_run 12 (.bool true) rfl (by kernel_rfl) (by kernel_rfl) (by kernel_rfl) (fun _ _ _ h => h) rfl hHeld (fun w' => ?_) ?_
    · go_simp
    simp only [Act.put, List.setIfInBounds_toArray, List.set_cons_zero, List.set_cons_succ]
    refine wpAnyH_done (by kernel_rfl) ?_ _
    obtain ⟨gx, hgxe⟩ : ∃ q, w1.heap.size = q := ⟨_, rfl⟩
    have hgx : w1.heap.size ≤ gx := Nat.le_trans hgx (Nat.le_of_eq hgxe)
    rw [hgxe] at hXM ⊢
    have kg2 := blk_below kg1 hSM
    have ke2 := blk_below ke1 hSM
    have HB2 := Lib.hid (HB1.out.trans (hSM.mono HB1.out.size))
    have hown2 := hown1.below hSM
    have HE2 := Lib.hid (show Below (w.heap.size + 1) w1 wM from hSM.mono hz1)
    clear hgxe hHeld hSM hz hSd
    go_wp2_with (first
      | (refine wp_goto ⟨rfl, ?_⟩)
      | (apply wp_label)
      | ((with_reducible refine wpList_load_blk 29 _ rfl g ?hx3 48 p.arr (0, 0) _ kg2 Tryz.underlying29 ?hd3 HW.out ?_ ?hw3); (case hx3 => rfl); (case hd3 => rfl); (case hw3 => rfl))
      | (go_at_call 17
         (with_reducible refine (HMY.out _ HB2.out).mono ?_)
         rintro e w3 ⟨rfl, hbx⟩
         have kg3 := blk_below kg2 hbx
         have ke3 := blk_below ke2 hbx
         have HB3 := Lib.hid (HB2.out.trans (hbx.mono HB2.out.size))
         have hown3 := hown2.below hbx
         have HE3 := Lib.hid (HE2.out.trans (hbx.mono (HE2.out.size_from hz1)))
         have hX3 := hXM.keep hbx
         clear hbx)
      | ((with_reducible refine wpList_load_blk 48 _ rfl g ?hx5 48 p.arr (0, 0) _ kg3 Tryz.underlying48 ?hd5 HWD.out ?_ ?hw5); (case hx5 => rfl); (case hd5 => rfl); (case hw5 => rfl))
      | (go_at_call 47
         (with_reducible refine (HLF.out _).mono ?_)
         rintro e w4 ⟨rfl, hbx⟩
         have kg4 := blk_below kg3 hbx
         have ke4 := blk_below ke3 hbx
         have HB4 := Lib.hid (HB3.out.trans (hbx.mono HB3.out.size))
         have hown4 := hown3.below hbx
         have HE4 := Lib.hid (HE3.out.trans (hbx.mono (HE3.out.size_from hz1)))
         have hX4 := hX3.keep hbx
         clear hbx))
    clear kg2 kg3 ke2 ke3 hown2 hown3 hXM hX3
    have hE4d := HE4.out.drew
    have hXd := hX4.draw1
    have hownd := hown4.draw1
    have kgd := blk_drew kg4
    have hBd := HB4.out.drew
    have hzd : w.heap.size + 1 ≤ w4.drew.heap.size := HE4.out.size_from hz1
    clear kg4 ke4 hX4 hown4
    refine wp_region_held_drew (S := fun _ => True) (by kernel_rfl) trivial (fun hHeld => ?_)
    refine take_move 0 (.tmp 0) (.pointer (some ⟨g, 0, none⟩)) rfl rfl rfl (by kernel_rfl) (by kernel_rfl) (by kernel_rfl) (fun _ _ _ h => h) rfl hHeld ?_
    simp only [Act.put, List.setIfInBounds_toArray, List.set_cons_zero, List.set_cons_succ]
    refine take_move 1 (.tmp 0) (.pointer (some ⟨g, 0, none⟩)) rfl rfl rfl (by kernel_rfl) (by kernel_rfl) (by kernel_rfl) (fun _ _ _ h => h) rfl hHeld ?_
    simp only [Act.put, List.setIfInBounds_toArray, List.set_cons_zero, List.set_cons_succ]
    refine take_run 2 (.pointer (some ⟨g, 0, none⟩)) rfl (by kernel_rfl) (by kernel_rfl) (by kernel_rfl) (fun _ _ _ h => h) rfl hHeld (fun w' => ?_) ?_
    · go_simp
    simp only [Act.put, List.setIfInBounds_toArray, List.set_cons_zero, List.set_cons_succ]
    refine take_run 3 (.pointer (some ⟨g, 0, none⟩)) rfl (by kernel_rfl) (by kernel_rfl) (by kernel_rfl) (fun _ _ _ h => h) rfl hHeld (fun w' => ?_) ?_
    · go_simp
    simp only [Act.put, List.setIfInBounds_toArray, List.set_cons_zero, List.set_cons_succ]
    refine take_run 4 (.pointer (some ⟨g, 0, none⟩)) rfl (by kernel_rfl) (by kernel_rfl) (by kernel_rfl) (fun _ _ _ h => h) rfl hHeld (fun w' => ?_) ?_
    · go_simp
    simp only [Act.put, List.setIfInBounds_toArray, List.set_cons_zero, List.set_cons_succ]
    refine take_move 6 (.tmp 7) (.slice A1 m1 c1) rfl rfl rfl (by kernel_rfl) (by kernel_rfl) (by kernel_rfl) (fun _ _ _ h => h) rfl hHeld ?_
    simp only [Act.put, List.setIfInBounds_toArray, List.set_cons_zero, List.set_cons_succ]
    refine take_run 7 (.slice (some ⟨gx, 0, none⟩) 32 32) rfl (by kernel_rfl) (by kernel_rfl) (by kernel_rfl) (fun _ _ _ h => h) rfl hHeld (fun w' => ?_) ?_
    · have hq := run_all32 ⟨gx, 0, none⟩ w'
      go_simp
    simp only [Act.put, List.setIfInBounds_toArray, List.set_cons_zero, List.set_cons_succ]
    refine two_steps 5 8 (by kernel_rfl) rfl rfl (fun Kq hKq => ?_) (fun Kq hKq => ?_)
    · skip
      refine step_load_mid 24 _ rfl g 0 rfl [.int .i64 p.cap, .slice p.A p.n p.c, .int .i64 p.sure] _ rfl _ (dk_st kgd) Tryz.underlying24 rfl (by kernel_rfl) rfl ?_
      refine hKq.out _ _ trivial (fun hHeld0 => ?_)
      clear hKq Kq hHeld
      have hHeld := hHeld0
      clear hHeld0
      try simp only [Act.put, List.setIfInBounds_toArray, List.set_cons_zero, List.set_cons_succ]
      refine one_step 8 (by kernel_rfl) rfl (fun Kq hKq => ?_)
      refine step_append_o (.tmp 50) (.tmp 51) rfl (w.heap.size + 1) (.slice A1 m1 c1) PE rfl hownd (some ⟨gx, 0, none⟩) 32 32 Z rfl (hXd.btsAt HZL.out (by unfold maxLen; omega) HZB.out) (by have := HPL.out; omega) hzd rfl ?_
      intro v8 w8 hown8 hg8
      have hE8 := hE4d.grown hg8 hzd (fun k hk => (hownd.size k hk).1)
      have hX8 := hXd.grown hg8 (fun e => absurd (HO1.out _ e.symm) (Nat.not_lt.2 hgx))
      rw [HRE.out] at hown8
      obtain ⟨A8, n8, c8, rfl, hbt8⟩ := hown8.slice HROK.out
      have hB8 := HB1.out.trans (hE8.mono (Nat.le_succ _))
      clear hg8 hown8
      refine hKq.out _ _ trivial (fun hHeld0 => ?_)
      clear hKq Kq hHeld
      have hHeld := hHeld0
      clear hHeld0
      try simp only [Act.put, List.setIfInBounds_toArray, List.set_cons_zero, List.set_cons_succ]
      refine one_step 9 (by kernel_rfl) rfl (fun Kq hKq => ?_)
      go_simp
      go_at_call 52
      refine (HWR.out A8 n8 c8 w8 hB8 hbt8).mono ?_
      rintro e y9 ⟨A9, n9, c9, rfl, hbt9, hlo9, hbx⟩
      have hz8 : w.heap.size + 1 ≤ w8.heap.size := hE8.size_from hz1
      have hE9 := hE8.trans (hbx.mono hz8)
      have hX9 := hX8.keep hbx
      have hfa := blk_far (n := n9) (lo := B) hlo9 (Nat.le_of_succ_le hz8)
      have hB9 := HB1.out.trans (hE9.mono (Nat.le_succ _))
      have hal : ∀ a, A9 = some a → w.heap.size ≤ a.block := fun a ha => Nat.le_trans (Nat.le_of_succ_le hz8) (hlo9 a ha)
      have kg9 := (hE9.block g (Nat.lt_succ_of_lt hgl)).trans kg1
      have ke9 := (hE9.block w.heap.size (Nat.lt_succ_self _)).trans ke1
      have hoe9 := HOE.out.below hB9
      clear hbx hX8 hbt8 hE8 hlo9
      refine hKq.out _ _ trivial (fun hHeld0 => ?_)
      clear hKq Kq hHeld
      have hHeld := hHeld0
      clear hHeld0
      try simp only [Act.put, List.setIfInBounds_toArray, List.set_cons_zero, List.set_cons_succ]
      refine take_run 10 (.tuple #[.agg #[.int .i64 C1, .slice A9 n9 c9, .int .i64 S1], .int .i64 0]) rfl (by kernel_rfl) (by kernel_rfl) (by kernel_rfl) (fun _ _ _ h => h) rfl hHeld (fun w' => ?_) ?_
      · go_simp
      simp only [Act.put, List.setIfInBounds_toArray, List.set_cons_zero, List.set_cons_succ]
      refine take_run 11 (.agg #[.int .i64 C1, .slice A9 n9 c9, .int .i64 S1]) rfl (by kernel_rfl) (by kernel_rfl) (by kernel_rfl) (fun _ _ _ h => h) rfl hHeld (fun w' => ?_) ?_
      · go_simp
      simp only [Act.put, List.setIfInBounds_toArray, List.set_cons_zero, List.set_cons_succ]
      refine take_run 12 (.int .i64 0) rfl (by kernel_rfl) (by kernel_rfl) (by kernel_rfl) (fun _ _ _ h => h) rfl hHeld (fun w' => ?_) ?_
      · go_simp
      simp only [Act.put, List.setIfInBounds_toArray, List.set_cons_zero, List.set_cons_succ]
      refine take_run 13 (.pointer (some ⟨g, 0, none⟩)) rfl (by kernel_rfl) (by kernel_rfl) (by kernel_rfl) (fun _ _ _ h => h) rfl hHeld (fun w' => ?_) ?_
      · go_simp
      simp only [Act.put, List.setIfInBounds_toArray, List.set_cons_zero, List.set_cons_succ]
      refine take_run 14 (.pointer (some ⟨g, 0, none⟩)) rfl (by kernel_rfl) (by kernel_rfl) (by kernel_rfl) (fun _ _ _ h => h) rfl hHeld (fun w' => ?_) ?_
      · go_simp
      simp only [Act.put, List.setIfInBounds_toArray, List.set_cons_zero, List.set_cons_succ]
      refine take_run 15 (.pointer (some ⟨g, 0, none⟩)) rfl (by kernel_rfl) (by kernel_rfl) (by kernel_rfl) (fun _ _ _ h => h) rfl hHeld (fun w' => ?_) ?_
      · go_simp
      simp only [Act.put, List.setIfInBounds_toArray, List.set_cons_zero, List.set_cons_succ]
      refine one_step 16 (by kernel_rfl) rfl (fun Kq hKq => ?_)
      refine step_store_in 24 _ _ rfl g 0 (.agg #[.int .i64 C1, .slice A9 n9 c9, .int .i64 S1]) #[.int .i64 C1, .slice A9 n9 c9, .int .i64 S1] rfl rfl rfl 48 p.arr (p.putS C1 A9 n9 c9 S1).arr kg9 (size_st3 _ _ _) (by rw [HS.out]; show 0 + 3 ≤ 36; omega) (one_store _ _ _ _ _) (new_s _ _ _ _ _ _) rfl ?_
      intro z hgz kz hsz
      have hez := blk_other ke9 hgz (Nat.ne_of_gt hgl)
      have hXz := rowb_grown hX9 hgz (Nat.ne_of_gt (Nat.lt_of_lt_of_le hgl (Nat.le_trans HB1.out.size hgx)))
      have hbtz := hbt9.kept hfa hgz HLO.out hgl
      have hBz : Below B w z := (hB9.mono HBL.out).grown hgz (Nat.le_trans HBL.out hB9.size) (fun k e => by cases e; exact HLO.out)
      have hoez := hoe9.far hgz (own_ne hoe9 kg9)
      have hzz : w.heap.size ≤ z.heap.size := by rw [hsz]; exact hB9.size
      clear hgz hsz kg9 ke9 hX9 hbt9 hB9 hoe9 hE9 hfa
      refine hKq.out _ _ trivial (fun hHeld0 => ?_)
      clear hKq Kq hHeld
      have hHeld := hHeld0
      clear hHeld0
      try simp only [Act.put, List.setIfInBounds_toArray, List.set_cons_zero, List.set_cons_succ]
      refine take_run 17 (.int .i64 0) rfl (by kernel_rfl) (by kernel_rfl) (by kernel_rfl) (fun _ _ _ h => h) rfl hHeld (fun w' => ?_) ?_
      · go_simp
      simp only [Act.put, List.setIfInBounds_toArray, List.set_cons_zero, List.set_cons_succ]
      refine wpAnyH_done (by kernel_rfl) ?_ _
      clear hHeld hownd hXd kgd hE4d hBd hB8
      go_wp2
      obtain ⟨g0, g1, g2, g3, g4, g5, g6, g7, g8⟩ := u
      have hSd : (fun X => X.heap[w.heap.size]? = some (.cells (enA ⟨g0, g1, g2, g3, g4, g5, g6, g7, g8⟩) 33 (0, 0)) ∧ RowB X gx 27 Z) z.drew := ⟨blk_drew hez, hXz.draw1⟩
      have kzd := blk_drew kz
      have hod := hoez.draw1
      have hbd := hbtz.draw1
      have hBd := hBz.drew
      have hzd : w.heap.size ≤ z.drew.heap.size := hzz
      clear kz hez hXz hoez hbtz hBz hzz
      refine wp_region_held_drew (S := (fun X => X.heap[w.heap.size]? = some (.cells (enA ⟨g0, g1, g2, g3, g4, g5, g6, g7, g8⟩) 33 (0, 0)) ∧ RowB X gx 27 Z)) (by kernel_rfl) hSd (fun hHeld => ?_)
      refine take_move 0 (.tmp 0) (.pointer (some ⟨g, 0, none⟩)) rfl rfl rfl (by kernel_rfl) (by kernel_rfl) (by kernel_rfl) (fun _ _ _ h => h) rfl hHeld ?_
      simp only [Act.put, List.setIfInBounds_toArray, List.set_cons_zero, List.set_cons_succ]
      refine take_move 1 (.tmp 0) (.pointer (some ⟨g, 0, none⟩)) rfl rfl rfl (by kernel_rfl) (by kernel_rfl) (by kernel_rfl) (fun _ _ _ h => h) rfl hHeld ?_
      simp only [Act.put, List.setIfInBounds_toArray, List.set_cons_zero, List.set_cons_succ]
      refine take_move 2 (.tmp 0) (.pointer (some ⟨g, 0, none⟩)) rfl rfl rfl (by kernel_rfl) (by kernel_rfl) (by kernel_rfl) (fun _ _ _ h => h) rfl hHeld ?_
      simp only [Act.put, List.setIfInBounds_toArray, List.set_cons_zero, List.set_cons_succ]
      refine take_run 3 (.pointer (some ⟨g, 0, none⟩)) rfl (by kernel_rfl) (by kernel_rfl) (by kernel_rfl) (fun _ _ _ h => h) rfl hHeld (fun w' => ?_) ?_
      · go_simp
      simp only [Act.put, List.setIfInBounds_toArray, List.set_cons_zero, List.set_cons_succ]
      refine take_run 4 (.pointer (some ⟨g, 0, none⟩)) rfl (by kernel_rfl) (by kernel_rfl) (by kernel_rfl) (fun _ _ _ h => h) rfl hHeld (fun w' => ?_) ?_
      · go_simp
      simp only [Act.put, List.setIfInBounds_toArray, List.set_cons_zero, List.set_cons_succ]
      refine take_run 5 (.pointer (some ⟨g, 3, none⟩)) rfl (by kernel_rfl) (by kernel_rfl) (by kernel_rfl) (fun _ _ _ h => h) rfl hHeld (fun w' => ?_) ?_
      · go_simp
      simp only [Act.put, List.setIfInBounds_toArray, List.set_cons_zero, List.set_cons_succ]
      refine take_blk 7 33 _ w.heap.size 33 #[.int .i64 g0, .int .i64 g1, .int .i64 g2, .int .i64 g3, .int .u64 g4, .int .u64 g5, .int .i64 g6, .int .i64 g7, .int .i64 g8] (0, 0) _ rfl rfl rfl (by kernel_rfl) (by kernel_rfl) (by kernel_rfl) (fun _ _ _ h => h) rfl hHeld (fun X hX => hX.1) Tryz.underlying33 rfl (info_en rfl) ?_
      simp only [Act.put, List.setIfInBounds_toArray, List.set_cons_zero, List.set_cons_succ]
      refine take_if 10 (.agg (idv Z)) rfl (by kernel_rfl) (by kernel_rfl) (by kernel_rfl) (fun _ _ _ h => h) rfl hHeld (fun w' hw' => ?_) ?_
      · exact id_load hw'.2 HZL.out rfl rfl
      simp only [Act.put, List.setIfInBounds_toArray, List.set_cons_zero, List.set_cons_succ]
      refine two_steps 6 8 (by kernel_rfl) rfl rfl (fun Kq hKq => ?_) (fun Kq hKq => ?_)
      · skip
        have hq : (z).cell? ⟨g, 3, none⟩ = some (.slice p.B p.m p.d) := (dk_cells kzd).2.2.2
        refine step_run (.slice p.B p.m p.d) rfl (by go_simp) ?_
        clear hq
        refine hKq.out _ _ hSd (fun hHeld0 => ?_)
        clear hKq Kq hHeld
        have hHeld := hHeld0
        clear hHeld0
        try simp only [Act.put, List.setIfInBounds_toArray, List.set_cons_zero, List.set_cons_succ]
        refine one_step 8 (by kernel_rfl) rfl (fun Kq hKq => ?_)
        have hz := one_rws 9 33 z.drew (En.row ⟨g0, g1, g2, g3, g4, g5, g6, g7, g8⟩) rfl (row_one9 ⟨g0, g1, g2, g3, g4, g5, g6, g7, g8⟩)
        have hBa : Below z.drew.heap.size z.drew (z.drew.alloc (.cells #[.int .i64 g0, .int .i64 g1, .int .i64 g2, .int .i64 g3, .int .u64 g4, .int .u64 g5, .int .i64 g6, .int .i64 g7, .int .i64 g8] 33 (0, 0))) := one_alloc _ _
        have hSa : (fun X => X.heap[w.heap.size]? = some (.cells (enA ⟨g0, g1, g2, g3, g4, g5, g6, g7, g8⟩) 33 (0, 0)) ∧ RowB X gx 27 Z) (z.drew.alloc (.cells #[.int .i64 g0, .int .i64 g1, .int .i64 g2, .int .i64 g3, .int .u64 g4, .int .u64 g5, .int .i64 g6, .int .i64 g7, .int .i64 g8] 33 (0, 0))) := ⟨blk_below hSd.1 hBa, hSd.2.keep hBa⟩
        have koa := hod.more (.cells #[.int .i64 g0, .int .i64 g1, .int .i64 g2, .int .i64 g3, .int .u64 g4, .int .u64 g5, .int .i64 g6, .int .i64 g7, .int .i64 g8] 33 (0, 0))
        go_simp
        refine hKq.out _ _ hSa (fun hHeld0 => ?_)
        clear hKq Kq hHeld
        have hHeld := hHeld0
        clear hHeld0
        try simp only [Act.put, List.setIfInBounds_toArray, List.set_cons_zero, List.set_cons_succ]
        refine one_step 9 (by kernel_rfl) rfl (fun Kq hKq => ?_)
        refine step_append_r 25 33 9 72 _ _ rfl Tryz.underlying25 info_entry (by omega) B (.slice p.B p.m p.d) RW rfl koa _ 1 1 [En.row ⟨g0, g1, g2, g3, g4, g5, g6, g7, g8⟩] rfl hz (by have := HRL.out; omega) (by have := HRL.out; omega) (Nat.le_trans HBL.out (Nat.le_trans hzd hBa.size)) rfl ?_
        intro v9 z2 hown9 hg9
        rw [← HRO.out] at hown9
        obtain ⟨B9, m9, d9, rfl, -⟩ := own_ens hown9
        have kza := blk_below kzd hBa
        have kz2 := (hg9.block g (Nat.lt_of_lt_of_le hgl (Nat.le_trans hzd hBa.size)) (fun e => (own_ne koa kza).elim (fun h => by rw [h] at e; cases e) (fun h => h e.symm))).trans kza
        have hS2 : (fun X => X.heap[w.heap.size]? = some (.cells (enA ⟨g0, g1, g2, g3, g4, g5, g6, g7, g8⟩) 33 (0, 0)) ∧ RowB X gx 27 Z) z2 := ⟨(hg9.block _ (Array.getElem?_eq_some_iff.1 hSa.1).1 (fun e => absurd (HOW.out _ e.symm) (Nat.lt_irrefl _))).trans hSa.1, hSa.2.grown hg9 (fun e => absurd (HOW.out _ e.symm) (Nat.not_lt.2 (Nat.le_trans HB1.out.size hgx)))⟩
        have hb2 := (hbd.below hBa).grown hg9 (fun b off e he => absurd (HOW.out b he.symm) (Nat.not_lt.2 (hal _ e)))
        have hB2 : Below B w z2 := (hBd.trans (hBa.mono (Nat.le_trans HBL.out hzd))).grown hg9 (Nat.le_trans HBL.out (Nat.le_trans hzd hBa.size)) (fun k hk => (koa.size k hk).1)
        clear hg9 kza
        refine hKq.out _ _ hS2 (fun hHeld0 => ?_)
        clear hKq Kq hHeld
        have hHeld := hHeld0
        clear hHeld0
        try simp only [Act.put, List.setIfInBounds_toArray, List.set_cons_zero, List.set_cons_succ]
        refine take_run 11 (.pointer (some ⟨g, 0, none⟩)) rfl (by kernel_rfl) (by kernel_rfl) (by kernel_rfl) (fun _ _ _ h => h) rfl hHeld (fun w' => ?_) ?_
        · go_simp
        simp only [Act.put, List.setIfInBounds_toArray, List.set_cons_zero, List.set_cons_succ]
        refine take_run 12 (.pointer (some ⟨g, 0, none⟩)) rfl (by kernel_rfl) (by kernel_rfl) (by kernel_rfl) (fun _ _ _ h => h) rfl hHeld (fun w' => ?_) ?_
        · go_simp
        simp only [Act.put, List.setIfInBounds_toArray, List.set_cons_zero, List.set_cons_succ]
        refine take_run 13 (.pointer (some ⟨g, 3, none⟩)) rfl (by kernel_rfl) (by kernel_rfl) (by kernel_rfl) (fun _ _ _ h => h) rfl hHeld (fun w' => ?_) ?_
        · go_simp
        simp only [Act.put, List.setIfInBounds_toArray, List.set_cons_zero, List.set_cons_succ]
        refine one_step 14 (by kernel_rfl) rfl (fun Kq hKq => ?_)
        refine step_store_in 25 _ _ rfl g 3 (.slice B9 m9 d9) #[.slice B9 m9 d9] rfl rfl rfl 48 (p.putS C1 A9 n9 c9 S1).arr ((p.putS C1 A9 n9 c9 S1).putB B9 m9 d9).arr kz2 (size_ens1 _) (by rw [lp_size (show (p.putS C1 A9 n9 c9 S1).H.length = 32 from HPH.out)]; show 3 + 1 ≤ 36; omega) (one_slice _ _ _) (new_b _ _ _ _) rfl ?_
        intro z3 hg3 kz3 hs3
        have hS3 : (fun X => X.heap[w.heap.size]? = some (.cells (enA ⟨g0, g1, g2, g3, g4, g5, g6, g7, g8⟩) 33 (0, 0)) ∧ RowB X gx 27 Z) z3 := ⟨blk_other hS2.1 hg3 (Nat.ne_of_gt hgl), rowb_grown hS2.2 hg3 (Nat.ne_of_gt (Nat.lt_of_lt_of_le hgl (Nat.le_trans HB1.out.size hgx)))⟩
        have hb3 := hb2.kept (blk_far (n := n9) (lo := B) hal (Nat.le_refl _)) hg3 HLO.out hgl
        have hown10 := hown9.far hg3 (own_ne hown9 kz2)
        have hB3 : Below B w z3 := hB2.grown hg3 (Nat.le_of_lt (Nat.lt_of_le_of_lt HLO.out (Array.getElem?_eq_some_iff.1 kz2).1)) (fun k e => by cases e; exact HLO.out)
        clear hg3 hs3
        refine hKq.out _ _ hS3 (fun hHeld0 => ?_)
        clear hKq Kq hHeld
        have hHeld := hHeld0
        clear hHeld0
        try simp only [Act.put, List.setIfInBounds_toArray, List.set_cons_zero, List.set_cons_succ]
        refine take_run 15 (.pointer (some ⟨g, 0, none⟩)) rfl (by kernel_rfl) (by kernel_rfl) (by kernel_rfl) (fun _ _ _ h => h) rfl hHeld (fun w' => ?_) ?_
        · go_simp
        simp only [Act.put, List.setIfInBounds_toArray, List.set_cons_zero, List.set_cons_succ]
        refine take_run 16 (.pointer (some ⟨g, 0, none⟩)) rfl (by kernel_rfl) (by kernel_rfl) (by kernel_rfl) (fun _ _ _ h => h) rfl hHeld (fun w' => ?_) ?_
        · go_simp
        simp only [Act.put, List.setIfInBounds_toArray, List.set_cons_zero, List.set_cons_succ]
        refine take_run 17 (.pointer (some ⟨g, 4, none⟩)) rfl (by kernel_rfl) (by kernel_rfl) (by kernel_rfl) (fun _ _ _ h => h) rfl hHeld (fun w' => ?_) ?_
        · go_simp
        simp only [Act.put, List.setIfInBounds_toArray, List.set_cons_zero, List.set_cons_succ]
        refine one_step 18 (by kernel_rfl) rfl (fun Kq hKq => ?_)
        refine step_store_in 27 _ _ rfl g 4 (.agg (idv Z)) (idv Z) rfl rfl rfl 48 ((p.putS C1 A9 n9 c9 S1).putB B9 m9 d9).arr (((p.putS C1 A9 n9 c9 S1).putB B9 m9 d9).putH Z).arr kz3 (info32 HZL.out) (by rw [idv_size, HZL.out, lp_size (show ((p.putS C1 A9 n9 c9 S1).putB B9 m9 d9).H.length = 32 from HPH.out)]; exact Nat.le_refl _) (idv_one _) (new_h _ _ HPH.out HZL.out) rfl ?_
        intro z4 hg4 kz4 hs4
        have hS4 : (fun X => X.heap[w.heap.size]? = some (.cells (enA ⟨g0, g1, g2, g3, g4, g5, g6, g7, g8⟩) 33 (0, 0)) ∧ RowB X gx 27 Z) z4 := ⟨blk_other hS3.1 hg4 (Nat.ne_of_gt hgl), rowb_grown hS3.2 hg4 (Nat.ne_of_gt (Nat.lt_of_lt_of_le hgl (Nat.le_trans HB1.out.size hgx)))⟩
        have hb4 := hb3.kept (blk_far (n := n9) (lo := B) hal (Nat.le_refl _)) hg4 HLO.out hgl
        have hown11 := hown10.far hg4 (own_ne hown10 kz3)
        have hB4 : Below B w z4 := hB3.grown hg4 (Nat.le_of_lt (Nat.lt_of_le_of_lt HLO.out (Array.getElem?_eq_some_iff.1 kz3).1)) (fun k e => by cases e; exact HLO.out)
        clear hg4 hs4
        refine hKq.out _ _ hS4 (fun hHeld0 => ?_)
        clear hKq Kq hHeld
        have hHeld := hHeld0
        clear hHeld0
        try simp only [Act.put, List.setIfInBounds_toArray, List.set_cons_zero, List.set_cons_succ]
        refine wpAnyH_done (by kernel_rfl) ?_ _
        obtain ⟨B0, m0, d0, he0, hen0⟩ := own_ens hown11
        cases he0
        clear hHeld
        go_wp2_with (first
          | (refine wp_goto ⟨rfl, ?_⟩)
          | (apply wp_label))
        first | rw [Exit.noGoto_ret] | rw [jump_ret] | skip
        go_ret
        exact ⟨⟨C1, A9, n9, c9, S1, B9, m9, d9, Z⟩, rfl, kz4, ⟨rfl, rfl, rfl, hb4, hen0, HOK.out, HFT.out⟩, fun a ha => Nat.le_trans HBL.out (hal a ha), hown11, hB4⟩
      · skip
        have hz := one_rws 9 33 z.drew (En.row ⟨g0, g1, g2, g3, g4, g5, g6, g7, g8⟩) rfl (row_one9 ⟨g0, g1, g2, g3, g4, g5, g6, g7, g8⟩)
        have hBa : Below z.drew.heap.size z.drew (z.drew.alloc (.cells #[.int .i64 g0, .int .i64 g1, .int .i64 g2, .int .i64 g3, .int .u64 g4, .int .u64 g5, .int .i64 g6, .int .i64 g7, .int .i64 g8] 33 (0, 0))) := one_alloc _ _
        have hSa : (fun X => X.heap[w.heap.size]? = some (.cells (enA ⟨g0, g1, g2, g3, g4, g5, g6, g7, g8⟩) 33 (0, 0)) ∧ RowB X gx 27 Z) (z.drew.alloc (.cells #[.int .i64 g0, .int .i64 g1, .int .i64 g2, .int .i64 g3, .int .u64 g4, .int .u64 g5, .int .i64 g6, .int .i64 g7, .int .i64 g8] 33 (0, 0))) := ⟨blk_below hSd.1 hBa, hSd.2.keep hBa⟩
        have koa := hod.more (.cells #[.int .i64 g0, .int .i64 g1, .int .i64 g2, .int .i64 g3, .int .u64 g4, .int .u64 g5, .int .i64 g6, .int .i64 g7, .int .i64 g8] 33 (0, 0))
        go_simp
        refine hKq.out _ _ hSa (fun hHeld0 => ?_)
        clear hKq Kq hHeld
        have hHeld := hHeld0
        clear hHeld0
        try simp only [Act.put, List.setIfInBounds_toArray, List.set_cons_zero, List.set_cons_succ]
        refine one_step 6 (by kernel_rfl) rfl (fun Kq hKq => ?_)
        have kza := blk_below kzd hBa
        have hq : ((z.alloc (.cells #[.int .i64 g0, .int .i64 g1, .int .i64 g2, .int .i64 g3, .int .u64 g4, .int .u64 g5, .int .i64 g6, .int .i64 g7, .int .i64 g8] 33 (0, 0)))).cell? ⟨g, 3, none⟩ = some (.slice p.B p.m p.d) := (dk_cells kza).2.2.2
        refine step_run (.slice p.B p.m p.d) rfl (by go_simp) ?_
        clear hq
        refine hKq.out _ _ hSa (fun hHeld0 => ?_)
        clear hKq Kq hHeld
        have hHeld := hHeld0
        clear hHeld0
        try simp only [Act.put, List.setIfInBounds_toArray, List.set_cons_zero, List.set_cons_succ]
        clear kza
        refine one_step 9 (by kernel_rfl) rfl (fun Kq hKq => ?_)
        refine step_append_r 25 33 9 72 _ _ rfl Tryz.underlying25 info_entry (by omega) B (.slice p.B p.m p.d) RW rfl koa _ 1 1 [En.row ⟨g0, g1, g2, g3, g4, g5, g6, g7, g8⟩] rfl hz (by have := HRL.out; omega) (by have := HRL.out; omega) (Nat.le_trans HBL.out (Nat.le_trans hzd hBa.size)) rfl ?_
        intro v9 z2 hown9 hg9
        rw [← HRO.out] at hown9
        obtain ⟨B9, m9, d9, rfl, -⟩ := own_ens hown9
        have kza := blk_below kzd hBa
        have kz2 := (hg9.block g (Nat.lt_of_lt_of_le hgl (Nat.le_trans hzd hBa.size)) (fun e => (own_ne koa kza).elim (fun h => by rw [h] at e; cases e) (fun h => h e.symm))).trans kza
        have hS2 : (fun X => X.heap[w.heap.size]? = some (.cells (enA ⟨g0, g1, g2, g3, g4, g5, g6, g7, g8⟩) 33 (0, 0)) ∧ RowB X gx 27 Z) z2 := ⟨(hg9.block _ (Array.getElem?_eq_some_iff.1 hSa.1).1 (fun e => absurd (HOW.out _ e.symm) (Nat.lt_irrefl _))).trans hSa.1, hSa.2.grown hg9 (fun e => absurd (HOW.out _ e.symm) (Nat.not_lt.2 (Nat.le_trans HB1.out.size hgx)))⟩
        have hb2 := (hbd.below hBa).grown hg9 (fun b off e he => absurd (HOW.out b he.symm) (Nat.not_lt.2 (hal _ e)))
        have hB2 : Below B w z2 := (hBd.trans (hBa.mono (Nat.le_trans HBL.out hzd))).grown hg9 (Nat.le_trans HBL.out (Nat.le_trans hzd hBa.size)) (fun k hk => (koa.size k hk).1)
        clear hg9 kza
        refine hKq.out _ _ hS2 (fun hHeld0 => ?_)
        clear hKq Kq hHeld
        have hHeld := hHeld0
        clear hHeld0
        try simp only [Act.put, List.setIfInBounds_toArray, List.set_cons_zero, List.set_cons_succ]
        refine take_run 11 (.pointer (some ⟨g, 0, none⟩)) rfl (by kernel_rfl) (by kernel_rfl) (by kernel_rfl) (fun _ _ _ h => h) rfl hHeld (fun w' => ?_) ?_
        · go_simp
        simp only [Act.put, List.setIfInBounds_toArray, List.set_cons_zero, List.set_cons_succ]
        refine take_run 12 (.pointer (some ⟨g, 0, none⟩)) rfl (by kernel_rfl) (by kernel_rfl) (by kernel_rfl) (fun _ _ _ h => h) rfl hHeld (fun w' => ?_) ?_
        · go_simp
        simp only [Act.put, List.setIfInBounds_toArray, List.set_cons_zero, List.set_cons_succ]
        refine take_run 13 (.pointer (some ⟨g, 3, none⟩)) rfl (by kernel_rfl) (by kernel_rfl) (by kernel_rfl) (fun _ _ _ h => h) rfl hHeld (fun w' => ?_) ?_
        · go_simp
        simp only [Act.put, List.setIfInBounds_toArray, List.set_cons_zero, List.set_cons_succ]
        refine one_step 14 (by kernel_rfl) rfl (fun Kq hKq => ?_)
        refine step_store_in 25 _ _ rfl g 3 (.slice B9 m9 d9) #[.slice B9 m9 d9] rfl rfl rfl 48 (p.putS C1 A9 n9 c9 S1).arr ((p.putS C1 A9 n9 c9 S1).putB B9 m9 d9).arr kz2 (size_ens1 _) (by rw [lp_size (show (p.putS C1 A9 n9 c9 S1).H.length = 32 from HPH.out)]; show 3 + 1 ≤ 36; omega) (one_slice _ _ _) (new_b _ _ _ _) rfl ?_
        intro z3 hg3 kz3 hs3
        have hS3 : (fun X => X.heap[w.heap.size]? = some (.cells (enA ⟨g0, g1, g2, g3, g4, g5, g6, g7, g8⟩) 33 (0, 0)) ∧ RowB X gx 27 Z) z3 := ⟨blk_other hS2.1 hg3 (Nat.ne_of_gt hgl), rowb_grown hS2.2 hg3 (Nat.ne_of_gt (Nat.lt_of_lt_of_le hgl (Nat.le_trans HB1.out.size hgx)))⟩
        have hb3 := hb2.kept (blk_far (n := n9) (lo := B) hal (Nat.le_refl _)) hg3 HLO.out hgl
        have hown10 := hown9.far hg3 (own_ne hown9 kz2)
        have hB3 : Below B w z3 := hB2.grown hg3 (Nat.le_of_lt (Nat.lt_of_le_of_lt HLO.out (Array.getElem?_eq_some_iff.1 kz2).1)) (fun k e => by cases e; exact HLO.out)
        clear hg3 hs3
        refine hKq.out _ _ hS3 (fun hHeld0 => ?_)
        clear hKq Kq hHeld
        have hHeld := hHeld0
        clear hHeld0
        try simp only [Act.put, List.setIfInBounds_toArray, List.set_cons_zero, List.set_cons_succ]
        refine take_run 15 (.pointer (some ⟨g, 0, none⟩)) rfl (by kernel_rfl) (by kernel_rfl) (by kernel_rfl) (fun _ _ _ h => h) rfl hHeld (fun w' => ?_) ?_
        · go_simp
        simp only [Act.put, List.setIfInBounds_toArray, List.set_cons_zero, List.set_cons_succ]
        refine take_run 16 (.pointer (some ⟨g, 0, none⟩)) rfl (by kernel_rfl) (by kernel_rfl) (by kernel_rfl) (fun _ _ _ h => h) rfl hHeld (fun w' => ?_) ?_
        · go_simp
        simp only [Act.put, List.setIfInBounds_toArray, List.set_cons_zero, List.set_cons_succ]
        refine take_run 17 (.pointer (some ⟨g, 4, none⟩)) rfl (by kernel_rfl) (by kernel_rfl) (by kernel_rfl) (fun _ _ _ h => h) rfl hHeld (fun w' => ?_) ?_
        · go_simp
        simp only [Act.put, List.setIfInBounds_toArray, List.set_cons_zero, List.set_cons_succ]
        refine one_step 18 (by kernel_rfl) rfl (fun Kq hKq => ?_)
        refine step_store_in 27 _ _ rfl g 4 (.agg (idv Z)) (idv Z) rfl rfl rfl 48 ((p.putS C1 A9 n9 c9 S1).putB B9 m9 d9).arr (((p.putS C1 A9 n9 c9 S1).putB B9 m9 d9).putH Z).arr kz3 (info32 HZL.out) (by rw [idv_size, HZL.out, lp_size (show ((p.putS C1 A9 n9 c9 S1).putB B9 m9 d9).H.length = 32 from HPH.out)]; exact Nat.le_refl _) (idv_one _) (new_h _ _ HPH.out HZL.out) rfl ?_
        intro z4 hg4 kz4 hs4
        have hS4 : (fun X => X.heap[w.heap.size]? = some (.cells (enA ⟨g0, g1, g2, g3, g4, g5, g6, g7, g8⟩) 33 (0, 0)) ∧ RowB X gx 27 Z) z4 := ⟨blk_other hS3.1 hg4 (Nat.ne_of_gt hgl), rowb_grown hS3.2 hg4 (Nat.ne_of_gt (Nat.lt_of_lt_of_le hgl (Nat.le_trans HB1.out.size hgx)))⟩
        have hb4 := hb3.kept (blk_far (n := n9) (lo := B) hal (Nat.le_refl _)) hg4 HLO.out hgl
        have hown11 := hown10.far hg4 (own_ne hown10 kz3)
        have hB4 : Below B w z4 := hB3.grown hg4 (Nat.le_of_lt (Nat.lt_of_le_of_lt HLO.out (Array.getElem?_eq_some_iff.1 kz3).1)) (fun k e => by cases e; exact HLO.out)
        clear hg4 hs4
        refine hKq.out _ _ hS4 (fun hHeld0 => ?_)
        clear hKq Kq hHeld
        have hHeld := hHeld0
        clear hHeld0
        try simp only [Act.put, List.setIfInBounds_toArray, List.set_cons_zero, List.set_cons_succ]
        refine wpAnyH_done (by kernel_rfl) ?_ _
        obtain ⟨B0, m0, d0, he0, hen0⟩ := own_ens hown11
        cases he0
        clear hHeld
        go_wp2_with (first
          | (refine wp_goto ⟨rfl, ?_⟩)
          | (apply wp_label))
        first | rw [Exit.noGoto_ret] | rw [jump_ret] | skip
        go_ret
        exact ⟨⟨C1, A9, n9, c9, S1, B9, m9, d9, Z⟩, rfl, kz4, ⟨rfl, rfl, rfl, hb4, hen0, HOK.out, HFT.out⟩, fun a ha => Nat.le_trans HBL.out (hal a ha), hown11, hB4⟩
    · skip
      refine step_append_o (.tmp 50) (.tmp 51) rfl (w.heap.size + 1) (.slice A1 m1 c1) PE rfl hownd (some ⟨gx, 0, none⟩) 32 32 Z rfl (hXd.btsAt HZL.out (by unfold maxLen; omega) HZB.out) (by have := HPL.out; omega) hzd rfl ?_
      intro v8 w8 hown8 hg8
      have hE8 := hE4d.grown hg8 hzd (fun k hk => (hownd.size k hk).1)
      have hX8 := hXd.grown hg8 (fun e => absurd (HO1.out _ e.symm) (Nat.not_lt.2 hgx))
      rw [HRE.out] at hown8
      obtain ⟨A8, n8, c8, rfl, hbt8⟩ := hown8.slice HROK.out
      have hB8 := HB1.out.trans (hE8.mono (Nat.le_succ _))
      clear hg8 hown8
      refine hKq.out _ _ trivial (fun hHeld0 => ?_)
      clear hKq Kq hHeld
      have hHeld := hHeld0
      clear hHeld0
      try simp only [Act.put, List.setIfInBounds_toArray, List.set_cons_zero, List.set_cons_succ]
      refine one_step 5 (by kernel_rfl) rfl (fun Kq hKq => ?_)
      have kg8 := (hE8.block g (Nat.lt_succ_of_lt hgl)).trans kg1
      refine step_load_mid 24 _ rfl g 0 rfl [.int .i64 p.cap, .slice p.A p.n p.c, .int .i64 p.sure] _ rfl _ (dk_st kg8) Tryz.underlying24 rfl (by kernel_rfl) rfl ?_
      refine hKq.out _ _ trivial (fun hHeld0 => ?_)
      clear hKq Kq hHeld
      have hHeld := hHeld0
      clear hHeld0
      try simp only [Act.put, List.setIfInBounds_toArray, List.set_cons_zero, List.set_cons_succ]
      clear kg8
      refine one_step 9 (by kernel_rfl) rfl (fun Kq hKq => ?_)
      go_simp
      go_at_call 52
      refine (HWR.out A8 n8 c8 w8 hB8 hbt8).mono ?_
      rintro e y9 ⟨A9, n9, c9, rfl, hbt9, hlo9, hbx⟩
      have hz8 : w.heap.size + 1 ≤ w8.heap.size := hE8.size_from hz1
      have hE9 := hE8.trans (hbx.mono hz8)
      have hX9 := hX8.keep hbx
      have hfa := blk_far (n := n9) (lo := B) hlo9 (Nat.le_of_succ_le hz8)
      have hB9 := HB1.out.trans (hE9.mono (Nat.le_succ _))
      have hal : ∀ a, A9 = some a → w.heap.size ≤ a.block := fun a ha => Nat.le_trans (Nat.le_of_succ_le hz8) (hlo9 a ha)
      have kg9 := (hE9.block g (Nat.lt_succ_of_lt hgl)).trans kg1
      have ke9 := (hE9.block w.heap.size (Nat.lt_succ_self _)).trans ke1
      have hoe9 := HOE.out.below hB9
      clear hbx hX8 hbt8 hE8 hlo9
      refine hKq.out _ _ trivial (fun hHeld0 => ?_)
      clear hKq Kq hHeld
      have hHeld := hHeld0
      clear hHeld0
      try simp only [Act.put, List.setIfInBounds_toArray, List.set_cons_zero, List.set_cons_succ]
      refine take_run 10 (.tuple #[.agg #[.int .i64 C1, .slice A9 n9 c9, .int .i64 S1], .int .i64 0]) rfl (by kernel_rfl) (by kernel_rfl) (by kernel_rfl) (fun _ _ _ h => h) rfl hHeld (fun w' => ?_) ?_
      · go_simp
      simp only [Act.put, List.setIfInBounds_toArray, List.set_cons_zero, List.set_cons_succ]
      refine take_run 11 (.agg #[.int .i64 C1, .slice A9 n9 c9, .int .i64 S1]) rfl (by kernel_rfl) (by kernel_rfl) (by kernel_rfl) (fun _ _ _ h => h) rfl hHeld (fun w' => ?_) ?_
      · go_simp
      simp only [Act.put, List.setIfInBounds_toArray, List.set_cons_zero, List.set_cons_succ]
      refine take_run 12 (.int .i64 0) rfl (by kernel_rfl) (by kernel_rfl) (by kernel_rfl) (fun _ _ _ h => h) rfl hHeld (fun w' => ?_) ?_
      · go_simp
      simp only [Act.put, List.setIfInBounds_toArray, List.set_cons_zero, List.set_cons_succ]
      refine take_run 13 (.pointer (some ⟨g, 0, none⟩)) rfl (by kernel_rfl) (by kernel_rfl) (by kernel_rfl) (fun _ _ _ h => h) rfl hHeld (fun w' => ?_) ?_
      · go_simp
      simp only [Act.put, List.setIfInBounds_toArray, List.set_cons_zero, List.set_cons_succ]
      refine take_run 14 (.pointer (some ⟨g, 0, none⟩)) rfl (by kernel_rfl) (by kernel_rfl) (by kernel_rfl) (fun _ _ _ h => h) rfl hHeld (fun w' => ?_) ?_
      · go_simp
      simp only [Act.put, List.setIfInBounds_toArray, List.set_cons_zero, List.set_cons_succ]
      refine take_run 15 (.pointer (some ⟨g, 0, none⟩)) rfl (by kernel_rfl) (by kernel_rfl) (by kernel_rfl) (fun _ _ _ h => h) rfl hHeld (fun w' => ?_) ?_
      · go_simp
      simp only [Act.put, List.setIfInBounds_toArray, List.set_cons_zero, List.set_cons_succ]
      refine one_step 16 (by kernel_rfl) rfl (fun Kq hKq => ?_)
      refine step_store_in 24 _ _ rfl g 0 (.agg #[.int .i64 C1, .slice A9 n9 c9, .int .i64 S1]) #[.int .i64 C1, .slice A9 n9 c9, .int .i64 S1] rfl rfl rfl 48 p.arr (p.putS C1 A9 n9 c9 S1).arr kg9 (size_st3 _ _ _) (by rw [HS.out]; show 0 + 3 ≤ 36; omega) (one_store _ _ _ _ _) (new_s _ _ _ _ _ _) rfl ?_
      intro z hgz kz hsz
      have hez := blk_other ke9 hgz (Nat.ne_of_gt hgl)
      have hXz := rowb_grown hX9 hgz (Nat.ne_of_gt (Nat.lt_of_lt_of_le hgl (Nat.le_trans HB1.out.size hgx)))
      have hbtz := hbt9.kept hfa hgz HLO.out hgl
      have hBz : Below B w z := (hB9.mono HBL.out).grown hgz (Nat.le_trans HBL.out hB9.size) (fun k e => by cases e; exact HLO.out)
      have hoez := hoe9.far hgz (own_ne hoe9 kg9)
      have hzz : w.heap.size ≤ z.heap.size := by rw [hsz]; exact hB9.size
      clear hgz hsz kg9 ke9 hX9 hbt9 hB9 hoe9 hE9 hfa
      refine hKq.out _ _ trivial (fun hHeld0 => ?_)
      clear hKq Kq hHeld
      have hHeld := hHeld0
      clear hHeld0
      try simp only [Act.put, List.setIfInBounds_toArray, List.set_cons_zero, List.set_cons_succ]
      refine take_run 17 (.int .i64 0) rfl (by kernel_rfl) (by kernel_rfl) (by kernel_rfl) (fun _ _ _ h => h) rfl hHeld (fun w' => ?_) ?_
      · go_simp
      simp only [Act.put, List.setIfInBounds_toArray, List.set_cons_zero, List.set_cons_succ]
      refine wpAnyH_done (by kernel_rfl) ?_ _
      clear hHeld hownd hXd kgd hE4d hBd hB8
      go_wp2
      obtain ⟨g0, g1, g2, g3, g4, g5, g6, g7, g8⟩ := u
      have hSd : (fun X => X.heap[w.heap.size]? = some (.cells (enA ⟨g0, g1, g2, g3, g4, g5, g6, g7, g8⟩) 33 (0, 0)) ∧ RowB X gx 27 Z) z.drew := ⟨blk_drew hez, hXz.draw1⟩
      have kzd := blk_drew kz
      have hod := hoez.draw1
      have hbd := hbtz.draw1
      have hBd := hBz.drew
      have hzd : w.heap.size ≤ z.drew.heap.size := hzz
      clear kz hez hXz hoez hbtz hBz hzz
      refine wp_region_held_drew (S := (fun X => X.heap[w.heap.size]? = some (.cells (enA ⟨g0, g1, g2, g3, g4, g5, g6, g7, g8⟩) 33 (0, 0)) ∧ RowB X gx 27 Z)) (by kernel_rfl) hSd (fun hHeld => ?_)
      refine take_move 0 (.tmp 0) (.pointer (some ⟨g, 0, none⟩)) rfl rfl rfl (by kernel_rfl) (by kernel_rfl) (by kernel_rfl) (fun _ _ _ h => h) rfl hHeld ?_
      simp only [Act.put, List.setIfInBounds_toArray, List.set_cons_zero, List.set_cons_succ]
      refine take_move 1 (.tmp 0) (.pointer (some ⟨g, 0, none⟩)) rfl rfl rfl (by kernel_rfl) (by kernel_rfl) (by kernel_rfl) (fun _ _ _ h => h) rfl hHeld ?_
      simp only [Act.put, List.setIfInBounds_toArray, List.set_cons_zero, List.set_cons_succ]
      refine take_move 2 (.tmp 0) (.pointer (some ⟨g, 0, none⟩)) rfl rfl rfl (by kernel_rfl) (by kernel_rfl) (by kernel_rfl) (fun _ _ _ h => h) rfl hHeld ?_
      simp only [Act.put, List.setIfInBounds_toArray, List.set_cons_zero, List.set_cons_succ]
      refine take_run 3 (.pointer (some ⟨g, 0, none⟩)) rfl (by kernel_rfl) (by kernel_rfl) (by kernel_rfl) (fun _ _ _ h => h) rfl hHeld (fun w' => ?_) ?_
      · go_simp
      simp only [Act.put, List.setIfInBounds_toArray, List.set_cons_zero, List.set_cons_succ]
      refine take_run 4 (.pointer (some ⟨g, 0, none⟩)) rfl (by kernel_rfl) (by kernel_rfl) (by kernel_rfl) (fun _ _ _ h => h) rfl hHeld (fun w' => ?_) ?_
      · go_simp
      simp only [Act.put, List.setIfInBounds_toArray, List.set_cons_zero, List.set_cons_succ]
      refine take_run 5 (.pointer (some ⟨g, 3, none⟩)) rfl (by kernel_rfl) (by kernel_rfl) (by kernel_rfl) (fun _ _ _ h => h) rfl hHeld (fun w' => ?_) ?_
      · go_simp
      simp only [Act.put, List.setIfInBounds_toArray, List.set_cons_zero, List.set_cons_succ]
      refine take_blk 7 33 _ w.heap.size 33 #[.int .i64 g0, .int .i64 g1, .int .i64 g2, .int .i64 g3, .int .u64 g4, .int .u64 g5, .int .i64 g6, .int .i64 g7, .int .i64 g8] (0, 0) _ rfl rfl rfl (by kernel_rfl) (by kernel_rfl) (by kernel_rfl) (fun _ _ _ h => h) rfl hHeld (fun X hX => hX.1) Tryz.underlying33 rfl (info_en rfl) ?_
      simp only [Act.put, List.setIfInBounds_toArray, List.set_cons_zero, List.set_cons_succ]
      refine take_if 10 (.agg (idv Z)) rfl (by kernel_rfl) (by kernel_rfl) (by kernel_rfl) (fun _ _ _ h => h) rfl hHeld (fun w' hw' => ?_) ?_
      · exact id_load hw'.2 HZL.out rfl rfl
      simp only [Act.put, List.setIfInBounds_toArray, List.set_cons_zero, List.set_cons_succ]
      refine two_steps 6 8 (by kernel_rfl) rfl rfl (fun Kq hKq => ?_) (fun Kq hKq => ?_)
      · skip
        have hq : (z).cell? ⟨g, 3, none⟩ = some (.slice p.B p.m p.d) := (dk_cells kzd).2.2.2
        refine step_run (.slice p.B p.m p.d) rfl (by go_simp) ?_
        clear hq
        refine hKq.out _ _ hSd (fun hHeld0 => ?_)
        clear hKq Kq hHeld
        have hHeld := hHeld0
        clear hHeld0
        try simp only [Act.put, List.setIfInBounds_toArray, List.set_cons_zero, List.set_cons_succ]
        refine one_step 8 (by kernel_rfl) rfl (fun Kq hKq => ?_)
        have hz := one_rws 9 33 z.drew (En.row ⟨g0, g1, g2, g3, g4, g5, g6, g7, g8⟩) rfl (row_one9 ⟨g0, g1, g2, g3, g4, g5, g6, g7, g8⟩)
        have hBa : Below z.drew.heap.size z.drew (z.drew.alloc (.cells #[.int .i64 g0, .int .i64 g1, .int .i64 g2, .int .i64 g3, .int .u64 g4, .int .u64 g5, .int .i64 g6, .int .i64 g7, .int .i64 g8] 33 (0, 0))) := one_alloc _ _
        have hSa : (fun X => X.heap[w.heap.size]? = some (.cells (enA ⟨g0, g1, g2, g3, g4, g5, g6, g7, g8⟩) 33 (0, 0)) ∧ RowB X gx 27 Z) (z.drew.alloc (.cells #[.int .i64 g0, .int .i64 g1, .int .i64 g2, .int .i64 g3, .int .u64 g4, .int .u64 g5, .int .i64 g6, .int .i64 g7, .int .i64 g8] 33 (0, 0))) := ⟨blk_below hSd.1 hBa, hSd.2.keep hBa⟩
        have koa := hod.more (.cells #[.int .i64 g0, .int .i64 g1, .int .i64 g2, .int .i64 g3, .int .u64 g4, .int .u64 g5, .int .i64 g6, .int .i64 g7, .int .i64 g8] 33 (0, 0))
        go_simp
        refine hKq.out _ _ hSa (fun hHeld0 => ?_)
        clear hKq Kq hHeld
        have hHeld := hHeld0
        clear hHeld0
        try simp only [Act.put, List.setIfInBounds_toArray, List.set_cons_zero, List.set_cons_succ]
        refine one_step 9 (by kernel_rfl) rfl (fun Kq hKq => ?_)
        refine step_append_r 25 33 9 72 _ _ rfl Tryz.underlying25 info_entry (by omega) B (.slice p.B p.m p.d) RW rfl koa _ 1 1 [En.row ⟨g0, g1, g2, g3, g4, g5, g6, g7, g8⟩] rfl hz (by have := HRL.out; omega) (by have := HRL.out; omega) (Nat.le_trans HBL.out (Nat.le_trans hzd hBa.size)) rfl ?_
        intro v9 z2 hown9 hg9
        rw [← HRO.out] at hown9
        obtain ⟨B9, m9, d9, rfl, -⟩ := own_ens hown9
        have kza := blk_below kzd hBa
        have kz2 := (hg9.block g (Nat.lt_of_lt_of_le hgl (Nat.le_trans hzd hBa.size)) (fun e => (own_ne koa kza).elim (fun h => by rw [h] at e; cases e) (fun h => h e.symm))).trans kza
        have hS2 : (fun X => X.heap[w.heap.size]? = some (.cells (enA ⟨g0, g1, g2, g3, g4, g5, g6, g7, g8⟩) 33 (0, 0)) ∧ RowB X gx 27 Z) z2 := ⟨(hg9.block _ (Array.getElem?_eq_some_iff.1 hSa.1).1 (fun e => absurd (HOW.out _ e.symm) (Nat.lt_irrefl _))).trans hSa.1, hSa.2.grown hg9 (fun e => absurd (HOW.out _ e.symm) (Nat.not_lt.2 (Nat.le_trans HB1.out.size hgx)))⟩
        have hb2 := (hbd.below hBa).grown hg9 (fun b off e he => absurd (HOW.out b he.symm) (Nat.not_lt.2 (hal _ e)))
        have hB2 : Below B w z2 := (hBd.trans (hBa.mono (Nat.le_trans HBL.out hzd))).grown hg9 (Nat.le_trans HBL.out (Nat.le_trans hzd hBa.size)) (fun k hk => (koa.size k hk).1)
        clear hg9 kza
        refine hKq.out _ _ hS2 (fun hHeld0 => ?_)
        clear hKq Kq hHeld
        have hHeld := hHeld0
        clear hHeld0
        try simp only [Act.put, List.setIfInBounds_toArray, List.set_cons_zero, List.set_cons_succ]
        refine take_run 11 (.pointer (some ⟨g, 0, none⟩)) rfl (by kernel_rfl) (by kernel_rfl) (by kernel_rfl) (fun _ _ _ h => h) rfl hHeld (fun w' => ?_) ?_
        · go_simp
        simp only [Act.put, List.setIfInBounds_toArray, List.set_cons_zero, List.set_cons_succ]
        refine take_run 12 (.pointer (some ⟨g, 0, none⟩)) rfl (by kernel_rfl) (by kernel_rfl) (by kernel_rfl) (fun _ _ _ h => h) rfl hHeld (fun w' => ?_) ?_
        · go_simp
        simp only [Act.put, List.setIfInBounds_toArray, List.set_cons_zero, List.set_cons_succ]
        refine take_run 13 (.pointer (some ⟨g, 3, none⟩)) rfl (by kernel_rfl) (by kernel_rfl) (by kernel_rfl) (fun _ _ _ h => h) rfl hHeld (fun w' => ?_) ?_
        · go_simp
        simp only [Act.put, List.setIfInBounds_toArray, List.set_cons_zero, List.set_cons_succ]
        refine one_step 14 (by kernel_rfl) rfl (fun Kq hKq => ?_)
        refine step_store_in 25 _ _ rfl g 3 (.slice B9 m9 d9) #[.slice B9 m9 d9] rfl rfl rfl 48 (p.putS C1 A9 n9 c9 S1).arr ((p.putS C1 A9 n9 c9 S1).putB B9 m9 d9).arr kz2 (size_ens1 _) (by rw [lp_size (show (p.putS C1 A9 n9 c9 S1).H.length = 32 from HPH.out)]; show 3 + 1 ≤ 36; omega) (one_slice _ _ _) (new_b _ _ _ _) rfl ?_
        intro z3 hg3 kz3 hs3
        have hS3 : (fun X => X.heap[w.heap.size]? = some (.cells (enA ⟨g0, g1, g2, g3, g4, g5, g6, g7, g8⟩) 33 (0, 0)) ∧ RowB X gx 27 Z) z3 := ⟨blk_other hS2.1 hg3 (Nat.ne_of_gt hgl), rowb_grown hS2.2 hg3 (Nat.ne_of_gt (Nat.lt_of_lt_of_le hgl (Nat.le_trans HB1.out.size hgx)))⟩
        have hb3 := hb2.kept (blk_far (n := n9) (lo := B) hal (Nat.le_refl _)) hg3 HLO.out hgl
        have hown10 := hown9.far hg3 (own_ne hown9 kz2)
        have hB3 : Below B w z3 := hB2.grown hg3 (Nat.le_of_lt (Nat.lt_of_le_of_lt HLO.out (Array.getElem?_eq_some_iff.1 kz2).1)) (fun k e => by cases e; exact HLO.out)
        clear hg3 hs3
        refine hKq.out _ _ hS3 (fun hHeld0 => ?_)
        clear hKq Kq hHeld
        have hHeld := hHeld0
        clear hHeld0
        try simp only [Act.put, List.setIfInBounds_toArray, List.set_cons_zero, List.set_cons_succ]
        refine take_run 15 (.pointer (some ⟨g, 0, none⟩)) rfl (by kernel_rfl) (by kernel_rfl) (by kernel_rfl) (fun _ _ _ h => h) rfl hHeld (fun w' => ?_) ?_
        · go_simp
        simp only [Act.put, List.setIfInBounds_toArray, List.set_cons_zero, List.set_cons_succ]
        refine take_run 16 (.pointer (some ⟨g, 0, none⟩)) rfl (by kernel_rfl) (by kernel_rfl) (by kernel_rfl) (fun _ _ _ h => h) rfl hHeld (fun w' => ?_) ?_
        · go_simp
        simp only [Act.put, List.setIfInBounds_toArray, List.set_cons_zero, List.set_cons_succ]
        refine take_run 17 (.pointer (some ⟨g, 4, none⟩)) rfl (by kernel_rfl) (by kernel_rfl) (by kernel_rfl) (fun _ _ _ h => h) rfl hHeld (fun w' => ?_) ?_
        · go_simp
        simp only [Act.put, List.setIfInBounds_toArray, List.set_cons_zero, List.set_cons_succ]
        refine one_step 18 (by kernel_rfl) rfl (fun Kq hKq => ?_)
        refine step_store_in 27 _ _ rfl g 4 (.agg (idv Z)) (idv Z) rfl rfl rfl 48 ((p.putS C1 A9 n9 c9 S1).putB B9 m9 d9).arr (((p.putS C1 A9 n9 c9 S1).putB B9 m9 d9).putH Z).arr kz3 (info32 HZL.out) (by rw [idv_size, HZL.out, lp_size (show ((p.putS C1 A9 n9 c9 S1).putB B9 m9 d9).H.length = 32 from HPH.out)]; exact Nat.le_refl _) (idv_one _) (new_h _ _ HPH.out HZL.out) rfl ?_
        intro z4 hg4 kz4 hs4
        have hS4 : (fun X => X.heap[w.heap.size]? = some (.cells (enA ⟨g0, g1, g2, g3, g4, g5, g6, g7, g8⟩) 33 (0, 0)) ∧ RowB X gx 27 Z) z4 := ⟨blk_other hS3.1 hg4 (Nat.ne_of_gt hgl), rowb_grown hS3.2 hg4 (Nat.ne_of_gt (Nat.lt_of_lt_of_le hgl (Nat.le_trans HB1.out.size hgx)))⟩
        have hb4 := hb3.kept (blk_far (n := n9) (lo := B) hal (Nat.le_refl _)) hg4 HLO.out hgl
        have hown11 := hown10.far hg4 (own_ne hown10 kz3)
        have hB4 : Below B w z4 := hB3.grown hg4 (Nat.le_of_lt (Nat.lt_of_le_of_lt HLO.out (Array.getElem?_eq_some_iff.1 kz3).1)) (fun k e => by cases e; exact HLO.out)
        clear hg4 hs4
        refine hKq.out _ _ hS4 (fun hHeld0 => ?_)
        clear hKq Kq hHeld
        have hHeld := hHeld0
        clear hHeld0
        try simp only [Act.put, List.setIfInBounds_toArray, List.set_cons_zero, List.set_cons_succ]
        refine wpAnyH_done (by kernel_rfl) ?_ _
        obtain ⟨B0, m0, d0, he0, hen0⟩ := own_ens hown11
        cases he0
        clear hHeld
        go_wp2_with (first
          | (refine wp_goto ⟨rfl, ?_⟩)
          | (apply wp_label))
        first | rw [Exit.noGoto_ret] | rw [jump_ret] | skip
        go_ret
        exact ⟨⟨C1, A9, n9, c9, S1, B9, m9, d9, Z⟩, rfl, kz4, ⟨rfl, rfl, rfl, hb4, hen0, HOK.out, HFT.out⟩, fun a ha => Nat.le_trans HBL.out (hal a ha), hown11, hB4⟩
      · skip
        have hz := one_rws 9 33 z.drew (En.row ⟨g0, g1, g2, g3, g4, g5, g6, g7, g8⟩) rfl (row_one9 ⟨g0, g1, g2, g3, g4, g5, g6, g7, g8⟩)
        have hBa : Below z.drew.heap.size z.drew (z.drew.alloc (.cells #[.int .i64 g0, .int .i64 g1, .int .i64 g2, .int .i64 g3, .int .u64 g4, .int .u64 g5, .int .i64 g6, .int .i64 g7, .int .i64 g8] 33 (0, 0))) := one_alloc _ _
        have hSa : (fun X => X.heap[w.heap.size]? = some (.cells (enA ⟨g0, g1, g2, g3, g4, g5, g6, g7, g8⟩) 33 (0, 0)) ∧ RowB X gx 27 Z) (z.drew.alloc (.cells #[.int .i64 g0, .int .i64 g1, .int .i64 g2, .int .i64 g3, .int .u64 g4, .int .u64 g5, .int .i64 g6, .int .i64 g7, .int .i64 g8] 33 (0, 0))) := ⟨blk_below hSd.1 hBa, hSd.2.keep hBa⟩
        have koa := hod.more (.cells #[.int .i64 g0, .int .i64 g1, .int .i64 g2, .int .i64 g3, .int .u64 g4, .int .u64 g5, .int .i64 g6, .int .i64 g7, .int .i64 g8] 33 (0, 0))
        go_simp
        refine hKq.out _ _ hSa (fun hHeld0 => ?_)
        clear hKq Kq hHeld
        have hHeld := hHeld0
        clear hHeld0
        try simp only [Act.put, List.setIfInBounds_toArray, List.set_cons_zero, List.set_cons_succ]
        refine one_step 6 (by kernel_rfl) rfl (fun Kq hKq => ?_)
        have kza := blk_below kzd hBa
        have hq : ((z.alloc (.cells #[.int .i64 g0, .int .i64 g1, .int .i64 g2, .int .i64 g3, .int .u64 g4, .int .u64 g5, .int .i64 g6, .int .i64 g7, .int .i64 g8] 33 (0, 0)))).cell? ⟨g, 3, none⟩ = some (.slice p.B p.m p.d) := (dk_cells kza).2.2.2
        refine step_run (.slice p.B p.m p.d) rfl (by go_simp) ?_
        clear hq
        refine hKq.out _ _ hSa (fun hHeld0 => ?_)
        clear hKq Kq hHeld
        have hHeld := hHeld0
        clear hHeld0
        try simp only [Act.put, List.setIfInBounds_toArray, List.set_cons_zero, List.set_cons_succ]
        clear kza
        refine one_step 9 (by kernel_rfl) rfl (fun Kq hKq => ?_)
        refine step_append_r 25 33 9 72 _ _ rfl Tryz.underlying25 info_entry (by omega) B (.slice p.B p.m p.d) RW rfl koa _ 1 1 [En.row ⟨g0, g1, g2, g3, g4, g5, g6, g7, g8⟩] rfl hz (by have := HRL.out; omega) (by have := HRL.out; omega) (Nat.le_trans HBL.out (Nat.le_trans hzd hBa.size)) rfl ?_
        intro v9 z2 hown9 hg9
        rw [← HRO.out] at hown9
        obtain ⟨B9, m9, d9, rfl, -⟩ := own_ens hown9
        have kza := blk_below kzd hBa
        have kz2 := (hg9.block g (Nat.lt_of_lt_of_le hgl (Nat.le_trans hzd hBa.size)) (fun e => (own_ne koa kza).elim (fun h => by rw [h] at e; cases e) (fun h => h e.symm))).trans kza
        have hS2 : (fun X => X.heap[w.heap.size]? = some (.cells (enA ⟨g0, g1, g2, g3, g4, g5, g6, g7, g8⟩) 33 (0, 0)) ∧ RowB X gx 27 Z) z2 := ⟨(hg9.block _ (Array.getElem?_eq_some_iff.1 hSa.1).1 (fun e => absurd (HOW.out _ e.symm) (Nat.lt_irrefl _))).trans hSa.1, hSa.2.grown hg9 (fun e => absurd (HOW.out _ e.symm) (Nat.not_lt.2 (Nat.le_trans HB1.out.size hgx)))⟩
        have hb2 := (hbd.below hBa).grown hg9 (fun b off e he => absurd (HOW.out b he.symm) (Nat.not_lt.2 (hal _ e)))
        have hB2 : Below B w z2 := (hBd.trans (hBa.mono (Nat.le_trans HBL.out hzd))).grown hg9 (Nat.le_trans HBL.out (Nat.le_trans hzd hBa.size)) (fun k hk => (koa.size k hk).1)
        clear hg9 kza
        refine hKq.out _ _ hS2 (fun hHeld0 => ?_)
        clear hKq Kq hHeld
        have hHeld := hHeld0
        clear hHeld0
        try simp only [Act.put, List.setIfInBounds_toArray, List.set_cons_zero, List.set_cons_succ]
        refine take_run 11 (.pointer (some ⟨g, 0, none⟩)) rfl (by kernel_rfl) (by kernel_rfl) (by kernel_rfl) (fun _ _ _ h => h) rfl hHeld (fun w' => ?_) ?_
        · go_simp
        simp only [Act.put, List.setIfInBounds_toArray, List.set_cons_zero, List.set_cons_succ]
        refine take_run 12 (.pointer (some ⟨g, 0, none⟩)) rfl (by kernel_rfl) (by kernel_rfl) (by kernel_rfl) (fun _ _ _ h => h) rfl hHeld (fun w' => ?_) ?_
        · go_simp
        simp only [Act.put, List.setIfInBounds_toArray, List.set_cons_zero, List.set_cons_succ]
        refine take_run 13 (.pointer (some ⟨g, 3, none⟩)) rfl (by kernel_rfl) (by kernel_rfl) (by kernel_rfl) (fun _ _ _ h => h) rfl hHeld (fun w' => ?_) ?_
        · go_simp
        simp only [Act.put, List.setIfInBounds_toArray, List.set_cons_zero, List.set_cons_succ]
        refine one_step 14 (by kernel_rfl) rfl (fun Kq hKq => ?_)
        refine step_store_in 25 _ _ rfl g 3 (.slice B9 m9 d9) #[.slice B9 m9 d9] rfl rfl rfl 48 (p.putS C1 A9 n9 c9 S1).arr ((p.putS C1 A9 n9 c9 S1).putB B9 m9 d9).arr kz2 (size_ens1 _) (by rw [lp_size (show (p.putS C1 A9 n9 c9 S1).H.length = 32 from HPH.out)]; show 3 + 1 ≤ 36; omega) (one_slice _ _ _) (new_b _ _ _ _) rfl ?_
        intro z3 hg3 kz3 hs3
        have hS3 : (fun X => X.heap[w.heap.size]? = some (.cells (enA ⟨g0, g1, g2, g3, g4, g5, g6, g7, g8⟩) 33 (0, 0)) ∧ RowB X gx 27 Z) z3 := ⟨blk_other hS2.1 hg3 (Nat.ne_of_gt hgl), rowb_grown hS2.2 hg3 (Nat.ne_of_gt (Nat.lt_of_lt_of_le hgl (Nat.le_trans HB1.out.size hgx)))⟩
        have hb3 := hb2.kept (blk_far (n := n9) (lo := B) hal (Nat.le_refl _)) hg3 HLO.out hgl
        have hown10 := hown9.far hg3 (own_ne hown9 kz2)
        have hB3 : Below B w z3 := hB2.grown hg3 (Nat.le_of_lt (Nat.lt_of_le_of_lt HLO.out (Array.getElem?_eq_some_iff.1 kz2).1)) (fun k e => by cases e; exact HLO.out)
        clear hg3 hs3
        refine hKq.out _ _ hS3 (fun hHeld0 => ?_)
        clear hKq Kq hHeld
        have hHeld := hHeld0
        clear hHeld0
        try simp only [Act.put, List.setIfInBounds_toArray, List.set_cons_zero, List.set_cons_succ]
        refine take_run 15 (.pointer (some ⟨g, 0, none⟩)) rfl (by kernel_rfl) (by kernel_rfl) (by kernel_rfl) (fun _ _ _ h => h) rfl hHeld (fun w' => ?_) ?_
        · go_simp
        simp only [Act.put, List.setIfInBounds_toArray, List.set_cons_zero, List.set_cons_succ]
        refine take_run 16 (.pointer (some ⟨g, 0, none⟩)) rfl (by kernel_rfl) (by kernel_rfl) (by kernel_rfl) (fun _ _ _ h => h) rfl hHeld (fun w' => ?_) ?_
        · go_simp
        simp only [Act.put, List.setIfInBounds_toArray, List.set_cons_zero, List.set_cons_succ]
        refine take_run 17 (.pointer (some ⟨g, 4, none⟩)) rfl (by kernel_rfl) (by kernel_rfl) (by kernel_rfl) (fun _ _ _ h => h) rfl hHeld (fun w' => ?_) ?_
        · go_simp
        simp only [Act.put, List.setIfInBounds_toArray, List.set_cons_zero, List.set_cons_succ]
        refine one_step 18 (by kernel_rfl) rfl (fun Kq hKq => ?_)
        refine step_store_in 27 _ _ rfl g 4 (.agg (idv Z)) (idv Z) rfl rfl rfl 48 ((p.putS C1 A9 n9 c9 S1).putB B9 m9 d9).arr (((p.putS C1 A9 n9 c9 S1).putB B9 m9 d9).putH Z).arr kz3 (info32 HZL.out) (by rw [idv_size, HZL.out, lp_size (show ((p.putS C1 A9 n9 c9 S1).putB B9 m9 d9).H.length = 32 from HPH.out)]; exact Nat.le_refl _) (idv_one _) (new_h _ _ HPH.out HZL.out) rfl ?_
        intro z4 hg4 kz4 hs4
        have hS4 : (fun X => X.heap[w.heap.size]? = some (.cells (enA ⟨g0, g1, g2, g3, g4, g5, g6, g7, g8⟩) 33 (0, 0)) ∧ RowB X gx 27 Z) z4 := ⟨blk_other hS3.1 hg4 (Nat.ne_of_gt hgl), rowb_grown hS3.2 hg4 (Nat.ne_of_gt (Nat.lt_of_lt_of_le hgl (Nat.le_trans HB1.out.size hgx)))⟩
        have hb4 := hb3.kept (blk_far (n := n9) (lo := B) hal (Nat.le_refl _)) hg4 HLO.out hgl
        have hown11 := hown10.far hg4 (own_ne hown10 kz3)
        have hB4 : Below B w z4 := hB3.grown hg4 (Nat.le_of_lt (Nat.lt_of_le_of_lt HLO.out (Array.getElem?_eq_some_iff.1 kz3).1)) (fun k e => by cases e; exact HLO.out)
        clear hg4 hs4
        refine hKq.out _ _ hS4 (fun hHeld0 => ?_)
        clear hKq Kq hHeld
        have hHeld := hHeld0
        clear hHeld0
        try simp only [Act.put, List.setIfInBounds_toArray, List.set_cons_zero, List.set_cons_succ]
        refine wpAnyH_done (by kernel_rfl) ?_ _
        obtain ⟨B0, m0, d0, he0, hen0⟩ := own_ens hown11
        cases he0
        clear hHeld
        go_wp2_with (first
          | (refine wp_goto ⟨rfl, ?_⟩)
          | (apply wp_label))
        first | rw [Exit.noGoto_ret] | rw [jump_ret] | skip
        go_ret
        exact ⟨⟨C1, A9, n9, c9, S1, B9, m9, d9, Z⟩, rfl, kz4, ⟨rfl, rfl, rfl, hb4, hen0, HOK.out, HFT.out⟩, fun a ha => Nat.le_trans HBL.out (hal a ha), hown11, hB4⟩
end Go.Proofs.YtafmompplcaadaaGreatDoor
