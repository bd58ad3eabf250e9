/- The walk over the laws' awake (the chapter's example). -/
import Derived.Test.YtgldbjlifcfjlaaTrmRefUn
import Derived.Test.YtgldbjlifcfjlaaTrmMay
import Derived.Test.YtgldbjlifcfjlaaTrmDepth
namespace Go.Proofs.Ytgldbjlifcfjlaa
set_option linter.unusedVariables false
set_option linter.unusedSimpArgs false
open Go.RowKit

theorem rowT_inj : ∀ (l l' : List Int), 0 < l.length → 0 < l'.length → rowT l = rowT l' → l = l'
  | [x], [y], _, _, h => by rw [rowT, rowT] at h; injection h with _ h _; rw [h]
  | [x], y :: z :: l', _, _, h => by rw [rowT, rowT] at h; injection h with h _ _; omega
  | x :: y :: l, [z], _, _, h => by rw [rowT, rowT] at h; injection h with h _ _; omega
  | x :: y :: l, z :: u :: l', _, _, h => by
    rw [rowT, rowT] at h
    injection h with _ _ h
    injection h with h1 h2
    injection h1 with _ h1 _
    injection h2 with h2 _
    rw [h1, rowT_inj (y :: l) (u :: l') (by simp) (by simp) h2]
/-- what Unrow tells of a row -/
theorem un_row {l : List Int} (hl : rowB l = true) {w : World} {e : Ending} {w' : World} (h : UnPost (rowT l) w e w') : ∃ A m c, e = .returned (.tuple #[.slice A m c, .bool true]) ∧ Its .i64 w' A m c l ∧ Below w.heap.size w w' := by
  obtain ⟨b, l2, A, m, c, he, hi, hb, h1, h2⟩ := h
  cases b with
  | false => exact absurd rfl ((h2 rfl).2 l hl)
  | true =>
    obtain ⟨h3, h4⟩ := h1 rfl
    obtain rfl := rowT_inj l l2 ((rowB_is l).1 hl).1 ((rowB_is l2).1 h3).1 h4
    exact ⟨A, m, c, he, hi, hb⟩
theorem row12 : rowB [1, 2] = true := by decide
theorem size12 : ((rowT [1, 2]).size : Int) = 3 := by decide
theorem depth12 : ((rowT [1, 2]).depth : Int) = 2 := by decide
theorem may12 : (rowT [1, 2]).may = true := by decide
/-- five cells, held -/
theorem five_held {W w' : World} {p0 p1 p2 p3 p4 : Addr} {v0 v1 v2 v3 v4 : Value} (hb : Below W.heap.size W w') (h : W.cell? p0 = some v0 ∧ W.cell? p1 = some v1 ∧ W.cell? p2 = some v2 ∧ W.cell? p3 = some v3 ∧ W.cell? p4 = some v4) :
    w'.cell? p0 = some v0 ∧ w'.cell? p1 = some v1 ∧ w'.cell? p2 = some v2 ∧ w'.cell? p3 = some v3 ∧ w'.cell? p4 = some v4 := by
  obtain ⟨h0, h1, h2, h3, h4⟩ := h
  exact ⟨(hb.cell (block_lt_of_cell h0)).trans h0, (hb.cell (block_lt_of_cell h1)).trans h1, (hb.cell (block_lt_of_cell h2)).trans h2, (hb.cell (block_lt_of_cell h3)).trans h3, (hb.cell (block_lt_of_cell h4)).trans h4⟩

set_option maxRecDepth 100000 in
set_option maxHeartbeats 4000000 in
theorem tawake_any (w : World) :
    Calls Try.prog 9 #[] w (GivesB true w) := by
  have hb0 := one_alloc w (.cells #[.int .i64 1, .int .i64 2] 3)
  have hi0 : Its .i64 (w.alloc (.cells #[.int .i64 1, .int .i64 2] 3)) (some ⟨w.heap.size, 0, none⟩) 2 2 [1, 2] := by
    refine ⟨rfl, Nat.le_refl _, by unfold maxLen; omega, (fun e => by cases e), fun _ => ⟨w.heap.size, 0, rfl, fun j hj => ?_⟩⟩
    rw [cell_of_row _ _ _ _ _ _ (heap_alloc_new w _)]
    have : j = 0 ∨ j = 1 := by omega
    rcases this with rfl | rfl <;> rfl
  have hrow := row_any _ 2 2 [1, 2] _ hi0
  rw [row12, show rowR [1, 2] = rowT [1, 2] by rw [rowR, row12]; rfl] at hrow
  obtain ⟨T, hT⟩ : ∃ T, rowT [1, 2] = T := ⟨_, rfl⟩
  have hs12 := size12
  have hd12 := depth12
  have hm12 := may12
  rw [hT] at hrow hs12 hd12 hm12
  have HROW := Lib.hid hrow
  have HB0 := Lib.hid hb0
  have HT := Lib.hid hT
  have HS12 := Lib.hid hs12
  have HD12 := Lib.hid hd12
  have HM12 := Lib.hid hm12
  clear hb0 hi0 hrow hT hs12 hd12 hm12
  go_enter Try.func9, Try.ntmps9
  go_wp2_with (first
    | (go_at_call 11; refine HROW.out.mono ?_; rintro e w1 ⟨k1, n1, A1, m1, c1, rfl, hI1, hB1⟩
       have hone := one_alloc w1 (.cells #[.int .i64 k1, .int .i64 n1, .slice A1 m1 c1] 24)
       have hun := unrow_any _ T k1 n1 A1 m1 c1 _ (hI1.later hone)
       rw [← HT.out] at hun
       have hbx := Box3.new w1 k1 n1 A1 m1 c1
       have hI2 := (hI1.later hone).old
       have HUN := Lib.hid hun
       have HBX := Lib.hid hbx
       have HI2 := Lib.hid hI2
       have HB2 := Lib.hid (HB0.out.trans ((hB1.trans (hone.mono hB1.size)).mono HB0.out.size))
       clear hun hbx hI2 hone hI1 hB1)
    | (go_at_call 13; refine HUN.out.mono ?_; intro e w2 hup
       obtain ⟨A3, m3, c3, rfl, hi3, hB3⟩ := un_row row12 hup
       obtain rfl : m3 = 2 := hi3.len.symm
       obtain ⟨b3, o3, rfl, hc3⟩ := hi3.at_ (by omega)
       have hx0 := hc3 0 (by omega)
       have hx1 := hc3 1 (by omega)
       rw [Nat.add_zero] at hx0
       have e0 : ([1, 2] : List Int).getD 0 0 = 1 := rfl
       have e1 : ([1, 2] : List Int).getD 1 0 = 2 := rfl
       rw [e0] at hx0
       rw [e1] at hx1
       obtain ⟨t0, t1, t2⟩ := (HBX.out.keep hB3).cells
       have HI3 := Lib.hid (HI2.out.below hB3)
       have HB3 := Lib.hid (HB2.out.trans (hB3.mono HB2.out.size))
       clear hup hi3 hc3 e0 e1 hB3))
  have hS : w2.cell? ⟨w1.heap.size, 0, none⟩ = some (.int .i64 k1) ∧ w2.cell? ⟨w1.heap.size, 1, none⟩ = some (.int .i64 n1) ∧ w2.cell? ⟨w1.heap.size, 2, none⟩ = some (.slice A1 m1 c1) ∧ w2.cell? ⟨b3, o3, none⟩ = some (.int .i64 1) ∧ w2.cell? ⟨b3, o3 + 1, none⟩ = some (.int .i64 2) := ⟨t0, t1, t2, hx0, hx1⟩
  have hBd : Below w2.heap.size w2 w2.drew := (Below.refl _ _).drew
  have Sd := five_held hBd hS
  clear t0 t1 t2 hx0 hx1
  go_region_held3 (fun w' => w'.cell? ⟨w1.heap.size, 0, none⟩ = some (.int .i64 k1) ∧ w'.cell? ⟨w1.heap.size, 1, none⟩ = some (.int .i64 n1) ∧ w'.cell? ⟨w1.heap.size, 2, none⟩ = some (.slice A1 m1 c1) ∧ w'.cell? ⟨b3, o3, none⟩ = some (.int .i64 1) ∧ w'.cell? ⟨b3, o3 + 1, none⟩ = some (.int .i64 2)) (first | with_reducible exact Sd | with_reducible exact Sa | with_reducible exact Sb | with_reducible exact Sc | with_reducible exact Se | with_reducible exact Sf | with_reducible exact Sg) (first
    | (go_at_call 19
       have hca := size_any _ T k1 n1 A1 m1 c1 w2.drew (HI3.out.later hBd) (by rw [HS12.out]; omega)
       rw [HS12.out] at hca
       (with_reducible refine hca.mono ?_)
       rintro e wa ⟨rfl, hba⟩
       have hBa : Below w2.heap.size w2 wa := hBd.trans (hba.mono hBd.size)
       have Sa := five_held hBa hS
       clear hca hba)
    | (go_at_call 21
       have hcb := depth_any _ T k1 n1 A1 m1 c1 wa (HI3.out.later hBa) (by rw [HD12.out]; omega)
       rw [HD12.out] at hcb
       (with_reducible refine hcb.mono ?_)
       rintro e wb ⟨rfl, hbb⟩
       have hBb : Below w2.heap.size w2 wb := hBa.trans (hbb.mono hBa.size)
       have Sb := five_held hBb hS
       clear hcb hbb)
    | (go_at_call 23
       have hcc := may_any _ T k1 n1 A1 m1 c1 wb (HI3.out.later hBb)
       rw [HM12.out] at hcc
       (with_reducible refine hcc.mono ?_)
       rintro e wc ⟨rfl, hbc⟩
       have hBc : Below w2.heap.size w2 wc := hBb.trans (hbc.mono hBb.size)
       have Sc := five_held hBc hS
       clear hcc hbc)
    | (go_at_call 24
       have hce := psame_any _ _ T T k1 n1 k1 n1 A1 A1 m1 c1 m1 c1 wc (HI3.out.later hBc) (HI3.out.later hBc)
       rw [Te.same_refl] at hce
       (with_reducible refine hce.mono ?_)
       rintro e we ⟨rfl, hbe⟩
       have hBe : Below w2.heap.size w2 we := hBc.trans (hbe.mono hBc.size)
       have Se := five_held hBe hS
       clear hce hbe)
    | (go_at_call 16
       (with_reducible refine (own_any _ T k1 n1 A1 m1 c1 we (HI3.out.later hBe) (by have := HS12.out; omega)).mono ?_)
       rintro e wf ⟨k5, n5, A5, m5, c5, rfl, hI5, hbf⟩
       have hBf : Below w2.heap.size w2 wf := hBe.trans (hbf.mono hBe.size)
       have Sf := five_held hBf hS
       have HI5 := Lib.hid hI5
       clear hI5 hbf)
    | (go_at_call 24
       have hcg := psame_any _ _ T T k5 n5 k1 n1 A5 A1 m5 c5 m1 c1 wf HI5.out (HI3.out.later hBf)
       rw [Te.same_refl] at hcg
       (with_reducible refine hcg.mono ?_)
       rintro e wg ⟨rfl, hbg⟩
       have hBg : Below w2.heap.size w2 wg := hBf.trans (hbg.mono hBf.size)
       have Sg := five_held hBg hS
       clear hcg hbg))
  go_wp2
  go_ret
  exact ⟨rfl, HB3.out.trans (hBg.mono HB3.out.size)⟩
end Go.Proofs.Ytgldbjlifcfjlaa
