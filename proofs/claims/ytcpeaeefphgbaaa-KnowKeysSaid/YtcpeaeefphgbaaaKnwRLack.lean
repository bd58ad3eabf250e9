/- The walks over the document's answers lacking, Lacks. -/
import Derived.Test.YtcpeaeefphgbaaaKnwRMakes
namespace Go.Proofs.Ytcpeaeefphgbaaa
set_option linter.unusedVariables false
set_option linter.unusedSimpArgs false
open Go.RowKit

theorem lacks_len {K : List Te} {t : Te} (h : t.good = true) (out : List Te) : (t.lacks K out).length ≤ out.length + t.size := by
  obtain ⟨⟨ex, he, hs, _⟩, _⟩ := Te.lacks_all (P := K) t h out
  have := t.size_pos
  rw [he, List.length_append]
  omega
theorem lacks_in {K out : List Te} {k n : Int} {l : List Te} (h : isIn K (.node k n l) = true) : (Te.node k n l).lacks K out = out := by rw [Te.lacks, if_pos (.inr h)]
theorem lacks_word {K out : List Te} {n : Int} {l : List Te} : (Te.node 0 n l).lacks K out = out := by rw [Te.lacks, if_pos (.inl rfl)]
theorem lacks_key {K out : List Te} {n : Int} {l : List Te} (h : isIn K (.node 1 n l) = false) : (Te.node 1 n l).lacks K out = if isIn out (.node 1 n l) = true then out else out ++ [.node 1 n l] := by
  rw [Te.lacks, if_neg (by rw [h]; simp), if_pos rfl]
theorem lacks_two {K out : List Te} {k n : Int} {a b : Te} (h0 : k ≠ 0) (h1 : k ≠ 1) (h : isIn K (.node k n [a, b]) = false) : (Te.node k n [a, b]).lacks K out = b.lacks K (a.lacks K out) := by
  rw [Te.lacks, if_neg (by rw [h]; simp [h0]), if_neg h1]
  simp only [Te.lacksL]
set_option maxHeartbeats 4000000 in
theorem rlacking_in (B : Nat) (K : List Te) (Ap : Option Addr) (mp cp : Nat) : ∀ (t : Te) (k n : Int) (A : Option Addr) (m c : Nat) (w : World) (v : Value) (rows : List (List Value)) (acc : List Te), Is (fun b => v.ownBlock ≠ some b) w (.node 0 0 K) 0 0 Ap mp cp → Is (fun b => v.ownBlock ≠ some b) w t k n A m c → Had w B v rows acc → B ≤ w.heap.size → t.good = true → acc.length + t.size ≤ 1000000 →
    Calls Try.prog 36 #[.slice Ap mp cp, .agg #[.int .i64 k, .int .i64 n, .slice A m c], v] w (AddsL B v (t.lacks K acc) w) := by
  refine Te.ind fun k0 n0 l ih k n A m c w v rows acc hP hI hH hB hgood hN => ?_
  obtain ⟨hl, rfl, rfl, hm⟩ := hI.len
  have IH := Lib.hid ih
  obtain ⟨A0, m0, c0, rfl, hS⟩ := hH.is
  obtain ⟨hlS, -, -, hmS⟩ := hS.len
  have hone := one_alloc w (.cells #[.int .i64 k, .int .i64 n, .slice A m c] 24)
  obtain ⟨W1, hW1⟩ : ∃ W1, w.alloc (.cells #[.int .i64 k, .int .i64 n, .slice A m c] 24) = W1 := ⟨_, rfl⟩
  have hcup := Cup.new w k n A m c
  have hng : (Value.slice A0 m0 c0).ownBlock ≠ some w.heap.size := hH.not_new (Nat.le_refl _)
  rw [hW1] at hone hcup
  have HIN := Lib.hid (in_any _ _ K (.node k n l) Ap mp cp k n A m c W1 (hP.later hone) (hI.later hone))
  have hB1 : B ≤ W1.heap.size := Nat.le_trans hB hone.size
  have HW := Lib.hid hW1
  have HP := Lib.hid (hP.later hone)
  have HI := Lib.hid (hI.later hone)
  have HH := Lib.hid (hH.far hone)
  have HT := Lib.hid (Turns.below (.slice A0 m0 c0) hone)
  have HC := Lib.hid hcup
  have HNG := Lib.hid hng
  have HG := Lib.hid (Te.good_two hgood)
  have hrl : rows.length = acc.length := hH.len
  have hbs : w.heap.size < W1.heap.size := hcup.lt
  have hN1 : acc.length + 1 ≤ 1000000 := by have := (Te.node k n l).size_pos; omega
  clear ih hW1 hI hP hH hS hone hcup hng hgood hl
  cases hi : isIn K (.node k n l) with
  | true =>
    rw [hi] at HIN
    have HLK := Lib.hid (lacks_in (out := acc) hi)
    clear hi
    go_enter Try.func36, Try.ntmps36
    go_wp2_with (go_at_call 25
                 rw [HW.out]
                 (with_reducible refine HIN.out.mono ?_)
                 rintro e w2 ⟨rfl, hb2⟩
                 obtain ⟨y0, y1, y2⟩ := (HC.out.below hb2).cells
                 have HB2 := Lib.hid hb2
                 clear hb2)
    go_ret
    exact ⟨_, rows, rfl, by rw [HLK.out]; exact HH.out.far HB2.out, HT.out.trans (Turns.below _ HB2.out)⟩
  | false =>
    rw [hi] at HIN
    have HII := Lib.hid hi
    clear hi
    rcases HG.out with ⟨h01 | h01, rfl, hn⟩ | ⟨hk, rfl, a, b, rfl, hga, hgb⟩
    · subst h01
      go_enter Try.func36, Try.ntmps36
      go_wp2_with (go_at_call 25
                   rw [HW.out]
                   (with_reducible refine HIN.out.mono ?_)
                   rintro e w2 ⟨rfl, hb2⟩
                   obtain ⟨y0, y1, y2⟩ := (HC.out.below hb2).cells
                   have HB2 := Lib.hid hb2
                   clear hb2)
      go_ret
      exact ⟨_, rows, rfl, by rw [lacks_word]; exact HH.out.far HB2.out, HT.out.trans (Turns.below _ HB2.out)⟩
    · subst h01
      have hlk := lacks_key (out := acc) HII.out
      cases hi2 : isIn acc (.node 1 n [])
      all_goals
        rw [hi2] at hlk
        have HLK := Lib.hid hlk
        have HI2 := Lib.hid hi2
        clear hlk hi2
        go_enter Try.func36, Try.ntmps36
        go_wp2_with (first
          | (go_at_call 25
             rw [HW.out]
             (with_reducible refine HIN.out.mono ?_)
             rintro e w2 ⟨rfl, hb2⟩
             obtain ⟨y0, y1, y2⟩ := (HC.out.below hb2).cells
             have HB2 := Lib.hid hb2
             have HC2 := Lib.hid (HC.out.below hb2)
             clear hb2)
          | (go_at_call 25
             obtain ⟨A5, m5, c5, he5, hS5⟩ := (HH.out.far HB2.out).is
             injection he5 with e5 e6 e7
             subst e5 e6 e7
             have hc3 := in_any _ _ acc (.node 1 n []) A0 m0 c0 1 n A m c w2 hS5 (HI.out.later HB2.out)
             rw [HI2.out] at hc3
             (with_reducible refine hc3.mono ?_)
             rintro e w3 ⟨rfl, hb3⟩
             obtain ⟨s0, s1, s2⟩ := (HC2.out.below hb3).cells
             have HB3 := Lib.hid (HB2.out.trans (hb3.mono HB2.out.size))
             clear hb3 hc3 hS5)
          | (at_builtin
             refine wpList_append_r_at rfl 22 24 3 40 _ _ rfl Try.underlying22 info_term (by omega) B (.slice A0 m0 c0) rows rfl ((HH.out.far HB3.out).far (one_alloc _ _)).own _ 1 1 [[.int .i64 1, .int .i64 n, .slice A m c]] rfl (one_rws 3 24 _ [.int .i64 1, .int .i64 n, .slice A m c] rfl (row_one 1 n A m c)) (by omega) (by omega) (Nat.le_trans hB1 (Nat.le_trans HB3.out.size (size_le_alloc _ _))) ?_
             intro v4 w4 hown4 hg4 hat4
             obtain ⟨hH4, hT4⟩ := ((HH.out.far HB3.out).far (one_alloc w3 (.cells #[.int .i64 1, .int .i64 n, .slice A m c] 24))).step ((HI.out.later HB3.out).later (one_alloc w3 (.cells #[.int .i64 1, .int .i64 n, .slice A m c] 24))).lies hown4 hg4 hat4
             have HH4 := Lib.hid hH4
             have HT4 := Lib.hid ((Turns.below (.slice A0 m0 c0) (HB3.out.trans ((one_alloc w3 (.cells #[.int .i64 1, .int .i64 n, .slice A m c] 24)).mono HB3.out.size))).trans hT4)
             clear hH4 hT4 hown4 hg4 hat4))
      · go_ret
        exact ⟨_, _, rfl, by rw [HLK.out]; exact HH4.out, HT.out.trans HT4.out⟩
      · go_ret
        exact ⟨_, rows, rfl, by rw [HLK.out]; exact HH.out.far HB3.out, HT.out.trans (Turns.below _ HB3.out)⟩
    · have hk0 : (k == 0) = false := by rw [beq_eq_false_iff_ne]; omega
      have hk1 : (k == 1) = false := by rw [beq_eq_false_iff_ne]; omega
      have HLK := Lib.hid (lacks_two (out := acc) (by omega) (by omega) HII.out)
      have HGA := Lib.hid hga
      have HGB := Lib.hid hgb
      have hla := lacks_len (K := K) hga acc
      simp only [Te.size, Te.sizes] at hN
      have hm2 : m = 2 := by have := HI.out.len.1; simpa using this.symm
      subst hm2
      clear hga hgb
      obtain ⟨bl, off, k1, n1, A1, m1, c1, k2, n2, A2, m2, c2, rfl, hbl, hI1, hI2, hcl⟩ := HI.out.two (Below.refl _ W1)
      have hbn : (Value.slice A0 m0 c0).ownBlock ≠ some bl := by
        obtain ⟨_, _, _, _, _, _, _, hA, hPb, _⟩ := HI.out.arg 0 (by omega) (by simp)
        injection hA with hA
        injection hA with hA1 _ _
        rw [hA1]
        exact hPb
      have HI1 := Lib.hid hI1
      have HI2 := Lib.hid hI2
      have HCL := Lib.hid hcl
      have HBN := Lib.hid hbn
      clear hI1 hI2 hcl hbn
      go_enter Try.func36, Try.ntmps36
      go_wp2_with (first
        | (go_at_call 25
           rw [HW.out]
           (with_reducible refine HIN.out.mono ?_)
           rintro e w2 ⟨rfl, hb2⟩
           obtain ⟨y0, y1, y2⟩ := (HC.out.below hb2).cells
           obtain ⟨d0, d1, d2, d3, d4, d5⟩ := HCL.out
           have z0 := (hb2.cell (p := ⟨bl, off, none⟩) hbl).trans d0
           have z1 := (hb2.cell (p := ⟨bl, off + 1, none⟩) hbl).trans d1
           have z2 := (hb2.cell (p := ⟨bl, off + 2, none⟩) hbl).trans d2
           have hT2 := Turns.below (.slice A0 m0 c0) hb2
           have hca : Calls Try.prog 36 #[.slice Ap mp cp, .agg #[.int .i64 k1, .int .i64 n1, .slice A1 m1 c1], .slice A0 m0 c0] w2 (AddsL B (.slice A0 m0 c0) (a.lacks K acc) w2) :=
             IH.out a (by simp) k1 n1 A1 m1 c1 w2 _ rows acc (hT2.is HP.out) (hT2.is HI1.out) (HH.out.far hb2) (Nat.le_trans hB1 hb2.size) HGA.out (by omega)
           have HCA := Lib.hid hca
           have HT2 := Lib.hid hT2
           clear hb2 hca hT2 d0 d1 d2 d3 d4 d5)
        | (go_at_call 36
           (with_reducible refine HCA.out.mono ?_)
           intro e w3 hadd
           obtain ⟨A3, m3, c3, rows3, rfl, hH3, hT3⟩ := hadd.gives
           have hTT := HT2.out.trans hT3
           obtain ⟨t0, t1, t2⟩ := (HC.out.turns hTT HNG.out).cells
           obtain ⟨d0, d1, d2, d3, d4, d5⟩ := HCL.out
           have hblk := hTT.block hbl HBN.out
           have s3 := (World.cell?_of_block (w := W1) (w' := w3) (a := ⟨bl, off + 3, none⟩) hblk).trans d3
           have s4 := (World.cell?_of_block (w := W1) (w' := w3) (a := ⟨bl, off + 3 + 1, none⟩) hblk).trans d4
           have s5 := (World.cell?_of_block (w := W1) (w' := w3) (a := ⟨bl, off + 3 + 2, none⟩) hblk).trans d5
           have hcb : Calls Try.prog 36 #[.slice Ap mp cp, .agg #[.int .i64 k2, .int .i64 n2, .slice A2 m2 c2], .slice A3 m3 c3] w3 (AddsL B (.slice A3 m3 c3) (b.lacks K (a.lacks K acc)) w3) :=
             IH.out b (by simp) k2 n2 A2 m2 c2 w3 _ rows3 _ (hTT.is HP.out) (hTT.is HI2.out) hH3 (Nat.le_trans hB1 hTT.grown.size) HGB.out (by omega)
           have HCB := Lib.hid hcb
           have HTT := Lib.hid hTT
           clear hcb hTT hadd hH3 hT3 hblk d0 d1 d2 d3 d4 d5)
        | (go_at_call 36
           (with_reducible refine HCB.out.mono ?_)
           rintro e w4 ⟨v4, rows4, rfl, hH4, hT4⟩
           have HH4 := Lib.hid hH4
           have HT4 := Lib.hid hT4
           clear hH4 hT4))
      go_ret
      exact ⟨_, rows4, rfl, by rw [HLK.out]; exact HH4.out, HT.out.trans (HTT.out.trans HT4.out)⟩

set_option maxHeartbeats 2000000 in
theorem rlacks_any (P Q : Nat → Prop) (l : List Te) (t : Te) (A : Option Addr) (m c : Nat) (k n : Int) (A2 : Option Addr) (m2 c2 : Nat) (w : World) (hI : Is P w (.node 0 0 l) 0 0 A m c) (hJ : Is Q w t k n A2 m2 c2)
    (hs : ∀ t ∈ l, (t.size : Int) ≤ 4611686018427387904) (hz : Te.sizes l ≤ 1000000) (ht : t.size ≤ 1000000) :
    Calls Try.prog 17 #[.slice A m c, .agg #[.int .i64 k, .int .i64 n, .slice A2 m2 c2]] w (GivesL (lacking l t) w) := by
  have hone := one_alloc w (.cells #[.int .i64 k, .int .i64 n, .slice A2 m2 c2] 24)
  have hcup := Cup.new w k n A2 m2 c2
  obtain ⟨W1, hW1⟩ : ∃ W1, w.alloc (.cells #[.int .i64 k, .int .i64 n, .slice A2 m2 c2] 24) = W1 := ⟨_, rfl⟩
  rw [hW1] at hone hcup
  have HW := Lib.hid hW1
  have HI := Lib.hid (hI.later hone)
  have HJ := Lib.hid (hJ.later hone)
  have HM := Lib.hid (rmayL_any _ l A m c W1 (hI.later hone) hs)
  have HC := Lib.hid hcup
  have HONE := Lib.hid hone
  have HS := Lib.hid hs
  have HZ := Lib.hid hz
  have HTT := Lib.hid ht
  obtain ⟨x0, x1, x2⟩ := hcup.cells
  clear hI hJ hone hcup hW1 hs hz ht
  cases hl : mayL l <;> cases ht : t.may
  all_goals
    rw [hl] at HM
    have HL := Lib.hid hl
    have HT := Lib.hid ht
    have hmk : lacking l t = if (mayL l && t.may) = true then t.lacks (known l) [] else [] := rfl
    rw [hl, ht] at hmk
    have HMK := Lib.hid hmk
    clear hl ht hmk
    go_enter Try.func17, Try.ntmps17
    go_wp2_with (first
      | (go_at_call 18
         rw [HW.out]
         (with_reducible refine HM.out.mono ?_)
         rintro e w2 ⟨rfl, hb2⟩
         obtain ⟨y0, y1, y2⟩ := (HC.out.below hb2).cells
         have hcm := rmay_any _ t k n A2 m2 c2 w2 (HJ.out.later hb2) (by have := HTT.out; omega)
         rw [HT.out] at hcm
         have HCM := Lib.hid hcm
         have HB2 := Lib.hid hb2
         clear hb2 hcm)
      | (go_at_call 35
         (with_reducible refine HCM.out.mono ?_)
         rintro e w3 ⟨rfl, hb3⟩
         have hB3 := HB2.out.trans (hb3.mono HB2.out.size)
         obtain ⟨s0, s1, s2⟩ := (HC.out.below hB3).cells
         clear hb3))
  · go_ret
    rw [HMK.out]
    exact (Had.nil w3 0).gives (HONE.out.trans (hB3.mono HONE.out.size))
  · go_ret
    rw [HMK.out]
    exact (Had.nil w3 0).gives (HONE.out.trans (hB3.mono HONE.out.size))
  · go_ret
    rw [HMK.out]
    exact (Had.nil w3 0).gives (HONE.out.trans (hB3.mono HONE.out.size))
  · have hB3d : Below W1.heap.size W1 w3.drew := hB3.drew
    have S3 := (HC.out.below hB3d).cells
    clear s0 s1 s2 x0 x1 x2 y0 y1 y2
    go_region_held3 (fun w' => w'.cell? ⟨w.heap.size, 0, none⟩ = some (.int .i64 k) ∧ w'.cell? ⟨w.heap.size, 1, none⟩ = some (.int .i64 n) ∧ w'.cell? ⟨w.heap.size, 2, none⟩ = some (.slice A2 m2 c2)) (first | with_reducible exact S3 | with_reducible exact S4 | with_reducible exact S5) (first
      | (go_at_call 15
         have hc4 := rparts_any _ l A m c w3.drew (HI.out.later hB3d) HS.out HZ.out
         rw [partsOf_is HL.out] at hc4
         (with_reducible refine hc4.mono ?_)
         rintro e w4 ⟨A4, m4, c4, rfl, hI4, hb4⟩
         have hB4 : Below W1.heap.size W1 w4 := hB3d.trans (hb4.mono hB3d.size)
         have S4 := (HC.out.below hB4).cells
         have HI4 := Lib.hid hI4
         clear hc4 hb4 hI4)
      | (go_at_call 36
         have hc5 := rlacking_in W1.heap.size (known l) A4 m4 c4 t k n A2 m2 c2 w4 (.slice none 0 0) [] [] (HI4.out.mono fun b _ => by simp [Value.ownBlock]) ((HJ.out.later hB4).mono fun b _ => by simp [Value.ownBlock]) (Had.nil _ _) hB4.size (may_good HT.out) (by have := HTT.out; simpa using this)
         (with_reducible refine hc5.mono ?_)
         intro e w5 hadd
         obtain ⟨A5, m5, c5, rows5, rfl, hH5, hT5⟩ := hadd.gives
         have hB5 : Below W1.heap.size W1 w5 := hB4.trans (hT5.to_below hB4.size (fun g hg => by simp [Value.ownBlock] at hg))
         have S5 := (HC.out.below hB5).cells
         have HH5 := Lib.hid hH5
         clear hc5 hadd hH5 hT5))
    go_wp2
    go_ret
    rw [HMK.out]
    exact HH5.out.gives (HONE.out.trans (hB5.mono HONE.out.size))
end Go.Proofs.Ytcpeaeefphgbaaa
