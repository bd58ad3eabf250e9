/- The walks over the document's answers made, Makes. -/
import Derived.Test.YtcpeaeefphgbaaaKnwRParts
namespace Go.Proofs.Ytcpeaeefphgbaaa
set_option linter.unusedVariables false
set_option linter.unusedSimpArgs false
open Go.RowKit

/-- the two Args of a node, and their cells, in a later world -/
theorem Is.two {P : Nat → Prop} {w wr : World} {k n : Int} {a b : Te} {A : Option Addr} {m c : Nat} (h : Is P w (.node k n [a, b]) k n A m c) (hb : Below w.heap.size w wr) :
    ∃ bl off k1 n1 A1 m1 c1 k2 n2 A2 m2 c2, A = some ⟨bl, off, none⟩ ∧ bl < w.heap.size ∧ Is P wr a k1 n1 A1 m1 c1 ∧ Is P wr b k2 n2 A2 m2 c2 ∧
      (wr.cell? ⟨bl, off, none⟩ = some (.int .i64 k1) ∧ wr.cell? ⟨bl, off + 1, none⟩ = some (.int .i64 n1) ∧ wr.cell? ⟨bl, off + 2, none⟩ = some (.slice A1 m1 c1) ∧
       wr.cell? ⟨bl, off + 3, none⟩ = some (.int .i64 k2) ∧ wr.cell? ⟨bl, off + 3 + 1, none⟩ = some (.int .i64 n2) ∧ wr.cell? ⟨bl, off + 3 + 2, none⟩ = some (.slice A2 m2 c2)) := by
  obtain ⟨hl, -, -, -⟩ := h.len
  have hm : m = 2 := by simpa using hl.symm
  subst hm
  obtain ⟨bl, off, k1, n1, A1, m1, c1, hA, hPb, hbl, hI1, h0, h1, h2⟩ := h.arg 0 (by omega) (by simp)
  obtain ⟨bl', off', k2, n2, A2, m2, c2, hA2, _, _, hI2, h3, h4, h5⟩ := h.arg 1 (by omega) (by simp)
  rw [hA] at hA2
  injection hA2 with hA2
  injection hA2 with e1 e2 _
  subst e1 e2
  refine ⟨bl, off, k1, n1, A1, m1, c1, k2, n2, A2, m2, c2, hA, hbl, hI1.later hb, hI2.later hb, ?_, ?_, ?_, ?_, ?_, ?_⟩
  · exact (hb.cell (p := ⟨bl, off, none⟩) hbl).trans (by simpa using h0)
  · exact (hb.cell (p := ⟨bl, off + 1, none⟩) hbl).trans (by simpa using h1)
  · exact (hb.cell (p := ⟨bl, off + 2, none⟩) hbl).trans (by simpa using h2)
  · exact (hb.cell (p := ⟨bl, off + 3, none⟩) hbl).trans (by simpa using h3)
  · exact (hb.cell (p := ⟨bl, off + 3 + 1, none⟩) hbl).trans (by simpa using h4)
  · exact (hb.cell (p := ⟨bl, off + 3 + 2, none⟩) hbl).trans (by simpa using h5)
/-- a node that may be: a leaf, or one of two Args -/
theorem Te.good_two {k n : Int} {l : List Te} (h : (Te.node k n l).good = true) : (k = 0 ∨ k = 1) ∧ l = [] ∧ 0 ≤ n ∨ (k = 2 ∨ k = 3) ∧ n = 0 ∧ ∃ a b, l = [a, b] ∧ a.good = true ∧ b.good = true := by
  rw [Te.good, Bool.and_eq_true, nodeB, decide_eq_true_eq] at h
  obtain ⟨h1, h2⟩ := h
  rcases h1 with ⟨h3, h4, h5⟩ | ⟨h3, h4, h5⟩
  · exact .inl ⟨h3, List.eq_nil_of_length_eq_zero h5, h4⟩
  · right
    refine ⟨h3, h4, ?_⟩
    match l, h5 with
    | [a, b], _ => exact ⟨a, b, rfl, (Te.goods_iff _).1 h2 a (by simp), (Te.goods_iff _).1 h2 b (by simp)⟩

set_option maxHeartbeats 2000000 in
theorem rmade_in (w0 : World) (K : List Te) (Ap : Option Addr) (mp cp : Nat) (hP : Is (· < w0.heap.size) w0 (.node 0 0 K) 0 0 Ap mp cp) : ∀ (t : Te) (k n : Int) (A : Option Addr) (m c : Nat), Is (· < w0.heap.size) w0 t k n A m c →
    ∀ (w : World), Below w0.heap.size w0 w → t.good = true →
    Calls Try.prog 37 #[.slice Ap mp cp, .agg #[.int .i64 k, .int .i64 n, .slice A m c]] w (GivesB (t.made K) w) := by
  refine Is.ind fun k n l A m c hI ih w hb hgood => ?_
  have IH := Lib.hid ih
  have hone := one_alloc w (.cells #[.int .i64 k, .int .i64 n, .slice A m c] 24)
  have hcup := Cup.new w k n A m c
  have hb1 : Below w0.heap.size w0 (w.alloc (.cells #[.int .i64 k, .int .i64 n, .slice A m c] 24)) := hb.trans (hone.mono hb.size)
  have HIN := Lib.hid (in_any _ _ K (.node k n l) Ap mp cp k n A m c _ (hP.below hb1) (hI.below hb1))
  have HI := Lib.hid hI
  have HC := Lib.hid hcup
  have HB1 := Lib.hid hb1
  have HONE := Lib.hid hone
  have HG := Lib.hid (Te.good_two hgood)
  clear ih hI hone hcup hb hb1 hgood
  cases hi : isIn K (.node k n l) with
  | true =>
    rw [hi] at HIN
    have HM := Lib.hid (made_in' hi)
    clear hi
    go_enter Try.func37, Try.ntmps37
    go_wp2_with (go_at_call 25
                 (with_reducible refine HIN.out.mono ?_)
                 rintro e w2 ⟨rfl, hb2⟩
                 obtain ⟨y0, y1, y2⟩ := (HC.out.below hb2).cells
                 have HB2 := Lib.hid (HONE.out.trans (hb2.mono HONE.out.size))
                 clear hb2)
    go_ret
    exact ⟨by rw [HM.out]; rfl, HB2.out⟩
  | false =>
    rw [hi] at HIN
    have HII := Lib.hid hi
    clear hi
    rcases HG.out with ⟨h01 | h01, rfl, hn⟩ | ⟨hk, rfl, a, b, rfl, hga, hgb⟩
    · subst h01
      go_enter Try.func37, Try.ntmps37
      go_wp2_with (go_at_call 25
                   (with_reducible refine HIN.out.mono ?_)
                   rintro e w2 ⟨rfl, hb2⟩
                   obtain ⟨y0, y1, y2⟩ := (HC.out.below hb2).cells
                   have HB2 := Lib.hid (HONE.out.trans (hb2.mono HONE.out.size))
                   clear hb2)
      go_ret
      exact ⟨by rw [made_word]; rfl, HB2.out⟩
    · subst h01
      go_enter Try.func37, Try.ntmps37
      go_wp2_with (go_at_call 25
                   (with_reducible refine HIN.out.mono ?_)
                   rintro e w2 ⟨rfl, hb2⟩
                   obtain ⟨y0, y1, y2⟩ := (HC.out.below hb2).cells
                   have HB2 := Lib.hid (HONE.out.trans (hb2.mono HONE.out.size))
                   clear hb2)
      go_ret
      exact ⟨by rw [made_key, HII.out]; rfl, HB2.out⟩
    · have hk0 : (k == 0) = false := by rw [beq_eq_false_iff_ne]; omega
      have hk1 : (k == 1) = false := by rw [beq_eq_false_iff_ne]; omega
      have HMT := Lib.hid (made_two (by omega) (by omega) HII.out)
      have HGA := Lib.hid hga
      have HGB := Lib.hid hgb
      have hm2 : m = 2 := by have := HI.out.len.1; simpa using this.symm
      subst hm2
      clear hga hgb
      obtain ⟨xa, hxa⟩ : ∃ x, a.made K = x := ⟨_, rfl⟩
      obtain ⟨xb, hxb⟩ : ∃ x, b.made K = x := ⟨_, rfl⟩
      rw [hxa, hxb] at HMT
      have HXA := Lib.hid hxa
      have HXB := Lib.hid hxb
      clear hxa hxb
      obtain ⟨bl, off, k1, n1, A1, m1, c1, k2, n2, A2, m2, c2, rfl, hbl, hI1, hI2, hcl⟩ := HI.out.two (Below.refl _ w0)
      have HI1 := Lib.hid hI1
      have HI2 := Lib.hid hI2
      have HCL := Lib.hid hcl
      clear hI1 hI2 hcl
      cases xa <;> cases xb
      all_goals
        go_enter Try.func37, Try.ntmps37
        go_wp2_with (first
          | (go_at_call 25
             (with_reducible refine HIN.out.mono ?_)
             rintro e w2 ⟨rfl, hb2⟩
             obtain ⟨y0, y1, y2⟩ := (HC.out.below hb2).cells
             have hc2 := HC.out.below hb2
             have hbb : Below w0.heap.size w0 w2 := HB1.out.trans (hb2.mono HB1.out.size)
             obtain ⟨d0, d1, d2, d3, d4, d5⟩ := HCL.out
             have z0 := (hbb.cell (p := ⟨bl, off, none⟩) hbl).trans d0
             have z1 := (hbb.cell (p := ⟨bl, off + 1, none⟩) hbl).trans d1
             have z2 := (hbb.cell (p := ⟨bl, off + 2, none⟩) hbl).trans d2
             have hca : Calls Try.prog 37 #[.slice Ap mp cp, .agg #[.int .i64 k1, .int .i64 n1, .slice A1 m1 c1]] w2 (GivesB (a.made K) w2) := IH.out 0 (by simp) k1 n1 A1 m1 c1 HI1.out w2 hbb HGA.out
             rw [HXA.out] at hca
             have HCA := Lib.hid hca
             have HC2 := Lib.hid hc2
             have HBB := Lib.hid hbb
             have HB2 := Lib.hid (HONE.out.trans (hb2.mono HONE.out.size))
             clear hb2 hca hc2 hbb d0 d1 d2 d3 d4 d5)
          | (go_at_call 37
             (with_reducible refine HCA.out.mono ?_)
             rintro e w3 ⟨rfl, hb3⟩
             obtain ⟨t0, t1, t2⟩ := (HC2.out.below hb3).cells
             have hbb : Below w0.heap.size w0 w3 := HBB.out.trans (hb3.mono HBB.out.size)
             obtain ⟨d0, d1, d2, d3, d4, d5⟩ := HCL.out
             have s3 := (hbb.cell (p := ⟨bl, off + 3, none⟩) hbl).trans d3
             have s4 := (hbb.cell (p := ⟨bl, off + 3 + 1, none⟩) hbl).trans d4
             have s5 := (hbb.cell (p := ⟨bl, off + 3 + 2, none⟩) hbl).trans d5
             have hcb : Calls Try.prog 37 #[.slice Ap mp cp, .agg #[.int .i64 k2, .int .i64 n2, .slice A2 m2 c2]] w3 (GivesB (b.made K) w3) := IH.out 1 (by simp) k2 n2 A2 m2 c2 HI2.out w3 hbb HGB.out
             rw [HXB.out] at hcb
             have HCB := Lib.hid hcb
             have HB3 := Lib.hid (HB2.out.trans (hb3.mono HB2.out.size))
             clear hb3 hcb hbb d0 d1 d2 d3 d4 d5)
          | (go_at_call 37
             (with_reducible refine HCB.out.mono ?_)
             rintro e w4 ⟨rfl, hb4⟩
             have HB4 := Lib.hid (HB3.out.trans (hb4.mono HB3.out.size))
             clear hb4))
        go_ret
        exact ⟨by rw [HMT.out]; rfl, HB4.out⟩
theorem rmade_any (P Q : Nat → Prop) (K : List Te) (Ap : Option Addr) (mp cp : Nat) (t : Te) (k n : Int) (A : Option Addr) (m c : Nat) (w : World) (hP : Is P w (.node 0 0 K) 0 0 Ap mp cp) (hI : Is Q w t k n A m c) (hg : t.good = true) :
    Calls Try.prog 37 #[.slice Ap mp cp, .agg #[.int .i64 k, .int .i64 n, .slice A m c]] w (GivesB (t.made K) w) :=
  rmade_in w K Ap mp cp hP.old t k n A m c hI.old w (Below.refl _ _) hg
end Go.Proofs.Ytcpeaeefphgbaaa
