/- Joined texts: The document's Do: plan, and what has no argument. The walk over the document's Do. -/
import Derived.Test.YtgnhmdfajnnkhaaSaJG
import Derived.Test.YtgnhmdfajnnkhaaSaJH
/- The document's Do: plan, and what has no argument. -/
namespace Go.Proofs.Ytgnhmdfajnnkhaa
set_option maxRecDepth 100000
set_option linter.unusedVariables false
set_option linter.unusedSimpArgs false
open Go.RowKit

set_option maxHeartbeats 8000000 in
theorem rdo_plan_low (A : Option Addr) (n c : Nat) (l : List Pl) (s : Sg) (k a : Int) (w : World) (hl : Pls w A n c l) (hts : SmG s) (hm : mayS l s = true) (hk : k = 4) (ha : a < 0) : Calls Try.prog 13 #[.slice A n c, sgV s, .int .i64 k, .int .i64 a] w (GivesGE (doS l s k a) w) := by
  subst hk
  have hsm := hl.small
  have HMY := Lib.hid (fun X (hX : Below w.heap.size w X) => rsmay_any A n c l s X (hl.below hX) hts)
  have HTU := Lib.hid (show ∀ X : World, Calls Try.prog 37 #[.int .i64 4] X fun e w' => e = .returned (.bool (turnsB 4)) ∧ X = w' from fun X => (rturns_any 4 X).mono fun _ _ h => ⟨h.1, h.2.symm⟩)
  rw [hm] at HMY
  rw [show turnsB 4 = true from rfl] at HTU
  have hms := mayS_iff.1 hm
  have hpl0 := hms.p0
  have hpl1 : s.pl < n := by have := hms.p1; rw [hl.len] at this; exact this
  obtain ⟨j, hj⟩ := Int.eq_ofNat_of_zero_le hpl0
  have hjn : j < n := by omega
  obtain ⟨b, off, q, rfl, hq, hmem, -, -, -⟩ := hl.at_ j hjn
  have hqa : planAt l s.pl = q := by rw [hj, planAt, Int.toNat_natCast, hq]
  have hfit := all_fit hms.all hmem
  have HPC := Lib.hid (show ∀ X, Below w.heap.size w X → X.cell? ⟨b, off + j * 5, none⟩ = some (.slice q.A q.n q.c) ∧ X.cell? ⟨b, off + j * 5 + 1, none⟩ = some (.slice q.B q.k q.d) ∧ X.cell? ⟨b, off + j * 5 + 2, none⟩ = some (.int .i64 q.am) ∧ X.cell? ⟨b, off + j * 5 + 3, none⟩ = some (.int .i64 q.rd) ∧ X.cell? ⟨b, off + j * 5 + 4, none⟩ = some (.int .i64 q.hd) from fun X hX => by
    obtain ⟨b2, off2, p2, hA2, hp2, -, -, -, z0, z1, z2, z3, z4⟩ := (hl.below hX).at_ j hjn
    cases hA2
    obtain rfl := hq.symm.trans hp2
    exact ⟨z0, z1, z2, z3, z4⟩)
  have hqk : q.s.length = q.k := (hl.pl q hmem).s.len
  have hqs := (hl.pl q hmem).s.small
  have hll := hl.len
  have hheld := hms.held
  rw [hqa] at hheld
  have hhd2 := (fit_iff.1 hfit).hd2
  have hw1 : wrap64 (q.hd - s.hl) = q.hd - s.hl := by have := hheld.h1; have := hheld.h2; unfold wrap64; omega
  have HR := Lib.hid (show doS l s 4 a = (s, 1) by rw [doS, if_pos ⟨hm, rfl⟩, askS, if_neg (by decide), if_neg (by decide), if_pos rfl, if_pos (.inl ha)])
  obtain ⟨G, hG⟩ : ∃ G, doS l s 4 a = G := ⟨_, rfl⟩
  rw [hG] at HR ⊢
  obtain ⟨P, hP⟩ : ∃ P, (s.ph == 0) = P := ⟨_, rfl⟩
  simp only [sgV] at HMY ⊢
  clear hG hm hl hms hqa hmem hq hfit hheld hhd2 hqk hll 
  obtain ⟨pl, st, nx, ph, t, hd, hh', ak, wt, sp⟩ := s
  try simp only at *
  subst hj
  go_enter Try.func13, Try.ntmps13
  go_wp2_with (first
    | (go_at_call 36
       (with_reducible refine (HMY.out _ (below_alloc2 _ _ _)).mono ?_)
       rintro e w1 ⟨rfl, hb1⟩
       have hs1 := (hb1.block w.heap.size (by simp; omega)).trans (alloc2_old w (.cells #[.int .i64 (j : Int), .int .i64 st, .int .i64 nx, .int .i64 ph, .int .i64 t, .int .i64 hd, .int .i64 hh', .int .i64 ak, .int .i64 wt, .bool sp] 24) (.cells #[.int .i64 0, .int .i64 0, .int .i64 0, .int .i64 0, .int .i64 0, .int .i64 0, .int .i64 0, .int .i64 0, .int .i64 0, .bool false] 24))
       have hr1 := (hb1.block (w.heap.size + 1) (by simp)).trans (alloc2_new w (.cells #[.int .i64 (j : Int), .int .i64 st, .int .i64 nx, .int .i64 ph, .int .i64 t, .int .i64 hd, .int .i64 hh', .int .i64 ak, .int .i64 wt, .bool sp] 24) (.cells #[.int .i64 0, .int .i64 0, .int .i64 0, .int .i64 0, .int .i64 0, .int .i64 0, .int .i64 0, .int .i64 0, .int .i64 0, .bool false] 24))
       have hn1 : w.heap.size + 1 < w1.heap.size := Nat.lt_of_lt_of_le (by simp) hb1.size
       have HB1 := Lib.hid ((below_alloc2 w (.cells #[.int .i64 (j : Int), .int .i64 st, .int .i64 nx, .int .i64 ph, .int .i64 t, .int .i64 hd, .int .i64 hh', .int .i64 ak, .int .i64 wt, .bool sp] 24) (.cells #[.int .i64 0, .int .i64 0, .int .i64 0, .int .i64 0, .int .i64 0, .int .i64 0, .int .i64 0, .int .i64 0, .int .i64 0, .bool false] 24)).trans (hb1.mono (by simp; omega)))
       obtain ⟨c0, c1, c2, c3, c4, c5, c6, c7, c8, c9⟩ := (show BoxG w1 w.heap.size ⟨(j : Int), st, nx, ph, t, hd, hh', ak, wt, sp⟩ from hs1).cells
       simp only at c0 c1 c2 c3 c4 c5 c6 c7 c8 c9
       obtain ⟨p0, p1, p2, p3, p4⟩ := HPC.out w1 HB1.out
       have hbp := one_alloc w1 (.cells #[.slice q.A q.n q.c, .slice q.B q.k q.d, .int .i64 q.am, .int .i64 q.rd, .int .i64 q.hd] 47)
       have hs2 := (hbp.block w.heap.size (by omega)).trans hs1
       obtain ⟨d0, d1, d2, d3, d4, d5, d6, d7, d8, d9⟩ := (show BoxG (w1.alloc (.cells #[.slice q.A q.n q.c, .slice q.B q.k q.d, .int .i64 q.am, .int .i64 q.rd, .int .i64 q.hd] 47)) w.heap.size ⟨(j : Int), st, nx, ph, t, hd, hh', ak, wt, sp⟩ from hs2).cells
       simp only at d0 d1 d2 d3 d4 d5 d6 d7 d8 d9
       have hp2 := heap_alloc_new w1 (.cells #[.slice q.A q.n q.c, .slice q.B q.k q.d, .int .i64 q.am, .int .i64 q.rd, .int .i64 q.hd] 47)
       obtain ⟨r0, r1, r2, r3, r4⟩ := (show BoxP (w1.alloc (.cells #[.slice q.A q.n q.c, .slice q.B q.k q.d, .int .i64 q.am, .int .i64 q.rd, .int .i64 q.hd] 47)) w1.heap.size q from hp2).cells
       have hbt := below_alloc2 w1 (.cells #[.slice q.A q.n q.c, .slice q.B q.k q.d, .int .i64 q.am, .int .i64 q.rd, .int .i64 q.hd] 47) (.cells #[.int .i64 (j : Int), .int .i64 st, .int .i64 nx, .int .i64 ph, .int .i64 t, .int .i64 hd, .int .i64 hh', .int .i64 ak, .int .i64 wt, .bool sp] 24)
       have hs3 := (hbt.block w.heap.size (by omega)).trans hs1
       have hr3 := (hbt.block (w.heap.size + 1) (by omega)).trans hr1
       have hp3 := alloc2_old w1 (.cells #[.slice q.A q.n q.c, .slice q.B q.k q.d, .int .i64 q.am, .int .i64 q.rd, .int .i64 q.hd] 47) (.cells #[.int .i64 (j : Int), .int .i64 st, .int .i64 nx, .int .i64 ph, .int .i64 t, .int .i64 hd, .int .i64 hh', .int .i64 ak, .int .i64 wt, .bool sp] 24)
       have ht3 := alloc2_new w1 (.cells #[.slice q.A q.n q.c, .slice q.B q.k q.d, .int .i64 q.am, .int .i64 q.rd, .int .i64 q.hd] 47) (.cells #[.int .i64 (j : Int), .int .i64 st, .int .i64 nx, .int .i64 ph, .int .i64 t, .int .i64 hd, .int .i64 hh', .int .i64 ak, .int .i64 wt, .bool sp] 24)
       have hn3 : w1.heap.size + 1 < ((w1.alloc (.cells #[.slice q.A q.n q.c, .slice q.B q.k q.d, .int .i64 q.am, .int .i64 q.rd, .int .i64 q.hd] 47)).alloc (.cells #[.int .i64 (j : Int), .int .i64 st, .int .i64 nx, .int .i64 ph, .int .i64 t, .int .i64 hd, .int .i64 hh', .int .i64 ak, .int .i64 wt, .bool sp] 24)).heap.size := by simp
       have hm3 : w.heap.size + 1 < ((w1.alloc (.cells #[.slice q.A q.n q.c, .slice q.B q.k q.d, .int .i64 q.am, .int .i64 q.rd, .int .i64 q.hd] 47)).alloc (.cells #[.int .i64 (j : Int), .int .i64 st, .int .i64 nx, .int .i64 ph, .int .i64 t, .int .i64 hd, .int .i64 hh', .int .i64 ak, .int .i64 wt, .bool sp] 24)).heap.size := Nat.lt_trans hn1 (by simp; omega)
       have HB3 := Lib.hid (HB1.out.trans (hbt.mono HB1.out.size))
       obtain ⟨e0, e1, e2, e3, e4, e5, e6, e7, e8, e9⟩ := (show BoxG ((w1.alloc (.cells #[.slice q.A q.n q.c, .slice q.B q.k q.d, .int .i64 q.am, .int .i64 q.rd, .int .i64 q.hd] 47)).alloc (.cells #[.int .i64 (j : Int), .int .i64 st, .int .i64 nx, .int .i64 ph, .int .i64 t, .int .i64 hd, .int .i64 hh', .int .i64 ak, .int .i64 wt, .bool sp] 24)) w.heap.size ⟨(j : Int), st, nx, ph, t, hd, hh', ak, wt, sp⟩ from hs3).cells
       simp only at e0 e1 e2 e3 e4 e5 e6 e7 e8 e9
       obtain ⟨q0, q1, q2, q3, q4⟩ := (show BoxP ((w1.alloc (.cells #[.slice q.A q.n q.c, .slice q.B q.k q.d, .int .i64 q.am, .int .i64 q.rd, .int .i64 q.hd] 47)).alloc (.cells #[.int .i64 (j : Int), .int .i64 st, .int .i64 nx, .int .i64 ph, .int .i64 t, .int .i64 hd, .int .i64 hh', .int .i64 ak, .int .i64 wt, .bool sp] 24)) w1.heap.size q from hp3).cells
       clear hbp hbt hs2 hp2
       clear hb1)
    | (go_at_call 37
       (with_reducible refine (HTU.out _).mono ?_)
       rintro e w2 ⟨rfl, rfl⟩)
    | ((with_reducible refine wpList_store_part rfl 24 _ _ rfl (w.heap.size + 1) 0 (.agg #[.int .i64 (j : Int), .int .i64 st, .int .i64 nx, .int .i64 ph, .int .i64 t, .int .i64 hd, .int .i64 hh', .int .i64 ak, .int .i64 wt, .bool sp]) #[.int .i64 (j : Int), .int .i64 st, .int .i64 nx, .int .i64 ph, .int .i64 t, .int .i64 hd, .int .i64 hh', .int .i64 ak, .int .i64 wt, .bool sp] ?hx9 ?hy9 ?hv9 24 #[.int .i64 0, .int .i64 0, .int .i64 0, .int .i64 0, .int .i64 0, .int .i64 0, .int .i64 0, .int .i64 0, .int .i64 0, .bool false] #[.int .i64 (j : Int), .int .i64 st, .int .i64 nx, .int .i64 ph, .int .i64 t, .int .i64 hd, .int .i64 hh', .int .i64 ak, .int .i64 wt, .bool sp] hr3 ?hi9 ?hl9 ?ho9 ?hn9 ?_); (case hx9 => rfl); (case hy9 => first | rfl | exact congrArg (Value.int IntKind.i64) v1); (case hv9 => rfl); (case hi9 => first | exact info_one _ | exact info_sig); (case hl9 => simp); (case ho9 => first | exact one_int _ | exact one_sig _ _ _ _ _ _ _ _ _ _); (case hn9 => rfl)
       intro w9 hg9 hr9 hz9
       have HB9 := Lib.hid (Below.grows HB3.out hg9 HB3.out.size (by omega))
       have hn9 : w.heap.size + 1 < w9.heap.size := by omega
       clear hg9))
  all_goals
   refine bodyPost_ret (v := .tuple #[.agg #[.int .i64 (j : Int), .int .i64 st, .int .i64 nx, .int .i64 ph, .int .i64 t, .int .i64 hd, .int .i64 hh', .int .i64 ak, .int .i64 wt, .bool sp], .int .i64 1]) ?_ rfl ⟨by rw [HR.out]; rfl, HB9.out⟩
   exact results_blk_val Try.results13 _ _ _ (w.heap.size + 1) 24 #[.int .i64 (j : Int), .int .i64 st, .int .i64 nx, .int .i64 ph, .int .i64 t, .int .i64 hd, .int .i64 hh', .int .i64 ak, .int .i64 wt, .bool sp] (0, 0) _ rfl hr9 Try.underlying24 rfl info_sig _ rfl
set_option maxHeartbeats 8000000 in
theorem rdo_plan_much (A : Option Addr) (n c : Nat) (l : List Pl) (s : Sg) (k a : Int) (w : World) (hl : Pls w A n c l) (hts : SmG s) (hm : mayS l s = true) (hk : k = 4) (ha : ¬ a < 0) (hb : (l.length : Int) ≤ a) : Calls Try.prog 13 #[.slice A n c, sgV s, .int .i64 k, .int .i64 a] w (GivesGE (doS l s k a) w) := by
  subst hk
  have hsm := hl.small
  have HMY := Lib.hid (fun X (hX : Below w.heap.size w X) => rsmay_any A n c l s X (hl.below hX) hts)
  have HTU := Lib.hid (show ∀ X : World, Calls Try.prog 37 #[.int .i64 4] X fun e w' => e = .returned (.bool (turnsB 4)) ∧ X = w' from fun X => (rturns_any 4 X).mono fun _ _ h => ⟨h.1, h.2.symm⟩)
  rw [hm] at HMY
  rw [show turnsB 4 = true from rfl] at HTU
  have hms := mayS_iff.1 hm
  have hpl0 := hms.p0
  have hpl1 : s.pl < n := by have := hms.p1; rw [hl.len] at this; exact this
  obtain ⟨j, hj⟩ := Int.eq_ofNat_of_zero_le hpl0
  have hjn : j < n := by omega
  obtain ⟨b, off, q, rfl, hq, hmem, -, -, -⟩ := hl.at_ j hjn
  have hqa : planAt l s.pl = q := by rw [hj, planAt, Int.toNat_natCast, hq]
  have hfit := all_fit hms.all hmem
  have HPC := Lib.hid (show ∀ X, Below w.heap.size w X → X.cell? ⟨b, off + j * 5, none⟩ = some (.slice q.A q.n q.c) ∧ X.cell? ⟨b, off + j * 5 + 1, none⟩ = some (.slice q.B q.k q.d) ∧ X.cell? ⟨b, off + j * 5 + 2, none⟩ = some (.int .i64 q.am) ∧ X.cell? ⟨b, off + j * 5 + 3, none⟩ = some (.int .i64 q.rd) ∧ X.cell? ⟨b, off + j * 5 + 4, none⟩ = some (.int .i64 q.hd) from fun X hX => by
    obtain ⟨b2, off2, p2, hA2, hp2, -, -, -, z0, z1, z2, z3, z4⟩ := (hl.below hX).at_ j hjn
    cases hA2
    obtain rfl := hq.symm.trans hp2
    exact ⟨z0, z1, z2, z3, z4⟩)
  have hqk : q.s.length = q.k := (hl.pl q hmem).s.len
  have hqs := (hl.pl q hmem).s.small
  have hll := hl.len
  have hheld := hms.held
  rw [hqa] at hheld
  have hhd2 := (fit_iff.1 hfit).hd2
  have hw1 : wrap64 (q.hd - s.hl) = q.hd - s.hl := by have := hheld.h1; have := hheld.h2; unfold wrap64; omega
  have HR := Lib.hid (show doS l s 4 a = (s, 1) by rw [doS, if_pos ⟨hm, rfl⟩, askS, if_neg (by decide), if_neg (by decide), if_pos rfl, if_pos (.inr hb)])
  obtain ⟨G, hG⟩ : ∃ G, doS l s 4 a = G := ⟨_, rfl⟩
  rw [hG] at HR ⊢
  obtain ⟨P, hP⟩ : ∃ P, (s.ph == 0) = P := ⟨_, rfl⟩
  have ha1 : (n : Int) ≤ a := by rw [hll] at hb; exact hb
  simp only [sgV] at HMY ⊢
  clear hG hm hl hms hqa hmem hq hfit hheld hhd2 hqk hll hb
  obtain ⟨pl, st, nx, ph, t, hd, hh', ak, wt, sp⟩ := s
  try simp only at *
  subst hj
  go_enter Try.func13, Try.ntmps13
  go_wp2_with (first
    | (go_at_call 36
       (with_reducible refine (HMY.out _ (below_alloc2 _ _ _)).mono ?_)
       rintro e w1 ⟨rfl, hb1⟩
       have hs1 := (hb1.block w.heap.size (by simp; omega)).trans (alloc2_old w (.cells #[.int .i64 (j : Int), .int .i64 st, .int .i64 nx, .int .i64 ph, .int .i64 t, .int .i64 hd, .int .i64 hh', .int .i64 ak, .int .i64 wt, .bool sp] 24) (.cells #[.int .i64 0, .int .i64 0, .int .i64 0, .int .i64 0, .int .i64 0, .int .i64 0, .int .i64 0, .int .i64 0, .int .i64 0, .bool false] 24))
       have hr1 := (hb1.block (w.heap.size + 1) (by simp)).trans (alloc2_new w (.cells #[.int .i64 (j : Int), .int .i64 st, .int .i64 nx, .int .i64 ph, .int .i64 t, .int .i64 hd, .int .i64 hh', .int .i64 ak, .int .i64 wt, .bool sp] 24) (.cells #[.int .i64 0, .int .i64 0, .int .i64 0, .int .i64 0, .int .i64 0, .int .i64 0, .int .i64 0, .int .i64 0, .int .i64 0, .bool false] 24))
       have hn1 : w.heap.size + 1 < w1.heap.size := Nat.lt_of_lt_of_le (by simp) hb1.size
       have HB1 := Lib.hid ((below_alloc2 w (.cells #[.int .i64 (j : Int), .int .i64 st, .int .i64 nx, .int .i64 ph, .int .i64 t, .int .i64 hd, .int .i64 hh', .int .i64 ak, .int .i64 wt, .bool sp] 24) (.cells #[.int .i64 0, .int .i64 0, .int .i64 0, .int .i64 0, .int .i64 0, .int .i64 0, .int .i64 0, .int .i64 0, .int .i64 0, .bool false] 24)).trans (hb1.mono (by simp; omega)))
       obtain ⟨c0, c1, c2, c3, c4, c5, c6, c7, c8, c9⟩ := (show BoxG w1 w.heap.size ⟨(j : Int), st, nx, ph, t, hd, hh', ak, wt, sp⟩ from hs1).cells
       simp only at c0 c1 c2 c3 c4 c5 c6 c7 c8 c9
       obtain ⟨p0, p1, p2, p3, p4⟩ := HPC.out w1 HB1.out
       have hbp := one_alloc w1 (.cells #[.slice q.A q.n q.c, .slice q.B q.k q.d, .int .i64 q.am, .int .i64 q.rd, .int .i64 q.hd] 47)
       have hs2 := (hbp.block w.heap.size (by omega)).trans hs1
       obtain ⟨d0, d1, d2, d3, d4, d5, d6, d7, d8, d9⟩ := (show BoxG (w1.alloc (.cells #[.slice q.A q.n q.c, .slice q.B q.k q.d, .int .i64 q.am, .int .i64 q.rd, .int .i64 q.hd] 47)) w.heap.size ⟨(j : Int), st, nx, ph, t, hd, hh', ak, wt, sp⟩ from hs2).cells
       simp only at d0 d1 d2 d3 d4 d5 d6 d7 d8 d9
       have hp2 := heap_alloc_new w1 (.cells #[.slice q.A q.n q.c, .slice q.B q.k q.d, .int .i64 q.am, .int .i64 q.rd, .int .i64 q.hd] 47)
       obtain ⟨r0, r1, r2, r3, r4⟩ := (show BoxP (w1.alloc (.cells #[.slice q.A q.n q.c, .slice q.B q.k q.d, .int .i64 q.am, .int .i64 q.rd, .int .i64 q.hd] 47)) w1.heap.size q from hp2).cells
       have hbt := below_alloc2 w1 (.cells #[.slice q.A q.n q.c, .slice q.B q.k q.d, .int .i64 q.am, .int .i64 q.rd, .int .i64 q.hd] 47) (.cells #[.int .i64 (j : Int), .int .i64 st, .int .i64 nx, .int .i64 ph, .int .i64 t, .int .i64 hd, .int .i64 hh', .int .i64 ak, .int .i64 wt, .bool sp] 24)
       have hs3 := (hbt.block w.heap.size (by omega)).trans hs1
       have hr3 := (hbt.block (w.heap.size + 1) (by omega)).trans hr1
       have hp3 := alloc2_old w1 (.cells #[.slice q.A q.n q.c, .slice q.B q.k q.d, .int .i64 q.am, .int .i64 q.rd, .int .i64 q.hd] 47) (.cells #[.int .i64 (j : Int), .int .i64 st, .int .i64 nx, .int .i64 ph, .int .i64 t, .int .i64 hd, .int .i64 hh', .int .i64 ak, .int .i64 wt, .bool sp] 24)
       have ht3 := alloc2_new w1 (.cells #[.slice q.A q.n q.c, .slice q.B q.k q.d, .int .i64 q.am, .int .i64 q.rd, .int .i64 q.hd] 47) (.cells #[.int .i64 (j : Int), .int .i64 st, .int .i64 nx, .int .i64 ph, .int .i64 t, .int .i64 hd, .int .i64 hh', .int .i64 ak, .int .i64 wt, .bool sp] 24)
       have hn3 : w1.heap.size + 1 < ((w1.alloc (.cells #[.slice q.A q.n q.c, .slice q.B q.k q.d, .int .i64 q.am, .int .i64 q.rd, .int .i64 q.hd] 47)).alloc (.cells #[.int .i64 (j : Int), .int .i64 st, .int .i64 nx, .int .i64 ph, .int .i64 t, .int .i64 hd, .int .i64 hh', .int .i64 ak, .int .i64 wt, .bool sp] 24)).heap.size := by simp
       have hm3 : w.heap.size + 1 < ((w1.alloc (.cells #[.slice q.A q.n q.c, .slice q.B q.k q.d, .int .i64 q.am, .int .i64 q.rd, .int .i64 q.hd] 47)).alloc (.cells #[.int .i64 (j : Int), .int .i64 st, .int .i64 nx, .int .i64 ph, .int .i64 t, .int .i64 hd, .int .i64 hh', .int .i64 ak, .int .i64 wt, .bool sp] 24)).heap.size := Nat.lt_trans hn1 (by simp; omega)
       have HB3 := Lib.hid (HB1.out.trans (hbt.mono HB1.out.size))
       obtain ⟨e0, e1, e2, e3, e4, e5, e6, e7, e8, e9⟩ := (show BoxG ((w1.alloc (.cells #[.slice q.A q.n q.c, .slice q.B q.k q.d, .int .i64 q.am, .int .i64 q.rd, .int .i64 q.hd] 47)).alloc (.cells #[.int .i64 (j : Int), .int .i64 st, .int .i64 nx, .int .i64 ph, .int .i64 t, .int .i64 hd, .int .i64 hh', .int .i64 ak, .int .i64 wt, .bool sp] 24)) w.heap.size ⟨(j : Int), st, nx, ph, t, hd, hh', ak, wt, sp⟩ from hs3).cells
       simp only at e0 e1 e2 e3 e4 e5 e6 e7 e8 e9
       obtain ⟨q0, q1, q2, q3, q4⟩ := (show BoxP ((w1.alloc (.cells #[.slice q.A q.n q.c, .slice q.B q.k q.d, .int .i64 q.am, .int .i64 q.rd, .int .i64 q.hd] 47)).alloc (.cells #[.int .i64 (j : Int), .int .i64 st, .int .i64 nx, .int .i64 ph, .int .i64 t, .int .i64 hd, .int .i64 hh', .int .i64 ak, .int .i64 wt, .bool sp] 24)) w1.heap.size q from hp3).cells
       clear hbp hbt hs2 hp2
       clear hb1)
    | (go_at_call 37
       (with_reducible refine (HTU.out _).mono ?_)
       rintro e w2 ⟨rfl, rfl⟩)
    | ((with_reducible refine wpList_store_part rfl 24 _ _ rfl (w.heap.size + 1) 0 (.agg #[.int .i64 (j : Int), .int .i64 st, .int .i64 nx, .int .i64 ph, .int .i64 t, .int .i64 hd, .int .i64 hh', .int .i64 ak, .int .i64 wt, .bool sp]) #[.int .i64 (j : Int), .int .i64 st, .int .i64 nx, .int .i64 ph, .int .i64 t, .int .i64 hd, .int .i64 hh', .int .i64 ak, .int .i64 wt, .bool sp] ?hx9 ?hy9 ?hv9 24 #[.int .i64 0, .int .i64 0, .int .i64 0, .int .i64 0, .int .i64 0, .int .i64 0, .int .i64 0, .int .i64 0, .int .i64 0, .bool false] #[.int .i64 (j : Int), .int .i64 st, .int .i64 nx, .int .i64 ph, .int .i64 t, .int .i64 hd, .int .i64 hh', .int .i64 ak, .int .i64 wt, .bool sp] hr3 ?hi9 ?hl9 ?ho9 ?hn9 ?_); (case hx9 => rfl); (case hy9 => first | rfl | exact congrArg (Value.int IntKind.i64) v1); (case hv9 => rfl); (case hi9 => first | exact info_one _ | exact info_sig); (case hl9 => simp); (case ho9 => first | exact one_int _ | exact one_sig _ _ _ _ _ _ _ _ _ _); (case hn9 => rfl)
       intro w9 hg9 hr9 hz9
       have HB9 := Lib.hid (Below.grows HB3.out hg9 HB3.out.size (by omega))
       have hn9 : w.heap.size + 1 < w9.heap.size := by omega
       clear hg9))
  all_goals
   refine bodyPost_ret (v := .tuple #[.agg #[.int .i64 (j : Int), .int .i64 st, .int .i64 nx, .int .i64 ph, .int .i64 t, .int .i64 hd, .int .i64 hh', .int .i64 ak, .int .i64 wt, .bool sp], .int .i64 1]) ?_ rfl ⟨by rw [HR.out]; rfl, HB9.out⟩
   exact results_blk_val Try.results13 _ _ _ (w.heap.size + 1) 24 #[.int .i64 (j : Int), .int .i64 st, .int .i64 nx, .int .i64 ph, .int .i64 t, .int .i64 hd, .int .i64 hh', .int .i64 ak, .int .i64 wt, .bool sp] (0, 0) _ rfl hr9 Try.underlying24 rfl info_sig _ rfl
set_option maxHeartbeats 8000000 in
theorem rdo_plan_sp (A : Option Addr) (n c : Nat) (l : List Pl) (s : Sg) (k a : Int) (w : World) (hl : Pls w A n c l) (hts : SmG s) (hm : mayS l s = true) (hk : k = 4) (ha : ¬ a < 0) (hb : ¬ (l.length : Int) ≤ a) (hs : s.sp = true) : Calls Try.prog 13 #[.slice A n c, sgV s, .int .i64 k, .int .i64 a] w (GivesGE (doS l s k a) w) := by
  subst hk
  have hsm := hl.small
  have HMY := Lib.hid (fun X (hX : Below w.heap.size w X) => rsmay_any A n c l s X (hl.below hX) hts)
  have HTU := Lib.hid (show ∀ X : World, Calls Try.prog 37 #[.int .i64 4] X fun e w' => e = .returned (.bool (turnsB 4)) ∧ X = w' from fun X => (rturns_any 4 X).mono fun _ _ h => ⟨h.1, h.2.symm⟩)
  rw [hm] at HMY
  rw [show turnsB 4 = true from rfl] at HTU
  have hms := mayS_iff.1 hm
  have hpl0 := hms.p0
  have hpl1 : s.pl < n := by have := hms.p1; rw [hl.len] at this; exact this
  obtain ⟨j, hj⟩ := Int.eq_ofNat_of_zero_le hpl0
  have hjn : j < n := by omega
  obtain ⟨b, off, q, rfl, hq, hmem, -, -, -⟩ := hl.at_ j hjn
  have hqa : planAt l s.pl = q := by rw [hj, planAt, Int.toNat_natCast, hq]
  have hfit := all_fit hms.all hmem
  have HPC := Lib.hid (show ∀ X, Below w.heap.size w X → X.cell? ⟨b, off + j * 5, none⟩ = some (.slice q.A q.n q.c) ∧ X.cell? ⟨b, off + j * 5 + 1, none⟩ = some (.slice q.B q.k q.d) ∧ X.cell? ⟨b, off + j * 5 + 2, none⟩ = some (.int .i64 q.am) ∧ X.cell? ⟨b, off + j * 5 + 3, none⟩ = some (.int .i64 q.rd) ∧ X.cell? ⟨b, off + j * 5 + 4, none⟩ = some (.int .i64 q.hd) from fun X hX => by
    obtain ⟨b2, off2, p2, hA2, hp2, -, -, -, z0, z1, z2, z3, z4⟩ := (hl.below hX).at_ j hjn
    cases hA2
    obtain rfl := hq.symm.trans hp2
    exact ⟨z0, z1, z2, z3, z4⟩)
  have hqk : q.s.length = q.k := (hl.pl q hmem).s.len
  have hqs := (hl.pl q hmem).s.small
  have hll := hl.len
  have hheld := hms.held
  rw [hqa] at hheld
  have hhd2 := (fit_iff.1 hfit).hd2
  have hw1 : wrap64 (q.hd - s.hl) = q.hd - s.hl := by have := hheld.h1; have := hheld.h2; unfold wrap64; omega
  have HR := Lib.hid (show doS l s 4 a = (s, 11) by rw [doS, if_pos ⟨hm, rfl⟩, askS, if_neg (by decide), if_neg (by decide), if_pos rfl, if_neg (fun h => h.elim ha hb), if_pos (.inl hs)])
  obtain ⟨G, hG⟩ : ∃ G, doS l s 4 a = G := ⟨_, rfl⟩
  rw [hG] at HR ⊢
  obtain ⟨P, hP⟩ : ∃ P, (s.ph == 0) = P := ⟨_, rfl⟩
  have ha1 : ¬ ((n : Int) ≤ a) := by rw [hll] at hb; exact hb
  simp only [sgV] at HMY ⊢
  clear hG hm hl hms hqa hmem hq hfit hheld hhd2 hqk hll hb
  obtain ⟨pl, st, nx, ph, t, hd, hh', ak, wt, sp⟩ := s
  try simp only at *
  subst hj
  subst hs
  go_enter Try.func13, Try.ntmps13
  go_wp2_with (first
    | (go_at_call 36
       (with_reducible refine (HMY.out _ (below_alloc2 _ _ _)).mono ?_)
       rintro e w1 ⟨rfl, hb1⟩
       have hs1 := (hb1.block w.heap.size (by simp; omega)).trans (alloc2_old w (.cells #[.int .i64 (j : Int), .int .i64 st, .int .i64 nx, .int .i64 ph, .int .i64 t, .int .i64 hd, .int .i64 hh', .int .i64 ak, .int .i64 wt, .bool true] 24) (.cells #[.int .i64 0, .int .i64 0, .int .i64 0, .int .i64 0, .int .i64 0, .int .i64 0, .int .i64 0, .int .i64 0, .int .i64 0, .bool false] 24))
       have hr1 := (hb1.block (w.heap.size + 1) (by simp)).trans (alloc2_new w (.cells #[.int .i64 (j : Int), .int .i64 st, .int .i64 nx, .int .i64 ph, .int .i64 t, .int .i64 hd, .int .i64 hh', .int .i64 ak, .int .i64 wt, .bool true] 24) (.cells #[.int .i64 0, .int .i64 0, .int .i64 0, .int .i64 0, .int .i64 0, .int .i64 0, .int .i64 0, .int .i64 0, .int .i64 0, .bool false] 24))
       have hn1 : w.heap.size + 1 < w1.heap.size := Nat.lt_of_lt_of_le (by simp) hb1.size
       have HB1 := Lib.hid ((below_alloc2 w (.cells #[.int .i64 (j : Int), .int .i64 st, .int .i64 nx, .int .i64 ph, .int .i64 t, .int .i64 hd, .int .i64 hh', .int .i64 ak, .int .i64 wt, .bool true] 24) (.cells #[.int .i64 0, .int .i64 0, .int .i64 0, .int .i64 0, .int .i64 0, .int .i64 0, .int .i64 0, .int .i64 0, .int .i64 0, .bool false] 24)).trans (hb1.mono (by simp; omega)))
       obtain ⟨c0, c1, c2, c3, c4, c5, c6, c7, c8, c9⟩ := (show BoxG w1 w.heap.size ⟨(j : Int), st, nx, ph, t, hd, hh', ak, wt, true⟩ from hs1).cells
       simp only at c0 c1 c2 c3 c4 c5 c6 c7 c8 c9
       obtain ⟨p0, p1, p2, p3, p4⟩ := HPC.out w1 HB1.out
       have hbp := one_alloc w1 (.cells #[.slice q.A q.n q.c, .slice q.B q.k q.d, .int .i64 q.am, .int .i64 q.rd, .int .i64 q.hd] 47)
       have hs2 := (hbp.block w.heap.size (by omega)).trans hs1
       obtain ⟨d0, d1, d2, d3, d4, d5, d6, d7, d8, d9⟩ := (show BoxG (w1.alloc (.cells #[.slice q.A q.n q.c, .slice q.B q.k q.d, .int .i64 q.am, .int .i64 q.rd, .int .i64 q.hd] 47)) w.heap.size ⟨(j : Int), st, nx, ph, t, hd, hh', ak, wt, true⟩ from hs2).cells
       simp only at d0 d1 d2 d3 d4 d5 d6 d7 d8 d9
       have hp2 := heap_alloc_new w1 (.cells #[.slice q.A q.n q.c, .slice q.B q.k q.d, .int .i64 q.am, .int .i64 q.rd, .int .i64 q.hd] 47)
       obtain ⟨r0, r1, r2, r3, r4⟩ := (show BoxP (w1.alloc (.cells #[.slice q.A q.n q.c, .slice q.B q.k q.d, .int .i64 q.am, .int .i64 q.rd, .int .i64 q.hd] 47)) w1.heap.size q from hp2).cells
       have hbt := below_alloc2 w1 (.cells #[.slice q.A q.n q.c, .slice q.B q.k q.d, .int .i64 q.am, .int .i64 q.rd, .int .i64 q.hd] 47) (.cells #[.int .i64 (j : Int), .int .i64 st, .int .i64 nx, .int .i64 ph, .int .i64 t, .int .i64 hd, .int .i64 hh', .int .i64 ak, .int .i64 wt, .bool true] 24)
       have hs3 := (hbt.block w.heap.size (by omega)).trans hs1
       have hr3 := (hbt.block (w.heap.size + 1) (by omega)).trans hr1
       have hp3 := alloc2_old w1 (.cells #[.slice q.A q.n q.c, .slice q.B q.k q.d, .int .i64 q.am, .int .i64 q.rd, .int .i64 q.hd] 47) (.cells #[.int .i64 (j : Int), .int .i64 st, .int .i64 nx, .int .i64 ph, .int .i64 t, .int .i64 hd, .int .i64 hh', .int .i64 ak, .int .i64 wt, .bool true] 24)
       have ht3 := alloc2_new w1 (.cells #[.slice q.A q.n q.c, .slice q.B q.k q.d, .int .i64 q.am, .int .i64 q.rd, .int .i64 q.hd] 47) (.cells #[.int .i64 (j : Int), .int .i64 st, .int .i64 nx, .int .i64 ph, .int .i64 t, .int .i64 hd, .int .i64 hh', .int .i64 ak, .int .i64 wt, .bool true] 24)
       have hn3 : w1.heap.size + 1 < ((w1.alloc (.cells #[.slice q.A q.n q.c, .slice q.B q.k q.d, .int .i64 q.am, .int .i64 q.rd, .int .i64 q.hd] 47)).alloc (.cells #[.int .i64 (j : Int), .int .i64 st, .int .i64 nx, .int .i64 ph, .int .i64 t, .int .i64 hd, .int .i64 hh', .int .i64 ak, .int .i64 wt, .bool true] 24)).heap.size := by simp
       have hm3 : w.heap.size + 1 < ((w1.alloc (.cells #[.slice q.A q.n q.c, .slice q.B q.k q.d, .int .i64 q.am, .int .i64 q.rd, .int .i64 q.hd] 47)).alloc (.cells #[.int .i64 (j : Int), .int .i64 st, .int .i64 nx, .int .i64 ph, .int .i64 t, .int .i64 hd, .int .i64 hh', .int .i64 ak, .int .i64 wt, .bool true] 24)).heap.size := Nat.lt_trans hn1 (by simp; omega)
       have HB3 := Lib.hid (HB1.out.trans (hbt.mono HB1.out.size))
       obtain ⟨e0, e1, e2, e3, e4, e5, e6, e7, e8, e9⟩ := (show BoxG ((w1.alloc (.cells #[.slice q.A q.n q.c, .slice q.B q.k q.d, .int .i64 q.am, .int .i64 q.rd, .int .i64 q.hd] 47)).alloc (.cells #[.int .i64 (j : Int), .int .i64 st, .int .i64 nx, .int .i64 ph, .int .i64 t, .int .i64 hd, .int .i64 hh', .int .i64 ak, .int .i64 wt, .bool true] 24)) w.heap.size ⟨(j : Int), st, nx, ph, t, hd, hh', ak, wt, true⟩ from hs3).cells
       simp only at e0 e1 e2 e3 e4 e5 e6 e7 e8 e9
       obtain ⟨q0, q1, q2, q3, q4⟩ := (show BoxP ((w1.alloc (.cells #[.slice q.A q.n q.c, .slice q.B q.k q.d, .int .i64 q.am, .int .i64 q.rd, .int .i64 q.hd] 47)).alloc (.cells #[.int .i64 (j : Int), .int .i64 st, .int .i64 nx, .int .i64 ph, .int .i64 t, .int .i64 hd, .int .i64 hh', .int .i64 ak, .int .i64 wt, .bool true] 24)) w1.heap.size q from hp3).cells
       clear hbp hbt hs2 hp2
       clear hb1)
    | (go_at_call 37
       (with_reducible refine (HTU.out _).mono ?_)
       rintro e w2 ⟨rfl, rfl⟩)
    | ((with_reducible refine wpList_store_part rfl 24 _ _ rfl (w.heap.size + 1) 0 (.agg #[.int .i64 (j : Int), .int .i64 st, .int .i64 nx, .int .i64 ph, .int .i64 t, .int .i64 hd, .int .i64 hh', .int .i64 ak, .int .i64 wt, .bool true]) #[.int .i64 (j : Int), .int .i64 st, .int .i64 nx, .int .i64 ph, .int .i64 t, .int .i64 hd, .int .i64 hh', .int .i64 ak, .int .i64 wt, .bool true] ?hx9 ?hy9 ?hv9 24 #[.int .i64 0, .int .i64 0, .int .i64 0, .int .i64 0, .int .i64 0, .int .i64 0, .int .i64 0, .int .i64 0, .int .i64 0, .bool false] #[.int .i64 (j : Int), .int .i64 st, .int .i64 nx, .int .i64 ph, .int .i64 t, .int .i64 hd, .int .i64 hh', .int .i64 ak, .int .i64 wt, .bool true] hr3 ?hi9 ?hl9 ?ho9 ?hn9 ?_); (case hx9 => rfl); (case hy9 => first | rfl | exact congrArg (Value.int IntKind.i64) v1); (case hv9 => rfl); (case hi9 => first | exact info_one _ | exact info_sig); (case hl9 => simp); (case ho9 => first | exact one_int _ | exact one_sig _ _ _ _ _ _ _ _ _ _); (case hn9 => rfl)
       intro w9 hg9 hr9 hz9
       have HB9 := Lib.hid (Below.grows HB3.out hg9 HB3.out.size (by omega))
       have hn9 : w.heap.size + 1 < w9.heap.size := by omega
       clear hg9))
  all_goals
   refine bodyPost_ret (v := .tuple #[.agg #[.int .i64 (j : Int), .int .i64 st, .int .i64 nx, .int .i64 ph, .int .i64 t, .int .i64 hd, .int .i64 hh', .int .i64 ak, .int .i64 wt, .bool true], .int .i64 11]) ?_ rfl ⟨by rw [HR.out]; rfl, HB9.out⟩
   exact results_blk_val Try.results13 _ _ _ (w.heap.size + 1) 24 #[.int .i64 (j : Int), .int .i64 st, .int .i64 nx, .int .i64 ph, .int .i64 t, .int .i64 hd, .int .i64 hh', .int .i64 ak, .int .i64 wt, .bool true] (0, 0) _ rfl hr9 Try.underlying24 rfl info_sig _ rfl
set_option maxHeartbeats 8000000 in
theorem rdo_plan_pl (A : Option Addr) (n c : Nat) (l : List Pl) (s : Sg) (k a : Int) (w : World) (hl : Pls w A n c l) (hts : SmG s) (hm : mayS l s = true) (hk : k = 4) (ha : ¬ a < 0) (hb : ¬ (l.length : Int) ≤ a) (hs : s.sp = false) (hx : a = s.pl) : Calls Try.prog 13 #[.slice A n c, sgV s, .int .i64 k, .int .i64 a] w (GivesGE (doS l s k a) w) := by
  subst hk
  have hsm := hl.small
  have HMY := Lib.hid (fun X (hX : Below w.heap.size w X) => rsmay_any A n c l s X (hl.below hX) hts)
  have HTU := Lib.hid (show ∀ X : World, Calls Try.prog 37 #[.int .i64 4] X fun e w' => e = .returned (.bool (turnsB 4)) ∧ X = w' from fun X => (rturns_any 4 X).mono fun _ _ h => ⟨h.1, h.2.symm⟩)
  rw [hm] at HMY
  rw [show turnsB 4 = true from rfl] at HTU
  have hms := mayS_iff.1 hm
  have hpl0 := hms.p0
  have hpl1 : s.pl < n := by have := hms.p1; rw [hl.len] at this; exact this
  obtain ⟨j, hj⟩ := Int.eq_ofNat_of_zero_le hpl0
  have hjn : j < n := by omega
  obtain ⟨b, off, q, rfl, hq, hmem, -, -, -⟩ := hl.at_ j hjn
  have hqa : planAt l s.pl = q := by rw [hj, planAt, Int.toNat_natCast, hq]
  have hfit := all_fit hms.all hmem
  have HPC := Lib.hid (show ∀ X, Below w.heap.size w X → X.cell? ⟨b, off + j * 5, none⟩ = some (.slice q.A q.n q.c) ∧ X.cell? ⟨b, off + j * 5 + 1, none⟩ = some (.slice q.B q.k q.d) ∧ X.cell? ⟨b, off + j * 5 + 2, none⟩ = some (.int .i64 q.am) ∧ X.cell? ⟨b, off + j * 5 + 3, none⟩ = some (.int .i64 q.rd) ∧ X.cell? ⟨b, off + j * 5 + 4, none⟩ = some (.int .i64 q.hd) from fun X hX => by
    obtain ⟨b2, off2, p2, hA2, hp2, -, -, -, z0, z1, z2, z3, z4⟩ := (hl.below hX).at_ j hjn
    cases hA2
    obtain rfl := hq.symm.trans hp2
    exact ⟨z0, z1, z2, z3, z4⟩)
  have hqk : q.s.length = q.k := (hl.pl q hmem).s.len
  have hqs := (hl.pl q hmem).s.small
  have hll := hl.len
  have hheld := hms.held
  rw [hqa] at hheld
  have hhd2 := (fit_iff.1 hfit).hd2
  have hw1 : wrap64 (q.hd - s.hl) = q.hd - s.hl := by have := hheld.h1; have := hheld.h2; unfold wrap64; omega
  have HR := Lib.hid (show doS l s 4 a = (s, 11) by rw [doS, if_pos ⟨hm, rfl⟩, askS, if_neg (by decide), if_neg (by decide), if_pos rfl, if_neg (fun h => h.elim ha hb), if_pos (.inr hx)])
  obtain ⟨G, hG⟩ : ∃ G, doS l s 4 a = G := ⟨_, rfl⟩
  rw [hG] at HR ⊢
  obtain ⟨P, hP⟩ : ∃ P, (s.ph == 0) = P := ⟨_, rfl⟩
  have ha1 : ¬ ((n : Int) ≤ a) := by rw [hll] at hb; exact hb
  have hxb : (a == (j : Int)) = true := by rw [hx, hj]; simp
  simp only [sgV] at HMY ⊢
  clear hG hm hl hms hqa hmem hq hfit hheld hhd2 hqk hll hb hx
  obtain ⟨pl, st, nx, ph, t, hd, hh', ak, wt, sp⟩ := s
  try simp only at *
  subst hj
  subst hs
  go_enter Try.func13, Try.ntmps13
  go_wp2_with (first
    | (go_at_call 36
       (with_reducible refine (HMY.out _ (below_alloc2 _ _ _)).mono ?_)
       rintro e w1 ⟨rfl, hb1⟩
       have hs1 := (hb1.block w.heap.size (by simp; omega)).trans (alloc2_old w (.cells #[.int .i64 (j : Int), .int .i64 st, .int .i64 nx, .int .i64 ph, .int .i64 t, .int .i64 hd, .int .i64 hh', .int .i64 ak, .int .i64 wt, .bool false] 24) (.cells #[.int .i64 0, .int .i64 0, .int .i64 0, .int .i64 0, .int .i64 0, .int .i64 0, .int .i64 0, .int .i64 0, .int .i64 0, .bool false] 24))
       have hr1 := (hb1.block (w.heap.size + 1) (by simp)).trans (alloc2_new w (.cells #[.int .i64 (j : Int), .int .i64 st, .int .i64 nx, .int .i64 ph, .int .i64 t, .int .i64 hd, .int .i64 hh', .int .i64 ak, .int .i64 wt, .bool false] 24) (.cells #[.int .i64 0, .int .i64 0, .int .i64 0, .int .i64 0, .int .i64 0, .int .i64 0, .int .i64 0, .int .i64 0, .int .i64 0, .bool false] 24))
       have hn1 : w.heap.size + 1 < w1.heap.size := Nat.lt_of_lt_of_le (by simp) hb1.size
       have HB1 := Lib.hid ((below_alloc2 w (.cells #[.int .i64 (j : Int), .int .i64 st, .int .i64 nx, .int .i64 ph, .int .i64 t, .int .i64 hd, .int .i64 hh', .int .i64 ak, .int .i64 wt, .bool false] 24) (.cells #[.int .i64 0, .int .i64 0, .int .i64 0, .int .i64 0, .int .i64 0, .int .i64 0, .int .i64 0, .int .i64 0, .int .i64 0, .bool false] 24)).trans (hb1.mono (by simp; omega)))
       obtain ⟨c0, c1, c2, c3, c4, c5, c6, c7, c8, c9⟩ := (show BoxG w1 w.heap.size ⟨(j : Int), st, nx, ph, t, hd, hh', ak, wt, false⟩ from hs1).cells
       simp only at c0 c1 c2 c3 c4 c5 c6 c7 c8 c9
       obtain ⟨p0, p1, p2, p3, p4⟩ := HPC.out w1 HB1.out
       have hbp := one_alloc w1 (.cells #[.slice q.A q.n q.c, .slice q.B q.k q.d, .int .i64 q.am, .int .i64 q.rd, .int .i64 q.hd] 47)
       have hs2 := (hbp.block w.heap.size (by omega)).trans hs1
       obtain ⟨d0, d1, d2, d3, d4, d5, d6, d7, d8, d9⟩ := (show BoxG (w1.alloc (.cells #[.slice q.A q.n q.c, .slice q.B q.k q.d, .int .i64 q.am, .int .i64 q.rd, .int .i64 q.hd] 47)) w.heap.size ⟨(j : Int), st, nx, ph, t, hd, hh', ak, wt, false⟩ from hs2).cells
       simp only at d0 d1 d2 d3 d4 d5 d6 d7 d8 d9
       have hp2 := heap_alloc_new w1 (.cells #[.slice q.A q.n q.c, .slice q.B q.k q.d, .int .i64 q.am, .int .i64 q.rd, .int .i64 q.hd] 47)
       obtain ⟨r0, r1, r2, r3, r4⟩ := (show BoxP (w1.alloc (.cells #[.slice q.A q.n q.c, .slice q.B q.k q.d, .int .i64 q.am, .int .i64 q.rd, .int .i64 q.hd] 47)) w1.heap.size q from hp2).cells
       have hbt := below_alloc2 w1 (.cells #[.slice q.A q.n q.c, .slice q.B q.k q.d, .int .i64 q.am, .int .i64 q.rd, .int .i64 q.hd] 47) (.cells #[.int .i64 (j : Int), .int .i64 st, .int .i64 nx, .int .i64 ph, .int .i64 t, .int .i64 hd, .int .i64 hh', .int .i64 ak, .int .i64 wt, .bool false] 24)
       have hs3 := (hbt.block w.heap.size (by omega)).trans hs1
       have hr3 := (hbt.block (w.heap.size + 1) (by omega)).trans hr1
       have hp3 := alloc2_old w1 (.cells #[.slice q.A q.n q.c, .slice q.B q.k q.d, .int .i64 q.am, .int .i64 q.rd, .int .i64 q.hd] 47) (.cells #[.int .i64 (j : Int), .int .i64 st, .int .i64 nx, .int .i64 ph, .int .i64 t, .int .i64 hd, .int .i64 hh', .int .i64 ak, .int .i64 wt, .bool false] 24)
       have ht3 := alloc2_new w1 (.cells #[.slice q.A q.n q.c, .slice q.B q.k q.d, .int .i64 q.am, .int .i64 q.rd, .int .i64 q.hd] 47) (.cells #[.int .i64 (j : Int), .int .i64 st, .int .i64 nx, .int .i64 ph, .int .i64 t, .int .i64 hd, .int .i64 hh', .int .i64 ak, .int .i64 wt, .bool false] 24)
       have hn3 : w1.heap.size + 1 < ((w1.alloc (.cells #[.slice q.A q.n q.c, .slice q.B q.k q.d, .int .i64 q.am, .int .i64 q.rd, .int .i64 q.hd] 47)).alloc (.cells #[.int .i64 (j : Int), .int .i64 st, .int .i64 nx, .int .i64 ph, .int .i64 t, .int .i64 hd, .int .i64 hh', .int .i64 ak, .int .i64 wt, .bool false] 24)).heap.size := by simp
       have hm3 : w.heap.size + 1 < ((w1.alloc (.cells #[.slice q.A q.n q.c, .slice q.B q.k q.d, .int .i64 q.am, .int .i64 q.rd, .int .i64 q.hd] 47)).alloc (.cells #[.int .i64 (j : Int), .int .i64 st, .int .i64 nx, .int .i64 ph, .int .i64 t, .int .i64 hd, .int .i64 hh', .int .i64 ak, .int .i64 wt, .bool false] 24)).heap.size := Nat.lt_trans hn1 (by simp; omega)
       have HB3 := Lib.hid (HB1.out.trans (hbt.mono HB1.out.size))
       obtain ⟨e0, e1, e2, e3, e4, e5, e6, e7, e8, e9⟩ := (show BoxG ((w1.alloc (.cells #[.slice q.A q.n q.c, .slice q.B q.k q.d, .int .i64 q.am, .int .i64 q.rd, .int .i64 q.hd] 47)).alloc (.cells #[.int .i64 (j : Int), .int .i64 st, .int .i64 nx, .int .i64 ph, .int .i64 t, .int .i64 hd, .int .i64 hh', .int .i64 ak, .int .i64 wt, .bool false] 24)) w.heap.size ⟨(j : Int), st, nx, ph, t, hd, hh', ak, wt, false⟩ from hs3).cells
       simp only at e0 e1 e2 e3 e4 e5 e6 e7 e8 e9
       obtain ⟨q0, q1, q2, q3, q4⟩ := (show BoxP ((w1.alloc (.cells #[.slice q.A q.n q.c, .slice q.B q.k q.d, .int .i64 q.am, .int .i64 q.rd, .int .i64 q.hd] 47)).alloc (.cells #[.int .i64 (j : Int), .int .i64 st, .int .i64 nx, .int .i64 ph, .int .i64 t, .int .i64 hd, .int .i64 hh', .int .i64 ak, .int .i64 wt, .bool false] 24)) w1.heap.size q from hp3).cells
       clear hbp hbt hs2 hp2
       clear hb1)
    | (go_at_call 37
       (with_reducible refine (HTU.out _).mono ?_)
       rintro e w2 ⟨rfl, rfl⟩)
    | ((with_reducible refine wpList_store_part rfl 24 _ _ rfl (w.heap.size + 1) 0 (.agg #[.int .i64 (j : Int), .int .i64 st, .int .i64 nx, .int .i64 ph, .int .i64 t, .int .i64 hd, .int .i64 hh', .int .i64 ak, .int .i64 wt, .bool false]) #[.int .i64 (j : Int), .int .i64 st, .int .i64 nx, .int .i64 ph, .int .i64 t, .int .i64 hd, .int .i64 hh', .int .i64 ak, .int .i64 wt, .bool false] ?hx9 ?hy9 ?hv9 24 #[.int .i64 0, .int .i64 0, .int .i64 0, .int .i64 0, .int .i64 0, .int .i64 0, .int .i64 0, .int .i64 0, .int .i64 0, .bool false] #[.int .i64 (j : Int), .int .i64 st, .int .i64 nx, .int .i64 ph, .int .i64 t, .int .i64 hd, .int .i64 hh', .int .i64 ak, .int .i64 wt, .bool false] hr3 ?hi9 ?hl9 ?ho9 ?hn9 ?_); (case hx9 => rfl); (case hy9 => first | rfl | exact congrArg (Value.int IntKind.i64) v1); (case hv9 => rfl); (case hi9 => first | exact info_one _ | exact info_sig); (case hl9 => simp); (case ho9 => first | exact one_int _ | exact one_sig _ _ _ _ _ _ _ _ _ _); (case hn9 => rfl)
       intro w9 hg9 hr9 hz9
       have HB9 := Lib.hid (Below.grows HB3.out hg9 HB3.out.size (by omega))
       have hn9 : w.heap.size + 1 < w9.heap.size := by omega
       clear hg9))
  all_goals
   refine bodyPost_ret (v := .tuple #[.agg #[.int .i64 (j : Int), .int .i64 st, .int .i64 nx, .int .i64 ph, .int .i64 t, .int .i64 hd, .int .i64 hh', .int .i64 ak, .int .i64 wt, .bool false], .int .i64 11]) ?_ rfl ⟨by rw [HR.out]; rfl, HB9.out⟩
   exact results_blk_val Try.results13 _ _ _ (w.heap.size + 1) 24 #[.int .i64 (j : Int), .int .i64 st, .int .i64 nx, .int .i64 ph, .int .i64 t, .int .i64 hd, .int .i64 hh', .int .i64 ak, .int .i64 wt, .bool false] (0, 0) _ rfl hr9 Try.underlying24 rfl info_sig _ rfl
set_option maxHeartbeats 8000000 in
theorem rdo_plan_ok (A : Option Addr) (n c : Nat) (l : List Pl) (s : Sg) (k a : Int) (w : World) (hl : Pls w A n c l) (hts : SmG s) (hm : mayS l s = true) (hk : k = 4) (ha : ¬ a < 0) (hb : ¬ (l.length : Int) ≤ a) (hs : s.sp = false) (hx : a ≠ s.pl) : Calls Try.prog 13 #[.slice A n c, sgV s, .int .i64 k, .int .i64 a] w (GivesGE (doS l s k a) w) := by
  subst hk
  have hsm := hl.small
  have HMY := Lib.hid (fun X (hX : Below w.heap.size w X) => rsmay_any A n c l s X (hl.below hX) hts)
  have HTU := Lib.hid (show ∀ X : World, Calls Try.prog 37 #[.int .i64 4] X fun e w' => e = .returned (.bool (turnsB 4)) ∧ X = w' from fun X => (rturns_any 4 X).mono fun _ _ h => ⟨h.1, h.2.symm⟩)
  rw [hm] at HMY
  rw [show turnsB 4 = true from rfl] at HTU
  have hms := mayS_iff.1 hm
  have hpl0 := hms.p0
  have hpl1 : s.pl < n := by have := hms.p1; rw [hl.len] at this; exact this
  obtain ⟨j, hj⟩ := Int.eq_ofNat_of_zero_le hpl0
  have hjn : j < n := by omega
  obtain ⟨b, off, q, rfl, hq, hmem, -, -, -⟩ := hl.at_ j hjn
  have hqa : planAt l s.pl = q := by rw [hj, planAt, Int.toNat_natCast, hq]
  have hfit := all_fit hms.all hmem
  have HPC := Lib.hid (show ∀ X, Below w.heap.size w X → X.cell? ⟨b, off + j * 5, none⟩ = some (.slice q.A q.n q.c) ∧ X.cell? ⟨b, off + j * 5 + 1, none⟩ = some (.slice q.B q.k q.d) ∧ X.cell? ⟨b, off + j * 5 + 2, none⟩ = some (.int .i64 q.am) ∧ X.cell? ⟨b, off + j * 5 + 3, none⟩ = some (.int .i64 q.rd) ∧ X.cell? ⟨b, off + j * 5 + 4, none⟩ = some (.int .i64 q.hd) from fun X hX => by
    obtain ⟨b2, off2, p2, hA2, hp2, -, -, -, z0, z1, z2, z3, z4⟩ := (hl.below hX).at_ j hjn
    cases hA2
    obtain rfl := hq.symm.trans hp2
    exact ⟨z0, z1, z2, z3, z4⟩)
  have hqk : q.s.length = q.k := (hl.pl q hmem).s.len
  have hqs := (hl.pl q hmem).s.small
  have hll := hl.len
  have hheld := hms.held
  rw [hqa] at hheld
  have hhd2 := (fit_iff.1 hfit).hd2
  have hw1 : wrap64 (q.hd - s.hl) = q.hd - s.hl := by have := hheld.h1; have := hheld.h2; unfold wrap64; omega
  have HR := Lib.hid (show doS l s 4 a = ({ s with wt := a }, 0) by rw [doS, if_pos ⟨hm, rfl⟩, askS, if_neg (by decide), if_neg (by decide), if_pos rfl, if_neg (fun h => h.elim ha hb), if_neg (fun h => h.elim (fun h => by rw [hs] at h; cases h) hx)])
  obtain ⟨G, hG⟩ : ∃ G, doS l s 4 a = G := ⟨_, rfl⟩
  rw [hG] at HR ⊢
  obtain ⟨P, hP⟩ : ∃ P, (s.ph == 0) = P := ⟨_, rfl⟩
  have ha1 : ¬ ((n : Int) ≤ a) := by rw [hll] at hb; exact hb
  have hxb : (a == (j : Int)) = false := by rw [beq_eq_false_iff_ne, ← hj]; exact hx
  simp only [sgV] at HMY ⊢
  clear hG hm hl hms hqa hmem hq hfit hheld hhd2 hqk hll hb hx
  obtain ⟨pl, st, nx, ph, t, hd, hh', ak, wt, sp⟩ := s
  try simp only at *
  subst hj
  subst hs
  go_enter Try.func13, Try.ntmps13
  go_wp2_with (first
    | (go_at_call 36
       (with_reducible refine (HMY.out _ (below_alloc2 _ _ _)).mono ?_)
       rintro e w1 ⟨rfl, hb1⟩
       have hs1 := (hb1.block w.heap.size (by simp; omega)).trans (alloc2_old w (.cells #[.int .i64 (j : Int), .int .i64 st, .int .i64 nx, .int .i64 ph, .int .i64 t, .int .i64 hd, .int .i64 hh', .int .i64 ak, .int .i64 wt, .bool false] 24) (.cells #[.int .i64 0, .int .i64 0, .int .i64 0, .int .i64 0, .int .i64 0, .int .i64 0, .int .i64 0, .int .i64 0, .int .i64 0, .bool false] 24))
       have hr1 := (hb1.block (w.heap.size + 1) (by simp)).trans (alloc2_new w (.cells #[.int .i64 (j : Int), .int .i64 st, .int .i64 nx, .int .i64 ph, .int .i64 t, .int .i64 hd, .int .i64 hh', .int .i64 ak, .int .i64 wt, .bool false] 24) (.cells #[.int .i64 0, .int .i64 0, .int .i64 0, .int .i64 0, .int .i64 0, .int .i64 0, .int .i64 0, .int .i64 0, .int .i64 0, .bool false] 24))
       have hn1 : w.heap.size + 1 < w1.heap.size := Nat.lt_of_lt_of_le (by simp) hb1.size
       have HB1 := Lib.hid ((below_alloc2 w (.cells #[.int .i64 (j : Int), .int .i64 st, .int .i64 nx, .int .i64 ph, .int .i64 t, .int .i64 hd, .int .i64 hh', .int .i64 ak, .int .i64 wt, .bool false] 24) (.cells #[.int .i64 0, .int .i64 0, .int .i64 0, .int .i64 0, .int .i64 0, .int .i64 0, .int .i64 0, .int .i64 0, .int .i64 0, .bool false] 24)).trans (hb1.mono (by simp; omega)))
       obtain ⟨c0, c1, c2, c3, c4, c5, c6, c7, c8, c9⟩ := (show BoxG w1 w.heap.size ⟨(j : Int), st, nx, ph, t, hd, hh', ak, wt, false⟩ from hs1).cells
       simp only at c0 c1 c2 c3 c4 c5 c6 c7 c8 c9
       obtain ⟨p0, p1, p2, p3, p4⟩ := HPC.out w1 HB1.out
       have hbp := one_alloc w1 (.cells #[.slice q.A q.n q.c, .slice q.B q.k q.d, .int .i64 q.am, .int .i64 q.rd, .int .i64 q.hd] 47)
       have hs2 := (hbp.block w.heap.size (by omega)).trans hs1
       obtain ⟨d0, d1, d2, d3, d4, d5, d6, d7, d8, d9⟩ := (show BoxG (w1.alloc (.cells #[.slice q.A q.n q.c, .slice q.B q.k q.d, .int .i64 q.am, .int .i64 q.rd, .int .i64 q.hd] 47)) w.heap.size ⟨(j : Int), st, nx, ph, t, hd, hh', ak, wt, false⟩ from hs2).cells
       simp only at d0 d1 d2 d3 d4 d5 d6 d7 d8 d9
       have hp2 := heap_alloc_new w1 (.cells #[.slice q.A q.n q.c, .slice q.B q.k q.d, .int .i64 q.am, .int .i64 q.rd, .int .i64 q.hd] 47)
       obtain ⟨r0, r1, r2, r3, r4⟩ := (show BoxP (w1.alloc (.cells #[.slice q.A q.n q.c, .slice q.B q.k q.d, .int .i64 q.am, .int .i64 q.rd, .int .i64 q.hd] 47)) w1.heap.size q from hp2).cells
       have hbt := below_alloc2 w1 (.cells #[.slice q.A q.n q.c, .slice q.B q.k q.d, .int .i64 q.am, .int .i64 q.rd, .int .i64 q.hd] 47) (.cells #[.int .i64 (j : Int), .int .i64 st, .int .i64 nx, .int .i64 ph, .int .i64 t, .int .i64 hd, .int .i64 hh', .int .i64 ak, .int .i64 wt, .bool false] 24)
       have hs3 := (hbt.block w.heap.size (by omega)).trans hs1
       have hr3 := (hbt.block (w.heap.size + 1) (by omega)).trans hr1
       have hp3 := alloc2_old w1 (.cells #[.slice q.A q.n q.c, .slice q.B q.k q.d, .int .i64 q.am, .int .i64 q.rd, .int .i64 q.hd] 47) (.cells #[.int .i64 (j : Int), .int .i64 st, .int .i64 nx, .int .i64 ph, .int .i64 t, .int .i64 hd, .int .i64 hh', .int .i64 ak, .int .i64 wt, .bool false] 24)
       have ht3 := alloc2_new w1 (.cells #[.slice q.A q.n q.c, .slice q.B q.k q.d, .int .i64 q.am, .int .i64 q.rd, .int .i64 q.hd] 47) (.cells #[.int .i64 (j : Int), .int .i64 st, .int .i64 nx, .int .i64 ph, .int .i64 t, .int .i64 hd, .int .i64 hh', .int .i64 ak, .int .i64 wt, .bool false] 24)
       have hn3 : w1.heap.size + 1 < ((w1.alloc (.cells #[.slice q.A q.n q.c, .slice q.B q.k q.d, .int .i64 q.am, .int .i64 q.rd, .int .i64 q.hd] 47)).alloc (.cells #[.int .i64 (j : Int), .int .i64 st, .int .i64 nx, .int .i64 ph, .int .i64 t, .int .i64 hd, .int .i64 hh', .int .i64 ak, .int .i64 wt, .bool false] 24)).heap.size := by simp
       have hm3 : w.heap.size + 1 < ((w1.alloc (.cells #[.slice q.A q.n q.c, .slice q.B q.k q.d, .int .i64 q.am, .int .i64 q.rd, .int .i64 q.hd] 47)).alloc (.cells #[.int .i64 (j : Int), .int .i64 st, .int .i64 nx, .int .i64 ph, .int .i64 t, .int .i64 hd, .int .i64 hh', .int .i64 ak, .int .i64 wt, .bool false] 24)).heap.size := Nat.lt_trans hn1 (by simp; omega)
       have HB3 := Lib.hid (HB1.out.trans (hbt.mono HB1.out.size))
       obtain ⟨e0, e1, e2, e3, e4, e5, e6, e7, e8, e9⟩ := (show BoxG ((w1.alloc (.cells #[.slice q.A q.n q.c, .slice q.B q.k q.d, .int .i64 q.am, .int .i64 q.rd, .int .i64 q.hd] 47)).alloc (.cells #[.int .i64 (j : Int), .int .i64 st, .int .i64 nx, .int .i64 ph, .int .i64 t, .int .i64 hd, .int .i64 hh', .int .i64 ak, .int .i64 wt, .bool false] 24)) w.heap.size ⟨(j : Int), st, nx, ph, t, hd, hh', ak, wt, false⟩ from hs3).cells
       simp only at e0 e1 e2 e3 e4 e5 e6 e7 e8 e9
       obtain ⟨q0, q1, q2, q3, q4⟩ := (show BoxP ((w1.alloc (.cells #[.slice q.A q.n q.c, .slice q.B q.k q.d, .int .i64 q.am, .int .i64 q.rd, .int .i64 q.hd] 47)).alloc (.cells #[.int .i64 (j : Int), .int .i64 st, .int .i64 nx, .int .i64 ph, .int .i64 t, .int .i64 hd, .int .i64 hh', .int .i64 ak, .int .i64 wt, .bool false] 24)) w1.heap.size q from hp3).cells
       clear hbp hbt hs2 hp2
       clear hb1)
    | (go_at_call 37
       (with_reducible refine (HTU.out _).mono ?_)
       rintro e w2 ⟨rfl, rfl⟩)
    | ((with_reducible refine wpList_store_part rfl 3 _ _ rfl (w1.heap.size + 1) 8 (.int .i64 a) #[.int .i64 a] ?hx4 ?hy4 ?hv4 24 #[.int .i64 (j : Int), .int .i64 st, .int .i64 nx, .int .i64 ph, .int .i64 t, .int .i64 hd, .int .i64 hh', .int .i64 ak, .int .i64 wt, .bool false] #[.int .i64 (j : Int), .int .i64 st, .int .i64 nx, .int .i64 ph, .int .i64 t, .int .i64 hd, .int .i64 hh', .int .i64 ak, .int .i64 a, .bool false] ht3 ?hi4 ?hl4 ?ho4 ?hn4 ?_); (case hx4 => rfl); (case hy4 => first | rfl | exact congrArg (Value.int IntKind.i64) v1); (case hv4 => rfl); (case hi4 => first | exact info_one _ | exact info_sig); (case hl4 => simp); (case ho4 => first | exact one_int _ | exact one_sig _ _ _ _ _ _ _ _ _ _); (case hn4 => rfl)
       intro w4 hg4 ht4 hz4
       have hr4 := (other_block hg4 (show (w.heap.size + 1) ≠ (w1.heap.size + 1) by omega) (by omega)).trans hr3
       have HB4 := Lib.hid (Below.grows HB3.out hg4 HB3.out.size (by omega))
       have hn4 : w.heap.size + 1 < w4.heap.size := by omega
       obtain ⟨f0, f1, f2, f3, f4, f5, f6, f7, f8, f9⟩ := (show BoxG w4 (w1.heap.size + 1) ⟨(j : Int), st, nx, ph, t, hd, hh', ak, a, false⟩ from ht4).cells
       simp only at f0 f1 f2 f3 f4 f5 f6 f7 f8 f9
       clear hg4)
    | ((with_reducible refine wpList_store_part rfl 24 _ _ rfl (w.heap.size + 1) 0 (.agg #[.int .i64 (j : Int), .int .i64 st, .int .i64 nx, .int .i64 ph, .int .i64 t, .int .i64 hd, .int .i64 hh', .int .i64 ak, .int .i64 a, .bool false]) #[.int .i64 (j : Int), .int .i64 st, .int .i64 nx, .int .i64 ph, .int .i64 t, .int .i64 hd, .int .i64 hh', .int .i64 ak, .int .i64 a, .bool false] ?hx9 ?hy9 ?hv9 24 #[.int .i64 0, .int .i64 0, .int .i64 0, .int .i64 0, .int .i64 0, .int .i64 0, .int .i64 0, .int .i64 0, .int .i64 0, .bool false] #[.int .i64 (j : Int), .int .i64 st, .int .i64 nx, .int .i64 ph, .int .i64 t, .int .i64 hd, .int .i64 hh', .int .i64 ak, .int .i64 a, .bool false] hr4 ?hi9 ?hl9 ?ho9 ?hn9 ?_); (case hx9 => rfl); (case hy9 => first | rfl | exact congrArg (Value.int IntKind.i64) v1); (case hv9 => rfl); (case hi9 => first | exact info_one _ | exact info_sig); (case hl9 => simp); (case ho9 => first | exact one_int _ | exact one_sig _ _ _ _ _ _ _ _ _ _); (case hn9 => rfl)
       intro w9 hg9 hr9 hz9
       have HB9 := Lib.hid (Below.grows HB4.out hg9 HB4.out.size (by omega))
       have hn9 : w.heap.size + 1 < w9.heap.size := by omega
       clear hg9))
  all_goals
   refine bodyPost_ret (v := .tuple #[.agg #[.int .i64 (j : Int), .int .i64 st, .int .i64 nx, .int .i64 ph, .int .i64 t, .int .i64 hd, .int .i64 hh', .int .i64 ak, .int .i64 a, .bool false], .int .i64 0]) ?_ rfl ⟨by rw [HR.out]; rfl, HB9.out⟩
   exact results_blk_val Try.results13 _ _ _ (w.heap.size + 1) 24 #[.int .i64 (j : Int), .int .i64 st, .int .i64 nx, .int .i64 ph, .int .i64 t, .int .i64 hd, .int .i64 hh', .int .i64 ak, .int .i64 a, .bool false] (0, 0) _ rfl hr9 Try.underlying24 rfl info_sig _ rfl
set_option maxHeartbeats 8000000 in
theorem rdo_bare (A : Option Addr) (n c : Nat) (l : List Pl) (s : Sg) (k a : Int) (w : World) (hl : Pls w A n c l) (hts : SmG s) (hm : mayS l s = true) (ht : turnsB k = true) (h1 : k ≠ 1) (h3 : k ≠ 3) (h4 : k ≠ 4) : Calls Try.prog 13 #[.slice A n c, sgV s, .int .i64 k, .int .i64 a] w (GivesGE (doS l s k a) w) := by
  have hsm := hl.small
  have HMY := Lib.hid (fun X (hX : Below w.heap.size w X) => rsmay_any A n c l s X (hl.below hX) hts)
  have HTU := Lib.hid (show ∀ X : World, Calls Try.prog 37 #[.int .i64 k] X fun e w' => e = .returned (.bool (turnsB k)) ∧ X = w' from fun X => (rturns_any k X).mono fun _ _ h => ⟨h.1, h.2.symm⟩)
  rw [hm] at HMY
  rw [ht] at HTU
  have hms := mayS_iff.1 hm
  have hpl0 := hms.p0
  have hpl1 : s.pl < n := by have := hms.p1; rw [hl.len] at this; exact this
  obtain ⟨j, hj⟩ := Int.eq_ofNat_of_zero_le hpl0
  have hjn : j < n := by omega
  obtain ⟨b, off, q, rfl, hq, hmem, -, -, -⟩ := hl.at_ j hjn
  have hqa : planAt l s.pl = q := by rw [hj, planAt, Int.toNat_natCast, hq]
  have hfit := all_fit hms.all hmem
  have HPC := Lib.hid (show ∀ X, Below w.heap.size w X → X.cell? ⟨b, off + j * 5, none⟩ = some (.slice q.A q.n q.c) ∧ X.cell? ⟨b, off + j * 5 + 1, none⟩ = some (.slice q.B q.k q.d) ∧ X.cell? ⟨b, off + j * 5 + 2, none⟩ = some (.int .i64 q.am) ∧ X.cell? ⟨b, off + j * 5 + 3, none⟩ = some (.int .i64 q.rd) ∧ X.cell? ⟨b, off + j * 5 + 4, none⟩ = some (.int .i64 q.hd) from fun X hX => by
    obtain ⟨b2, off2, p2, hA2, hp2, -, -, -, z0, z1, z2, z3, z4⟩ := (hl.below hX).at_ j hjn
    cases hA2
    obtain rfl := hq.symm.trans hp2
    exact ⟨z0, z1, z2, z3, z4⟩)
  have hqk : q.s.length = q.k := (hl.pl q hmem).s.len
  have hqs := (hl.pl q hmem).s.small
  have hll := hl.len
  have hheld := hms.held
  rw [hqa] at hheld
  have hhd2 := (fit_iff.1 hfit).hd2
  have hw1 : wrap64 (q.hd - s.hl) = q.hd - s.hl := by have := hheld.h1; have := hheld.h2; unfold wrap64; omega
  have hk1 : (k == 1) = false := by rw [beq_eq_false_iff_ne]; exact h1
  have hk3 : (k == 3) = false := by rw [beq_eq_false_iff_ne]; exact h3
  have hk4 : (k == 4) = false := by rw [beq_eq_false_iff_ne]; exact h4
  obtain ⟨P, hP⟩ : ∃ P, (s.ph == 0) = P := ⟨_, rfl⟩
  have HR := show doS l s k a = bareS s k a by rw [doS, if_pos ⟨hm, ht⟩, askS, if_neg h1, if_neg h3, if_neg h4]
  have HBR := Lib.hid (fun X => rbare_any s k a X)
  rw [HR]
  obtain ⟨⟨g, er⟩, hG⟩ : ∃ G, bareS s k a = G := ⟨_, rfl⟩
  rw [hG] at HBR ⊢
  simp only [GivesGE, sgV] at HMY HBR ⊢
  clear hG HR hm hl hms hqa hmem hq hfit hheld hhd2 hqk hll h1 h3 h4 ht
  obtain ⟨pl, st, nx, ph, t, hd, hh', ak, wt, sp⟩ := s
  try simp only at *
  subst hj
  go_enter Try.func13, Try.ntmps13
  go_wp2_with (first
    | (go_at_call 36
       (with_reducible refine (HMY.out _ (below_alloc2 _ _ _)).mono ?_)
       rintro e w1 ⟨rfl, hb1⟩
       have hs1 := (hb1.block w.heap.size (by simp; omega)).trans (alloc2_old w (.cells #[.int .i64 (j : Int), .int .i64 st, .int .i64 nx, .int .i64 ph, .int .i64 t, .int .i64 hd, .int .i64 hh', .int .i64 ak, .int .i64 wt, .bool sp] 24) (.cells #[.int .i64 0, .int .i64 0, .int .i64 0, .int .i64 0, .int .i64 0, .int .i64 0, .int .i64 0, .int .i64 0, .int .i64 0, .bool false] 24))
       have hr1 := (hb1.block (w.heap.size + 1) (by simp)).trans (alloc2_new w (.cells #[.int .i64 (j : Int), .int .i64 st, .int .i64 nx, .int .i64 ph, .int .i64 t, .int .i64 hd, .int .i64 hh', .int .i64 ak, .int .i64 wt, .bool sp] 24) (.cells #[.int .i64 0, .int .i64 0, .int .i64 0, .int .i64 0, .int .i64 0, .int .i64 0, .int .i64 0, .int .i64 0, .int .i64 0, .bool false] 24))
       have hn1 : w.heap.size + 1 < w1.heap.size := Nat.lt_of_lt_of_le (by simp) hb1.size
       have HB1 := Lib.hid ((below_alloc2 w (.cells #[.int .i64 (j : Int), .int .i64 st, .int .i64 nx, .int .i64 ph, .int .i64 t, .int .i64 hd, .int .i64 hh', .int .i64 ak, .int .i64 wt, .bool sp] 24) (.cells #[.int .i64 0, .int .i64 0, .int .i64 0, .int .i64 0, .int .i64 0, .int .i64 0, .int .i64 0, .int .i64 0, .int .i64 0, .bool false] 24)).trans (hb1.mono (by simp; omega)))
       obtain ⟨c0, c1, c2, c3, c4, c5, c6, c7, c8, c9⟩ := (show BoxG w1 w.heap.size ⟨(j : Int), st, nx, ph, t, hd, hh', ak, wt, sp⟩ from hs1).cells
       simp only at c0 c1 c2 c3 c4 c5 c6 c7 c8 c9
       obtain ⟨p0, p1, p2, p3, p4⟩ := HPC.out w1 HB1.out
       have hbp := one_alloc w1 (.cells #[.slice q.A q.n q.c, .slice q.B q.k q.d, .int .i64 q.am, .int .i64 q.rd, .int .i64 q.hd] 47)
       have hs2 := (hbp.block w.heap.size (by omega)).trans hs1
       obtain ⟨d0, d1, d2, d3, d4, d5, d6, d7, d8, d9⟩ := (show BoxG (w1.alloc (.cells #[.slice q.A q.n q.c, .slice q.B q.k q.d, .int .i64 q.am, .int .i64 q.rd, .int .i64 q.hd] 47)) w.heap.size ⟨(j : Int), st, nx, ph, t, hd, hh', ak, wt, sp⟩ from hs2).cells
       simp only at d0 d1 d2 d3 d4 d5 d6 d7 d8 d9
       have hp2 := heap_alloc_new w1 (.cells #[.slice q.A q.n q.c, .slice q.B q.k q.d, .int .i64 q.am, .int .i64 q.rd, .int .i64 q.hd] 47)
       obtain ⟨r0, r1, r2, r3, r4⟩ := (show BoxP (w1.alloc (.cells #[.slice q.A q.n q.c, .slice q.B q.k q.d, .int .i64 q.am, .int .i64 q.rd, .int .i64 q.hd] 47)) w1.heap.size q from hp2).cells
       have hbt := below_alloc2 w1 (.cells #[.slice q.A q.n q.c, .slice q.B q.k q.d, .int .i64 q.am, .int .i64 q.rd, .int .i64 q.hd] 47) (.cells #[.int .i64 (j : Int), .int .i64 st, .int .i64 nx, .int .i64 ph, .int .i64 t, .int .i64 hd, .int .i64 hh', .int .i64 ak, .int .i64 wt, .bool sp] 24)
       have hs3 := (hbt.block w.heap.size (by omega)).trans hs1
       have hr3 := (hbt.block (w.heap.size + 1) (by omega)).trans hr1
       have hp3 := alloc2_old w1 (.cells #[.slice q.A q.n q.c, .slice q.B q.k q.d, .int .i64 q.am, .int .i64 q.rd, .int .i64 q.hd] 47) (.cells #[.int .i64 (j : Int), .int .i64 st, .int .i64 nx, .int .i64 ph, .int .i64 t, .int .i64 hd, .int .i64 hh', .int .i64 ak, .int .i64 wt, .bool sp] 24)
       have ht3 := alloc2_new w1 (.cells #[.slice q.A q.n q.c, .slice q.B q.k q.d, .int .i64 q.am, .int .i64 q.rd, .int .i64 q.hd] 47) (.cells #[.int .i64 (j : Int), .int .i64 st, .int .i64 nx, .int .i64 ph, .int .i64 t, .int .i64 hd, .int .i64 hh', .int .i64 ak, .int .i64 wt, .bool sp] 24)
       have hn3 : w1.heap.size + 1 < ((w1.alloc (.cells #[.slice q.A q.n q.c, .slice q.B q.k q.d, .int .i64 q.am, .int .i64 q.rd, .int .i64 q.hd] 47)).alloc (.cells #[.int .i64 (j : Int), .int .i64 st, .int .i64 nx, .int .i64 ph, .int .i64 t, .int .i64 hd, .int .i64 hh', .int .i64 ak, .int .i64 wt, .bool sp] 24)).heap.size := by simp
       have hm3 : w.heap.size + 1 < ((w1.alloc (.cells #[.slice q.A q.n q.c, .slice q.B q.k q.d, .int .i64 q.am, .int .i64 q.rd, .int .i64 q.hd] 47)).alloc (.cells #[.int .i64 (j : Int), .int .i64 st, .int .i64 nx, .int .i64 ph, .int .i64 t, .int .i64 hd, .int .i64 hh', .int .i64 ak, .int .i64 wt, .bool sp] 24)).heap.size := Nat.lt_trans hn1 (by simp; omega)
       have HB3 := Lib.hid (HB1.out.trans (hbt.mono HB1.out.size))
       obtain ⟨e0, e1, e2, e3, e4, e5, e6, e7, e8, e9⟩ := (show BoxG ((w1.alloc (.cells #[.slice q.A q.n q.c, .slice q.B q.k q.d, .int .i64 q.am, .int .i64 q.rd, .int .i64 q.hd] 47)).alloc (.cells #[.int .i64 (j : Int), .int .i64 st, .int .i64 nx, .int .i64 ph, .int .i64 t, .int .i64 hd, .int .i64 hh', .int .i64 ak, .int .i64 wt, .bool sp] 24)) w.heap.size ⟨(j : Int), st, nx, ph, t, hd, hh', ak, wt, sp⟩ from hs3).cells
       simp only at e0 e1 e2 e3 e4 e5 e6 e7 e8 e9
       obtain ⟨q0, q1, q2, q3, q4⟩ := (show BoxP ((w1.alloc (.cells #[.slice q.A q.n q.c, .slice q.B q.k q.d, .int .i64 q.am, .int .i64 q.rd, .int .i64 q.hd] 47)).alloc (.cells #[.int .i64 (j : Int), .int .i64 st, .int .i64 nx, .int .i64 ph, .int .i64 t, .int .i64 hd, .int .i64 hh', .int .i64 ak, .int .i64 wt, .bool sp] 24)) w1.heap.size q from hp3).cells
       clear hbp hbt hs2 hp2
       clear hb1)
    | (go_at_call 37
       (with_reducible refine (HTU.out _).mono ?_)
       rintro e w2 ⟨rfl, rfl⟩)
    | (go_at_call 38
       (with_reducible refine (HBR.out _).mono ?_)
       rintro e w4 ⟨rfl, hb4⟩
       have hr4 := (hb4.block (w.heap.size + 1) (by omega)).trans hr3
       have HB4 := Lib.hid (HB3.out.trans (hb4.mono HB3.out.size))
       have hb5 := one_alloc w4 (.cells #[.int .i64 g.pl, .int .i64 g.st, .int .i64 g.nx, .int .i64 g.ph, .int .i64 g.t, .int .i64 g.hd, .int .i64 g.hl, .int .i64 g.ak, .int .i64 g.wt, .bool g.sp] 24)
       have hn4 : w.heap.size + 1 < w4.heap.size := Nat.lt_of_lt_of_le hm3 hb4.size
       have hr5 := (hb5.block (w.heap.size + 1) hn4).trans hr4
       have hm5 : w.heap.size + 1 < (w4.alloc (.cells #[.int .i64 g.pl, .int .i64 g.st, .int .i64 g.nx, .int .i64 g.ph, .int .i64 g.t, .int .i64 g.hd, .int .i64 g.hl, .int .i64 g.ak, .int .i64 g.wt, .bool g.sp] 24)).heap.size := Nat.lt_of_lt_of_le hn4 hb5.size
       have HB5 := Lib.hid (HB4.out.trans (hb5.mono HB4.out.size))
       clear hb4 hb5
       try simp only [sgV])
    | ((with_reducible refine wpList_store_part rfl 24 _ _ rfl (w.heap.size + 1) 0 (.agg #[.int .i64 g.pl, .int .i64 g.st, .int .i64 g.nx, .int .i64 g.ph, .int .i64 g.t, .int .i64 g.hd, .int .i64 g.hl, .int .i64 g.ak, .int .i64 g.wt, .bool g.sp]) #[.int .i64 g.pl, .int .i64 g.st, .int .i64 g.nx, .int .i64 g.ph, .int .i64 g.t, .int .i64 g.hd, .int .i64 g.hl, .int .i64 g.ak, .int .i64 g.wt, .bool g.sp] ?hx9 ?hy9 ?hv9 24 #[.int .i64 0, .int .i64 0, .int .i64 0, .int .i64 0, .int .i64 0, .int .i64 0, .int .i64 0, .int .i64 0, .int .i64 0, .bool false] #[.int .i64 g.pl, .int .i64 g.st, .int .i64 g.nx, .int .i64 g.ph, .int .i64 g.t, .int .i64 g.hd, .int .i64 g.hl, .int .i64 g.ak, .int .i64 g.wt, .bool g.sp] hr5 ?hi9 ?hl9 ?ho9 ?hn9 ?_); (case hx9 => rfl); (case hy9 => first | rfl | exact congrArg (Value.int IntKind.i64) v1); (case hv9 => rfl); (case hi9 => first | exact info_one _ | exact info_sig); (case hl9 => simp); (case ho9 => first | exact one_int _ | exact one_sig _ _ _ _ _ _ _ _ _ _); (case hn9 => rfl)
       intro w9 hg9 hr9 hz9
       have HB9 := Lib.hid (Below.grows HB5.out hg9 HB5.out.size (by omega))
       have hn9 : w.heap.size + 1 < w9.heap.size := by omega
       clear hg9))
  all_goals
   refine bodyPost_ret (v := .tuple #[.agg #[.int .i64 g.pl, .int .i64 g.st, .int .i64 g.nx, .int .i64 g.ph, .int .i64 g.t, .int .i64 g.hd, .int .i64 g.hl, .int .i64 g.ak, .int .i64 g.wt, .bool g.sp], .int .i64 er]) ?_ rfl ⟨rfl, HB9.out⟩
   exact results_blk_val Try.results13 _ _ _ (w.heap.size + 1) 24 #[.int .i64 g.pl, .int .i64 g.st, .int .i64 g.nx, .int .i64 g.ph, .int .i64 g.t, .int .i64 g.hd, .int .i64 g.hl, .int .i64 g.ak, .int .i64 g.wt, .bool g.sp] (0, 0) _ rfl hr9 Try.underlying24 rfl info_sig _ rfl
end Go.Proofs.Ytgnhmdfajnnkhaa


/- The walk over the document's Do. -/
namespace Go.Proofs.Ytgnhmdfajnnkhaa
set_option maxRecDepth 100000
set_option linter.unusedVariables false
set_option linter.unusedSimpArgs false
open Go.RowKit

theorem rdo_any (A : Option Addr) (n c : Nat) (l : List Pl) (s : Sg) (k a : Int) (w : World) (hl : Pls w A n c l) (hts : SmG s) : Calls Try.prog 13 #[.slice A n c, sgV s, .int .i64 k, .int .i64 a] w (GivesGE (doS l s k a) w) := by
  cases hm : mayS l s
  · exact rdo_nom A n c l s k a w hl hts hm
  cases ht : turnsB k
  · exact rdo_not A n c l s k a w hl hts hm ht
  by_cases h1 : k = 1
  · by_cases ha : a < 1
    · exact rdo_hold_low A n c l s k a w hl hts hm h1 ha
    by_cases hp : s.ph = 0
    rotate_left
    · exact rdo_hold_ph A n c l s k a w hl hts hm h1 ha hp
    cases hs : s.sp
    · by_cases hx : (planAt l s.pl).hd - s.hl < a
      · exact rdo_hold_much A n c l s k a w hl hts hm h1 ha hp hs hx
      · exact rdo_hold_ok A n c l s k a w hl hts hm h1 ha hp hs hx
    · exact rdo_hold_sp A n c l s k a w hl hts hm h1 ha hp hs
  by_cases h3 : k = 3
  · by_cases ha : a < 0
    · exact rdo_next_low A n c l s k a w hl hts hm h3 ha
    by_cases hb : (planAt l s.pl).s.length ≤ a
    · exact rdo_next_much A n c l s k a w hl hts hm h3 ha hb
    by_cases hp : s.ph = 0
    rotate_left
    · exact rdo_next_ph A n c l s k a w hl hts hm h3 ha hb hp
    cases hs : s.sp
    · by_cases hw : s.wt = -1
      · by_cases hx : a = s.st
        · exact rdo_next_st A n c l s k a w hl hts hm h3 ha hb hp hs hw hx
        · exact rdo_next_ok A n c l s k a w hl hts hm h3 ha hb hp hs hw hx
      · exact rdo_next_wt A n c l s k a w hl hts hm h3 ha hb hp hs hw
    · exact rdo_next_sp A n c l s k a w hl hts hm h3 ha hb hp hs
  by_cases h4 : k = 4
  · by_cases ha : a < 0
    · exact rdo_plan_low A n c l s k a w hl hts hm h4 ha
    by_cases hb : (l.length : Int) ≤ a
    · exact rdo_plan_much A n c l s k a w hl hts hm h4 ha hb
    cases hs : s.sp
    · by_cases hx : a = s.pl
      · exact rdo_plan_pl A n c l s k a w hl hts hm h4 ha hb hs hx
      · exact rdo_plan_ok A n c l s k a w hl hts hm h4 ha hb hs hx
    · exact rdo_plan_sp A n c l s k a w hl hts hm h4 ha hb hs
  exact rdo_bare A n c l s k a w hl hts hm ht h1 h3 h4
end Go.Proofs.Ytgnhmdfajnnkhaa

