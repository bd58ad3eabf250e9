/- Joined texts: The document's Do: hold, next. -/
import Derived.Test.YtgnhmdfajnnkhaaSaJG
/- The document's Do: hold, next. -/
namespace Go.Proofs.Ytgnhmdfajnnkhaa
set_option maxRecDepth 100000
set_option linter.unusedVariables false
set_option linter.unusedSimpArgs false
open Go.RowKit

set_option maxHeartbeats 8000000 in
theorem rdo_hold_low (A : Option Addr) (n c : Nat) (l : List Pl) (s : Sg) (k a : Int) (w : World) (hl : Pls w A n c l) (hts : SmG s) (hm : mayS l s = true) (hk : k = 1) (ha : a < 1) : Calls Try.prog 13 #[.slice A n c, sgV s, .int .i64 k, .int .i64 a] w (GivesGE (doS l s k a) w) := by
  subst hk
  have hsm := hl.small
  have HMY := Lib.hid (fun X (hX : Below w.heap.size w X) => rsmay_any A n c l s X (hl.below hX) hts)
  have HTU := Lib.hid (show ∀ X : World, Calls Try.prog 37 #[.int .i64 1] X fun e w' => e = .returned (.bool (turnsB 1)) ∧ X = w' from fun X => (rturns_any 1 X).mono fun _ _ h => ⟨h.1, h.2.symm⟩)
  rw [hm] at HMY
  rw [show turnsB 1 = true from rfl] at HTU
  have hms := mayS_iff.1 hm
  have hpl0 := hms.p0
  have hpl1 : s.pl < n := by have := hms.p1; rw [hl.len] at this; exact this
  obtain ⟨j, hj⟩ := Int.eq_ofNat_of_zero_le hpl0
  have hjn : j < n := by omega
  obtain ⟨b, off, q, rfl, hq, hmem, -, -, -⟩ := hl.at_ j hjn
  have hqa : planAt l s.pl = q := by rw [hj, planAt, Int.toNat_natCast, hq]
  have hfit := all_fit hms.all hmem
  have HPC := Lib.hid (show ∀ X, Below w.heap.size w X → X.cell? ⟨b, off + j * 5, none⟩ = some (.slice q.A q.n q.c) ∧ X.cell? ⟨b, off + j * 5 + 1, none⟩ = some (.slice q.B q.k q.d) ∧ X.cell? ⟨b, off + j * 5 + 2, none⟩ = some (.int .i64 q.am) ∧ X.cell? ⟨b, off + j * 5 + 3, none⟩ = some (.int .i64 q.rd) ∧ X.cell? ⟨b, off + j * 5 + 4, none⟩ = some (.int .i64 q.hd) from fun X hX => by
    obtain ⟨b2, off2, p2, hA2, hp2, -, -, -, z0, z1, z2, z3, z4⟩ := (hl.below hX).at_ j hjn
    cases hA2
    obtain rfl := hq.symm.trans hp2
    exact ⟨z0, z1, z2, z3, z4⟩)
  have hqk : q.s.length = q.k := (hl.pl q hmem).s.len
  have hqs := (hl.pl q hmem).s.small
  have hll := hl.len
  have hheld := hms.held
  rw [hqa] at hheld
  have hhd2 := (fit_iff.1 hfit).hd2
  have hw1 : wrap64 (q.hd - s.hl) = q.hd - s.hl := by have := hheld.h1; have := hheld.h2; unfold wrap64; omega
  have HR := Lib.hid (show doS l s 1 a = (s, 1) by rw [doS, if_pos ⟨hm, rfl⟩, askS, if_pos rfl, if_pos ha])
  obtain ⟨G, hG⟩ : ∃ G, doS l s 1 a = G := ⟨_, rfl⟩
  rw [hG] at HR ⊢
  obtain ⟨P, hP⟩ : ∃ P, (s.ph == 0) = P := ⟨_, rfl⟩
  simp only [sgV] at HMY ⊢
  clear hG hm hl hms hqa hmem hq hfit hheld hhd2 hqk hll 
  obtain ⟨pl, st, nx, ph, t, hd, hh', ak, wt, sp⟩ := s
  try simp only at *
  subst hj
  go_enter Try.func13, Try.ntmps13
  go_wp2_with (first
    | (go_at_call 36
       (with_reducible refine (HMY.out _ (below_alloc2 _ _ _)).mono ?_)
       rintro e w1 ⟨rfl, hb1⟩
       have hs1 := (hb1.block w.heap.size (by simp; omega)).trans (alloc2_old w (.cells #[.int .i64 (j : Int), .int .i64 st, .int .i64 nx, .int .i64 ph, .int .i64 t, .int .i64 hd, .int .i64 hh', .int .i64 ak, .int .i64 wt, .bool sp] 24) (.cells #[.int .i64 0, .int .i64 0, .int .i64 0, .int .i64 0, .int .i64 0, .int .i64 0, .int .i64 0, .int .i64 0, .int .i64 0, .bool false] 24))
       have hr1 := (hb1.block (w.heap.size + 1) (by simp)).trans (alloc2_new w (.cells #[.int .i64 (j : Int), .int .i64 st, .int .i64 nx, .int .i64 ph, .int .i64 t, .int .i64 hd, .int .i64 hh', .int .i64 ak, .int .i64 wt, .bool sp] 24) (.cells #[.int .i64 0, .int .i64 0, .int .i64 0, .int .i64 0, .int .i64 0, .int .i64 0, .int .i64 0, .int .i64 0, .int .i64 0, .bool false] 24))
       have hn1 : w.heap.size + 1 < w1.heap.size := Nat.lt_of_lt_of_le (by simp) hb1.size
       have HB1 := Lib.hid ((below_alloc2 w (.cells #[.int .i64 (j : Int), .int .i64 st, .int .i64 nx, .int .i64 ph, .int .i64 t, .int .i64 hd, .int .i64 hh', .int .i64 ak, .int .i64 wt, .bool sp] 24) (.cells #[.int .i64 0, .int .i64 0, .int .i64 0, .int .i64 0, .int .i64 0, .int .i64 0, .int .i64 0, .int .i64 0, .int .i64 0, .bool false] 24)).trans (hb1.mono (by simp; omega)))
       obtain ⟨c0, c1, c2, c3, c4, c5, c6, c7, c8, c9⟩ := (show BoxG w1 w.heap.size ⟨(j : Int), st, nx, ph, t, hd, hh', ak, wt, sp⟩ from hs1).cells
       simp only at c0 c1 c2 c3 c4 c5 c6 c7 c8 c9
       obtain ⟨p0, p1, p2, p3, p4⟩ := HPC.out w1 HB1.out
       have hbp := one_alloc w1 (.cells #[.slice q.A q.n q.c, .slice q.B q.k q.d, .int .i64 q.am, .int .i64 q.rd, .int .i64 q.hd] 47)
       have hs2 := (hbp.block w.heap.size (by omega)).trans hs1
       obtain ⟨d0, d1, d2, d3, d4, d5, d6, d7, d8, d9⟩ := (show BoxG (w1.alloc (.cells #[.slice q.A q.n q.c, .slice q.B q.k q.d, .int .i64 q.am, .int .i64 q.rd, .int .i64 q.hd] 47)) w.heap.size ⟨(j : Int), st, nx, ph, t, hd, hh', ak, wt, sp⟩ from hs2).cells
       simp only at d0 d1 d2 d3 d4 d5 d6 d7 d8 d9
       have hp2 := heap_alloc_new w1 (.cells #[.slice q.A q.n q.c, .slice q.B q.k q.d, .int .i64 q.am, .int .i64 q.rd, .int .i64 q.hd] 47)
       obtain ⟨r0, r1, r2, r3, r4⟩ := (show BoxP (w1.alloc (.cells #[.slice q.A q.n q.c, .slice q.B q.k q.d, .int .i64 q.am, .int .i64 q.rd, .int .i64 q.hd] 47)) w1.heap.size q from hp2).cells
       have hbt := below_alloc2 w1 (.cells #[.slice q.A q.n q.c, .slice q.B q.k q.d, .int .i64 q.am, .int .i64 q.rd, .int .i64 q.hd] 47) (.cells #[.int .i64 (j : Int), .int .i64 st, .int .i64 nx, .int .i64 ph, .int .i64 t, .int .i64 hd, .int .i64 hh', .int .i64 ak, .int .i64 wt, .bool sp] 24)
       have hs3 := (hbt.block w.heap.size (by omega)).trans hs1
       have hr3 := (hbt.block (w.heap.size + 1) (by omega)).trans hr1
       have hp3 := alloc2_old w1 (.cells #[.slice q.A q.n q.c, .slice q.B q.k q.d, .int .i64 q.am, .int .i64 q.rd, .int .i64 q.hd] 47) (.cells #[.int .i64 (j : Int), .int .i64 st, .int .i64 nx, .int .i64 ph, .int .i64 t, .int .i64 hd, .int .i64 hh', .int .i64 ak, .int .i64 wt, .bool sp] 24)
       have ht3 := alloc2_new w1 (.cells #[.slice q.A q.n q.c, .slice q.B q.k q.d, .int .i64 q.am, .int .i64 q.rd, .int .i64 q.hd] 47) (.cells #[.int .i64 (j : Int), .int .i64 st, .int .i64 nx, .int .i64 ph, .int .i64 t, .int .i64 hd, .int .i64 hh', .int .i64 ak, .int .i64 wt, .bool sp] 24)
       have hn3 : w1.heap.size + 1 < ((w1.alloc (.cells #[.slice q.A q.n q.c, .slice q.B q.k q.d, .int .i64 q.am, .int .i64 q.rd, .int .i64 q.hd] 47)).alloc (.cells #[.int .i64 (j : Int), .int .i64 st, .int .i64 nx, .int .i64 ph, .int .i64 t, .int .i64 hd, .int .i64 hh', .int .i64 ak, .int .i64 wt, .bool sp] 24)).heap.size := by simp
       have hm3 : w.heap.size + 1 < ((w1.alloc (.cells #[.slice q.A q.n q.c, .slice q.B q.k q.d, .int .i64 q.am, .int .i64 q.rd, .int .i64 q.hd] 47)).alloc (.cells #[.int .i64 (j : Int), .int .i64 st, .int .i64 nx, .int .i64 ph, .int .i64 t, .int .i64 hd, .int .i64 hh', .int .i64 ak, .int .i64 wt, .bool sp] 24)).heap.size := Nat.lt_trans hn1 (by simp; omega)
       have HB3 := Lib.hid (HB1.out.trans (hbt.mono HB1.out.size))
       obtain ⟨e0, e1, e2, e3, e4, e5, e6, e7, e8, e9⟩ := (show BoxG ((w1.alloc (.cells #[.slice q.A q.n q.c, .slice q.B q.k q.d, .int .i64 q.am, .int .i64 q.rd, .int .i64 q.hd] 47)).alloc (.cells #[.int .i64 (j : Int), .int .i64 st, .int .i64 nx, .int .i64 ph, .int .i64 t, .int .i64 hd, .int .i64 hh', .int .i64 ak, .int .i64 wt, .bool sp] 24)) w.heap.size ⟨(j : Int), st, nx, ph, t, hd, hh', ak, wt, sp⟩ from hs3).cells
       simp only at e0 e1 e2 e3 e4 e5 e6 e7 e8 e9
       obtain ⟨q0, q1, q2, q3, q4⟩ := (show BoxP ((w1.alloc (.cells #[.slice q.A q.n q.c, .slice q.B q.k q.d, .int .i64 q.am, .int .i64 q.rd, .int .i64 q.hd] 47)).alloc (.cells #[.int .i64 (j : Int), .int .i64 st, .int .i64 nx, .int .i64 ph, .int .i64 t, .int .i64 hd, .int .i64 hh', .int .i64 ak, .int .i64 wt, .bool sp] 24)) w1.heap.size q from hp3).cells
       clear hbp hbt hs2 hp2
       clear hb1)
    | (go_at_call 37
       (with_reducible refine (HTU.out _).mono ?_)
       rintro e w2 ⟨rfl, rfl⟩)
    | ((with_reducible refine wpList_store_part rfl 24 _ _ rfl (w.heap.size + 1) 0 (.agg #[.int .i64 (j : Int), .int .i64 st, .int .i64 nx, .int .i64 ph, .int .i64 t, .int .i64 hd, .int .i64 hh', .int .i64 ak, .int .i64 wt, .bool sp]) #[.int .i64 (j : Int), .int .i64 st, .int .i64 nx, .int .i64 ph, .int .i64 t, .int .i64 hd, .int .i64 hh', .int .i64 ak, .int .i64 wt, .bool sp] ?hx9 ?hy9 ?hv9 24 #[.int .i64 0, .int .i64 0, .int .i64 0, .int .i64 0, .int .i64 0, .int .i64 0, .int .i64 0, .int .i64 0, .int .i64 0, .bool false] #[.int .i64 (j : Int), .int .i64 st, .int .i64 nx, .int .i64 ph, .int .i64 t, .int .i64 hd, .int .i64 hh', .int .i64 ak, .int .i64 wt, .bool sp] hr3 ?hi9 ?hl9 ?ho9 ?hn9 ?_); (case hx9 => rfl); (case hy9 => first | rfl | exact congrArg (Value.int IntKind.i64) v1); (case hv9 => rfl); (case hi9 => first | exact info_one _ | exact info_sig); (case hl9 => simp); (case ho9 => first | exact one_int _ | exact one_sig _ _ _ _ _ _ _ _ _ _); (case hn9 => rfl)
       intro w9 hg9 hr9 hz9
       have HB9 := Lib.hid (Below.grows HB3.out hg9 HB3.out.size (by omega))
       have hn9 : w.heap.size + 1 < w9.heap.size := by omega
       clear hg9))
  all_goals
   refine bodyPost_ret (v := .tuple #[.agg #[.int .i64 (j : Int), .int .i64 st, .int .i64 nx, .int .i64 ph, .int .i64 t, .int .i64 hd, .int .i64 hh', .int .i64 ak, .int .i64 wt, .bool sp], .int .i64 1]) ?_ rfl ⟨by rw [HR.out]; rfl, HB9.out⟩
   exact results_blk_val Try.results13 _ _ _ (w.heap.size + 1) 24 #[.int .i64 (j : Int), .int .i64 st, .int .i64 nx, .int .i64 ph, .int .i64 t, .int .i64 hd, .int .i64 hh', .int .i64 ak, .int .i64 wt, .bool sp] (0, 0) _ rfl hr9 Try.underlying24 rfl info_sig _ rfl
set_option maxHeartbeats 8000000 in
theorem rdo_hold_ph (A : Option Addr) (n c : Nat) (l : List Pl) (s : Sg) (k a : Int) (w : World) (hl : Pls w A n c l) (hts : SmG s) (hm : mayS l s = true) (hk : k = 1) (ha : ¬ a < 1) (hp : s.ph ≠ 0) : Calls Try.prog 13 #[.slice A n c, sgV s, .int .i64 k, .int .i64 a] w (GivesGE (doS l s k a) w) := by
  subst hk
  have hsm := hl.small
  have HMY := Lib.hid (fun X (hX : Below w.heap.size w X) => rsmay_any A n c l s X (hl.below hX) hts)
  have HTU := Lib.hid (show ∀ X : World, Calls Try.prog 37 #[.int .i64 1] X fun e w' => e = .returned (.bool (turnsB 1)) ∧ X = w' from fun X => (rturns_any 1 X).mono fun _ _ h => ⟨h.1, h.2.symm⟩)
  rw [hm] at HMY
  rw [show turnsB 1 = true from rfl] at HTU
  have hms := mayS_iff.1 hm
  have hpl0 := hms.p0
  have hpl1 : s.pl < n := by have := hms.p1; rw [hl.len] at this; exact this
  obtain ⟨j, hj⟩ := Int.eq_ofNat_of_zero_le hpl0
  have hjn : j < n := by omega
  obtain ⟨b, off, q, rfl, hq, hmem, -, -, -⟩ := hl.at_ j hjn
  have hqa : planAt l s.pl = q := by rw [hj, planAt, Int.toNat_natCast, hq]
  have hfit := all_fit hms.all hmem
  have HPC := Lib.hid (show ∀ X, Below w.heap.size w X → X.cell? ⟨b, off + j * 5, none⟩ = some (.slice q.A q.n q.c) ∧ X.cell? ⟨b, off + j * 5 + 1, none⟩ = some (.slice q.B q.k q.d) ∧ X.cell? ⟨b, off + j * 5 + 2, none⟩ = some (.int .i64 q.am) ∧ X.cell? ⟨b, off + j * 5 + 3, none⟩ = some (.int .i64 q.rd) ∧ X.cell? ⟨b, off + j * 5 + 4, none⟩ = some (.int .i64 q.hd) from fun X hX => by
    obtain ⟨b2, off2, p2, hA2, hp2, -, -, -, z0, z1, z2, z3, z4⟩ := (hl.below hX).at_ j hjn
    cases hA2
    obtain rfl := hq.symm.trans hp2
    exact ⟨z0, z1, z2, z3, z4⟩)
  have hqk : q.s.length = q.k := (hl.pl q hmem).s.len
  have hqs := (hl.pl q hmem).s.small
  have hll := hl.len
  have hheld := hms.held
  rw [hqa] at hheld
  have hhd2 := (fit_iff.1 hfit).hd2
  have hw1 : wrap64 (q.hd - s.hl) = q.hd - s.hl := by have := hheld.h1; have := hheld.h2; unfold wrap64; omega
  have HR := Lib.hid (show doS l s 1 a = (s, 11) by rw [doS, if_pos ⟨hm, rfl⟩, askS, if_pos rfl, if_neg ha, if_pos (.inl fun h => hp h.1)])
  obtain ⟨G, hG⟩ : ∃ G, doS l s 1 a = G := ⟨_, rfl⟩
  rw [hG] at HR ⊢
  have hpb : (s.ph == 0) = false := by rw [beq_eq_false_iff_ne]; exact hp
  simp only [sgV] at HMY ⊢
  clear hG hm hl hms hqa hmem hq hfit hheld hhd2 hqk hll hp
  obtain ⟨pl, st, nx, ph, t, hd, hh', ak, wt, sp⟩ := s
  try simp only at *
  subst hj
  go_enter Try.func13, Try.ntmps13
  go_wp2_with (first
    | (go_at_call 36
       (with_reducible refine (HMY.out _ (below_alloc2 _ _ _)).mono ?_)
       rintro e w1 ⟨rfl, hb1⟩
       have hs1 := (hb1.block w.heap.size (by simp; omega)).trans (alloc2_old w (.cells #[.int .i64 (j : Int), .int .i64 st, .int .i64 nx, .int .i64 ph, .int .i64 t, .int .i64 hd, .int .i64 hh', .int .i64 ak, .int .i64 wt, .bool sp] 24) (.cells #[.int .i64 0, .int .i64 0, .int .i64 0, .int .i64 0, .int .i64 0, .int .i64 0, .int .i64 0, .int .i64 0, .int .i64 0, .bool false] 24))
       have hr1 := (hb1.block (w.heap.size + 1) (by simp)).trans (alloc2_new w (.cells #[.int .i64 (j : Int), .int .i64 st, .int .i64 nx, .int .i64 ph, .int .i64 t, .int .i64 hd, .int .i64 hh', .int .i64 ak, .int .i64 wt, .bool sp] 24) (.cells #[.int .i64 0, .int .i64 0, .int .i64 0, .int .i64 0, .int .i64 0, .int .i64 0, .int .i64 0, .int .i64 0, .int .i64 0, .bool false] 24))
       have hn1 : w.heap.size + 1 < w1.heap.size := Nat.lt_of_lt_of_le (by simp) hb1.size
       have HB1 := Lib.hid ((below_alloc2 w (.cells #[.int .i64 (j : Int), .int .i64 st, .int .i64 nx, .int .i64 ph, .int .i64 t, .int .i64 hd, .int .i64 hh', .int .i64 ak, .int .i64 wt, .bool sp] 24) (.cells #[.int .i64 0, .int .i64 0, .int .i64 0, .int .i64 0, .int .i64 0, .int .i64 0, .int .i64 0, .int .i64 0, .int .i64 0, .bool false] 24)).trans (hb1.mono (by simp; omega)))
       obtain ⟨c0, c1, c2, c3, c4, c5, c6, c7, c8, c9⟩ := (show BoxG w1 w.heap.size ⟨(j : Int), st, nx, ph, t, hd, hh', ak, wt, sp⟩ from hs1).cells
       simp only at c0 c1 c2 c3 c4 c5 c6 c7 c8 c9
       obtain ⟨p0, p1, p2, p3, p4⟩ := HPC.out w1 HB1.out
       have hbp := one_alloc w1 (.cells #[.slice q.A q.n q.c, .slice q.B q.k q.d, .int .i64 q.am, .int .i64 q.rd, .int .i64 q.hd] 47)
       have hs2 := (hbp.block w.heap.size (by omega)).trans hs1
       obtain ⟨d0, d1, d2, d3, d4, d5, d6, d7, d8, d9⟩ := (show BoxG (w1.alloc (.cells #[.slice q.A q.n q.c, .slice q.B q.k q.d, .int .i64 q.am, .int .i64 q.rd, .int .i64 q.hd] 47)) w.heap.size ⟨(j : Int), st, nx, ph, t, hd, hh', ak, wt, sp⟩ from hs2).cells
       simp only at d0 d1 d2 d3 d4 d5 d6 d7 d8 d9
       have hp2 := heap_alloc_new w1 (.cells #[.slice q.A q.n q.c, .slice q.B q.k q.d, .int .i64 q.am, .int .i64 q.rd, .int .i64 q.hd] 47)
       obtain ⟨r0, r1, r2, r3, r4⟩ := (show BoxP (w1.alloc (.cells #[.slice q.A q.n q.c, .slice q.B q.k q.d, .int .i64 q.am, .int .i64 q.rd, .int .i64 q.hd] 47)) w1.heap.size q from hp2).cells
       have hbt := below_alloc2 w1 (.cells #[.slice q.A q.n q.c, .slice q.B q.k q.d, .int .i64 q.am, .int .i64 q.rd, .int .i64 q.hd] 47) (.cells #[.int .i64 (j : Int), .int .i64 st, .int .i64 nx, .int .i64 ph, .int .i64 t, .int .i64 hd, .int .i64 hh', .int .i64 ak, .int .i64 wt, .bool sp] 24)
       have hs3 := (hbt.block w.heap.size (by omega)).trans hs1
       have hr3 := (hbt.block (w.heap.size + 1) (by omega)).trans hr1
       have hp3 := alloc2_old w1 (.cells #[.slice q.A q.n q.c, .slice q.B q.k q.d, .int .i64 q.am, .int .i64 q.rd, .int .i64 q.hd] 47) (.cells #[.int .i64 (j : Int), .int .i64 st, .int .i64 nx, .int .i64 ph, .int .i64 t, .int .i64 hd, .int .i64 hh', .int .i64 ak, .int .i64 wt, .bool sp] 24)
       have ht3 := alloc2_new w1 (.cells #[.slice q.A q.n q.c, .slice q.B q.k q.d, .int .i64 q.am, .int .i64 q.rd, .int .i64 q.hd] 47) (.cells #[.int .i64 (j : Int), .int .i64 st, .int .i64 nx, .int .i64 ph, .int .i64 t, .int .i64 hd, .int .i64 hh', .int .i64 ak, .int .i64 wt, .bool sp] 24)
       have hn3 : w1.heap.size + 1 < ((w1.alloc (.cells #[.slice q.A q.n q.c, .slice q.B q.k q.d, .int .i64 q.am, .int .i64 q.rd, .int .i64 q.hd] 47)).alloc (.cells #[.int .i64 (j : Int), .int .i64 st, .int .i64 nx, .int .i64 ph, .int .i64 t, .int .i64 hd, .int .i64 hh', .int .i64 ak, .int .i64 wt, .bool sp] 24)).heap.size := by simp
       have hm3 : w.heap.size + 1 < ((w1.alloc (.cells #[.slice q.A q.n q.c, .slice q.B q.k q.d, .int .i64 q.am, .int .i64 q.rd, .int .i64 q.hd] 47)).alloc (.cells #[.int .i64 (j : Int), .int .i64 st, .int .i64 nx, .int .i64 ph, .int .i64 t, .int .i64 hd, .int .i64 hh', .int .i64 ak, .int .i64 wt, .bool sp] 24)).heap.size := Nat.lt_trans hn1 (by simp; omega)
       have HB3 := Lib.hid (HB1.out.trans (hbt.mono HB1.out.size))
       obtain ⟨e0, e1, e2, e3, e4, e5, e6, e7, e8, e9⟩ := (show BoxG ((w1.alloc (.cells #[.slice q.A q.n q.c, .slice q.B q.k q.d, .int .i64 q.am, .int .i64 q.rd, .int .i64 q.hd] 47)).alloc (.cells #[.int .i64 (j : Int), .int .i64 st, .int .i64 nx, .int .i64 ph, .int .i64 t, .int .i64 hd, .int .i64 hh', .int .i64 ak, .int .i64 wt, .bool sp] 24)) w.heap.size ⟨(j : Int), st, nx, ph, t, hd, hh', ak, wt, sp⟩ from hs3).cells
       simp only at e0 e1 e2 e3 e4 e5 e6 e7 e8 e9
       obtain ⟨q0, q1, q2, q3, q4⟩ := (show BoxP ((w1.alloc (.cells #[.slice q.A q.n q.c, .slice q.B q.k q.d, .int .i64 q.am, .int .i64 q.rd, .int .i64 q.hd] 47)).alloc (.cells #[.int .i64 (j : Int), .int .i64 st, .int .i64 nx, .int .i64 ph, .int .i64 t, .int .i64 hd, .int .i64 hh', .int .i64 ak, .int .i64 wt, .bool sp] 24)) w1.heap.size q from hp3).cells
       clear hbp hbt hs2 hp2
       clear hb1)
    | (go_at_call 37
       (with_reducible refine (HTU.out _).mono ?_)
       rintro e w2 ⟨rfl, rfl⟩)
    | ((with_reducible refine wpList_store_part rfl 24 _ _ rfl (w.heap.size + 1) 0 (.agg #[.int .i64 (j : Int), .int .i64 st, .int .i64 nx, .int .i64 ph, .int .i64 t, .int .i64 hd, .int .i64 hh', .int .i64 ak, .int .i64 wt, .bool sp]) #[.int .i64 (j : Int), .int .i64 st, .int .i64 nx, .int .i64 ph, .int .i64 t, .int .i64 hd, .int .i64 hh', .int .i64 ak, .int .i64 wt, .bool sp] ?hx9 ?hy9 ?hv9 24 #[.int .i64 0, .int .i64 0, .int .i64 0, .int .i64 0, .int .i64 0, .int .i64 0, .int .i64 0, .int .i64 0, .int .i64 0, .bool false] #[.int .i64 (j : Int), .int .i64 st, .int .i64 nx, .int .i64 ph, .int .i64 t, .int .i64 hd, .int .i64 hh', .int .i64 ak, .int .i64 wt, .bool sp] hr3 ?hi9 ?hl9 ?ho9 ?hn9 ?_); (case hx9 => rfl); (case hy9 => first | rfl | exact congrArg (Value.int IntKind.i64) v1); (case hv9 => rfl); (case hi9 => first | exact info_one _ | exact info_sig); (case hl9 => simp); (case ho9 => first | exact one_int _ | exact one_sig _ _ _ _ _ _ _ _ _ _); (case hn9 => rfl)
       intro w9 hg9 hr9 hz9
       have HB9 := Lib.hid (Below.grows HB3.out hg9 HB3.out.size (by omega))
       have hn9 : w.heap.size + 1 < w9.heap.size := by omega
       clear hg9))
  all_goals
   refine bodyPost_ret (v := .tuple #[.agg #[.int .i64 (j : Int), .int .i64 st, .int .i64 nx, .int .i64 ph, .int .i64 t, .int .i64 hd, .int .i64 hh', .int .i64 ak, .int .i64 wt, .bool sp], .int .i64 11]) ?_ rfl ⟨by rw [HR.out]; rfl, HB9.out⟩
   exact results_blk_val Try.results13 _ _ _ (w.heap.size + 1) 24 #[.int .i64 (j : Int), .int .i64 st, .int .i64 nx, .int .i64 ph, .int .i64 t, .int .i64 hd, .int .i64 hh', .int .i64 ak, .int .i64 wt, .bool sp] (0, 0) _ rfl hr9 Try.underlying24 rfl info_sig _ rfl
set_option maxHeartbeats 8000000 in
theorem rdo_hold_sp (A : Option Addr) (n c : Nat) (l : List Pl) (s : Sg) (k a : Int) (w : World) (hl : Pls w A n c l) (hts : SmG s) (hm : mayS l s = true) (hk : k = 1) (ha : ¬ a < 1) (hp : s.ph = 0) (hs : s.sp = true) : Calls Try.prog 13 #[.slice A n c, sgV s, .int .i64 k, .int .i64 a] w (GivesGE (doS l s k a) w) := by
  subst hk
  have hsm := hl.small
  have HMY := Lib.hid (fun X (hX : Below w.heap.size w X) => rsmay_any A n c l s X (hl.below hX) hts)
  have HTU := Lib.hid (show ∀ X : World, Calls Try.prog 37 #[.int .i64 1] X fun e w' => e = .returned (.bool (turnsB 1)) ∧ X = w' from fun X => (rturns_any 1 X).mono fun _ _ h => ⟨h.1, h.2.symm⟩)
  rw [hm] at HMY
  rw [show turnsB 1 = true from rfl] at HTU
  have hms := mayS_iff.1 hm
  have hpl0 := hms.p0
  have hpl1 : s.pl < n := by have := hms.p1; rw [hl.len] at this; exact this
  obtain ⟨j, hj⟩ := Int.eq_ofNat_of_zero_le hpl0
  have hjn : j < n := by omega
  obtain ⟨b, off, q, rfl, hq, hmem, -, -, -⟩ := hl.at_ j hjn
  have hqa : planAt l s.pl = q := by rw [hj, planAt, Int.toNat_natCast, hq]
  have hfit := all_fit hms.all hmem
  have HPC := Lib.hid (show ∀ X, Below w.heap.size w X → X.cell? ⟨b, off + j * 5, none⟩ = some (.slice q.A q.n q.c) ∧ X.cell? ⟨b, off + j * 5 + 1, none⟩ = some (.slice q.B q.k q.d) ∧ X.cell? ⟨b, off + j * 5 + 2, none⟩ = some (.int .i64 q.am) ∧ X.cell? ⟨b, off + j * 5 + 3, none⟩ = some (.int .i64 q.rd) ∧ X.cell? ⟨b, off + j * 5 + 4, none⟩ = some (.int .i64 q.hd) from fun X hX => by
    obtain ⟨b2, off2, p2, hA2, hp2, -, -, -, z0, z1, z2, z3, z4⟩ := (hl.below hX).at_ j hjn
    cases hA2
    obtain rfl := hq.symm.trans hp2
    exact ⟨z0, z1, z2, z3, z4⟩)
  have hqk : q.s.length = q.k := (hl.pl q hmem).s.len
  have hqs := (hl.pl q hmem).s.small
  have hll := hl.len
  have hheld := hms.held
  rw [hqa] at hheld
  have hhd2 := (fit_iff.1 hfit).hd2
  have hw1 : wrap64 (q.hd - s.hl) = q.hd - s.hl := by have := hheld.h1; have := hheld.h2; unfold wrap64; omega
  have HR := Lib.hid (show doS l s 1 a = (s, 11) by rw [doS, if_pos ⟨hm, rfl⟩, askS, if_pos rfl, if_neg ha, if_pos (.inl fun h => by have h2 := h.2; rw [hs] at h2; cases h2)])
  obtain ⟨G, hG⟩ : ∃ G, doS l s 1 a = G := ⟨_, rfl⟩
  rw [hG] at HR ⊢
  have hpb : (s.ph == 0) = true := by rw [hp]; rfl
  simp only [sgV] at HMY ⊢
  clear hG hm hl hms hqa hmem hq hfit hheld hhd2 hqk hll hp
  obtain ⟨pl, st, nx, ph, t, hd, hh', ak, wt, sp⟩ := s
  try simp only at *
  subst hj
  subst hs
  go_enter Try.func13, Try.ntmps13
  go_wp2_with (first
    | (go_at_call 36
       (with_reducible refine (HMY.out _ (below_alloc2 _ _ _)).mono ?_)
       rintro e w1 ⟨rfl, hb1⟩
       have hs1 := (hb1.block w.heap.size (by simp; omega)).trans (alloc2_old w (.cells #[.int .i64 (j : Int), .int .i64 st, .int .i64 nx, .int .i64 ph, .int .i64 t, .int .i64 hd, .int .i64 hh', .int .i64 ak, .int .i64 wt, .bool true] 24) (.cells #[.int .i64 0, .int .i64 0, .int .i64 0, .int .i64 0, .int .i64 0, .int .i64 0, .int .i64 0, .int .i64 0, .int .i64 0, .bool false] 24))
       have hr1 := (hb1.block (w.heap.size + 1) (by simp)).trans (alloc2_new w (.cells #[.int .i64 (j : Int), .int .i64 st, .int .i64 nx, .int .i64 ph, .int .i64 t, .int .i64 hd, .int .i64 hh', .int .i64 ak, .int .i64 wt, .bool true] 24) (.cells #[.int .i64 0, .int .i64 0, .int .i64 0, .int .i64 0, .int .i64 0, .int .i64 0, .int .i64 0, .int .i64 0, .int .i64 0, .bool false] 24))
       have hn1 : w.heap.size + 1 < w1.heap.size := Nat.lt_of_lt_of_le (by simp) hb1.size
       have HB1 := Lib.hid ((below_alloc2 w (.cells #[.int .i64 (j : Int), .int .i64 st, .int .i64 nx, .int .i64 ph, .int .i64 t, .int .i64 hd, .int .i64 hh', .int .i64 ak, .int .i64 wt, .bool true] 24) (.cells #[.int .i64 0, .int .i64 0, .int .i64 0, .int .i64 0, .int .i64 0, .int .i64 0, .int .i64 0, .int .i64 0, .int .i64 0, .bool false] 24)).trans (hb1.mono (by simp; omega)))
       obtain ⟨c0, c1, c2, c3, c4, c5, c6, c7, c8, c9⟩ := (show BoxG w1 w.heap.size ⟨(j : Int), st, nx, ph, t, hd, hh', ak, wt, true⟩ from hs1).cells
       simp only at c0 c1 c2 c3 c4 c5 c6 c7 c8 c9
       obtain ⟨p0, p1, p2, p3, p4⟩ := HPC.out w1 HB1.out
       have hbp := one_alloc w1 (.cells #[.slice q.A q.n q.c, .slice q.B q.k q.d, .int .i64 q.am, .int .i64 q.rd, .int .i64 q.hd] 47)
       have hs2 := (hbp.block w.heap.size (by omega)).trans hs1
       obtain ⟨d0, d1, d2, d3, d4, d5, d6, d7, d8, d9⟩ := (show BoxG (w1.alloc (.cells #[.slice q.A q.n q.c, .slice q.B q.k q.d, .int .i64 q.am, .int .i64 q.rd, .int .i64 q.hd] 47)) w.heap.size ⟨(j : Int), st, nx, ph, t, hd, hh', ak, wt, true⟩ from hs2).cells
       simp only at d0 d1 d2 d3 d4 d5 d6 d7 d8 d9
       have hp2 := heap_alloc_new w1 (.cells #[.slice q.A q.n q.c, .slice q.B q.k q.d, .int .i64 q.am, .int .i64 q.rd, .int .i64 q.hd] 47)
       obtain ⟨r0, r1, r2, r3, r4⟩ := (show BoxP (w1.alloc (.cells #[.slice q.A q.n q.c, .slice q.B q.k q.d, .int .i64 q.am, .int .i64 q.rd, .int .i64 q.hd] 47)) w1.heap.size q from hp2).cells
       have hbt := below_alloc2 w1 (.cells #[.slice q.A q.n q.c, .slice q.B q.k q.d, .int .i64 q.am, .int .i64 q.rd, .int .i64 q.hd] 47) (.cells #[.int .i64 (j : Int), .int .i64 st, .int .i64 nx, .int .i64 ph, .int .i64 t, .int .i64 hd, .int .i64 hh', .int .i64 ak, .int .i64 wt, .bool true] 24)
       have hs3 := (hbt.block w.heap.size (by omega)).trans hs1
       have hr3 := (hbt.block (w.heap.size + 1) (by omega)).trans hr1
       have hp3 := alloc2_old w1 (.cells #[.slice q.A q.n q.c, .slice q.B q.k q.d, .int .i64 q.am, .int .i64 q.rd, .int .i64 q.hd] 47) (.cells #[.int .i64 (j : Int), .int .i64 st, .int .i64 nx, .int .i64 ph, .int .i64 t, .int .i64 hd, .int .i64 hh', .int .i64 ak, .int .i64 wt, .bool true] 24)
       have ht3 := alloc2_new w1 (.cells #[.slice q.A q.n q.c, .slice q.B q.k q.d, .int .i64 q.am, .int .i64 q.rd, .int .i64 q.hd] 47) (.cells #[.int .i64 (j : Int), .int .i64 st, .int .i64 nx, .int .i64 ph, .int .i64 t, .int .i64 hd, .int .i64 hh', .int .i64 ak, .int .i64 wt, .bool true] 24)
       have hn3 : w1.heap.size + 1 < ((w1.alloc (.cells #[.slice q.A q.n q.c, .slice q.B q.k q.d, .int .i64 q.am, .int .i64 q.rd, .int .i64 q.hd] 47)).alloc (.cells #[.int .i64 (j : Int), .int .i64 st, .int .i64 nx, .int .i64 ph, .int .i64 t, .int .i64 hd, .int .i64 hh', .int .i64 ak, .int .i64 wt, .bool true] 24)).heap.size := by simp
       have hm3 : w.heap.size + 1 < ((w1.alloc (.cells #[.slice q.A q.n q.c, .slice q.B q.k q.d, .int .i64 q.am, .int .i64 q.rd, .int .i64 q.hd] 47)).alloc (.cells #[.int .i64 (j : Int), .int .i64 st, .int .i64 nx, .int .i64 ph, .int .i64 t, .int .i64 hd, .int .i64 hh', .int .i64 ak, .int .i64 wt, .bool true] 24)).heap.size := Nat.lt_trans hn1 (by simp; omega)
       have HB3 := Lib.hid (HB1.out.trans (hbt.mono HB1.out.size))
       obtain ⟨e0, e1, e2, e3, e4, e5, e6, e7, e8, e9⟩ := (show BoxG ((w1.alloc (.cells #[.slice q.A q.n q.c, .slice q.B q.k q.d, .int .i64 q.am, .int .i64 q.rd, .int .i64 q.hd] 47)).alloc (.cells #[.int .i64 (j : Int), .int .i64 st, .int .i64 nx, .int .i64 ph, .int .i64 t, .int .i64 hd, .int .i64 hh', .int .i64 ak, .int .i64 wt, .bool true] 24)) w.heap.size ⟨(j : Int), st, nx, ph, t, hd, hh', ak, wt, true⟩ from hs3).cells
       simp only at e0 e1 e2 e3 e4 e5 e6 e7 e8 e9
       obtain ⟨q0, q1, q2, q3, q4⟩ := (show BoxP ((w1.alloc (.cells #[.slice q.A q.n q.c, .slice q.B q.k q.d, .int .i64 q.am, .int .i64 q.rd, .int .i64 q.hd] 47)).alloc (.cells #[.int .i64 (j : Int), .int .i64 st, .int .i64 nx, .int .i64 ph, .int .i64 t, .int .i64 hd, .int .i64 hh', .int .i64 ak, .int .i64 wt, .bool true] 24)) w1.heap.size q from hp3).cells
       clear hbp hbt hs2 hp2
       clear hb1)
    | (go_at_call 37
       (with_reducible refine (HTU.out _).mono ?_)
       rintro e w2 ⟨rfl, rfl⟩)
    | ((with_reducible refine wpList_store_part rfl 24 _ _ rfl (w.heap.size + 1) 0 (.agg #[.int .i64 (j : Int), .int .i64 st, .int .i64 nx, .int .i64 ph, .int .i64 t, .int .i64 hd, .int .i64 hh', .int .i64 ak, .int .i64 wt, .bool true]) #[.int .i64 (j : Int), .int .i64 st, .int .i64 nx, .int .i64 ph, .int .i64 t, .int .i64 hd, .int .i64 hh', .int .i64 ak, .int .i64 wt, .bool true] ?hx9 ?hy9 ?hv9 24 #[.int .i64 0, .int .i64 0, .int .i64 0, .int .i64 0, .int .i64 0, .int .i64 0, .int .i64 0, .int .i64 0, .int .i64 0, .bool false] #[.int .i64 (j : Int), .int .i64 st, .int .i64 nx, .int .i64 ph, .int .i64 t, .int .i64 hd, .int .i64 hh', .int .i64 ak, .int .i64 wt, .bool true] hr3 ?hi9 ?hl9 ?ho9 ?hn9 ?_); (case hx9 => rfl); (case hy9 => first | rfl | exact congrArg (Value.int IntKind.i64) v1); (case hv9 => rfl); (case hi9 => first | exact info_one _ | exact info_sig); (case hl9 => simp); (case ho9 => first | exact one_int _ | exact one_sig _ _ _ _ _ _ _ _ _ _); (case hn9 => rfl)
       intro w9 hg9 hr9 hz9
       have HB9 := Lib.hid (Below.grows HB3.out hg9 HB3.out.size (by omega))
       have hn9 : w.heap.size + 1 < w9.heap.size := by omega
       clear hg9))
  all_goals
   refine bodyPost_ret (v := .tuple #[.agg #[.int .i64 (j : Int), .int .i64 st, .int .i64 nx, .int .i64 ph, .int .i64 t, .int .i64 hd, .int .i64 hh', .int .i64 ak, .int .i64 wt, .bool true], .int .i64 11]) ?_ rfl ⟨by rw [HR.out]; rfl, HB9.out⟩
   exact results_blk_val Try.results13 _ _ _ (w.heap.size + 1) 24 #[.int .i64 (j : Int), .int .i64 st, .int .i64 nx, .int .i64 ph, .int .i64 t, .int .i64 hd, .int .i64 hh', .int .i64 ak, .int .i64 wt, .bool true] (0, 0) _ rfl hr9 Try.underlying24 rfl info_sig _ rfl
set_option maxHeartbeats 8000000 in
theorem rdo_hold_much (A : Option Addr) (n c : Nat) (l : List Pl) (s : Sg) (k a : Int) (w : World) (hl : Pls w A n c l) (hts : SmG s) (hm : mayS l s = true) (hk : k = 1) (ha : ¬ a < 1) (hp : s.ph = 0) (hs : s.sp = false) (hx : (planAt l s.pl).hd - s.hl < a) : Calls Try.prog 13 #[.slice A n c, sgV s, .int .i64 k, .int .i64 a] w (GivesGE (doS l s k a) w) := by
  subst hk
  have hsm := hl.small
  have HMY := Lib.hid (fun X (hX : Below w.heap.size w X) => rsmay_any A n c l s X (hl.below hX) hts)
  have HTU := Lib.hid (show ∀ X : World, Calls Try.prog 37 #[.int .i64 1] X fun e w' => e = .returned (.bool (turnsB 1)) ∧ X = w' from fun X => (rturns_any 1 X).mono fun _ _ h => ⟨h.1, h.2.symm⟩)
  rw [hm] at HMY
  rw [show turnsB 1 = true from rfl] at HTU
  have hms := mayS_iff.1 hm
  have hpl0 := hms.p0
  have hpl1 : s.pl < n := by have := hms.p1; rw [hl.len] at this; exact this
  obtain ⟨j, hj⟩ := Int.eq_ofNat_of_zero_le hpl0
  have hjn : j < n := by omega
  obtain ⟨b, off, q, rfl, hq, hmem, -, -, -⟩ := hl.at_ j hjn
  have hqa : planAt l s.pl = q := by rw [hj, planAt, Int.toNat_natCast, hq]
  have hfit := all_fit hms.all hmem
  have HPC := Lib.hid (show ∀ X, Below w.heap.size w X → X.cell? ⟨b, off + j * 5, none⟩ = some (.slice q.A q.n q.c) ∧ X.cell? ⟨b, off + j * 5 + 1, none⟩ = some (.slice q.B q.k q.d) ∧ X.cell? ⟨b, off + j * 5 + 2, none⟩ = some (.int .i64 q.am) ∧ X.cell? ⟨b, off + j * 5 + 3, none⟩ = some (.int .i64 q.rd) ∧ X.cell? ⟨b, off + j * 5 + 4, none⟩ = some (.int .i64 q.hd) from fun X hX => by
    obtain ⟨b2, off2, p2, hA2, hp2, -, -, -, z0, z1, z2, z3, z4⟩ := (hl.below hX).at_ j hjn
    cases hA2
    obtain rfl := hq.symm.trans hp2
    exact ⟨z0, z1, z2, z3, z4⟩)
  have hqk : q.s.length = q.k := (hl.pl q hmem).s.len
  have hqs := (hl.pl q hmem).s.small
  have hll := hl.len
  have hheld := hms.held
  rw [hqa] at hheld
  have hhd2 := (fit_iff.1 hfit).hd2
  have hw1 : wrap64 (q.hd - s.hl) = q.hd - s.hl := by have := hheld.h1; have := hheld.h2; unfold wrap64; omega
  have HR := Lib.hid (show doS l s 1 a = (s, 11) by rw [doS, if_pos ⟨hm, rfl⟩, askS, if_pos rfl, if_neg ha, if_pos (.inr hx)])
  obtain ⟨G, hG⟩ : ∃ G, doS l s 1 a = G := ⟨_, rfl⟩
  rw [hG] at HR ⊢
  have hpb : (s.ph == 0) = true := by rw [hp]; rfl
  rw [hqa] at hx
  simp only [sgV] at HMY ⊢
  clear hG hm hl hms hqa hmem hq hfit hheld hhd2 hqk hll hp
  obtain ⟨pl, st, nx, ph, t, hd, hh', ak, wt, sp⟩ := s
  try simp only at *
  subst hj
  subst hs
  go_enter Try.func13, Try.ntmps13
  go_wp2_with (first
    | (go_at_call 36
       (with_reducible refine (HMY.out _ (below_alloc2 _ _ _)).mono ?_)
       rintro e w1 ⟨rfl, hb1⟩
       have hs1 := (hb1.block w.heap.size (by simp; omega)).trans (alloc2_old w (.cells #[.int .i64 (j : Int), .int .i64 st, .int .i64 nx, .int .i64 ph, .int .i64 t, .int .i64 hd, .int .i64 hh', .int .i64 ak, .int .i64 wt, .bool false] 24) (.cells #[.int .i64 0, .int .i64 0, .int .i64 0, .int .i64 0, .int .i64 0, .int .i64 0, .int .i64 0, .int .i64 0, .int .i64 0, .bool false] 24))
       have hr1 := (hb1.block (w.heap.size + 1) (by simp)).trans (alloc2_new w (.cells #[.int .i64 (j : Int), .int .i64 st, .int .i64 nx, .int .i64 ph, .int .i64 t, .int .i64 hd, .int .i64 hh', .int .i64 ak, .int .i64 wt, .bool false] 24) (.cells #[.int .i64 0, .int .i64 0, .int .i64 0, .int .i64 0, .int .i64 0, .int .i64 0, .int .i64 0, .int .i64 0, .int .i64 0, .bool false] 24))
       have hn1 : w.heap.size + 1 < w1.heap.size := Nat.lt_of_lt_of_le (by simp) hb1.size
       have HB1 := Lib.hid ((below_alloc2 w (.cells #[.int .i64 (j : Int), .int .i64 st, .int .i64 nx, .int .i64 ph, .int .i64 t, .int .i64 hd, .int .i64 hh', .int .i64 ak, .int .i64 wt, .bool false] 24) (.cells #[.int .i64 0, .int .i64 0, .int .i64 0, .int .i64 0, .int .i64 0, .int .i64 0, .int .i64 0, .int .i64 0, .int .i64 0, .bool false] 24)).trans (hb1.mono (by simp; omega)))
       obtain ⟨c0, c1, c2, c3, c4, c5, c6, c7, c8, c9⟩ := (show BoxG w1 w.heap.size ⟨(j : Int), st, nx, ph, t, hd, hh', ak, wt, false⟩ from hs1).cells
       simp only at c0 c1 c2 c3 c4 c5 c6 c7 c8 c9
       obtain ⟨p0, p1, p2, p3, p4⟩ := HPC.out w1 HB1.out
       have hbp := one_alloc w1 (.cells #[.slice q.A q.n q.c, .slice q.B q.k q.d, .int .i64 q.am, .int .i64 q.rd, .int .i64 q.hd] 47)
       have hs2 := (hbp.block w.heap.size (by omega)).trans hs1
       obtain ⟨d0, d1, d2, d3, d4, d5, d6, d7, d8, d9⟩ := (show BoxG (w1.alloc (.cells #[.slice q.A q.n q.c, .slice q.B q.k q.d, .int .i64 q.am, .int .i64 q.rd, .int .i64 q.hd] 47)) w.heap.size ⟨(j : Int), st, nx, ph, t, hd, hh', ak, wt, false⟩ from hs2).cells
       simp only at d0 d1 d2 d3 d4 d5 d6 d7 d8 d9
       have hp2 := heap_alloc_new w1 (.cells #[.slice q.A q.n q.c, .slice q.B q.k q.d, .int .i64 q.am, .int .i64 q.rd, .int .i64 q.hd] 47)
       obtain ⟨r0, r1, r2, r3, r4⟩ := (show BoxP (w1.alloc (.cells #[.slice q.A q.n q.c, .slice q.B q.k q.d, .int .i64 q.am, .int .i64 q.rd, .int .i64 q.hd] 47)) w1.heap.size q from hp2).cells
       have hbt := below_alloc2 w1 (.cells #[.slice q.A q.n q.c, .slice q.B q.k q.d, .int .i64 q.am, .int .i64 q.rd, .int .i64 q.hd] 47) (.cells #[.int .i64 (j : Int), .int .i64 st, .int .i64 nx, .int .i64 ph, .int .i64 t, .int .i64 hd, .int .i64 hh', .int .i64 ak, .int .i64 wt, .bool false] 24)
       have hs3 := (hbt.block w.heap.size (by omega)).trans hs1
       have hr3 := (hbt.block (w.heap.size + 1) (by omega)).trans hr1
       have hp3 := alloc2_old w1 (.cells #[.slice q.A q.n q.c, .slice q.B q.k q.d, .int .i64 q.am, .int .i64 q.rd, .int .i64 q.hd] 47) (.cells #[.int .i64 (j : Int), .int .i64 st, .int .i64 nx, .int .i64 ph, .int .i64 t, .int .i64 hd, .int .i64 hh', .int .i64 ak, .int .i64 wt, .bool false] 24)
       have ht3 := alloc2_new w1 (.cells #[.slice q.A q.n q.c, .slice q.B q.k q.d, .int .i64 q.am, .int .i64 q.rd, .int .i64 q.hd] 47) (.cells #[.int .i64 (j : Int), .int .i64 st, .int .i64 nx, .int .i64 ph, .int .i64 t, .int .i64 hd, .int .i64 hh', .int .i64 ak, .int .i64 wt, .bool false] 24)
       have hn3 : w1.heap.size + 1 < ((w1.alloc (.cells #[.slice q.A q.n q.c, .slice q.B q.k q.d, .int .i64 q.am, .int .i64 q.rd, .int .i64 q.hd] 47)).alloc (.cells #[.int .i64 (j : Int), .int .i64 st, .int .i64 nx, .int .i64 ph, .int .i64 t, .int .i64 hd, .int .i64 hh', .int .i64 ak, .int .i64 wt, .bool false] 24)).heap.size := by simp
       have hm3 : w.heap.size + 1 < ((w1.alloc (.cells #[.slice q.A q.n q.c, .slice q.B q.k q.d, .int .i64 q.am, .int .i64 q.rd, .int .i64 q.hd] 47)).alloc (.cells #[.int .i64 (j : Int), .int .i64 st, .int .i64 nx, .int .i64 ph, .int .i64 t, .int .i64 hd, .int .i64 hh', .int .i64 ak, .int .i64 wt, .bool false] 24)).heap.size := Nat.lt_trans hn1 (by simp; omega)
       have HB3 := Lib.hid (HB1.out.trans (hbt.mono HB1.out.size))
       obtain ⟨e0, e1, e2, e3, e4, e5, e6, e7, e8, e9⟩ := (show BoxG ((w1.alloc (.cells #[.slice q.A q.n q.c, .slice q.B q.k q.d, .int .i64 q.am, .int .i64 q.rd, .int .i64 q.hd] 47)).alloc (.cells #[.int .i64 (j : Int), .int .i64 st, .int .i64 nx, .int .i64 ph, .int .i64 t, .int .i64 hd, .int .i64 hh', .int .i64 ak, .int .i64 wt, .bool false] 24)) w.heap.size ⟨(j : Int), st, nx, ph, t, hd, hh', ak, wt, false⟩ from hs3).cells
       simp only at e0 e1 e2 e3 e4 e5 e6 e7 e8 e9
       obtain ⟨q0, q1, q2, q3, q4⟩ := (show BoxP ((w1.alloc (.cells #[.slice q.A q.n q.c, .slice q.B q.k q.d, .int .i64 q.am, .int .i64 q.rd, .int .i64 q.hd] 47)).alloc (.cells #[.int .i64 (j : Int), .int .i64 st, .int .i64 nx, .int .i64 ph, .int .i64 t, .int .i64 hd, .int .i64 hh', .int .i64 ak, .int .i64 wt, .bool false] 24)) w1.heap.size q from hp3).cells
       clear hbp hbt hs2 hp2
       clear hb1)
    | (go_at_call 37
       (with_reducible refine (HTU.out _).mono ?_)
       rintro e w2 ⟨rfl, rfl⟩)
    | ((with_reducible refine wpList_store_part rfl 24 _ _ rfl (w.heap.size + 1) 0 (.agg #[.int .i64 (j : Int), .int .i64 st, .int .i64 nx, .int .i64 ph, .int .i64 t, .int .i64 hd, .int .i64 hh', .int .i64 ak, .int .i64 wt, .bool false]) #[.int .i64 (j : Int), .int .i64 st, .int .i64 nx, .int .i64 ph, .int .i64 t, .int .i64 hd, .int .i64 hh', .int .i64 ak, .int .i64 wt, .bool false] ?hx9 ?hy9 ?hv9 24 #[.int .i64 0, .int .i64 0, .int .i64 0, .int .i64 0, .int .i64 0, .int .i64 0, .int .i64 0, .int .i64 0, .int .i64 0, .bool false] #[.int .i64 (j : Int), .int .i64 st, .int .i64 nx, .int .i64 ph, .int .i64 t, .int .i64 hd, .int .i64 hh', .int .i64 ak, .int .i64 wt, .bool false] hr3 ?hi9 ?hl9 ?ho9 ?hn9 ?_); (case hx9 => rfl); (case hy9 => first | rfl | exact congrArg (Value.int IntKind.i64) v1); (case hv9 => rfl); (case hi9 => first | exact info_one _ | exact info_sig); (case hl9 => simp); (case ho9 => first | exact one_int _ | exact one_sig _ _ _ _ _ _ _ _ _ _); (case hn9 => rfl)
       intro w9 hg9 hr9 hz9
       have HB9 := Lib.hid (Below.grows HB3.out hg9 HB3.out.size (by omega))
       have hn9 : w.heap.size + 1 < w9.heap.size := by omega
       clear hg9))
  all_goals
   refine bodyPost_ret (v := .tuple #[.agg #[.int .i64 (j : Int), .int .i64 st, .int .i64 nx, .int .i64 ph, .int .i64 t, .int .i64 hd, .int .i64 hh', .int .i64 ak, .int .i64 wt, .bool false], .int .i64 11]) ?_ rfl ⟨by rw [HR.out]; rfl, HB9.out⟩
   exact results_blk_val Try.results13 _ _ _ (w.heap.size + 1) 24 #[.int .i64 (j : Int), .int .i64 st, .int .i64 nx, .int .i64 ph, .int .i64 t, .int .i64 hd, .int .i64 hh', .int .i64 ak, .int .i64 wt, .bool false] (0, 0) _ rfl hr9 Try.underlying24 rfl info_sig _ rfl
set_option maxHeartbeats 8000000 in
theorem rdo_hold_ok (A : Option Addr) (n c : Nat) (l : List Pl) (s : Sg) (k a : Int) (w : World) (hl : Pls w A n c l) (hts : SmG s) (hm : mayS l s = true) (hk : k = 1) (ha : ¬ a < 1) (hp : s.ph = 0) (hs : s.sp = false) (hx : ¬ (planAt l s.pl).hd - s.hl < a) : Calls Try.prog 13 #[.slice A n c, sgV s, .int .i64 k, .int .i64 a] w (GivesGE (doS l s k a) w) := by
  subst hk
  have hsm := hl.small
  have HMY := Lib.hid (fun X (hX : Below w.heap.size w X) => rsmay_any A n c l s X (hl.below hX) hts)
  have HTU := Lib.hid (show ∀ X : World, Calls Try.prog 37 #[.int .i64 1] X fun e w' => e = .returned (.bool (turnsB 1)) ∧ X = w' from fun X => (rturns_any 1 X).mono fun _ _ h => ⟨h.1, h.2.symm⟩)
  rw [hm] at HMY
  rw [show turnsB 1 = true from rfl] at HTU
  have hms := mayS_iff.1 hm
  have hpl0 := hms.p0
  have hpl1 : s.pl < n := by have := hms.p1; rw [hl.len] at this; exact this
  obtain ⟨j, hj⟩ := Int.eq_ofNat_of_zero_le hpl0
  have hjn : j < n := by omega
  obtain ⟨b, off, q, rfl, hq, hmem, -, -, -⟩ := hl.at_ j hjn
  have hqa : planAt l s.pl = q := by rw [hj, planAt, Int.toNat_natCast, hq]
  have hfit := all_fit hms.all hmem
  have HPC := Lib.hid (show ∀ X, Below w.heap.size w X → X.cell? ⟨b, off + j * 5, none⟩ = some (.slice q.A q.n q.c) ∧ X.cell? ⟨b, off + j * 5 + 1, none⟩ = some (.slice q.B q.k q.d) ∧ X.cell? ⟨b, off + j * 5 + 2, none⟩ = some (.int .i64 q.am) ∧ X.cell? ⟨b, off + j * 5 + 3, none⟩ = some (.int .i64 q.rd) ∧ X.cell? ⟨b, off + j * 5 + 4, none⟩ = some (.int .i64 q.hd) from fun X hX => by
    obtain ⟨b2, off2, p2, hA2, hp2, -, -, -, z0, z1, z2, z3, z4⟩ := (hl.below hX).at_ j hjn
    cases hA2
    obtain rfl := hq.symm.trans hp2
    exact ⟨z0, z1, z2, z3, z4⟩)
  have hqk : q.s.length = q.k := (hl.pl q hmem).s.len
  have hqs := (hl.pl q hmem).s.small
  have hll := hl.len
  have hheld := hms.held
  rw [hqa] at hheld
  have hhd2 := (fit_iff.1 hfit).hd2
  have hw1 : wrap64 (q.hd - s.hl) = q.hd - s.hl := by have := hheld.h1; have := hheld.h2; unfold wrap64; omega
  have HR := Lib.hid (show doS l s 1 a = ({ s with hd := a }, 0) by rw [doS, if_pos ⟨hm, rfl⟩, askS, if_pos rfl, if_neg ha, if_neg (fun h => h.elim (fun h => h ⟨hp, hs⟩) hx)])
  obtain ⟨G, hG⟩ : ∃ G, doS l s 1 a = G := ⟨_, rfl⟩
  rw [hG] at HR ⊢
  have hpb : (s.ph == 0) = true := by rw [hp]; rfl
  rw [hqa] at hx
  simp only [sgV] at HMY ⊢
  clear hG hm hl hms hqa hmem hq hfit hheld hhd2 hqk hll hp
  obtain ⟨pl, st, nx, ph, t, hd, hh', ak, wt, sp⟩ := s
  try simp only at *
  subst hj
  subst hs
  go_enter Try.func13, Try.ntmps13
  go_wp2_with (first
    | (go_at_call 36
       (with_reducible refine (HMY.out _ (below_alloc2 _ _ _)).mono ?_)
       rintro e w1 ⟨rfl, hb1⟩
       have hs1 := (hb1.block w.heap.size (by simp; omega)).trans (alloc2_old w (.cells #[.int .i64 (j : Int), .int .i64 st, .int .i64 nx, .int .i64 ph, .int .i64 t, .int .i64 hd, .int .i64 hh', .int .i64 ak, .int .i64 wt, .bool false] 24) (.cells #[.int .i64 0, .int .i64 0, .int .i64 0, .int .i64 0, .int .i64 0, .int .i64 0, .int .i64 0, .int .i64 0, .int .i64 0, .bool false] 24))
       have hr1 := (hb1.block (w.heap.size + 1) (by simp)).trans (alloc2_new w (.cells #[.int .i64 (j : Int), .int .i64 st, .int .i64 nx, .int .i64 ph, .int .i64 t, .int .i64 hd, .int .i64 hh', .int .i64 ak, .int .i64 wt, .bool false] 24) (.cells #[.int .i64 0, .int .i64 0, .int .i64 0, .int .i64 0, .int .i64 0, .int .i64 0, .int .i64 0, .int .i64 0, .int .i64 0, .bool false] 24))
       have hn1 : w.heap.size + 1 < w1.heap.size := Nat.lt_of_lt_of_le (by simp) hb1.size
       have HB1 := Lib.hid ((below_alloc2 w (.cells #[.int .i64 (j : Int), .int .i64 st, .int .i64 nx, .int .i64 ph, .int .i64 t, .int .i64 hd, .int .i64 hh', .int .i64 ak, .int .i64 wt, .bool false] 24) (.cells #[.int .i64 0, .int .i64 0, .int .i64 0, .int .i64 0, .int .i64 0, .int .i64 0, .int .i64 0, .int .i64 0, .int .i64 0, .bool false] 24)).trans (hb1.mono (by simp; omega)))
       obtain ⟨c0, c1, c2, c3, c4, c5, c6, c7, c8, c9⟩ := (show BoxG w1 w.heap.size ⟨(j : Int), st, nx, ph, t, hd, hh', ak, wt, false⟩ from hs1).cells
       simp only at c0 c1 c2 c3 c4 c5 c6 c7 c8 c9
       obtain ⟨p0, p1, p2, p3, p4⟩ := HPC.out w1 HB1.out
       have hbp := one_alloc w1 (.cells #[.slice q.A q.n q.c, .slice q.B q.k q.d, .int .i64 q.am, .int .i64 q.rd, .int .i64 q.hd] 47)
       have hs2 := (hbp.block w.heap.size (by omega)).trans hs1
       obtain ⟨d0, d1, d2, d3, d4, d5, d6, d7, d8, d9⟩ := (show BoxG (w1.alloc (.cells #[.slice q.A q.n q.c, .slice q.B q.k q.d, .int .i64 q.am, .int .i64 q.rd, .int .i64 q.hd] 47)) w.heap.size ⟨(j : Int), st, nx, ph, t, hd, hh', ak, wt, false⟩ from hs2).cells
       simp only at d0 d1 d2 d3 d4 d5 d6 d7 d8 d9
       have hp2 := heap_alloc_new w1 (.cells #[.slice q.A q.n q.c, .slice q.B q.k q.d, .int .i64 q.am, .int .i64 q.rd, .int .i64 q.hd] 47)
       obtain ⟨r0, r1, r2, r3, r4⟩ := (show BoxP (w1.alloc (.cells #[.slice q.A q.n q.c, .slice q.B q.k q.d, .int .i64 q.am, .int .i64 q.rd, .int .i64 q.hd] 47)) w1.heap.size q from hp2).cells
       have hbt := below_alloc2 w1 (.cells #[.slice q.A q.n q.c, .slice q.B q.k q.d, .int .i64 q.am, .int .i64 q.rd, .int .i64 q.hd] 47) (.cells #[.int .i64 (j : Int), .int .i64 st, .int .i64 nx, .int .i64 ph, .int .i64 t, .int .i64 hd, .int .i64 hh', .int .i64 ak, .int .i64 wt, .bool false] 24)
       have hs3 := (hbt.block w.heap.size (by omega)).trans hs1
       have hr3 := (hbt.block (w.heap.size + 1) (by omega)).trans hr1
       have hp3 := alloc2_old w1 (.cells #[.slice q.A q.n q.c, .slice q.B q.k q.d, .int .i64 q.am, .int .i64 q.rd, .int .i64 q.hd] 47) (.cells #[.int .i64 (j : Int), .int .i64 st, .int .i64 nx, .int .i64 ph, .int .i64 t, .int .i64 hd, .int .i64 hh', .int .i64 ak, .int .i64 wt, .bool false] 24)
       have ht3 := alloc2_new w1 (.cells #[.slice q.A q.n q.c, .slice q.B q.k q.d, .int .i64 q.am, .int .i64 q.rd, .int .i64 q.hd] 47) (.cells #[.int .i64 (j : Int), .int .i64 st, .int .i64 nx, .int .i64 ph, .int .i64 t, .int .i64 hd, .int .i64 hh', .int .i64 ak, .int .i64 wt, .bool false] 24)
       have hn3 : w1.heap.size + 1 < ((w1.alloc (.cells #[.slice q.A q.n q.c, .slice q.B q.k q.d, .int .i64 q.am, .int .i64 q.rd, .int .i64 q.hd] 47)).alloc (.cells #[.int .i64 (j : Int), .int .i64 st, .int .i64 nx, .int .i64 ph, .int .i64 t, .int .i64 hd, .int .i64 hh', .int .i64 ak, .int .i64 wt, .bool false] 24)).heap.size := by simp
       have hm3 : w.heap.size + 1 < ((w1.alloc (.cells #[.slice q.A q.n q.c, .slice q.B q.k q.d, .int .i64 q.am, .int .i64 q.rd, .int .i64 q.hd] 47)).alloc (.cells #[.int .i64 (j : Int), .int .i64 st, .int .i64 nx, .int .i64 ph, .int .i64 t, .int .i64 hd, .int .i64 hh', .int .i64 ak, .int .i64 wt, .bool false] 24)).heap.size := Nat.lt_trans hn1 (by simp; omega)
       have HB3 := Lib.hid (HB1.out.trans (hbt.mono HB1.out.size))
       obtain ⟨e0, e1, e2, e3, e4, e5, e6, e7, e8, e9⟩ := (show BoxG ((w1.alloc (.cells #[.slice q.A q.n q.c, .slice q.B q.k q.d, .int .i64 q.am, .int .i64 q.rd, .int .i64 q.hd] 47)).alloc (.cells #[.int .i64 (j : Int), .int .i64 st, .int .i64 nx, .int .i64 ph, .int .i64 t, .int .i64 hd, .int .i64 hh', .int .i64 ak, .int .i64 wt, .bool false] 24)) w.heap.size ⟨(j : Int), st, nx, ph, t, hd, hh', ak, wt, false⟩ from hs3).cells
       simp only at e0 e1 e2 e3 e4 e5 e6 e7 e8 e9
       obtain ⟨q0, q1, q2, q3, q4⟩ := (show BoxP ((w1.alloc (.cells #[.slice q.A q.n q.c, .slice q.B q.k q.d, .int .i64 q.am, .int .i64 q.rd, .int .i64 q.hd] 47)).alloc (.cells #[.int .i64 (j : Int), .int .i64 st, .int .i64 nx, .int .i64 ph, .int .i64 t, .int .i64 hd, .int .i64 hh', .int .i64 ak, .int .i64 wt, .bool false] 24)) w1.heap.size q from hp3).cells
       clear hbp hbt hs2 hp2
       clear hb1)
    | (go_at_call 37
       (with_reducible refine (HTU.out _).mono ?_)
       rintro e w2 ⟨rfl, rfl⟩)
    | ((with_reducible refine wpList_store_part rfl 3 _ _ rfl (w1.heap.size + 1) 5 (.int .i64 a) #[.int .i64 a] ?hx4 ?hy4 ?hv4 24 #[.int .i64 (j : Int), .int .i64 st, .int .i64 nx, .int .i64 ph, .int .i64 t, .int .i64 hd, .int .i64 hh', .int .i64 ak, .int .i64 wt, .bool false] #[.int .i64 (j : Int), .int .i64 st, .int .i64 nx, .int .i64 ph, .int .i64 t, .int .i64 a, .int .i64 hh', .int .i64 ak, .int .i64 wt, .bool false] ht3 ?hi4 ?hl4 ?ho4 ?hn4 ?_); (case hx4 => rfl); (case hy4 => first | rfl | exact congrArg (Value.int IntKind.i64) v1); (case hv4 => rfl); (case hi4 => first | exact info_one _ | exact info_sig); (case hl4 => simp); (case ho4 => first | exact one_int _ | exact one_sig _ _ _ _ _ _ _ _ _ _); (case hn4 => rfl)
       intro w4 hg4 ht4 hz4
       have hr4 := (other_block hg4 (show (w.heap.size + 1) ≠ (w1.heap.size + 1) by omega) (by omega)).trans hr3
       have HB4 := Lib.hid (Below.grows HB3.out hg4 HB3.out.size (by omega))
       have hn4 : w.heap.size + 1 < w4.heap.size := by omega
       obtain ⟨f0, f1, f2, f3, f4, f5, f6, f7, f8, f9⟩ := (show BoxG w4 (w1.heap.size + 1) ⟨(j : Int), st, nx, ph, t, a, hh', ak, wt, false⟩ from ht4).cells
       simp only at f0 f1 f2 f3 f4 f5 f6 f7 f8 f9
       clear hg4)
    | ((with_reducible refine wpList_store_part rfl 24 _ _ rfl (w.heap.size + 1) 0 (.agg #[.int .i64 (j : Int), .int .i64 st, .int .i64 nx, .int .i64 ph, .int .i64 t, .int .i64 a, .int .i64 hh', .int .i64 ak, .int .i64 wt, .bool false]) #[.int .i64 (j : Int), .int .i64 st, .int .i64 nx, .int .i64 ph, .int .i64 t, .int .i64 a, .int .i64 hh', .int .i64 ak, .int .i64 wt, .bool false] ?hx9 ?hy9 ?hv9 24 #[.int .i64 0, .int .i64 0, .int .i64 0, .int .i64 0, .int .i64 0, .int .i64 0, .int .i64 0, .int .i64 0, .int .i64 0, .bool false] #[.int .i64 (j : Int), .int .i64 st, .int .i64 nx, .int .i64 ph, .int .i64 t, .int .i64 a, .int .i64 hh', .int .i64 ak, .int .i64 wt, .bool false] hr4 ?hi9 ?hl9 ?ho9 ?hn9 ?_); (case hx9 => rfl); (case hy9 => first | rfl | exact congrArg (Value.int IntKind.i64) v1); (case hv9 => rfl); (case hi9 => first | exact info_one _ | exact info_sig); (case hl9 => simp); (case ho9 => first | exact one_int _ | exact one_sig _ _ _ _ _ _ _ _ _ _); (case hn9 => rfl)
       intro w9 hg9 hr9 hz9
       have HB9 := Lib.hid (Below.grows HB4.out hg9 HB4.out.size (by omega))
       have hn9 : w.heap.size + 1 < w9.heap.size := by omega
       clear hg9))
  all_goals
   refine bodyPost_ret (v := .tuple #[.agg #[.int .i64 (j : Int), .int .i64 st, .int .i64 nx, .int .i64 ph, .int .i64 t, .int .i64 a, .int .i64 hh', .int .i64 ak, .int .i64 wt, .bool false], .int .i64 0]) ?_ rfl ⟨by rw [HR.out]; rfl, HB9.out⟩
   exact results_blk_val Try.results13 _ _ _ (w.heap.size + 1) 24 #[.int .i64 (j : Int), .int .i64 st, .int .i64 nx, .int .i64 ph, .int .i64 t, .int .i64 a, .int .i64 hh', .int .i64 ak, .int .i64 wt, .bool false] (0, 0) _ rfl hr9 Try.underlying24 rfl info_sig _ rfl
set_option maxHeartbeats 8000000 in
theorem rdo_next_low (A : Option Addr) (n c : Nat) (l : List Pl) (s : Sg) (k a : Int) (w : World) (hl : Pls w A n c l) (hts : SmG s) (hm : mayS l s = true) (hk : k = 3) (ha : a < 0) : Calls Try.prog 13 #[.slice A n c, sgV s, .int .i64 k, .int .i64 a] w (GivesGE (doS l s k a) w) := by
  subst hk
  have hsm := hl.small
  have HMY := Lib.hid (fun X (hX : Below w.heap.size w X) => rsmay_any A n c l s X (hl.below hX) hts)
  have HTU := Lib.hid (show ∀ X : World, Calls Try.prog 37 #[.int .i64 3] X fun e w' => e = .returned (.bool (turnsB 3)) ∧ X = w' from fun X => (rturns_any 3 X).mono fun _ _ h => ⟨h.1, h.2.symm⟩)
  rw [hm] at HMY
  rw [show turnsB 3 = true from rfl] at HTU
  have hms := mayS_iff.1 hm
  have hpl0 := hms.p0
  have hpl1 : s.pl < n := by have := hms.p1; rw [hl.len] at this; exact this
  obtain ⟨j, hj⟩ := Int.eq_ofNat_of_zero_le hpl0
  have hjn : j < n := by omega
  obtain ⟨b, off, q, rfl, hq, hmem, -, -, -⟩ := hl.at_ j hjn
  have hqa : planAt l s.pl = q := by rw [hj, planAt, Int.toNat_natCast, hq]
  have hfit := all_fit hms.all hmem
  have HPC := Lib.hid (show ∀ X, Below w.heap.size w X → X.cell? ⟨b, off + j * 5, none⟩ = some (.slice q.A q.n q.c) ∧ X.cell? ⟨b, off + j * 5 + 1, none⟩ = some (.slice q.B q.k q.d) ∧ X.cell? ⟨b, off + j * 5 + 2, none⟩ = some (.int .i64 q.am) ∧ X.cell? ⟨b, off + j * 5 + 3, none⟩ = some (.int .i64 q.rd) ∧ X.cell? ⟨b, off + j * 5 + 4, none⟩ = some (.int .i64 q.hd) from fun X hX => by
    obtain ⟨b2, off2, p2, hA2, hp2, -, -, -, z0, z1, z2, z3, z4⟩ := (hl.below hX).at_ j hjn
    cases hA2
    obtain rfl := hq.symm.trans hp2
    exact ⟨z0, z1, z2, z3, z4⟩)
  have hqk : q.s.length = q.k := (hl.pl q hmem).s.len
  have hqs := (hl.pl q hmem).s.small
  have hll := hl.len
  have hheld := hms.held
  rw [hqa] at hheld
  have hhd2 := (fit_iff.1 hfit).hd2
  have hw1 : wrap64 (q.hd - s.hl) = q.hd - s.hl := by have := hheld.h1; have := hheld.h2; unfold wrap64; omega
  have HR := Lib.hid (show doS l s 3 a = (s, 1) by rw [doS, if_pos ⟨hm, rfl⟩, askS, if_neg (by decide), if_pos rfl, if_pos (.inl ha)])
  obtain ⟨G, hG⟩ : ∃ G, doS l s 3 a = G := ⟨_, rfl⟩
  rw [hG] at HR ⊢
  obtain ⟨P, hP⟩ : ∃ P, (s.ph == 0) = P := ⟨_, rfl⟩
  simp only [sgV] at HMY ⊢
  clear hG hm hl hms hqa hmem hq hfit hheld hhd2 hqk hll 
  obtain ⟨pl, st, nx, ph, t, hd, hh', ak, wt, sp⟩ := s
  try simp only at *
  subst hj
  go_enter Try.func13, Try.ntmps13
  go_wp2_with (first
    | (go_at_call 36
       (with_reducible refine (HMY.out _ (below_alloc2 _ _ _)).mono ?_)
       rintro e w1 ⟨rfl, hb1⟩
       have hs1 := (hb1.block w.heap.size (by simp; omega)).trans (alloc2_old w (.cells #[.int .i64 (j : Int), .int .i64 st, .int .i64 nx, .int .i64 ph, .int .i64 t, .int .i64 hd, .int .i64 hh', .int .i64 ak, .int .i64 wt, .bool sp] 24) (.cells #[.int .i64 0, .int .i64 0, .int .i64 0, .int .i64 0, .int .i64 0, .int .i64 0, .int .i64 0, .int .i64 0, .int .i64 0, .bool false] 24))
       have hr1 := (hb1.block (w.heap.size + 1) (by simp)).trans (alloc2_new w (.cells #[.int .i64 (j : Int), .int .i64 st, .int .i64 nx, .int .i64 ph, .int .i64 t, .int .i64 hd, .int .i64 hh', .int .i64 ak, .int .i64 wt, .bool sp] 24) (.cells #[.int .i64 0, .int .i64 0, .int .i64 0, .int .i64 0, .int .i64 0, .int .i64 0, .int .i64 0, .int .i64 0, .int .i64 0, .bool false] 24))
       have hn1 : w.heap.size + 1 < w1.heap.size := Nat.lt_of_lt_of_le (by simp) hb1.size
       have HB1 := Lib.hid ((below_alloc2 w (.cells #[.int .i64 (j : Int), .int .i64 st, .int .i64 nx, .int .i64 ph, .int .i64 t, .int .i64 hd, .int .i64 hh', .int .i64 ak, .int .i64 wt, .bool sp] 24) (.cells #[.int .i64 0, .int .i64 0, .int .i64 0, .int .i64 0, .int .i64 0, .int .i64 0, .int .i64 0, .int .i64 0, .int .i64 0, .bool false] 24)).trans (hb1.mono (by simp; omega)))
       obtain ⟨c0, c1, c2, c3, c4, c5, c6, c7, c8, c9⟩ := (show BoxG w1 w.heap.size ⟨(j : Int), st, nx, ph, t, hd, hh', ak, wt, sp⟩ from hs1).cells
       simp only at c0 c1 c2 c3 c4 c5 c6 c7 c8 c9
       obtain ⟨p0, p1, p2, p3, p4⟩ := HPC.out w1 HB1.out
       have hbp := one_alloc w1 (.cells #[.slice q.A q.n q.c, .slice q.B q.k q.d, .int .i64 q.am, .int .i64 q.rd, .int .i64 q.hd] 47)
       have hs2 := (hbp.block w.heap.size (by omega)).trans hs1
       obtain ⟨d0, d1, d2, d3, d4, d5, d6, d7, d8, d9⟩ := (show BoxG (w1.alloc (.cells #[.slice q.A q.n q.c, .slice q.B q.k q.d, .int .i64 q.am, .int .i64 q.rd, .int .i64 q.hd] 47)) w.heap.size ⟨(j : Int), st, nx, ph, t, hd, hh', ak, wt, sp⟩ from hs2).cells
       simp only at d0 d1 d2 d3 d4 d5 d6 d7 d8 d9
       have hp2 := heap_alloc_new w1 (.cells #[.slice q.A q.n q.c, .slice q.B q.k q.d, .int .i64 q.am, .int .i64 q.rd, .int .i64 q.hd] 47)
       obtain ⟨r0, r1, r2, r3, r4⟩ := (show BoxP (w1.alloc (.cells #[.slice q.A q.n q.c, .slice q.B q.k q.d, .int .i64 q.am, .int .i64 q.rd, .int .i64 q.hd] 47)) w1.heap.size q from hp2).cells
       have hbt := below_alloc2 w1 (.cells #[.slice q.A q.n q.c, .slice q.B q.k q.d, .int .i64 q.am, .int .i64 q.rd, .int .i64 q.hd] 47) (.cells #[.int .i64 (j : Int), .int .i64 st, .int .i64 nx, .int .i64 ph, .int .i64 t, .int .i64 hd, .int .i64 hh', .int .i64 ak, .int .i64 wt, .bool sp] 24)
       have hs3 := (hbt.block w.heap.size (by omega)).trans hs1
       have hr3 := (hbt.block (w.heap.size + 1) (by omega)).trans hr1
       have hp3 := alloc2_old w1 (.cells #[.slice q.A q.n q.c, .slice q.B q.k q.d, .int .i64 q.am, .int .i64 q.rd, .int .i64 q.hd] 47) (.cells #[.int .i64 (j : Int), .int .i64 st, .int .i64 nx, .int .i64 ph, .int .i64 t, .int .i64 hd, .int .i64 hh', .int .i64 ak, .int .i64 wt, .bool sp] 24)
       have ht3 := alloc2_new w1 (.cells #[.slice q.A q.n q.c, .slice q.B q.k q.d, .int .i64 q.am, .int .i64 q.rd, .int .i64 q.hd] 47) (.cells #[.int .i64 (j : Int), .int .i64 st, .int .i64 nx, .int .i64 ph, .int .i64 t, .int .i64 hd, .int .i64 hh', .int .i64 ak, .int .i64 wt, .bool sp] 24)
       have hn3 : w1.heap.size + 1 < ((w1.alloc (.cells #[.slice q.A q.n q.c, .slice q.B q.k q.d, .int .i64 q.am, .int .i64 q.rd, .int .i64 q.hd] 47)).alloc (.cells #[.int .i64 (j : Int), .int .i64 st, .int .i64 nx, .int .i64 ph, .int .i64 t, .int .i64 hd, .int .i64 hh', .int .i64 ak, .int .i64 wt, .bool sp] 24)).heap.size := by simp
       have hm3 : w.heap.size + 1 < ((w1.alloc (.cells #[.slice q.A q.n q.c, .slice q.B q.k q.d, .int .i64 q.am, .int .i64 q.rd, .int .i64 q.hd] 47)).alloc (.cells #[.int .i64 (j : Int), .int .i64 st, .int .i64 nx, .int .i64 ph, .int .i64 t, .int .i64 hd, .int .i64 hh', .int .i64 ak, .int .i64 wt, .bool sp] 24)).heap.size := Nat.lt_trans hn1 (by simp; omega)
       have HB3 := Lib.hid (HB1.out.trans (hbt.mono HB1.out.size))
       obtain ⟨e0, e1, e2, e3, e4, e5, e6, e7, e8, e9⟩ := (show BoxG ((w1.alloc (.cells #[.slice q.A q.n q.c, .slice q.B q.k q.d, .int .i64 q.am, .int .i64 q.rd, .int .i64 q.hd] 47)).alloc (.cells #[.int .i64 (j : Int), .int .i64 st, .int .i64 nx, .int .i64 ph, .int .i64 t, .int .i64 hd, .int .i64 hh', .int .i64 ak, .int .i64 wt, .bool sp] 24)) w.heap.size ⟨(j : Int), st, nx, ph, t, hd, hh', ak, wt, sp⟩ from hs3).cells
       simp only at e0 e1 e2 e3 e4 e5 e6 e7 e8 e9
       obtain ⟨q0, q1, q2, q3, q4⟩ := (show BoxP ((w1.alloc (.cells #[.slice q.A q.n q.c, .slice q.B q.k q.d, .int .i64 q.am, .int .i64 q.rd, .int .i64 q.hd] 47)).alloc (.cells #[.int .i64 (j : Int), .int .i64 st, .int .i64 nx, .int .i64 ph, .int .i64 t, .int .i64 hd, .int .i64 hh', .int .i64 ak, .int .i64 wt, .bool sp] 24)) w1.heap.size q from hp3).cells
       clear hbp hbt hs2 hp2
       clear hb1)
    | (go_at_call 37
       (with_reducible refine (HTU.out _).mono ?_)
       rintro e w2 ⟨rfl, rfl⟩)
    | ((with_reducible refine wpList_store_part rfl 24 _ _ rfl (w.heap.size + 1) 0 (.agg #[.int .i64 (j : Int), .int .i64 st, .int .i64 nx, .int .i64 ph, .int .i64 t, .int .i64 hd, .int .i64 hh', .int .i64 ak, .int .i64 wt, .bool sp]) #[.int .i64 (j : Int), .int .i64 st, .int .i64 nx, .int .i64 ph, .int .i64 t, .int .i64 hd, .int .i64 hh', .int .i64 ak, .int .i64 wt, .bool sp] ?hx9 ?hy9 ?hv9 24 #[.int .i64 0, .int .i64 0, .int .i64 0, .int .i64 0, .int .i64 0, .int .i64 0, .int .i64 0, .int .i64 0, .int .i64 0, .bool false] #[.int .i64 (j : Int), .int .i64 st, .int .i64 nx, .int .i64 ph, .int .i64 t, .int .i64 hd, .int .i64 hh', .int .i64 ak, .int .i64 wt, .bool sp] hr3 ?hi9 ?hl9 ?ho9 ?hn9 ?_); (case hx9 => rfl); (case hy9 => first | rfl | exact congrArg (Value.int IntKind.i64) v1); (case hv9 => rfl); (case hi9 => first | exact info_one _ | exact info_sig); (case hl9 => simp); (case ho9 => first | exact one_int _ | exact one_sig _ _ _ _ _ _ _ _ _ _); (case hn9 => rfl)
       intro w9 hg9 hr9 hz9
       have HB9 := Lib.hid (Below.grows HB3.out hg9 HB3.out.size (by omega))
       have hn9 : w.heap.size + 1 < w9.heap.size := by omega
       clear hg9))
  all_goals
   refine bodyPost_ret (v := .tuple #[.agg #[.int .i64 (j : Int), .int .i64 st, .int .i64 nx, .int .i64 ph, .int .i64 t, .int .i64 hd, .int .i64 hh', .int .i64 ak, .int .i64 wt, .bool sp], .int .i64 1]) ?_ rfl ⟨by rw [HR.out]; rfl, HB9.out⟩
   exact results_blk_val Try.results13 _ _ _ (w.heap.size + 1) 24 #[.int .i64 (j : Int), .int .i64 st, .int .i64 nx, .int .i64 ph, .int .i64 t, .int .i64 hd, .int .i64 hh', .int .i64 ak, .int .i64 wt, .bool sp] (0, 0) _ rfl hr9 Try.underlying24 rfl info_sig _ rfl
set_option maxHeartbeats 8000000 in
theorem rdo_next_much (A : Option Addr) (n c : Nat) (l : List Pl) (s : Sg) (k a : Int) (w : World) (hl : Pls w A n c l) (hts : SmG s) (hm : mayS l s = true) (hk : k = 3) (ha : ¬ a < 0) (hb : (planAt l s.pl).s.length ≤ a) : Calls Try.prog 13 #[.slice A n c, sgV s, .int .i64 k, .int .i64 a] w (GivesGE (doS l s k a) w) := by
  subst hk
  have hsm := hl.small
  have HMY := Lib.hid (fun X (hX : Below w.heap.size w X) => rsmay_any A n c l s X (hl.below hX) hts)
  have HTU := Lib.hid (show ∀ X : World, Calls Try.prog 37 #[.int .i64 3] X fun e w' => e = .returned (.bool (turnsB 3)) ∧ X = w' from fun X => (rturns_any 3 X).mono fun _ _ h => ⟨h.1, h.2.symm⟩)
  rw [hm] at HMY
  rw [show turnsB 3 = true from rfl] at HTU
  have hms := mayS_iff.1 hm
  have hpl0 := hms.p0
  have hpl1 : s.pl < n := by have := hms.p1; rw [hl.len] at this; exact this
  obtain ⟨j, hj⟩ := Int.eq_ofNat_of_zero_le hpl0
  have hjn : j < n := by omega
  obtain ⟨b, off, q, rfl, hq, hmem, -, -, -⟩ := hl.at_ j hjn
  have hqa : planAt l s.pl = q := by rw [hj, planAt, Int.toNat_natCast, hq]
  have hfit := all_fit hms.all hmem
  have HPC := Lib.hid (show ∀ X, Below w.heap.size w X → X.cell? ⟨b, off + j * 5, none⟩ = some (.slice q.A q.n q.c) ∧ X.cell? ⟨b, off + j * 5 + 1, none⟩ = some (.slice q.B q.k q.d) ∧ X.cell? ⟨b, off + j * 5 + 2, none⟩ = some (.int .i64 q.am) ∧ X.cell? ⟨b, off + j * 5 + 3, none⟩ = some (.int .i64 q.rd) ∧ X.cell? ⟨b, off + j * 5 + 4, none⟩ = some (.int .i64 q.hd) from fun X hX => by
    obtain ⟨b2, off2, p2, hA2, hp2, -, -, -, z0, z1, z2, z3, z4⟩ := (hl.below hX).at_ j hjn
    cases hA2
    obtain rfl := hq.symm.trans hp2
    exact ⟨z0, z1, z2, z3, z4⟩)
  have hqk : q.s.length = q.k := (hl.pl q hmem).s.len
  have hqs := (hl.pl q hmem).s.small
  have hll := hl.len
  have hheld := hms.held
  rw [hqa] at hheld
  have hhd2 := (fit_iff.1 hfit).hd2
  have hw1 : wrap64 (q.hd - s.hl) = q.hd - s.hl := by have := hheld.h1; have := hheld.h2; unfold wrap64; omega
  have HR := Lib.hid (show doS l s 3 a = (s, 1) by rw [doS, if_pos ⟨hm, rfl⟩, askS, if_neg (by decide), if_pos rfl, if_pos (.inr hb)])
  obtain ⟨G, hG⟩ : ∃ G, doS l s 3 a = G := ⟨_, rfl⟩
  rw [hG] at HR ⊢
  obtain ⟨P, hP⟩ : ∃ P, (s.ph == 0) = P := ⟨_, rfl⟩
  have ha1 : (q.k : Int) ≤ a := by rw [hqa, hqk] at hb; exact hb
  simp only [sgV] at HMY ⊢
  clear hG hm hl hms hqa hmem hq hfit hheld hhd2 hqk hll hb
  obtain ⟨pl, st, nx, ph, t, hd, hh', ak, wt, sp⟩ := s
  try simp only at *
  subst hj
  go_enter Try.func13, Try.ntmps13
  go_wp2_with (first
    | (go_at_call 36
       (with_reducible refine (HMY.out _ (below_alloc2 _ _ _)).mono ?_)
       rintro e w1 ⟨rfl, hb1⟩
       have hs1 := (hb1.block w.heap.size (by simp; omega)).trans (alloc2_old w (.cells #[.int .i64 (j : Int), .int .i64 st, .int .i64 nx, .int .i64 ph, .int .i64 t, .int .i64 hd, .int .i64 hh', .int .i64 ak, .int .i64 wt, .bool sp] 24) (.cells #[.int .i64 0, .int .i64 0, .int .i64 0, .int .i64 0, .int .i64 0, .int .i64 0, .int .i64 0, .int .i64 0, .int .i64 0, .bool false] 24))
       have hr1 := (hb1.block (w.heap.size + 1) (by simp)).trans (alloc2_new w (.cells #[.int .i64 (j : Int), .int .i64 st, .int .i64 nx, .int .i64 ph, .int .i64 t, .int .i64 hd, .int .i64 hh', .int .i64 ak, .int .i64 wt, .bool sp] 24) (.cells #[.int .i64 0, .int .i64 0, .int .i64 0, .int .i64 0, .int .i64 0, .int .i64 0, .int .i64 0, .int .i64 0, .int .i64 0, .bool false] 24))
       have hn1 : w.heap.size + 1 < w1.heap.size := Nat.lt_of_lt_of_le (by simp) hb1.size
       have HB1 := Lib.hid ((below_alloc2 w (.cells #[.int .i64 (j : Int), .int .i64 st, .int .i64 nx, .int .i64 ph, .int .i64 t, .int .i64 hd, .int .i64 hh', .int .i64 ak, .int .i64 wt, .bool sp] 24) (.cells #[.int .i64 0, .int .i64 0, .int .i64 0, .int .i64 0, .int .i64 0, .int .i64 0, .int .i64 0, .int .i64 0, .int .i64 0, .bool false] 24)).trans (hb1.mono (by simp; omega)))
       obtain ⟨c0, c1, c2, c3, c4, c5, c6, c7, c8, c9⟩ := (show BoxG w1 w.heap.size ⟨(j : Int), st, nx, ph, t, hd, hh', ak, wt, sp⟩ from hs1).cells
       simp only at c0 c1 c2 c3 c4 c5 c6 c7 c8 c9
       obtain ⟨p0, p1, p2, p3, p4⟩ := HPC.out w1 HB1.out
       have hbp := one_alloc w1 (.cells #[.slice q.A q.n q.c, .slice q.B q.k q.d, .int .i64 q.am, .int .i64 q.rd, .int .i64 q.hd] 47)
       have hs2 := (hbp.block w.heap.size (by omega)).trans hs1
       obtain ⟨d0, d1, d2, d3, d4, d5, d6, d7, d8, d9⟩ := (show BoxG (w1.alloc (.cells #[.slice q.A q.n q.c, .slice q.B q.k q.d, .int .i64 q.am, .int .i64 q.rd, .int .i64 q.hd] 47)) w.heap.size ⟨(j : Int), st, nx, ph, t, hd, hh', ak, wt, sp⟩ from hs2).cells
       simp only at d0 d1 d2 d3 d4 d5 d6 d7 d8 d9
       have hp2 := heap_alloc_new w1 (.cells #[.slice q.A q.n q.c, .slice q.B q.k q.d, .int .i64 q.am, .int .i64 q.rd, .int .i64 q.hd] 47)
       obtain ⟨r0, r1, r2, r3, r4⟩ := (show BoxP (w1.alloc (.cells #[.slice q.A q.n q.c, .slice q.B q.k q.d, .int .i64 q.am, .int .i64 q.rd, .int .i64 q.hd] 47)) w1.heap.size q from hp2).cells
       have hbt := below_alloc2 w1 (.cells #[.slice q.A q.n q.c, .slice q.B q.k q.d, .int .i64 q.am, .int .i64 q.rd, .int .i64 q.hd] 47) (.cells #[.int .i64 (j : Int), .int .i64 st, .int .i64 nx, .int .i64 ph, .int .i64 t, .int .i64 hd, .int .i64 hh', .int .i64 ak, .int .i64 wt, .bool sp] 24)
       have hs3 := (hbt.block w.heap.size (by omega)).trans hs1
       have hr3 := (hbt.block (w.heap.size + 1) (by omega)).trans hr1
       have hp3 := alloc2_old w1 (.cells #[.slice q.A q.n q.c, .slice q.B q.k q.d, .int .i64 q.am, .int .i64 q.rd, .int .i64 q.hd] 47) (.cells #[.int .i64 (j : Int), .int .i64 st, .int .i64 nx, .int .i64 ph, .int .i64 t, .int .i64 hd, .int .i64 hh', .int .i64 ak, .int .i64 wt, .bool sp] 24)
       have ht3 := alloc2_new w1 (.cells #[.slice q.A q.n q.c, .slice q.B q.k q.d, .int .i64 q.am, .int .i64 q.rd, .int .i64 q.hd] 47) (.cells #[.int .i64 (j : Int), .int .i64 st, .int .i64 nx, .int .i64 ph, .int .i64 t, .int .i64 hd, .int .i64 hh', .int .i64 ak, .int .i64 wt, .bool sp] 24)
       have hn3 : w1.heap.size + 1 < ((w1.alloc (.cells #[.slice q.A q.n q.c, .slice q.B q.k q.d, .int .i64 q.am, .int .i64 q.rd, .int .i64 q.hd] 47)).alloc (.cells #[.int .i64 (j : Int), .int .i64 st, .int .i64 nx, .int .i64 ph, .int .i64 t, .int .i64 hd, .int .i64 hh', .int .i64 ak, .int .i64 wt, .bool sp] 24)).heap.size := by simp
       have hm3 : w.heap.size + 1 < ((w1.alloc (.cells #[.slice q.A q.n q.c, .slice q.B q.k q.d, .int .i64 q.am, .int .i64 q.rd, .int .i64 q.hd] 47)).alloc (.cells #[.int .i64 (j : Int), .int .i64 st, .int .i64 nx, .int .i64 ph, .int .i64 t, .int .i64 hd, .int .i64 hh', .int .i64 ak, .int .i64 wt, .bool sp] 24)).heap.size := Nat.lt_trans hn1 (by simp; omega)
       have HB3 := Lib.hid (HB1.out.trans (hbt.mono HB1.out.size))
       obtain ⟨e0, e1, e2, e3, e4, e5, e6, e7, e8, e9⟩ := (show BoxG ((w1.alloc (.cells #[.slice q.A q.n q.c, .slice q.B q.k q.d, .int .i64 q.am, .int .i64 q.rd, .int .i64 q.hd] 47)).alloc (.cells #[.int .i64 (j : Int), .int .i64 st, .int .i64 nx, .int .i64 ph, .int .i64 t, .int .i64 hd, .int .i64 hh', .int .i64 ak, .int .i64 wt, .bool sp] 24)) w.heap.size ⟨(j : Int), st, nx, ph, t, hd, hh', ak, wt, sp⟩ from hs3).cells
       simp only at e0 e1 e2 e3 e4 e5 e6 e7 e8 e9
       obtain ⟨q0, q1, q2, q3, q4⟩ := (show BoxP ((w1.alloc (.cells #[.slice q.A q.n q.c, .slice q.B q.k q.d, .int .i64 q.am, .int .i64 q.rd, .int .i64 q.hd] 47)).alloc (.cells #[.int .i64 (j : Int), .int .i64 st, .int .i64 nx, .int .i64 ph, .int .i64 t, .int .i64 hd, .int .i64 hh', .int .i64 ak, .int .i64 wt, .bool sp] 24)) w1.heap.size q from hp3).cells
       clear hbp hbt hs2 hp2
       clear hb1)
    | (go_at_call 37
       (with_reducible refine (HTU.out _).mono ?_)
       rintro e w2 ⟨rfl, rfl⟩)
    | ((with_reducible refine wpList_store_part rfl 24 _ _ rfl (w.heap.size + 1) 0 (.agg #[.int .i64 (j : Int), .int .i64 st, .int .i64 nx, .int .i64 ph, .int .i64 t, .int .i64 hd, .int .i64 hh', .int .i64 ak, .int .i64 wt, .bool sp]) #[.int .i64 (j : Int), .int .i64 st, .int .i64 nx, .int .i64 ph, .int .i64 t, .int .i64 hd, .int .i64 hh', .int .i64 ak, .int .i64 wt, .bool sp] ?hx9 ?hy9 ?hv9 24 #[.int .i64 0, .int .i64 0, .int .i64 0, .int .i64 0, .int .i64 0, .int .i64 0, .int .i64 0, .int .i64 0, .int .i64 0, .bool false] #[.int .i64 (j : Int), .int .i64 st, .int .i64 nx, .int .i64 ph, .int .i64 t, .int .i64 hd, .int .i64 hh', .int .i64 ak, .int .i64 wt, .bool sp] hr3 ?hi9 ?hl9 ?ho9 ?hn9 ?_); (case hx9 => rfl); (case hy9 => first | rfl | exact congrArg (Value.int IntKind.i64) v1); (case hv9 => rfl); (case hi9 => first | exact info_one _ | exact info_sig); (case hl9 => simp); (case ho9 => first | exact one_int _ | exact one_sig _ _ _ _ _ _ _ _ _ _); (case hn9 => rfl)
       intro w9 hg9 hr9 hz9
       have HB9 := Lib.hid (Below.grows HB3.out hg9 HB3.out.size (by omega))
       have hn9 : w.heap.size + 1 < w9.heap.size := by omega
       clear hg9))
  all_goals
   refine bodyPost_ret (v := .tuple #[.agg #[.int .i64 (j : Int), .int .i64 st, .int .i64 nx, .int .i64 ph, .int .i64 t, .int .i64 hd, .int .i64 hh', .int .i64 ak, .int .i64 wt, .bool sp], .int .i64 1]) ?_ rfl ⟨by rw [HR.out]; rfl, HB9.out⟩
   exact results_blk_val Try.results13 _ _ _ (w.heap.size + 1) 24 #[.int .i64 (j : Int), .int .i64 st, .int .i64 nx, .int .i64 ph, .int .i64 t, .int .i64 hd, .int .i64 hh', .int .i64 ak, .int .i64 wt, .bool sp] (0, 0) _ rfl hr9 Try.underlying24 rfl info_sig _ rfl
set_option maxHeartbeats 8000000 in
theorem rdo_next_ph (A : Option Addr) (n c : Nat) (l : List Pl) (s : Sg) (k a : Int) (w : World) (hl : Pls w A n c l) (hts : SmG s) (hm : mayS l s = true) (hk : k = 3) (ha : ¬ a < 0) (hb : ¬ (planAt l s.pl).s.length ≤ a) (hp : s.ph ≠ 0) : Calls Try.prog 13 #[.slice A n c, sgV s, .int .i64 k, .int .i64 a] w (GivesGE (doS l s k a) w) := by
  subst hk
  have hsm := hl.small
  have HMY := Lib.hid (fun X (hX : Below w.heap.size w X) => rsmay_any A n c l s X (hl.below hX) hts)
  have HTU := Lib.hid (show ∀ X : World, Calls Try.prog 37 #[.int .i64 3] X fun e w' => e = .returned (.bool (turnsB 3)) ∧ X = w' from fun X => (rturns_any 3 X).mono fun _ _ h => ⟨h.1, h.2.symm⟩)
  rw [hm] at HMY
  rw [show turnsB 3 = true from rfl] at HTU
  have hms := mayS_iff.1 hm
  have hpl0 := hms.p0
  have hpl1 : s.pl < n := by have := hms.p1; rw [hl.len] at this; exact this
  obtain ⟨j, hj⟩ := Int.eq_ofNat_of_zero_le hpl0
  have hjn : j < n := by omega
  obtain ⟨b, off, q, rfl, hq, hmem, -, -, -⟩ := hl.at_ j hjn
  have hqa : planAt l s.pl = q := by rw [hj, planAt, Int.toNat_natCast, hq]
  have hfit := all_fit hms.all hmem
  have HPC := Lib.hid (show ∀ X, Below w.heap.size w X → X.cell? ⟨b, off + j * 5, none⟩ = some (.slice q.A q.n q.c) ∧ X.cell? ⟨b, off + j * 5 + 1, none⟩ = some (.slice q.B q.k q.d) ∧ X.cell? ⟨b, off + j * 5 + 2, none⟩ = some (.int .i64 q.am) ∧ X.cell? ⟨b, off + j * 5 + 3, none⟩ = some (.int .i64 q.rd) ∧ X.cell? ⟨b, off + j * 5 + 4, none⟩ = some (.int .i64 q.hd) from fun X hX => by
    obtain ⟨b2, off2, p2, hA2, hp2, -, -, -, z0, z1, z2, z3, z4⟩ := (hl.below hX).at_ j hjn
    cases hA2
    obtain rfl := hq.symm.trans hp2
    exact ⟨z0, z1, z2, z3, z4⟩)
  have hqk : q.s.length = q.k := (hl.pl q hmem).s.len
  have hqs := (hl.pl q hmem).s.small
  have hll := hl.len
  have hheld := hms.held
  rw [hqa] at hheld
  have hhd2 := (fit_iff.1 hfit).hd2
  have hw1 : wrap64 (q.hd - s.hl) = q.hd - s.hl := by have := hheld.h1; have := hheld.h2; unfold wrap64; omega
  have HR := Lib.hid (show doS l s 3 a = (s, 11) by rw [doS, if_pos ⟨hm, rfl⟩, askS, if_neg (by decide), if_pos rfl, if_neg (fun h => h.elim ha hb), if_pos (.inl fun h => hp h.1)])
  obtain ⟨G, hG⟩ : ∃ G, doS l s 3 a = G := ⟨_, rfl⟩
  rw [hG] at HR ⊢
  have ha1 : ¬ ((q.k : Int) ≤ a) := by rw [hqa, hqk] at hb; exact hb
  have hpb : (s.ph == 0) = false := by rw [beq_eq_false_iff_ne]; exact hp
  simp only [sgV] at HMY ⊢
  clear hG hm hl hms hqa hmem hq hfit hheld hhd2 hqk hll hb hp
  obtain ⟨pl, st, nx, ph, t, hd, hh', ak, wt, sp⟩ := s
  try simp only at *
  subst hj
  go_enter Try.func13, Try.ntmps13
  go_wp2_with (first
    | (go_at_call 36
       (with_reducible refine (HMY.out _ (below_alloc2 _ _ _)).mono ?_)
       rintro e w1 ⟨rfl, hb1⟩
       have hs1 := (hb1.block w.heap.size (by simp; omega)).trans (alloc2_old w (.cells #[.int .i64 (j : Int), .int .i64 st, .int .i64 nx, .int .i64 ph, .int .i64 t, .int .i64 hd, .int .i64 hh', .int .i64 ak, .int .i64 wt, .bool sp] 24) (.cells #[.int .i64 0, .int .i64 0, .int .i64 0, .int .i64 0, .int .i64 0, .int .i64 0, .int .i64 0, .int .i64 0, .int .i64 0, .bool false] 24))
       have hr1 := (hb1.block (w.heap.size + 1) (by simp)).trans (alloc2_new w (.cells #[.int .i64 (j : Int), .int .i64 st, .int .i64 nx, .int .i64 ph, .int .i64 t, .int .i64 hd, .int .i64 hh', .int .i64 ak, .int .i64 wt, .bool sp] 24) (.cells #[.int .i64 0, .int .i64 0, .int .i64 0, .int .i64 0, .int .i64 0, .int .i64 0, .int .i64 0, .int .i64 0, .int .i64 0, .bool false] 24))
       have hn1 : w.heap.size + 1 < w1.heap.size := Nat.lt_of_lt_of_le (by simp) hb1.size
       have HB1 := Lib.hid ((below_alloc2 w (.cells #[.int .i64 (j : Int), .int .i64 st, .int .i64 nx, .int .i64 ph, .int .i64 t, .int .i64 hd, .int .i64 hh', .int .i64 ak, .int .i64 wt, .bool sp] 24) (.cells #[.int .i64 0, .int .i64 0, .int .i64 0, .int .i64 0, .int .i64 0, .int .i64 0, .int .i64 0, .int .i64 0, .int .i64 0, .bool false] 24)).trans (hb1.mono (by simp; omega)))
       obtain ⟨c0, c1, c2, c3, c4, c5, c6, c7, c8, c9⟩ := (show BoxG w1 w.heap.size ⟨(j : Int), st, nx, ph, t, hd, hh', ak, wt, sp⟩ from hs1).cells
       simp only at c0 c1 c2 c3 c4 c5 c6 c7 c8 c9
       obtain ⟨p0, p1, p2, p3, p4⟩ := HPC.out w1 HB1.out
       have hbp := one_alloc w1 (.cells #[.slice q.A q.n q.c, .slice q.B q.k q.d, .int .i64 q.am, .int .i64 q.rd, .int .i64 q.hd] 47)
       have hs2 := (hbp.block w.heap.size (by omega)).trans hs1
       obtain ⟨d0, d1, d2, d3, d4, d5, d6, d7, d8, d9⟩ := (show BoxG (w1.alloc (.cells #[.slice q.A q.n q.c, .slice q.B q.k q.d, .int .i64 q.am, .int .i64 q.rd, .int .i64 q.hd] 47)) w.heap.size ⟨(j : Int), st, nx, ph, t, hd, hh', ak, wt, sp⟩ from hs2).cells
       simp only at d0 d1 d2 d3 d4 d5 d6 d7 d8 d9
       have hp2 := heap_alloc_new w1 (.cells #[.slice q.A q.n q.c, .slice q.B q.k q.d, .int .i64 q.am, .int .i64 q.rd, .int .i64 q.hd] 47)
       obtain ⟨r0, r1, r2, r3, r4⟩ := (show BoxP (w1.alloc (.cells #[.slice q.A q.n q.c, .slice q.B q.k q.d, .int .i64 q.am, .int .i64 q.rd, .int .i64 q.hd] 47)) w1.heap.size q from hp2).cells
       have hbt := below_alloc2 w1 (.cells #[.slice q.A q.n q.c, .slice q.B q.k q.d, .int .i64 q.am, .int .i64 q.rd, .int .i64 q.hd] 47) (.cells #[.int .i64 (j : Int), .int .i64 st, .int .i64 nx, .int .i64 ph, .int .i64 t, .int .i64 hd, .int .i64 hh', .int .i64 ak, .int .i64 wt, .bool sp] 24)
       have hs3 := (hbt.block w.heap.size (by omega)).trans hs1
       have hr3 := (hbt.block (w.heap.size + 1) (by omega)).trans hr1
       have hp3 := alloc2_old w1 (.cells #[.slice q.A q.n q.c, .slice q.B q.k q.d, .int .i64 q.am, .int .i64 q.rd, .int .i64 q.hd] 47) (.cells #[.int .i64 (j : Int), .int .i64 st, .int .i64 nx, .int .i64 ph, .int .i64 t, .int .i64 hd, .int .i64 hh', .int .i64 ak, .int .i64 wt, .bool sp] 24)
       have ht3 := alloc2_new w1 (.cells #[.slice q.A q.n q.c, .slice q.B q.k q.d, .int .i64 q.am, .int .i64 q.rd, .int .i64 q.hd] 47) (.cells #[.int .i64 (j : Int), .int .i64 st, .int .i64 nx, .int .i64 ph, .int .i64 t, .int .i64 hd, .int .i64 hh', .int .i64 ak, .int .i64 wt, .bool sp] 24)
       have hn3 : w1.heap.size + 1 < ((w1.alloc (.cells #[.slice q.A q.n q.c, .slice q.B q.k q.d, .int .i64 q.am, .int .i64 q.rd, .int .i64 q.hd] 47)).alloc (.cells #[.int .i64 (j : Int), .int .i64 st, .int .i64 nx, .int .i64 ph, .int .i64 t, .int .i64 hd, .int .i64 hh', .int .i64 ak, .int .i64 wt, .bool sp] 24)).heap.size := by simp
       have hm3 : w.heap.size + 1 < ((w1.alloc (.cells #[.slice q.A q.n q.c, .slice q.B q.k q.d, .int .i64 q.am, .int .i64 q.rd, .int .i64 q.hd] 47)).alloc (.cells #[.int .i64 (j : Int), .int .i64 st, .int .i64 nx, .int .i64 ph, .int .i64 t, .int .i64 hd, .int .i64 hh', .int .i64 ak, .int .i64 wt, .bool sp] 24)).heap.size := Nat.lt_trans hn1 (by simp; omega)
       have HB3 := Lib.hid (HB1.out.trans (hbt.mono HB1.out.size))
       obtain ⟨e0, e1, e2, e3, e4, e5, e6, e7, e8, e9⟩ := (show BoxG ((w1.alloc (.cells #[.slice q.A q.n q.c, .slice q.B q.k q.d, .int .i64 q.am, .int .i64 q.rd, .int .i64 q.hd] 47)).alloc (.cells #[.int .i64 (j : Int), .int .i64 st, .int .i64 nx, .int .i64 ph, .int .i64 t, .int .i64 hd, .int .i64 hh', .int .i64 ak, .int .i64 wt, .bool sp] 24)) w.heap.size ⟨(j : Int), st, nx, ph, t, hd, hh', ak, wt, sp⟩ from hs3).cells
       simp only at e0 e1 e2 e3 e4 e5 e6 e7 e8 e9
       obtain ⟨q0, q1, q2, q3, q4⟩ := (show BoxP ((w1.alloc (.cells #[.slice q.A q.n q.c, .slice q.B q.k q.d, .int .i64 q.am, .int .i64 q.rd, .int .i64 q.hd] 47)).alloc (.cells #[.int .i64 (j : Int), .int .i64 st, .int .i64 nx, .int .i64 ph, .int .i64 t, .int .i64 hd, .int .i64 hh', .int .i64 ak, .int .i64 wt, .bool sp] 24)) w1.heap.size q from hp3).cells
       clear hbp hbt hs2 hp2
       clear hb1)
    | (go_at_call 37
       (with_reducible refine (HTU.out _).mono ?_)
       rintro e w2 ⟨rfl, rfl⟩)
    | ((with_reducible refine wpList_store_part rfl 24 _ _ rfl (w.heap.size + 1) 0 (.agg #[.int .i64 (j : Int), .int .i64 st, .int .i64 nx, .int .i64 ph, .int .i64 t, .int .i64 hd, .int .i64 hh', .int .i64 ak, .int .i64 wt, .bool sp]) #[.int .i64 (j : Int), .int .i64 st, .int .i64 nx, .int .i64 ph, .int .i64 t, .int .i64 hd, .int .i64 hh', .int .i64 ak, .int .i64 wt, .bool sp] ?hx9 ?hy9 ?hv9 24 #[.int .i64 0, .int .i64 0, .int .i64 0, .int .i64 0, .int .i64 0, .int .i64 0, .int .i64 0, .int .i64 0, .int .i64 0, .bool false] #[.int .i64 (j : Int), .int .i64 st, .int .i64 nx, .int .i64 ph, .int .i64 t, .int .i64 hd, .int .i64 hh', .int .i64 ak, .int .i64 wt, .bool sp] hr3 ?hi9 ?hl9 ?ho9 ?hn9 ?_); (case hx9 => rfl); (case hy9 => first | rfl | exact congrArg (Value.int IntKind.i64) v1); (case hv9 => rfl); (case hi9 => first | exact info_one _ | exact info_sig); (case hl9 => simp); (case ho9 => first | exact one_int _ | exact one_sig _ _ _ _ _ _ _ _ _ _); (case hn9 => rfl)
       intro w9 hg9 hr9 hz9
       have HB9 := Lib.hid (Below.grows HB3.out hg9 HB3.out.size (by omega))
       have hn9 : w.heap.size + 1 < w9.heap.size := by omega
       clear hg9))
  all_goals
   refine bodyPost_ret (v := .tuple #[.agg #[.int .i64 (j : Int), .int .i64 st, .int .i64 nx, .int .i64 ph, .int .i64 t, .int .i64 hd, .int .i64 hh', .int .i64 ak, .int .i64 wt, .bool sp], .int .i64 11]) ?_ rfl ⟨by rw [HR.out]; rfl, HB9.out⟩
   exact results_blk_val Try.results13 _ _ _ (w.heap.size + 1) 24 #[.int .i64 (j : Int), .int .i64 st, .int .i64 nx, .int .i64 ph, .int .i64 t, .int .i64 hd, .int .i64 hh', .int .i64 ak, .int .i64 wt, .bool sp] (0, 0) _ rfl hr9 Try.underlying24 rfl info_sig _ rfl
set_option maxHeartbeats 8000000 in
theorem rdo_next_sp (A : Option Addr) (n c : Nat) (l : List Pl) (s : Sg) (k a : Int) (w : World) (hl : Pls w A n c l) (hts : SmG s) (hm : mayS l s = true) (hk : k = 3) (ha : ¬ a < 0) (hb : ¬ (planAt l s.pl).s.length ≤ a) (hp : s.ph = 0) (hs : s.sp = true) : Calls Try.prog 13 #[.slice A n c, sgV s, .int .i64 k, .int .i64 a] w (GivesGE (doS l s k a) w) := by
  subst hk
  have hsm := hl.small
  have HMY := Lib.hid (fun X (hX : Below w.heap.size w X) => rsmay_any A n c l s X (hl.below hX) hts)
  have HTU := Lib.hid (show ∀ X : World, Calls Try.prog 37 #[.int .i64 3] X fun e w' => e = .returned (.bool (turnsB 3)) ∧ X = w' from fun X => (rturns_any 3 X).mono fun _ _ h => ⟨h.1, h.2.symm⟩)
  rw [hm] at HMY
  rw [show turnsB 3 = true from rfl] at HTU
  have hms := mayS_iff.1 hm
  have hpl0 := hms.p0
  have hpl1 : s.pl < n := by have := hms.p1; rw [hl.len] at this; exact this
  obtain ⟨j, hj⟩ := Int.eq_ofNat_of_zero_le hpl0
  have hjn : j < n := by omega
  obtain ⟨b, off, q, rfl, hq, hmem, -, -, -⟩ := hl.at_ j hjn
  have hqa : planAt l s.pl = q := by rw [hj, planAt, Int.toNat_natCast, hq]
  have hfit := all_fit hms.all hmem
  have HPC := Lib.hid (show ∀ X, Below w.heap.size w X → X.cell? ⟨b, off + j * 5, none⟩ = some (.slice q.A q.n q.c) ∧ X.cell? ⟨b, off + j * 5 + 1, none⟩ = some (.slice q.B q.k q.d) ∧ X.cell? ⟨b, off + j * 5 + 2, none⟩ = some (.int .i64 q.am) ∧ X.cell? ⟨b, off + j * 5 + 3, none⟩ = some (.int .i64 q.rd) ∧ X.cell? ⟨b, off + j * 5 + 4, none⟩ = some (.int .i64 q.hd) from fun X hX => by
    obtain ⟨b2, off2, p2, hA2, hp2, -, -, -, z0, z1, z2, z3, z4⟩ := (hl.below hX).at_ j hjn
    cases hA2
    obtain rfl := hq.symm.trans hp2
    exact ⟨z0, z1, z2, z3, z4⟩)
  have hqk : q.s.length = q.k := (hl.pl q hmem).s.len
  have hqs := (hl.pl q hmem).s.small
  have hll := hl.len
  have hheld := hms.held
  rw [hqa] at hheld
  have hhd2 := (fit_iff.1 hfit).hd2
  have hw1 : wrap64 (q.hd - s.hl) = q.hd - s.hl := by have := hheld.h1; have := hheld.h2; unfold wrap64; omega
  have HR := Lib.hid (show doS l s 3 a = (s, 11) by rw [doS, if_pos ⟨hm, rfl⟩, askS, if_neg (by decide), if_pos rfl, if_neg (fun h => h.elim ha hb), if_pos (.inl fun h => by have h2 := h.2; rw [hs] at h2; cases h2)])
  obtain ⟨G, hG⟩ : ∃ G, doS l s 3 a = G := ⟨_, rfl⟩
  rw [hG] at HR ⊢
  have ha1 : ¬ ((q.k : Int) ≤ a) := by rw [hqa, hqk] at hb; exact hb
  have hpb : (s.ph == 0) = true := by rw [hp]; rfl
  simp only [sgV] at HMY ⊢
  clear hG hm hl hms hqa hmem hq hfit hheld hhd2 hqk hll hb hp
  obtain ⟨pl, st, nx, ph, t, hd, hh', ak, wt, sp⟩ := s
  try simp only at *
  subst hj
  subst hs
  go_enter Try.func13, Try.ntmps13
  go_wp2_with (first
    | (go_at_call 36
       (with_reducible refine (HMY.out _ (below_alloc2 _ _ _)).mono ?_)
       rintro e w1 ⟨rfl, hb1⟩
       have hs1 := (hb1.block w.heap.size (by simp; omega)).trans (alloc2_old w (.cells #[.int .i64 (j : Int), .int .i64 st, .int .i64 nx, .int .i64 ph, .int .i64 t, .int .i64 hd, .int .i64 hh', .int .i64 ak, .int .i64 wt, .bool true] 24) (.cells #[.int .i64 0, .int .i64 0, .int .i64 0, .int .i64 0, .int .i64 0, .int .i64 0, .int .i64 0, .int .i64 0, .int .i64 0, .bool false] 24))
       have hr1 := (hb1.block (w.heap.size + 1) (by simp)).trans (alloc2_new w (.cells #[.int .i64 (j : Int), .int .i64 st, .int .i64 nx, .int .i64 ph, .int .i64 t, .int .i64 hd, .int .i64 hh', .int .i64 ak, .int .i64 wt, .bool true] 24) (.cells #[.int .i64 0, .int .i64 0, .int .i64 0, .int .i64 0, .int .i64 0, .int .i64 0, .int .i64 0, .int .i64 0, .int .i64 0, .bool false] 24))
       have hn1 : w.heap.size + 1 < w1.heap.size := Nat.lt_of_lt_of_le (by simp) hb1.size
       have HB1 := Lib.hid ((below_alloc2 w (.cells #[.int .i64 (j : Int), .int .i64 st, .int .i64 nx, .int .i64 ph, .int .i64 t, .int .i64 hd, .int .i64 hh', .int .i64 ak, .int .i64 wt, .bool true] 24) (.cells #[.int .i64 0, .int .i64 0, .int .i64 0, .int .i64 0, .int .i64 0, .int .i64 0, .int .i64 0, .int .i64 0, .int .i64 0, .bool false] 24)).trans (hb1.mono (by simp; omega)))
       obtain ⟨c0, c1, c2, c3, c4, c5, c6, c7, c8, c9⟩ := (show BoxG w1 w.heap.size ⟨(j : Int), st, nx, ph, t, hd, hh', ak, wt, true⟩ from hs1).cells
       simp only at c0 c1 c2 c3 c4 c5 c6 c7 c8 c9
       obtain ⟨p0, p1, p2, p3, p4⟩ := HPC.out w1 HB1.out
       have hbp := one_alloc w1 (.cells #[.slice q.A q.n q.c, .slice q.B q.k q.d, .int .i64 q.am, .int .i64 q.rd, .int .i64 q.hd] 47)
       have hs2 := (hbp.block w.heap.size (by omega)).trans hs1
       obtain ⟨d0, d1, d2, d3, d4, d5, d6, d7, d8, d9⟩ := (show BoxG (w1.alloc (.cells #[.slice q.A q.n q.c, .slice q.B q.k q.d, .int .i64 q.am, .int .i64 q.rd, .int .i64 q.hd] 47)) w.heap.size ⟨(j : Int), st, nx, ph, t, hd, hh', ak, wt, true⟩ from hs2).cells
       simp only at d0 d1 d2 d3 d4 d5 d6 d7 d8 d9
       have hp2 := heap_alloc_new w1 (.cells #[.slice q.A q.n q.c, .slice q.B q.k q.d, .int .i64 q.am, .int .i64 q.rd, .int .i64 q.hd] 47)
       obtain ⟨r0, r1, r2, r3, r4⟩ := (show BoxP (w1.alloc (.cells #[.slice q.A q.n q.c, .slice q.B q.k q.d, .int .i64 q.am, .int .i64 q.rd, .int .i64 q.hd] 47)) w1.heap.size q from hp2).cells
       have hbt := below_alloc2 w1 (.cells #[.slice q.A q.n q.c, .slice q.B q.k q.d, .int .i64 q.am, .int .i64 q.rd, .int .i64 q.hd] 47) (.cells #[.int .i64 (j : Int), .int .i64 st, .int .i64 nx, .int .i64 ph, .int .i64 t, .int .i64 hd, .int .i64 hh', .int .i64 ak, .int .i64 wt, .bool true] 24)
       have hs3 := (hbt.block w.heap.size (by omega)).trans hs1
       have hr3 := (hbt.block (w.heap.size + 1) (by omega)).trans hr1
       have hp3 := alloc2_old w1 (.cells #[.slice q.A q.n q.c, .slice q.B q.k q.d, .int .i64 q.am, .int .i64 q.rd, .int .i64 q.hd] 47) (.cells #[.int .i64 (j : Int), .int .i64 st, .int .i64 nx, .int .i64 ph, .int .i64 t, .int .i64 hd, .int .i64 hh', .int .i64 ak, .int .i64 wt, .bool true] 24)
       have ht3 := alloc2_new w1 (.cells #[.slice q.A q.n q.c, .slice q.B q.k q.d, .int .i64 q.am, .int .i64 q.rd, .int .i64 q.hd] 47) (.cells #[.int .i64 (j : Int), .int .i64 st, .int .i64 nx, .int .i64 ph, .int .i64 t, .int .i64 hd, .int .i64 hh', .int .i64 ak, .int .i64 wt, .bool true] 24)
       have hn3 : w1.heap.size + 1 < ((w1.alloc (.cells #[.slice q.A q.n q.c, .slice q.B q.k q.d, .int .i64 q.am, .int .i64 q.rd, .int .i64 q.hd] 47)).alloc (.cells #[.int .i64 (j : Int), .int .i64 st, .int .i64 nx, .int .i64 ph, .int .i64 t, .int .i64 hd, .int .i64 hh', .int .i64 ak, .int .i64 wt, .bool true] 24)).heap.size := by simp
       have hm3 : w.heap.size + 1 < ((w1.alloc (.cells #[.slice q.A q.n q.c, .slice q.B q.k q.d, .int .i64 q.am, .int .i64 q.rd, .int .i64 q.hd] 47)).alloc (.cells #[.int .i64 (j : Int), .int .i64 st, .int .i64 nx, .int .i64 ph, .int .i64 t, .int .i64 hd, .int .i64 hh', .int .i64 ak, .int .i64 wt, .bool true] 24)).heap.size := Nat.lt_trans hn1 (by simp; omega)
       have HB3 := Lib.hid (HB1.out.trans (hbt.mono HB1.out.size))
       obtain ⟨e0, e1, e2, e3, e4, e5, e6, e7, e8, e9⟩ := (show BoxG ((w1.alloc (.cells #[.slice q.A q.n q.c, .slice q.B q.k q.d, .int .i64 q.am, .int .i64 q.rd, .int .i64 q.hd] 47)).alloc (.cells #[.int .i64 (j : Int), .int .i64 st, .int .i64 nx, .int .i64 ph, .int .i64 t, .int .i64 hd, .int .i64 hh', .int .i64 ak, .int .i64 wt, .bool true] 24)) w.heap.size ⟨(j : Int), st, nx, ph, t, hd, hh', ak, wt, true⟩ from hs3).cells
       simp only at e0 e1 e2 e3 e4 e5 e6 e7 e8 e9
       obtain ⟨q0, q1, q2, q3, q4⟩ := (show BoxP ((w1.alloc (.cells #[.slice q.A q.n q.c, .slice q.B q.k q.d, .int .i64 q.am, .int .i64 q.rd, .int .i64 q.hd] 47)).alloc (.cells #[.int .i64 (j : Int), .int .i64 st, .int .i64 nx, .int .i64 ph, .int .i64 t, .int .i64 hd, .int .i64 hh', .int .i64 ak, .int .i64 wt, .bool true] 24)) w1.heap.size q from hp3).cells
       clear hbp hbt hs2 hp2
       clear hb1)
    | (go_at_call 37
       (with_reducible refine (HTU.out _).mono ?_)
       rintro e w2 ⟨rfl, rfl⟩)
    | ((with_reducible refine wpList_store_part rfl 24 _ _ rfl (w.heap.size + 1) 0 (.agg #[.int .i64 (j : Int), .int .i64 st, .int .i64 nx, .int .i64 ph, .int .i64 t, .int .i64 hd, .int .i64 hh', .int .i64 ak, .int .i64 wt, .bool true]) #[.int .i64 (j : Int), .int .i64 st, .int .i64 nx, .int .i64 ph, .int .i64 t, .int .i64 hd, .int .i64 hh', .int .i64 ak, .int .i64 wt, .bool true] ?hx9 ?hy9 ?hv9 24 #[.int .i64 0, .int .i64 0, .int .i64 0, .int .i64 0, .int .i64 0, .int .i64 0, .int .i64 0, .int .i64 0, .int .i64 0, .bool false] #[.int .i64 (j : Int), .int .i64 st, .int .i64 nx, .int .i64 ph, .int .i64 t, .int .i64 hd, .int .i64 hh', .int .i64 ak, .int .i64 wt, .bool true] hr3 ?hi9 ?hl9 ?ho9 ?hn9 ?_); (case hx9 => rfl); (case hy9 => first | rfl | exact congrArg (Value.int IntKind.i64) v1); (case hv9 => rfl); (case hi9 => first | exact info_one _ | exact info_sig); (case hl9 => simp); (case ho9 => first | exact one_int _ | exact one_sig _ _ _ _ _ _ _ _ _ _); (case hn9 => rfl)
       intro w9 hg9 hr9 hz9
       have HB9 := Lib.hid (Below.grows HB3.out hg9 HB3.out.size (by omega))
       have hn9 : w.heap.size + 1 < w9.heap.size := by omega
       clear hg9))
  all_goals
   refine bodyPost_ret (v := .tuple #[.agg #[.int .i64 (j : Int), .int .i64 st, .int .i64 nx, .int .i64 ph, .int .i64 t, .int .i64 hd, .int .i64 hh', .int .i64 ak, .int .i64 wt, .bool true], .int .i64 11]) ?_ rfl ⟨by rw [HR.out]; rfl, HB9.out⟩
   exact results_blk_val Try.results13 _ _ _ (w.heap.size + 1) 24 #[.int .i64 (j : Int), .int .i64 st, .int .i64 nx, .int .i64 ph, .int .i64 t, .int .i64 hd, .int .i64 hh', .int .i64 ak, .int .i64 wt, .bool true] (0, 0) _ rfl hr9 Try.underlying24 rfl info_sig _ rfl
set_option maxHeartbeats 8000000 in
theorem rdo_next_wt (A : Option Addr) (n c : Nat) (l : List Pl) (s : Sg) (k a : Int) (w : World) (hl : Pls w A n c l) (hts : SmG s) (hm : mayS l s = true) (hk : k = 3) (ha : ¬ a < 0) (hb : ¬ (planAt l s.pl).s.length ≤ a) (hp : s.ph = 0) (hs : s.sp = false) (hw : s.wt ≠ -1) : Calls Try.prog 13 #[.slice A n c, sgV s, .int .i64 k, .int .i64 a] w (GivesGE (doS l s k a) w) := by
  subst hk
  have hsm := hl.small
  have HMY := Lib.hid (fun X (hX : Below w.heap.size w X) => rsmay_any A n c l s X (hl.below hX) hts)
  have HTU := Lib.hid (show ∀ X : World, Calls Try.prog 37 #[.int .i64 3] X fun e w' => e = .returned (.bool (turnsB 3)) ∧ X = w' from fun X => (rturns_any 3 X).mono fun _ _ h => ⟨h.1, h.2.symm⟩)
  rw [hm] at HMY
  rw [show turnsB 3 = true from rfl] at HTU
  have hms := mayS_iff.1 hm
  have hpl0 := hms.p0
  have hpl1 : s.pl < n := by have := hms.p1; rw [hl.len] at this; exact this
  obtain ⟨j, hj⟩ := Int.eq_ofNat_of_zero_le hpl0
  have hjn : j < n := by omega
  obtain ⟨b, off, q, rfl, hq, hmem, -, -, -⟩ := hl.at_ j hjn
  have hqa : planAt l s.pl = q := by rw [hj, planAt, Int.toNat_natCast, hq]
  have hfit := all_fit hms.all hmem
  have HPC := Lib.hid (show ∀ X, Below w.heap.size w X → X.cell? ⟨b, off + j * 5, none⟩ = some (.slice q.A q.n q.c) ∧ X.cell? ⟨b, off + j * 5 + 1, none⟩ = some (.slice q.B q.k q.d) ∧ X.cell? ⟨b, off + j * 5 + 2, none⟩ = some (.int .i64 q.am) ∧ X.cell? ⟨b, off + j * 5 + 3, none⟩ = some (.int .i64 q.rd) ∧ X.cell? ⟨b, off + j * 5 + 4, none⟩ = some (.int .i64 q.hd) from fun X hX => by
    obtain ⟨b2, off2, p2, hA2, hp2, -, -, -, z0, z1, z2, z3, z4⟩ := (hl.below hX).at_ j hjn
    cases hA2
    obtain rfl := hq.symm.trans hp2
    exact ⟨z0, z1, z2, z3, z4⟩)
  have hqk : q.s.length = q.k := (hl.pl q hmem).s.len
  have hqs := (hl.pl q hmem).s.small
  have hll := hl.len
  have hheld := hms.held
  rw [hqa] at hheld
  have hhd2 := (fit_iff.1 hfit).hd2
  have hw1 : wrap64 (q.hd - s.hl) = q.hd - s.hl := by have := hheld.h1; have := hheld.h2; unfold wrap64; omega
  have HR := Lib.hid (show doS l s 3 a = (s, 11) by rw [doS, if_pos ⟨hm, rfl⟩, askS, if_neg (by decide), if_pos rfl, if_neg (fun h => h.elim ha hb), if_pos (.inr (.inl hw))])
  obtain ⟨G, hG⟩ : ∃ G, doS l s 3 a = G := ⟨_, rfl⟩
  rw [hG] at HR ⊢
  have ha1 : ¬ ((q.k : Int) ≤ a) := by rw [hqa, hqk] at hb; exact hb
  have hpb : (s.ph == 0) = true := by rw [hp]; rfl
  have hwb : (s.wt != -1) = true := by rw [bne_iff_ne]; exact hw
  simp only [sgV] at HMY ⊢
  clear hG hm hl hms hqa hmem hq hfit hheld hhd2 hqk hll hb hp hw
  obtain ⟨pl, st, nx, ph, t, hd, hh', ak, wt, sp⟩ := s
  try simp only at *
  subst hj
  subst hs
  go_enter Try.func13, Try.ntmps13
  go_wp2_with (first
    | (go_at_call 36
       (with_reducible refine (HMY.out _ (below_alloc2 _ _ _)).mono ?_)
       rintro e w1 ⟨rfl, hb1⟩
       have hs1 := (hb1.block w.heap.size (by simp; omega)).trans (alloc2_old w (.cells #[.int .i64 (j : Int), .int .i64 st, .int .i64 nx, .int .i64 ph, .int .i64 t, .int .i64 hd, .int .i64 hh', .int .i64 ak, .int .i64 wt, .bool false] 24) (.cells #[.int .i64 0, .int .i64 0, .int .i64 0, .int .i64 0, .int .i64 0, .int .i64 0, .int .i64 0, .int .i64 0, .int .i64 0, .bool false] 24))
       have hr1 := (hb1.block (w.heap.size + 1) (by simp)).trans (alloc2_new w (.cells #[.int .i64 (j : Int), .int .i64 st, .int .i64 nx, .int .i64 ph, .int .i64 t, .int .i64 hd, .int .i64 hh', .int .i64 ak, .int .i64 wt, .bool false] 24) (.cells #[.int .i64 0, .int .i64 0, .int .i64 0, .int .i64 0, .int .i64 0, .int .i64 0, .int .i64 0, .int .i64 0, .int .i64 0, .bool false] 24))
       have hn1 : w.heap.size + 1 < w1.heap.size := Nat.lt_of_lt_of_le (by simp) hb1.size
       have HB1 := Lib.hid ((below_alloc2 w (.cells #[.int .i64 (j : Int), .int .i64 st, .int .i64 nx, .int .i64 ph, .int .i64 t, .int .i64 hd, .int .i64 hh', .int .i64 ak, .int .i64 wt, .bool false] 24) (.cells #[.int .i64 0, .int .i64 0, .int .i64 0, .int .i64 0, .int .i64 0, .int .i64 0, .int .i64 0, .int .i64 0, .int .i64 0, .bool false] 24)).trans (hb1.mono (by simp; omega)))
       obtain ⟨c0, c1, c2, c3, c4, c5, c6, c7, c8, c9⟩ := (show BoxG w1 w.heap.size ⟨(j : Int), st, nx, ph, t, hd, hh', ak, wt, false⟩ from hs1).cells
       simp only at c0 c1 c2 c3 c4 c5 c6 c7 c8 c9
       obtain ⟨p0, p1, p2, p3, p4⟩ := HPC.out w1 HB1.out
       have hbp := one_alloc w1 (.cells #[.slice q.A q.n q.c, .slice q.B q.k q.d, .int .i64 q.am, .int .i64 q.rd, .int .i64 q.hd] 47)
       have hs2 := (hbp.block w.heap.size (by omega)).trans hs1
       obtain ⟨d0, d1, d2, d3, d4, d5, d6, d7, d8, d9⟩ := (show BoxG (w1.alloc (.cells #[.slice q.A q.n q.c, .slice q.B q.k q.d, .int .i64 q.am, .int .i64 q.rd, .int .i64 q.hd] 47)) w.heap.size ⟨(j : Int), st, nx, ph, t, hd, hh', ak, wt, false⟩ from hs2).cells
       simp only at d0 d1 d2 d3 d4 d5 d6 d7 d8 d9
       have hp2 := heap_alloc_new w1 (.cells #[.slice q.A q.n q.c, .slice q.B q.k q.d, .int .i64 q.am, .int .i64 q.rd, .int .i64 q.hd] 47)
       obtain ⟨r0, r1, r2, r3, r4⟩ := (show BoxP (w1.alloc (.cells #[.slice q.A q.n q.c, .slice q.B q.k q.d, .int .i64 q.am, .int .i64 q.rd, .int .i64 q.hd] 47)) w1.heap.size q from hp2).cells
       have hbt := below_alloc2 w1 (.cells #[.slice q.A q.n q.c, .slice q.B q.k q.d, .int .i64 q.am, .int .i64 q.rd, .int .i64 q.hd] 47) (.cells #[.int .i64 (j : Int), .int .i64 st, .int .i64 nx, .int .i64 ph, .int .i64 t, .int .i64 hd, .int .i64 hh', .int .i64 ak, .int .i64 wt, .bool false] 24)
       have hs3 := (hbt.block w.heap.size (by omega)).trans hs1
       have hr3 := (hbt.block (w.heap.size + 1) (by omega)).trans hr1
       have hp3 := alloc2_old w1 (.cells #[.slice q.A q.n q.c, .slice q.B q.k q.d, .int .i64 q.am, .int .i64 q.rd, .int .i64 q.hd] 47) (.cells #[.int .i64 (j : Int), .int .i64 st, .int .i64 nx, .int .i64 ph, .int .i64 t, .int .i64 hd, .int .i64 hh', .int .i64 ak, .int .i64 wt, .bool false] 24)
       have ht3 := alloc2_new w1 (.cells #[.slice q.A q.n q.c, .slice q.B q.k q.d, .int .i64 q.am, .int .i64 q.rd, .int .i64 q.hd] 47) (.cells #[.int .i64 (j : Int), .int .i64 st, .int .i64 nx, .int .i64 ph, .int .i64 t, .int .i64 hd, .int .i64 hh', .int .i64 ak, .int .i64 wt, .bool false] 24)
       have hn3 : w1.heap.size + 1 < ((w1.alloc (.cells #[.slice q.A q.n q.c, .slice q.B q.k q.d, .int .i64 q.am, .int .i64 q.rd, .int .i64 q.hd] 47)).alloc (.cells #[.int .i64 (j : Int), .int .i64 st, .int .i64 nx, .int .i64 ph, .int .i64 t, .int .i64 hd, .int .i64 hh', .int .i64 ak, .int .i64 wt, .bool false] 24)).heap.size := by simp
       have hm3 : w.heap.size + 1 < ((w1.alloc (.cells #[.slice q.A q.n q.c, .slice q.B q.k q.d, .int .i64 q.am, .int .i64 q.rd, .int .i64 q.hd] 47)).alloc (.cells #[.int .i64 (j : Int), .int .i64 st, .int .i64 nx, .int .i64 ph, .int .i64 t, .int .i64 hd, .int .i64 hh', .int .i64 ak, .int .i64 wt, .bool false] 24)).heap.size := Nat.lt_trans hn1 (by simp; omega)
       have HB3 := Lib.hid (HB1.out.trans (hbt.mono HB1.out.size))
       obtain ⟨e0, e1, e2, e3, e4, e5, e6, e7, e8, e9⟩ := (show BoxG ((w1.alloc (.cells #[.slice q.A q.n q.c, .slice q.B q.k q.d, .int .i64 q.am, .int .i64 q.rd, .int .i64 q.hd] 47)).alloc (.cells #[.int .i64 (j : Int), .int .i64 st, .int .i64 nx, .int .i64 ph, .int .i64 t, .int .i64 hd, .int .i64 hh', .int .i64 ak, .int .i64 wt, .bool false] 24)) w.heap.size ⟨(j : Int), st, nx, ph, t, hd, hh', ak, wt, false⟩ from hs3).cells
       simp only at e0 e1 e2 e3 e4 e5 e6 e7 e8 e9
       obtain ⟨q0, q1, q2, q3, q4⟩ := (show BoxP ((w1.alloc (.cells #[.slice q.A q.n q.c, .slice q.B q.k q.d, .int .i64 q.am, .int .i64 q.rd, .int .i64 q.hd] 47)).alloc (.cells #[.int .i64 (j : Int), .int .i64 st, .int .i64 nx, .int .i64 ph, .int .i64 t, .int .i64 hd, .int .i64 hh', .int .i64 ak, .int .i64 wt, .bool false] 24)) w1.heap.size q from hp3).cells
       clear hbp hbt hs2 hp2
       clear hb1)
    | (go_at_call 37
       (with_reducible refine (HTU.out _).mono ?_)
       rintro e w2 ⟨rfl, rfl⟩)
    | ((with_reducible refine wpList_store_part rfl 24 _ _ rfl (w.heap.size + 1) 0 (.agg #[.int .i64 (j : Int), .int .i64 st, .int .i64 nx, .int .i64 ph, .int .i64 t, .int .i64 hd, .int .i64 hh', .int .i64 ak, .int .i64 wt, .bool false]) #[.int .i64 (j : Int), .int .i64 st, .int .i64 nx, .int .i64 ph, .int .i64 t, .int .i64 hd, .int .i64 hh', .int .i64 ak, .int .i64 wt, .bool false] ?hx9 ?hy9 ?hv9 24 #[.int .i64 0, .int .i64 0, .int .i64 0, .int .i64 0, .int .i64 0, .int .i64 0, .int .i64 0, .int .i64 0, .int .i64 0, .bool false] #[.int .i64 (j : Int), .int .i64 st, .int .i64 nx, .int .i64 ph, .int .i64 t, .int .i64 hd, .int .i64 hh', .int .i64 ak, .int .i64 wt, .bool false] hr3 ?hi9 ?hl9 ?ho9 ?hn9 ?_); (case hx9 => rfl); (case hy9 => first | rfl | exact congrArg (Value.int IntKind.i64) v1); (case hv9 => rfl); (case hi9 => first | exact info_one _ | exact info_sig); (case hl9 => simp); (case ho9 => first | exact one_int _ | exact one_sig _ _ _ _ _ _ _ _ _ _); (case hn9 => rfl)
       intro w9 hg9 hr9 hz9
       have HB9 := Lib.hid (Below.grows HB3.out hg9 HB3.out.size (by omega))
       have hn9 : w.heap.size + 1 < w9.heap.size := by omega
       clear hg9))
  all_goals
   refine bodyPost_ret (v := .tuple #[.agg #[.int .i64 (j : Int), .int .i64 st, .int .i64 nx, .int .i64 ph, .int .i64 t, .int .i64 hd, .int .i64 hh', .int .i64 ak, .int .i64 wt, .bool false], .int .i64 11]) ?_ rfl ⟨by rw [HR.out]; rfl, HB9.out⟩
   exact results_blk_val Try.results13 _ _ _ (w.heap.size + 1) 24 #[.int .i64 (j : Int), .int .i64 st, .int .i64 nx, .int .i64 ph, .int .i64 t, .int .i64 hd, .int .i64 hh', .int .i64 ak, .int .i64 wt, .bool false] (0, 0) _ rfl hr9 Try.underlying24 rfl info_sig _ rfl
set_option maxHeartbeats 8000000 in
theorem rdo_next_st (A : Option Addr) (n c : Nat) (l : List Pl) (s : Sg) (k a : Int) (w : World) (hl : Pls w A n c l) (hts : SmG s) (hm : mayS l s = true) (hk : k = 3) (ha : ¬ a < 0) (hb : ¬ (planAt l s.pl).s.length ≤ a) (hp : s.ph = 0) (hs : s.sp = false) (hw : s.wt = -1) (hx : a = s.st) : Calls Try.prog 13 #[.slice A n c, sgV s, .int .i64 k, .int .i64 a] w (GivesGE (doS l s k a) w) := by
  subst hk
  have hsm := hl.small
  have HMY := Lib.hid (fun X (hX : Below w.heap.size w X) => rsmay_any A n c l s X (hl.below hX) hts)
  have HTU := Lib.hid (show ∀ X : World, Calls Try.prog 37 #[.int .i64 3] X fun e w' => e = .returned (.bool (turnsB 3)) ∧ X = w' from fun X => (rturns_any 3 X).mono fun _ _ h => ⟨h.1, h.2.symm⟩)
  rw [hm] at HMY
  rw [show turnsB 3 = true from rfl] at HTU
  have hms := mayS_iff.1 hm
  have hpl0 := hms.p0
  have hpl1 : s.pl < n := by have := hms.p1; rw [hl.len] at this; exact this
  obtain ⟨j, hj⟩ := Int.eq_ofNat_of_zero_le hpl0
  have hjn : j < n := by omega
  obtain ⟨b, off, q, rfl, hq, hmem, -, -, -⟩ := hl.at_ j hjn
  have hqa : planAt l s.pl = q := by rw [hj, planAt, Int.toNat_natCast, hq]
  have hfit := all_fit hms.all hmem
  have HPC := Lib.hid (show ∀ X, Below w.heap.size w X → X.cell? ⟨b, off + j * 5, none⟩ = some (.slice q.A q.n q.c) ∧ X.cell? ⟨b, off + j * 5 + 1, none⟩ = some (.slice q.B q.k q.d) ∧ X.cell? ⟨b, off + j * 5 + 2, none⟩ = some (.int .i64 q.am) ∧ X.cell? ⟨b, off + j * 5 + 3, none⟩ = some (.int .i64 q.rd) ∧ X.cell? ⟨b, off + j * 5 + 4, none⟩ = some (.int .i64 q.hd) from fun X hX => by
    obtain ⟨b2, off2, p2, hA2, hp2, -, -, -, z0, z1, z2, z3, z4⟩ := (hl.below hX).at_ j hjn
    cases hA2
    obtain rfl := hq.symm.trans hp2
    exact ⟨z0, z1, z2, z3, z4⟩)
  have hqk : q.s.length = q.k := (hl.pl q hmem).s.len
  have hqs := (hl.pl q hmem).s.small
  have hll := hl.len
  have hheld := hms.held
  rw [hqa] at hheld
  have hhd2 := (fit_iff.1 hfit).hd2
  have hw1 : wrap64 (q.hd - s.hl) = q.hd - s.hl := by have := hheld.h1; have := hheld.h2; unfold wrap64; omega
  have HR := Lib.hid (show doS l s 3 a = (s, 11) by rw [doS, if_pos ⟨hm, rfl⟩, askS, if_neg (by decide), if_pos rfl, if_neg (fun h => h.elim ha hb), if_pos (.inr (.inr hx))])
  obtain ⟨G, hG⟩ : ∃ G, doS l s 3 a = G := ⟨_, rfl⟩
  rw [hG] at HR ⊢
  have ha1 : ¬ ((q.k : Int) ≤ a) := by rw [hqa, hqk] at hb; exact hb
  have hpb : (s.ph == 0) = true := by rw [hp]; rfl
  have hwb : (s.wt != -1) = false := by rw [hw]; rfl
  have hxb : (a == s.st) = true := by rw [hx]; simp
  simp only [sgV] at HMY ⊢
  clear hG hm hl hms hqa hmem hq hfit hheld hhd2 hqk hll hb hp hw hx
  obtain ⟨pl, st, nx, ph, t, hd, hh', ak, wt, sp⟩ := s
  try simp only at *
  subst hj
  subst hs
  go_enter Try.func13, Try.ntmps13
  go_wp2_with (first
    | (go_at_call 36
       (with_reducible refine (HMY.out _ (below_alloc2 _ _ _)).mono ?_)
       rintro e w1 ⟨rfl, hb1⟩
       have hs1 := (hb1.block w.heap.size (by simp; omega)).trans (alloc2_old w (.cells #[.int .i64 (j : Int), .int .i64 st, .int .i64 nx, .int .i64 ph, .int .i64 t, .int .i64 hd, .int .i64 hh', .int .i64 ak, .int .i64 wt, .bool false] 24) (.cells #[.int .i64 0, .int .i64 0, .int .i64 0, .int .i64 0, .int .i64 0, .int .i64 0, .int .i64 0, .int .i64 0, .int .i64 0, .bool false] 24))
       have hr1 := (hb1.block (w.heap.size + 1) (by simp)).trans (alloc2_new w (.cells #[.int .i64 (j : Int), .int .i64 st, .int .i64 nx, .int .i64 ph, .int .i64 t, .int .i64 hd, .int .i64 hh', .int .i64 ak, .int .i64 wt, .bool false] 24) (.cells #[.int .i64 0, .int .i64 0, .int .i64 0, .int .i64 0, .int .i64 0, .int .i64 0, .int .i64 0, .int .i64 0, .int .i64 0, .bool false] 24))
       have hn1 : w.heap.size + 1 < w1.heap.size := Nat.lt_of_lt_of_le (by simp) hb1.size
       have HB1 := Lib.hid ((below_alloc2 w (.cells #[.int .i64 (j : Int), .int .i64 st, .int .i64 nx, .int .i64 ph, .int .i64 t, .int .i64 hd, .int .i64 hh', .int .i64 ak, .int .i64 wt, .bool false] 24) (.cells #[.int .i64 0, .int .i64 0, .int .i64 0, .int .i64 0, .int .i64 0, .int .i64 0, .int .i64 0, .int .i64 0, .int .i64 0, .bool false] 24)).trans (hb1.mono (by simp; omega)))
       obtain ⟨c0, c1, c2, c3, c4, c5, c6, c7, c8, c9⟩ := (show BoxG w1 w.heap.size ⟨(j : Int), st, nx, ph, t, hd, hh', ak, wt, false⟩ from hs1).cells
       simp only at c0 c1 c2 c3 c4 c5 c6 c7 c8 c9
       obtain ⟨p0, p1, p2, p3, p4⟩ := HPC.out w1 HB1.out
       have hbp := one_alloc w1 (.cells #[.slice q.A q.n q.c, .slice q.B q.k q.d, .int .i64 q.am, .int .i64 q.rd, .int .i64 q.hd] 47)
       have hs2 := (hbp.block w.heap.size (by omega)).trans hs1
       obtain ⟨d0, d1, d2, d3, d4, d5, d6, d7, d8, d9⟩ := (show BoxG (w1.alloc (.cells #[.slice q.A q.n q.c, .slice q.B q.k q.d, .int .i64 q.am, .int .i64 q.rd, .int .i64 q.hd] 47)) w.heap.size ⟨(j : Int), st, nx, ph, t, hd, hh', ak, wt, false⟩ from hs2).cells
       simp only at d0 d1 d2 d3 d4 d5 d6 d7 d8 d9
       have hp2 := heap_alloc_new w1 (.cells #[.slice q.A q.n q.c, .slice q.B q.k q.d, .int .i64 q.am, .int .i64 q.rd, .int .i64 q.hd] 47)
       obtain ⟨r0, r1, r2, r3, r4⟩ := (show BoxP (w1.alloc (.cells #[.slice q.A q.n q.c, .slice q.B q.k q.d, .int .i64 q.am, .int .i64 q.rd, .int .i64 q.hd] 47)) w1.heap.size q from hp2).cells
       have hbt := below_alloc2 w1 (.cells #[.slice q.A q.n q.c, .slice q.B q.k q.d, .int .i64 q.am, .int .i64 q.rd, .int .i64 q.hd] 47) (.cells #[.int .i64 (j : Int), .int .i64 st, .int .i64 nx, .int .i64 ph, .int .i64 t, .int .i64 hd, .int .i64 hh', .int .i64 ak, .int .i64 wt, .bool false] 24)
       have hs3 := (hbt.block w.heap.size (by omega)).trans hs1
       have hr3 := (hbt.block (w.heap.size + 1) (by omega)).trans hr1
       have hp3 := alloc2_old w1 (.cells #[.slice q.A q.n q.c, .slice q.B q.k q.d, .int .i64 q.am, .int .i64 q.rd, .int .i64 q.hd] 47) (.cells #[.int .i64 (j : Int), .int .i64 st, .int .i64 nx, .int .i64 ph, .int .i64 t, .int .i64 hd, .int .i64 hh', .int .i64 ak, .int .i64 wt, .bool false] 24)
       have ht3 := alloc2_new w1 (.cells #[.slice q.A q.n q.c, .slice q.B q.k q.d, .int .i64 q.am, .int .i64 q.rd, .int .i64 q.hd] 47) (.cells #[.int .i64 (j : Int), .int .i64 st, .int .i64 nx, .int .i64 ph, .int .i64 t, .int .i64 hd, .int .i64 hh', .int .i64 ak, .int .i64 wt, .bool false] 24)
       have hn3 : w1.heap.size + 1 < ((w1.alloc (.cells #[.slice q.A q.n q.c, .slice q.B q.k q.d, .int .i64 q.am, .int .i64 q.rd, .int .i64 q.hd] 47)).alloc (.cells #[.int .i64 (j : Int), .int .i64 st, .int .i64 nx, .int .i64 ph, .int .i64 t, .int .i64 hd, .int .i64 hh', .int .i64 ak, .int .i64 wt, .bool false] 24)).heap.size := by simp
       have hm3 : w.heap.size + 1 < ((w1.alloc (.cells #[.slice q.A q.n q.c, .slice q.B q.k q.d, .int .i64 q.am, .int .i64 q.rd, .int .i64 q.hd] 47)).alloc (.cells #[.int .i64 (j : Int), .int .i64 st, .int .i64 nx, .int .i64 ph, .int .i64 t, .int .i64 hd, .int .i64 hh', .int .i64 ak, .int .i64 wt, .bool false] 24)).heap.size := Nat.lt_trans hn1 (by simp; omega)
       have HB3 := Lib.hid (HB1.out.trans (hbt.mono HB1.out.size))
       obtain ⟨e0, e1, e2, e3, e4, e5, e6, e7, e8, e9⟩ := (show BoxG ((w1.alloc (.cells #[.slice q.A q.n q.c, .slice q.B q.k q.d, .int .i64 q.am, .int .i64 q.rd, .int .i64 q.hd] 47)).alloc (.cells #[.int .i64 (j : Int), .int .i64 st, .int .i64 nx, .int .i64 ph, .int .i64 t, .int .i64 hd, .int .i64 hh', .int .i64 ak, .int .i64 wt, .bool false] 24)) w.heap.size ⟨(j : Int), st, nx, ph, t, hd, hh', ak, wt, false⟩ from hs3).cells
       simp only at e0 e1 e2 e3 e4 e5 e6 e7 e8 e9
       obtain ⟨q0, q1, q2, q3, q4⟩ := (show BoxP ((w1.alloc (.cells #[.slice q.A q.n q.c, .slice q.B q.k q.d, .int .i64 q.am, .int .i64 q.rd, .int .i64 q.hd] 47)).alloc (.cells #[.int .i64 (j : Int), .int .i64 st, .int .i64 nx, .int .i64 ph, .int .i64 t, .int .i64 hd, .int .i64 hh', .int .i64 ak, .int .i64 wt, .bool false] 24)) w1.heap.size q from hp3).cells
       clear hbp hbt hs2 hp2
       clear hb1)
    | (go_at_call 37
       (with_reducible refine (HTU.out _).mono ?_)
       rintro e w2 ⟨rfl, rfl⟩)
    | ((with_reducible refine wpList_store_part rfl 24 _ _ rfl (w.heap.size + 1) 0 (.agg #[.int .i64 (j : Int), .int .i64 st, .int .i64 nx, .int .i64 ph, .int .i64 t, .int .i64 hd, .int .i64 hh', .int .i64 ak, .int .i64 wt, .bool false]) #[.int .i64 (j : Int), .int .i64 st, .int .i64 nx, .int .i64 ph, .int .i64 t, .int .i64 hd, .int .i64 hh', .int .i64 ak, .int .i64 wt, .bool false] ?hx9 ?hy9 ?hv9 24 #[.int .i64 0, .int .i64 0, .int .i64 0, .int .i64 0, .int .i64 0, .int .i64 0, .int .i64 0, .int .i64 0, .int .i64 0, .bool false] #[.int .i64 (j : Int), .int .i64 st, .int .i64 nx, .int .i64 ph, .int .i64 t, .int .i64 hd, .int .i64 hh', .int .i64 ak, .int .i64 wt, .bool false] hr3 ?hi9 ?hl9 ?ho9 ?hn9 ?_); (case hx9 => rfl); (case hy9 => first | rfl | exact congrArg (Value.int IntKind.i64) v1); (case hv9 => rfl); (case hi9 => first | exact info_one _ | exact info_sig); (case hl9 => simp); (case ho9 => first | exact one_int _ | exact one_sig _ _ _ _ _ _ _ _ _ _); (case hn9 => rfl)
       intro w9 hg9 hr9 hz9
       have HB9 := Lib.hid (Below.grows HB3.out hg9 HB3.out.size (by omega))
       have hn9 : w.heap.size + 1 < w9.heap.size := by omega
       clear hg9))
  all_goals
   refine bodyPost_ret (v := .tuple #[.agg #[.int .i64 (j : Int), .int .i64 st, .int .i64 nx, .int .i64 ph, .int .i64 t, .int .i64 hd, .int .i64 hh', .int .i64 ak, .int .i64 wt, .bool false], .int .i64 11]) ?_ rfl ⟨by rw [HR.out]; rfl, HB9.out⟩
   exact results_blk_val Try.results13 _ _ _ (w.heap.size + 1) 24 #[.int .i64 (j : Int), .int .i64 st, .int .i64 nx, .int .i64 ph, .int .i64 t, .int .i64 hd, .int .i64 hh', .int .i64 ak, .int .i64 wt, .bool false] (0, 0) _ rfl hr9 Try.underlying24 rfl info_sig _ rfl
set_option maxHeartbeats 8000000 in
theorem rdo_next_ok (A : Option Addr) (n c : Nat) (l : List Pl) (s : Sg) (k a : Int) (w : World) (hl : Pls w A n c l) (hts : SmG s) (hm : mayS l s = true) (hk : k = 3) (ha : ¬ a < 0) (hb : ¬ (planAt l s.pl).s.length ≤ a) (hp : s.ph = 0) (hs : s.sp = false) (hw : s.wt = -1) (hx : a ≠ s.st) : Calls Try.prog 13 #[.slice A n c, sgV s, .int .i64 k, .int .i64 a] w (GivesGE (doS l s k a) w) := by
  subst hk
  have hsm := hl.small
  have HMY := Lib.hid (fun X (hX : Below w.heap.size w X) => rsmay_any A n c l s X (hl.below hX) hts)
  have HTU := Lib.hid (show ∀ X : World, Calls Try.prog 37 #[.int .i64 3] X fun e w' => e = .returned (.bool (turnsB 3)) ∧ X = w' from fun X => (rturns_any 3 X).mono fun _ _ h => ⟨h.1, h.2.symm⟩)
  rw [hm] at HMY
  rw [show turnsB 3 = true from rfl] at HTU
  have hms := mayS_iff.1 hm
  have hpl0 := hms.p0
  have hpl1 : s.pl < n := by have := hms.p1; rw [hl.len] at this; exact this
  obtain ⟨j, hj⟩ := Int.eq_ofNat_of_zero_le hpl0
  have hjn : j < n := by omega
  obtain ⟨b, off, q, rfl, hq, hmem, -, -, -⟩ := hl.at_ j hjn
  have hqa : planAt l s.pl = q := by rw [hj, planAt, Int.toNat_natCast, hq]
  have hfit := all_fit hms.all hmem
  have HPC := Lib.hid (show ∀ X, Below w.heap.size w X → X.cell? ⟨b, off + j * 5, none⟩ = some (.slice q.A q.n q.c) ∧ X.cell? ⟨b, off + j * 5 + 1, none⟩ = some (.slice q.B q.k q.d) ∧ X.cell? ⟨b, off + j * 5 + 2, none⟩ = some (.int .i64 q.am) ∧ X.cell? ⟨b, off + j * 5 + 3, none⟩ = some (.int .i64 q.rd) ∧ X.cell? ⟨b, off + j * 5 + 4, none⟩ = some (.int .i64 q.hd) from fun X hX => by
    obtain ⟨b2, off2, p2, hA2, hp2, -, -, -, z0, z1, z2, z3, z4⟩ := (hl.below hX).at_ j hjn
    cases hA2
    obtain rfl := hq.symm.trans hp2
    exact ⟨z0, z1, z2, z3, z4⟩)
  have hqk : q.s.length = q.k := (hl.pl q hmem).s.len
  have hqs := (hl.pl q hmem).s.small
  have hll := hl.len
  have hheld := hms.held
  rw [hqa] at hheld
  have hhd2 := (fit_iff.1 hfit).hd2
  have hw1 : wrap64 (q.hd - s.hl) = q.hd - s.hl := by have := hheld.h1; have := hheld.h2; unfold wrap64; omega
  have HR := Lib.hid (show doS l s 3 a = ({ s with ak := a }, 0) by rw [doS, if_pos ⟨hm, rfl⟩, askS, if_neg (by decide), if_pos rfl, if_neg (fun h => h.elim ha hb), if_neg (fun h => h.elim (fun h => h ⟨hp, hs⟩) (fun h => h.elim (fun h => h hw) hx))])
  obtain ⟨G, hG⟩ : ∃ G, doS l s 3 a = G := ⟨_, rfl⟩
  rw [hG] at HR ⊢
  have ha1 : ¬ ((q.k : Int) ≤ a) := by rw [hqa, hqk] at hb; exact hb
  have hpb : (s.ph == 0) = true := by rw [hp]; rfl
  have hwb : (s.wt != -1) = false := by rw [hw]; rfl
  have hxb : (a == s.st) = false := by rw [beq_eq_false_iff_ne]; exact hx
  simp only [sgV] at HMY ⊢
  clear hG hm hl hms hqa hmem hq hfit hheld hhd2 hqk hll hb hp hw hx
  obtain ⟨pl, st, nx, ph, t, hd, hh', ak, wt, sp⟩ := s
  try simp only at *
  subst hj
  subst hs
  go_enter Try.func13, Try.ntmps13
  go_wp2_with (first
    | (go_at_call 36
       (with_reducible refine (HMY.out _ (below_alloc2 _ _ _)).mono ?_)
       rintro e w1 ⟨rfl, hb1⟩
       have hs1 := (hb1.block w.heap.size (by simp; omega)).trans (alloc2_old w (.cells #[.int .i64 (j : Int), .int .i64 st, .int .i64 nx, .int .i64 ph, .int .i64 t, .int .i64 hd, .int .i64 hh', .int .i64 ak, .int .i64 wt, .bool false] 24) (.cells #[.int .i64 0, .int .i64 0, .int .i64 0, .int .i64 0, .int .i64 0, .int .i64 0, .int .i64 0, .int .i64 0, .int .i64 0, .bool false] 24))
       have hr1 := (hb1.block (w.heap.size + 1) (by simp)).trans (alloc2_new w (.cells #[.int .i64 (j : Int), .int .i64 st, .int .i64 nx, .int .i64 ph, .int .i64 t, .int .i64 hd, .int .i64 hh', .int .i64 ak, .int .i64 wt, .bool false] 24) (.cells #[.int .i64 0, .int .i64 0, .int .i64 0, .int .i64 0, .int .i64 0, .int .i64 0, .int .i64 0, .int .i64 0, .int .i64 0, .bool false] 24))
       have hn1 : w.heap.size + 1 < w1.heap.size := Nat.lt_of_lt_of_le (by simp) hb1.size
       have HB1 := Lib.hid ((below_alloc2 w (.cells #[.int .i64 (j : Int), .int .i64 st, .int .i64 nx, .int .i64 ph, .int .i64 t, .int .i64 hd, .int .i64 hh', .int .i64 ak, .int .i64 wt, .bool false] 24) (.cells #[.int .i64 0, .int .i64 0, .int .i64 0, .int .i64 0, .int .i64 0, .int .i64 0, .int .i64 0, .int .i64 0, .int .i64 0, .bool false] 24)).trans (hb1.mono (by simp; omega)))
       obtain ⟨c0, c1, c2, c3, c4, c5, c6, c7, c8, c9⟩ := (show BoxG w1 w.heap.size ⟨(j : Int), st, nx, ph, t, hd, hh', ak, wt, false⟩ from hs1).cells
       simp only at c0 c1 c2 c3 c4 c5 c6 c7 c8 c9
       obtain ⟨p0, p1, p2, p3, p4⟩ := HPC.out w1 HB1.out
       have hbp := one_alloc w1 (.cells #[.slice q.A q.n q.c, .slice q.B q.k q.d, .int .i64 q.am, .int .i64 q.rd, .int .i64 q.hd] 47)
       have hs2 := (hbp.block w.heap.size (by omega)).trans hs1
       obtain ⟨d0, d1, d2, d3, d4, d5, d6, d7, d8, d9⟩ := (show BoxG (w1.alloc (.cells #[.slice q.A q.n q.c, .slice q.B q.k q.d, .int .i64 q.am, .int .i64 q.rd, .int .i64 q.hd] 47)) w.heap.size ⟨(j : Int), st, nx, ph, t, hd, hh', ak, wt, false⟩ from hs2).cells
       simp only at d0 d1 d2 d3 d4 d5 d6 d7 d8 d9
       have hp2 := heap_alloc_new w1 (.cells #[.slice q.A q.n q.c, .slice q.B q.k q.d, .int .i64 q.am, .int .i64 q.rd, .int .i64 q.hd] 47)
       obtain ⟨r0, r1, r2, r3, r4⟩ := (show BoxP (w1.alloc (.cells #[.slice q.A q.n q.c, .slice q.B q.k q.d, .int .i64 q.am, .int .i64 q.rd, .int .i64 q.hd] 47)) w1.heap.size q from hp2).cells
       have hbt := below_alloc2 w1 (.cells #[.slice q.A q.n q.c, .slice q.B q.k q.d, .int .i64 q.am, .int .i64 q.rd, .int .i64 q.hd] 47) (.cells #[.int .i64 (j : Int), .int .i64 st, .int .i64 nx, .int .i64 ph, .int .i64 t, .int .i64 hd, .int .i64 hh', .int .i64 ak, .int .i64 wt, .bool false] 24)
       have hs3 := (hbt.block w.heap.size (by omega)).trans hs1
       have hr3 := (hbt.block (w.heap.size + 1) (by omega)).trans hr1
       have hp3 := alloc2_old w1 (.cells #[.slice q.A q.n q.c, .slice q.B q.k q.d, .int .i64 q.am, .int .i64 q.rd, .int .i64 q.hd] 47) (.cells #[.int .i64 (j : Int), .int .i64 st, .int .i64 nx, .int .i64 ph, .int .i64 t, .int .i64 hd, .int .i64 hh', .int .i64 ak, .int .i64 wt, .bool false] 24)
       have ht3 := alloc2_new w1 (.cells #[.slice q.A q.n q.c, .slice q.B q.k q.d, .int .i64 q.am, .int .i64 q.rd, .int .i64 q.hd] 47) (.cells #[.int .i64 (j : Int), .int .i64 st, .int .i64 nx, .int .i64 ph, .int .i64 t, .int .i64 hd, .int .i64 hh', .int .i64 ak, .int .i64 wt, .bool false] 24)
       have hn3 : w1.heap.size + 1 < ((w1.alloc (.cells #[.slice q.A q.n q.c, .slice q.B q.k q.d, .int .i64 q.am, .int .i64 q.rd, .int .i64 q.hd] 47)).alloc (.cells #[.int .i64 (j : Int), .int .i64 st, .int .i64 nx, .int .i64 ph, .int .i64 t, .int .i64 hd, .int .i64 hh', .int .i64 ak, .int .i64 wt, .bool false] 24)).heap.size := by simp
       have hm3 : w.heap.size + 1 < ((w1.alloc (.cells #[.slice q.A q.n q.c, .slice q.B q.k q.d, .int .i64 q.am, .int .i64 q.rd, .int .i64 q.hd] 47)).alloc (.cells #[.int .i64 (j : Int), .int .i64 st, .int .i64 nx, .int .i64 ph, .int .i64 t, .int .i64 hd, .int .i64 hh', .int .i64 ak, .int .i64 wt, .bool false] 24)).heap.size := Nat.lt_trans hn1 (by simp; omega)
       have HB3 := Lib.hid (HB1.out.trans (hbt.mono HB1.out.size))
       obtain ⟨e0, e1, e2, e3, e4, e5, e6, e7, e8, e9⟩ := (show BoxG ((w1.alloc (.cells #[.slice q.A q.n q.c, .slice q.B q.k q.d, .int .i64 q.am, .int .i64 q.rd, .int .i64 q.hd] 47)).alloc (.cells #[.int .i64 (j : Int), .int .i64 st, .int .i64 nx, .int .i64 ph, .int .i64 t, .int .i64 hd, .int .i64 hh', .int .i64 ak, .int .i64 wt, .bool false] 24)) w.heap.size ⟨(j : Int), st, nx, ph, t, hd, hh', ak, wt, false⟩ from hs3).cells
       simp only at e0 e1 e2 e3 e4 e5 e6 e7 e8 e9
       obtain ⟨q0, q1, q2, q3, q4⟩ := (show BoxP ((w1.alloc (.cells #[.slice q.A q.n q.c, .slice q.B q.k q.d, .int .i64 q.am, .int .i64 q.rd, .int .i64 q.hd] 47)).alloc (.cells #[.int .i64 (j : Int), .int .i64 st, .int .i64 nx, .int .i64 ph, .int .i64 t, .int .i64 hd, .int .i64 hh', .int .i64 ak, .int .i64 wt, .bool false] 24)) w1.heap.size q from hp3).cells
       clear hbp hbt hs2 hp2
       clear hb1)
    | (go_at_call 37
       (with_reducible refine (HTU.out _).mono ?_)
       rintro e w2 ⟨rfl, rfl⟩)
    | ((with_reducible refine wpList_store_part rfl 3 _ _ rfl (w1.heap.size + 1) 7 (.int .i64 a) #[.int .i64 a] ?hx4 ?hy4 ?hv4 24 #[.int .i64 (j : Int), .int .i64 st, .int .i64 nx, .int .i64 ph, .int .i64 t, .int .i64 hd, .int .i64 hh', .int .i64 ak, .int .i64 wt, .bool false] #[.int .i64 (j : Int), .int .i64 st, .int .i64 nx, .int .i64 ph, .int .i64 t, .int .i64 hd, .int .i64 hh', .int .i64 a, .int .i64 wt, .bool false] ht3 ?hi4 ?hl4 ?ho4 ?hn4 ?_); (case hx4 => rfl); (case hy4 => first | rfl | exact congrArg (Value.int IntKind.i64) v1); (case hv4 => rfl); (case hi4 => first | exact info_one _ | exact info_sig); (case hl4 => simp); (case ho4 => first | exact one_int _ | exact one_sig _ _ _ _ _ _ _ _ _ _); (case hn4 => rfl)
       intro w4 hg4 ht4 hz4
       have hr4 := (other_block hg4 (show (w.heap.size + 1) ≠ (w1.heap.size + 1) by omega) (by omega)).trans hr3
       have HB4 := Lib.hid (Below.grows HB3.out hg4 HB3.out.size (by omega))
       have hn4 : w.heap.size + 1 < w4.heap.size := by omega
       obtain ⟨f0, f1, f2, f3, f4, f5, f6, f7, f8, f9⟩ := (show BoxG w4 (w1.heap.size + 1) ⟨(j : Int), st, nx, ph, t, hd, hh', a, wt, false⟩ from ht4).cells
       simp only at f0 f1 f2 f3 f4 f5 f6 f7 f8 f9
       clear hg4)
    | ((with_reducible refine wpList_store_part rfl 24 _ _ rfl (w.heap.size + 1) 0 (.agg #[.int .i64 (j : Int), .int .i64 st, .int .i64 nx, .int .i64 ph, .int .i64 t, .int .i64 hd, .int .i64 hh', .int .i64 a, .int .i64 wt, .bool false]) #[.int .i64 (j : Int), .int .i64 st, .int .i64 nx, .int .i64 ph, .int .i64 t, .int .i64 hd, .int .i64 hh', .int .i64 a, .int .i64 wt, .bool false] ?hx9 ?hy9 ?hv9 24 #[.int .i64 0, .int .i64 0, .int .i64 0, .int .i64 0, .int .i64 0, .int .i64 0, .int .i64 0, .int .i64 0, .int .i64 0, .bool false] #[.int .i64 (j : Int), .int .i64 st, .int .i64 nx, .int .i64 ph, .int .i64 t, .int .i64 hd, .int .i64 hh', .int .i64 a, .int .i64 wt, .bool false] hr4 ?hi9 ?hl9 ?ho9 ?hn9 ?_); (case hx9 => rfl); (case hy9 => first | rfl | exact congrArg (Value.int IntKind.i64) v1); (case hv9 => rfl); (case hi9 => first | exact info_one _ | exact info_sig); (case hl9 => simp); (case ho9 => first | exact one_int _ | exact one_sig _ _ _ _ _ _ _ _ _ _); (case hn9 => rfl)
       intro w9 hg9 hr9 hz9
       have HB9 := Lib.hid (Below.grows HB4.out hg9 HB4.out.size (by omega))
       have hn9 : w.heap.size + 1 < w9.heap.size := by omega
       clear hg9))
  all_goals
   refine bodyPost_ret (v := .tuple #[.agg #[.int .i64 (j : Int), .int .i64 st, .int .i64 nx, .int .i64 ph, .int .i64 t, .int .i64 hd, .int .i64 hh', .int .i64 a, .int .i64 wt, .bool false], .int .i64 0]) ?_ rfl ⟨by rw [HR.out]; rfl, HB9.out⟩
   exact results_blk_val Try.results13 _ _ _ (w.heap.size + 1) 24 #[.int .i64 (j : Int), .int .i64 st, .int .i64 nx, .int .i64 ph, .int .i64 t, .int .i64 hd, .int .i64 hh', .int .i64 a, .int .i64 wt, .bool false] (0, 0) _ rfl hr9 Try.underlying24 rfl info_sig _ rfl
end Go.Proofs.Ytgnhmdfajnnkhaa

