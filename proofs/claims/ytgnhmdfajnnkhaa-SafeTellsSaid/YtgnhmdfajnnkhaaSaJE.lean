/- Joined texts: The document's red. The walk over the document's Tick. What may be stays so: pure facts of ticks. What package plan does: contracts that its own walks must bring; the chapter's example over them; Few, FewAll. The chapter's example: two stages, red of two ticks, seven ticks. The walks over the document's May and Text of a row of lamps. The walk over the document's Read of a text. -/
import Derived.Test.YtgnhmdfajnnkhaaSaJD
import Derived.Test.YtgnhmdfajnnkhaaSaJB
/- The document's red. -/
namespace Go.Proofs.Ytgnhmdfajnnkhaa
set_option maxRecDepth 100000
set_option linter.unusedVariables false
set_option linter.unusedSimpArgs false
open Go.RowKit

set_option maxHeartbeats 8000000 in
theorem rred_a1 (p : Pl) (s : Sg) (w : World) (hp : PlIn w p) (t0 : 0 ≤ s.t) (t1 : s.t ≤ 1000) (h1 : s.t < p.rd) (h2 : s.t + 1 < p.rd) : Calls Try.prog 55 #[plV p, sgV s] w (GivesG (redT p s) w) := by
  have HR := Lib.hid (show redT p s = { s with t := s.t + 1 } from by
    have hN : redN p s = s.t + 1 := by rw [redN, if_pos h1]
    rw [redT, hN, if_pos (.inl h2)])
  obtain ⟨G, hG⟩ : ∃ G, redT p s = G := ⟨_, rfl⟩
  rw [hG] at HR ⊢
  simp only [plV, sgV]
  have w1 : wrap64 (s.t + 1) = s.t + 1 := by unfold wrap64; omega
  clear hG
  obtain ⟨pl, st, nx, ph, t, hd, hh', ak, wt, sp⟩ := s
  obtain ⟨A, n, c, m, B, k, d, sl, am, rd, hd'⟩ := p
  simp only at *
  go_enter Try.func55, Try.ntmps55
  go_wp2
  refine bodyPost_ret (v := .agg #[.int .i64 pl, .int .i64 st, .int .i64 nx, .int .i64 ph, .int .i64 (t + 1), .int .i64 hd, .int .i64 hh', .int .i64 ak, .int .i64 wt, .bool sp]) ?_ rfl ⟨by rw [HR.out]; rfl, below_alloc3 _ _ _ _⟩
  exact results_cell_row Try.results55 _ _ (w.heap.size + 1 + 1) 24 #[.int .i64 pl, .int .i64 st, .int .i64 nx, .int .i64 ph, .int .i64 (t + 1), .int .i64 hd, .int .i64 hh', .int .i64 ak, .int .i64 wt, .bool sp] (0, 0) _ rfl (alloc3_new _ _ _ _) Try.underlying24 rfl info_sig
set_option maxHeartbeats 8000000 in
theorem rred_a2 (p : Pl) (s : Sg) (w : World) (hp : PlIn w p) (t0 : 0 ≤ s.t) (t1 : s.t ≤ 1000) (h1 : s.t < p.rd) (h2 : ¬ s.t + 1 < p.rd) (hsp : s.sp = true) : Calls Try.prog 55 #[plV p, sgV s] w (GivesG (redT p s) w) := by
  have HR := Lib.hid (show redT p s = { s with t := s.t + 1 } from by
    have hN : redN p s = s.t + 1 := by rw [redN, if_pos h1]
    rw [redT, hN, if_pos (.inr hsp)])
  obtain ⟨G, hG⟩ : ∃ G, redT p s = G := ⟨_, rfl⟩
  rw [hG] at HR ⊢
  simp only [plV, sgV]
  have w1 : wrap64 (s.t + 1) = s.t + 1 := by unfold wrap64; omega
  clear hG
  obtain ⟨pl, st, nx, ph, t, hd, hh', ak, wt, sp⟩ := s
  obtain ⟨A, n, c, m, B, k, d, sl, am, rd, hd'⟩ := p
  simp only at *
  subst hsp
  go_enter Try.func55, Try.ntmps55
  go_wp2
  refine bodyPost_ret (v := .agg #[.int .i64 pl, .int .i64 st, .int .i64 nx, .int .i64 ph, .int .i64 (t + 1), .int .i64 hd, .int .i64 hh', .int .i64 ak, .int .i64 wt, .bool true]) ?_ rfl ⟨by rw [HR.out]; rfl, below_alloc3 _ _ _ _⟩
  exact results_cell_row Try.results55 _ _ (w.heap.size + 1 + 1) 24 #[.int .i64 pl, .int .i64 st, .int .i64 nx, .int .i64 ph, .int .i64 (t + 1), .int .i64 hd, .int .i64 hh', .int .i64 ak, .int .i64 wt, .bool true] (0, 0) _ rfl (alloc3_new _ _ _ _) Try.underlying24 rfl info_sig
set_option maxHeartbeats 8000000 in
theorem rred_a3 (p : Pl) (s : Sg) (w : World) (hp : PlIn w p) (t0 : 0 ≤ s.t) (t1 : s.t ≤ 1000) (h1 : s.t < p.rd) (h2 : ¬ s.t + 1 < p.rd) (hsp : s.sp = false) (hwt : s.wt = -1) : Calls Try.prog 55 #[plV p, sgV s] w (GivesG (redT p s) w) := by
  have HR := Lib.hid (show redT p s = { s with ph := 0, st := s.nx, t := 0 } from by
    have hN : redN p s = s.t + 1 := by rw [redN, if_pos h1]
    rw [redT, hN, if_neg (by rw [hsp]; rintro (h | h); exact h2 h; cases h), if_pos hwt])
  obtain ⟨G, hG⟩ : ∃ G, redT p s = G := ⟨_, rfl⟩
  rw [hG] at HR ⊢
  simp only [plV, sgV]
  have w1 : wrap64 (s.t + 1) = s.t + 1 := by unfold wrap64; omega
  clear hG
  obtain ⟨pl, st, nx, ph, t, hd, hh', ak, wt, sp⟩ := s
  obtain ⟨A, n, c, m, B, k, d, sl, am, rd, hd'⟩ := p
  simp only at *
  subst hsp
  have hwb : (wt != -1) = false := by rw [hwt]; rfl
  clear hwt
  go_enter Try.func55, Try.ntmps55
  go_wp2
  refine bodyPost_ret (v := .agg #[.int .i64 pl, .int .i64 nx, .int .i64 nx, .int .i64 0, .int .i64 0, .int .i64 hd, .int .i64 hh', .int .i64 ak, .int .i64 wt, .bool false]) ?_ rfl ⟨by rw [HR.out]; rfl, below_alloc3 _ _ _ _⟩
  exact results_cell_row Try.results55 _ _ (w.heap.size + 1 + 1) 24 #[.int .i64 pl, .int .i64 nx, .int .i64 nx, .int .i64 0, .int .i64 0, .int .i64 hd, .int .i64 hh', .int .i64 ak, .int .i64 wt, .bool false] (0, 0) _ rfl (alloc3_new _ _ _ _) Try.underlying24 rfl info_sig
set_option maxHeartbeats 8000000 in
theorem rred_a4 (p : Pl) (s : Sg) (w : World) (hp : PlIn w p) (t0 : 0 ≤ s.t) (t1 : s.t ≤ 1000) (h1 : s.t < p.rd) (h2 : ¬ s.t + 1 < p.rd) (hsp : s.sp = false) (hwt : s.wt ≠ -1) : Calls Try.prog 55 #[plV p, sgV s] w (GivesG (redT p s) w) := by
  have HR := Lib.hid (show redT p s = { s with pl := s.wt, wt := -1, nx := 0, ph := 0, st := 0, t := 0 } from by
    have hN : redN p s = s.t + 1 := by rw [redN, if_pos h1]
    rw [redT, hN, if_neg (by rw [hsp]; rintro (h | h); exact h2 h; cases h), if_neg hwt])
  obtain ⟨G, hG⟩ : ∃ G, redT p s = G := ⟨_, rfl⟩
  rw [hG] at HR ⊢
  simp only [plV, sgV]
  have w1 : wrap64 (s.t + 1) = s.t + 1 := by unfold wrap64; omega
  clear hG
  obtain ⟨pl, st, nx, ph, t, hd, hh', ak, wt, sp⟩ := s
  obtain ⟨A, n, c, m, B, k, d, sl, am, rd, hd'⟩ := p
  simp only at *
  subst hsp
  have hwb : (wt != -1) = true := by rw [bne_iff_ne]; exact hwt
  clear hwt
  go_enter Try.func55, Try.ntmps55
  go_wp2
  refine bodyPost_ret (v := .agg #[.int .i64 wt, .int .i64 0, .int .i64 0, .int .i64 0, .int .i64 0, .int .i64 hd, .int .i64 hh', .int .i64 ak, .int .i64 (-1), .bool false]) ?_ rfl ⟨by rw [HR.out]; rfl, below_alloc3 _ _ _ _⟩
  exact results_cell_row Try.results55 _ _ (w.heap.size + 1 + 1) 24 #[.int .i64 wt, .int .i64 0, .int .i64 0, .int .i64 0, .int .i64 0, .int .i64 hd, .int .i64 hh', .int .i64 ak, .int .i64 (-1), .bool false] (0, 0) _ rfl (alloc3_new _ _ _ _) Try.underlying24 rfl info_sig
set_option maxHeartbeats 8000000 in
theorem rred_b2 (p : Pl) (s : Sg) (w : World) (hp : PlIn w p) (t0 : 0 ≤ s.t) (t1 : s.t ≤ 1000) (h1 : ¬ s.t < p.rd)  (hsp : s.sp = true) : Calls Try.prog 55 #[plV p, sgV s] w (GivesG (redT p s) w) := by
  have HR := Lib.hid (show redT p s = { s with t := s.t } from by
    have hN : redN p s = s.t := by rw [redN, if_neg h1]
    rw [redT, hN, if_pos (.inr hsp)])
  obtain ⟨G, hG⟩ : ∃ G, redT p s = G := ⟨_, rfl⟩
  rw [hG] at HR ⊢
  simp only [plV, sgV]
  have w1 : wrap64 (s.t + 1) = s.t + 1 := by unfold wrap64; omega
  clear hG
  obtain ⟨pl, st, nx, ph, t, hd, hh', ak, wt, sp⟩ := s
  obtain ⟨A, n, c, m, B, k, d, sl, am, rd, hd'⟩ := p
  simp only at *
  subst hsp
  go_enter Try.func55, Try.ntmps55
  go_wp2
  refine bodyPost_ret (v := .agg #[.int .i64 pl, .int .i64 st, .int .i64 nx, .int .i64 ph, .int .i64 t, .int .i64 hd, .int .i64 hh', .int .i64 ak, .int .i64 wt, .bool true]) ?_ rfl ⟨by rw [HR.out]; rfl, below_alloc3 _ _ _ _⟩
  exact results_cell_row Try.results55 _ _ (w.heap.size + 1 + 1) 24 #[.int .i64 pl, .int .i64 st, .int .i64 nx, .int .i64 ph, .int .i64 t, .int .i64 hd, .int .i64 hh', .int .i64 ak, .int .i64 wt, .bool true] (0, 0) _ rfl (alloc3_new _ _ _ _) Try.underlying24 rfl info_sig
set_option maxHeartbeats 8000000 in
theorem rred_b3 (p : Pl) (s : Sg) (w : World) (hp : PlIn w p) (t0 : 0 ≤ s.t) (t1 : s.t ≤ 1000) (h1 : ¬ s.t < p.rd)  (hsp : s.sp = false) (hwt : s.wt = -1) : Calls Try.prog 55 #[plV p, sgV s] w (GivesG (redT p s) w) := by
  have HR := Lib.hid (show redT p s = { s with ph := 0, st := s.nx, t := 0 } from by
    have hN : redN p s = s.t := by rw [redN, if_neg h1]
    rw [redT, hN, if_neg (by rw [hsp]; rintro (h | h); exact h1 h; cases h), if_pos hwt])
  obtain ⟨G, hG⟩ : ∃ G, redT p s = G := ⟨_, rfl⟩
  rw [hG] at HR ⊢
  simp only [plV, sgV]
  have w1 : wrap64 (s.t + 1) = s.t + 1 := by unfold wrap64; omega
  clear hG
  obtain ⟨pl, st, nx, ph, t, hd, hh', ak, wt, sp⟩ := s
  obtain ⟨A, n, c, m, B, k, d, sl, am, rd, hd'⟩ := p
  simp only at *
  subst hsp
  have hwb : (wt != -1) = false := by rw [hwt]; rfl
  clear hwt
  go_enter Try.func55, Try.ntmps55
  go_wp2
  refine bodyPost_ret (v := .agg #[.int .i64 pl, .int .i64 nx, .int .i64 nx, .int .i64 0, .int .i64 0, .int .i64 hd, .int .i64 hh', .int .i64 ak, .int .i64 wt, .bool false]) ?_ rfl ⟨by rw [HR.out]; rfl, below_alloc3 _ _ _ _⟩
  exact results_cell_row Try.results55 _ _ (w.heap.size + 1 + 1) 24 #[.int .i64 pl, .int .i64 nx, .int .i64 nx, .int .i64 0, .int .i64 0, .int .i64 hd, .int .i64 hh', .int .i64 ak, .int .i64 wt, .bool false] (0, 0) _ rfl (alloc3_new _ _ _ _) Try.underlying24 rfl info_sig
set_option maxHeartbeats 8000000 in
theorem rred_b4 (p : Pl) (s : Sg) (w : World) (hp : PlIn w p) (t0 : 0 ≤ s.t) (t1 : s.t ≤ 1000) (h1 : ¬ s.t < p.rd)  (hsp : s.sp = false) (hwt : s.wt ≠ -1) : Calls Try.prog 55 #[plV p, sgV s] w (GivesG (redT p s) w) := by
  have HR := Lib.hid (show redT p s = { s with pl := s.wt, wt := -1, nx := 0, ph := 0, st := 0, t := 0 } from by
    have hN : redN p s = s.t := by rw [redN, if_neg h1]
    rw [redT, hN, if_neg (by rw [hsp]; rintro (h | h); exact h1 h; cases h), if_neg hwt])
  obtain ⟨G, hG⟩ : ∃ G, redT p s = G := ⟨_, rfl⟩
  rw [hG] at HR ⊢
  simp only [plV, sgV]
  have w1 : wrap64 (s.t + 1) = s.t + 1 := by unfold wrap64; omega
  clear hG
  obtain ⟨pl, st, nx, ph, t, hd, hh', ak, wt, sp⟩ := s
  obtain ⟨A, n, c, m, B, k, d, sl, am, rd, hd'⟩ := p
  simp only at *
  subst hsp
  have hwb : (wt != -1) = true := by rw [bne_iff_ne]; exact hwt
  clear hwt
  go_enter Try.func55, Try.ntmps55
  go_wp2
  refine bodyPost_ret (v := .agg #[.int .i64 wt, .int .i64 0, .int .i64 0, .int .i64 0, .int .i64 0, .int .i64 hd, .int .i64 hh', .int .i64 ak, .int .i64 (-1), .bool false]) ?_ rfl ⟨by rw [HR.out]; rfl, below_alloc3 _ _ _ _⟩
  exact results_cell_row Try.results55 _ _ (w.heap.size + 1 + 1) 24 #[.int .i64 wt, .int .i64 0, .int .i64 0, .int .i64 0, .int .i64 0, .int .i64 hd, .int .i64 hh', .int .i64 ak, .int .i64 (-1), .bool false] (0, 0) _ rfl (alloc3_new _ _ _ _) Try.underlying24 rfl info_sig
theorem rred_any (p : Pl) (s : Sg) (w : World) (hp : PlIn w p) (t0 : 0 ≤ s.t) (t1 : s.t ≤ 1000) : Calls Try.prog 55 #[plV p, sgV s] w (GivesG (redT p s) w) := by
  by_cases h1 : s.t < p.rd
  · by_cases h2 : s.t + 1 < p.rd
    · exact rred_a1 p s w hp t0 t1 h1 h2
    · cases hsp : s.sp
      · by_cases hwt : s.wt = -1
        · exact rred_a3 p s w hp t0 t1 h1 h2 hsp hwt
        · exact rred_a4 p s w hp t0 t1 h1 h2 hsp hwt
      · exact rred_a2 p s w hp t0 t1 h1 h2 hsp
  · cases hsp : s.sp
    · by_cases hwt : s.wt = -1
      · exact rred_b3 p s w hp t0 t1 h1 hsp hwt
      · exact rred_b4 p s w hp t0 t1 h1 hsp hwt
    · exact rred_b2 p s w hp t0 t1 h1 hsp
end Go.Proofs.Ytgnhmdfajnnkhaa


/- The walk over the document's Tick. -/
namespace Go.Proofs.Ytgnhmdfajnnkhaa
set_option maxRecDepth 100000
set_option linter.unusedVariables false
set_option linter.unusedSimpArgs false
open Go.RowKit

theorem alloc2_old (w : World) (a b : Obj) : ((w.alloc a).alloc b).heap[w.heap.size]? = some a := heap_alloc2_old w a b
theorem other_small {p : Pl} {s : Sg} (hf : fitP p = true) (h : OtherS p s) : 0 ≤ s.t ∧ s.t ≤ 1000 := by
  have hff := fit_iff.1 hf
  have := hff.am2
  have := hff.rd2
  have := h.t
  by_cases h1 : s.ph = 1
  · have := h.am h1; omega
  · have := h.rd h1; omega
set_option maxHeartbeats 8000000 in
theorem rtick_no (A : Option Addr) (n c : Nat) (l : List Pl) (s : Sg) (w : World) (hl : Pls w A n c l) (hts : SmG s) (hm : mayS l s = false) : Calls Try.prog 39 #[.slice A n c, sgV s] w (GivesG (tickS l s) w) := by
  have hsm := hl.small
  have HMY := Lib.hid (fun X (hX : Below w.heap.size w X) => rsmay_any A n c l s X (hl.below hX) hts)
  rw [hm] at HMY
  have HR := Lib.hid (show tickS l s = s from if_neg (by rw [hm]; simp))
  obtain ⟨G, hG⟩ : ∃ G, tickS l s = G := ⟨_, rfl⟩
  rw [hG] at HR ⊢
  simp only [sgV] at HMY ⊢
  clear hG hm hl
  obtain ⟨pl, st, nx, ph, t, hd, hh', ak, wt, sp⟩ := s
  simp only at *
  go_enter Try.func39, Try.ntmps39
  go_wp2_with (first
    | (go_at_call 36
       (with_reducible refine (HMY.out _ (below_alloc2 _ _ _)).mono ?_)
       rintro e w1 ⟨rfl, hb1⟩
       have hs1 := (hb1.block w.heap.size (by simp; omega)).trans (alloc2_old w (.cells #[.int .i64 pl, .int .i64 st, .int .i64 nx, .int .i64 ph, .int .i64 t, .int .i64 hd, .int .i64 hh', .int .i64 ak, .int .i64 wt, .bool sp] 24) (.cells #[.int .i64 0, .int .i64 0, .int .i64 0, .int .i64 0, .int .i64 0, .int .i64 0, .int .i64 0, .int .i64 0, .int .i64 0, .bool false] 24))
       have hr1 := (hb1.block (w.heap.size + 1) (by simp)).trans (alloc2_new w (.cells #[.int .i64 pl, .int .i64 st, .int .i64 nx, .int .i64 ph, .int .i64 t, .int .i64 hd, .int .i64 hh', .int .i64 ak, .int .i64 wt, .bool sp] 24) (.cells #[.int .i64 0, .int .i64 0, .int .i64 0, .int .i64 0, .int .i64 0, .int .i64 0, .int .i64 0, .int .i64 0, .int .i64 0, .bool false] 24))
       have hn1 : w.heap.size + 1 < w1.heap.size := Nat.lt_of_lt_of_le (by simp) hb1.size
       have HB1 := Lib.hid ((below_alloc2 w (.cells #[.int .i64 pl, .int .i64 st, .int .i64 nx, .int .i64 ph, .int .i64 t, .int .i64 hd, .int .i64 hh', .int .i64 ak, .int .i64 wt, .bool sp] 24) (.cells #[.int .i64 0, .int .i64 0, .int .i64 0, .int .i64 0, .int .i64 0, .int .i64 0, .int .i64 0, .int .i64 0, .int .i64 0, .bool false] 24)).trans (hb1.mono (by simp; omega)))
       obtain ⟨c0, c1, c2, c3, c4, c5, c6, c7, c8, c9⟩ := (show BoxG w1 w.heap.size ⟨pl, st, nx, ph, t, hd, hh', ak, wt, sp⟩ from hs1).cells
       simp only at c0 c1 c2 c3 c4 c5 c6 c7 c8 c9
       clear hb1)
    | ((with_reducible refine wpList_store_part rfl 24 _ _ rfl (w.heap.size + 1) 0 (.agg #[.int .i64 pl, .int .i64 st, .int .i64 nx, .int .i64 ph, .int .i64 t, .int .i64 hd, .int .i64 hh', .int .i64 ak, .int .i64 wt, .bool sp]) #[.int .i64 pl, .int .i64 st, .int .i64 nx, .int .i64 ph, .int .i64 t, .int .i64 hd, .int .i64 hh', .int .i64 ak, .int .i64 wt, .bool sp] ?hx9 ?hy9 ?hv9 24 #[.int .i64 0, .int .i64 0, .int .i64 0, .int .i64 0, .int .i64 0, .int .i64 0, .int .i64 0, .int .i64 0, .int .i64 0, .bool false] #[.int .i64 pl, .int .i64 st, .int .i64 nx, .int .i64 ph, .int .i64 t, .int .i64 hd, .int .i64 hh', .int .i64 ak, .int .i64 wt, .bool sp] hr1 ?hi9 ?hl9 ?ho9 ?hn9 ?_); (case hx9 => rfl); (case hy9 => first | rfl | exact congrArg (Value.int IntKind.i64) v1); (case hv9 => rfl); (case hi9 => first | exact info_one _ | exact info_sig); (case hl9 => simp); (case ho9 => first | exact one_int _ | exact one_sig _ _ _ _ _ _ _ _ _ _); (case hn9 => rfl)
       intro w9 hg9 hr9 hz9
       have HB9 := Lib.hid (Below.grows HB1.out hg9 HB1.out.size (by omega))
       have hn9 : w.heap.size + 1 < w9.heap.size := by omega
       clear hg9))
  refine bodyPost_ret (v := .agg #[.int .i64 pl, .int .i64 st, .int .i64 nx, .int .i64 ph, .int .i64 t, .int .i64 hd, .int .i64 hh', .int .i64 ak, .int .i64 wt, .bool sp]) ?_ rfl ⟨by rw [HR.out]; rfl, HB9.out⟩
  exact results_cell_row Try.results39 _ _ (w.heap.size + 1) 24 #[.int .i64 pl, .int .i64 st, .int .i64 nx, .int .i64 ph, .int .i64 t, .int .i64 hd, .int .i64 hh', .int .i64 ak, .int .i64 wt, .bool sp] (0, 0) _ rfl hr9 Try.underlying24 rfl info_sig
set_option maxHeartbeats 8000000 in
theorem rtick_green (A : Option Addr) (n c : Nat) (l : List Pl) (s : Sg) (w : World) (hl : Pls w A n c l) (hts : SmG s) (hm : mayS l s = true) (hph : s.ph = 0) : Calls Try.prog 39 #[.slice A n c, sgV s] w (GivesG (tickS l s) w) := by
  have hsm := hl.small
  have HMY := Lib.hid (fun X (hX : Below w.heap.size w X) => rsmay_any A n c l s X (hl.below hX) hts)
  rw [hm] at HMY
  have hms := mayS_iff.1 hm
  have hpl0 := hms.p0
  have hpl1 : s.pl < n := by have := hms.p1; rw [hl.len] at this; exact this
  obtain ⟨j, hj⟩ := Int.eq_ofNat_of_zero_le hpl0
  have hjn : j < n := by omega
  obtain ⟨b, off, q, rfl, hq, hmem, -, -, -⟩ := hl.at_ j hjn
  have hqa : planAt l s.pl = q := by rw [hj, planAt, Int.toNat_natCast, hq]
  have hfit := all_fit hms.all hmem
  have HPC := Lib.hid (show ∀ X, Below w.heap.size w X → X.cell? ⟨b, off + j * 5, none⟩ = some (.slice q.A q.n q.c) ∧ X.cell? ⟨b, off + j * 5 + 1, none⟩ = some (.slice q.B q.k q.d) ∧ X.cell? ⟨b, off + j * 5 + 2, none⟩ = some (.int .i64 q.am) ∧ X.cell? ⟨b, off + j * 5 + 3, none⟩ = some (.int .i64 q.rd) ∧ X.cell? ⟨b, off + j * 5 + 4, none⟩ = some (.int .i64 q.hd) from fun X hX => by
    obtain ⟨b2, off2, p2, hA2, hp2, -, -, -, z0, z1, z2, z3, z4⟩ := (hl.below hX).at_ j hjn
    cases hA2
    obtain rfl := hq.symm.trans hp2
    exact ⟨z0, z1, z2, z3, z4⟩)
  have HQI := Lib.hid (show ∀ X, Below w.heap.size w X → PlIn X q from fun X hX => (hl.below hX).pl q hmem)
  have hgr := hms.green hph
  have hrg := hms.range
  have hhl := hms.held
  rw [hqa] at hgr hrg hhl
  have HC := Lib.hid (fun X (hX : Below w.heap.size w X) => rgreen_any q l.length s X (HQI.out X hX) hfit hrg hhl hgr)
  have hpb0 : (s.ph == 0) = true := by rw [hph]; rfl
  have HR := Lib.hid (show tickS l s = greenT q s by rw [tickS, if_pos hm, if_pos hph, hqa])
  obtain ⟨G, hG⟩ : ∃ G, greenT q s = G := ⟨_, rfl⟩
  rw [HR.out, hG]
  rw [hG] at HC
  simp only [sgV] at HMY HC ⊢
  simp only [plV] at HC
  clear hG hm hl hms hqa hmem hq HR hph hgr hrg hhl
  obtain ⟨pl, st, nx, ph, t, hd, hh', ak, wt, sp⟩ := s
  simp only at *
  subst hj
  go_enter Try.func39, Try.ntmps39
  go_wp2_with (first
    | (go_at_call 36
       (with_reducible refine (HMY.out _ (below_alloc2 _ _ _)).mono ?_)
       rintro e w1 ⟨rfl, hb1⟩
       have hs1 := (hb1.block w.heap.size (by simp; omega)).trans (alloc2_old w (.cells #[.int .i64 (j : Int), .int .i64 st, .int .i64 nx, .int .i64 ph, .int .i64 t, .int .i64 hd, .int .i64 hh', .int .i64 ak, .int .i64 wt, .bool sp] 24) (.cells #[.int .i64 0, .int .i64 0, .int .i64 0, .int .i64 0, .int .i64 0, .int .i64 0, .int .i64 0, .int .i64 0, .int .i64 0, .bool false] 24))
       have hr1 := (hb1.block (w.heap.size + 1) (by simp)).trans (alloc2_new w (.cells #[.int .i64 (j : Int), .int .i64 st, .int .i64 nx, .int .i64 ph, .int .i64 t, .int .i64 hd, .int .i64 hh', .int .i64 ak, .int .i64 wt, .bool sp] 24) (.cells #[.int .i64 0, .int .i64 0, .int .i64 0, .int .i64 0, .int .i64 0, .int .i64 0, .int .i64 0, .int .i64 0, .int .i64 0, .bool false] 24))
       have hn1 : w.heap.size + 1 < w1.heap.size := Nat.lt_of_lt_of_le (by simp) hb1.size
       have HB1 := Lib.hid ((below_alloc2 w (.cells #[.int .i64 (j : Int), .int .i64 st, .int .i64 nx, .int .i64 ph, .int .i64 t, .int .i64 hd, .int .i64 hh', .int .i64 ak, .int .i64 wt, .bool sp] 24) (.cells #[.int .i64 0, .int .i64 0, .int .i64 0, .int .i64 0, .int .i64 0, .int .i64 0, .int .i64 0, .int .i64 0, .int .i64 0, .bool false] 24)).trans (hb1.mono (by simp; omega)))
       obtain ⟨c0, c1, c2, c3, c4, c5, c6, c7, c8, c9⟩ := (show BoxG w1 w.heap.size ⟨(j : Int), st, nx, ph, t, hd, hh', ak, wt, sp⟩ from hs1).cells
       simp only at c0 c1 c2 c3 c4 c5 c6 c7 c8 c9
       obtain ⟨p0, p1, p2, p3, p4⟩ := HPC.out w1 HB1.out
       have hbp := one_alloc w1 (.cells #[.slice q.A q.n q.c, .slice q.B q.k q.d, .int .i64 q.am, .int .i64 q.rd, .int .i64 q.hd] 47)
       have hs2 := (hbp.block w.heap.size (by omega)).trans hs1
       have hr2 := (hbp.block (w.heap.size + 1) (by omega)).trans hr1
       have hp2 := heap_alloc_new w1 (.cells #[.slice q.A q.n q.c, .slice q.B q.k q.d, .int .i64 q.am, .int .i64 q.rd, .int .i64 q.hd] 47)
       have hn2 : w.heap.size + 1 < (w1.alloc (.cells #[.slice q.A q.n q.c, .slice q.B q.k q.d, .int .i64 q.am, .int .i64 q.rd, .int .i64 q.hd] 47)).heap.size := Nat.lt_of_lt_of_le hn1 hbp.size
       have hm2 : w1.heap.size < (w1.alloc (.cells #[.slice q.A q.n q.c, .slice q.B q.k q.d, .int .i64 q.am, .int .i64 q.rd, .int .i64 q.hd] 47)).heap.size := by simp
       have HB2 := Lib.hid (HB1.out.trans (hbp.mono HB1.out.size))
       obtain ⟨d0, d1, d2, d3, d4, d5, d6, d7, d8, d9⟩ := (show BoxG (w1.alloc (.cells #[.slice q.A q.n q.c, .slice q.B q.k q.d, .int .i64 q.am, .int .i64 q.rd, .int .i64 q.hd] 47)) w.heap.size ⟨(j : Int), st, nx, ph, t, hd, hh', ak, wt, sp⟩ from hs2).cells
       simp only at d0 d1 d2 d3 d4 d5 d6 d7 d8 d9
       clear hb1)
    | (go_at_call 54
       (with_reducible refine (HC.out _ HB2.out).mono ?_)
       rintro e w3 ⟨rfl, hb3⟩
       have hr3 := (hb3.block (w.heap.size + 1) (by omega)).trans hr2
       have hn3 : w.heap.size + 1 < w3.heap.size := Nat.lt_of_lt_of_le hn2 hb3.size
       have HB3 := Lib.hid (HB2.out.trans (hb3.mono HB2.out.size))
       clear hb3)
    | ((with_reducible refine wpList_store_part rfl 24 _ _ rfl (w.heap.size + 1) 0 (.agg #[.int .i64 G.pl, .int .i64 G.st, .int .i64 G.nx, .int .i64 G.ph, .int .i64 G.t, .int .i64 G.hd, .int .i64 G.hl, .int .i64 G.ak, .int .i64 G.wt, .bool G.sp]) #[.int .i64 G.pl, .int .i64 G.st, .int .i64 G.nx, .int .i64 G.ph, .int .i64 G.t, .int .i64 G.hd, .int .i64 G.hl, .int .i64 G.ak, .int .i64 G.wt, .bool G.sp] ?hx9 ?hy9 ?hv9 24 #[.int .i64 0, .int .i64 0, .int .i64 0, .int .i64 0, .int .i64 0, .int .i64 0, .int .i64 0, .int .i64 0, .int .i64 0, .bool false] #[.int .i64 G.pl, .int .i64 G.st, .int .i64 G.nx, .int .i64 G.ph, .int .i64 G.t, .int .i64 G.hd, .int .i64 G.hl, .int .i64 G.ak, .int .i64 G.wt, .bool G.sp] hr3 ?hi9 ?hl9 ?ho9 ?hn9 ?_); (case hx9 => rfl); (case hy9 => first | rfl | exact congrArg (Value.int IntKind.i64) v1); (case hv9 => rfl); (case hi9 => first | exact info_one _ | exact info_sig); (case hl9 => simp); (case ho9 => first | exact one_int _ | exact one_sig _ _ _ _ _ _ _ _ _ _); (case hn9 => rfl)
       intro w9 hg9 hr9 hz9
       have HB9 := Lib.hid (Below.grows HB3.out hg9 HB3.out.size (by omega))
       have hn9 : w.heap.size + 1 < w9.heap.size := by omega
       clear hg9))
  refine bodyPost_ret (v := .agg #[.int .i64 G.pl, .int .i64 G.st, .int .i64 G.nx, .int .i64 G.ph, .int .i64 G.t, .int .i64 G.hd, .int .i64 G.hl, .int .i64 G.ak, .int .i64 G.wt, .bool G.sp]) ?_ rfl ⟨rfl, HB9.out⟩
  exact results_cell_row Try.results39 _ _ (w.heap.size + 1) 24 #[.int .i64 G.pl, .int .i64 G.st, .int .i64 G.nx, .int .i64 G.ph, .int .i64 G.t, .int .i64 G.hd, .int .i64 G.hl, .int .i64 G.ak, .int .i64 G.wt, .bool G.sp] (0, 0) _ rfl hr9 Try.underlying24 rfl info_sig
set_option maxHeartbeats 8000000 in
theorem rtick_red (A : Option Addr) (n c : Nat) (l : List Pl) (s : Sg) (w : World) (hl : Pls w A n c l) (hts : SmG s) (hm : mayS l s = true) (hp0 : s.ph ≠ 0) (hp1 : s.ph ≠ 1) : Calls Try.prog 39 #[.slice A n c, sgV s] w (GivesG (tickS l s) w) := by
  have hsm := hl.small
  have HMY := Lib.hid (fun X (hX : Below w.heap.size w X) => rsmay_any A n c l s X (hl.below hX) hts)
  rw [hm] at HMY
  have hms := mayS_iff.1 hm
  have hpl0 := hms.p0
  have hpl1 : s.pl < n := by have := hms.p1; rw [hl.len] at this; exact this
  obtain ⟨j, hj⟩ := Int.eq_ofNat_of_zero_le hpl0
  have hjn : j < n := by omega
  obtain ⟨b, off, q, rfl, hq, hmem, -, -, -⟩ := hl.at_ j hjn
  have hqa : planAt l s.pl = q := by rw [hj, planAt, Int.toNat_natCast, hq]
  have hfit := all_fit hms.all hmem
  have HPC := Lib.hid (show ∀ X, Below w.heap.size w X → X.cell? ⟨b, off + j * 5, none⟩ = some (.slice q.A q.n q.c) ∧ X.cell? ⟨b, off + j * 5 + 1, none⟩ = some (.slice q.B q.k q.d) ∧ X.cell? ⟨b, off + j * 5 + 2, none⟩ = some (.int .i64 q.am) ∧ X.cell? ⟨b, off + j * 5 + 3, none⟩ = some (.int .i64 q.rd) ∧ X.cell? ⟨b, off + j * 5 + 4, none⟩ = some (.int .i64 q.hd) from fun X hX => by
    obtain ⟨b2, off2, p2, hA2, hp2, -, -, -, z0, z1, z2, z3, z4⟩ := (hl.below hX).at_ j hjn
    cases hA2
    obtain rfl := hq.symm.trans hp2
    exact ⟨z0, z1, z2, z3, z4⟩)
  have HQI := Lib.hid (show ∀ X, Below w.heap.size w X → PlIn X q from fun X hX => (hl.below hX).pl q hmem)
  have hot := hms.other hp0
  rw [hqa] at hot
  obtain ⟨u0, u1⟩ := other_small hfit hot
  have HC := Lib.hid (fun X (hX : Below w.heap.size w X) => rred_any q s X (HQI.out X hX) u0 u1)
  have hpb0 : (s.ph == 0) = false := by rw [beq_eq_false_iff_ne]; exact hp0
  have hpb1 : (s.ph == 1) = false := by rw [beq_eq_false_iff_ne]; exact hp1
  have HR := Lib.hid (show tickS l s = redT q s by rw [tickS, if_pos hm, if_neg hp0, if_neg hp1, hqa])
  obtain ⟨G, hG⟩ : ∃ G, redT q s = G := ⟨_, rfl⟩
  rw [HR.out, hG]
  rw [hG] at HC
  simp only [sgV] at HMY HC ⊢
  simp only [plV] at HC
  clear hG hm hl hms hqa hmem hq HR hp0 hp1 hot u0 u1
  obtain ⟨pl, st, nx, ph, t, hd, hh', ak, wt, sp⟩ := s
  simp only at *
  subst hj
  go_enter Try.func39, Try.ntmps39
  go_wp2_with (first
    | (go_at_call 36
       (with_reducible refine (HMY.out _ (below_alloc2 _ _ _)).mono ?_)
       rintro e w1 ⟨rfl, hb1⟩
       have hs1 := (hb1.block w.heap.size (by simp; omega)).trans (alloc2_old w (.cells #[.int .i64 (j : Int), .int .i64 st, .int .i64 nx, .int .i64 ph, .int .i64 t, .int .i64 hd, .int .i64 hh', .int .i64 ak, .int .i64 wt, .bool sp] 24) (.cells #[.int .i64 0, .int .i64 0, .int .i64 0, .int .i64 0, .int .i64 0, .int .i64 0, .int .i64 0, .int .i64 0, .int .i64 0, .bool false] 24))
       have hr1 := (hb1.block (w.heap.size + 1) (by simp)).trans (alloc2_new w (.cells #[.int .i64 (j : Int), .int .i64 st, .int .i64 nx, .int .i64 ph, .int .i64 t, .int .i64 hd, .int .i64 hh', .int .i64 ak, .int .i64 wt, .bool sp] 24) (.cells #[.int .i64 0, .int .i64 0, .int .i64 0, .int .i64 0, .int .i64 0, .int .i64 0, .int .i64 0, .int .i64 0, .int .i64 0, .bool false] 24))
       have hn1 : w.heap.size + 1 < w1.heap.size := Nat.lt_of_lt_of_le (by simp) hb1.size
       have HB1 := Lib.hid ((below_alloc2 w (.cells #[.int .i64 (j : Int), .int .i64 st, .int .i64 nx, .int .i64 ph, .int .i64 t, .int .i64 hd, .int .i64 hh', .int .i64 ak, .int .i64 wt, .bool sp] 24) (.cells #[.int .i64 0, .int .i64 0, .int .i64 0, .int .i64 0, .int .i64 0, .int .i64 0, .int .i64 0, .int .i64 0, .int .i64 0, .bool false] 24)).trans (hb1.mono (by simp; omega)))
       obtain ⟨c0, c1, c2, c3, c4, c5, c6, c7, c8, c9⟩ := (show BoxG w1 w.heap.size ⟨(j : Int), st, nx, ph, t, hd, hh', ak, wt, sp⟩ from hs1).cells
       simp only at c0 c1 c2 c3 c4 c5 c6 c7 c8 c9
       obtain ⟨p0, p1, p2, p3, p4⟩ := HPC.out w1 HB1.out
       have hbp := one_alloc w1 (.cells #[.slice q.A q.n q.c, .slice q.B q.k q.d, .int .i64 q.am, .int .i64 q.rd, .int .i64 q.hd] 47)
       have hs2 := (hbp.block w.heap.size (by omega)).trans hs1
       have hr2 := (hbp.block (w.heap.size + 1) (by omega)).trans hr1
       have hp2 := heap_alloc_new w1 (.cells #[.slice q.A q.n q.c, .slice q.B q.k q.d, .int .i64 q.am, .int .i64 q.rd, .int .i64 q.hd] 47)
       have hn2 : w.heap.size + 1 < (w1.alloc (.cells #[.slice q.A q.n q.c, .slice q.B q.k q.d, .int .i64 q.am, .int .i64 q.rd, .int .i64 q.hd] 47)).heap.size := Nat.lt_of_lt_of_le hn1 hbp.size
       have hm2 : w1.heap.size < (w1.alloc (.cells #[.slice q.A q.n q.c, .slice q.B q.k q.d, .int .i64 q.am, .int .i64 q.rd, .int .i64 q.hd] 47)).heap.size := by simp
       have HB2 := Lib.hid (HB1.out.trans (hbp.mono HB1.out.size))
       obtain ⟨d0, d1, d2, d3, d4, d5, d6, d7, d8, d9⟩ := (show BoxG (w1.alloc (.cells #[.slice q.A q.n q.c, .slice q.B q.k q.d, .int .i64 q.am, .int .i64 q.rd, .int .i64 q.hd] 47)) w.heap.size ⟨(j : Int), st, nx, ph, t, hd, hh', ak, wt, sp⟩ from hs2).cells
       simp only at d0 d1 d2 d3 d4 d5 d6 d7 d8 d9
       clear hb1)
    | (go_at_call 55
       (with_reducible refine (HC.out _ HB2.out).mono ?_)
       rintro e w3 ⟨rfl, hb3⟩
       have hr3 := (hb3.block (w.heap.size + 1) (by omega)).trans hr2
       have hn3 : w.heap.size + 1 < w3.heap.size := Nat.lt_of_lt_of_le hn2 hb3.size
       have HB3 := Lib.hid (HB2.out.trans (hb3.mono HB2.out.size))
       clear hb3)
    | ((with_reducible refine wpList_store_part rfl 24 _ _ rfl (w.heap.size + 1) 0 (.agg #[.int .i64 G.pl, .int .i64 G.st, .int .i64 G.nx, .int .i64 G.ph, .int .i64 G.t, .int .i64 G.hd, .int .i64 G.hl, .int .i64 G.ak, .int .i64 G.wt, .bool G.sp]) #[.int .i64 G.pl, .int .i64 G.st, .int .i64 G.nx, .int .i64 G.ph, .int .i64 G.t, .int .i64 G.hd, .int .i64 G.hl, .int .i64 G.ak, .int .i64 G.wt, .bool G.sp] ?hx9 ?hy9 ?hv9 24 #[.int .i64 0, .int .i64 0, .int .i64 0, .int .i64 0, .int .i64 0, .int .i64 0, .int .i64 0, .int .i64 0, .int .i64 0, .bool false] #[.int .i64 G.pl, .int .i64 G.st, .int .i64 G.nx, .int .i64 G.ph, .int .i64 G.t, .int .i64 G.hd, .int .i64 G.hl, .int .i64 G.ak, .int .i64 G.wt, .bool G.sp] hr3 ?hi9 ?hl9 ?ho9 ?hn9 ?_); (case hx9 => rfl); (case hy9 => first | rfl | exact congrArg (Value.int IntKind.i64) v1); (case hv9 => rfl); (case hi9 => first | exact info_one _ | exact info_sig); (case hl9 => simp); (case ho9 => first | exact one_int _ | exact one_sig _ _ _ _ _ _ _ _ _ _); (case hn9 => rfl)
       intro w9 hg9 hr9 hz9
       have HB9 := Lib.hid (Below.grows HB3.out hg9 HB3.out.size (by omega))
       have hn9 : w.heap.size + 1 < w9.heap.size := by omega
       clear hg9))
  refine bodyPost_ret (v := .agg #[.int .i64 G.pl, .int .i64 G.st, .int .i64 G.nx, .int .i64 G.ph, .int .i64 G.t, .int .i64 G.hd, .int .i64 G.hl, .int .i64 G.ak, .int .i64 G.wt, .bool G.sp]) ?_ rfl ⟨rfl, HB9.out⟩
  exact results_cell_row Try.results39 _ _ (w.heap.size + 1) 24 #[.int .i64 G.pl, .int .i64 G.st, .int .i64 G.nx, .int .i64 G.ph, .int .i64 G.t, .int .i64 G.hd, .int .i64 G.hl, .int .i64 G.ak, .int .i64 G.wt, .bool G.sp] (0, 0) _ rfl hr9 Try.underlying24 rfl info_sig
set_option maxHeartbeats 8000000 in
theorem rtick_amber_yes (A : Option Addr) (n c : Nat) (l : List Pl) (s : Sg) (w : World) (hl : Pls w A n c l) (hts : SmG s) (hm : mayS l s = true) (hp1 : s.ph = 1) (hta : s.t + 1 = (planAt l s.pl).am) : Calls Try.prog 39 #[.slice A n c, sgV s] w (GivesG (tickS l s) w) := by
  have hsm := hl.small
  have HMY := Lib.hid (fun X (hX : Below w.heap.size w X) => rsmay_any A n c l s X (hl.below hX) hts)
  rw [hm] at HMY
  have hms := mayS_iff.1 hm
  have hpl0 := hms.p0
  have hpl1 : s.pl < n := by have := hms.p1; rw [hl.len] at this; exact this
  obtain ⟨j, hj⟩ := Int.eq_ofNat_of_zero_le hpl0
  have hjn : j < n := by omega
  obtain ⟨b, off, q, rfl, hq, hmem, -, -, -⟩ := hl.at_ j hjn
  have hqa : planAt l s.pl = q := by rw [hj, planAt, Int.toNat_natCast, hq]
  have hfit := all_fit hms.all hmem
  have HPC := Lib.hid (show ∀ X, Below w.heap.size w X → X.cell? ⟨b, off + j * 5, none⟩ = some (.slice q.A q.n q.c) ∧ X.cell? ⟨b, off + j * 5 + 1, none⟩ = some (.slice q.B q.k q.d) ∧ X.cell? ⟨b, off + j * 5 + 2, none⟩ = some (.int .i64 q.am) ∧ X.cell? ⟨b, off + j * 5 + 3, none⟩ = some (.int .i64 q.rd) ∧ X.cell? ⟨b, off + j * 5 + 4, none⟩ = some (.int .i64 q.hd) from fun X hX => by
    obtain ⟨b2, off2, p2, hA2, hp2, -, -, -, z0, z1, z2, z3, z4⟩ := (hl.below hX).at_ j hjn
    cases hA2
    obtain rfl := hq.symm.trans hp2
    exact ⟨z0, z1, z2, z3, z4⟩)
  have HQI := Lib.hid (show ∀ X, Below w.heap.size w X → PlIn X q from fun X hX => (hl.below hX).pl q hmem)
  have hot := hms.other (by rw [hp1]; decide)
  rw [hqa] at hot hta
  obtain ⟨u0, u1⟩ := other_small hfit hot
  have hpb0 : (s.ph == 0) = false := by rw [hp1]; rfl
  have hpb1 : (s.ph == 1) = true := by rw [hp1]; rfl
  have hab : (s.t + 1 == q.am) = true := by rw [beq_iff_eq]; exact hta
  have HR := Lib.hid (show tickS l s = { s with ph := 2, t := 0 } by rw [tickS, if_pos hm, if_neg (by rw [hp1]; decide), if_pos hp1, hqa, amberT, if_pos hta])
  obtain ⟨G, hG⟩ : ∃ G, tickS l s = G := ⟨_, rfl⟩
  rw [hG] at HR ⊢
  have v1 : wrap64 (s.t + 1) = s.t + 1 := by unfold wrap64; omega
  simp only [sgV] at HMY ⊢
  clear hG hm hl hms hqa hmem hq hp1 hot u0 u1 hta
  obtain ⟨pl, st, nx, ph, t, hd, hh', ak, wt, sp⟩ := s
  simp only at *
  subst hj
  go_enter Try.func39, Try.ntmps39
  go_wp2_with (first
    | (go_at_call 36
       (with_reducible refine (HMY.out _ (below_alloc2 _ _ _)).mono ?_)
       rintro e w1 ⟨rfl, hb1⟩
       have hs1 := (hb1.block w.heap.size (by simp; omega)).trans (alloc2_old w (.cells #[.int .i64 (j : Int), .int .i64 st, .int .i64 nx, .int .i64 ph, .int .i64 t, .int .i64 hd, .int .i64 hh', .int .i64 ak, .int .i64 wt, .bool sp] 24) (.cells #[.int .i64 0, .int .i64 0, .int .i64 0, .int .i64 0, .int .i64 0, .int .i64 0, .int .i64 0, .int .i64 0, .int .i64 0, .bool false] 24))
       have hr1 := (hb1.block (w.heap.size + 1) (by simp)).trans (alloc2_new w (.cells #[.int .i64 (j : Int), .int .i64 st, .int .i64 nx, .int .i64 ph, .int .i64 t, .int .i64 hd, .int .i64 hh', .int .i64 ak, .int .i64 wt, .bool sp] 24) (.cells #[.int .i64 0, .int .i64 0, .int .i64 0, .int .i64 0, .int .i64 0, .int .i64 0, .int .i64 0, .int .i64 0, .int .i64 0, .bool false] 24))
       have hn1 : w.heap.size + 1 < w1.heap.size := Nat.lt_of_lt_of_le (by simp) hb1.size
       have HB1 := Lib.hid ((below_alloc2 w (.cells #[.int .i64 (j : Int), .int .i64 st, .int .i64 nx, .int .i64 ph, .int .i64 t, .int .i64 hd, .int .i64 hh', .int .i64 ak, .int .i64 wt, .bool sp] 24) (.cells #[.int .i64 0, .int .i64 0, .int .i64 0, .int .i64 0, .int .i64 0, .int .i64 0, .int .i64 0, .int .i64 0, .int .i64 0, .bool false] 24)).trans (hb1.mono (by simp; omega)))
       obtain ⟨c0, c1, c2, c3, c4, c5, c6, c7, c8, c9⟩ := (show BoxG w1 w.heap.size ⟨(j : Int), st, nx, ph, t, hd, hh', ak, wt, sp⟩ from hs1).cells
       simp only at c0 c1 c2 c3 c4 c5 c6 c7 c8 c9
       obtain ⟨p0, p1, p2, p3, p4⟩ := HPC.out w1 HB1.out
       have hbp := one_alloc w1 (.cells #[.slice q.A q.n q.c, .slice q.B q.k q.d, .int .i64 q.am, .int .i64 q.rd, .int .i64 q.hd] 47)
       have hs2 := (hbp.block w.heap.size (by omega)).trans hs1
       have hr2 := (hbp.block (w.heap.size + 1) (by omega)).trans hr1
       have hp2 := heap_alloc_new w1 (.cells #[.slice q.A q.n q.c, .slice q.B q.k q.d, .int .i64 q.am, .int .i64 q.rd, .int .i64 q.hd] 47)
       have hn2 : w.heap.size + 1 < (w1.alloc (.cells #[.slice q.A q.n q.c, .slice q.B q.k q.d, .int .i64 q.am, .int .i64 q.rd, .int .i64 q.hd] 47)).heap.size := Nat.lt_of_lt_of_le hn1 hbp.size
       have hm2 : w1.heap.size < (w1.alloc (.cells #[.slice q.A q.n q.c, .slice q.B q.k q.d, .int .i64 q.am, .int .i64 q.rd, .int .i64 q.hd] 47)).heap.size := by simp
       have HB2 := Lib.hid (HB1.out.trans (hbp.mono HB1.out.size))
       obtain ⟨d0, d1, d2, d3, d4, d5, d6, d7, d8, d9⟩ := (show BoxG (w1.alloc (.cells #[.slice q.A q.n q.c, .slice q.B q.k q.d, .int .i64 q.am, .int .i64 q.rd, .int .i64 q.hd] 47)) w.heap.size ⟨(j : Int), st, nx, ph, t, hd, hh', ak, wt, sp⟩ from hs2).cells
       simp only at d0 d1 d2 d3 d4 d5 d6 d7 d8 d9
       clear hb1)
    | ((with_reducible refine wpList_store_part rfl 3 _ _ rfl w.heap.size 4 (.int .i64 (t + 1)) #[.int .i64 (t + 1)] ?hx3 ?hy3 ?hv3 24 #[.int .i64 (j : Int), .int .i64 st, .int .i64 nx, .int .i64 ph, .int .i64 t, .int .i64 hd, .int .i64 hh', .int .i64 ak, .int .i64 wt, .bool sp] #[.int .i64 (j : Int), .int .i64 st, .int .i64 nx, .int .i64 ph, .int .i64 (t + 1), .int .i64 hd, .int .i64 hh', .int .i64 ak, .int .i64 wt, .bool sp] hs2 ?hi3 ?hl3 ?ho3 ?hn3 ?_); (case hx3 => rfl); (case hy3 => first | rfl | exact congrArg (Value.int IntKind.i64) v1); (case hv3 => rfl); (case hi3 => first | exact info_one _ | exact info_sig); (case hl3 => simp); (case ho3 => first | exact one_int _ | exact one_sig _ _ _ _ _ _ _ _ _ _); (case hn3 => rfl)
       intro w3 hg3 hs3 hz3
       have hr3 := (other_block hg3 (show (w.heap.size + 1) ≠ w.heap.size by omega) (by omega)).trans hr2
       have hp3 := (other_block hg3 (show w1.heap.size ≠ w.heap.size by omega) (by omega)).trans hp2
       have HB3 := Lib.hid (Below.grows HB2.out hg3 HB2.out.size (by omega))
       have hn3 : w.heap.size + 1 < w3.heap.size := by omega
       obtain ⟨e0, e1, e2, e3, e4, e5, e6, e7, e8, e9⟩ := (show BoxG w3 w.heap.size ⟨(j : Int), st, nx, ph, (t + 1), hd, hh', ak, wt, sp⟩ from hs3).cells
       simp only at e0 e1 e2 e3 e4 e5 e6 e7 e8 e9
       obtain ⟨q0, q1, q2, q3, q4⟩ := (show BoxP w3 w1.heap.size q from hp3).cells
       clear hg3)
    | ((with_reducible refine wpList_store_part rfl 3 _ _ rfl w.heap.size 3 (.int .i64 2) #[.int .i64 2] ?hx4 ?hy4 ?hv4 24 #[.int .i64 (j : Int), .int .i64 st, .int .i64 nx, .int .i64 ph, .int .i64 (t + 1), .int .i64 hd, .int .i64 hh', .int .i64 ak, .int .i64 wt, .bool sp] #[.int .i64 (j : Int), .int .i64 st, .int .i64 nx, .int .i64 2, .int .i64 (t + 1), .int .i64 hd, .int .i64 hh', .int .i64 ak, .int .i64 wt, .bool sp] hs3 ?hi4 ?hl4 ?ho4 ?hn4 ?_); (case hx4 => rfl); (case hy4 => first | rfl | exact congrArg (Value.int IntKind.i64) v1); (case hv4 => rfl); (case hi4 => first | exact info_one _ | exact info_sig); (case hl4 => simp); (case ho4 => first | exact one_int _ | exact one_sig _ _ _ _ _ _ _ _ _ _); (case hn4 => rfl)
       intro w4 hg4 hs4 hz4
       have hr4 := (other_block hg4 (show (w.heap.size + 1) ≠ w.heap.size by omega) (by omega)).trans hr3
       have hp4 := (other_block hg4 (show w1.heap.size ≠ w.heap.size by omega) (by omega)).trans hp3
       have HB4 := Lib.hid (Below.grows HB3.out hg4 HB3.out.size (by omega))
       have hn4 : w.heap.size + 1 < w4.heap.size := by omega
       clear hg4)
    | ((with_reducible refine wpList_store_part rfl 3 _ _ rfl w.heap.size 4 (.int .i64 0) #[.int .i64 0] ?hx5 ?hy5 ?hv5 24 #[.int .i64 (j : Int), .int .i64 st, .int .i64 nx, .int .i64 2, .int .i64 (t + 1), .int .i64 hd, .int .i64 hh', .int .i64 ak, .int .i64 wt, .bool sp] #[.int .i64 (j : Int), .int .i64 st, .int .i64 nx, .int .i64 2, .int .i64 0, .int .i64 hd, .int .i64 hh', .int .i64 ak, .int .i64 wt, .bool sp] hs4 ?hi5 ?hl5 ?ho5 ?hn5 ?_); (case hx5 => rfl); (case hy5 => first | rfl | exact congrArg (Value.int IntKind.i64) v1); (case hv5 => rfl); (case hi5 => first | exact info_one _ | exact info_sig); (case hl5 => simp); (case ho5 => first | exact one_int _ | exact one_sig _ _ _ _ _ _ _ _ _ _); (case hn5 => rfl)
       intro w5 hg5 hs5 hz5
       have hr5 := (other_block hg5 (show (w.heap.size + 1) ≠ w.heap.size by omega) (by omega)).trans hr4
       have hp5 := (other_block hg5 (show w1.heap.size ≠ w.heap.size by omega) (by omega)).trans hp4
       have HB5 := Lib.hid (Below.grows HB4.out hg5 HB4.out.size (by omega))
       have hn5 : w.heap.size + 1 < w5.heap.size := by omega
       obtain ⟨f0, f1, f2, f3, f4, f5, f6, f7, f8, f9⟩ := (show BoxG w5 w.heap.size ⟨(j : Int), st, nx, 2, 0, hd, hh', ak, wt, sp⟩ from hs5).cells
       simp only at f0 f1 f2 f3 f4 f5 f6 f7 f8 f9
       clear hg5)
    | ((with_reducible refine wpList_store_part rfl 24 _ _ rfl (w.heap.size + 1) 0 (.agg #[.int .i64 (j : Int), .int .i64 st, .int .i64 nx, .int .i64 2, .int .i64 0, .int .i64 hd, .int .i64 hh', .int .i64 ak, .int .i64 wt, .bool sp]) #[.int .i64 (j : Int), .int .i64 st, .int .i64 nx, .int .i64 2, .int .i64 0, .int .i64 hd, .int .i64 hh', .int .i64 ak, .int .i64 wt, .bool sp] ?hx9 ?hy9 ?hv9 24 #[.int .i64 0, .int .i64 0, .int .i64 0, .int .i64 0, .int .i64 0, .int .i64 0, .int .i64 0, .int .i64 0, .int .i64 0, .bool false] #[.int .i64 (j : Int), .int .i64 st, .int .i64 nx, .int .i64 2, .int .i64 0, .int .i64 hd, .int .i64 hh', .int .i64 ak, .int .i64 wt, .bool sp] hr5 ?hi9 ?hl9 ?ho9 ?hn9 ?_); (case hx9 => rfl); (case hy9 => first | rfl | exact congrArg (Value.int IntKind.i64) v1); (case hv9 => rfl); (case hi9 => first | exact info_one _ | exact info_sig); (case hl9 => simp); (case ho9 => first | exact one_int _ | exact one_sig _ _ _ _ _ _ _ _ _ _); (case hn9 => rfl)
       intro w9 hg9 hr9 hz9
       have HB9 := Lib.hid (Below.grows HB5.out hg9 HB5.out.size (by omega))
       have hn9 : w.heap.size + 1 < w9.heap.size := by omega
       clear hg9))
  refine bodyPost_ret (v := .agg #[.int .i64 (j : Int), .int .i64 st, .int .i64 nx, .int .i64 2, .int .i64 0, .int .i64 hd, .int .i64 hh', .int .i64 ak, .int .i64 wt, .bool sp]) ?_ rfl ⟨by rw [HR.out]; rfl, HB9.out⟩
  exact results_cell_row Try.results39 _ _ (w.heap.size + 1) 24 #[.int .i64 (j : Int), .int .i64 st, .int .i64 nx, .int .i64 2, .int .i64 0, .int .i64 hd, .int .i64 hh', .int .i64 ak, .int .i64 wt, .bool sp] (0, 0) _ rfl hr9 Try.underlying24 rfl info_sig
set_option maxHeartbeats 8000000 in
theorem rtick_amber_no (A : Option Addr) (n c : Nat) (l : List Pl) (s : Sg) (w : World) (hl : Pls w A n c l) (hts : SmG s) (hm : mayS l s = true) (hp1 : s.ph = 1) (hta : s.t + 1 ≠ (planAt l s.pl).am) : Calls Try.prog 39 #[.slice A n c, sgV s] w (GivesG (tickS l s) w) := by
  have hsm := hl.small
  have HMY := Lib.hid (fun X (hX : Below w.heap.size w X) => rsmay_any A n c l s X (hl.below hX) hts)
  rw [hm] at HMY
  have hms := mayS_iff.1 hm
  have hpl0 := hms.p0
  have hpl1 : s.pl < n := by have := hms.p1; rw [hl.len] at this; exact this
  obtain ⟨j, hj⟩ := Int.eq_ofNat_of_zero_le hpl0
  have hjn : j < n := by omega
  obtain ⟨b, off, q, rfl, hq, hmem, -, -, -⟩ := hl.at_ j hjn
  have hqa : planAt l s.pl = q := by rw [hj, planAt, Int.toNat_natCast, hq]
  have hfit := all_fit hms.all hmem
  have HPC := Lib.hid (show ∀ X, Below w.heap.size w X → X.cell? ⟨b, off + j * 5, none⟩ = some (.slice q.A q.n q.c) ∧ X.cell? ⟨b, off + j * 5 + 1, none⟩ = some (.slice q.B q.k q.d) ∧ X.cell? ⟨b, off + j * 5 + 2, none⟩ = some (.int .i64 q.am) ∧ X.cell? ⟨b, off + j * 5 + 3, none⟩ = some (.int .i64 q.rd) ∧ X.cell? ⟨b, off + j * 5 + 4, none⟩ = some (.int .i64 q.hd) from fun X hX => by
    obtain ⟨b2, off2, p2, hA2, hp2, -, -, -, z0, z1, z2, z3, z4⟩ := (hl.below hX).at_ j hjn
    cases hA2
    obtain rfl := hq.symm.trans hp2
    exact ⟨z0, z1, z2, z3, z4⟩)
  have HQI := Lib.hid (show ∀ X, Below w.heap.size w X → PlIn X q from fun X hX => (hl.below hX).pl q hmem)
  have hot := hms.other (by rw [hp1]; decide)
  rw [hqa] at hot hta
  obtain ⟨u0, u1⟩ := other_small hfit hot
  have hpb0 : (s.ph == 0) = false := by rw [hp1]; rfl
  have hpb1 : (s.ph == 1) = true := by rw [hp1]; rfl
  have hab : (s.t + 1 == q.am) = false := by rw [beq_eq_false_iff_ne]; exact hta
  have HR := Lib.hid (show tickS l s = { s with t := s.t + 1 } by rw [tickS, if_pos hm, if_neg (by rw [hp1]; decide), if_pos hp1, hqa, amberT, if_neg hta])
  obtain ⟨G, hG⟩ : ∃ G, tickS l s = G := ⟨_, rfl⟩
  rw [hG] at HR ⊢
  have v1 : wrap64 (s.t + 1) = s.t + 1 := by unfold wrap64; omega
  simp only [sgV] at HMY ⊢
  clear hG hm hl hms hqa hmem hq hp1 hot u0 u1 hta
  obtain ⟨pl, st, nx, ph, t, hd, hh', ak, wt, sp⟩ := s
  simp only at *
  subst hj
  go_enter Try.func39, Try.ntmps39
  go_wp2_with (first
    | (go_at_call 36
       (with_reducible refine (HMY.out _ (below_alloc2 _ _ _)).mono ?_)
       rintro e w1 ⟨rfl, hb1⟩
       have hs1 := (hb1.block w.heap.size (by simp; omega)).trans (alloc2_old w (.cells #[.int .i64 (j : Int), .int .i64 st, .int .i64 nx, .int .i64 ph, .int .i64 t, .int .i64 hd, .int .i64 hh', .int .i64 ak, .int .i64 wt, .bool sp] 24) (.cells #[.int .i64 0, .int .i64 0, .int .i64 0, .int .i64 0, .int .i64 0, .int .i64 0, .int .i64 0, .int .i64 0, .int .i64 0, .bool false] 24))
       have hr1 := (hb1.block (w.heap.size + 1) (by simp)).trans (alloc2_new w (.cells #[.int .i64 (j : Int), .int .i64 st, .int .i64 nx, .int .i64 ph, .int .i64 t, .int .i64 hd, .int .i64 hh', .int .i64 ak, .int .i64 wt, .bool sp] 24) (.cells #[.int .i64 0, .int .i64 0, .int .i64 0, .int .i64 0, .int .i64 0, .int .i64 0, .int .i64 0, .int .i64 0, .int .i64 0, .bool false] 24))
       have hn1 : w.heap.size + 1 < w1.heap.size := Nat.lt_of_lt_of_le (by simp) hb1.size
       have HB1 := Lib.hid ((below_alloc2 w (.cells #[.int .i64 (j : Int), .int .i64 st, .int .i64 nx, .int .i64 ph, .int .i64 t, .int .i64 hd, .int .i64 hh', .int .i64 ak, .int .i64 wt, .bool sp] 24) (.cells #[.int .i64 0, .int .i64 0, .int .i64 0, .int .i64 0, .int .i64 0, .int .i64 0, .int .i64 0, .int .i64 0, .int .i64 0, .bool false] 24)).trans (hb1.mono (by simp; omega)))
       obtain ⟨c0, c1, c2, c3, c4, c5, c6, c7, c8, c9⟩ := (show BoxG w1 w.heap.size ⟨(j : Int), st, nx, ph, t, hd, hh', ak, wt, sp⟩ from hs1).cells
       simp only at c0 c1 c2 c3 c4 c5 c6 c7 c8 c9
       obtain ⟨p0, p1, p2, p3, p4⟩ := HPC.out w1 HB1.out
       have hbp := one_alloc w1 (.cells #[.slice q.A q.n q.c, .slice q.B q.k q.d, .int .i64 q.am, .int .i64 q.rd, .int .i64 q.hd] 47)
       have hs2 := (hbp.block w.heap.size (by omega)).trans hs1
       have hr2 := (hbp.block (w.heap.size + 1) (by omega)).trans hr1
       have hp2 := heap_alloc_new w1 (.cells #[.slice q.A q.n q.c, .slice q.B q.k q.d, .int .i64 q.am, .int .i64 q.rd, .int .i64 q.hd] 47)
       have hn2 : w.heap.size + 1 < (w1.alloc (.cells #[.slice q.A q.n q.c, .slice q.B q.k q.d, .int .i64 q.am, .int .i64 q.rd, .int .i64 q.hd] 47)).heap.size := Nat.lt_of_lt_of_le hn1 hbp.size
       have hm2 : w1.heap.size < (w1.alloc (.cells #[.slice q.A q.n q.c, .slice q.B q.k q.d, .int .i64 q.am, .int .i64 q.rd, .int .i64 q.hd] 47)).heap.size := by simp
       have HB2 := Lib.hid (HB1.out.trans (hbp.mono HB1.out.size))
       obtain ⟨d0, d1, d2, d3, d4, d5, d6, d7, d8, d9⟩ := (show BoxG (w1.alloc (.cells #[.slice q.A q.n q.c, .slice q.B q.k q.d, .int .i64 q.am, .int .i64 q.rd, .int .i64 q.hd] 47)) w.heap.size ⟨(j : Int), st, nx, ph, t, hd, hh', ak, wt, sp⟩ from hs2).cells
       simp only at d0 d1 d2 d3 d4 d5 d6 d7 d8 d9
       clear hb1)
    | ((with_reducible refine wpList_store_part rfl 3 _ _ rfl w.heap.size 4 (.int .i64 (t + 1)) #[.int .i64 (t + 1)] ?hx3 ?hy3 ?hv3 24 #[.int .i64 (j : Int), .int .i64 st, .int .i64 nx, .int .i64 ph, .int .i64 t, .int .i64 hd, .int .i64 hh', .int .i64 ak, .int .i64 wt, .bool sp] #[.int .i64 (j : Int), .int .i64 st, .int .i64 nx, .int .i64 ph, .int .i64 (t + 1), .int .i64 hd, .int .i64 hh', .int .i64 ak, .int .i64 wt, .bool sp] hs2 ?hi3 ?hl3 ?ho3 ?hn3 ?_); (case hx3 => rfl); (case hy3 => first | rfl | exact congrArg (Value.int IntKind.i64) v1); (case hv3 => rfl); (case hi3 => first | exact info_one _ | exact info_sig); (case hl3 => simp); (case ho3 => first | exact one_int _ | exact one_sig _ _ _ _ _ _ _ _ _ _); (case hn3 => rfl)
       intro w3 hg3 hs3 hz3
       have hr3 := (other_block hg3 (show (w.heap.size + 1) ≠ w.heap.size by omega) (by omega)).trans hr2
       have hp3 := (other_block hg3 (show w1.heap.size ≠ w.heap.size by omega) (by omega)).trans hp2
       have HB3 := Lib.hid (Below.grows HB2.out hg3 HB2.out.size (by omega))
       have hn3 : w.heap.size + 1 < w3.heap.size := by omega
       obtain ⟨e0, e1, e2, e3, e4, e5, e6, e7, e8, e9⟩ := (show BoxG w3 w.heap.size ⟨(j : Int), st, nx, ph, (t + 1), hd, hh', ak, wt, sp⟩ from hs3).cells
       simp only at e0 e1 e2 e3 e4 e5 e6 e7 e8 e9
       obtain ⟨q0, q1, q2, q3, q4⟩ := (show BoxP w3 w1.heap.size q from hp3).cells
       clear hg3)
    | ((with_reducible refine wpList_store_part rfl 24 _ _ rfl (w.heap.size + 1) 0 (.agg #[.int .i64 (j : Int), .int .i64 st, .int .i64 nx, .int .i64 ph, .int .i64 (t + 1), .int .i64 hd, .int .i64 hh', .int .i64 ak, .int .i64 wt, .bool sp]) #[.int .i64 (j : Int), .int .i64 st, .int .i64 nx, .int .i64 ph, .int .i64 (t + 1), .int .i64 hd, .int .i64 hh', .int .i64 ak, .int .i64 wt, .bool sp] ?hx9 ?hy9 ?hv9 24 #[.int .i64 0, .int .i64 0, .int .i64 0, .int .i64 0, .int .i64 0, .int .i64 0, .int .i64 0, .int .i64 0, .int .i64 0, .bool false] #[.int .i64 (j : Int), .int .i64 st, .int .i64 nx, .int .i64 ph, .int .i64 (t + 1), .int .i64 hd, .int .i64 hh', .int .i64 ak, .int .i64 wt, .bool sp] hr3 ?hi9 ?hl9 ?ho9 ?hn9 ?_); (case hx9 => rfl); (case hy9 => first | rfl | exact congrArg (Value.int IntKind.i64) v1); (case hv9 => rfl); (case hi9 => first | exact info_one _ | exact info_sig); (case hl9 => simp); (case ho9 => first | exact one_int _ | exact one_sig _ _ _ _ _ _ _ _ _ _); (case hn9 => rfl)
       intro w9 hg9 hr9 hz9
       have HB9 := Lib.hid (Below.grows HB3.out hg9 HB3.out.size (by omega))
       have hn9 : w.heap.size + 1 < w9.heap.size := by omega
       clear hg9))
  refine bodyPost_ret (v := .agg #[.int .i64 (j : Int), .int .i64 st, .int .i64 nx, .int .i64 ph, .int .i64 (t + 1), .int .i64 hd, .int .i64 hh', .int .i64 ak, .int .i64 wt, .bool sp]) ?_ rfl ⟨by rw [HR.out]; rfl, HB9.out⟩
  exact results_cell_row Try.results39 _ _ (w.heap.size + 1) 24 #[.int .i64 (j : Int), .int .i64 st, .int .i64 nx, .int .i64 ph, .int .i64 (t + 1), .int .i64 hd, .int .i64 hh', .int .i64 ak, .int .i64 wt, .bool sp] (0, 0) _ rfl hr9 Try.underlying24 rfl info_sig
theorem rtick_any (A : Option Addr) (n c : Nat) (l : List Pl) (s : Sg) (w : World) (hl : Pls w A n c l) (hts : SmG s) : Calls Try.prog 39 #[.slice A n c, sgV s] w (GivesG (tickS l s) w) := by
  cases hm : mayS l s
  · exact rtick_no A n c l s w hl hts hm
  · by_cases h0 : s.ph = 0
    · exact rtick_green A n c l s w hl hts hm h0
    · by_cases h1 : s.ph = 1
      · by_cases ht : s.t + 1 = (planAt l s.pl).am
        · exact rtick_amber_yes A n c l s w hl hts hm h1 ht
        · exact rtick_amber_no A n c l s w hl hts hm h1 ht
      · exact rtick_red A n c l s w hl hts hm h0 h1
end Go.Proofs.Ytgnhmdfajnnkhaa


/- What may be stays so: pure facts of ticks. -/
namespace Go.Proofs.Ytgnhmdfajnnkhaa
set_option maxRecDepth 100000
set_option linter.unusedVariables false
set_option linter.unusedSimpArgs false
open Go.RowKit

theorem plan_mem {l : List Pl} {k : Int} (h0 : 0 ≤ k) (h1 : k < l.length) : planAt l k ∈ l := by
  have hk : k.toNat < l.length := by omega
  rw [planAt, List.getD_eq_getElem?_getD, List.getElem?_eq_getElem hk]
  exact List.getElem_mem hk
theorem plan_fit {l : List Pl} {s : Sg} (h : MayS l s) : fitP (planAt l s.pl) = true := all_fit h.all (plan_mem h.p0 h.p1)
theorem next_in {p : Pl} {k : Int} (hf : fitP p = true) (h0 : 0 ≤ k) (h1 : k < p.s.length) : 0 ≤ nextP p k ∧ nextP p k < p.s.length := by
  have h2 := (fit_iff.1 hf).two
  rw [nextP, if_pos ⟨hf, h0, h1⟩]
  by_cases h : k = p.s.length - 1
  · rw [if_pos h]; omega
  · rw [if_neg h]; omega
theorem stg_ok {p : Pl} {k : Int} (hf : fitP p = true) (h0 : 0 ≤ k) (h1 : k < p.s.length) : 1 ≤ (stgAt p k).mn ∧ (stgAt p k).mn ≤ (stgAt p k).mx ∧ (stgAt p k).mx ≤ 200 := by
  obtain ⟨-, -, a, -, b, c⟩ := (fit_iff.1 hf).stage _ (stg_mem h0 h1)
  exact ⟨a, b, c⟩
theorem ends_no {p : Pl} {s : Sg} (h : ¬ endsS p s = true) (hm : (stgAt p s.st).mn ≤ s.t + 1) : s.t + 1 < (stgAt p s.st).mx := by
  rcases Int.lt_or_le (s.t + 1) (stgAt p s.st).mx with h1 | h1
  · exact h1
  · exact (h (by rw [endsS, decide_eq_true hm, decide_eq_true h1]; simp)).elim
theorem may_green {l : List Pl} {s : Sg} (h : MayS l s) (hp : s.ph = 0) : MayS l (greenT (planAt l s.pl) s) := by
  have hf := plan_fit h
  have hr := h.range
  have hh := h.held
  have hg := h.green hp
  obtain ⟨m0, m1, m2⟩ := stg_ok hf hr.s0 hr.s1
  have hff := fit_iff.1 hf
  have hd0 := hff.hd1
  obtain ⟨r1, r2, r3, r4, r5, r6, r7, r8, r9, r10⟩ := hr
  obtain ⟨e1, e2, e3, e4⟩ := hh
  obtain ⟨g1, g2, g3⟩ := hg
  rw [greenT]
  by_cases hd : 0 < s.hd
  · rw [if_pos hd]
    refine ⟨h.all, h.p0, h.p1, ⟨r1, r2, r3, r4, r5, r6, r7, r8, r9, r10⟩, ⟨by simp only; omega, by simp only; omega, by simp only; omega, by simp only; omega⟩, fun _ => ⟨by simp only; omega, ?_, fun hs => ?_⟩, fun hn => (hn hp).elim⟩
    · show s.t + 1 - (s.hl + 1) < (stgAt (planAt l s.pl) s.st).mx
      omega
    · have := g3 hs
      omega
  · rw [if_neg hd]
    have hd1 : s.hd = 0 := by omega
    by_cases he : endsS (planAt l s.pl) s = true
    · rw [if_pos he]
      obtain ⟨n0, n1⟩ := next_in hf r1 r2
      refine ⟨h.all, h.p0, h.p1, ⟨r1, r2, ?_, ?_, by simp only; omega, by simp only; omega, by simp only; omega, by simp only; omega, r9, r10⟩, ⟨e1, by simp only; omega, hd0, by simp only; omega⟩, fun hn => by simp only at hn; omega, fun _ => ⟨hd1, rfl, rfl, Int.le_refl _, fun _ => ?_, fun hn => (hn rfl).elim⟩⟩
      · show 0 ≤ (if s.ak = -1 then nextP (planAt l s.pl) s.st else s.ak)
        split <;> omega
      · show (if s.ak = -1 then nextP (planAt l s.pl) s.st else s.ak) < ((planAt l s.pl).s.length : Int)
        split <;> omega
      · have := hff.am1
        show 0 < (planAt l s.pl).am
        omega
    · rw [if_neg he]
      refine ⟨h.all, h.p0, h.p1, ⟨r1, r2, r3, r4, r5, r6, r7, r8, r9, r10⟩, ⟨e1, e2, e3, e4⟩, fun _ => ⟨by simp only; omega, ?_, g3⟩, fun hn => (hn hp).elim⟩
      show s.t + 1 - s.hl < (stgAt (planAt l s.pl) s.st).mx
      by_cases hm : (stgAt (planAt l s.pl) s.st).mn ≤ s.t + 1
      · have := ends_no he hm
        omega
      · omega
theorem may_amber {l : List Pl} {s : Sg} (h : MayS l s) (hp : s.ph = 1) : MayS l (amberT (planAt l s.pl) s) := by
  have hf := plan_fit h
  have ho := h.other (by omega)
  have hr := h.range
  have hff := fit_iff.1 hf
  have hrd := hff.rd1
  obtain ⟨r1, r2, r3, r4, r5, r6, r7, r8, r9, r10⟩ := hr
  obtain ⟨o1, o2, o3, o4, o5, o6⟩ := ho
  rw [amberT]
  by_cases ha : s.t + 1 = (planAt l s.pl).am
  · rw [if_pos ha]
    refine ⟨h.all, h.p0, h.p1, ⟨r1, r2, r3, r4, by simp only; omega, by simp only; omega, r7, r8, r9, r10⟩, ⟨h.held.h0, h.held.h1, h.held.h2, h.held.h3⟩, fun hn => by simp only at hn; omega, fun _ => ⟨o1, o2, o3, Int.le_refl _, fun hn => by simp only at hn; omega, fun _ => ?_⟩⟩
    show 0 ≤ (planAt l s.pl).rd
    omega
  · rw [if_neg ha]
    refine ⟨h.all, h.p0, h.p1, ⟨r1, r2, r3, r4, r5, r6, r7, r8, r9, r10⟩, ⟨h.held.h0, h.held.h1, h.held.h2, h.held.h3⟩, fun hn => by simp only at hn; omega, fun _ => ⟨o1, o2, o3, by simp only; omega, fun _ => ?_, fun hn => (hn hp).elim⟩⟩
    have := o5 hp
    show s.t + 1 < (planAt l s.pl).am
    omega
theorem may_red {l : List Pl} {s : Sg} (h : MayS l s) (hp0 : s.ph ≠ 0) (hp1 : s.ph ≠ 1) : MayS l (redT (planAt l s.pl) s) := by
  have hf := plan_fit h
  have ho := h.other hp0
  have hr := h.range
  have hff := fit_iff.1 hf
  have hd0 := hff.hd1
  have hrd := hff.rd1
  obtain ⟨r1, r2, r3, r4, r5, r6, r7, r8, r9, r10⟩ := hr
  obtain ⟨o1, o2, o3, o4, o5, o6⟩ := ho
  have o7 := o6 hp1
  rw [redT]
  have hN0 : 0 ≤ redN (planAt l s.pl) s ∧ redN (planAt l s.pl) s ≤ (planAt l s.pl).rd := by
    rw [redN]
    split <;> omega
  by_cases ha : redN (planAt l s.pl) s < (planAt l s.pl).rd ∨ s.sp = true
  · rw [if_pos ha]
    exact ⟨h.all, h.p0, h.p1, ⟨r1, r2, r3, r4, r5, r6, r7, r8, r9, r10⟩, ⟨h.held.h0, h.held.h1, h.held.h2, h.held.h3⟩, fun hn => (hp0 hn).elim, fun _ => ⟨o1, o2, o3, hN0.1, fun hn => (hp1 hn).elim, fun _ => hN0.2⟩⟩
  · rw [if_neg ha]
    by_cases hw : s.wt = -1
    · rw [if_pos hw]
      obtain ⟨m0, m1, m2⟩ := stg_ok hf r3 r4
      refine ⟨h.all, h.p0, h.p1, ⟨r3, r4, r3, r4, Int.le_refl _, by simp only; omega, r7, r8, r9, r10⟩, ⟨h.held.h0, h.held.h1, h.held.h2, h.held.h3⟩, fun _ => ⟨by simp only; omega, ?_, fun _ => o1⟩, fun hn => (hn rfl).elim⟩
      show 0 - s.hl < (stgAt (planAt l s.pl) s.nx).mx
      omega
    · rw [if_neg hw]
      have w0 : 0 ≤ s.wt := by omega
      have hf2 := all_fit h.all (plan_mem w0 r10)
      have hff2 := fit_iff.1 hf2
      have h2 := hff2.two
      obtain ⟨m0, m1, m2⟩ := stg_ok hf2 (k := 0) (Int.le_refl _) (by omega)
      have hd2 := hff2.hd1
      refine ⟨h.all, w0, r10, ⟨Int.le_refl _, ?_, Int.le_refl _, ?_, Int.le_refl _, by simp only; omega, by simp only; omega, ?_, by simp only; omega, by simp only; omega⟩, ⟨by simp only; omega, by simp only; omega, ?_, ?_⟩, fun _ => ⟨by simp only; omega, ?_, fun _ => o1⟩, fun hn => (hn rfl).elim⟩
      · show (0 : Int) < ((planAt l s.wt).s.length : Int)
        omega
      · show (0 : Int) < ((planAt l s.wt).s.length : Int)
        omega
      · show s.ak < ((planAt l s.wt).s.length : Int)
        omega
      · show s.hl ≤ (planAt l s.wt).hd
        omega
      · show s.hd ≤ (planAt l s.wt).hd - s.hl
        omega
      · show 0 - s.hl < (stgAt (planAt l s.wt) 0).mx
        omega
theorem may_tick {l : List Pl} {s : Sg} (h : MayS l s) : MayS l (tickS l s) := by
  rw [tickS, if_pos (mayS_iff.2 h)]
  by_cases h0 : s.ph = 0
  · rw [if_pos h0]; exact may_green h h0
  · rw [if_neg h0]
    by_cases h1 : s.ph = 1
    · rw [if_pos h1]; exact may_amber h h1
    · rw [if_neg h1]; exact may_red h h0 h1
theorem may_ticks {l : List Pl} {s : Sg} (h : MayS l s) : ∀ k, MayS l (ticksS l s k)
  | 0 => h
  | k + 1 => may_tick (may_ticks h k)
theorem may_small {l : List Pl} {s : Sg} (h : MayS l s) : 0 ≤ s.t ∧ s.t ≤ 1000 := by
  by_cases h0 : s.ph = 0
  · obtain ⟨a, b, -⟩ := green_small (plan_fit h) h.range h.held (h.green h0)
    exact ⟨a, b⟩
  · exact other_small (plan_fit h) (h.other h0)
theorem small_may {l : List Pl} {s : Sg} (h : MayS l s) : SmG s := by
  have := (may_small h).2
  have := h.held.h2
  have := (fit_iff.1 (plan_fit h)).hd2
  exact ⟨by omega, by omega⟩
theorem rows_len (l : List Pl) (s : Sg) : ∀ k, (rowsS l s k).length = k
  | 0 => rfl
  | k + 1 => by rw [rowsS, List.length_append, rows_len]; rfl
end Go.Proofs.Ytgnhmdfajnnkhaa


/- What package plan does: contracts that its own walks must bring; the chapter's example over them; Few, FewAll. -/
namespace Go.Proofs.Ytgnhmdfajnnkhaa
set_option maxRecDepth 100000
set_option linter.unusedVariables false
set_option linter.unusedSimpArgs false
open Go.RowKit

/-- the example -/
structure IsTwo (p : Pl) : Prop where
  m : p.m = [2, 1]
  s : p.s = [⟨1, 5, 9⟩, ⟨2, 7, 8⟩]
  am : p.am = 3
  rd : p.rd = 2
  hd : p.hd = 4
  n : p.n = 2
  k : p.k = 2
theorem lit_pair (W : World) (x y : Int) : Its .i64 (W.alloc (.cells #[.int .i64 x, .int .i64 y] 3 (0, 0))) (some ⟨W.heap.size, 0, none⟩) 2 2 [x, y] := by
  refine ⟨rfl, Nat.le_refl _, by unfold maxLen; omega, (fun h => by cases h), fun _ => ⟨_, 0, rfl, fun j hj => ?_⟩⟩
  rw [cell_of_row _ _ _ _ _ _ (heap_alloc_new W _)]
  match j, hj with
  | 0, _ => rfl
  | 1, _ => rfl
theorem sts_two (W : World) (x y : Stg) : Sts (W.alloc (.cells #[.int .i64 x.g, .int .i64 x.mn, .int .i64 x.mx, .int .i64 y.g, .int .i64 y.mn, .int .i64 y.mx] 71 (0, 0))) (some ⟨W.heap.size, 0, none⟩) 2 2 [x, y] := by
  refine ⟨rfl, fun r hr => ?_, fun r hr u hu => ?_, Nat.le_refl _, by unfold maxLen; omega, (fun h => by cases h), fun _ => ⟨_, 0, rfl, fun j hj i hi => ?_⟩⟩
  · simp only [List.map_cons, List.map_nil, List.mem_cons, List.not_mem_nil, or_false] at hr
    rcases hr with rfl | rfl <;> rfl
  · simp only [List.map_cons, List.map_nil, List.mem_cons, List.not_mem_nil, or_false] at hr
    rcases hr with rfl | rfl
    all_goals
      simp only [Stg.row, List.mem_cons, List.not_mem_nil, or_false] at hu
      rcases hu with rfl | rfl | rfl <;> rfl
  · rw [cell_of_row _ _ _ _ _ _ (heap_alloc_new W _)]
    match j, hj, i, hi with
    | 0, _, 0, _ => rfl
    | 0, _, 1, _ => rfl
    | 0, _, 2, _ => rfl
    | 1, _, 0, _ => rfl
    | 1, _, 1, _ => rfl
    | 1, _, 2, _ => rfl
set_option maxHeartbeats 2000000 in
theorem two_any (w : World) : Calls Try.prog 25 #[] w fun e w' => ∃ p, e = .returned (plV p) ∧ IsTwo p ∧ PlIn w' p ∧ Below w.heap.size w w' := by
  go_enter Try.func25, Try.ntmps25
  go_wp2
  obtain ⟨W1, hW1⟩ : ∃ W1, w.alloc (.cells #[.slice (some ⟨w.heap.size + 1, 0, none⟩) 2 2, .slice (some ⟨w.heap.size + 1 + 1, 0, none⟩) 2 2, .int .i64 3, .int .i64 2, .int .i64 4] 47) = W1 := ⟨_, rfl⟩
  have s1 : W1.heap.size = w.heap.size + 1 := by rw [← hW1]; simp
  have b1 : W1.heap[w.heap.size]? = some (.cells #[.slice (some ⟨w.heap.size + 1, 0, none⟩) 2 2, .slice (some ⟨w.heap.size + 1 + 1, 0, none⟩) 2 2, .int .i64 3, .int .i64 2, .int .i64 4] 47 (0, 0)) := by rw [← hW1]; exact heap_alloc_new w _
  have hB1 : Below w.heap.size w W1 := by rw [← hW1]; exact one_alloc w _
  rw [hW1]
  obtain ⟨W2, hW2⟩ : ∃ W2, W1.alloc (.cells #[.int .i64 2, .int .i64 1] 3) = W2 := ⟨_, rfl⟩
  have s2 : W2.heap.size = w.heap.size + 1 + 1 := by rw [← hW2]; simp [s1]
  have i2 : Its .i64 W2 (some ⟨w.heap.size + 1, 0, none⟩) 2 2 [2, 1] := by rw [← hW2, ← s1]; exact lit_pair W1 2 1
  have hB2 : Below W1.heap.size W1 W2 := by rw [← hW2]; exact one_alloc W1 _
  rw [hW2]
  obtain ⟨W3, hW3⟩ : ∃ W3, W2.alloc (.cells #[.int .i64 1, .int .i64 5, .int .i64 9, .int .i64 2, .int .i64 7, .int .i64 8] 71) = W3 := ⟨_, rfl⟩
  have i3 : Sts W3 (some ⟨w.heap.size + 1 + 1, 0, none⟩) 2 2 [⟨1, 5, 9⟩, ⟨2, 7, 8⟩] := by rw [← hW3, ← s2]; exact sts_two W2 ⟨1, 5, 9⟩ ⟨2, 7, 8⟩
  have hB3 : Below W2.heap.size W2 W3 := by rw [← hW3]; exact one_alloc W2 _
  rw [hW3]
  have b3 := (hB3.block _ (by omega)).trans ((hB2.block _ (by omega)).trans b1)
  have hbx : BoxP W3 w.heap.size ⟨some ⟨w.heap.size + 1, 0, none⟩, 2, 2, [2, 1], some ⟨w.heap.size + 1 + 1, 0, none⟩, 2, 2, [⟨1, 5, 9⟩, ⟨2, 7, 8⟩], 3, 2, 4⟩ := b3
  obtain ⟨c0, c1, c2, c3, c4⟩ := hbx.cells
  simp only at c0 c1 c2 c3 c4
  refine bodyPost_ret (v := plV ⟨some ⟨w.heap.size + 1, 0, none⟩, 2, 2, [2, 1], some ⟨w.heap.size + 1 + 1, 0, none⟩, 2, 2, [⟨1, 5, 9⟩, ⟨2, 7, 8⟩], 3, 2, 4⟩) ?_ rfl ⟨_, rfl, ⟨rfl, rfl, rfl, rfl, rfl, rfl, rfl⟩, ⟨i2.below hB3, i3⟩, hB1.trans ((hB2.trans (hB3.mono hB2.size)).mono hB1.size)⟩
  simp [results, Try.results25, plV, go_sem, c0, c1, c2, c3, c4]
theorem pls_one (W : World) (p : Pl) (hp : PlIn W p) : Pls (W.alloc (.cells #[.slice p.A p.n p.c, .slice p.B p.k p.d, .int .i64 p.am, .int .i64 p.rd, .int .i64 p.hd] 47 (0, 0))) (some ⟨W.heap.size, 0, none⟩) 1 1 [p] := by
  have hb := one_alloc W (.cells #[.slice p.A p.n p.c, .slice p.B p.k p.d, .int .i64 p.am, .int .i64 p.rd, .int .i64 p.hd] 47 (0, 0))
  refine ⟨⟨rfl, fun r hr => ?_, fun r hr u hu => ?_, Nat.le_refl _, by unfold maxLen; omega, (fun h => by cases h), fun _ => ⟨_, 0, rfl, fun j hj i hi => ?_⟩⟩, fun x hx => ?_⟩
  · simp only [List.map_cons, List.map_nil, List.mem_cons, List.not_mem_nil, or_false] at hr
    rcases hr with rfl; rfl
  · simp only [List.map_cons, List.map_nil, List.mem_cons, List.not_mem_nil, or_false] at hr
    rcases hr with rfl
    all_goals
      simp only [Pl.row, List.mem_cons, List.not_mem_nil, or_false] at hu
      rcases hu with rfl | rfl | rfl | rfl | rfl <;> rfl
  · rw [cell_of_row _ _ _ _ _ _ (heap_alloc_new W _)]
    match j, hj, i, hi with
    | 0, _, 0, _ => rfl
    | 0, _, 1, _ => rfl
    | 0, _, 2, _ => rfl
    | 0, _, 3, _ => rfl
    | 0, _, 4, _ => rfl
  · simp only [List.mem_cons, List.not_mem_nil, or_false] at hx
    rcases hx with rfl
    · exact hp.below hb
def fewB (p : Pl) : Bool := decide (p.n ≤ 10) && decide (p.k ≤ 10)
theorem few_iff {p : Pl} : fewB p = true ↔ p.n ≤ 10 ∧ p.k ≤ 10 := by simp [fewB]
set_option maxHeartbeats 2000000 in
theorem pfew_any (p : Pl) (w : World) (hp : PlIn w p) : Calls Try.prog 28 #[plV p] w fun e w' => e = .returned (.bool (fewB p)) ∧ Below w.heap.size w w' := by
  have hsm := hp.m.small
  have hsk := hp.s.small
  have HB := Lib.hid (one_alloc w (.cells #[.slice p.A p.n p.c, .slice p.B p.k p.d, .int .i64 p.am, .int .i64 p.rd, .int .i64 p.hd] 47))
  have hr : fewB p = (decide (p.n ≤ 10) && decide (p.k ≤ 10)) := rfl
  simp only [plV]
  obtain ⟨A, n, c, m, B, k, d, s, am, rd, hd⟩ := p
  simp only at *
  rw [hr]
  clear hr hp
  by_cases h1 : n ≤ 10
  · by_cases h2 : k ≤ 10
    · have h1' : decide (n ≤ 10) = true := decide_eq_true h1
      have h2' : decide (k ≤ 10) = true := decide_eq_true h2
      rw [h1', h2']
      go_enter Try.func28, Try.ntmps28
      go_wp2
      go_ret
      exact ⟨by first | (simp [h1, h2]; omega) | simp [h1, h2], HB.out⟩
    · have h1' : decide (n ≤ 10) = true := decide_eq_true h1
      have h2' : decide (k ≤ 10) = false := decide_eq_false h2
      rw [h1', h2']
      go_enter Try.func28, Try.ntmps28
      go_wp2
      go_ret
      exact ⟨by first | (simp [h1, h2]; omega) | simp [h1, h2], HB.out⟩
  · have h1' : decide (n ≤ 10) = false := decide_eq_false h1
    rw [h1']
    go_enter Try.func28, Try.ntmps28
    go_wp2
    go_ret
    exact ⟨by first | (simp [h1]; omega) | simp [h1], HB.out⟩
def fewAllB (l : List Pl) : Bool := (l.take 6).all fewB && decide (l.length ≤ 5)
theorem fewall_iff {l : List Pl} : fewAllB l = true ↔ l.length ≤ 5 ∧ ∀ p ∈ l, p.n ≤ 10 ∧ p.k ≤ 10 := by
  simp only [fewAllB, Bool.and_eq_true, decide_eq_true_eq, List.all_eq_true, few_iff]
  constructor
  · rintro ⟨h1, h2⟩
    rw [List.take_of_length_le (by omega)] at h1
    exact ⟨h2, h1⟩
  · rintro ⟨h1, h2⟩
    rw [List.take_of_length_le (by omega)]
    exact ⟨h2, h1⟩
set_option maxHeartbeats 2000000 in
theorem pfewall_any (A : Option Addr) (n c : Nat) (l : List Pl) (w : World) (hl : Pls w A n c l) : Calls Try.prog 11 #[.slice A n c] w fun e w' => e = .returned (.bool (fewAllB l)) ∧ Below w.heap.size w w' := by
  have hsm := hl.small
  have HLL := Lib.hid hl.len
  have HL := Lib.hid hl
  clear hl
  go_enter Try.func11, Try.ntmps11
  go_wp2
  go_loopw [3] (fun v wr => ∃ j : Nat, j ≤ n ∧ j ≤ 6 ∧ v = .int .i64 j ∧ (l.take j).all fewB = true ∧ Below w.heap.size w wr) (fun v _ => n - (intOf v).toNat)
  case atStart => exact ⟨0, by omega, by omega, rfl, rfl, Below.refl _ _⟩
  case round =>
    obtain ⟨j, hj, hj6, rfl, hall, hbw⟩ := hrel
    have HBW := Lib.hid hbw
    have HAL := Lib.hid hall
    clear hall
    by_cases hlt : j < n
    · have hlt2 : (j : Int) < n := by omega
      by_cases h5 : j ≤ 5
      · have h52 : (j : Int) ≤ 5 := by omega
        have q0 : 0 ≤ (j : Int) := by omega
        obtain ⟨b, off, q, rfl, hq, -, hget, hqi, z0, z1, z2, z3, z4⟩ := (HL.out.below hbw).at_ j hlt
        have HFW := Lib.hid (pfew_any q wr hqi)
        simp only [plV] at HFW
        have htk : (l.take (j + 1)).all fewB = fewB q := by
          have hl' : j < l.length := by rw [HLL.out]; exact hlt
          have e : l[j] = q := by rw [List.getElem?_eq_getElem hl'] at hget; injection hget
          rw [List.take_succ_eq_append_getElem hl', List.all_append, HAL.out, e]
          simp
        have HTK := Lib.hid htk
        clear hbw hqi hq hget htk
        cases hf : fewB q
        · rw [hf] at HFW
          have HR := Lib.hid (show fewAllB l = false by
            rw [fewAllB, Bool.and_eq_false_iff]
            left
            rw [List.all_eq_false]
            have h1 := HTK.out
            rw [hf, List.all_eq_false] at h1
            obtain ⟨x, hx, hxf⟩ := h1
            exact ⟨x, (List.take_subset_take_left l (by omega)) hx, hxf⟩)
          clear hf
          go_wp2_with (first
            | (go_at_call 28
               (with_reducible refine (HFW.out).mono ?_)
               rintro e w3 ⟨rfl, hb3⟩
               have HB3 := Lib.hid (HBW.out.trans (hb3.mono HBW.out.size))
               clear hb3))
          go_ret
          exact ⟨by rw [HR.out]; rfl, HB3.out⟩
        · rw [hf] at HFW
          have HN := Lib.hid (HTK.out.trans hf)
          clear hf
          go_wp2_with (first
            | (go_at_call 28
               (with_reducible refine (HFW.out).mono ?_)
               rintro e w3 ⟨rfl, hb3⟩
               have HB3 := Lib.hid (HBW.out.trans (hb3.mono HBW.out.size))
               clear hb3))
          go_roundw
          case rel => exact ⟨j + 1, by omega, by omega, by go_num, HN.out, HB3.out⟩
          case measure => simp [intOf]; omega
      · have h52 : ¬ ((j : Int) ≤ 5) := by omega
        have hn5 : ¬ (n ≤ 5) := by omega
        have hn5i : decide (n ≤ 5) = false := decide_eq_false hn5
        have HR := Lib.hid (show fewAllB l = false by rw [fewAllB, HLL.out, hn5i, Bool.and_false])
        go_wp2
        go_ret
        exact ⟨by rw [HR.out]; first | (simp [hn5]; omega) | simp [hn5], HBW.out⟩
    · obtain rfl : j = n := by omega
      have hge : ¬ ((j : Int) < j) := by omega
      by_cases h5 : j ≤ 5
      · have hn5i : decide (j ≤ 5) = true := decide_eq_true h5
        have HR := Lib.hid (show fewAllB l = true by
          have h1 := HAL.out
          rw [fewAllB, HLL.out, hn5i, Bool.and_true]
          rw [List.take_of_length_le (by rw [HLL.out]; exact Nat.le_refl _)] at h1
          rw [List.take_of_length_le (by rw [HLL.out]; omega)]
          exact h1)
        go_wp2
        go_ret
        exact ⟨by rw [HR.out]; first | (simp [h5]; omega) | simp [h5], HBW.out⟩
      · have hn5i : decide (j ≤ 5) = false := decide_eq_false h5
        have HR := Lib.hid (show fewAllB l = false by rw [fewAllB, HLL.out, hn5i, Bool.and_false])
        go_wp2
        go_ret
        exact ⟨by rw [HR.out]; first | (simp [h5]; omega) | simp [h5], HBW.out⟩
end Go.Proofs.Ytgnhmdfajnnkhaa


/- The chapter's example: two stages, red of two ticks, seven ticks. -/
namespace Go.Proofs.Ytgnhmdfajnnkhaa
set_option maxRecDepth 100000
set_option linter.unusedVariables false
set_option linter.unusedSimpArgs false
open Go.RowKit

def oneTwo (A : Option Addr) (c : Nat) (B : Option Addr) (d : Nat) : Pl := ⟨A, 2, c, [2, 1], B, 2, d, [⟨1, 5, 9⟩, ⟨2, 7, 8⟩], 3, 2, 4⟩
theorem is_two {p : Pl} (h : IsTwo p) : p = oneTwo p.A p.c p.B p.d := by
  obtain ⟨A, n, c, m, B, k, d, s, am, rd, hd⟩ := p
  obtain ⟨h1, h2, h3, h4, h5, h6, h7⟩ := h
  simp only at h1 h2 h3 h4 h5 h6 h7
  subst h1 h2 h3 h4 h5 h6 h7
  rfl
end Go.Proofs.Ytgnhmdfajnnkhaa


/- The walks over the document's May and Text of a row of lamps. -/
namespace Go.Proofs.Ytgnhmdfajnnkhaa
set_option maxRecDepth 100000
set_option linter.unusedVariables false
set_option linter.unusedSimpArgs false
open Go.RowKit

theorem mem_getD {l : List Int} {x : Int} (h : x ∈ l) : ∃ j, j < l.length ∧ l.getD j 0 = x := by
  obtain ⟨j, hj, rfl⟩ := List.getElem_of_mem h
  exact ⟨j, hj, by simp [List.getD_eq_getElem?_getD, hj]⟩
theorem getD_mem {l : List Int} {j : Nat} (h : j < l.length) : l.getD j 0 ∈ l := by
  rw [List.getD_eq_getElem?_getD, List.getElem?_eq_getElem h]
  exact List.getElem_mem h
theorem row_bad {l : List Int} {j : Nat} (h : j < l.length) (hx : l.getD j 0 < 0 ∨ 3 ≤ l.getD j 0) : mayR l = false := by
  rw [← Bool.not_eq_true, may_iff]
  rintro ⟨-, ha⟩
  have := ha _ (getD_mem h)
  omega
end Go.Proofs.Ytgnhmdfajnnkhaa


/- The walk over the document's Read of a text. -/
namespace Go.Proofs.Ytgnhmdfajnnkhaa
set_option maxRecDepth 100000
set_option linter.unusedVariables false
set_option linter.unusedSimpArgs false
open Go.RowKit

end Go.Proofs.Ytgnhmdfajnnkhaa

