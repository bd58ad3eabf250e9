/- Joined texts: The document's Do: a machine that may not be, or what does not turn. -/
import Derived.Test.YtgnhmdfajnnkhaaSaJF
/- The document's Do: a machine that may not be, or what does not turn. -/
namespace Go.Proofs.Ytgnhmdfajnnkhaa
set_option maxRecDepth 100000
set_option linter.unusedVariables false
set_option linter.unusedSimpArgs false
open Go.RowKit

set_option maxHeartbeats 8000000 in
theorem rdo_nom (A : Option Addr) (n c : Nat) (l : List Pl) (s : Sg) (k a : Int) (w : World) (hl : Pls w A n c l) (hts : SmG s) (hm : mayS l s = false) : Calls Try.prog 13 #[.slice A n c, sgV s, .int .i64 k, .int .i64 a] w (GivesGE (doS l s k a) w) := by
  have hsm := hl.small
  have HMY := Lib.hid (fun X (hX : Below w.heap.size w X) => rsmay_any A n c l s X (hl.below hX) hts)
  have HTU := Lib.hid (show ∀ X : World, Calls Try.prog 37 #[.int .i64 k] X fun e w' => e = .returned (.bool (turnsB k)) ∧ X = w' from fun X => (rturns_any k X).mono fun _ _ h => ⟨h.1, h.2.symm⟩)
  rw [hm] at HMY
  have HR := Lib.hid (show doS l s k a = (s, 1) from if_neg fun h => by rw [hm] at h; cases h.1)
  obtain ⟨G, hG⟩ : ∃ G, doS l s k a = G := ⟨_, rfl⟩
  rw [hG] at HR ⊢
  obtain ⟨T, hT⟩ : ∃ T, turnsB k = T := ⟨_, rfl⟩
  rw [hT] at HTU
  simp only [sgV] at HMY ⊢
  clear hG hm hl hT
  obtain ⟨pl, st, nx, ph, t, hd, hh', ak, wt, sp⟩ := s
  try simp only at *
  go_enter Try.func13, Try.ntmps13
  go_wp2_with (first
    | (go_at_call 36
       (with_reducible refine (HMY.out _ (below_alloc2 _ _ _)).mono ?_)
       rintro e w1 ⟨rfl, hb1⟩
       have hs1 := (hb1.block w.heap.size (by simp; omega)).trans (alloc2_old w (.cells #[.int .i64 pl, .int .i64 st, .int .i64 nx, .int .i64 ph, .int .i64 t, .int .i64 hd, .int .i64 hh', .int .i64 ak, .int .i64 wt, .bool sp] 24) (.cells #[.int .i64 0, .int .i64 0, .int .i64 0, .int .i64 0, .int .i64 0, .int .i64 0, .int .i64 0, .int .i64 0, .int .i64 0, .bool false] 24))
       have hr1 := (hb1.block (w.heap.size + 1) (by simp)).trans (alloc2_new w (.cells #[.int .i64 pl, .int .i64 st, .int .i64 nx, .int .i64 ph, .int .i64 t, .int .i64 hd, .int .i64 hh', .int .i64 ak, .int .i64 wt, .bool sp] 24) (.cells #[.int .i64 0, .int .i64 0, .int .i64 0, .int .i64 0, .int .i64 0, .int .i64 0, .int .i64 0, .int .i64 0, .int .i64 0, .bool false] 24))
       have hn1 : w.heap.size + 1 < w1.heap.size := Nat.lt_of_lt_of_le (by simp) hb1.size
       have HB1 := Lib.hid ((below_alloc2 w (.cells #[.int .i64 pl, .int .i64 st, .int .i64 nx, .int .i64 ph, .int .i64 t, .int .i64 hd, .int .i64 hh', .int .i64 ak, .int .i64 wt, .bool sp] 24) (.cells #[.int .i64 0, .int .i64 0, .int .i64 0, .int .i64 0, .int .i64 0, .int .i64 0, .int .i64 0, .int .i64 0, .int .i64 0, .bool false] 24)).trans (hb1.mono (by simp; omega)))
       obtain ⟨c0, c1, c2, c3, c4, c5, c6, c7, c8, c9⟩ := (show BoxG w1 w.heap.size ⟨pl, st, nx, ph, t, hd, hh', ak, wt, sp⟩ from hs1).cells
       simp only at c0 c1 c2 c3 c4 c5 c6 c7 c8 c9
       clear hb1)
    | (go_at_call 37
       (with_reducible refine (HTU.out _).mono ?_)
       rintro e w2 ⟨rfl, rfl⟩)
    | ((with_reducible refine wpList_store_part rfl 24 _ _ rfl (w.heap.size + 1) 0 (.agg #[.int .i64 pl, .int .i64 st, .int .i64 nx, .int .i64 ph, .int .i64 t, .int .i64 hd, .int .i64 hh', .int .i64 ak, .int .i64 wt, .bool sp]) #[.int .i64 pl, .int .i64 st, .int .i64 nx, .int .i64 ph, .int .i64 t, .int .i64 hd, .int .i64 hh', .int .i64 ak, .int .i64 wt, .bool sp] ?hx9 ?hy9 ?hv9 24 #[.int .i64 0, .int .i64 0, .int .i64 0, .int .i64 0, .int .i64 0, .int .i64 0, .int .i64 0, .int .i64 0, .int .i64 0, .bool false] #[.int .i64 pl, .int .i64 st, .int .i64 nx, .int .i64 ph, .int .i64 t, .int .i64 hd, .int .i64 hh', .int .i64 ak, .int .i64 wt, .bool sp] hr1 ?hi9 ?hl9 ?ho9 ?hn9 ?_); (case hx9 => rfl); (case hy9 => first | rfl | exact congrArg (Value.int IntKind.i64) v1); (case hv9 => rfl); (case hi9 => first | exact info_one _ | exact info_sig); (case hl9 => simp); (case ho9 => first | exact one_int _ | exact one_sig _ _ _ _ _ _ _ _ _ _); (case hn9 => rfl)
       intro w9 hg9 hr9 hz9
       have HB9 := Lib.hid (Below.grows HB1.out hg9 HB1.out.size (by omega))
       have hn9 : w.heap.size + 1 < w9.heap.size := by omega
       clear hg9))
  all_goals
   refine bodyPost_ret (v := .tuple #[.agg #[.int .i64 pl, .int .i64 st, .int .i64 nx, .int .i64 ph, .int .i64 t, .int .i64 hd, .int .i64 hh', .int .i64 ak, .int .i64 wt, .bool sp], .int .i64 1]) ?_ rfl ⟨by rw [HR.out]; rfl, HB9.out⟩
   exact results_blk_val Try.results13 _ _ _ (w.heap.size + 1) 24 #[.int .i64 pl, .int .i64 st, .int .i64 nx, .int .i64 ph, .int .i64 t, .int .i64 hd, .int .i64 hh', .int .i64 ak, .int .i64 wt, .bool sp] (0, 0) _ rfl hr9 Try.underlying24 rfl info_sig _ rfl
set_option maxHeartbeats 8000000 in
theorem rdo_not (A : Option Addr) (n c : Nat) (l : List Pl) (s : Sg) (k a : Int) (w : World) (hl : Pls w A n c l) (hts : SmG s) (hm : mayS l s = true) (ht : turnsB k = false) : Calls Try.prog 13 #[.slice A n c, sgV s, .int .i64 k, .int .i64 a] w (GivesGE (doS l s k a) w) := by
  have hsm := hl.small
  have HMY := Lib.hid (fun X (hX : Below w.heap.size w X) => rsmay_any A n c l s X (hl.below hX) hts)
  have HTU := Lib.hid (show ∀ X : World, Calls Try.prog 37 #[.int .i64 k] X fun e w' => e = .returned (.bool (turnsB k)) ∧ X = w' from fun X => (rturns_any k X).mono fun _ _ h => ⟨h.1, h.2.symm⟩)
  rw [hm] at HMY
  rw [ht] at HTU
  have HR := Lib.hid (show doS l s k a = (s, 1) from if_neg fun h => by rw [ht] at h; cases h.2)
  obtain ⟨G, hG⟩ : ∃ G, doS l s k a = G := ⟨_, rfl⟩
  rw [hG] at HR ⊢
  obtain ⟨T, hT⟩ : ∃ T, turnsB k = T := ⟨_, rfl⟩
  clear ht
  simp only [sgV] at HMY ⊢
  clear hG hm hl hT
  obtain ⟨pl, st, nx, ph, t, hd, hh', ak, wt, sp⟩ := s
  try simp only at *
  go_enter Try.func13, Try.ntmps13
  go_wp2_with (first
    | (go_at_call 36
       (with_reducible refine (HMY.out _ (below_alloc2 _ _ _)).mono ?_)
       rintro e w1 ⟨rfl, hb1⟩
       have hs1 := (hb1.block w.heap.size (by simp; omega)).trans (alloc2_old w (.cells #[.int .i64 pl, .int .i64 st, .int .i64 nx, .int .i64 ph, .int .i64 t, .int .i64 hd, .int .i64 hh', .int .i64 ak, .int .i64 wt, .bool sp] 24) (.cells #[.int .i64 0, .int .i64 0, .int .i64 0, .int .i64 0, .int .i64 0, .int .i64 0, .int .i64 0, .int .i64 0, .int .i64 0, .bool false] 24))
       have hr1 := (hb1.block (w.heap.size + 1) (by simp)).trans (alloc2_new w (.cells #[.int .i64 pl, .int .i64 st, .int .i64 nx, .int .i64 ph, .int .i64 t, .int .i64 hd, .int .i64 hh', .int .i64 ak, .int .i64 wt, .bool sp] 24) (.cells #[.int .i64 0, .int .i64 0, .int .i64 0, .int .i64 0, .int .i64 0, .int .i64 0, .int .i64 0, .int .i64 0, .int .i64 0, .bool false] 24))
       have hn1 : w.heap.size + 1 < w1.heap.size := Nat.lt_of_lt_of_le (by simp) hb1.size
       have HB1 := Lib.hid ((below_alloc2 w (.cells #[.int .i64 pl, .int .i64 st, .int .i64 nx, .int .i64 ph, .int .i64 t, .int .i64 hd, .int .i64 hh', .int .i64 ak, .int .i64 wt, .bool sp] 24) (.cells #[.int .i64 0, .int .i64 0, .int .i64 0, .int .i64 0, .int .i64 0, .int .i64 0, .int .i64 0, .int .i64 0, .int .i64 0, .bool false] 24)).trans (hb1.mono (by simp; omega)))
       obtain ⟨c0, c1, c2, c3, c4, c5, c6, c7, c8, c9⟩ := (show BoxG w1 w.heap.size ⟨pl, st, nx, ph, t, hd, hh', ak, wt, sp⟩ from hs1).cells
       simp only at c0 c1 c2 c3 c4 c5 c6 c7 c8 c9
       clear hb1)
    | (go_at_call 37
       (with_reducible refine (HTU.out _).mono ?_)
       rintro e w2 ⟨rfl, rfl⟩)
    | ((with_reducible refine wpList_store_part rfl 24 _ _ rfl (w.heap.size + 1) 0 (.agg #[.int .i64 pl, .int .i64 st, .int .i64 nx, .int .i64 ph, .int .i64 t, .int .i64 hd, .int .i64 hh', .int .i64 ak, .int .i64 wt, .bool sp]) #[.int .i64 pl, .int .i64 st, .int .i64 nx, .int .i64 ph, .int .i64 t, .int .i64 hd, .int .i64 hh', .int .i64 ak, .int .i64 wt, .bool sp] ?hx9 ?hy9 ?hv9 24 #[.int .i64 0, .int .i64 0, .int .i64 0, .int .i64 0, .int .i64 0, .int .i64 0, .int .i64 0, .int .i64 0, .int .i64 0, .bool false] #[.int .i64 pl, .int .i64 st, .int .i64 nx, .int .i64 ph, .int .i64 t, .int .i64 hd, .int .i64 hh', .int .i64 ak, .int .i64 wt, .bool sp] hr1 ?hi9 ?hl9 ?ho9 ?hn9 ?_); (case hx9 => rfl); (case hy9 => first | rfl | exact congrArg (Value.int IntKind.i64) v1); (case hv9 => rfl); (case hi9 => first | exact info_one _ | exact info_sig); (case hl9 => simp); (case ho9 => first | exact one_int _ | exact one_sig _ _ _ _ _ _ _ _ _ _); (case hn9 => rfl)
       intro w9 hg9 hr9 hz9
       have HB9 := Lib.hid (Below.grows HB1.out hg9 HB1.out.size (by omega))
       have hn9 : w.heap.size + 1 < w9.heap.size := by omega
       clear hg9))
  all_goals
   refine bodyPost_ret (v := .tuple #[.agg #[.int .i64 pl, .int .i64 st, .int .i64 nx, .int .i64 ph, .int .i64 t, .int .i64 hd, .int .i64 hh', .int .i64 ak, .int .i64 wt, .bool sp], .int .i64 1]) ?_ rfl ⟨by rw [HR.out]; rfl, HB9.out⟩
   exact results_blk_val Try.results13 _ _ _ (w.heap.size + 1) 24 #[.int .i64 pl, .int .i64 st, .int .i64 nx, .int .i64 ph, .int .i64 t, .int .i64 hd, .int .i64 hh', .int .i64 ak, .int .i64 wt, .bool sp] (0, 0) _ rfl hr9 Try.underlying24 rfl info_sig _ rfl
end Go.Proofs.Ytgnhmdfajnnkhaa

