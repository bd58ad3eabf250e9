/- Joined texts: All and Play of the landed package safe: all that the laws take of it. -/
import Derived.Test.YtgnhmdfajnnkhaaSaJU
import Derived.Test.YtgnhmdfajnnkhaaSaJF
import Derived.Test.YtgnhmdfajnnkhaaSaJV
/- All and Play of the landed package safe: all that the laws take of it. -/
namespace Go.Proofs.Ytgnhmdfajnnkhaa
set_option maxRecDepth 100000
set_option linter.unusedVariables false
set_option linter.unusedSimpArgs false
open Go.RowKit

theorem set_getDz {l : List Int} {g : Nat} (x : Int) (a : Nat) (hg : g < l.length) : (l.set g x).getD a 0 = if a = g then x else l.getD a 0 := by
  simp only [List.getD_eq_getElem?_getD, List.getElem?_set]
  by_cases h : a = g
  · subst h; simp [hg]
  · rw [if_neg (fun e => h e.symm), if_neg h]
/-- a block of numbers that a slice reads -/
def RowI (w : World) (g m : Nat) (L : List Int) : Prop := Its .i64 w (some ⟨g, 0, none⟩) m m L ∧ ∃ cur, w.heap[g]? = some (.cells cur 28 (0, 0))
theorem RowI.keep {w w' : World} {g m : Nat} {L : List Int} (h : RowI w g m L) (hb : w'.heap[g]? = w.heap[g]?) : RowI w' g m L := by
  obtain ⟨hi, cur, hc⟩ := h
  refine ⟨⟨hi.len, hi.le, hi.max, hi.bare, fun hn => ?_⟩, cur, hb.trans hc⟩
  obtain ⟨b, off, hA, hk⟩ := hi.at_ hn
  cases hA
  refine ⟨g, 0, rfl, fun j hj => ?_⟩
  rw [World.cell?_of_block (w := w) (a := ⟨g, 0 + j, none⟩) hb]
  exact hk j hj
theorem RowI.lt {w : World} {g m : Nat} {L : List Int} (h : RowI w g m L) : g < w.heap.size := by
  obtain ⟨-, cur, hc⟩ := h
  exact (Array.getElem?_eq_some_iff.1 hc).1
theorem wpList_make_e {w : World} {ops : Array Oper} {rest : List Oper} {o : Oper} {a : Act} {Q : Exit → Act → World → Prop} (hgd : o.guard = none) (l c : Operand) (ho : o.op = Op.makeSlice 31 l c)
    (n : Nat) (hl : a.eval l = .int .i64 n) (hc : a.eval c = .int .i64 n) (hn : n ≤ 17592186044416)
    (h : ∀ w', RowI w' w.heap.size n (List.replicate n 0) → Below w.heap.size w w' → wpList Try.prog ops Q rest (a.put o.dst (.slice (some ⟨w.heap.size, 0, none⟩) n n)) w') : wpList Try.prog ops Q (o :: rest) a w := by
  have hinfo : (Try.prog.info? 28).map (fun i => (i.zero, i.size, i.bytes)) = some (some (.int .i64 0), 1, 8) := by kernel_rfl
  obtain ⟨i, hi, hz, h1, h2⟩ := info_parts hinfo
  refine wpList_make_full w hgd l c 31 ho w.heap.size 28 i (.int .i64 0) 1 Try.underlying31 hi hz h1 .i64 .i64 n n n hl hc rfl rfl (by rw [h2]; omega) (by unfold maxLen; omega) (Nat.le_refl _) (fun w' r1 r2 => h w' ?_ ((Below.refl _ _).grown r2 (Nat.le_refl _) (fun k hk => by cases hk)))
  rcases r1.2 with ⟨hv, -⟩ | ⟨g, cap, cur, hv, -, hh, -, -, -, htake⟩
  · cases hv
  · have hg : w.heap.size = g := by
      injection hv with e1 e2 e3
      injection e1 with e1
      injection e1
    refine ⟨⟨by simp, Nat.le_refl _, by unfold maxLen; omega, (fun e => by cases e), fun _ => ⟨_, 0, rfl, fun j hj => ?_⟩⟩, cur, by rw [hg]; exact hh⟩
    rw [hg, Nat.zero_add, cell_of_row _ _ _ _ _ _ hh]
    have h3 := congrArg (fun l : List Value => l[j]?) htake
    simp only [List.getElem?_take, Nat.mul_one, if_pos hj] at h3
    rw [Array.getElem?_toList] at h3
    rw [h3]
    simp [madeCells, hj, List.getD_eq_getElem?_getD, Value.cells, Nat.mod_one]
theorem wpList_store_e {ops : Array Oper} {rest : List Oper} {o : Oper} {a : Act} {w : World} {Q : Exit → Act → World → Prop} (hgd : o.guard = none) (x y : Operand) (ho : o.op = .store 28 x y) (z : Int) (g gi n : Nat) (l : List Int)
    (hr : RowI w g n l) (hgi : gi < n) (hx : a.eval x = .pointer (some ⟨g, gi, none⟩)) (hy : a.eval y = .int .i64 z)
    (h : ∀ w', RowI w' g n (l.set gi z) → w.grownBy w' (some g) → w'.heap.size = w.heap.size → wpList Try.prog ops Q rest (a.put o.dst undef) w') : wpList Try.prog ops Q (o :: rest) a w := by
  obtain ⟨hits, cur, hh⟩ := hr
  obtain ⟨b, off, hA, hc⟩ := hits.at_ (by omega)
  cases hA
  simp only [Nat.zero_add] at hc
  have hzz : (sizeOf 28).run Try.prog w = .ok 1 w := own_size (by kernel_rfl) w
  have hrun : (Instr.storeAt 28 (.pointer (some ⟨g, gi, none⟩)) (.int .i64 z)).run Try.prog w = .ok () (w.setCell ⟨g, gi, none⟩ (.int .i64 z)) := by
    simp [Instr.storeAt, run_underlying Try.underlying28, hc gi hgi, frozen_of_row _ _ gi _ _ hh, hzz, go_sem]
  refine wpList_plain hgd fun _ hK => ?_
  unfold Oper.wp execOp
  simp only [ho, hx, hy, hrun, Sem.run_bind, Sem.run_pure, Result.andThen_ok]
  refine hK _ _ (h _ ⟨⟨by rw [List.length_set]; exact hits.len, hits.le, hits.max, (fun e => by cases e), fun _ => ⟨g, 0, rfl, fun j hj => ?_⟩⟩, _, heap_setCell_same w g gi cur _ _ hh⟩ ⟨rfl, rfl, rfl, by simp, fun k _ hk => heap_setCell_other w ⟨g, gi, none⟩ k _ (fun e => hk (by simp [e]))⟩ (by simp))
  rw [Nat.zero_add, set_getDz z j (by rw [hits.len]; exact hgi)]
  by_cases e : j = gi
  · subst e
    rw [World.cell?_setCell_same _ _ _ (hc j hj), if_pos rfl]
  · rw [World.cell?_setCell_other _ _ _ _ (fun h => e (by injection h with _ h2; exact h2.symm)), hc j hj, if_neg e]
theorem take_set_snoc {L E : List Int} {j : Nat} (x : Int) (hj : j < L.length) (h : L.take j = E) : (L.set j x).take (j + 1) = E ++ [x] := by
  rw [List.take_set, List.take_add_one, h, List.getElem?_eq_getElem hj]
  have hl : E.length = j := by rw [← h, List.length_take]; omega
  simp [List.set_append, hl]
set_option maxHeartbeats 16000000 in
theorem sasks_any (A : Option Addr) (n c : Nat) (l : List Pl) (s : Sg) (B : Option Addr) (m d : Nat) (q : List Ak) (w : World) (hl : Pls w A n c l) (hts : SmG s) (hq : Aks w B m d q) (hqm : m ≤ 1000) : Calls Try.prog 14 #[.slice A n c, sgV s, .slice B m d] w (GivesGEs (allG l s q m) (allE l s q m) w) := by
  have HDO := Lib.hid (fun (k : Nat) X (hX : Below w.heap.size w X) => sdo_any A n c l (allG l s q k) (q.getD k Ak.zero).cmd (q.getD k Ak.zero).arg X (hl.below hX) (allG_small hts k))
  have HAS := Lib.hid (fun X (hX : Below w.heap.size w X) => hq.below hX)
  have hql := hq.len
  have hqs := hq.small
  clear hl hq
  have HT0 := Lib.hid (show allG l s q 0 = s from rfl)
  have HTS := Lib.hid (fun k => show allG l s q (k + 1) = (doS l (allG l s q k) (q.getD k Ak.zero).cmd (q.getD k Ak.zero).arg).1 from rfl)
  have HES := Lib.hid (fun k => show allE l s q (k + 1) = allE l s q k ++ [(doS l (allG l s q k) (q.getD k Ak.zero).cmd (q.getD k Ak.zero).arg).2] from rfl)
  obtain ⟨T, hT⟩ : ∃ T, allG l s q = T := ⟨_, rfl⟩
  obtain ⟨R, hR⟩ : ∃ R, allE l s q = R := ⟨_, rfl⟩
  have HR0 := Lib.hid (show R 0 = [] by rw [← hR]; rfl)
  rw [hT] at HDO HT0 HTS HES ⊢
  rw [hR] at HES ⊢
  simp only [GivesGE, sgV] at HDO ⊢
  clear hT hR
  have HW2 := Lib.hid (below_alloc2 w (.cells #[.int .i64 s.pl, .int .i64 s.st, .int .i64 s.nx, .int .i64 s.ph, .int .i64 s.t, .int .i64 s.hd, .int .i64 s.hl, .int .i64 s.ak, .int .i64 s.wt, .bool s.sp] 24) (.cells #[.int .i64 0, .int .i64 0, .int .i64 0, .int .i64 0, .int .i64 0, .int .i64 0, .int .i64 0, .int .i64 0, .int .i64 0, .bool false] 24))
  have hs1 := alloc2_old w (.cells #[.int .i64 s.pl, .int .i64 s.st, .int .i64 s.nx, .int .i64 s.ph, .int .i64 s.t, .int .i64 s.hd, .int .i64 s.hl, .int .i64 s.ak, .int .i64 s.wt, .bool s.sp] 24) (.cells #[.int .i64 0, .int .i64 0, .int .i64 0, .int .i64 0, .int .i64 0, .int .i64 0, .int .i64 0, .int .i64 0, .int .i64 0, .bool false] 24)
  have hr1 := alloc2_new w (.cells #[.int .i64 s.pl, .int .i64 s.st, .int .i64 s.nx, .int .i64 s.ph, .int .i64 s.t, .int .i64 s.hd, .int .i64 s.hl, .int .i64 s.ak, .int .i64 s.wt, .bool s.sp] 24) (.cells #[.int .i64 0, .int .i64 0, .int .i64 0, .int .i64 0, .int .i64 0, .int .i64 0, .int .i64 0, .int .i64 0, .int .i64 0, .bool false] 24)
  obtain ⟨W2, hW2⟩ : ∃ W, (w.alloc (.cells #[.int .i64 s.pl, .int .i64 s.st, .int .i64 s.nx, .int .i64 s.ph, .int .i64 s.t, .int .i64 s.hd, .int .i64 s.hl, .int .i64 s.ak, .int .i64 s.wt, .bool s.sp] 24)).alloc (.cells #[.int .i64 0, .int .i64 0, .int .i64 0, .int .i64 0, .int .i64 0, .int .i64 0, .int .i64 0, .int .i64 0, .int .i64 0, .bool false] 24) = W := ⟨_, rfl⟩
  rw [hW2] at HW2 hs1 hr1
  have HS1 := Lib.hid hs1
  have HR1 := Lib.hid hr1
  clear hs1 hr1
  go_enter Try.func14, Try.ntmps14
  go_wp2_with
    ((with_reducible refine wpList_make_e rfl _ _ rfl m rfl rfl (by omega) ?_)
     try rw [hW2]
     intro w1 hi1 hb1
     have HB1 := Lib.hid (HW2.out.trans (hb1.mono HW2.out.size))
     have hS1 := (hb1.block w.heap.size (Array.getElem?_eq_some_iff.1 HS1.out).1).trans HS1.out
     have hR1 := (hb1.block (w.heap.size + 1) (Array.getElem?_eq_some_iff.1 HR1.out).1).trans HR1.out
     have hgz : w.heap.size + 2 ≤ W2.heap.size := (Array.getElem?_eq_some_iff.1 HR1.out).1
     clear hb1)
  obtain ⟨gb, hgb⟩ : ∃ g, W2.heap.size = g := ⟨_, rfl⟩
  rw [hgb] at hi1 hgz ⊢
  have HI1 := Lib.hid hi1
  have HS2 := Lib.hid hS1
  have HR2 := Lib.hid hR1
  have HGZ := Lib.hid hgz
  clear hgb hi1 hS1 hR1 hW2 HS1 HR1 HW2 hgz
  go_loopw [16] (fun i wr => ∃ (j : Nat) (L : List Int), j ≤ m ∧ i = .int .i64 j ∧ L.take j = R j ∧ RowI wr gb m L ∧ BoxG wr w.heap.size (T j) ∧ wr.heap[w.heap.size + 1]? = some (.cells #[.int .i64 0, .int .i64 0, .int .i64 0, .int .i64 0, .int .i64 0, .int .i64 0, .int .i64 0, .int .i64 0, .int .i64 0, .bool false] 24 (0, 0)) ∧ Below w.heap.size w wr) (fun i _ => m - (intOf i).toNat)
  case atStart => exact ⟨0, _, by omega, rfl, by rw [HR0.out]; rfl, HI1.out, by rw [HT0.out]; exact HS2.out, HR2.out, HB1.out⟩
  case round =>
    obtain ⟨j, L, hj, rfl, hE, hrow, hbx, hr0, hbw⟩ := hrel
    have HBW := Lib.hid hbw
    have HRO := Lib.hid hrow
    have hLl : L.length = m := hrow.1.len
    have hglt := hrow.lt
    by_cases hlt : j < m
    · have hlt2 : (j : Int) < m := by omega
      have q0 : 0 ≤ (j : Int) := by omega
      obtain ⟨ab, ao, y, rfl, hy, zc, za⟩ := (HAS.out wr hbw).at_ j hlt
      have HDJ := Lib.hid (HDO.out j)
      have hTE := HTS.out j
      have hEE := HES.out j
      obtain ⟨u, hu⟩ : ∃ u, T j = u := ⟨_, rfl⟩
      rw [hu] at hbx HDJ hTE hEE
      rw [hy] at HDJ hTE hEE
      obtain ⟨⟨g, er⟩, hge⟩ : ∃ r, doS l u y.cmd y.arg = r := ⟨_, rfl⟩
      rw [hge] at HDJ hTE hEE
      have HNG := Lib.hid hTE
      have HNE := Lib.hid ((take_set_snoc er (by omega) hE).trans hEE.symm)
      have hn2 : w.heap.size + 1 < wr.heap.size := (Array.getElem?_eq_some_iff.1 hr0).1
      have hb4 := one_alloc wr (.cells #[.int .i64 y.cmd, .int .i64 y.arg] 52)
      obtain ⟨c0, c1, c2, c3, c4, c5, c6, c7, c8, c9⟩ := (BoxG.below hbx hb4).cells
      clear hb4 hbw hy hu hge hTE hEE hE hrow
      go_wp2_with (first
        | (go_at_call 12
           (with_reducible refine (HDJ.out _ (HBW.out.trans ((one_alloc wr _).mono HBW.out.size))).mono ?_)
           rintro e w3 ⟨rfl, hb3⟩
           have hb3' : Below wr.heap.size wr w3 := (one_alloc wr _).trans (hb3.mono (one_alloc wr _).size)
           have hs3 := (hb3'.block w.heap.size (by omega)).trans hbx
           have hr3 := (hb3'.block (w.heap.size + 1) hn2).trans hr0
           have HO3 := Lib.hid (HRO.out.keep (hb3'.block gb hglt))
           have HB3 := Lib.hid (HBW.out.trans (hb3'.mono HBW.out.size))
           clear hb3 hb3')
        | ((with_reducible refine wpList_store_part rfl 24 _ _ rfl (w.heap.size) 0 (.agg #[.int .i64 g.pl, .int .i64 g.st, .int .i64 g.nx, .int .i64 g.ph, .int .i64 g.t, .int .i64 g.hd, .int .i64 g.hl, .int .i64 g.ak, .int .i64 g.wt, .bool g.sp]) #[.int .i64 g.pl, .int .i64 g.st, .int .i64 g.nx, .int .i64 g.ph, .int .i64 g.t, .int .i64 g.hd, .int .i64 g.hl, .int .i64 g.ak, .int .i64 g.wt, .bool g.sp] ?hx4 ?hy4 ?hv4 24 #[.int .i64 u.pl, .int .i64 u.st, .int .i64 u.nx, .int .i64 u.ph, .int .i64 u.t, .int .i64 u.hd, .int .i64 u.hl, .int .i64 u.ak, .int .i64 u.wt, .bool u.sp] #[.int .i64 g.pl, .int .i64 g.st, .int .i64 g.nx, .int .i64 g.ph, .int .i64 g.t, .int .i64 g.hd, .int .i64 g.hl, .int .i64 g.ak, .int .i64 g.wt, .bool g.sp] hs3 ?hi4 ?hl4 ?ho4 ?hn4 ?_); (case hx4 => rfl); (case hy4 => rfl); (case hv4 => rfl); (case hi4 => exact info_sig); (case hl4 => simp); (case ho4 => exact one_sig _ _ _ _ _ _ _ _ _ _); (case hn4 => rfl)
           intro w4 hg4 hs4 hz4
           have hr4 := (other_block hg4 (show w.heap.size + 1 ≠ w.heap.size by omega) (Array.getElem?_eq_some_iff.1 hr3).1).trans hr3
           have HO4 := Lib.hid (HO3.out.keep (other_block hg4 (show gb ≠ w.heap.size by have := HGZ.out; omega) HO3.out.lt))
           have HB4 := Lib.hid (Below.grows HB3.out hg4 HB3.out.size (Nat.le_refl _))
           clear hg4 hz4)
        | ((with_reducible refine wpList_store_e rfl _ _ rfl er gb j m L HO4.out hlt ?hx5 ?hy5 ?_); (case hx5 => first | rfl | (simp; done)); (case hy5 => rfl)
           intro w5 hi5 hg5 hz5
           have hs5 := (other_block hg5 (show w.heap.size ≠ gb by have := HGZ.out; omega) (Array.getElem?_eq_some_iff.1 hs4).1).trans hs4
           have hr5 := (other_block hg5 (show w.heap.size + 1 ≠ gb by have := HGZ.out; omega) (Array.getElem?_eq_some_iff.1 hr4).1).trans hr4
           have HB5 := Lib.hid (Below.grows HB4.out hg5 HB4.out.size (by have := HGZ.out; omega))
           clear hg5 hz5))
      go_roundw
      case rel => exact ⟨j + 1, L.set j er, by omega, by go_num, HNE.out, hi5, by rw [HNG.out]; exact hs5, hr5, HB5.out⟩
      case measure => simp [intOf]; omega
    · obtain rfl : j = m := by omega
      have hge : ¬ ((j : Int) < j) := by omega
      obtain ⟨u, hu⟩ : ∃ u, T j = u := ⟨_, rfl⟩
      rw [hu] at hbx
      have HU := Lib.hid hu
      have HE := Lib.hid (show R j = L by rw [← hE, List.take_of_length_le (by omega)])
      obtain ⟨c0, c1, c2, c3, c4, c5, c6, c7, c8, c9⟩ := hbx.cells
      have hn2 : w.heap.size + 1 < wr.heap.size := (Array.getElem?_eq_some_iff.1 hr0).1
      clear hbw hu hE hrow
      go_wp2_with
        ((with_reducible refine wpList_store_part rfl 24 _ _ rfl (w.heap.size + 1) 0 (.agg #[.int .i64 u.pl, .int .i64 u.st, .int .i64 u.nx, .int .i64 u.ph, .int .i64 u.t, .int .i64 u.hd, .int .i64 u.hl, .int .i64 u.ak, .int .i64 u.wt, .bool u.sp]) #[.int .i64 u.pl, .int .i64 u.st, .int .i64 u.nx, .int .i64 u.ph, .int .i64 u.t, .int .i64 u.hd, .int .i64 u.hl, .int .i64 u.ak, .int .i64 u.wt, .bool u.sp] ?hx9 ?hy9 ?hv9 24 #[.int .i64 0, .int .i64 0, .int .i64 0, .int .i64 0, .int .i64 0, .int .i64 0, .int .i64 0, .int .i64 0, .int .i64 0, .bool false] #[.int .i64 u.pl, .int .i64 u.st, .int .i64 u.nx, .int .i64 u.ph, .int .i64 u.t, .int .i64 u.hd, .int .i64 u.hl, .int .i64 u.ak, .int .i64 u.wt, .bool u.sp] hr0 ?hi9 ?hl9 ?ho9 ?hn9 ?_); (case hx9 => rfl); (case hy9 => rfl); (case hv9 => rfl); (case hi9 => exact info_sig); (case hl9 => simp); (case ho9 => exact one_sig _ _ _ _ _ _ _ _ _ _); (case hn9 => rfl)
         intro w9 hg9 hr9 hz9
         have HB9 := Lib.hid (Below.grows HBW.out hg9 HBW.out.size (by omega))
         have HR9 := Lib.hid (HRO.out.keep (other_block hg9 (show gb ≠ w.heap.size + 1 by have := HGZ.out; omega) hglt))
         clear hg9)
      refine bodyPost_ret (v := .tuple #[.agg #[.int .i64 u.pl, .int .i64 u.st, .int .i64 u.nx, .int .i64 u.ph, .int .i64 u.t, .int .i64 u.hd, .int .i64 u.hl, .int .i64 u.ak, .int .i64 u.wt, .bool u.sp], .slice (some ⟨gb, 0, none⟩) j j]) ?_ rfl ⟨some ⟨gb, 0, none⟩, j, j, by rw [HU.out]; rfl, by rw [HE.out]; exact HR9.out.1, HB9.out⟩
      exact results_blk_val Try.results14 _ _ _ (w.heap.size + 1) 24 #[.int .i64 u.pl, .int .i64 u.st, .int .i64 u.nx, .int .i64 u.ph, .int .i64 u.t, .int .i64 u.hd, .int .i64 u.hl, .int .i64 u.ak, .int .i64 u.wt, .bool u.sp] (0, 0) _ rfl hr9 Try.underlying24 rfl info_sig _ rfl
set_option maxHeartbeats 16000000 in
theorem splay_any (A : Option Addr) (n c : Nat) (l : List Pl) (s : Sg) (B : Option Addr) (m d : Nat) (q : List Ak) (w : World) (hl : Pls w A n c l) (hts : SmG s) (hq : Aks w B m d q) (hqm : m ≤ 1000) : Calls Try.prog 16 #[.slice A n c, sgV s, .slice B m d] w (GivesGLo (playG l s q m) (playL l s q m) w) := by
  have HDO := Lib.hid (fun (k : Nat) X (hX : Below w.heap.size w X) => sdo_any A n c l (playG l s q k) (q.getD k Ak.zero).cmd (q.getD k Ak.zero).arg X (hl.below hX) (playG_small hts k))
  have HAS := Lib.hid (fun X (hX : Below w.heap.size w X) => hq.below hX)
  have HTK := Lib.hid (fun (k : Nat) X (hX : Below w.heap.size w X) => ttick_any A n c l (playG l s q k) X (hl.below hX) (playG_small hts k))
  have HLP := Lib.hid (fun (k : Nat) X (hX : Below w.heap.size w X) => tlamps_any A n c l (playG l s q k) X (hl.below hX) (playG_small hts k))
  have hql := hq.len
  have hqs := hq.small
  clear hl hq
  have HT0 := Lib.hid (show playG l s q 0 = s from rfl)
  have HTS := Lib.hid (fun k => show playG l s q (k + 1) = stepS l (playG l s q k) (q.getD k Ak.zero) from rfl)
  have HES := Lib.hid (fun k => show playL l s q (k + 1) = playL l s q k ++ (if (q.getD k Ak.zero).cmd = -1 then [lampsS l (playG l s q (k + 1))] else []) from rfl)
  have HEL := Lib.hid (playL_len l s q)
  obtain ⟨T, hT⟩ : ∃ T, playG l s q = T := ⟨_, rfl⟩
  obtain ⟨R, hR⟩ : ∃ R, playL l s q = R := ⟨_, rfl⟩
  have HR0 := Lib.hid (show R 0 = [] by rw [← hR]; rfl)
  rw [hT] at HDO HT0 HTS HES HTK HLP ⊢
  rw [hR] at HES HEL ⊢
  simp only [GivesGE, GivesG, sgV] at HDO HTK HLP ⊢
  clear hT hR
  have HW2 := Lib.hid (below_alloc2 w (.cells #[.int .i64 s.pl, .int .i64 s.st, .int .i64 s.nx, .int .i64 s.ph, .int .i64 s.t, .int .i64 s.hd, .int .i64 s.hl, .int .i64 s.ak, .int .i64 s.wt, .bool s.sp] 24) (.cells #[.int .i64 0, .int .i64 0, .int .i64 0, .int .i64 0, .int .i64 0, .int .i64 0, .int .i64 0, .int .i64 0, .int .i64 0, .bool false] 24))
  have hs1 := alloc2_old w (.cells #[.int .i64 s.pl, .int .i64 s.st, .int .i64 s.nx, .int .i64 s.ph, .int .i64 s.t, .int .i64 s.hd, .int .i64 s.hl, .int .i64 s.ak, .int .i64 s.wt, .bool s.sp] 24) (.cells #[.int .i64 0, .int .i64 0, .int .i64 0, .int .i64 0, .int .i64 0, .int .i64 0, .int .i64 0, .int .i64 0, .int .i64 0, .bool false] 24)
  have hr1 := alloc2_new w (.cells #[.int .i64 s.pl, .int .i64 s.st, .int .i64 s.nx, .int .i64 s.ph, .int .i64 s.t, .int .i64 s.hd, .int .i64 s.hl, .int .i64 s.ak, .int .i64 s.wt, .bool s.sp] 24) (.cells #[.int .i64 0, .int .i64 0, .int .i64 0, .int .i64 0, .int .i64 0, .int .i64 0, .int .i64 0, .int .i64 0, .int .i64 0, .bool false] 24)
  obtain ⟨W2, hW2⟩ : ∃ W, (w.alloc (.cells #[.int .i64 s.pl, .int .i64 s.st, .int .i64 s.nx, .int .i64 s.ph, .int .i64 s.t, .int .i64 s.hd, .int .i64 s.hl, .int .i64 s.ak, .int .i64 s.wt, .bool s.sp] 24)).alloc (.cells #[.int .i64 0, .int .i64 0, .int .i64 0, .int .i64 0, .int .i64 0, .int .i64 0, .int .i64 0, .int .i64 0, .int .i64 0, .bool false] 24) = W := ⟨_, rfl⟩
  rw [hW2] at HW2 hs1 hr1
  have HS1 := Lib.hid hs1
  have HR1 := Lib.hid hr1
  clear hs1 hr1
  go_enter Try.func16, Try.ntmps16
  go_wp2
  try rw [hW2]
  clear hW2
  go_loopw [8, 13] (fun v i wr => ∃ (j : Nat) (rows : List Rw), j ≤ m ∧ i = .int .i64 j ∧ OwnR 40 1 wr (w.heap.size + 2) v (rows.map Rw.row) ∧ RowsAt wr (w.heap.size + 2) v rows ∧ rows.map Rw.l = R j ∧ BoxG wr w.heap.size (T j) ∧ wr.heap[w.heap.size + 1]? = some (.cells #[.int .i64 0, .int .i64 0, .int .i64 0, .int .i64 0, .int .i64 0, .int .i64 0, .int .i64 0, .int .i64 0, .int .i64 0, .bool false] 24 (0, 0)) ∧ Below w.heap.size w wr) (fun _ i _ => m - (intOf i).toNat)
  case atStart => exact ⟨0, [], by omega, rfl, OwnR.nil _ _ _ _, RowsAt.nil _ _ _, by rw [HR0.out]; rfl, by rw [HT0.out]; exact HS1.out, HR1.out, HW2.out⟩
  case round =>
    obtain ⟨j, rows, hj, rfl, hown, hat, hrw, hbx, hr0, hbw⟩ := hrel
    have HBW := Lib.hid hbw
    have HAT := Lib.hid hat
    have HRW := Lib.hid hrw
    have HO := Lib.hid hown
    have hlen : rows.length ≤ 1000 := by have h1 := HEL.out j; rw [← hrw, List.length_map] at h1; omega
    have hn2 : w.heap.size + 1 < wr.heap.size := (Array.getElem?_eq_some_iff.1 hr0).1
    by_cases hlt : j < m
    · have hlt2 : (j : Int) < m := by omega
      have q0 : 0 ≤ (j : Int) := by omega
      obtain ⟨ab, ao, y, rfl, hy, zc, za⟩ := (HAS.out wr hbw).at_ j hlt
      have HDJ := Lib.hid (HDO.out j)
      have HTJ := Lib.hid (HTK.out j)
      have HLJ := Lib.hid (HLP.out (j + 1))
      have hTE := HTS.out j
      have hEE := HES.out j
      obtain ⟨u, hu⟩ : ∃ u, T j = u := ⟨_, rfl⟩
      rw [hu] at hbx HDJ hTE HTJ
      rw [hy] at HDJ hTE hEE
      have hb4 := one_alloc wr (.cells #[.int .i64 y.cmd, .int .i64 y.arg] 52)
      obtain ⟨c0, c1, c2, c3, c4, c5, c6, c7, c8, c9⟩ := (BoxG.below hbx hb4).cells
      clear hb4
      by_cases hc : y.cmd = -1
      · have hcb : (y.cmd != -1) = false := by rw [hc]; rfl
        rw [stepS, if_pos hc] at hTE
        rw [if_pos hc] at hEE
        obtain ⟨g, hg⟩ : ∃ g, tickS l u = g := ⟨_, rfl⟩
        rw [hg] at hTE HTJ
        rw [hTE] at HLJ hEE
        have HNG := Lib.hid hTE
        have HRE := Lib.hid hEE
        clear hown hat hrw hbw hy hu hg hTE hEE hc HDJ
        go_wp2_with (first
      | (go_at_call 23
         (with_reducible refine (HTJ.out _ (HBW.out.trans ((one_alloc wr _).mono HBW.out.size))).mono ?_)
         rintro e w3 ⟨rfl, hb3'⟩
         have hb3 : Below wr.heap.size wr w3 := (one_alloc wr _).trans (hb3'.mono (one_alloc wr _).size)
         have hs3 := (hb3.block w.heap.size (by omega)).trans hbx
         have hr3 := (hb3.block (w.heap.size + 1) (by omega)).trans hr0
         have hn3 : w.heap.size + 1 < w3.heap.size := Nat.lt_of_lt_of_le hn2 hb3.size
         have HO3 := Lib.hid (HO.out.below hb3)
         have HA3 := Lib.hid (HAT.out.below hb3)
         have HB3 := Lib.hid (HBW.out.trans (hb3.mono HBW.out.size))
         clear hb3 hb3')
      | ((with_reducible refine wpList_store_part rfl 24 _ _ rfl (w.heap.size) 0 (.agg #[.int .i64 g.pl, .int .i64 g.st, .int .i64 g.nx, .int .i64 g.ph, .int .i64 g.t, .int .i64 g.hd, .int .i64 g.hl, .int .i64 g.ak, .int .i64 g.wt, .bool g.sp]) #[.int .i64 g.pl, .int .i64 g.st, .int .i64 g.nx, .int .i64 g.ph, .int .i64 g.t, .int .i64 g.hd, .int .i64 g.hl, .int .i64 g.ak, .int .i64 g.wt, .bool g.sp] ?hx4 ?hy4 ?hv4 24 #[.int .i64 u.pl, .int .i64 u.st, .int .i64 u.nx, .int .i64 u.ph, .int .i64 u.t, .int .i64 u.hd, .int .i64 u.hl, .int .i64 u.ak, .int .i64 u.wt, .bool u.sp] #[.int .i64 g.pl, .int .i64 g.st, .int .i64 g.nx, .int .i64 g.ph, .int .i64 g.t, .int .i64 g.hd, .int .i64 g.hl, .int .i64 g.ak, .int .i64 g.wt, .bool g.sp] hs3 ?hi4 ?hl4 ?ho4 ?hn4 ?_); (case hx4 => rfl); (case hy4 => rfl); (case hv4 => rfl); (case hi4 => exact info_sig); (case hl4 => simp); (case ho4 => exact one_sig _ _ _ _ _ _ _ _ _ _); (case hn4 => rfl)
         intro w4 hg4 hs4 hz4
         have hr4 := (other_block hg4 (show w.heap.size + 1 ≠ w.heap.size by omega) (by omega)).trans hr3
         have hn4 : w.heap.size + 1 < w4.heap.size := by omega
         have HO4 := Lib.hid (HO3.out.far hg4 (by
           rcases hq : Value.ownBlock _ with _ | k
           · exact .inl rfl
           · exact .inr (ne_some (by have := (HO3.out.size k hq).1; omega))))
         have HA4 := Lib.hid (HA3.out.low hg4 (by omega) hz4)
         have HB4 := Lib.hid (Below.grows HB3.out hg4 HB3.out.size (Nat.le_refl _))
         obtain ⟨d0, d1, d2, d3, d4, d5, d6, d7, d8, d9⟩ := (show BoxG w4 w.heap.size g from hs4).cells
         clear hg4)
        | (go_at_call 20
           (with_reducible refine (HLJ.out _ HB4.out).mono ?_)
           rintro e w5 ⟨A1, n1, c1', rfl, ho5, hb5⟩
           have hs5 := (hb5.block w.heap.size (by omega)).trans hs4
           have hr5 := (hb5.block (w.heap.size + 1) (by omega)).trans hr4
           have hn5 : w.heap.size + 1 < w5.heap.size := Nat.lt_of_lt_of_le hn4 hb5.size
           obtain ⟨hi5, hat5⟩ := own_at ho5
           have HI5 := Lib.hid hi5
           have HT5 := Lib.hid (show ∀ b o, A1 = some ⟨b, o, none⟩ → w.heap.size + 2 ≤ b ∧ b < w5.heap.size ∧ Value.ownBlock _ ≠ some b from fun b o e => ⟨by have := (hat5 b o e).1; omega, (hat5 b o e).2, fun e2 => by have := (HO4.out.size b e2).2; have := (hat5 b o e).1; omega⟩)
           have HO5 := Lib.hid (HO4.out.below hb5)
           have HA5 := Lib.hid (HA4.out.below hb5)
           have HB5 := Lib.hid (HB4.out.trans (hb5.mono HB4.out.size))
           clear hb5 hi5 hat5 ho5)
        | (at_builtin
           have hbb := one_alloc w5 (.cells #[.slice A1 n1 c1'] 40)
           refine wpList_append_r_at rfl 34 40 1 24 _ _ rfl Try.underlying34 info_rows (by omega) (w.heap.size + 2) _ _ rfl (HO5.out.below hbb) (some ⟨w5.heap.size, 0, none⟩) 1 1 [[.slice A1 n1 c1']] rfl (one_rws 1 40 w5 [.slice A1 n1 c1'] rfl (fun v hv => by rw [List.mem_singleton.1 hv]; rfl)) (by rw [List.length_map]; omega) (by rw [List.length_map]; omega) (by simp; omega) ?_
           intro v6 w6 hown6 hg6 hv6
           have HA6 := Lib.hid ((((HA5.out.below hbb).snoc (r := ⟨A1, n1, c1', _⟩) (HI5.out.below hbb) (fun b o e => ⟨(HT5.out b o e).1, Nat.lt_of_lt_of_le (HT5.out b o e).2.1 hbb.size, (HT5.out b o e).2.2⟩))).turn hg6 hv6 hg6.size)
           have hs6 := (other_blocks hg6 (HO5.out.below hbb) (show w.heap.size < w.heap.size + 2 by omega) (by simp; omega)).trans ((hbb.block w.heap.size (by omega)).trans hs5)
           have hr6 := (other_blocks hg6 (HO5.out.below hbb) (show w.heap.size + 1 < w.heap.size + 2 by omega) (by simp; omega)).trans ((hbb.block (w.heap.size + 1) (by omega)).trans hr5)
           have HB6 := Lib.hid ((HB5.out.trans (hbb.mono HB5.out.size)).grown hg6 (Nat.le_trans HB5.out.size hbb.size) (fun k hk => by have := ((HO5.out.below hbb).size k hk).1; omega))
           clear hbb hg6 hv6))
        go_roundw
        case rel => exact ⟨j + 1, rows ++ [⟨A1, n1, c1', _⟩], by omega, by go_num, by rw [List.map_append]; exact hown6, HA6.out, by rw [List.map_append, HRW.out, HRE.out]; rfl, by rw [HNG.out]; exact hs6, hr6, HB6.out⟩
        case measure => simp [intOf]; omega
      · have hcb : (y.cmd != -1) = true := by rw [bne_iff_ne]; exact hc
        rw [stepS, if_neg hc] at hTE
        rw [if_neg hc, List.append_nil] at hEE
        obtain ⟨⟨g, er⟩, hge⟩ : ∃ r, doS l u y.cmd y.arg = r := ⟨_, rfl⟩
        rw [hge] at HDJ hTE
        have HNG := Lib.hid hTE
        have HRE := Lib.hid hEE
        clear hown hat hrw hbw hy hu hge hTE hEE hc HTJ HLJ
        go_wp2_with (first
      | (go_at_call 12
         (with_reducible refine (HDJ.out _ (HBW.out.trans ((one_alloc wr _).mono HBW.out.size))).mono ?_)
         rintro e w3 ⟨rfl, hb3'⟩
         have hb3 : Below wr.heap.size wr w3 := (one_alloc wr _).trans (hb3'.mono (one_alloc wr _).size)
         have hs3 := (hb3.block w.heap.size (by omega)).trans hbx
         have hr3 := (hb3.block (w.heap.size + 1) (by omega)).trans hr0
         have hn3 : w.heap.size + 1 < w3.heap.size := Nat.lt_of_lt_of_le hn2 hb3.size
         have HO3 := Lib.hid (HO.out.below hb3)
         have HA3 := Lib.hid (HAT.out.below hb3)
         have HB3 := Lib.hid (HBW.out.trans (hb3.mono HBW.out.size))
         clear hb3 hb3')
      | ((with_reducible refine wpList_store_part rfl 24 _ _ rfl (w.heap.size) 0 (.agg #[.int .i64 g.pl, .int .i64 g.st, .int .i64 g.nx, .int .i64 g.ph, .int .i64 g.t, .int .i64 g.hd, .int .i64 g.hl, .int .i64 g.ak, .int .i64 g.wt, .bool g.sp]) #[.int .i64 g.pl, .int .i64 g.st, .int .i64 g.nx, .int .i64 g.ph, .int .i64 g.t, .int .i64 g.hd, .int .i64 g.hl, .int .i64 g.ak, .int .i64 g.wt, .bool g.sp] ?hx7 ?hy7 ?hv7 24 #[.int .i64 u.pl, .int .i64 u.st, .int .i64 u.nx, .int .i64 u.ph, .int .i64 u.t, .int .i64 u.hd, .int .i64 u.hl, .int .i64 u.ak, .int .i64 u.wt, .bool u.sp] #[.int .i64 g.pl, .int .i64 g.st, .int .i64 g.nx, .int .i64 g.ph, .int .i64 g.t, .int .i64 g.hd, .int .i64 g.hl, .int .i64 g.ak, .int .i64 g.wt, .bool g.sp] hs3 ?hi7 ?hl7 ?ho7 ?hn7 ?_); (case hx7 => rfl); (case hy7 => rfl); (case hv7 => rfl); (case hi7 => exact info_sig); (case hl7 => simp); (case ho7 => exact one_sig _ _ _ _ _ _ _ _ _ _); (case hn7 => rfl)
         intro w7 hg7 hs7 hz7
         have hr7 := (other_block hg7 (show w.heap.size + 1 ≠ w.heap.size by omega) (by omega)).trans hr3
         have hn7 : w.heap.size + 1 < w7.heap.size := by omega
         have HO7 := Lib.hid (HO3.out.far hg7 (by
           rcases hq : Value.ownBlock _ with _ | k
           · exact .inl rfl
           · exact .inr (ne_some (by have := (HO3.out.size k hq).1; omega))))
         have HA7 := Lib.hid (HA3.out.low hg7 (by omega) hz7)
         have HB7 := Lib.hid (Below.grows HB3.out hg7 HB3.out.size (Nat.le_refl _))
         clear hg7 hz7))
        go_roundw
        case rel => exact ⟨j + 1, rows, by omega, by go_num, HO7.out, HA7.out, by rw [HRE.out, HRW.out], by rw [HNG.out]; exact hs7, hr7, HB7.out⟩
        case measure => simp [intOf]; omega
    · obtain rfl : j = m := by omega
      have hge : ¬ ((j : Int) < j) := by omega
      obtain ⟨u, hu⟩ : ∃ u, T j = u := ⟨_, rfl⟩
      rw [hu] at hbx
      have HU := Lib.hid hu
      obtain ⟨c0, c1, c2, c3, c4, c5, c6, c7, c8, c9⟩ := hbx.cells
      obtain ⟨A2, n2, d2, rfl, hrs⟩ := hown.rws
      have hr1 := hr0
      have HB1 := Lib.hid hbw
      clear hown hat hrw hbw hu
      go_wp2_with (first
        | ((with_reducible refine wpList_store_part rfl 24 _ _ rfl (w.heap.size + 1) 0 (.agg #[.int .i64 u.pl, .int .i64 u.st, .int .i64 u.nx, .int .i64 u.ph, .int .i64 u.t, .int .i64 u.hd, .int .i64 u.hl, .int .i64 u.ak, .int .i64 u.wt, .bool u.sp]) #[.int .i64 u.pl, .int .i64 u.st, .int .i64 u.nx, .int .i64 u.ph, .int .i64 u.t, .int .i64 u.hd, .int .i64 u.hl, .int .i64 u.ak, .int .i64 u.wt, .bool u.sp] ?hx9 ?hy9 ?hv9 24 #[.int .i64 0, .int .i64 0, .int .i64 0, .int .i64 0, .int .i64 0, .int .i64 0, .int .i64 0, .int .i64 0, .int .i64 0, .bool false] #[.int .i64 u.pl, .int .i64 u.st, .int .i64 u.nx, .int .i64 u.ph, .int .i64 u.t, .int .i64 u.hd, .int .i64 u.hl, .int .i64 u.ak, .int .i64 u.wt, .bool u.sp] hr1 ?hi9 ?hl9 ?ho9 ?hn9 ?_); (case hx9 => rfl); (case hy9 => rfl); (case hv9 => rfl); (case hi9 => exact info_sig); (case hl9 => simp); (case ho9 => exact one_sig _ _ _ _ _ _ _ _ _ _); (case hn9 => rfl)
           intro w9 hg9 hr9 hz9
           have HB9 := Lib.hid (Below.grows HB1.out hg9 HB1.out.size (by omega))
           have HR9 := Lib.hid (hrs.grown hg9 (fun b o e => ne_some (by have := (HO.out.size b (by rw [e]; rfl)).1; omega)))
           have HA9 := Lib.hid (HAT.out.low hg9 (by omega) hz9)
           clear hg9))
      refine bodyPost_ret (v := .tuple #[.agg #[.int .i64 u.pl, .int .i64 u.st, .int .i64 u.nx, .int .i64 u.ph, .int .i64 u.t, .int .i64 u.hd, .int .i64 u.hl, .int .i64 u.ak, .int .i64 u.wt, .bool u.sp], .slice A2 n2 d2]) ?_ rfl ⟨A2, n2, d2, rows, by rw [HU.out]; rfl, ⟨HR9.out, HA9.out.its⟩, HRW.out, HB9.out, fun b o e => by have := (HO.out.size b (by rw [e]; rfl)).1; omega, fun x hx b o e => by have := (HAT.out.off x hx b o e).1; omega⟩
      exact results_blk_val Try.results16 _ _ _ (w.heap.size + 1) 24 #[.int .i64 u.pl, .int .i64 u.st, .int .i64 u.nx, .int .i64 u.ph, .int .i64 u.t, .int .i64 u.hd, .int .i64 u.hl, .int .i64 u.ak, .int .i64 u.wt, .bool u.sp] (0, 0) _ rfl hr9 Try.underlying24 rfl info_sig _ rfl
theorem safOk : SafOk where
  ask := fun A n c l s k a X h1 h2 _ _ => sdo_any A n c l s k a X h1 h2
  asks := fun A n c l s B m d q X h1 h2 _ _ h5 h6 => sasks_any A n c l s B m d q X h1 h2 h5 h6
  play := fun A n c l s B m d q X h1 h2 _ _ h5 h6 => splay_any A n c l s B m d q X h1 h2 h5 h6
end Go.Proofs.Ytgnhmdfajnnkhaa

