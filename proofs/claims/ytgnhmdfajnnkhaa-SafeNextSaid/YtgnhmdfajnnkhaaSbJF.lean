/- Joined texts: The walk over slices.Repeat of one nought: a row of noughts. The walks over lamp's served and going; the groups that are not red, as a set. The walk over lamp's Clash. The walk over lamp's Show: a row of noughts, in which the stage's groups are marked. Signal machines as the landed code has them: plans beside a machine. Wishes of package safe as the landed code has them, and what is asked of them. What a machine of package stage tells: its stage, what it shows, what is next. -/
import Derived.Test.YtgnhmdfajnnkhaaSbJB
import Derived.Laws.CopyOwn
import Derived.Lib.Builder
import Derived.Test.YtgnhmdfajnnkhaaSbJE
import Derived.Test.YtgnhmdfajnnkhaaSbJD
/- The walk over slices.Repeat of one nought: a row of noughts. -/
namespace Go.Proofs.Ytgnhmdfajnnkhaa
set_option maxRecDepth 100000
set_option linter.unusedVariables false
set_option linter.unusedSimpArgs false
open Go.RowKit

theorem eight {n : Nat} (h1 : 1 ≤ n) (h8 : n ≤ 8) : n = 1 ∨ n = 2 ∨ n = 3 ∨ n = 4 ∨ n = 5 ∨ n = 6 ∨ n = 7 ∨ n = 8 := by omega
set_option maxHeartbeats 4000000 in
theorem mul64_any (n : Nat) (h1 : 1 ≤ n) (h8 : n ≤ 8) (w : World) : Calls Try.prog 97 #[.int .u64 1, .int .u64 n] w fun e w' => e = .returned (.tuple #[.int .u64 0, .int .u64 n]) ∧ w = w' := by
  rcases eight h1 h8 with rfl | rfl | rfl | rfl | rfl | rfl | rfl | rfl
  all_goals
    go_enter Try.func97, Try.ntmps97
    go_wp2
    go_ret2
    exact ⟨rfl, rfl⟩
theorem mul_any (n : Nat) (h1 : 1 ≤ n) (h8 : n ≤ 8) (w : World) : Calls Try.prog 83 #[.int .u64 1, .int .u64 n] w fun e w' => e = .returned (.tuple #[.int .u64 0, .int .u64 n]) ∧ w = w' := by
  have HM := Lib.hid (mul64_any n h1 h8 w)
  go_enter Try.func83, Try.ntmps83
  go_wp2_with (go_at_call 97; (with_reducible refine (HM.out).mono ?_); rintro e w1 ⟨rfl, rfl⟩)
  go_ret2
  exact ⟨rfl, rfl⟩
/-- a block that holds just these numbers -/
def RowL (w : World) (g : Nat) (l : List Int) : Prop := w.heap[g]? = some (.cells (inv .i64 l).toArray 3 (0, 0))
theorem RowL.lt {w : World} {g : Nat} {l : List Int} (h : RowL w g l) : g < w.heap.size := (Array.getElem?_eq_some_iff.1 h).1
theorem RowL.below {w w' : World} {g : Nat} {l : List Int} (h : RowL w g l) (hb : Below w.heap.size w w') : RowL w' g l := (hb.block _ h.lt).trans h
theorem RowL.cell {w : World} {g : Nat} {l : List Int} (h : RowL w g l) (j : Nat) (hj : j < l.length) : w.cell? ⟨g, j, none⟩ = some (.int .i64 (l.getD j 0)) := by
  rw [Lib.cell_of_heap h]
  rw [List.getElem?_toArray, inv_get _ _ _ hj]
theorem RowL.frozen {w : World} {g : Nat} {l : List Int} (h : RowL w g l) (j : Nat) : w.frozen? ⟨g, j, none⟩ = false := Lib.frozen_of_heap h j
theorem RowL.set {w : World} {g : Nat} {l : List Int} (h : RowL w g l) (i : Nat) (x : Int) : RowL (w.setCell ⟨g, i, none⟩ (.int .i64 x)) g (l.set i x) := by
  unfold RowL at h ⊢
  have e : inv .i64 (l.set i x) = (inv .i64 l).set i (.int .i64 x) := by simp [inv, List.map_set]
  rw [e]
  simp [World.setCell, Array.getElem?_modify, h]
theorem RowL.own {w : World} {g base : Nat} {l : List Int} (h : RowL w g l) (hb : base ≤ g) (hl : l.length ≤ 1000) : OwnI .i64 3 w base (.slice (some ⟨g, 0, none⟩) l.length l.length) l := by
  refine ⟨by rw [inv_length, Nat.mul_one], .inr ⟨g, l.length, _, rfl, hb, h, Nat.le_refl _, by unfold maxLen; omega, by rw [Nat.mul_one, List.size_toArray, inv_length], ?_⟩⟩
  rw [Nat.mul_one, List.toList_toArray]
  exact List.take_of_length_le (by rw [inv_length]; exact Nat.le_refl _)
theorem wpList_make_l {P : Program} {w : World} {ops : Array Oper} {rest : List Oper} {o : Oper} {a : Act} {Q : Exit → Act → World → Prop} (hgd : o.guard = none) (t : TypeId) (l c : Operand) (ho : o.op = Op.makeSlice t l c)
    (hu : P.underlying t = some (.slice 3)) (hinfo : (P.info? 3).map (fun i => (i.zero, i.size, i.bytes)) = some (some (.int .i64 0), 1, 8))
    (n : Nat) (hl : a.eval l = .int .i64 n) (hc : a.eval c = .int .i64 n) (hn : n ≤ 17592186044416)
    (h : ∀ w', RowL w' w.heap.size (List.replicate n 0) → w.grownBy w' none → wpList P ops Q rest (a.put o.dst (.slice (some ⟨w.heap.size, 0, none⟩) n n)) w') : wpList P ops Q (o :: rest) a w := by
  obtain ⟨i, hi, hz, h1, h2⟩ := info_parts hinfo
  refine wpList_make_full w hgd l c t ho w.heap.size 3 i (.int .i64 0) 1 hu hi hz h1 .i64 .i64 n n n hl hc rfl rfl (by rw [h2]; omega) (by unfold maxLen; omega) (Nat.le_refl _) (fun w' r1 r2 => h w' ?_ r2)
  rcases r1.2 with ⟨hv, -⟩ | ⟨g, cap, cur, hv, -, hh, -, -, hsz, htake⟩
  · cases hv
  · injection hv with e1 e2 e3
    injection e1 with e1
    injection e1 with e1
    subst e1 e3
    unfold RowL
    rw [hh]
    congr 2
    apply Array.ext'
    rw [List.toList_toArray]
    rw [Nat.mul_one] at htake hsz
    rw [List.take_of_length_le (by rw [Array.length_toList, hsz]; exact Nat.le_refl _)] at htake
    rw [htake]
    apply List.ext_getElem?
    intro j
    by_cases hj : j < n
    · simp [inv, madeCells, hj, Value.cells, Nat.mod_one]
    · simp [inv, madeCells, hj]
theorem zeros_over (n lo m : Nat) (h : lo + m ≤ n) : (inv .i64 (List.replicate n 0)).take lo ++ List.replicate m (Value.int .i64 0) ++ (inv .i64 (List.replicate n 0)).drop (lo + m) = inv .i64 (List.replicate n 0) := by
  simp only [inv, List.map_replicate, List.take_replicate, List.drop_replicate, List.replicate_append_replicate]
  congr 1
  omega
/-- copying noughts over noughts leaves the world as it is -/
theorem run_copy_z (w : World) (g n lo d dc s sc m : Nat) (a : Addr) (ty : TypeId) (h : RowL w g (List.replicate n 0)) (hm : m = Nat.min s d) (hlo : lo + m ≤ n) (hs : ∀ j, j < m → w.cell? (a.add j) = some (.int .i64 0)) :
    (Builtin.copy_ #[40, 40] ty #[.slice (some ⟨g, lo, none⟩) d dc, .slice (some a) s sc]).run Try.prog w = .ok (.int .i64 m) w := by
  have hr := run_copy_row (P := Try.prog) w 40 40 ty 3 g lo d dc a s sc _ 3 (List.replicate m (.int .i64 0)) Try.underlying40 (by kernel_rfl) h (by rw [List.length_replicate, hm]) (by
      intro j v hv
      have hj : j < m := by have := (List.getElem?_eq_some_iff.1 hv).1; rwa [List.length_replicate] at this
      rw [List.getElem?_replicate, if_pos hj] at hv
      cases hv
      exact hs j hj) (by rw [List.length_replicate, List.size_toArray, inv_length, List.length_replicate]; exact hlo) (by intro v hv; rw [List.eq_of_mem_replicate hv]; rfl)
  rw [hr, List.toList_toArray, List.length_replicate, zeros_over n lo m hlo, setRow_self w g _ _ _ h]
  rfl
theorem size_int (w : World) : (sizeOf (Try.prog.elem 40)).run Try.prog w = .ok 1 w := by
  rw [show Try.prog.elem 40 = 3 from by kernel_rfl]
  rfl
theorem run_cut_z (g n k : Nat) (hk : k < n) (hn : n ≤ 8) (w : World) : (Instr.slice 40 (.slice (some ⟨g, 0, none⟩) n n) (some (.int .i64 k)) none none).run Try.prog w = .ok (.slice (some ⟨g, k, none⟩) (n - k) (n - k)) w := by
  rw [run_slice_l (P := Try.prog) w 40 (some ⟨g, 0, none⟩) n n (by kernel_rfl) .i64 k (by omega) (by omega), size_int]
  simp only [Result.andThen_ok, sliced, Int.toNat_natCast, Nat.mul_one]
  rw [if_neg (by omega)]
  simp only [Option.map_some]
  congr 3
  unfold Addr.add
  split
  · rename_i h0; subst h0; rfl
  · simp
theorem run_to_z (g n k : Nat) (hk : k < n) (hn : n ≤ 8) (w : World) : (Instr.slice 40 (.slice (some ⟨g, 0, none⟩) n n) none (some (.int .i64 k)) none).run Try.prog w = .ok (.slice (some ⟨g, 0, none⟩) k n) w := by
  rw [run_slice_h (P := Try.prog) w 40 (some ⟨g, 0, none⟩) n n (by kernel_rfl) .i64 k (by omega) (by omega), size_int]
  simp only [Result.andThen_ok, sliced, Int.toNat_natCast, Nat.zero_mul, Nat.sub_zero]
  simp [Addr.add]
set_option maxHeartbeats 4000000 in
theorem repeat_any (A : Option Addr) (c n : Nat) (h1 : 1 ≤ n) (h8 : n ≤ 8) (w : World) (hb : Its .i64 w A 1 c [0]) : Calls Try.prog 73 #[.slice A 1 c, .int .i64 n] w fun e w' => e = .returned (.slice (some ⟨w.heap.size, 0, none⟩) n n) ∧ RowL w' w.heap.size (List.replicate n 0) ∧ Below w.heap.size w w' := by
  have HM := Lib.hid (mul_any n h1 h8 w)
  have hn0 : ¬ ((n : Int) < 0) := by omega
  have hnw : IntKind.u64.wrap (n : Int) = n := by rw [IntKind.wrap_u64]; omega
  have hni : IntKind.i64.wrap (n : Int) = n := by rw [IntKind.wrap_i64]; omega
  have hng : ¬ (9223372036854775807 < (n : Int)) := by omega
  obtain ⟨b, off, rfl, hc⟩ := hb.at_ (by omega)
  have HC := Lib.hid (show w.cell? ⟨b, off, none⟩ = some (.int .i64 0) from hc 0 (by omega))
  clear hb hc
  go_enter Try.func73, Try.ntmps73
  go_wp2_with (first
    | (go_at_call 83; (with_reducible refine (HM.out).mono ?_); rintro e w1 ⟨rfl, rfl⟩)
    | (refine wpList_make_l rfl 40 _ _ rfl Try.underlying40 (by kernel_rfl) n rfl rfl (by omega) ?_
       intro W hrow hg
       have HW := Lib.hid (show Below w.heap.size w W from (Below.refl _ w).grown hg (Nat.le_refl _) (fun k hk => by cases hk))
       have HR := Lib.hid hrow
       have hcp := fun ty => run_copy_z W w.heap.size n 0 n n 1 c 1 ⟨b, off, none⟩ ty hrow (by show 1 = min 1 n; omega) (by omega) (fun j hj => by
         obtain rfl : j = 0 := by omega
         have := HW.out.cell (p := ⟨b, off, none⟩) (block_lt_of_cell HC.out)
         rw [show (⟨b, off, none⟩ : Addr).add 0 = ⟨b, off, none⟩ from rfl, this]
         exact HC.out)
       clear hrow hg))
  clear hcp
  go_loopw [8] (fun i wr => ∃ k : Nat, 1 ≤ k ∧ k ≤ n ∧ i = .int .i64 k ∧ RowL wr w.heap.size (List.replicate n 0) ∧ Below w.heap.size w wr) (fun i _ => n - (intOf i).toNat)
  case atStart => exact ⟨1, by omega, h1, rfl, HR.out, HW.out⟩
  case round =>
    obtain ⟨k, hk1, hkn, rfl, hrow, hbw⟩ := hrel
    by_cases hlt : k < n
    · have hlt2 : (k : Int) < n := by omega
      have q0 : 0 ≤ (k : Int) := by omega
      obtain ⟨m, hm⟩ : ∃ m, Nat.min k (n - k) = m := ⟨_, rfl⟩
      have hm1 : 1 ≤ m := by rw [← hm]; show 1 ≤ min k (n - k); omega
      have hmk : k + m ≤ n := by rw [← hm]; show k + min k (n - k) ≤ n; omega
      have hmz : m ≤ k := by rw [← hm]; show min k (n - k) ≤ k; omega
      have hs1 := fun X => run_cut_z w.heap.size n k hlt h8 X
      have hs2 := fun X => run_to_z w.heap.size n k hlt h8 X
      have hdr : RowL wr.drew w.heap.size (List.replicate n 0) := hrow
      have hcp : ∀ ty, (Builtin.copy_ #[40, 40] ty #[.slice (some ⟨w.heap.size, k, none⟩) (n - k) (n - k), .slice (some ⟨w.heap.size, 0, none⟩) k n]).run Try.prog wr.drew = .ok (.int .i64 m) wr.drew := fun ty => run_copy_z wr.drew w.heap.size n k (n - k) (n - k) k n m ⟨w.heap.size, 0, none⟩ ty hdr hm.symm hmk (fun j hj => by
        have e : (⟨w.heap.size, 0, none⟩ : Addr).add j = ⟨w.heap.size, j, none⟩ := by
          unfold Addr.add
          split
          · rename_i h0; subst h0; rfl
          · simp
        rw [e, hdr.cell j (by rw [List.length_replicate]; omega)]
        simp [List.getD_eq_getElem?_getD, show j < n by omega])
      have HRW := Lib.hid hdr
      have HBW := Lib.hid (show Below w.heap.size w wr.drew from hbw.drew)
      have HMN := Lib.hid (And.intro hm1 hmk)
      clear hm hrow hbw hdr
      go_wp2
      go_region
      all_goals
        go_wp2
        go_roundw
        · exact ⟨k + m, by omega, HMN.out.2, by go_num, HRW.out, HBW.out⟩
        · simp [intOf]; omega
    · obtain rfl : k = n := by omega
      have hge : ¬ ((k : Int) < k) := by omega
      have HRW := Lib.hid hrow
      have HBW := Lib.hid hbw
      clear hrow hbw
      go_wp2
      go_ret
      exact ⟨rfl, HRW.out, HBW.out⟩
end Go.Proofs.Ytgnhmdfajnnkhaa


/- The walks over lamp's served and going; the groups that are not red, as a set. -/
namespace Go.Proofs.Ytgnhmdfajnnkhaa
set_option maxRecDepth 100000
set_option linter.unusedVariables false
set_option linter.unusedSimpArgs false
open Go.RowKit

/-- what the groups of a stage show -/
def servI (y : Int) : Int := if y = 0 then 2 else if y = 1 then 1 else if y = 2 then 0 else -1
theorem serv_neg (y : Int) : servI y < 0 ↔ ¬ (0 ≤ y ∧ y < 3) := by
  unfold servI
  split
  · omega
  · split
    · omega
    · split <;> omega
set_option maxHeartbeats 1000000 in
theorem lserved_any (y : Int) (w : World) : Calls Try.prog 72 #[.int .i64 y] w fun e w' => e = .returned (.int .i64 (servI y)) ∧ w = w' := by
  by_cases h0 : y = 0
  · subst h0
    go_enter Try.func72, Try.ntmps72
    go_wp2
    go_ret
    exact ⟨rfl, rfl⟩
  · by_cases h1 : y = 1
    · subst h1
      go_enter Try.func72, Try.ntmps72
      go_wp2
      go_ret
      exact ⟨rfl, rfl⟩
    · by_cases h2 : y = 2
      · subst h2
        go_enter Try.func72, Try.ntmps72
        go_wp2
        go_ret
        exact ⟨rfl, rfl⟩
      · have e0 : (y == 0) = false := by rw [beq_eq_false_iff_ne]; exact h0
        have e1 : (y == 1) = false := by rw [beq_eq_false_iff_ne]; exact h1
        have e2 : (y == 2) = false := by rw [beq_eq_false_iff_ne]; exact h2
        have HR := Lib.hid (show servI y = -1 by rw [servI, if_neg h0, if_neg h1, if_neg h2])
        clear h0 h1 h2
        go_enter Try.func72, Try.ntmps72
        go_wp2
        go_ret
        exact ⟨by rw [HR.out]; rfl, rfl⟩
end Go.Proofs.Ytgnhmdfajnnkhaa


/- The walk over lamp's Clash. -/
namespace Go.Proofs.Ytgnhmdfajnnkhaa
set_option maxRecDepth 100000
set_option linter.unusedVariables false
set_option linter.unusedSimpArgs false
open Go.RowKit

end Go.Proofs.Ytgnhmdfajnnkhaa


/- The walk over lamp's Show: a row of noughts, in which the stage's groups are marked. -/
namespace Go.Proofs.Ytgnhmdfajnnkhaa
set_option maxRecDepth 100000
set_option linter.unusedVariables false
set_option linter.unusedSimpArgs false
open Go.RowKit

theorem Its.setCell {K : IntKind} {w : World} {A : Option Addr} {n c : Nat} {l : List Int} (h : Its K w A n c l) (q : Addr) (v : Value) (hne : ∀ b off, A = some ⟨b, off, none⟩ → b ≠ q.block) : Its K (w.setCell q v) A n c l := by
  refine ⟨h.len, h.le, h.max, h.bare, fun hn => ?_⟩
  obtain ⟨b, off, hA, hc⟩ := h.at_ hn
  refine ⟨b, off, hA, fun j hj => ?_⟩
  have hb := hne b off hA
  have e := Below.heap_setCell w q v b hb
  have := hc j hj
  simp only [World.cell?] at this ⊢
  rw [e]
  exact this
def marks (M : List Int) (n : Nat) (v : Int) : List Int := (List.range n).map fun g : Nat => if (g : Int) ∈ M then v else 0
theorem marks_nil (n : Nat) (v : Int) : marks [] n v = List.replicate n 0 := by
  apply List.ext_getElem?
  intro j
  simp only [marks, List.getElem?_map, List.getElem?_range, List.getElem?_replicate, List.not_mem_nil, if_false]
  by_cases hj : j < n
  · simp [hj]
  · simp [hj]
theorem marks_len (M : List Int) (n : Nat) (v : Int) : (marks M n v).length = n := by simp [marks]
theorem marks_next (M : List Int) (n i : Nat) (v : Int) (hi : i < n) : (marks M n v).set i v = marks (M ++ [(i : Int)]) n v := by
  apply List.ext_getElem?
  intro j
  by_cases hj : j < n
  · by_cases e : i = j
    · subst e
      simp [marks, hj, List.getElem?_set]
    · have e2 : ¬ ((j : Int) = (i : Int)) := by omega
      have e3 : ¬ (j = i) := fun h => e h.symm
      simp [marks, hj, List.getElem?_set, e, e2, e3]
  · rw [List.getElem?_eq_none (by rw [List.length_set, marks_len]; omega), List.getElem?_eq_none (by rw [marks_len]; omega)]
theorem marks_all (t n : Nat) (y : Int) (ht : t < 256) (hn : n ≤ 8) (hy : 0 ≤ y ∧ y < 3) : marks (listM (t : Int)) n (servI y) = showTo (t : Int) y n := by
  unfold marks showTo
  refine List.map_congr_left fun g hg => ?_
  rw [List.mem_range] at hg
  have hm : ((g : Int) ∈ listM (t : Int)) ↔ bitI (t : Int) g = true := by
    have := mem8 ⟨t, ht⟩ (g : Int)
    rw [this]
    constructor
    · rintro ⟨j, e, hb⟩
      have : g = j.val := by omega
      rw [this]; exact hb
    · intro hb
      exact ⟨⟨g, by omega⟩, rfl, hb⟩
  unfold lampP servI
  have hy3 : y = 0 ∨ y = 1 ∨ y = 2 := by omega
  by_cases hb : bitI (t : Int) g = true
  · rw [if_pos (hm.2 hb)]
    rcases hy3 with rfl | rfl | rfl <;> simp [hb]
  · rw [if_neg (fun h => hb (hm.1 h))]
    simp [hb]
theorem mark_at {t n j : Nat} (ht : t < 2 ^ n) (hn : n ≤ 8) (hj : j < (listM (t : Int)).length) : ∃ g : Nat, (listM (t : Int)).getD j 0 = (g : Int) ∧ g < n := by
  have h256 := pow_le hn
  have hm := getD_mem hj
  obtain ⟨g, e, hb⟩ := (mem8 ⟨t, by omega⟩ _).1 hm
  refine ⟨g.val, e, ?_⟩
  rw [bit_nat] at hb
  exact Nat.lt_of_not_le fun hle => by
    have h2 : t < 2 ^ g.val := Nat.lt_of_lt_of_le ht (Nat.pow_le_pow_right (by omega) hle)
    rw [Nat.testBit_lt_two_pow h2] at hb
    cases hb
set_option maxHeartbeats 8000000 in
theorem lshowp_own (p : Pl) (x y : Int) (w : World) (hp : PlIn w p) : Calls Try.prog 57 #[plV p, .int .i64 x, .int .i64 y] w (GivesO (showR p x y) w) := by
  have hsk := hp.s.small
  have hsm := hp.m.small
  have hSL := hp.s.len
  have hML := hp.m.len
  obtain ⟨W0, hW0⟩ : ∃ W0, w.alloc (.cells #[.slice p.A p.n p.c, .slice p.B p.k p.d, .int .i64 p.am, .int .i64 p.rd, .int .i64 p.hd] 47) = W0 := ⟨_, rfl⟩
  have hB0 : Below w.heap.size w W0 := by rw [← hW0]; exact one_alloc w _
  have hp0 : PlIn W0 p := hp.below hB0
  have hbp : BoxP W0 w.heap.size p := by rw [← hW0]; exact BoxP.new w p
  have HFT := Lib.hid (fit_any p W0 hp0)
  have HSV := Lib.hid (lserved_any y W0)
  simp only [plV] at HFT ⊢
  have HW := Lib.hid hW0
  have HB0 := Lib.hid hB0
  have HAC := Lib.hid (show ∀ X, Below W0.heap.size W0 X → X.cell? ⟨w.heap.size, 0, none⟩ = some (.slice p.A p.n p.c) ∧ X.cell? ⟨w.heap.size, 1, none⟩ = some (.slice p.B p.k p.d) ∧ X.cell? ⟨w.heap.size, 2, none⟩ = some (.int .i64 p.am) ∧ X.cell? ⟨w.heap.size, 3, none⟩ = some (.int .i64 p.rd) ∧ X.cell? ⟨w.heap.size, 4, none⟩ = some (.int .i64 p.hd) from fun X hX => (hbp.below hX).cells)
  have HSL := Lib.hid hSL
  have HML := Lib.hid hML
  have HP := Lib.hid (show ∀ X, Below W0.heap.size W0 X → PlIn X p from fun X hX => hp0.below hX)
  obtain ⟨a0, a1, a2, a3, a4⟩ := HAC.out W0 (Below.refl _ _)
  clear hW0 hB0 hbp hp hp0
  obtain ⟨V, hV⟩ : ∃ V, servI y = V := ⟨_, rfl⟩
  have hVn0 := serv_neg y
  have HVV := Lib.hid hV
  rw [hV] at HSV hVn0
  have HVN := Lib.hid hVn0
  clear hV hVn0
  cases hf : fitP p with
  | false =>
    rw [hf] at HFT
    have HR := Lib.hid (show showR p x y = [] from if_neg fun h => by rw [hf] at h; cases h.1)
    clear hf a0 a1 a2 a3 a4 hSL hML
    go_enter Try.func57, Try.ntmps57
    go_wp2_with (first
      | (go_at_call 72; rw [HW.out]; (with_reducible refine (HSV.out).mono ?_); rintro e w0 ⟨rfl, rfl⟩; obtain ⟨a0, a1, a2, a3, a4⟩ := HAC.out W0 (Below.refl _ _))
      | (go_at_call 59; (with_reducible refine (HFT.out).mono ?_); rintro e w1 ⟨rfl, hb1⟩; obtain ⟨c0, c1, c2, c3, c4⟩ := HAC.out _ hb1; have HB1 := Lib.hid hb1; clear hb1))
    go_ret
    exact ⟨none, 0, 0, rfl, by rw [HR.out]; exact OwnI.nil _ _ _ _, HB0.out.trans (HB1.out.mono HB0.out.size)⟩
  | true =>
    rw [hf] at HFT
    by_cases h1 : x < 0
    · have HR := Lib.hid (show showR p x y = [] from if_neg fun h => by omega)
      clear hf a0 a1 a2 a3 a4 hSL hML
      go_enter Try.func57, Try.ntmps57
      go_wp2_with (first
        | (go_at_call 72; rw [HW.out]; (with_reducible refine (HSV.out).mono ?_); rintro e w0 ⟨rfl, rfl⟩; obtain ⟨a0, a1, a2, a3, a4⟩ := HAC.out W0 (Below.refl _ _))
        | (go_at_call 59; (with_reducible refine (HFT.out).mono ?_); rintro e w1 ⟨rfl, hb1⟩; obtain ⟨c0, c1, c2, c3, c4⟩ := HAC.out _ hb1; have HB1 := Lib.hid hb1; clear hb1))
      go_ret
      exact ⟨none, 0, 0, rfl, by rw [HR.out]; exact OwnI.nil _ _ _ _, HB0.out.trans (HB1.out.mono HB0.out.size)⟩
    by_cases h2 : (p.k : Int) ≤ x
    · have HR := Lib.hid (show showR p x y = [] from if_neg fun h => by have := HSL.out; omega)
      clear hf a0 a1 a2 a3 a4 hSL hML
      go_enter Try.func57, Try.ntmps57
      go_wp2_with (first
        | (go_at_call 72; rw [HW.out]; (with_reducible refine (HSV.out).mono ?_); rintro e w0 ⟨rfl, rfl⟩; obtain ⟨a0, a1, a2, a3, a4⟩ := HAC.out W0 (Below.refl _ _))
        | (go_at_call 59; (with_reducible refine (HFT.out).mono ?_); rintro e w1 ⟨rfl, hb1⟩; obtain ⟨c0, c1, c2, c3, c4⟩ := HAC.out _ hb1; have HB1 := Lib.hid hb1; clear hb1))
      go_ret
      exact ⟨none, 0, 0, rfl, by rw [HR.out]; exact OwnI.nil _ _ _ _, HB0.out.trans (HB1.out.mono HB0.out.size)⟩
    by_cases h3 : V < 0
    · have HR := Lib.hid (show showR p x y = [] from if_neg fun h => HVN.out.1 h3 h.2.2)
      clear hf a0 a1 a2 a3 a4 hSL hML
      go_enter Try.func57, Try.ntmps57
      go_wp2_with (first
        | (go_at_call 72; rw [HW.out]; (with_reducible refine (HSV.out).mono ?_); rintro e w0 ⟨rfl, rfl⟩; obtain ⟨a0, a1, a2, a3, a4⟩ := HAC.out W0 (Below.refl _ _))
        | (go_at_call 59; (with_reducible refine (HFT.out).mono ?_); rintro e w1 ⟨rfl, hb1⟩; obtain ⟨c0, c1, c2, c3, c4⟩ := HAC.out _ hb1; have HB1 := Lib.hid hb1; clear hb1))
      go_ret
      exact ⟨none, 0, 0, rfl, by rw [HR.out]; exact OwnI.nil _ _ _ _, HB0.out.trans (HB1.out.mono HB0.out.size)⟩
    have hy : 0 ≤ y ∧ y < 3 := Classical.not_not.1 fun h => h3 (HVN.out.2 h)
    obtain ⟨st, rfl⟩ := Int.eq_ofNat_of_zero_le (show 0 ≤ x by omega)
    have hff := fit_iff.1 hf
    have lst : st < p.s.length := by have := HSL.out; omega
    have hR : showTo (p.s.getD st Stg.zero).g y p.m.length = showR p (st : Int) y := by rw [showR, if_pos ⟨hf, ⟨by omega, by omega⟩, hy⟩, Int.toNat_natCast, showTo]
    obtain ⟨R, hRR⟩ : ∃ R, showR p (st : Int) y = R := ⟨_, rfl⟩
    rw [hRR] at hR ⊢
    have hmem : p.s.getD st Stg.zero ∈ p.s := by rw [List.getD_eq_getElem?_getD, List.getElem?_eq_getElem lst]; exact List.getElem_mem lst
    obtain ⟨hfr, -⟩ := hff.stage _ hmem
    obtain ⟨t, ht, ht2⟩ := set_nat (free_iff.1 hfr).2.1
    obtain ⟨hn8, -⟩ := may_rows HML.out hff.may
    have hn1 := (may_all hff.may).1.1
    rw [HML.out] at hn1 ht2
    have h8 := pow_le hn8
    have ht3 : t < 256 := by omega
    rw [ht, HML.out] at hR
    have HR := Lib.hid (show marks (listM (t : Int)) p.n V = R by rw [← HVV.out, marks_all t p.n y ht3 hn8 hy, hR])
    have HLA := Lib.hid (fun j (hj : j < (listM (t : Int)).length) => mark_at (j := j) ht2 hn8 hj)
    have HG := Lib.hid (show ∀ X, Below W0.heap.size W0 X → ∃ b off, p.B = some ⟨b, off, none⟩ ∧ X.cell? ⟨b, off + st * 3, none⟩ = some (.int .i64 (t : Int)) from fun X hX => by
      obtain ⟨b, off, u, hA, hu, -, -, z0, -, -⟩ := (HP.out X hX).s.at_ st (by have := HSL.out; omega)
      rw [hu] at ht
      rw [ht] at z0
      exact ⟨b, off, hA, z0⟩)
    obtain ⟨sb, so, hsB, -⟩ := HG.out W0 (Below.refl _ _)
    have HG2 := Lib.hid (show ∀ X, Below W0.heap.size W0 X → X.cell? ⟨sb, so + st * 3, none⟩ = some (.int .i64 (t : Int)) from fun X hX => by
      obtain ⟨b, off, hA, z⟩ := HG.out X hX
      rw [hsB] at hA
      cases hA
      exact z)
    have est : ¬ ((p.k : Int) ≤ (st : Int)) := h2
    have st0 : 0 ≤ (st : Int) := by omega
    have stk : (st : Int) < p.k := by omega
    have stn : st < p.k := by omega
    have hl8 : (listM (t : Int)).length ≤ 8 := by rw [listM, if_pos ⟨by omega, by omega⟩, List.length_map]; exact Nat.le_trans (List.length_filter_le _ _) (by simp)
    obtain ⟨M, hM⟩ : ∃ M, listM (t : Int) = M := ⟨_, rfl⟩
    have HLI := Lib.hid (fun X => glist_own (t : Int) X)
    rw [hM] at HR HLA HLI hl8
    rw [hsB] at HAC
    clear hf hff hRR hR hmem hfr ht ht2 a0 a1 a2 a3 a4 hSL hML h1 h2 HG hM HVN HVV
    rw [hsB]
    rw [hsB] at HFT HW
    go_enter Try.func57, Try.ntmps57
    go_wp2_with (first
      | (go_at_call 72; rw [HW.out]; (with_reducible refine (HSV.out).mono ?_); rintro e w0 ⟨rfl, rfl⟩; obtain ⟨a0, a1, a2, a3, a4⟩ := HAC.out W0 (Below.refl _ _))
      | (go_at_call 59
         (with_reducible refine (HFT.out).mono ?_)
         rintro e w1 ⟨rfl, hb1⟩
         obtain ⟨c0, c1, c2, c3, c4⟩ := HAC.out _ hb1
         have HB1 := Lib.hid hb1
         obtain ⟨Y, hY⟩ : ∃ Y, w1.alloc (.cells #[.int .i64 0] 3) = Y := ⟨_, rfl⟩
         have hbY : Below W0.heap.size W0 Y := by rw [← hY]; exact hb1.alloc hb1.size _
         obtain ⟨d0, d1, d2, d3, d4⟩ := HAC.out _ (hb1.alloc hb1.size (.cells #[.int .i64 0] 3))
         have HBY := Lib.hid hbY
         have HRP := Lib.hid (repeat_any (some ⟨w1.heap.size, 0, none⟩) 1 p.n hn1 hn8 Y (by rw [← hY]; exact one_its .i64 3 w1 0))
         have HY := Lib.hid hY
         clear hb1 hY hbY)
      | (go_at_call 73
         rw [HY.out]
         (with_reducible refine (HRP.out).mono ?_)
         rintro e w3 ⟨rfl, hrow, hb3⟩
         have HB3 := Lib.hid (HBY.out.trans (hb3.mono HBY.out.size))
         obtain ⟨e0, e1, e2, e3, e4⟩ := HAC.out _ HB3.out
         have g0 := HG2.out _ HB3.out
         have HRW := Lib.hid hrow
         have HS3 := Lib.hid (show Y.heap.size < w3.heap.size from hrow.lt)
         clear hrow hb3)
      | (go_at_call 74
         (with_reducible refine (HLI.out _).mono ?_)
         rintro e w4 ⟨A4, n4, cp4, rfl, hown, hb4⟩
         have HB4 := Lib.hid (HB3.out.trans (hb4.mono HB3.out.size))
         have HRW4 := Lib.hid (HRW.out.below hb4)
         have HNE := Lib.hid (show ∀ b off, A4 = some ⟨b, off, none⟩ → b ≠ Y.heap.size from fun b off hA hE => by
           have := (hown.size b (by rw [hA]; rfl)).1
           have := HS3.out
           omega)
         obtain ⟨B5, k5, d5, hE5, hits⟩ := hown.its
         cases hE5
         have HIT := Lib.hid hits
         have hn4 : n4 ≤ 8 := by rw [← hits.len]; exact hl8
         have HN4 := Lib.hid hits.len
         clear hown hb4 hits))
    clear c0 c1 c2 c3 c4 d0 d1 d2 d3 d4 e0 e1 e2 e3 e4 g0
    have HML4 := Lib.hid (fun (k : Nat) => marks_len (M.take k) p.n V)
    go_loopw [44] (fun i wr => ∃ (j : Nat) (L : List Int), j ≤ n4 ∧ i = .int .i64 j ∧ marks (M.take j) p.n V = L ∧ RowL wr Y.heap.size L ∧ Its .i64 wr A4 n4 cp4 M ∧ Below W0.heap.size W0 wr) (fun i _ => n4 - (intOf i).toNat)
    case atStart => exact ⟨0, List.replicate p.n 0, by omega, rfl, by rw [List.take_zero, marks_nil], HRW4.out, HIT.out, HB4.out⟩
    case round =>
      obtain ⟨j, L, hj, rfl, hL, hrow, hit, hbw⟩ := hrel
      by_cases hlt : j < n4
      · have hlt2 : (j : Int) < n4 := by omega
        have q0 : 0 ≤ (j : Int) := by omega
        have hjl : j < M.length := by rw [HN4.out]; exact hlt
        obtain ⟨g, hg, hgn⟩ := HLA.out j hjl
        obtain ⟨b4, o4, hA4, hc⟩ := hit.at_ (by omega)
        have z := hc j hlt
        rw [hg] at z
        have hll : L.length = p.n := by rw [← hL]; exact HML4.out j
        have z1 := hrow.cell g (by omega)
        have z2 := hrow.frozen g
        have gi0 : 0 ≤ (g : Int) := by omega
        have gin : (g : Int) < p.n := by omega
        have hnx := marks_next (M.take j) p.n g V hgn
        have htk : M.take (j + 1) = M.take j ++ [(g : Int)] := by
          rw [List.take_succ_eq_append_getElem hjl]
          rw [← hg]
          simp [List.getD_eq_getElem?_getD, hjl]
        rw [← htk, hL] at hnx
        have HNX := Lib.hid hnx.symm
        have HRS := Lib.hid (hrow.set g V)
        have HIS := Lib.hid (hit.setCell ⟨Y.heap.size, g, none⟩ (.int .i64 V) (fun b off e => HNE.out b off e))
        have HBS := Lib.hid (hbw.setCell (p := ⟨Y.heap.size, g, none⟩) HBY.out.size (.int .i64 V))
        have HA4 := Lib.hid hA4
        obtain ⟨u, hu⟩ : ∃ u, L.getD g 0 = u := ⟨_, rfl⟩
        rw [hu] at z1
        rw [hA4]
        clear hL hrow hit hbw hc hg hnx htk hu hA4
        go_wp2
        go_roundw
        case rel => exact ⟨j + 1, L.set g V, by omega, by go_num, HNX.out.symm ▸ rfl, HRS.out, (by rw [← HA4.out]; exact HIS.out), HBS.out⟩
        case measure => simp [intOf]; omega
      · obtain rfl : j = n4 := by omega
        have hge : ¬ ((j : Int) < j) := by omega
        have hLR : L = R := by rw [← hL, List.take_of_length_le (by rw [HN4.out]; exact Nat.le_refl _)]; exact HR.out
        have hll : L.length = p.n := by rw [← hL]; exact HML4.out j
        have hown := hrow.own HBY.out.size (by omega)
        rw [hll, hLR] at hown
        have HO := Lib.hid hown
        have HBW := Lib.hid hbw
        clear hL hrow hit hbw hLR hll hown
        go_wp2
        go_ret
        exact ⟨_, _, _, rfl, HO.out.mono HB0.out.size, HB0.out.trans (HBW.out.mono HB0.out.size)⟩
end Go.Proofs.Ytgnhmdfajnnkhaa


/- Signal machines as the landed code has them: plans beside a machine. -/
namespace Go.Proofs.Ytgnhmdfajnnkhaa
set_option maxRecDepth 100000
set_option linter.unusedVariables false
set_option linter.unusedSimpArgs false
open Go.RowKit

def mcV (A : Option Addr) (n c : Nat) (s : Sg) : Value := .agg #[.slice A n c, .int .i64 s.pl, .int .i64 s.st, .int .i64 s.nx, .int .i64 s.ph, .int .i64 s.t, .int .i64 s.hd, .int .i64 s.hl, .int .i64 s.ak, .int .i64 s.wt, .bool s.sp]
/-- a block that holds one -/
def BoxM (w : World) (b : Nat) (A : Option Addr) (n c : Nat) (s : Sg) : Prop := w.heap[b]? = some (.cells #[.slice A n c, .int .i64 s.pl, .int .i64 s.st, .int .i64 s.nx, .int .i64 s.ph, .int .i64 s.t, .int .i64 s.hd, .int .i64 s.hl, .int .i64 s.ak, .int .i64 s.wt, .bool s.sp] 66 (0, 0))
structure CellsM (w : World) (b : Nat) (A : Option Addr) (n c : Nat) (s : Sg) : Prop where
  m : w.cell? ⟨b, 0, none⟩ = some (.slice A n c)
  c0 : w.cell? ⟨b, 1, none⟩ = some (.int .i64 s.pl)
  c1 : w.cell? ⟨b, 2, none⟩ = some (.int .i64 s.st)
  c2 : w.cell? ⟨b, 3, none⟩ = some (.int .i64 s.nx)
  c3 : w.cell? ⟨b, 4, none⟩ = some (.int .i64 s.ph)
  c4 : w.cell? ⟨b, 5, none⟩ = some (.int .i64 s.t)
  c5 : w.cell? ⟨b, 6, none⟩ = some (.int .i64 s.hd)
  c6 : w.cell? ⟨b, 7, none⟩ = some (.int .i64 s.hl)
  c7 : w.cell? ⟨b, 8, none⟩ = some (.int .i64 s.ak)
  c8 : w.cell? ⟨b, 9, none⟩ = some (.int .i64 s.wt)
  c9 : w.cell? ⟨b, 10, none⟩ = some (.bool s.sp)
section
variable {w w' : World} {b n c : Nat} {A : Option Addr} {s : Sg}
theorem BoxM.new (w : World) (A : Option Addr) (n c : Nat) (s : Sg) : BoxM (w.alloc (.cells #[.slice A n c, .int .i64 s.pl, .int .i64 s.st, .int .i64 s.nx, .int .i64 s.ph, .int .i64 s.t, .int .i64 s.hd, .int .i64 s.hl, .int .i64 s.ak, .int .i64 s.wt, .bool s.sp] 66)) w.heap.size A n c s := heap_alloc_new w _
theorem BoxM.lt (h : BoxM w b A n c s) : b < w.heap.size := (Array.getElem?_eq_some_iff.1 h).1
theorem BoxM.below (h : BoxM w b A n c s) (hb : Below w.heap.size w w') : BoxM w' b A n c s := (hb.block b h.lt).trans h
theorem BoxM.low {B : Nat} (h : BoxM w b A n c s) (hb : Below B w w') (hg : b < B) : BoxM w' b A n c s := (hb.block b hg).trans h
theorem BoxM.cells (h : BoxM w b A n c s) : CellsM w b A n c s :=
  ⟨(cell_of_row _ _ _ _ _ _ h).trans rfl, (cell_of_row _ _ _ _ _ _ h).trans rfl, (cell_of_row _ _ _ _ _ _ h).trans rfl, (cell_of_row _ _ _ _ _ _ h).trans rfl, (cell_of_row _ _ _ _ _ _ h).trans rfl, (cell_of_row _ _ _ _ _ _ h).trans rfl, (cell_of_row _ _ _ _ _ _ h).trans rfl, (cell_of_row _ _ _ _ _ _ h).trans rfl, (cell_of_row _ _ _ _ _ _ h).trans rfl, (cell_of_row _ _ _ _ _ _ h).trans rfl, (cell_of_row _ _ _ _ _ _ h).trans rfl⟩
end
theorem info_mac : (Try.prog.info? 66).map (·.size) = some 11 := by kernel_rfl
theorem info_plan : (Try.prog.info? 47).map (·.size) = some 5 := by kernel_rfl
theorem info_stage : (Try.prog.info? 71).map (·.size) = some 3 := by kernel_rfl
theorem one_mac (A : Option Addr) (n k : Nat) (a b c d e f g h i : Int) (j : Bool) : (#[.slice A n k, .int .i64 a, .int .i64 b, .int .i64 c, .int .i64 d, .int .i64 e, .int .i64 f, .int .i64 g, .int .i64 h, .int .i64 i, .bool j] : Array Value).all (·.oneCell') = true := all_row (l := [.slice A n k, .int .i64 a, .int .i64 b, .int .i64 c, .int .i64 d, .int .i64 e, .int .i64 f, .int .i64 g, .int .i64 h, .int .i64 i, .bool j]) fun v hv => by
  simp only [List.mem_cons, List.not_mem_nil, or_false] at hv
  rcases hv with rfl | rfl | rfl | rfl | rfl | rfl | rfl | rfl | rfl | rfl | rfl <;> rfl
def GivesM (A : Option Addr) (n c : Nat) (s : Sg) (X : World) : Ending → World → Prop := fun e w' => e = .returned (mcV A n c s) ∧ Below X.heap.size X w'
/-- a place of so many -/
def placeB (x y : Int) : Bool := decide (0 ≤ x) && decide (x < y)
theorem place_any (x y : Int) (w : World) : Calls Try.prog 43 #[.int .i64 x, .int .i64 y] w fun e w' => e = .returned (.bool (placeB x y)) ∧ w = w' := by
  have HR := Lib.hid (show placeB x y = (decide (0 ≤ x) && decide (x < y)) from rfl)
  by_cases h0 : 0 ≤ x
  · rw [decide_eq_true h0, Bool.true_and] at HR
    go_enter Try.func43, Try.ntmps43
    go_wp2
    go_ret
    exact ⟨by rw [HR.out]; rfl, rfl⟩
  · rw [decide_eq_false h0, Bool.false_and] at HR
    go_enter Try.func43, Try.ntmps43
    go_wp2
    go_ret
    exact ⟨by rw [HR.out]; rfl, rfl⟩
theorem plan_lies {w : World} {A : Option Addr} {n c : Nat} {l : List Pl} {k : Int} (h : Pls w A n c l) (h0 : 0 ≤ k) (h1 : k < n) : PlIn w (planAt l k) := by
  obtain ⟨j, rfl⟩ := Int.eq_ofNat_of_zero_le h0
  exact (plan_of h (by omega)).1
set_option maxHeartbeats 4000000 in
theorem own_plan (A : Option Addr) (n c : Nat) (l : List Pl) (s : Sg) (w : World) (hl : Pls w A n c l) (h0 : 0 ≤ s.pl) (h1 : s.pl < n) : Calls Try.prog 58 #[mcV A n c s] w fun e w' => e = .returned (plV (planAt l s.pl)) ∧ Below w.heap.size w w' := by
  obtain ⟨j, hj⟩ := Int.eq_ofNat_of_zero_le h0
  have hjn : j < n := by omega
  obtain ⟨b, off, q, rfl, hq, hmem, -, -, -⟩ := hl.at_ j hjn
  have hqa : planAt l s.pl = q := by rw [hj, planAt, Int.toNat_natCast, hq]
  have HPC := Lib.hid (show ∀ X, Below w.heap.size w X → X.cell? ⟨b, off + j * 5, none⟩ = some (.slice q.A q.n q.c) ∧ X.cell? ⟨b, off + j * 5 + 1, none⟩ = some (.slice q.B q.k q.d) ∧ X.cell? ⟨b, off + j * 5 + 2, none⟩ = some (.int .i64 q.am) ∧ X.cell? ⟨b, off + j * 5 + 3, none⟩ = some (.int .i64 q.rd) ∧ X.cell? ⟨b, off + j * 5 + 4, none⟩ = some (.int .i64 q.hd) from fun X hX => by
    obtain ⟨b2, off2, p2, hA2, hp2, -, -, -, z0, z1, z2, z3, z4⟩ := (hl.below hX).at_ j hjn
    cases hA2
    obtain rfl := hq.symm.trans hp2
    exact ⟨z0, z1, z2, z3, z4⟩)
  have hj0 : 0 ≤ (j : Int) := by omega
  have hjn' : (j : Int) < n := by omega
  rw [hqa]
  unfold mcV plV
  clear hl hq hmem hqa h0 h1
  obtain ⟨pl, st, nx, ph, t, hd, hh, ak, wt, sp⟩ := s
  simp only at *
  subst hj
  obtain ⟨z0, z1, z2, z3, z4⟩ := HPC.out _ (below_alloc2 w (.cells #[.slice (some ⟨b, off, none⟩) n c, .int .i64 (j : Int), .int .i64 st, .int .i64 nx, .int .i64 ph, .int .i64 t, .int .i64 hd, .int .i64 hh, .int .i64 ak, .int .i64 wt, .bool sp] 66) (.cells #[.slice none 0 0, .slice none 0 0, .int .i64 0, .int .i64 0, .int .i64 0] 47))
  go_enter Try.func58, Try.ntmps58
  go_wp2
  refine bodyPost_ret (v := .agg #[.slice q.A q.n q.c, .slice q.B q.k q.d, .int .i64 q.am, .int .i64 q.rd, .int .i64 q.hd]) ?_ rfl ⟨rfl, below_alloc2 _ _ _⟩
  exact results_cell_row Try.results58 _ _ (w.heap.size + 1) 47 #[.slice q.A q.n q.c, .slice q.B q.k q.d, .int .i64 q.am, .int .i64 q.rd, .int .i64 q.hd] (0, 0) _ rfl (alloc2_new _ _ _) Try.underlying47 rfl info_plan
end Go.Proofs.Ytgnhmdfajnnkhaa


/- Wishes of package safe as the landed code has them, and what is asked of them. -/
namespace Go.Proofs.Ytgnhmdfajnnkhaa
set_option maxRecDepth 100000
set_option linter.unusedVariables false
set_option linter.unusedSimpArgs false
open Go.RowKit

def wsV (A : Option Addr) (n c : Nat) (s : Sg) (a : Int) : Value := .agg #[.slice A n c, .int .i64 s.pl, .int .i64 s.st, .int .i64 s.nx, .int .i64 s.ph, .int .i64 s.t, .int .i64 s.hd, .int .i64 s.hl, .int .i64 s.ak, .int .i64 s.wt, .bool s.sp, .int .i64 a]
/-- a block that holds one -/
def BoxW (w : World) (b : Nat) (A : Option Addr) (n c : Nat) (s : Sg) (a : Int) : Prop := w.heap[b]? = some (.cells #[.slice A n c, .int .i64 s.pl, .int .i64 s.st, .int .i64 s.nx, .int .i64 s.ph, .int .i64 s.t, .int .i64 s.hd, .int .i64 s.hl, .int .i64 s.ak, .int .i64 s.wt, .bool s.sp, .int .i64 a] 62 (0, 0))
structure CellsW (w : World) (b : Nat) (A : Option Addr) (n c : Nat) (s : Sg) (a : Int) : Prop where
  m : w.cell? ⟨b, 0, none⟩ = some (.slice A n c)
  c0 : w.cell? ⟨b, 1, none⟩ = some (.int .i64 s.pl)
  c1 : w.cell? ⟨b, 2, none⟩ = some (.int .i64 s.st)
  c2 : w.cell? ⟨b, 3, none⟩ = some (.int .i64 s.nx)
  c3 : w.cell? ⟨b, 4, none⟩ = some (.int .i64 s.ph)
  c4 : w.cell? ⟨b, 5, none⟩ = some (.int .i64 s.t)
  c5 : w.cell? ⟨b, 6, none⟩ = some (.int .i64 s.hd)
  c6 : w.cell? ⟨b, 7, none⟩ = some (.int .i64 s.hl)
  c7 : w.cell? ⟨b, 8, none⟩ = some (.int .i64 s.ak)
  c8 : w.cell? ⟨b, 9, none⟩ = some (.int .i64 s.wt)
  c9 : w.cell? ⟨b, 10, none⟩ = some (.bool s.sp)
  ca : w.cell? ⟨b, 11, none⟩ = some (.int .i64 a)
section
variable {w w' : World} {b n c : Nat} {A : Option Addr} {s : Sg} {a : Int}
theorem BoxW.new (w : World) (A : Option Addr) (n c : Nat) (s : Sg) (a : Int) : BoxW (w.alloc (.cells #[.slice A n c, .int .i64 s.pl, .int .i64 s.st, .int .i64 s.nx, .int .i64 s.ph, .int .i64 s.t, .int .i64 s.hd, .int .i64 s.hl, .int .i64 s.ak, .int .i64 s.wt, .bool s.sp, .int .i64 a] 62)) w.heap.size A n c s a := heap_alloc_new w _
theorem BoxW.lt (h : BoxW w b A n c s a) : b < w.heap.size := (Array.getElem?_eq_some_iff.1 h).1
theorem BoxW.below (h : BoxW w b A n c s a) (hb : Below w.heap.size w w') : BoxW w' b A n c s a := (hb.block b h.lt).trans h
theorem BoxW.cells (h : BoxW w b A n c s a) : CellsW w b A n c s a :=
  ⟨(cell_of_row _ _ _ _ _ _ h).trans rfl, (cell_of_row _ _ _ _ _ _ h).trans rfl, (cell_of_row _ _ _ _ _ _ h).trans rfl, (cell_of_row _ _ _ _ _ _ h).trans rfl, (cell_of_row _ _ _ _ _ _ h).trans rfl, (cell_of_row _ _ _ _ _ _ h).trans rfl, (cell_of_row _ _ _ _ _ _ h).trans rfl, (cell_of_row _ _ _ _ _ _ h).trans rfl, (cell_of_row _ _ _ _ _ _ h).trans rfl, (cell_of_row _ _ _ _ _ _ h).trans rfl, (cell_of_row _ _ _ _ _ _ h).trans rfl, (cell_of_row _ _ _ _ _ _ h).trans rfl⟩
end
/-- why a wish is not done, on its way to who recovers it -/
def whyV (k : Int) : PanicEntry := { v := .iface 59 (.int .i64 k), recovered := false }
/-- gives a machine, or panics with the number of an error -/
def GivesWs (r : Sg × Int) (X : World) : Ending → World → Prop := fun e w' => ((r.2 = 0 ∧ e = .returned (sgV r.1)) ∨ (r.2 ≠ 0 ∧ e = .panicked [whyV r.2])) ∧ Below X.heap.size X w'
theorem GivesWs.ok {r : Sg × Int} {X w' : World} {g : Sg} (h : r = (g, 0)) (hb : Below X.heap.size X w') : GivesWs r X (.returned (sgV g)) w' := by subst h; exact ⟨.inl ⟨rfl, rfl⟩, hb⟩
theorem GivesWs.no {r : Sg × Int} {X w' : World} {g : Sg} {k : Int} (h : r = (g, k)) (hk : k ≠ 0) (hb : Below X.heap.size X w') : GivesWs r X (.panicked [whyV k]) w' := by subst h; exact ⟨.inr ⟨hk, rfl⟩, hb⟩
theorem unless_yes (k : Int) (w : World) : Calls Try.prog 49 #[.int .i64 k, .bool true] w fun e w' => e = .returned (.tuple #[]) ∧ w = w' := by
  go_enter Try.func49, Try.ntmps49
  go_wp2
  go_end0
  exact ⟨rfl, rfl⟩
theorem unless_no (k : Int) (w : World) : Calls Try.prog 49 #[.int .i64 k, .bool false] w fun e w' => e = .panicked [whyV k] ∧ w = w' := by
  go_enter Try.func49, Try.ntmps49
  go_wp2
  exact ⟨rfl, rfl, rfl⟩
theorem splace_any (x y : Int) (w : World) : Calls Try.prog 52 #[.int .i64 x, .int .i64 y] w fun e w' => e = .returned (.bool (placeB x y)) ∧ w = w' := by
  have HR := Lib.hid (show placeB x y = (decide (0 ≤ x) && decide (x < y)) from rfl)
  by_cases h0 : 0 ≤ x
  · rw [decide_eq_true h0, Bool.true_and] at HR
    go_enter Try.func52, Try.ntmps52
    go_wp2
    go_ret
    exact ⟨by rw [HR.out]; rfl, rfl⟩
  · rw [decide_eq_false h0, Bool.false_and] at HR
    go_enter Try.func52, Try.ntmps52
    go_wp2
    go_ret
    exact ⟨by rw [HR.out]; rfl, rfl⟩
set_option maxHeartbeats 4000000 in
theorem running_any (A : Option Addr) (n c : Nat) (s : Sg) (a : Int) (w : World) : Calls Try.prog 50 #[wsV A n c s a] w fun e w' => e = .returned (.bool (decide (freeG s))) ∧ Below w.heap.size w w' := by
  have HR := Lib.hid (show decide (freeG s) = (decide (s.ph = 0) && !s.sp) from by rw [Bool.eq_iff_iff, decide_eq_true_iff]; unfold freeG; simp)
  unfold wsV
  obtain ⟨R, hR⟩ : ∃ R, decide (freeG s) = R := ⟨_, rfl⟩
  rw [hR] at HR ⊢
  clear hR
  obtain ⟨pl, st, nx, ph, t, hd, hh, ak, wt, sp⟩ := s
  simp only at *
  by_cases h0 : ph = 0
  · rw [decide_eq_true h0, Bool.true_and] at HR
    subst h0
    cases sp <;>
      go_enter Try.func50, Try.ntmps50 <;> go_wp2 <;> go_ret <;>
      exact ⟨by rw [HR.out]; rfl, one_alloc w _⟩
  · rw [decide_eq_false h0, Bool.false_and] at HR
    have b0 : (ph == 0) = false := by simpa using h0
    go_enter Try.func50, Try.ntmps50
    go_wp2
    go_ret
    exact ⟨by rw [HR.out]; rfl, one_alloc w _⟩
set_option maxHeartbeats 4000000 in
theorem sown_plan (A : Option Addr) (n c : Nat) (l : List Pl) (s : Sg) (a : Int) (w : World) (hl : Pls w A n c l) (h0 : 0 ≤ s.pl) (h1 : s.pl < n) : Calls Try.prog 51 #[wsV A n c s a] w fun e w' => e = .returned (plV (planAt l s.pl)) ∧ Below w.heap.size w w' := by
  obtain ⟨j, hj⟩ := Int.eq_ofNat_of_zero_le h0
  have hjn : j < n := by omega
  obtain ⟨b, off, q, rfl, hq, hmem, -, -, -⟩ := hl.at_ j hjn
  have hqa : planAt l s.pl = q := by rw [hj, planAt, Int.toNat_natCast, hq]
  have HPC := Lib.hid (show ∀ X, Below w.heap.size w X → X.cell? ⟨b, off + j * 5, none⟩ = some (.slice q.A q.n q.c) ∧ X.cell? ⟨b, off + j * 5 + 1, none⟩ = some (.slice q.B q.k q.d) ∧ X.cell? ⟨b, off + j * 5 + 2, none⟩ = some (.int .i64 q.am) ∧ X.cell? ⟨b, off + j * 5 + 3, none⟩ = some (.int .i64 q.rd) ∧ X.cell? ⟨b, off + j * 5 + 4, none⟩ = some (.int .i64 q.hd) from fun X hX => by
    obtain ⟨b2, off2, p2, hA2, hp2, -, -, -, z0, z1, z2, z3, z4⟩ := (hl.below hX).at_ j hjn
    cases hA2
    obtain rfl := hq.symm.trans hp2
    exact ⟨z0, z1, z2, z3, z4⟩)
  have hj0 : 0 ≤ (j : Int) := by omega
  have hjn' : (j : Int) < n := by omega
  rw [hqa]
  unfold wsV plV
  clear hl hq hmem hqa h0 h1
  obtain ⟨pl, st, nx, ph, t, hd, hh, ak, wt, sp⟩ := s
  simp only at *
  subst hj
  obtain ⟨z0, z1, z2, z3, z4⟩ := HPC.out _ (below_alloc2 w (.cells #[.slice (some ⟨b, off, none⟩) n c, .int .i64 (j : Int), .int .i64 st, .int .i64 nx, .int .i64 ph, .int .i64 t, .int .i64 hd, .int .i64 hh, .int .i64 ak, .int .i64 wt, .bool sp, .int .i64 a] 62) (.cells #[.slice none 0 0, .slice none 0 0, .int .i64 0, .int .i64 0, .int .i64 0] 47))
  go_enter Try.func51, Try.ntmps51
  go_wp2
  refine bodyPost_ret (v := .agg #[.slice q.A q.n q.c, .slice q.B q.k q.d, .int .i64 q.am, .int .i64 q.rd, .int .i64 q.hd]) ?_ rfl ⟨rfl, below_alloc2 _ _ _⟩
  exact results_cell_row Try.results51 _ _ (w.heap.size + 1) 47 #[.slice q.A q.n q.c, .slice q.B q.k q.d, .int .i64 q.am, .int .i64 q.rd, .int .i64 q.hd] (0, 0) _ rfl (alloc2_new _ _ _) Try.underlying47 rfl info_plan
set_option maxHeartbeats 4000000 in
theorem wfree_any (A : Option Addr) (n c : Nat) (l : List Pl) (s : Sg) (a : Int) (w : World) : Calls Try.prog 31 #[wsV A n c s a] w (GivesWs (askS l s 2 a) w) := by
  unfold wsV
  by_cases h0 : a = 0
  · subst h0
    have b0 : ((0 : Int) == 0) = true := rfl
    by_cases h1 : s.hd = 0
    · have HE := Lib.hid (show askS l s 2 0 = (s, 11) from by rw [show askS l s 2 0 = bareS s 2 0 from rfl, bareS, if_neg (by decide), if_pos rfl, if_pos h1])
      obtain ⟨pl, st, nx, ph, t, hd, hh, ak, wt, sp⟩ := s
      simp only at *
      subst h1
      go_enter Try.func31, Try.ntmps31
      go_wp2_with (first
        | (go_at_call 49; (with_reducible refine (unless_yes 1 _).mono ?_); rintro e wq ⟨rfl, rfl⟩)
        | (go_at_call 49; (with_reducible refine (unless_no 11 _).mono ?_); rintro e wq ⟨rfl, rfl⟩))
      exact ⟨rfl, GivesWs.no HE.out (by decide) (below_alloc2 _ _ _)⟩
    · have HE := Lib.hid (show askS l s 2 0 = ({ s with hd := 0 }, 0) from by rw [show askS l s 2 0 = bareS s 2 0 from rfl, bareS, if_neg (by decide), if_pos rfl, if_neg h1])
      obtain ⟨pl, st, nx, ph, t, hd, hh, ak, wt, sp⟩ := s
      simp only at *
      have b1 : (hd != 0) = true := by rw [bne_iff_ne]; exact h1
      go_enter Try.func31, Try.ntmps31
      go_wp2_with (first
        | (go_at_call 49; (with_reducible refine (unless_yes 1 _).mono ?_); rintro e wq ⟨rfl, rfl⟩)
        | (go_at_call 49; (with_reducible refine (unless_yes 11 _).mono ?_); rintro e wq ⟨rfl, rfl⟩))
      refine bodyPost_ret (v := .agg #[.int .i64 pl, .int .i64 st, .int .i64 nx, .int .i64 ph, .int .i64 t, .int .i64 0, .int .i64 hh, .int .i64 ak, .int .i64 wt, .bool sp]) ?_ rfl (GivesWs.ok (g := ⟨pl, st, nx, ph, t, 0, hh, ak, wt, sp⟩) HE.out (below_alloc2 _ _ _))
      exact results_cell_row Try.results31 _ _ (w.heap.size + 1) 24 #[.int .i64 pl, .int .i64 st, .int .i64 nx, .int .i64 ph, .int .i64 t, .int .i64 0, .int .i64 hh, .int .i64 ak, .int .i64 wt, .bool sp] (0, 0) _ rfl (alloc2_new _ _ _) Try.underlying24 rfl info_sig
  · have HE := Lib.hid (show askS l s 2 a = (s, 1) from by rw [show askS l s 2 a = bareS s 2 a from rfl, bareS, if_pos h0])
    have b0 : (a == 0) = false := by simpa using h0
    obtain ⟨pl, st, nx, ph, t, hd, hh, ak, wt, sp⟩ := s
    simp only at *
    go_enter Try.func31, Try.ntmps31
    go_wp2_with (first
      | (go_at_call 49; (with_reducible refine (unless_no 1 _).mono ?_); rintro e wq ⟨rfl, rfl⟩))
    exact ⟨rfl, GivesWs.no HE.out (by decide) (below_alloc2 _ _ _)⟩
set_option maxHeartbeats 4000000 in
theorem wred_any (A : Option Addr) (n c : Nat) (l : List Pl) (s : Sg) (a : Int) (w : World) : Calls Try.prog 34 #[wsV A n c s a] w (GivesWs (askS l s 5 a) w) := by
  unfold wsV
  by_cases h0 : a = 0
  · subst h0
    have b0 : ((0 : Int) == 0) = true := rfl
    have HE := Lib.hid (show askS l s 5 0 = ({ s with sp := true, hd := 0 }, 0) from rfl)
    obtain ⟨pl, st, nx, ph, t, hd, hh, ak, wt, sp⟩ := s
    simp only at *
    go_enter Try.func34, Try.ntmps34
    go_wp2_with (first
      | (go_at_call 49; (with_reducible refine (unless_yes 1 _).mono ?_); rintro e wq ⟨rfl, rfl⟩))
    refine bodyPost_ret (v := .agg #[.int .i64 pl, .int .i64 st, .int .i64 nx, .int .i64 ph, .int .i64 t, .int .i64 0, .int .i64 hh, .int .i64 ak, .int .i64 wt, .bool true]) ?_ rfl (GivesWs.ok (g := ⟨pl, st, nx, ph, t, 0, hh, ak, wt, true⟩) HE.out (below_alloc2 _ _ _))
    exact results_cell_row Try.results34 _ _ (w.heap.size + 1) 24 #[.int .i64 pl, .int .i64 st, .int .i64 nx, .int .i64 ph, .int .i64 t, .int .i64 0, .int .i64 hh, .int .i64 ak, .int .i64 wt, .bool true] (0, 0) _ rfl (alloc2_new _ _ _) Try.underlying24 rfl info_sig
  · have HE := Lib.hid (show askS l s 5 a = (s, 1) from by rw [show askS l s 5 a = bareS s 5 a from rfl, bareS, if_pos h0])
    have b0 : (a == 0) = false := by simpa using h0
    obtain ⟨pl, st, nx, ph, t, hd, hh, ak, wt, sp⟩ := s
    simp only at *
    go_enter Try.func34, Try.ntmps34
    go_wp2_with (first
      | (go_at_call 49; (with_reducible refine (unless_no 1 _).mono ?_); rintro e wq ⟨rfl, rfl⟩))
    exact ⟨rfl, GivesWs.no HE.out (by decide) (below_alloc2 _ _ _)⟩
set_option maxHeartbeats 4000000 in
theorem wclear_any (A : Option Addr) (n c : Nat) (l : List Pl) (s : Sg) (a : Int) (w : World) : Calls Try.prog 35 #[wsV A n c s a] w (GivesWs (askS l s 6 a) w) := by
  unfold wsV
  by_cases h0 : a = 0
  · subst h0
    have b0 : ((0 : Int) == 0) = true := rfl
    have HE0 : askS l s 6 0 = if s.sp = false ∨ s.ph ≠ 2 then (s, 11) else ({ s with sp := false }, 0) := rfl
    by_cases h1 : s.sp = false
    · have HE := Lib.hid (HE0.trans (if_pos (.inl h1)))
      clear HE0
      obtain ⟨pl, st, nx, ph, t, hd, hh, ak, wt, sp⟩ := s
      simp only at *
      subst h1
      go_enter Try.func35, Try.ntmps35
      go_wp2_with (first
        | (go_at_call 49; (with_reducible refine (unless_yes 1 _).mono ?_); rintro e wq ⟨rfl, rfl⟩)
        | (go_at_call 49; (with_reducible refine (unless_no 11 _).mono ?_); rintro e wq ⟨rfl, rfl⟩))
      exact ⟨rfl, GivesWs.no HE.out (by decide) (below_alloc2 _ _ _)⟩
    · by_cases h2 : s.ph = 2
      · have HE := Lib.hid (HE0.trans (if_neg (fun h => h.elim h1 (fun h => h h2))))
        clear HE0
        obtain ⟨pl, st, nx, ph, t, hd, hh, ak, wt, sp⟩ := s
        simp only at *
        obtain rfl : sp = true := by cases sp <;> simp_all
        subst h2
        go_enter Try.func35, Try.ntmps35
        go_wp2_with (first
          | (go_at_call 49; (with_reducible refine (unless_yes 1 _).mono ?_); rintro e wq ⟨rfl, rfl⟩)
          | (go_at_call 49; (with_reducible refine (unless_yes 11 _).mono ?_); rintro e wq ⟨rfl, rfl⟩))
        refine bodyPost_ret (v := .agg #[.int .i64 pl, .int .i64 st, .int .i64 nx, .int .i64 2, .int .i64 t, .int .i64 hd, .int .i64 hh, .int .i64 ak, .int .i64 wt, .bool false]) ?_ rfl (GivesWs.ok (g := ⟨pl, st, nx, 2, t, hd, hh, ak, wt, false⟩) HE.out (below_alloc2 _ _ _))
        exact results_cell_row Try.results35 _ _ (w.heap.size + 1) 24 #[.int .i64 pl, .int .i64 st, .int .i64 nx, .int .i64 2, .int .i64 t, .int .i64 hd, .int .i64 hh, .int .i64 ak, .int .i64 wt, .bool false] (0, 0) _ rfl (alloc2_new _ _ _) Try.underlying24 rfl info_sig
      · have HE := Lib.hid (HE0.trans (if_pos (.inr h2)))
        clear HE0
        obtain ⟨pl, st, nx, ph, t, hd, hh, ak, wt, sp⟩ := s
        simp only at *
        obtain rfl : sp = true := by cases sp <;> simp_all
        have b2 : (ph == 2) = false := by simpa using h2
        go_enter Try.func35, Try.ntmps35
        go_wp2_with (first
          | (go_at_call 49; (with_reducible refine (unless_yes 1 _).mono ?_); rintro e wq ⟨rfl, rfl⟩)
          | (go_at_call 49; (with_reducible refine (unless_no 11 _).mono ?_); rintro e wq ⟨rfl, rfl⟩))
        exact ⟨rfl, GivesWs.no HE.out (by decide) (below_alloc2 _ _ _)⟩
  · have HE := Lib.hid (show askS l s 6 a = (s, 1) from by rw [show askS l s 6 a = bareS s 6 a from rfl, bareS, if_pos h0])
    have b0 : (a == 0) = false := by simpa using h0
    obtain ⟨pl, st, nx, ph, t, hd, hh, ak, wt, sp⟩ := s
    simp only at *
    go_enter Try.func35, Try.ntmps35
    go_wp2_with (first
      | (go_at_call 49; (with_reducible refine (unless_no 1 _).mono ?_); rintro e wq ⟨rfl, rfl⟩))
    exact ⟨rfl, GivesWs.no HE.out (by decide) (below_alloc2 _ _ _)⟩
theorem place_iff0 {x y : Int} : placeB x y = true ↔ 0 ≤ x ∧ x < y := by rw [placeB, Bool.and_eq_true, decide_eq_true_eq, decide_eq_true_eq]
set_option maxHeartbeats 4000000 in
theorem wplan_any (A : Option Addr) (n c : Nat) (l : List Pl) (s : Sg) (a : Int) (w : World) (hl : Pls w A n c l) : Calls Try.prog 33 #[wsV A n c s a] w (GivesWs (askS l s 4 a) w) := by
  have hlen := hl.len
  have hsm := hl.small
  have HE0 : askS l s 4 a = if a < 0 ∨ l.length ≤ a then (s, 1) else if s.sp = true ∨ a = s.pl then (s, 11) else ({ s with wt := a }, 0) := rfl
  unfold wsV
  have HPC := Lib.hid (fun X => splace_any a n X)
  by_cases h0 : a < 0 ∨ l.length ≤ a
  · have HE := Lib.hid (HE0.trans (if_pos h0))
    rw [show placeB a n = false by rw [Bool.eq_false_iff]; intro h; have := place_iff0.1 h; omega] at HPC
    clear HE0 hl
    obtain ⟨pl, st, nx, ph, t, hd, hh, ak, wt, sp⟩ := s
    simp only at *
    go_enter Try.func33, Try.ntmps33
    go_wp2_with (first
      | (go_at_call 52; (with_reducible refine (HPC.out _).mono ?_); rintro e wq ⟨rfl, rfl⟩)
      | (go_at_call 49; (with_reducible refine (unless_no 1 _).mono ?_); rintro e wq ⟨rfl, rfl⟩))
    exact ⟨rfl, GivesWs.no HE.out (by decide) (below_alloc2 _ _ _)⟩
  · rw [if_neg h0] at HE0
    rw [show placeB a n = true from place_iff0.2 (by omega)] at HPC
    clear hl
    by_cases h1 : s.sp = true
    · have HE := Lib.hid (HE0.trans (if_pos (.inl h1)))
      clear HE0
      obtain ⟨pl, st, nx, ph, t, hd, hh, ak, wt, sp⟩ := s
      simp only at *
      subst h1
      go_enter Try.func33, Try.ntmps33
      go_wp2_with (first
        | (go_at_call 52; (with_reducible refine (HPC.out _).mono ?_); rintro e wq ⟨rfl, rfl⟩)
        | (go_at_call 49; (with_reducible refine (unless_yes 1 _).mono ?_); rintro e wq ⟨rfl, rfl⟩)
        | (go_at_call 49; (with_reducible refine (unless_no 11 _).mono ?_); rintro e wq ⟨rfl, rfl⟩))
      exact ⟨rfl, GivesWs.no HE.out (by decide) (below_alloc2 _ _ _)⟩
    · by_cases h2 : a = s.pl
      · have HE := Lib.hid (HE0.trans (if_pos (.inr h2)))
        clear HE0
        obtain ⟨pl, st, nx, ph, t, hd, hh, ak, wt, sp⟩ := s
        simp only at *
        obtain rfl : sp = false := by cases sp <;> simp_all
        subst h2
        have b2 : (a != a) = false := by simp
        go_enter Try.func33, Try.ntmps33
        go_wp2_with (first
          | (go_at_call 52; (with_reducible refine (HPC.out _).mono ?_); rintro e wq ⟨rfl, rfl⟩)
          | (go_at_call 49; (with_reducible refine (unless_yes 1 _).mono ?_); rintro e wq ⟨rfl, rfl⟩)
          | (go_at_call 49; (with_reducible refine (unless_no 11 _).mono ?_); rintro e wq ⟨rfl, rfl⟩))
        exact ⟨rfl, GivesWs.no HE.out (by decide) (below_alloc2 _ _ _)⟩
      · have HE := Lib.hid (HE0.trans (if_neg (fun h => h.elim h1 h2)))
        clear HE0
        obtain ⟨pl, st, nx, ph, t, hd, hh, ak, wt, sp⟩ := s
        simp only at *
        obtain rfl : sp = false := by cases sp <;> simp_all
        have b2 : (a != pl) = true := by rw [bne_iff_ne]; exact h2
        go_enter Try.func33, Try.ntmps33
        go_wp2_with (first
          | (go_at_call 52; (with_reducible refine (HPC.out _).mono ?_); rintro e wq ⟨rfl, rfl⟩)
          | (go_at_call 49; (with_reducible refine (unless_yes 1 _).mono ?_); rintro e wq ⟨rfl, rfl⟩)
          | (go_at_call 49; (with_reducible refine (unless_yes 11 _).mono ?_); rintro e wq ⟨rfl, rfl⟩))
        refine bodyPost_ret (v := .agg #[.int .i64 pl, .int .i64 st, .int .i64 nx, .int .i64 ph, .int .i64 t, .int .i64 hd, .int .i64 hh, .int .i64 ak, .int .i64 a, .bool false]) ?_ rfl (GivesWs.ok (g := ⟨pl, st, nx, ph, t, hd, hh, ak, a, false⟩) HE.out (below_alloc2 _ _ _))
        exact results_cell_row Try.results33 _ _ (w.heap.size + 1) 24 #[.int .i64 pl, .int .i64 st, .int .i64 nx, .int .i64 ph, .int .i64 t, .int .i64 hd, .int .i64 hh, .int .i64 ak, .int .i64 a, .bool false] (0, 0) _ rfl (alloc2_new _ _ _) Try.underlying24 rfl info_sig
end Go.Proofs.Ytgnhmdfajnnkhaa


/- What a machine of package stage tells: its stage, what it shows, what is next. -/
namespace Go.Proofs.Ytgnhmdfajnnkhaa
set_option maxRecDepth 100000
set_option linter.unusedVariables false
set_option linter.unusedSimpArgs false
open Go.RowKit

theorem one_stg (a b c : Int) : (#[.int .i64 a, .int .i64 b, .int .i64 c] : Array Value).all (·.oneCell') = true := all_row (l := [.int .i64 a, .int .i64 b, .int .i64 c]) fun v hv => by
  simp only [List.mem_cons, List.not_mem_nil, or_false] at hv
  rcases hv with rfl | rfl | rfl <;> rfl

theorem beq_dec (a b : Int) : (a == b) = decide (a = b) := by rw [Bool.eq_iff_iff]; simp
theorem own_base {w : World} {b b' : Nat} {v : Value} {l : List Int} (h : OwnI .i64 3 w b v l) (hb : b' ≤ b) : OwnI .i64 3 w b' v l := h.mono hb
set_option maxHeartbeats 8000000 in
theorem stage_own (A : Option Addr) (n c : Nat) (l : List Pl) (s : Sg) (w : World) (hl : Pls w A n c l) (h0 : 0 ≤ s.pl) (h1 : s.pl < n) (s0 : 0 ≤ s.st) (s1 : s.st < (planAt l s.pl).k) : Calls Try.prog 62 #[mcV A n c s] w fun e w' => e = .returned (.agg #[.int .i64 (stgAt (planAt l s.pl) s.st).g, .int .i64 (stgAt (planAt l s.pl) s.st).mn, .int .i64 (stgAt (planAt l s.pl) s.st).mx]) ∧ Below w.heap.size w w' := by
  obtain ⟨W1, hW1⟩ : ∃ W1, w.alloc (.cells #[.slice A n c, .int .i64 s.pl, .int .i64 s.st, .int .i64 s.nx, .int .i64 s.ph, .int .i64 s.t, .int .i64 s.hd, .int .i64 s.hl, .int .i64 s.ak, .int .i64 s.wt, .bool s.sp] 66) = W1 := ⟨_, rfl⟩
  have hB1 : Below w.heap.size w W1 := by rw [← hW1]; exact one_alloc w _
  have hbm : BoxM W1 w.heap.size A n c s := by rw [← hW1]; exact BoxM.new w A n c s
  have hz1 : W1.heap.size = w.heap.size + 1 := by rw [← hW1]; simp
  obtain ⟨W0, hW0⟩ : ∃ W0, W1.alloc (.cells #[.int .i64 0, .int .i64 0, .int .i64 0] 71) = W0 := ⟨_, rfl⟩
  have hB0 : Below W1.heap.size W1 W0 := by rw [← hW0]; exact one_alloc W1 _
  have hr : W0.heap[w.heap.size + 1]? = some (.cells #[.int .i64 0, .int .i64 0, .int .i64 0] 71 (0, 0)) := by rw [← hW0, ← hz1]; exact heap_alloc_new W1 _
  have hlt1 : W1.heap.size ≤ w.heap.size + 1 := by omega
  have HW := Lib.hid (show (w.alloc (.cells #[.slice A n c, .int .i64 s.pl, .int .i64 s.st, .int .i64 s.nx, .int .i64 s.ph, .int .i64 s.t, .int .i64 s.hd, .int .i64 s.hl, .int .i64 s.ak, .int .i64 s.wt, .bool s.sp] 66)).alloc (.cells #[.int .i64 0, .int .i64 0, .int .i64 0] 71) = W0 by rw [hW1, hW0])
  have HB0 := Lib.hid hB0
  clear hz1 hW0 hW1 hB0
  have HB1 := Lib.hid hB1
  have HMC := Lib.hid (show ∀ X, Below W1.heap.size W1 X → X.cell? ⟨w.heap.size, 0, none⟩ = some (.slice A n c) ∧ X.cell? ⟨w.heap.size, 1, none⟩ = some (.int .i64 s.pl) ∧ X.cell? ⟨w.heap.size, 2, none⟩ = some (.int .i64 s.st) ∧ X.cell? ⟨w.heap.size, 3, none⟩ = some (.int .i64 s.nx) ∧ X.cell? ⟨w.heap.size, 4, none⟩ = some (.int .i64 s.ph) ∧ X.cell? ⟨w.heap.size, 5, none⟩ = some (.int .i64 s.t) ∧ X.cell? ⟨w.heap.size, 6, none⟩ = some (.int .i64 s.hd) ∧ X.cell? ⟨w.heap.size, 7, none⟩ = some (.int .i64 s.hl) ∧ X.cell? ⟨w.heap.size, 8, none⟩ = some (.int .i64 s.ak) ∧ X.cell? ⟨w.heap.size, 9, none⟩ = some (.int .i64 s.wt) ∧ X.cell? ⟨w.heap.size, 10, none⟩ = some (.bool s.sp) from fun X hX => by
    obtain ⟨cm, c0, c1, c2, c3, c4, c5, c6, c7, c8, c9⟩ := (hbm.below hX).cells
    exact ⟨cm, c0, c1, c2, c3, c4, c5, c6, c7, c8, c9⟩)
  have HOW := Lib.hid (fun X (hX : Below W1.heap.size W1 X) => own_plan A n c l s X ((hl.below hB1).below hX) h0 h1)
  have HQI := Lib.hid (show ∀ X, Below W1.heap.size W1 X → PlIn X (planAt l s.pl) from fun X hX => plan_lies ((hl.below hB1).below hX) h0 h1)
  obtain ⟨bs, os, x, hqb, hx, -, -, -, -, -⟩ := (HQI.out W1 (Below.refl _ _)).s.at_ s.st.toNat (by omega)
  have HXC := Lib.hid (show ∀ X, Below W1.heap.size W1 X → X.cell? ⟨bs, os + s.st.toNat * 3, none⟩ = some (.int .i64 x.g) ∧ X.cell? ⟨bs, os + s.st.toNat * 3 + 1, none⟩ = some (.int .i64 x.mn) ∧ X.cell? ⟨bs, os + s.st.toNat * 3 + 2, none⟩ = some (.int .i64 x.mx) from fun X hX => by
    obtain ⟨b2, o2, x2, hb2, hx2, -, -, z0, z1, z2⟩ := (HQI.out X hX).s.at_ s.st.toNat (by omega)
    obtain rfl := hx.symm.trans hx2
    rw [hqb] at hb2
    cases hb2
    exact ⟨z0, z1, z2⟩)
  have hxs : stgAt (planAt l s.pl) s.st = x := hx
  have hst : (s.st.toNat : Int) = s.st := Int.toNat_of_nonneg s0
  have hstk : s.st.toNat < (planAt l s.pl).k := by omega
  have hqk := (HQI.out W1 (Below.refl _ _)).s.small
  unfold mcV at HOW ⊢
  clear hbm hB1 hl
  rw [hxs]
  clear hxs hx
  obtain ⟨q, hq⟩ : ∃ q, planAt l s.pl = q := ⟨_, rfl⟩
  rw [hq] at HOW HQI hqb hstk hqk s1
  clear hq
  unfold plV at HOW
  obtain ⟨pl, st, nx, ph, t, hd, hh, ak, wt, sp⟩ := s
  obtain ⟨A', n', c', m, B, k, d, sl, am, rd, hd'⟩ := q
  simp only at *
  subst hqb
  go_enter Try.func62, Try.ntmps62
  go_wp2
  rw [HW.out]
  have hSd : Below W1.heap.size W1 W0.drew := HB0.out.drew
  refine wp_region_held_drew (S := fun X => Below W1.heap.size W1 X) (by kernel_rfl) hSd (fun hHeld => ?_)
  obtain ⟨y0, hY0⟩ : ∃ Y, W0.drew = Y := ⟨_, rfl⟩
  have hr0 := (show W0.drew.heap[w.heap.size + 1]? = _ from hr)
  rw [hY0] at hr0
  rw [hY0] at hSd hHeld ⊢
  clear hY0
  refine tkS 0 (.agg #[.slice A n c, .int .i64 pl, .int .i64 st, .int .i64 nx, .int .i64 ph, .int .i64 t, .int .i64 hd, .int .i64 hh, .int .i64 ak, .int .i64 wt, .bool sp]) hHeld (fun w hq => ?_) ?_
  · obtain ⟨cm, c0, c1, c2, c3, c4, c5, c6, c7, c8, c9⟩ := HMC.out w hq; obtain ⟨z0, z1, z2⟩ := HXC.out w hq
    go_simp
  simp only [PT]
  refine tk 3 (.pointer (some ⟨w.heap.size, 1, none⟩)) hHeld (fun w => ?_) ?_
  · go_simp
  simp only [PT]
  refine tk 4 (.pointer (some ⟨w.heap.size, 2, none⟩)) hHeld (fun w => ?_) ?_
  · go_simp
  simp only [PT]
  refine tkS 5 (.int .i64 st) hHeld (fun w hq => ?_) ?_
  · obtain ⟨cm, c0, c1, c2, c3, c4, c5, c6, c7, c8, c9⟩ := HMC.out w hq; obtain ⟨z0, z1, z2⟩ := HXC.out w hq
    go_simp
  simp only [PT]
  refine one_step 1 (by kernel_rfl) rfl (fun Kq hKq => ?_)
  go_simp
  go_at_call 58
  (with_reducible refine (HOW.out _ hSd).mono ?_)
  rintro e y1 ⟨rfl, hbx⟩
  try simp only [plV]
  have hS1 : Below W1.heap.size W1 y1 := hSd.trans (hbx.mono hSd.size)
  have hr1 := (hbx.block (w.heap.size + 1) (Array.getElem?_eq_some_iff.1 hr0).1).trans hr0
  clear hbx
  refine hKq.out _ _ hS1 (fun hHeld0 => ?_)
  clear hKq Kq hHeld
  have hHeld := hHeld0
  clear hHeld0
  try simp only [PT]
  refine tk 2 (.slice (some ⟨bs, os, none⟩) k d) hHeld (fun w => ?_) ?_
  · (go_simp; try rfl)
  simp only [PT]
  refine tk 6 (.pointer (some ⟨bs, os + st.toNat * 3, none⟩)) hHeld (fun w => ?_) ?_
  · go_simp
  simp only [PT]
  refine tkS 7 (.agg #[.int .i64 x.g, .int .i64 x.mn, .int .i64 x.mx]) hHeld (fun w hq => ?_) ?_
  · obtain ⟨cm, c0, c1, c2, c3, c4, c5, c6, c7, c8, c9⟩ := HMC.out w hq; obtain ⟨z0, z1, z2⟩ := HXC.out w hq
    go_simp
  simp only [PT]
  refine one_step 8 (by kernel_rfl) rfl (fun Kq hKq => ?_)
  refine step_store_part 71 _ _ rfl (w.heap.size + 1) 0 (.agg #[.int .i64 x.g, .int .i64 x.mn, .int .i64 x.mx]) #[.int .i64 x.g, .int .i64 x.mn, .int .i64 x.mx] rfl rfl rfl 71 #[.int .i64 0, .int .i64 0, .int .i64 0] #[.int .i64 x.g, .int .i64 x.mn, .int .i64 x.mx] hr1 (info_stage) (by simp) (one_stg _ _ _) rfl rfl ?_
  intro y2 hgk hr2 hzk
  have hS2 : Below W1.heap.size W1 y2 := Below.grows hS1 hgk hS1.size hlt1
  clear hgk hzk
  refine hKq.out _ _ hS2 (fun hHeld0 => ?_)
  clear hKq Kq hHeld
  have hHeld := hHeld0
  clear hHeld0
  try simp only [PT]
  refine wpAnyH_done (by kernel_rfl) ?_ _
  clear hHeld
  go_wp2
  refine bodyPost_ret (v := .agg #[.int .i64 x.g, .int .i64 x.mn, .int .i64 x.mx]) ?_ rfl ⟨rfl, HB1.out.trans (hS2.mono HB1.out.size)⟩
  exact results_cell_row Try.results62 _ _ (w.heap.size + 1) 71 #[.int .i64 x.g, .int .i64 x.mn, .int .i64 x.mx] (0, 0) _ rfl hr2 Try.underlying71 rfl info_stage
set_option maxHeartbeats 8000000 in
theorem shown_own (A : Option Addr) (n c : Nat) (l : List Pl) (s : Sg) (w : World) (hl : Pls w A n c l) (h0 : 0 ≤ s.pl) (h1 : s.pl < n) : Calls Try.prog 41 #[mcV A n c s] w (GivesO (showR (planAt l s.pl) s.st s.ph) w) := by
  obtain ⟨W1, hW1⟩ : ∃ W1, w.alloc (.cells #[.slice A n c, .int .i64 s.pl, .int .i64 s.st, .int .i64 s.nx, .int .i64 s.ph, .int .i64 s.t, .int .i64 s.hd, .int .i64 s.hl, .int .i64 s.ak, .int .i64 s.wt, .bool s.sp] 66) = W1 := ⟨_, rfl⟩
  have hB1 : Below w.heap.size w W1 := by rw [← hW1]; exact one_alloc w _
  have hbm : BoxM W1 w.heap.size A n c s := by rw [← hW1]; exact BoxM.new w A n c s
  have HW := Lib.hid hW1
  clear hW1
  have HB1 := Lib.hid hB1
  have HMC := Lib.hid (show ∀ X, Below W1.heap.size W1 X → X.cell? ⟨w.heap.size, 0, none⟩ = some (.slice A n c) ∧ X.cell? ⟨w.heap.size, 1, none⟩ = some (.int .i64 s.pl) ∧ X.cell? ⟨w.heap.size, 2, none⟩ = some (.int .i64 s.st) ∧ X.cell? ⟨w.heap.size, 3, none⟩ = some (.int .i64 s.nx) ∧ X.cell? ⟨w.heap.size, 4, none⟩ = some (.int .i64 s.ph) ∧ X.cell? ⟨w.heap.size, 5, none⟩ = some (.int .i64 s.t) ∧ X.cell? ⟨w.heap.size, 6, none⟩ = some (.int .i64 s.hd) ∧ X.cell? ⟨w.heap.size, 7, none⟩ = some (.int .i64 s.hl) ∧ X.cell? ⟨w.heap.size, 8, none⟩ = some (.int .i64 s.ak) ∧ X.cell? ⟨w.heap.size, 9, none⟩ = some (.int .i64 s.wt) ∧ X.cell? ⟨w.heap.size, 10, none⟩ = some (.bool s.sp) from fun X hX => by
    obtain ⟨cm, c0, c1, c2, c3, c4, c5, c6, c7, c8, c9⟩ := (hbm.below hX).cells
    exact ⟨cm, c0, c1, c2, c3, c4, c5, c6, c7, c8, c9⟩)
  have HOW := Lib.hid (fun X (hX : Below W1.heap.size W1 X) => own_plan A n c l s X ((hl.below hB1).below hX) h0 h1)
  have HQI := Lib.hid (show ∀ X, Below W1.heap.size W1 X → PlIn X (planAt l s.pl) from fun X hX => plan_lies ((hl.below hB1).below hX) h0 h1)
  have HSH := Lib.hid (fun X (hX : Below W1.heap.size W1 X) => lshowp_own (planAt l s.pl) s.st s.ph X (HQI.out X hX))
  unfold mcV at HOW ⊢
  clear hbm hB1 hl
  obtain ⟨q, hq⟩ : ∃ q, planAt l s.pl = q := ⟨_, rfl⟩
  rw [hq] at HOW HQI HSH ⊢
  clear hq
  unfold plV at HOW HSH
  obtain ⟨R, hR⟩ : ∃ R, showR q s.st s.ph = R := ⟨_, rfl⟩
  rw [hR] at HSH ⊢
  clear hR
  obtain ⟨pl, st, nx, ph, t, hd, hh, ak, wt, sp⟩ := s
  obtain ⟨A', n', c', m, B, k, d, sl, am, rd, hd'⟩ := q
  simp only at *
  go_enter Try.func41, Try.ntmps41
  go_wp2
  rw [HW.out]
  have hSd : Below W1.heap.size W1 W1.drew := (Below.refl _ W1).drew
  refine wp_region_held_drew (S := fun X => Below W1.heap.size W1 X) (by kernel_rfl) hSd (fun hHeld => ?_)
  obtain ⟨y0, hY0⟩ : ∃ Y, W1.drew = Y := ⟨_, rfl⟩
  rw [hY0] at hSd hHeld ⊢
  clear hY0
  refine tkS 0 (.agg #[.slice A n c, .int .i64 pl, .int .i64 st, .int .i64 nx, .int .i64 ph, .int .i64 t, .int .i64 hd, .int .i64 hh, .int .i64 ak, .int .i64 wt, .bool sp]) hHeld (fun w hq => ?_) ?_
  · obtain ⟨cm, c0, c1, c2, c3, c4, c5, c6, c7, c8, c9⟩ := HMC.out w hq
    go_simp
  simp only [PT]
  refine tk 2 (.pointer (some ⟨w.heap.size, 1, none⟩)) hHeld (fun w => ?_) ?_
  · go_simp
  simp only [PT]
  refine tk 3 (.pointer (some ⟨w.heap.size, 2, none⟩)) hHeld (fun w => ?_) ?_
  · go_simp
  simp only [PT]
  refine tkS 4 (.int .i64 st) hHeld (fun w hq => ?_) ?_
  · obtain ⟨cm, c0, c1, c2, c3, c4, c5, c6, c7, c8, c9⟩ := HMC.out w hq
    go_simp
  simp only [PT]
  refine tk 5 (.pointer (some ⟨w.heap.size, 1, none⟩)) hHeld (fun w => ?_) ?_
  · go_simp
  simp only [PT]
  refine tk 6 (.pointer (some ⟨w.heap.size, 4, none⟩)) hHeld (fun w => ?_) ?_
  · go_simp
  simp only [PT]
  refine tkS 7 (.int .i64 ph) hHeld (fun w hq => ?_) ?_
  · obtain ⟨cm, c0, c1, c2, c3, c4, c5, c6, c7, c8, c9⟩ := HMC.out w hq
    go_simp
  simp only [PT]
  refine one_step 1 (by kernel_rfl) rfl (fun Kq hKq => ?_)
  go_simp
  go_at_call 58
  (with_reducible refine (HOW.out _ hSd).mono ?_)
  rintro e y1 ⟨rfl, hbx⟩
  try simp only [plV]
  have hS1 : Below W1.heap.size W1 y1 := hSd.trans (hbx.mono hSd.size)
  clear hbx
  refine hKq.out _ _ hS1 (fun hHeld0 => ?_)
  clear hKq Kq hHeld
  have hHeld := hHeld0
  clear hHeld0
  try simp only [PT]
  refine one_step 8 (by kernel_rfl) rfl (fun Kq hKq => ?_)
  go_simp
  go_at_call 57
  (with_reducible refine (HSH.out _ hS1).mono ?_)
  rintro e y2 ⟨A1, n1, c1, rfl, ho1, hbx⟩
  have hS2 : Below W1.heap.size W1 y2 := hS1.trans (hbx.mono hS1.size)
  clear hbx
  refine hKq.out _ _ hS2 (fun hHeld0 => ?_)
  clear hKq Kq hHeld
  have hHeld := hHeld0
  clear hHeld0
  try simp only [PT]
  refine tk 9 (.slice A1 n1 c1) hHeld (fun w => ?_) ?_
  · go_simp
  simp only [PT]
  refine wpAnyH_done (by kernel_rfl) ?_ _
  clear hHeld
  go_wp2
  go_ret
  exact ⟨A1, n1, c1, rfl, own_base ho1 (Nat.le_trans HB1.out.size hS1.size), HB1.out.trans (hS2.mono HB1.out.size)⟩
set_option maxHeartbeats 8000000 in
theorem idle_any (A : Option Addr) (n c : Nat) (s : Sg) (w : World) : Calls Try.prog 63 #[mcV A n c s] w fun e w' => e = .returned (.bool (decide (s.hd = 0) && (decide (s.hl = 0) && decide (s.ak = -1)))) ∧ Below w.heap.size w w' := by
  have HB := one_alloc w (.cells #[.slice A n c, .int .i64 s.pl, .int .i64 s.st, .int .i64 s.nx, .int .i64 s.ph, .int .i64 s.t, .int .i64 s.hd, .int .i64 s.hl, .int .i64 s.ak, .int .i64 s.wt, .bool s.sp] 66)
  unfold mcV
  obtain ⟨pl, st, nx, ph, t, hd, hh, ak, wt, sp⟩ := s
  simp only at *
  by_cases g0 : hd = 0
  · have G0 := Lib.hid g0
    have b0 : (hd == 0) = true := by rw [g0]; rfl
    clear g0
    by_cases g1 : hh = 0
    · have G1 := Lib.hid g1
      have b1 : (hh == 0) = true := by rw [g1]; rfl
      clear g1
      go_enter Try.func63, Try.ntmps63
      go_wp2
      go_ret
      exact ⟨by rw [decide_eq_true G0.out, decide_eq_true G1.out, ← beq_dec]; rfl, HB⟩
    · have G1 := Lib.hid g1
      have b1 : (hh == 0) = false := by rw [beq_eq_false_iff_ne]; exact g1
      clear g1
      go_enter Try.func63, Try.ntmps63
      go_wp2
      go_ret
      exact ⟨by rw [decide_eq_true G0.out, decide_eq_false G1.out]; rfl, HB⟩
  · have G0 := Lib.hid g0
    have b0 : (hd == 0) = false := by rw [beq_eq_false_iff_ne]; exact g0
    clear g0
    go_enter Try.func63, Try.ntmps63
    go_wp2
    go_ret
    exact ⟨by rw [decide_eq_false G0.out]; rfl, HB⟩
end Go.Proofs.Ytgnhmdfajnnkhaa

