/- Joined texts: The walk over the document's May of entries. The walk over the document's Put of entries. The walks over package sha's rounds: a number turned, a round, a block's numbers, a register rounded by a block, and by all blocks. The walk over package sha's spread: the 64 numbers of a block. Arrays of numbers that lie in a block of their own; slices of bytes; small facts on both. The walks over package sha's rounded (a register, rounded by a block) and roundedBy (by all whole blocks). The walks over the plain answers' turned, constant and numbers. The walk over the plain answers' numbers: the 64 numbers of a block, appended one by one. The walk over the plain answers' numbers. -/
import Derived.Test.YtafmompplcaadaaGreatDoorAuJD
import Derived.Test.YtafmompplcaadaaGreatDoorRows
import Derived.WalkKit
import Derived.WalkSpells
import Derived.WalkLawsBesides
import Derived.Deep.QuietTactic
import Derived.BigQuiet
import Derived.StillTailTactics
import Derived.Lib.Hide
import Derived.Laws.CopyOwn
import Derived.Test.YtafmompplcaadaaGreatDoorAuJA
import Derived.OwnWalk
import Derived.Deep.RegionHeld3
import Derived.Deep.AppendLies
import Derived.Deep.RegionLaw
/- The walk over the document's May of entries. -/
namespace Go.Proofs.YtafmompplcaadaaGreatDoor
set_option linter.unusedVariables false
set_option linter.unusedSimpArgs false
open Go.RowKit

set_option maxHeartbeats 4000000 in
theorem ermay_any (u : En) (w : World) : Calls Tryz.prog 24 #[enV u] w (GBe (mayE u) w) := by
  have hh := hasE u
  unfold enV
  obtain ⟨C, hC⟩ : ∃ C, C = enA u := ⟨_, rfl⟩
  rw [← hC] at hh ⊢
  obtain ⟨d0, d1, d2, d3, d4, d5, d6, d7, d8⟩ := hh
  rcases u with ⟨kind, tick, epoch, user, sess, count, cmd, arg, code⟩
  simp only at *
  clear hC
  have hr : mayE ⟨kind, tick, epoch, user, sess, count, cmd, arg, code⟩ = (decide (0 ≤ kind) && (decide (kind < 5) && (decide (0 ≤ tick) && (decide (tick ≤ 1073741824) && (decide (0 ≤ epoch) && (decide (epoch ≤ 1073741824) && (decide (0 ≤ user) && (decide (user ≤ 255) && (decide (0 ≤ cmd) && (decide (cmd ≤ 255) && (decide (0 ≤ arg) && (decide (arg ≤ 65535) && (decide (0 ≤ code) && decide (code ≤ 12)))))))))))))) := by
    rw [Bool.eq_iff_iff, may_iff]
    simp only [Bool.and_eq_true, decide_eq_true_eq]
    exact ⟨fun ⟨⟨a, b⟩, ⟨c, d⟩, ⟨e, f⟩, ⟨g, h⟩, ⟨i, j⟩, ⟨k, l⟩, m, n⟩ => ⟨a, b, e, f, g, h, i, j, k, l, m, n, c, d⟩, fun ⟨a, b, e, f, g, h, i, j, k, l, m, n, c, d⟩ => ⟨⟨a, b⟩, ⟨c, d⟩, ⟨e, f⟩, ⟨g, h⟩, ⟨i, j⟩, ⟨k, l⟩, m, n⟩⟩
  obtain ⟨M, hM⟩ : ∃ M, mayE ⟨kind, tick, epoch, user, sess, count, cmd, arg, code⟩ = M := ⟨_, rfl⟩
  rw [hM] at hr ⊢
  clear hM
  have hb := one_alloc w (.cells C 33)
  have HB := Lib.hid hb
  clear hb
  obtain ⟨p0, hp0⟩ : ∃ b, decide (0 ≤ kind) = b := ⟨_, rfl⟩
  obtain ⟨p1, hp1⟩ : ∃ b, decide (kind < 5) = b := ⟨_, rfl⟩
  obtain ⟨p2, hp2⟩ : ∃ b, decide (0 ≤ tick) = b := ⟨_, rfl⟩
  obtain ⟨p3, hp3⟩ : ∃ b, decide (tick ≤ 1073741824) = b := ⟨_, rfl⟩
  obtain ⟨p4, hp4⟩ : ∃ b, decide (0 ≤ epoch) = b := ⟨_, rfl⟩
  obtain ⟨p5, hp5⟩ : ∃ b, decide (epoch ≤ 1073741824) = b := ⟨_, rfl⟩
  obtain ⟨p6, hp6⟩ : ∃ b, decide (0 ≤ user) = b := ⟨_, rfl⟩
  obtain ⟨p7, hp7⟩ : ∃ b, decide (user ≤ 255) = b := ⟨_, rfl⟩
  obtain ⟨p8, hp8⟩ : ∃ b, decide (0 ≤ cmd) = b := ⟨_, rfl⟩
  obtain ⟨p9, hp9⟩ : ∃ b, decide (cmd ≤ 255) = b := ⟨_, rfl⟩
  obtain ⟨pa, hpa⟩ : ∃ b, decide (0 ≤ arg) = b := ⟨_, rfl⟩
  obtain ⟨pb, hpb⟩ : ∃ b, decide (arg ≤ 65535) = b := ⟨_, rfl⟩
  obtain ⟨pc, hpc⟩ : ∃ b, decide (0 ≤ code) = b := ⟨_, rfl⟩
  obtain ⟨pd, hpd⟩ : ∃ b, decide (code ≤ 12) = b := ⟨_, rfl⟩
  have ep0 : decide (kind < 0) = !p0 := by rw [← hp0, Bool.eq_iff_iff]; simp
  have ep1 : decide (5 ≤ kind) = !p1 := by rw [← hp1, Bool.eq_iff_iff]; simp
  have ep2 : decide (tick < 0) = !p2 := by rw [← hp2, Bool.eq_iff_iff]; simp
  have ep3 : decide (1073741824 < tick) = !p3 := by rw [← hp3, Bool.eq_iff_iff]; simp
  have ep4 : decide (epoch < 0) = !p4 := by rw [← hp4, Bool.eq_iff_iff]; simp
  have ep5 : decide (1073741824 < epoch) = !p5 := by rw [← hp5, Bool.eq_iff_iff]; simp
  rw [hp0, hp1, hp2, hp3, hp4, hp5, hp6, hp7, hp8, hp9, hpa, hpb, hpc, hpd] at hr
  clear hp0 hp1 hp2 hp3 hp4 hp5
  cases p0
  case' true =>
    cases p1
    case' true =>
      cases p2
      case' true =>
        cases p3
        case' true =>
          cases p4
          case' true =>
            cases p5
            case' true =>
              cases p6
              case' true =>
                cases p7
                case' true =>
                  cases p8
                  case' true =>
                    cases p9
                    case' true =>
                      cases pa
                      case' true =>
                        cases pb
                        case' true =>
                          cases pc
  all_goals
    simp only [Bool.not_true, Bool.not_false] at ep0 ep1 ep2 ep3 ep4 ep5
    simp only [Bool.true_and, Bool.false_and, Bool.and_true, Bool.and_false] at hr
    subst hr
    go_enter Tryz.func24, Tryz.ntmps24
    go_wp2
    go_ret
    exact ⟨rfl, HB.out⟩
end Go.Proofs.YtafmompplcaadaaGreatDoor

/- The walk over the document's Put of entries. -/
namespace Go.Proofs.YtafmompplcaadaaGreatDoor
set_option maxRecDepth 100000
set_option linter.unusedVariables false
set_option linter.unusedSimpArgs false
open Go.RowKit

/-- a literal of rows -/
theorem lit_rws (k : Nat) (e : TypeId) (w : World) (cs : Array Value) (rows : List (List Value)) (n : Nat) (hcs : cs = rows.flatten.toArray) (hn : rows.length = n) (hw : ∀ r ∈ rows, r.length = k) (h1 : ∀ r ∈ rows, ∀ u ∈ r, u.oneCell' = true) (hm : n ≤ maxLen) :
    Rws k (w.alloc (.cells cs e)) (some ⟨w.heap.size, 0, none⟩) n n rows := by
  subst hcs
  refine ⟨hn, hw, h1, Nat.le_refl _, hm, (fun e => by cases e), fun _ => ⟨w.heap.size, 0, rfl, fun j hj i hi => ?_⟩⟩
  rw [Nat.zero_add, cell_of_row _ _ _ _ _ _ (heap_alloc_new w _), List.getElem?_toArray, flat_get hw j i (by omega) hi]
theorem nine_nums (w : World) (u : En) (hs : ∀ p ∈ rowE u, 0 ≤ p.1 ∧ p.1 < 18446744073709551616 ∧ -9223372036854775808 ≤ p.2 ∧ p.2 ≤ 9223372036854775807) :
    Nms (w.alloc (.cells #[.int .u64 u.kind, .int .i64 1, .int .u64 u.tick, .int .i64 4, .int .u64 u.epoch, .int .i64 4, .int .u64 u.user, .int .i64 1, .int .u64 u.sess, .int .i64 8, .int .u64 u.count, .int .i64 8, .int .u64 u.cmd, .int .i64 1, .int .u64 u.arg, .int .i64 2, .int .u64 u.code, .int .i64 1] 92)) (some ⟨w.heap.size, 0, none⟩) 9 9 (rowE u) :=
  ⟨lit_rws 2 _ w _ _ 9 rfl rfl (fun r hr => by obtain ⟨p, _, rfl⟩ := List.mem_map.1 hr; rfl) (fun r hr => by obtain ⟨p, _, rfl⟩ := List.mem_map.1 hr; exact enumR_one p) (by unfold maxLen; omega), hs⟩
set_option maxHeartbeats 2000000 in
theorem rput_no' (u : En) (w : World) (hm : mayE u = false) :
    Calls Tryz.prog 55 #[enV u] w fun e w' => e = .returned (.tuple #[.slice none 0 0, .bool false]) ∧ Below w.heap.size w w' := by
  have hmc := fun w => ermay_any u w
  rw [hm] at hmc
  unfold enV at hmc ⊢
  obtain ⟨C, hC⟩ : ∃ C, C = enA u := ⟨_, rfl⟩
  rw [← hC] at hmc ⊢
  have hCs : C.size = 9 := by rw [hC]; rfl
  have HCS := Lib.hid hCs
  have HMC := Lib.hid hmc
  clear hmc hC hCs
  go_enter Tryz.func55, Tryz.ntmps55
  go_wp2_with (first
    | ((with_reducible refine wpList_load_blk 33 _ rfl w.heap.size ?hx2 33 C (0, 0) _ (heap_alloc_new w _) Tryz.underlying33 ?hd2 (info_en HCS.out) ?_ ?hw2); (case hx2 => rfl); (case hd2 => rfl); (case hw2 => rfl))
    | (go_at_call 24; (with_reducible refine (HMC.out _).mono ?_); rintro e w1 ⟨rfl, hb1⟩))
  go_ret2
  exact ⟨rfl, (after_one hb1).1⟩
/-- gives bytes of its own, and a bool -/
def GOwn (L : List Int) (b : Bool) (w : World) (e : Ending) (w' : World) : Prop := ∃ A m c, e = .returned (.tuple #[.slice A m c, .bool b]) ∧ Bts w' A m c L ∧ Own w' w.heap.size (.slice A m c) L ∧ Below w.heap.size w w'
set_option maxRecDepth 100000 in
set_option maxHeartbeats 4000000 in
theorem rput_own' (u : En) (w : World) (hm : mayE u = true) (ho : u.ok) :
    Calls Tryz.prog 55 #[enV u] w (GOwn (putE u) true w) := by
  have hmc := fun w => ermay_any u w
  rw [hm] at hmc
  have hcat : ∀ W, Below w.heap.size w W → Calls Tryz.prog 71 #[.slice (some ⟨W.heap.size, 0, none⟩) 9 9] (W.alloc (.cells #[.int .u64 u.kind, .int .i64 1, .int .u64 u.tick, .int .i64 4, .int .u64 u.epoch, .int .i64 4, .int .u64 u.user, .int .i64 1, .int .u64 u.sess, .int .i64 8, .int .u64 u.count, .int .i64 8, .int .u64 u.cmd, .int .i64 1, .int .u64 u.arg, .int .i64 2, .int .u64 u.code, .int .i64 1] 92)) (GOwn (putE u) true w) := fun W hW =>
    (rcat_any _ 9 9 (rowE u) _ (nine_nums W u (row_small hm ho))).mono fun e w' h => by
      obtain ⟨h1, -, hbel⟩ := h
      obtain ⟨v, he, hv⟩ := h1 (put_fits hm ho)
      have hv : Own w' w.heap.size v (putE u) := hv.mono (Nat.le_trans hW.size (size_le_alloc _ _))
      obtain ⟨A, m, c, rfl, hb⟩ := hv.slice (put_ok u)
      exact ⟨A, m, c, he, hb, hv, hW.trans ((after_one hbel).1.mono hW.size)⟩
  obtain ⟨⟨p0, a0⟩, ⟨p8, a8⟩, ⟨p1, a1⟩, ⟨p2, a2⟩, ⟨p3, a3⟩, ⟨p6, a6⟩, ⟨p7, a7⟩⟩ := may_iff.1 hm
  obtain ⟨⟨b4, a4⟩, ⟨b5, a5⟩⟩ := ho
  obtain ⟨L, hL⟩ : ∃ L, putE u = L := ⟨_, rfl⟩
  rw [hL] at hcat ⊢
  clear hL hm
  have hcells : ∀ (W : World) (g : Nat), W.heap[g]? = some (.cells (enA u) 33 (0, 0)) → BoxE W g u := fun W g h => ⟨h⟩
  unfold enV at hmc ⊢
  obtain ⟨C, hC⟩ : ∃ C, enA u = C := ⟨_, rfl⟩
  rw [hC] at hmc hcells ⊢
  have hCs : C.size = 9 := by rw [← hC]; rfl
  rcases u with ⟨kind, tick, epoch, user, sess, count, cmd, arg, code⟩
  simp only at *
  have HCELL := Lib.hid hcells
  have HCS := Lib.hid hCs
  have HMC := Lib.hid hmc
  have HCAT := Lib.hid hcat
  clear hmc hC hCs hcells hcat
  go_enter Tryz.func55, Tryz.ntmps55
  go_wp2_with (first
    | ((with_reducible refine wpList_load_blk 33 _ rfl w.heap.size ?hx2 33 C (0, 0) _ (heap_alloc_new w _) Tryz.underlying33 ?hd2 (info_en HCS.out) ?_ ?hw2); (case hx2 => rfl); (case hd2 => rfl); (case hw2 => rfl))
    | (go_at_call 24; (with_reducible refine (HMC.out _).mono ?_); rintro e w1 ⟨rfl, hb1⟩
       obtain ⟨z0, z1, z2, z3, z4, z5, z6, z7, z8⟩ := (HCELL.out _ _ (after_alloc hb1)).cells
       simp only at z0 z1 z2 z3 z4 z5 z6 z7 z8
       have HB1 := Lib.hid (after_one hb1).1
       clear hb1)
    | (go_at_call 71; (with_reducible refine (HCAT.out _ HB1.out).mono ?_); rintro e w2 ⟨A2, m2, c2, rfl, hbt2, ho2, hb2⟩; have HBT := Lib.hid hbt2; have HOW := Lib.hid ho2; have HB2 := Lib.hid hb2; clear hbt2 ho2 hb2))
  go_ret2
  exact ⟨A2, m2, c2, rfl, HBT.out, HOW.out, HB2.out⟩
theorem erput_own (u : En) (w : World) (ho : u.ok) :
    Calls Tryz.prog 55 #[enV u] w (GOwn (if mayE u then putE u else []) (mayE u) w) := by
  cases hm : mayE u with
  | false => exact (rput_no' u w hm).mono fun e w' ⟨he, hb⟩ => ⟨none, 0, 0, he, Bts.nil w', Own.nil _ _, hb⟩
  | true => exact rput_own' u w hm ho
theorem rput_yes' (u : En) (w : World) (hm : mayE u = true) (ho : u.ok) :
    Calls Tryz.prog 55 #[enV u] w (GivesB (putE u) true w) :=
  (rput_own' u w hm ho).mono fun e w' ⟨A, m, c, he, hb, _, hl⟩ => ⟨A, m, c, he, hb, hl⟩
theorem erput_any (u : En) (w : World) (ho : u.ok) :
    Calls Tryz.prog 55 #[enV u] w (GivesB (if mayE u then putE u else []) (mayE u) w) :=
  (erput_own u w ho).mono fun e w' ⟨A, m, c, he, hb, _, hl⟩ => ⟨A, m, c, he, hb, hl⟩
end Go.Proofs.YtafmompplcaadaaGreatDoor

/- The walks over package sha's rounds: a number turned, a round, a block's numbers, a register rounded by a block, and by all blocks. -/
namespace Go.Proofs.YtafmompplcaadaaGreatDoor
open Go.RowKit

/-- numbers of 32 bits, as cells -/
def regv (r : List Int) : Array Value := (r.map (Value.int .u32)).toArray
theorem regv_size (r : List Int) : (regv r).size = r.length := by simp [regv]
theorem regv_get (r : List Int) (i : Nat) (h : i < r.length) : (regv r)[i]? = some (.int .u32 (r.getD i 0)) := by
  simp [regv, List.getD_eq_getElem?_getD, h]
theorem regv_set (r : List Int) (i : Nat) (v : Int) : (regv r).setIfInBounds i (.int .u32 v) = regv (r.set i v) := by
  simp [regv, List.map_set]
theorem regv_one (r : List Int) : (regv r).all (·.oneCell') = true := by
  simp only [regv, List.all_toArray, List.all_map, List.all_eq_true]
  intro x _
  rfl

theorem eight {r : List Int} (h : r.length = 8) : ∃ a b c d e f g k, r = [a, b, c, d, e, f, g, k] := by
  match r, h with
  | [a, b, c, d, e, f, g, k], _ => exact ⟨a, b, c, d, e, f, g, k, rfl⟩

set_option maxHeartbeats 400000 in
theorem turned_any (x n : Int) (w : World) (hn : 0 ≤ n) (hn2 : n < 32) :
    Calls Tryz.prog 105 #[.int .u32 x, .int .i64 n] w fun e w' => e = .returned (.int .u32 (rot x n)) ∧ ∃ k, w' = w.drewN k := by
  go_enter Tryz.func105, Tryz.ntmps105
  go_wp2
  go_quiet (fail)
  go_wp2
  go_ret
  exact ⟨rfl, _, rfl⟩

theorem below_round (w : World) (o1 o2 : Obj) (k : Nat) (v0 v1 v2 v3 v4 v5 v6 v7 : Value) :
    Below w.heap.size w (((((((((((w.alloc o1).alloc o2).drewN k).setCell ⟨w.heap.size + 1, 0, none⟩ v0).setCell ⟨w.heap.size + 1, 1, none⟩ v1).setCell ⟨w.heap.size + 1, 2, none⟩ v2).setCell ⟨w.heap.size + 1, 3, none⟩ v3).setCell ⟨w.heap.size + 1, 4, none⟩ v4).setCell ⟨w.heap.size + 1, 5, none⟩ v5).setCell ⟨w.heap.size + 1, 6, none⟩ v6).setCell ⟨w.heap.size + 1, 7, none⟩ v7) :=
  have h := below_drewN ((((Below.refl w.heap.size w).alloc (Nat.le_refl _) o1)).alloc (by simp) o2) k
  have q := Nat.le_succ w.heap.size
  (((((((h.setCell q v0).setCell q v1).setCell q v2).setCell q v3).setCell q v4).setCell q v5).setCell q v6).setCell q v7

set_option maxHeartbeats 1000000 in
theorem round_any (r : List Int) (n : Int) (w : World) (hr : r.length = 8) :
    Calls Tryz.prog 104 #[.agg (regv r), .int .u32 n] w fun e w' => e = .returned (.agg (regv (rnd r n))) ∧ Below w.heap.size w w' := by
  obtain ⟨a, b, c, d, e, f, g, h8, rfl⟩ := eight hr
  simp only [regv, List.map_cons, List.map_nil, rnd]
  go_enter Tryz.func104, Tryz.ntmps104
  go_wp2
  go_quiet (fail)
  go_wp2_with (go_at_call 105; refine (turned_any _ _ _ (by omega) (by omega)).mono ?_; rintro e w' ⟨rfl, k, rfl⟩)
  refine bodyPost_ret (v := .agg #[.int .u32 ((h8 + bigE e + chE e f g + n + (bigA a + majA a b c)) % 4294967296), .int .u32 a, .int .u32 b, .int .u32 c, .int .u32 ((d + (h8 + bigE e + chE e f g + n)) % 4294967296), .int .u32 e, .int .u32 f, .int .u32 g]) (by simp [results, Tryz.results104, go_sem, bigE, bigA, chE, majA, x32, a32]) rfl ⟨rfl, ?_⟩
  exact below_round _ _ _ _ _ _ _ _ _ _ _ _
end Go.Proofs.YtafmompplcaadaaGreatDoor

/- The walk over package sha's spread: the 64 numbers of a block. -/
namespace Go.Proofs.YtafmompplcaadaaGreatDoor
open Go.RowKit

theorem spreadA_length (l : List Int) (k : Nat) : (spreadA l k).length = 64 := by
  induction k with
  | zero => rfl
  | succ k ih => simp [spreadA, ih]
theorem spreadB_length (l : List Int) (k : Nat) : (spreadB l k).length = 64 := by
  induction k with
  | zero => exact spreadA_length l 16
  | succ k ih => simp [spreadB, ih]

set_option maxRecDepth 100000 in
set_option maxHeartbeats 1000000 in
theorem spread_any (l : List Int) (b off cap : Nat) (w : World) (hr : ∀ j, 0 ≤ l.getD j 0 ∧ l.getD j 0 < 256)
    (hc : ∀ j, j < 64 → w.cell? ⟨b, off + j, none⟩ = some (.int .u8 (l.getD j 0))) :
    Calls Tryz.prog 103 #[.slice (some ⟨b, off, none⟩) 64 cap] w fun e w' => e = .returned (.agg (regv (spreadAll l))) ∧ Below w.heap.size w w' := by
  have hbw : b < w.heap.size := block_lt_of_cell (hc 0 (by omega))
  go_enter Tryz.func103, Tryz.ntmps103
  go_wp2

  go_loopw [10] (fun i wr => ∃ k : Nat, k ≤ 16 ∧ i = .int .i64 k ∧ wr.heap[w.heap.size]? = some (.cells (regv (List.replicate 64 0)) 133 (0, 0)) ∧ wr.heap[w.heap.size + 1]? = some (.cells (regv (spreadA l k)) 133 (0, 0)) ∧ Below w.heap.size w wr)
    (fun i _ => 16 - (intOf i).toNat)
  case atStart => exact ⟨0, by omega, rfl, heap_alloc2_old w _ _, heap_alloc2_new w _ _, ((Below.refl _ _).alloc (Nat.le_refl _) _).alloc (by simp) _⟩
  case round =>
    obtain ⟨k, hk, rfl, hZ, hW, hb⟩ := hrel
    by_cases hlt : k < 16
    · have c0 := (hb.cell (p := ⟨b, off + 4 * k, none⟩) hbw).trans (hc (4 * k) (by omega))
      have c1 := (hb.cell (p := ⟨b, off + (4 * k + 1), none⟩) hbw).trans (hc (4 * k + 1) (by omega))
      have c2 := (hb.cell (p := ⟨b, off + (4 * k + 2), none⟩) hbw).trans (hc (4 * k + 2) (by omega))
      have c3 := (hb.cell (p := ⟨b, off + (4 * k + 3), none⟩) hbw).trans (hc (4 * k + 3) (by omega))
      obtain ⟨x0, hx0⟩ : ∃ x, x = l.getD (4 * k) 0 := ⟨_, rfl⟩
      obtain ⟨x1, hx1⟩ : ∃ x, x = l.getD (4 * k + 1) 0 := ⟨_, rfl⟩
      obtain ⟨x2, hx2⟩ : ∃ x, x = l.getD (4 * k + 2) 0 := ⟨_, rfl⟩
      obtain ⟨x3, hx3⟩ : ∃ x, x = l.getD (4 * k + 3) 0 := ⟨_, rfl⟩
      have e0 := hr (4 * k)
      have e1 := hr (4 * k + 1)
      have e2 := hr (4 * k + 2)
      have e3 := hr (4 * k + 3)
      rw [← hx0] at c0 e0
      rw [← hx1] at c1 e1
      rw [← hx2] at c2 e2
      rw [← hx3] at c3 e3
      have v0 : IntKind.u32.wrap x0 = x0 := by rw [IntKind.wrap_u32']; omega
      have v1 : IntKind.u32.wrap x1 = x1 := by rw [IntKind.wrap_u32']; omega
      have v2 : IntKind.u32.wrap x2 = x2 := by rw [IntKind.wrap_u32']; omega
      have v3 : IntKind.u32.wrap x3 = x3 := by rw [IntKind.wrap_u32']; omega
      have hword : word l k = bits .or .u32 (bits .or .u32 (bits .or .u32 (IntKind.u32.wrap (x0 * 16777216)) (IntKind.u32.wrap (x1 * 65536))) (IntKind.u32.wrap (x2 * 256))) x3 := by
        simp only [word, hx0, hx1, hx2, hx3, IntKind.wrap_u32']
      have HW := Lib.hid hword
      have H0 := Lib.hid hx0
      clear hx0 hx1 hx2 hx3 hword e0 e1 e2 e3 H0
      have hwc : wr.cell? ⟨w.heap.size + 1, k, none⟩ = some (.int .u32 ((spreadA l k).getD k 0)) := by
        rw [cell_of_row _ _ _ _ _ _ hW, regv_get _ _ (by rw [spreadA_length]; omega)]
      have hwf := frozen_of_row _ _ k _ _ hW
      have s0 : IntKind.i64.wrap (4 * (k : Int)) = 4 * (k : Int) := IntWalk.i64_in _ (by omega)
      have s1 : IntKind.i64.wrap (4 * (k : Int) + 1) = 4 * (k : Int) + 1 := IntWalk.i64_in _ (by omega)
      have s2 : IntKind.i64.wrap (4 * (k : Int) + 2) = 4 * (k : Int) + 2 := IntWalk.i64_in _ (by omega)
      have s3 : IntKind.i64.wrap (4 * (k : Int) + 3) = 4 * (k : Int) + 3 := IntWalk.i64_in _ (by omega)
      have p0 : 0 ≤ 4 * (k : Int) := by omega
      have p1 : 0 ≤ 4 * (k : Int) + 1 := by omega
      have p2 : 0 ≤ 4 * (k : Int) + 2 := by omega
      have p3 : 0 ≤ 4 * (k : Int) + 3 := by omega
      have q0 : 4 * (k : Int) < 64 := by omega
      have q1 : 4 * (k : Int) + 1 < 64 := by omega
      have q2 : 4 * (k : Int) + 2 < 64 := by omega
      have q3 : 4 * (k : Int) + 3 < 64 := by omega
      have q4 : (k : Int) < 64 := by omega
      have p4 : 0 ≤ (k : Int) := by omega
      have n0 : (4 * (k : Int)).toNat = 4 * k := by omega
      have n1 : (4 * (k : Int) + 1).toNat = 4 * k + 1 := by omega
      have n2 : (4 * (k : Int) + 2).toNat = 4 * k + 2 := by omega
      have n3 : (4 * (k : Int) + 3).toNat = 4 * k + 3 := by omega
      have HS := Lib.hid hW
      have HB := Lib.hid hb
      have HZ := Lib.hid hZ
      clear hZ hW hb hc hr
      go_wp2
      go_still_tail 35, (by kernel_rfl)
      clear s0 s1 s2 s3 n0 n1 n2 n3
      go_wp2
      have hb := HB.out
      go_roundw
      case rel =>
        refine ⟨k + 1, by omega, by go_num, (heap_setCell_other _ _ _ _ (by simp)).trans HZ.out, ?_, (hb.drew).setCell (Nat.le_succ _) _⟩
        refine (heap_setCell_same _ _ _ _ _ _ HS.out).trans ?_
        rw [regv_set, spreadA, HW.out]; simp only [IntKind.wrap_u32']
      case measure => simp [intOf]; omega
    · have hge : 16 ≤ k := by omega
      rw [show k = 16 by omega] at hW
      have HW := Lib.hid hW
      have HZ := Lib.hid hZ
      have HB := Lib.hid hb
      clear hc hlt hW hZ hb
      go_wp2
      go_loopw [5] (fun i wr => ∃ k : Nat, 16 ≤ k ∧ k ≤ 64 ∧ i = .int .i64 k ∧ wr.heap[w.heap.size]? = some (.cells (regv (List.replicate 64 0)) 133 (0, 0)) ∧ wr.heap[w.heap.size + 1]? = some (.cells (regv (spreadB l (k - 16))) 133 (0, 0)) ∧ Below w.heap.size w wr)
        (fun i _ => 64 - (intOf i).toNat)
      case atStart => exact ⟨16, by omega, by omega, rfl, HZ.out, HW.out, HB.out⟩
      case round =>
        clear HZ HW HB hge hk
        obtain ⟨k, hk1, hk2, rfl, hZ, hW, hb⟩ := hrel
        by_cases hlt : k < 64
        · have hL := spreadB_length l (k - 16)
          have cel : ∀ j, j < 64 → wr.cell? ⟨w.heap.size + 1, j, none⟩ = some (.int .u32 ((spreadB l (k - 16)).getD j 0)) := fun j hj => by
            rw [cell_of_row _ _ _ _ _ _ hW, regv_get _ _ (by omega)]
          obtain ⟨x2, hx2⟩ : ∃ x, x = (spreadB l (k - 16)).getD (k - 2) 0 := ⟨_, rfl⟩
          obtain ⟨x7, hx7⟩ : ∃ x, x = (spreadB l (k - 16)).getD (k - 7) 0 := ⟨_, rfl⟩
          obtain ⟨x15, hx15⟩ : ∃ x, x = (spreadB l (k - 16)).getD (k - 15) 0 := ⟨_, rfl⟩
          obtain ⟨x16, hx16⟩ : ∃ x, x = (spreadB l (k - 16)).getD (k - 16) 0 := ⟨_, rfl⟩
          have c2 := cel (k - 2) (by omega)
          have c7 := cel (k - 7) (by omega)
          have c15 := cel (k - 15) (by omega)
          have c16 := cel (k - 16) (by omega)
          have ck := cel k (by omega)
          rw [← hx2] at c2
          rw [← hx7] at c7
          rw [← hx15] at c15
          rw [← hx16] at c16
          have hnext : nextW (spreadB l (k - 16)) k = (x16 + lowS x15 + x7 + highS x2) % 4294967296 := by
            simp only [nextW, hx2, hx7, hx15, hx16]
          have HN := Lib.hid hnext
          have hwf := frozen_of_row _ _ k _ _ hW
          have s2 : IntKind.i64.wrap ((k : Int) - 2) = (k : Int) - 2 := IntWalk.i64_in _ (by omega)
          have s7 : IntKind.i64.wrap ((k : Int) - 7) = (k : Int) - 7 := IntWalk.i64_in _ (by omega)
          have s15 : IntKind.i64.wrap ((k : Int) - 15) = (k : Int) - 15 := IntWalk.i64_in _ (by omega)
          have s16 : IntKind.i64.wrap ((k : Int) - 16) = (k : Int) - 16 := IntWalk.i64_in _ (by omega)
          have r7 : (7 : Int) ≤ k := by omega
          have r16 : (16 : Int) ≤ k := by omega
          have t7 : (k : Int) < 71 := by omega
          have t16 : (k : Int) < 80 := by omega
          have p2 : 0 ≤ (k : Int) - 2 := by omega
          have p7 : 0 ≤ (k : Int) - 7 := by omega
          have p15 : 0 ≤ (k : Int) - 15 := by omega
          have p16 : 0 ≤ (k : Int) - 16 := by omega
          have q2 : (k : Int) - 2 < 64 := by omega
          have q7 : (k : Int) - 7 < 64 := by omega
          have q15 : (k : Int) - 15 < 64 := by omega
          have q16 : (k : Int) - 16 < 64 := by omega
          have q4 : (k : Int) < 64 := by omega
          have p4 : 0 ≤ (k : Int) := by omega
          have n2 : ((k : Int) - 2).toNat = k - 2 := by omega
          have n7 : ((k : Int) - 7).toNat = k - 7 := by omega
          have n15 : ((k : Int) - 15).toNat = k - 15 := by omega
          have n16 : ((k : Int) - 16).toNat = k - 16 := by omega
          have HS := Lib.hid hW
          have HB := Lib.hid hb
          have HZ := Lib.hid hZ
          clear hZ hL hx2 hx7 hx15 hx16 hW hb hr cel hnext
          go_wp2
          go_quiet (fail)
          go_wp2_with (go_at_call 105; refine (turned_any _ _ _ (by omega) (by omega)).mono ?_; rintro e w' ⟨rfl, kt, rfl⟩)
          generalize hw2 : wr.drewN _ = w2
          have d7 : w2.cell? ⟨w.heap.size + 1, k - 7, none⟩ = some (.int .u32 x7) := by rw [← hw2]; exact c7
          have d16 : w2.cell? ⟨w.heap.size + 1, k - 16, none⟩ = some (.int .u32 x16) := by rw [← hw2]; exact c16
          have dk : w2.cell? ⟨w.heap.size + 1, k, none⟩ = some (.int .u32 ((spreadB l (k - 16)).getD k 0)) := by rw [← hw2]; exact ck
          have dwf : w2.frozen? ⟨w.heap.size + 1, k, none⟩ = false := by rw [← hw2]; exact hwf
          have HW2 := Lib.hid hw2
          clear hw2 c2 c7 c15 c16 ck hwf
          go_still_tail 15, (by kernel_rfl)
          clear s2 s7 s15 s16 n2 n7 n15 n16
          go_wp2
          have hb := HB.out
          go_roundw
          case rel =>
            have hw2 := HW2.out
            subst hw2
            refine ⟨k + 1, by omega, by omega, by go_num, (heap_setCell_other _ _ _ _ (by simp)).trans HZ.out, ?_, ((below_drewN hb _).drew).setCell (Nat.le_succ _) _⟩
            refine (heap_setCell_same _ _ _ _ _ _ HS.out).trans ?_
            have e1 : k + 1 - 16 = (k - 16) + 1 := by omega
            have e2 : k - 16 + 16 = k := by omega
            rw [regv_set, e1, spreadB, e2, HN.out]
            simp only [lowS, highS, x32]
          case measure => simp [intOf]; omega
        · have hge : 64 ≤ k := by omega
          rw [show k - 16 = 48 by omega] at hW
          obtain ⟨C, hC⟩ : ∃ C, C = regv (spreadAll l) := ⟨_, rfl⟩
          obtain ⟨Z, hZe⟩ : ∃ Z, Z = regv (List.replicate 64 0) := ⟨_, rfl⟩
          have hi : (Tryz.prog.info? 133).map (·.size) = some C.size := by
            rw [hC, regv_size, spreadAll, spreadB_length]; kernel_rfl
          have hzs : Z.size = C.size := by
            rw [hC, hZe, regv_size, regv_size, spreadAll, spreadB_length]; rfl
          have h1 : C.all (·.oneCell') = true := by rw [hC]; exact regv_one (spreadAll l)
          rw [← hZe] at hZ
          have hW' : wr.heap[w.heap.size + 1]? = some (.cells C 133 (0, 0)) := by rw [hC]; exact hW
          have HS := Lib.hid hW'
          have HZ := Lib.hid hZ
          have HB := Lib.hid hb
          have HI := Lib.hid hi
          have HT := Lib.hid hzs
          have H1 := Lib.hid h1
          have HC := Lib.hid hC
          clear hW hW' hZ hb hlt hi hzs h1 hC hZe
          go_wp2_with (first
            | ((with_reducible refine wpList_load_row rfl 133 _ rfl (w.heap.size + 1) ?_ 133 _ (0, 0) _ HS.out Tryz.underlying133 ?_ HI.out ?_); all_goals (first | ((with_reducible show _ = _); rfl) | skip))
            | ((with_reducible refine wpList_store_row rfl 133 _ _ rfl w.heap.size C ?_ ?_ 133 _ HZ.out HI.out HT.out H1.out ?_); all_goals (first | ((with_reducible show _ = _); rfl) | skip)))
          refine bodyPost_ret (v := .agg C) ?_ ?_ ?_
          · exact results_cell_row Tryz.results103 _ _ w.heap.size 133 _ (0, 0) _ rfl (setRow_heap _ _ _ _ _ _ HZ.out) Tryz.underlying133 rfl HI.out
          · rfl
          · exact ⟨by rw [HC.out], below_setRow HB.out (Nat.le_refl _) _⟩
end Go.Proofs.YtafmompplcaadaaGreatDoor

/- Arrays of numbers that lie in a block of their own; slices of bytes; small facts on both. -/
namespace Go.Proofs.YtafmompplcaadaaGreatDoor
open Go.RowKit

/-- block g is just the numbers l, of 32 bits, none frozen -/
def Row (w : World) (g : Nat) (t : TypeId) (l : List Int) : Prop := w.heap[g]? = some (.cells (regv l) t (0, 0))
theorem Row.lt {w : World} {g : Nat} {t : TypeId} {l : List Int} (h : Row w g t l) : g < w.heap.size := (Array.getElem?_eq_some_iff.1 h).1
theorem Row.cell {w : World} {g : Nat} {t : TypeId} {l : List Int} (h : Row w g t l) (i : Nat) (hi : i < l.length) : w.cell? ⟨g, i, none⟩ = some (.int .u32 (l.getD i 0)) := by
  rw [cell_of_row _ _ _ _ _ _ h, regv_get _ _ hi]
theorem Row.free {w : World} {g : Nat} {t : TypeId} {l : List Int} (h : Row w g t l) (i : Nat) : w.frozen? ⟨g, i, none⟩ = false := frozen_of_row _ _ i _ _ h
theorem Row.draw {w : World} {g : Nat} {t : TypeId} {l : List Int} (h : Row w g t l) (n : Nat) : Row (w.drewN n) g t l := h
theorem Row.draw1 {w : World} {g : Nat} {t : TypeId} {l : List Int} (h : Row w g t l) : Row w.drew g t l := h
theorem Row.put {w : World} {g : Nat} {t : TypeId} {l : List Int} (h : Row w g t l) (i : Nat) (v : Int) : Row (w.setCell ⟨g, i, none⟩ (.int .u32 v)) g t (l.set i v) :=
  (heap_setCell_same _ _ _ _ _ _ h).trans (by rw [regv_set])
theorem Row.far {w : World} {g : Nat} {t : TypeId} {l : List Int} (h : Row w g t l) {a : Addr} (ha : g ≠ a.block) (v : Value) : Row (w.setCell a v) g t l := (heap_setCell_other _ _ _ _ ha).trans h
theorem Row.more {w : World} {g : Nat} {t : TypeId} {l : List Int} (h : Row w g t l) (o : Obj) : Row (w.alloc o) g t l := (Below.heap_alloc w o g h.lt).trans h
theorem Row.below {w w' : World} {B g : Nat} {t : TypeId} {l : List Int} (h : Row w g t l) (hb : Below B w w') (hg : g < B) : Row w' g t l := (hb.block g hg).trans h
theorem Row.all {w : World} {g : Nat} {t : TypeId} {l : List Int} (h : Row w g t l) (m : List Int) : Row (w.setRow g (regv m)) g t m := setRow_heap _ _ _ _ _ _ h
theorem Row.off {w : World} {g k : Nat} {t : TypeId} {l : List Int} (h : Row w g t l) (hk : g ≠ k) (cs : Array Value) : Row (w.setRow k cs) g t l := (setRow_other w k g cs hk).trans h
theorem Row.is {w : World} {g : Nat} {t : TypeId} {l : List Int} (h : Row w g t l) : w.heap[g]? = some (.cells (regv l) t (0, 0)) := h
theorem Row.grown {w w' : World} {g : Nat} {t : TypeId} {l : List Int} {row : Option Nat} (h : Row w g t l) (hb : w.grownBy w' row) (hg : some g ≠ row) : Row w' g t l := (hb.block g h.lt hg).trans h
theorem Row.new (w : World) (t : TypeId) (l : List Int) : Row (w.alloc (.cells (regv l) t)) w.heap.size t l := heap_alloc_new w _
theorem Row.eight {w : World} {g : Nat} {t : TypeId} {x0 x1 x2 x3 x4 x5 x6 x7 : Int} (h : Row w g t [x0, x1, x2, x3, x4, x5, x6, x7]) :
    w.cell? ⟨g, 0, none⟩ = some (.int .u32 x0) ∧ w.cell? ⟨g, 1, none⟩ = some (.int .u32 x1) ∧ w.cell? ⟨g, 2, none⟩ = some (.int .u32 x2) ∧ w.cell? ⟨g, 3, none⟩ = some (.int .u32 x3) ∧
    w.cell? ⟨g, 4, none⟩ = some (.int .u32 x4) ∧ w.cell? ⟨g, 5, none⟩ = some (.int .u32 x5) ∧ w.cell? ⟨g, 6, none⟩ = some (.int .u32 x6) ∧ w.cell? ⟨g, 7, none⟩ = some (.int .u32 x7) :=
  ⟨h.cell 0 (by simp), h.cell 1 (by simp), h.cell 2 (by simp), h.cell 3 (by simp), h.cell 4 (by simp), h.cell 5 (by simp), h.cell 6 (by simp), h.cell 7 (by simp)⟩
theorem row_lit (w : World) (t : TypeId) (cs : Array Value) (l : List Int) (h : cs = regv l) : Row (w.alloc (.cells cs t)) w.heap.size t l := by
  subst h
  exact heap_alloc_new w _
/-- a whole array out of its block, and into it, whatever its numbers are -/
theorem wpList_load_r32 {P : Program} {ops : Array Oper} {rest : List Oper} {o : Oper} {a : Act} {w : World} {Q : Exit → Act → World → Prop} (hgd : o.guard = none) (ty e : TypeId) (n : Nat) (x : Operand) (ho : o.op = .load ty x)
    (g : Nat) (hx : a.eval x = .pointer (some ⟨g, 0, none⟩)) (t : TypeId) (l : List Int) (hg : Row w g t l)
    (hu : P.underlying ty = some (.array n e)) (hi : (P.info? ty).map (·.size) = some (regv l).size)
    (h : wpList P ops Q rest (a.put o.dst (.agg (regv l))) w) : wpList P ops Q (o :: rest) a w :=
  wpList_load_row hgd ty x ho g hx t (regv l) (0, 0) _ hg hu rfl hi h
theorem wpList_store_r32 {P : Program} {ops : Array Oper} {rest : List Oper} {o : Oper} {a : Act} {w : World} {Q : Exit → Act → World → Prop} (hgd : o.guard = none) (ty : TypeId) (x y : Operand) (ho : o.op = .store ty x y)
    (g : Nat) (m : List Int) (hx : a.eval x = .pointer (some ⟨g, 0, none⟩)) (hy : a.eval y = .agg (regv m)) (t : TypeId) (l : List Int) (hg : Row w g t l) (hi : (P.info? ty).map (·.size) = some (regv m).size) (hl : l.length = m.length)
    (h : ∀ w', w.grownBy w' (some g) → Row w' g t m → w'.heap.size = w.heap.size → wpList P ops Q rest (a.put o.dst undef) w') : wpList P ops Q (o :: rest) a w :=
  wpList_store_row hgd ty x y ho g (regv m) hx hy t (regv l) hg hi (by rw [regv_size, regv_size, hl]) (regv_one m) (h _ (grown_setRow _ _ _) (hg.all m) (by simp))

/-- the table of the constants lies in its block -/
def KTab (w : World) : Prop := 0 < w.heap.size ∧ ∀ j, j < 64 → w.cell? ⟨0, j, none⟩ = some (.int .u32 (kList.getD j 0))
theorem KTab.below {w w' : World} {B : Nat} (h : KTab w) (hb : Below B w w') (hB : 0 < B) : KTab w' :=
  ⟨Nat.lt_of_lt_of_le h.1 hb.size, fun j hj => (hb.cell (p := ⟨0, j, none⟩) hB).trans (h.2 j hj)⟩
theorem KTab.from {w w' : World} (h : KTab w) (hb : Below w.heap.size w w') : KTab w' := h.below hb h.1

theorem runs_length (w r : List Int) (hr : r.length = 8) (k : Nat) : (runs w r k).length = 8 := by
  induction k with
  | zero => exact hr
  | succ k ih =>
    obtain ⟨a, b, c, d, e, f, g, h8, hx⟩ := eight ih
    simp only [runs, hx, rnd]
    rfl
theorem addTo_length (x r : List Int) (k : Nat) : (addTo x r k).length = x.length := by
  induction k with
  | zero => rfl
  | succ k ih => simp [addTo, ih]
theorem rounded_length (r l : List Int) (hr : r.length = 8) : (roundedL r l).length = 8 := by
  rw [roundedL, addTo_length, runs_length _ _ hr]
end Go.Proofs.YtafmompplcaadaaGreatDoor

/- The walks over package sha's rounded (a register, rounded by a block) and roundedBy (by all whole blocks). -/
namespace Go.Proofs.YtafmompplcaadaaGreatDoor
open Go.RowKit

theorem info8 {l : List Int} (h : l.length = 8) : (Tryz.prog.info? 108).map (·.size) = some (regv l).size := by rw [regv_size, h]; kernel_rfl
theorem info64 {l : List Int} (h : l.length = 64) : (Tryz.prog.info? 133).map (·.size) = some (regv l).size := by rw [regv_size, h]; kernel_rfl
theorem spreadAll_length (l : List Int) : (spreadAll l).length = 64 := spreadB_length l 48

theorem round_lit (a b c d e f g h n : Int) (w : World) :
    Calls Tryz.prog 104 #[.agg #[.int .u32 a, .int .u32 b, .int .u32 c, .int .u32 d, .int .u32 e, .int .u32 f, .int .u32 g, .int .u32 h], .int .u32 n] w fun e' w' => e' = .returned (.agg (regv (rnd [a, b, c, d, e, f, g, h] n))) ∧ Below w.heap.size w w' :=
  round_any [a, b, c, d, e, f, g, h] n w rfl
theorem rnd_length (a b c d e f g h n : Int) : (rnd [a, b, c, d, e, f, g, h] n).length = 8 := rfl

set_option maxRecDepth 100000 in
set_option maxHeartbeats 1000000 in
theorem rounded_any (r l : List Int) (b off cap : Nat) (w : World) (hK : KTab w) (hr : r.length = 8) (hby : ∀ j, 0 ≤ l.getD j 0 ∧ l.getD j 0 < 256)
    (hc : ∀ j, j < 64 → w.cell? ⟨b, off + j, none⟩ = some (.int .u8 (l.getD j 0))) :
    Calls Tryz.prog 98 #[.agg (regv r), .slice (some ⟨b, off, none⟩) 64 cap] w fun e w' => e = .returned (.agg (regv (roundedL r l))) ∧ Below w.heap.size w w' := by
  have hbw : b < w.heap.size := block_lt_of_cell (hc 0 (by omega))
  have HR := Lib.hid hr
  obtain ⟨S, hSd⟩ : ∃ S, S = spreadAll l := ⟨_, rfl⟩
  have hSl : S.length = 64 := by rw [hSd]; exact spreadAll_length l
  have HW := Lib.hid hSl
  have HSD := Lib.hid hSd
  clear hr hSd hSl
  go_enter Tryz.func98, Tryz.ntmps98
  go_wp2_with fail
  refine (spread_any l b off cap _ hby (fun j hj => ((two_below w _ _).cell (p := ⟨b, off + j, none⟩) hbw).trans (hc j hj))).mono ?_
  rintro e w1 ⟨he, hb1⟩
  rw [← HSD.out] at he
  subst he
  obtain ⟨hB1, hz1, hR1, hO1⟩ := after_two hb1
  have hR1 : Row w1 w.heap.size 108 r := hR1
  have hO1 : Row w1 (w.heap.size + 1) 108 [0, 0, 0, 0, 0, 0, 0, 0] := hO1
  have hK1 := hK.from hB1
  clear hb1 hc
  go_wp2_with (first
    | ((with_reducible refine wpList_store_r32 rfl 133 _ _ rfl w1.heap.size S ?hx ?hy 133 (List.replicate 64 0) (row_lit w1 133 _ _ ?hz) ?hi ?hl ?hm); (case hx => rfl); (case hy => rfl); (case hz => rfl); (case hi => exact info64 HW.out); (case hl => rw [HW.out]; rfl)
       intro w2 hg2 hW2 hs2
       have hR2 : Row w2 w.heap.size 108 r := (hR1.more _).grown hg2 (ne_some (by omega))
       have hO2 : Row w2 (w.heap.size + 1) 108 [0, 0, 0, 0, 0, 0, 0, 0] := (hO1.more _).grown hg2 (ne_some (by omega))
       have hB2 : Below w.heap.size w w2 := Below.grows (hB1.alloc (by omega) _) hg2 (by simp; omega) (by omega)
       have hz2 : w1.heap.size < w2.heap.size := hW2.lt
       clear hg2 hs2 hR1 hO1)
    | ((with_reducible refine wpList_load_r32 rfl 108 107 8 _ rfl w.heap.size ?hx2 108 r hR2 Tryz.underlying108 (info8 HR.out) ?_); (case hx2 => rfl))
    | ((with_reducible refine wpList_store_r32 rfl 108 _ _ rfl w2.heap.size r ?hx3 ?hy3 108 [0, 0, 0, 0, 0, 0, 0, 0] (row_lit w2 108 _ _ ?hz3) (info8 HR.out) ?hl3 ?hm3); (case hx3 => rfl); (case hy3 => rfl); (case hz3 => rfl); (case hl3 => rw [HR.out]; rfl)
       intro w3 hg3 hX3 hs3
       have hR3 : Row w3 w.heap.size 108 r := (hR2.more _).grown hg3 (ne_some (by omega))
       have hO3 : Row w3 (w.heap.size + 1) 108 [0, 0, 0, 0, 0, 0, 0, 0] := (hO2.more _).grown hg3 (ne_some (by omega))
       have hW3 : Row w3 w1.heap.size 133 S := (hW2.more _).grown hg3 (ne_some (by omega))
       have hB3 : Below w.heap.size w w3 := Below.grows (hB2.alloc (by omega) _) hg3 (by simp; omega) (by omega)
       clear hg3 hs3 hR2 hO2 hW2))
  go_loopw [12] (fun i wr => ∃ k : Nat, k ≤ 64 ∧ i = .int .i64 k ∧ Row wr w.heap.size 108 r ∧ Row wr (w.heap.size + 1) 108 [0, 0, 0, 0, 0, 0, 0, 0] ∧ Row wr w1.heap.size 133 S ∧ Row wr w2.heap.size 108 (runs S r k) ∧ Below w.heap.size w wr)
    (fun i _ => 64 - (intOf i).toNat)
  case atStart => exact ⟨0, by omega, rfl, hR3, hO3, hW3, hX3, hB3⟩
  case round =>
    clear hB3 hX3 hW3 hO3 hR3 hK1 hB1 hB2
    obtain ⟨k, hk, rfl, hR, hO, hS, hX, hB⟩ := hrel
    have hXl := runs_length S r HR.out k
    have hw1 := hS.lt
    have hw2 := hX.lt
    by_cases hlt : k < 64
    · obtain ⟨x0, x1, x2, x3, x4, x5, x6, x7, hx⟩ := eight hXl
      have hnext : runs S r (k + 1) = rnd [x0, x1, x2, x3, x4, x5, x6, x7] ((kList.getD k 0 + S.getD k 0) % 4294967296) := by
        rw [runs, hx]
      have HN := Lib.hid hnext
      rw [hx] at hX
      obtain ⟨c0, c1, c2, c3, c4, c5, c6, c7⟩ := hX.eight
      have hKr := (hK.from hB).2 k hlt
      have hSr := hS.cell k (by rw [HW.out]; exact hlt)
      obtain ⟨kk, hkk⟩ : ∃ x, x = kList.getD k 0 := ⟨_, rfl⟩
      obtain ⟨wk, hwk⟩ : ∃ x, x = S.getD k 0 := ⟨_, rfl⟩
      rw [← hkk, ← hwk] at hnext
      rw [← hkk] at hKr
      rw [← hwk] at hSr
      have HN := Lib.hid hnext
      have p0 : 0 ≤ (k : Int) := by omega
      have q0 : (k : Int) < 64 := by omega
      clear hkk hwk hx hnext hXl
      go_wp2
      go_still_tail 8, (by kernel_rfl)
      clear c0 c1 c2 c3 c4 c5 c6 c7 hKr hSr
      go_wp2_with (first
        | (go_at_call 104; refine (round_lit _ _ _ _ _ _ _ _ _ _).mono ?_; rintro e w4 ⟨rfl, hb4⟩
           have hb4 := below_draw hb4
           have hX4 := hX.below hb4 hw2)
        | ((with_reducible refine wpList_store_r32 rfl 108 _ _ rfl w2.heap.size (rnd [x0, x1, x2, x3, x4, x5, x6, x7] ((kk + wk) % 4294967296)) ?hx5 ?hy5 108 [x0, x1, x2, x3, x4, x5, x6, x7] hX4 (info8 (rnd_length _ _ _ _ _ _ _ _ _)) ?hl5 ?hm5); (case hx5 => rfl); (case hy5 => rfl); (case hl5 => rfl)
           intro w5 hg5 hX5 hs5
           have hz5 := hb4.size))
      go_roundw
      case rel =>
        refine ⟨k + 1, by omega, by go_num, ?_, ?_, ?_, ?_, ?_⟩
        · exact (hR.below hb4 hR.lt).grown hg5 (ne_some (by omega))
        · exact (hO.below hb4 hO.lt).grown hg5 (ne_some (by omega))
        · exact (hS.below hb4 hS.lt).grown hg5 (ne_some (by omega))
        · rw [HN.out]; exact hX5
        · exact Below.grows (hB.trans (hb4.mono hB.size)) hg5 (by omega) (by omega)
      case measure => simp [intOf]; omega
    · have hge : 64 ≤ k := by omega
      rw [show k = 64 by omega] at hX
      have hk64 := runs_length S r HR.out 64
      obtain ⟨Y, hY⟩ : ∃ Y, Y = runs S r 64 := ⟨_, rfl⟩
      rw [← hY] at hX hk64
      have HY := Lib.hid hY
      have HL := Lib.hid hk64
      clear hlt hk hS hXl hk64 hY
      go_wp2
      go_loopw [25] (fun i wr => ∃ k : Nat, k ≤ 8 ∧ i = .int .i64 k ∧ Row wr w.heap.size 108 r ∧ Row wr (w.heap.size + 1) 108 [0, 0, 0, 0, 0, 0, 0, 0] ∧ Row wr w2.heap.size 108 (addTo Y r k) ∧ Below w.heap.size w wr)
        (fun i _ => 8 - (intOf i).toNat)
      case atStart => exact ⟨0, by omega, rfl, hR, hO, hX, hB⟩
      case round =>
        clear hR hO hX hB hw1 hw2 hge
        obtain ⟨k, hk, rfl, hR, hO, hX, hB⟩ := hrel
        have hXl := addTo_length Y r k
        rw [HL.out] at hXl
        have hw2 := hX.lt
        by_cases hlt : k < 8
        · have hXc := hX.cell k (by rw [hXl]; exact hlt)
          have hXf := hX.free k
          have hRc := hR.cell k (by rw [HR.out]; exact hlt)
          obtain ⟨xk, hxk⟩ : ∃ x, x = (addTo Y r k).getD k 0 := ⟨_, rfl⟩
          obtain ⟨rk, hrk⟩ : ∃ x, x = r.getD k 0 := ⟨_, rfl⟩
          have hnext : addTo Y r (k + 1) = (addTo Y r k).set k ((xk + rk) % 4294967296) := by
            rw [addTo, hxk, hrk]
          rw [← hxk] at hXc
          rw [← hrk] at hRc
          have HN := Lib.hid hnext
          have p0 : 0 ≤ (k : Int) := by omega
          have q0 : (k : Int) < 8 := by omega
          clear hxk hrk hnext hXl
          go_wp2
          go_still_tail 8, (by kernel_rfl)
          go_wp2
          go_roundw
          case rel =>
            refine ⟨k + 1, by omega, by go_num, ?_, ?_, ?_, ?_⟩
            · exact hR.draw1.far (by simp; omega) _
            · exact hO.draw1.far (by simp; omega) _
            · rw [HN.out]; exact hX.draw1.put k _
            · exact hB.drew.setCell (by simp; omega) _
          case measure => simp [intOf]; omega
        · rw [show k = 8 by omega] at hX hXl
          have hge : 8 ≤ k := by omega
          obtain ⟨Z, hZ⟩ : ∃ Z, Z = roundedL r l := ⟨_, rfl⟩
          have hZ2 : addTo Y r 8 = Z := by rw [hZ, roundedL, HY.out, HSD.out]
          rw [hZ2] at hX hXl
          have HZ := Lib.hid hZ
          have HXL := Lib.hid hXl
          clear hlt hk hXl hZ hZ2
          go_wp2_with (first
            | ((with_reducible refine wpList_load_r32 rfl 108 107 8 _ rfl w2.heap.size ?hx6 108 Z hX Tryz.underlying108 (info8 HXL.out) ?_); (case hx6 => rfl))
            | ((with_reducible refine wpList_store_r32 rfl 108 _ _ rfl (w.heap.size + 1) Z ?hx7 ?hy7 108 [0, 0, 0, 0, 0, 0, 0, 0] hO (info8 HXL.out) ?hl7 ?hm7); (case hx7 => rfl); (case hy7 => rfl); (case hl7 => rw [HXL.out]; rfl)
               intro w6 hg6 hX6 hs6))
          refine bodyPost_ret (v := .agg (regv Z)) ?_ ?_ ?_
          · exact results_cell_row Tryz.results98 _ _ (w.heap.size + 1) 108 _ (0, 0) _ rfl hX6.is Tryz.underlying108 rfl (info8 HXL.out)
          · rfl
          · exact ⟨by rw [HZ.out], Below.grows hB hg6 hB.size (by omega)⟩
end Go.Proofs.YtafmompplcaadaaGreatDoor

/- The walks over the plain answers' turned, constant and numbers. -/
namespace Go.Proofs.YtafmompplcaadaaGreatDoor
open Go.RowKit

set_option maxHeartbeats 400000 in
theorem rturned_any (x n : Int) (w : World) (hn : 0 ≤ n) (hn2 : n < 32) :
    Calls Tryz.prog 100 #[.int .u32 x, .int .u32 n] w fun e w' => e = .returned (.int .u32 (rot x n)) ∧ w = w' := by
  go_enter Tryz.func100, Tryz.ntmps100
  go_wp2
  go_ret
  exact ⟨rfl, rfl⟩

set_option maxRecDepth 100000 in
set_option maxHeartbeats 400000 in
theorem rconst_any (k : Nat) (w : World) (hk : k < 64) :
    Calls Tryz.prog 101 #[.int .i64 k] w fun e w' => e = .returned (.int .u32 (kList.getD k 0)) ∧ Below w.heap.size w w' := by
  obtain ⟨K, hKd⟩ : ∃ K, K = kList := ⟨_, rfl⟩
  have hKl : K.length = 64 := by rw [hKd]; rfl
  rw [← hKd]
  obtain ⟨x, hx⟩ : ∃ x, x = K.getD k 0 := ⟨_, rfl⟩
  rw [← hx]
  have HK := Lib.hid hKd
  have HL := Lib.hid hKl
  have HX := Lib.hid hx
  have p0 : 0 ≤ (k : Int) := by omega
  have q0 : (k : Int) < 64 := by omega
  clear hKd hKl hx
  go_enter Tryz.func101, Tryz.ntmps101
  go_wp2_with (first
    | ((with_reducible refine wpList_store_r32 rfl 133 _ _ rfl w.heap.size K ?hx ?hy 133 (List.replicate 64 0) (row_lit w 133 _ _ ?hz) (info64 HL.out) ?hl ?hm); (case hx => rfl); (case hy => rw [HK.out]; rfl); (case hz => rfl); (case hl => rw [HL.out]; rfl)
       intro w2 hg2 hR2 hs2
       have hc2 := hR2.cell k (by rw [HL.out]; exact hk)
       rw [← HX.out] at hc2
       have hb2 : Below w.heap.size w w2 := Below.grows ((Below.refl _ _).alloc (Nat.le_refl _) _) hg2 (by simp) (Nat.le_refl _)
       clear hg2 hs2))
  go_ret
  exact ⟨rfl, hb2⟩
end Go.Proofs.YtafmompplcaadaaGreatDoor

/- The walk over the plain answers' numbers: the 64 numbers of a block, appended one by one. -/
namespace Go.Proofs.YtafmompplcaadaaGreatDoor
open Go.RowKit

/-- a slice of numbers of 32 bits that the call made itself -/
def OwnW (w : World) (base : Nat) (v : Value) (l : List Int) : Prop := w.ownsRow base 107 1 v l.length (l.map (Value.int .u32))
theorem OwnW.nil (w : World) (base : Nat) : OwnW w base (.slice none 0 0) [] := World.ownsRow_nil _ _ _ _
theorem OwnW.more {w : World} {base : Nat} {v : Value} {l : List Int} (h : OwnW w base v l) (o : Obj) : OwnW (w.alloc o) base v l := World.ownsRow.alloc h o
theorem OwnW.draw1 {w : World} {base : Nat} {v : Value} {l : List Int} (h : OwnW w base v l) : OwnW w.drew base v l := h
theorem OwnW.draw {w : World} {base : Nat} {v : Value} {l : List Int} (h : OwnW w base v l) (k : Nat) : OwnW (w.drewN k) base v l := h
theorem OwnW.size {w : World} {base : Nat} {v : Value} {l : List Int} (h : OwnW w base v l) : ∀ k, v.ownBlock = some k → base ≤ k ∧ k < w.heap.size := World.ownsRow.lt h
theorem OwnW.below {w w' : World} {base : Nat} {v : Value} {l : List Int} (h : OwnW w base v l) (hb : Below w.heap.size w w') : OwnW w' base v l := by
  refine ⟨h.1, ?_⟩
  rcases h.2 with h0 | ⟨g, cap, cur, hv, hg, hh, rest⟩
  · exact .inl h0
  · exact .inr ⟨g, cap, cur, hv, hg, (hb.block g (Array.getElem?_eq_some_iff.1 hh).1).trans hh, rest⟩
theorem OwnW.form {w : World} {base : Nat} {v : Value} {l : List Int} (h : OwnW w base v l) (hn : 0 < l.length) :
    ∃ g cap, v = .slice (some ⟨g, 0, none⟩) l.length cap ∧ base ≤ g ∧ g < w.heap.size ∧ l.length ≤ cap ∧ cap ≤ maxLen ∧ ∀ j, j < l.length → w.cell? ⟨g, j, none⟩ = some (.int .u32 (l.getD j 0)) := by
  rcases h.2 with ⟨_, h0⟩ | ⟨g, cap, cur, hv, hg, hh, hnc, hcm, hcs, htake⟩
  · omega
  · refine ⟨g, cap, hv, hg, (Array.getElem?_eq_some_iff.1 hh).1, hnc, hcm, fun j hj => ?_⟩
    rw [cell_of_row _ _ _ _ _ _ hh]
    have : (l.map (Value.int .u32))[j]? = some (.int .u32 (l.getD j 0)) := by simp [List.getD_eq_getElem?_getD, hj]
    rw [← this, ← htake, List.getElem?_take, if_pos (by omega)]
    simp
theorem info_u32 : (Tryz.prog.info? 107).map (fun i => (i.zero, i.size, i.bytes)) = some (some (.int .u32 0), 1, 4) := by kernel_rfl

theorem step_append_w {ops : Array Oper} {o : Oper} {a : Act} {w : World} {K : Act → World → Prop} {Q : Exit → Act → World → Prop} {E : Prop} (hgd : o.guard = none) (s x : Operand)
    (ho : o.op = .call { callee := .builtin .append, args := #[s, x], argTypes := #[128, 128] })
    (base : Nat) (v : Value) (l : List Int) (hs : a.eval s = v) (hown : OwnW w base v l) (g : Nat) (y : Int) (hx : a.eval x = .slice (some ⟨g, 0, none⟩) 1 1) (hg : w.cell? ⟨g, 0, none⟩ = some (.int .u32 y))
    (hsmall : l.length ≤ 1000) (hbase : base ≤ w.heap.size)
    (h : ∀ v' w', OwnW w' base v' (l ++ [y]) → w.grownBy w' v.ownBlock → K (a.put o.dst v') w') : if Region.wanted o (yielded ops a.tmps) = true then Oper.wp Tryz.prog o a w K Q else E := by
  have hw : Region.wanted o (yielded ops a.tmps) = true := by simp [Region.wanted, hgd]
  rw [if_pos hw]
  obtain ⟨i, hi, hz, h1, h2⟩ := info_parts info_u32
  refine wp_append_own (P := Tryz.prog) w s x 128 ho base 107 i (.int .u32 0) 1 4 Tryz.underlying128 hi hz h1 h2 rfl (by omega) v l.length (l.map (Value.int .u32)) hs hown ⟨g, 0, none⟩ 1 1 [.int .u32 y] hx rfl ?_ ?_ (by unfold maxLen; omega) (by omega) hbase ?_
  · intro j u hu
    match j, hu with
    | 0, hu =>
      simp at hu
      subst hu
      exact hg
    | j + 1, hu => simp at hu
  · intro u hu
    simp at hu
    subst hu
    rfl
  · intro v' w' hown' hgr _
    refine h v' w' ?_ hgr
    unfold OwnW
    rw [List.length_append, List.map_append]
    exact hown'

theorem take_set_snoc (L : List Int) (k : Nat) (x : Int) (h : k < L.length) : (L.set k x).take (k + 1) = L.take k ++ [x] := by
  rw [List.take_succ_eq_append_getElem (by simpa using h), List.take_set_of_le (Nat.le_refl _)]
  simp
end Go.Proofs.YtafmompplcaadaaGreatDoor

/- The walk over the plain answers' numbers. -/
namespace Go.Proofs.YtafmompplcaadaaGreatDoor
open Go.RowKit

/-- four bytes as a number, by sums: as by 'or' -/
theorem word_sum (l : List Int) (k : Nat) (hr : ∀ j, 0 ≤ l.getD j 0 ∧ l.getD j 0 < 256) :
    word l k = 16777216 * l.getD (4 * k) 0 + 65536 * l.getD (4 * k + 1) 0 + 256 * l.getD (4 * k + 2) 0 + l.getD (4 * k + 3) 0 := by
  have e0 := hr (4 * k)
  have e1 := hr (4 * k + 1)
  have e2 := hr (4 * k + 2)
  have e3 := hr (4 * k + 3)
  unfold word
  generalize l.getD (4 * k) 0 = a at *
  generalize l.getD (4 * k + 1) 0 = b at *
  generalize l.getD (4 * k + 2) 0 = c at *
  generalize l.getD (4 * k + 3) 0 = d at *
  obtain ⟨a, rfl⟩ := Int.eq_ofNat_of_zero_le e0.1
  obtain ⟨b, rfl⟩ := Int.eq_ofNat_of_zero_le e1.1
  obtain ⟨c, rfl⟩ := Int.eq_ofNat_of_zero_le e2.1
  obtain ⟨d, rfl⟩ := Int.eq_ofNat_of_zero_le e3.1
  have a1 : a < 256 := by omega
  have b1 : b < 256 := by omega
  have c1 : c < 256 := by omega
  have d1 : d < 256 := by omega
  rw [show (a : Int) * 16777216 % 4294967296 = ((a * 16777216 : Nat) : Int) by omega, show (b : Int) * 65536 % 4294967296 = ((b * 65536 : Nat) : Int) by omega, show (c : Int) * 256 % 4294967296 = ((c * 256 : Nat) : Int) by omega,
    u32_or_nat _ _ (by omega) (by omega), nat_join 24 _ _ (by omega) (by omega), u32_or_nat _ _ (by omega) (by omega), nat_join 16 _ _ (by omega) (by omega), u32_or_nat _ _ (by omega) (by omega), nat_join 8 _ _ (by omega) (by omega)]
  omega

theorem keepA {w : World} {b o0 o1 o2 o3 : Nat} {v0 v1 v2 v3 : Value} (h : w.cell? ⟨b, o0, none⟩ = some v0 ∧ w.cell? ⟨b, o1, none⟩ = some v1 ∧ w.cell? ⟨b, o2, none⟩ = some v2 ∧ w.cell? ⟨b, o3, none⟩ = some v3) (hb : b < w.heap.size) (o : Obj) :
    (w.alloc o).cell? ⟨b, o0, none⟩ = some v0 ∧ (w.alloc o).cell? ⟨b, o1, none⟩ = some v1 ∧ (w.alloc o).cell? ⟨b, o2, none⟩ = some v2 ∧ (w.alloc o).cell? ⟨b, o3, none⟩ = some v3 := by
  have e : ∀ i, (w.alloc o).cell? ⟨b, i, none⟩ = w.cell? ⟨b, i, none⟩ := fun i => World.cell?_of_block (Below.heap_alloc w o b hb)
  rw [e, e, e, e]
  exact h
theorem keepB {w w' : World} {b o0 o1 o2 o3 : Nat} {v0 v1 v2 v3 : Value} (h : w.cell? ⟨b, o0, none⟩ = some v0 ∧ w.cell? ⟨b, o1, none⟩ = some v1 ∧ w.cell? ⟨b, o2, none⟩ = some v2 ∧ w.cell? ⟨b, o3, none⟩ = some v3) {B : Nat} (hb : b < B) (hB : Below B w w') :
    w'.cell? ⟨b, o0, none⟩ = some v0 ∧ w'.cell? ⟨b, o1, none⟩ = some v1 ∧ w'.cell? ⟨b, o2, none⟩ = some v2 ∧ w'.cell? ⟨b, o3, none⟩ = some v3 := by
  have e : ∀ i, w'.cell? ⟨b, i, none⟩ = w.cell? ⟨b, i, none⟩ := fun i => hB.cell (p := ⟨b, i, none⟩) hb
  rw [e, e, e, e]
  exact h
theorem one_cell (w : World) (y : Int) (t : TypeId) : (w.alloc (.cells #[.int .u32 y] t)).cell? ⟨w.heap.size, 0, none⟩ = some (.int .u32 y) := (cell_of_row _ _ _ _ _ _ (heap_alloc_new w _)).trans rfl

theorem wpList_append_w {ops : Array Oper} {rest : List Oper} {o : Oper} {a : Act} {w : World} {Q : Exit → Act → World → Prop} (hgd : o.guard = none) (s x : Operand)
    (ho : o.op = .call { callee := .builtin .append, args := #[s, x], argTypes := #[128, 128] })
    (base : Nat) (v : Value) (l : List Int) (hs : a.eval s = v) (hown : OwnW w base v l) (g : Nat) (y : Int) (hx : a.eval x = .slice (some ⟨g, 0, none⟩) 1 1) (hg : w.cell? ⟨g, 0, none⟩ = some (.int .u32 y))
    (hsmall : l.length ≤ 1000) (hbase : base ≤ w.heap.size)
    (h : ∀ v' w', OwnW w' base v' (l ++ [y]) → w.grownBy w' v.ownBlock → wpList Tryz.prog ops Q rest (a.put o.dst v') w') : wpList Tryz.prog ops Q (o :: rest) a w := by
  obtain ⟨i, hi, hz, h1, h2⟩ := info_parts info_u32
  refine wpList_append_own w hgd s x 128 ho base 107 i (.int .u32 0) 1 4 Tryz.underlying128 hi hz h1 h2 rfl (by omega) v l.length (l.map (Value.int .u32)) hs hown ⟨g, 0, none⟩ 1 1 [.int .u32 y] hx rfl ?_ ?_ (by unfold maxLen; omega) (by omega) hbase ?_
  · intro j u hu
    match j, hu with
    | 0, hu =>
      simp at hu
      subst hu
      exact hg
    | j + 1, hu => simp at hu
  · intro u hu
    simp at hu
    subst hu
    rfl
  · intro v' w' hown' hgr _
    refine h v' w' ?_ hgr
    unfold OwnW
    rw [List.length_append, List.map_append]
    exact hown'

set_option maxRecDepth 100000 in
set_option maxHeartbeats 3000000 in
theorem numbers_any (l : List Int) (b off cap : Nat) (w : World) (hr : ∀ j, 0 ≤ l.getD j 0 ∧ l.getD j 0 < 256)
    (hc : ∀ j, j < 64 → w.cell? ⟨b, off + j, none⟩ = some (.int .u8 (l.getD j 0))) :
    Calls Tryz.prog 99 #[.slice (some ⟨b, off, none⟩) 64 cap] w fun e w' => ∃ v, e = .returned v ∧ OwnW w' w.heap.size v (spreadAll l) ∧ Below w.heap.size w w' := by
  have hbw : b < w.heap.size := block_lt_of_cell (hc 0 (by omega))
  go_enter Tryz.func99, Tryz.ntmps99
  go_wp2
  go_loopw [3, 4] (fun v i wr => ∃ k : Nat, k ≤ 16 ∧ i = .int .i64 k ∧ OwnW wr w.heap.size v ((spreadA l k).take k) ∧ Below w.heap.size w wr) (fun _ i _ => 16 - (intOf i).toNat)
  case atStart => exact ⟨0, by omega, rfl, OwnW.nil _ _, Below.refl _ _⟩
  case round =>
    obtain ⟨k, hk, rfl, hown, hb⟩ := hrel
    by_cases hlt : k < 16
    · have c0 := (hb.cell (p := ⟨b, off + 4 * k, none⟩) hbw).trans (hc (4 * k) (by omega))
      have c1 := (hb.cell (p := ⟨b, off + (4 * k + 1), none⟩) hbw).trans (hc (4 * k + 1) (by omega))
      have c2 := (hb.cell (p := ⟨b, off + (4 * k + 2), none⟩) hbw).trans (hc (4 * k + 2) (by omega))
      have c3 := (hb.cell (p := ⟨b, off + (4 * k + 3), none⟩) hbw).trans (hc (4 * k + 3) (by omega))
      have hws := word_sum l k hr
      obtain ⟨x0, hx0⟩ : ∃ x, x = l.getD (4 * k) 0 := ⟨_, rfl⟩
      obtain ⟨x1, hx1⟩ : ∃ x, x = l.getD (4 * k + 1) 0 := ⟨_, rfl⟩
      obtain ⟨x2, hx2⟩ : ∃ x, x = l.getD (4 * k + 2) 0 := ⟨_, rfl⟩
      obtain ⟨x3, hx3⟩ : ∃ x, x = l.getD (4 * k + 3) 0 := ⟨_, rfl⟩
      have e0 := hr (4 * k)
      have e1 := hr (4 * k + 1)
      have e2 := hr (4 * k + 2)
      have e3 := hr (4 * k + 3)
      rw [← hx0] at c0 e0 hws
      rw [← hx1] at c1 e1 hws
      rw [← hx2] at c2 e2 hws
      rw [← hx3] at c3 e3 hws
      obtain ⟨L, hL⟩ : ∃ L, L = (spreadA l k).take k := ⟨_, rfl⟩
      have hLl : L.length ≤ 1000 := by rw [hL, List.length_take]; omega
      have hnext : (spreadA l (k + 1)).take (k + 1) = L ++ [word l k] := by
        rw [spreadA, take_set_snoc _ _ _ (by rw [spreadA_length]; omega), hL]
      rw [← hL] at hown
      obtain ⟨y, hy⟩ : ∃ y, y = 16777216 * x0 + 65536 * x1 + 256 * x2 + x3 := ⟨_, rfl⟩
      rw [hws, ← hy] at hnext
      have HY := Lib.hid hy
      have HN := Lib.hid hnext
      have v0 : IntKind.u32.wrap x0 = x0 := by rw [IntKind.wrap_u32']; omega
      have v1 : IntKind.u32.wrap x1 = x1 := by rw [IntKind.wrap_u32']; omega
      have v2 : IntKind.u32.wrap x2 = x2 := by rw [IntKind.wrap_u32']; omega
      have v3 : IntKind.u32.wrap x3 = x3 := by rw [IntKind.wrap_u32']; omega
      have m0 : IntKind.u32.wrap (16777216 * x0) = 16777216 * x0 := by rw [IntKind.wrap_u32']; omega
      have m1 : IntKind.u32.wrap (65536 * x1) = 65536 * x1 := by rw [IntKind.wrap_u32']; omega
      have m2 : IntKind.u32.wrap (256 * x2) = 256 * x2 := by rw [IntKind.wrap_u32']; omega
      have a1 : IntKind.u32.wrap (16777216 * x0 + 65536 * x1) = 16777216 * x0 + 65536 * x1 := by rw [IntKind.wrap_u32']; omega
      have a2 : IntKind.u32.wrap (16777216 * x0 + 65536 * x1 + 256 * x2) = 16777216 * x0 + 65536 * x1 + 256 * x2 := by rw [IntKind.wrap_u32']; omega
      have a3 : IntKind.u32.wrap (16777216 * x0 + 65536 * x1 + 256 * x2 + x3) = y := by rw [IntKind.wrap_u32', hy]; omega
      have s0 : IntKind.i64.wrap (4 * (k : Int)) = 4 * (k : Int) := IntWalk.i64_in _ (by omega)
      have s1 : IntKind.i64.wrap (4 * (k : Int) + 1) = 4 * (k : Int) + 1 := IntWalk.i64_in _ (by omega)
      have s2 : IntKind.i64.wrap (4 * (k : Int) + 2) = 4 * (k : Int) + 2 := IntWalk.i64_in _ (by omega)
      have s3 : IntKind.i64.wrap (4 * (k : Int) + 3) = 4 * (k : Int) + 3 := IntWalk.i64_in _ (by omega)
      have p0 : 0 ≤ 4 * (k : Int) := by omega
      have p1 : 0 ≤ 4 * (k : Int) + 1 := by omega
      have p2 : 0 ≤ 4 * (k : Int) + 2 := by omega
      have p3 : 0 ≤ 4 * (k : Int) + 3 := by omega
      have q0 : 4 * (k : Int) < 64 := by omega
      have q1 : 4 * (k : Int) + 1 < 64 := by omega
      have q2 : 4 * (k : Int) + 2 < 64 := by omega
      have q3 : 4 * (k : Int) + 3 < 64 := by omega
      have n0 : (4 * (k : Int)).toNat = 4 * k := by omega
      have n1 : (4 * (k : Int) + 1).toNat = 4 * k + 1 := by omega
      have n2 : (4 * (k : Int) + 2).toNat = 4 * k + 2 := by omega
      have n3 : (4 * (k : Int) + 3).toNat = 4 * k + 3 := by omega
      have hcc : wr.cell? ⟨b, off + 4 * k, none⟩ = some (.int .u8 x0) ∧ wr.cell? ⟨b, off + (4 * k + 1), none⟩ = some (.int .u8 x1) ∧ wr.cell? ⟨b, off + (4 * k + 2), none⟩ = some (.int .u8 x2) ∧ wr.cell? ⟨b, off + (4 * k + 3), none⟩ = some (.int .u8 x3) := ⟨c0, c1, c2, c3⟩
      have HCC := Lib.hid hcc
      have hbB := Nat.lt_of_lt_of_le hbw hb.size
      clear hx0 hx1 hx2 hx3 hws hy hnext hL e0 e1 e2 e3 hc hr hcc c0 c1 c2 c3
      go_wp2
      go_region_held3 (fun w' => w'.cell? ⟨b, off + 4 * k, none⟩ = some (.int .u8 x0) ∧ w'.cell? ⟨b, off + (4 * k + 1), none⟩ = some (.int .u8 x1) ∧ w'.cell? ⟨b, off + (4 * k + 2), none⟩ = some (.int .u8 x2) ∧ w'.cell? ⟨b, off + (4 * k + 3), none⟩ = some (.int .u8 x3))
        (first | exact HCC.out | exact keepA HCC.out hbB _ | exact keepB HCC.out hbw hbel)
        (first
        | (refine step_append_w rfl (.tmp 12) (.tmp 46) rfl w.heap.size u3 L ?_ ?_ wr.heap.size y ?_ ?_ hLl ?_ ?_
           · rfl
           · first | exact hown.draw1.more _ | exact hown.more _
           · rfl
           · exact one_cell _ _ _
           · exact Nat.le_trans hb.size (by simp)
           intro v' w' hown' hg'
           have hbel : Below w.heap.size wr w' := by first | exact (((Below.refl _ wr).drew).alloc hb.size _).grown hg' (Nat.le_trans hb.size (by simp)) (fun g hg => (hown.size g hg).1) | exact ((Below.refl _ wr).alloc hb.size _).grown hg' (Nat.le_trans hb.size (by simp)) (fun g hg => (hown.size g hg).1)))
      clear s0 s1 s2 s3 n0 n1 n2 n3 v0 v1 v2 v3 m0 m1 m2 a1 a2 a3
      go_wp2
      go_roundw
      case rel => exact ⟨k + 1, by omega, by go_num, by rw [HN.out]; exact hown', hb.trans (hbel.mono (Nat.le_refl _))⟩
      case measure => simp [intOf]; omega
    · have hge : k = 16 := by omega
      have hown16 : OwnW wr w.heap.size u3 ((spreadB l 0).take 16) := by
        rw [hge] at hown
        exact hown
      have HO := Lib.hid hown16
      have HB := Lib.hid hb
      clear hc hown hown16 hb hk hge
      go_wp2
      clear hlt
      go_loopw [3, 5] (fun v i wr => ∃ k : Nat, 16 ≤ k ∧ k ≤ 64 ∧ i = .int .i64 k ∧ OwnW wr w.heap.size v ((spreadB l (k - 16)).take k) ∧ Below w.heap.size w wr) (fun _ i _ => 64 - (intOf i).toNat)
      case atStart => exact ⟨16, by omega, by omega, rfl, HO.out, HB.out⟩
      case round =>
        clear HO HB
        obtain ⟨k, hk1, hk2, rfl, hown, hb⟩ := hrel
        by_cases hlt : k < 64
        · have hSl := spreadB_length l (k - 16)
          obtain ⟨L, hL⟩ : ∃ L, L = (spreadB l (k - 16)).take k := ⟨_, rfl⟩
          have hLl : L.length = k := by rw [hL, List.length_take, hSl]; omega
          have hLg : ∀ j, j < k → L.getD j 0 = (spreadB l (k - 16)).getD j 0 := fun j hj => by
            rw [hL, List.getD_eq_getElem?_getD, List.getD_eq_getElem?_getD, List.getElem?_take, if_pos hj]
          rw [← hL] at hown
          have hnext : (spreadB l (k + 1 - 16)).take (k + 1) = L ++ [nextW (spreadB l (k - 16)) k] := by
            rw [show k + 1 - 16 = (k - 16) + 1 by omega, spreadB, show k - 16 + 16 = k by omega, take_set_snoc _ _ _ (by rw [hSl]; omega), hL]
          obtain ⟨g, cap, rfl, hgb, hgl, hgc, hgm, cel⟩ := hown.form (by omega)
          obtain ⟨N, hN⟩ : ∃ N, N = L.length := ⟨_, rfl⟩
          rw [hLl] at hgc cel
          rw [← hN] at hown ⊢
          have hNk : N = k := hN.trans hLl
          obtain ⟨x2, hx2⟩ : ∃ x, x = (spreadB l (k - 16)).getD (k - 2) 0 := ⟨_, rfl⟩
          obtain ⟨x7, hx7⟩ : ∃ x, x = (spreadB l (k - 16)).getD (k - 7) 0 := ⟨_, rfl⟩
          obtain ⟨x15, hx15⟩ : ∃ x, x = (spreadB l (k - 16)).getD (k - 15) 0 := ⟨_, rfl⟩
          obtain ⟨x16, hx16⟩ : ∃ x, x = (spreadB l (k - 16)).getD (k - 16) 0 := ⟨_, rfl⟩
          have c2 := cel (k - 2) (by omega)
          have c7 := cel (k - 7) (by omega)
          have c15 := cel (k - 15) (by omega)
          have c16 := cel (k - 16) (by omega)
          rw [hLg _ (by omega), ← hx2] at c2
          rw [hLg _ (by omega), ← hx7] at c7
          rw [hLg _ (by omega), ← hx15] at c15
          rw [hLg _ (by omega), ← hx16] at c16
          have hnw : nextW (spreadB l (k - 16)) k = (x16 + lowS x15 + x7 + highS x2) % 4294967296 := by
            simp only [nextW, hx2, hx7, hx15, hx16]
          rw [hnw] at hnext
          have HN := Lib.hid hnext
          have s2 : IntKind.i64.wrap ((k : Int) - 2) = (k : Int) - 2 := IntWalk.i64_in _ (by omega)
          have s7 : IntKind.i64.wrap ((k : Int) - 7) = (k : Int) - 7 := IntWalk.i64_in _ (by omega)
          have s15 : IntKind.i64.wrap ((k : Int) - 15) = (k : Int) - 15 := IntWalk.i64_in _ (by omega)
          have s16 : IntKind.i64.wrap ((k : Int) - 16) = (k : Int) - 16 := IntWalk.i64_in _ (by omega)
          have p2 : 0 ≤ (k : Int) - 2 := by omega
          have p7 : 0 ≤ (k : Int) - 7 := by omega
          have p15 : 0 ≤ (k : Int) - 15 := by omega
          have p16 : 0 ≤ (k : Int) - 16 := by omega
          have q2 : (k : Int) - 2 < (N : Int) := by omega
          have t2 : (k : Int) < (N : Int) + 2 := by omega
          have q7 : (k : Int) - 7 < (N : Int) := by omega
          have t7 : (k : Int) < (N : Int) + 7 := by omega
          have q15 : (k : Int) - 15 < (N : Int) := by omega
          have t15 : (k : Int) < (N : Int) + 15 := by omega
          have q16 : (k : Int) - 16 < (N : Int) := by omega
          have t16 : (k : Int) < (N : Int) + 16 := by omega
          have n2 : ((k : Int) - 2).toNat = k - 2 := by omega
          have n7 : ((k : Int) - 7).toNat = k - 7 := by omega
          have n15 : ((k : Int) - 15).toNat = k - 15 := by omega
          have n16 : ((k : Int) - 16).toNat = k - 16 := by omega
          have q4 : (k : Int) < 64 := by omega
          have r2 : (2 : Int) ≤ k := by omega
          have r7 : (7 : Int) ≤ k := by omega
          have r15 : (15 : Int) ≤ k := by omega
          have r16 : (16 : Int) ≤ k := by omega
          have HB := Lib.hid hb
          have HO := Lib.hid hown
          have hL1000 : L.length ≤ 1000 := by omega
          have HNk := Lib.hid hNk
          clear hNk hN hSl hL hLg hLl hx2 hx7 hx15 hx16 hnw hnext hb hr cel
          go_wp2
          go_quiet ((go_at_call 100; exact Calls.quiet_of_same ((rturned_any _ _ _ (by omega) (by omega)).mono fun _ _ h => ⟨h.1, h.2.symm⟩)))
          generalize hw2 : wr.drewN _ = w2
          have d2 : w2.cell? ⟨g, k - 2, none⟩ = some (.int .u32 x2) := by rw [← hw2]; exact c2
          have d7 : w2.cell? ⟨g, k - 7, none⟩ = some (.int .u32 x7) := by rw [← hw2]; exact c7
          have d16 : w2.cell? ⟨g, k - 16, none⟩ = some (.int .u32 x16) := by rw [← hw2]; exact c16
          have HW2 := Lib.hid hw2
          clear hw2 c2 c7 c15 c16
          go_wp2
          go_quiet ((go_at_call 100; exact Calls.quiet_of_same ((rturned_any _ _ _ (by omega) (by omega)).mono fun _ _ h => ⟨h.1, h.2.symm⟩)))
          generalize hw3 : w2.drewN _ = w3
          have e7 : w3.cell? ⟨g, k - 7, none⟩ = some (.int .u32 x7) := by rw [← hw3]; exact d7
          have e16 : w3.cell? ⟨g, k - 16, none⟩ = some (.int .u32 x16) := by rw [← hw3]; exact d16
          have hown3 : OwnW w3 w.heap.size (.slice (some ⟨g, 0, none⟩) N cap) L := by
            rw [← hw3, ← HW2.out]; exact (HO.out.draw _).draw _
          have hb3 : Below w.heap.size w w3 := by
            rw [← hw3, ← HW2.out]; exact below_drewN (below_drewN HB.out _) _
          have HB3 := Lib.hid hb3
          have HO3 := Lib.hid hown3
          clear hw3 d2 d7 d16 hb3 hown3 HO HB HW2
          go_wp2
          obtain ⟨y, hy⟩ : ∃ y, y = (x16 + lowS x15 + x7 + highS x2) % 4294967296 := ⟨_, rfl⟩
          have HY := Lib.hid hy
          go_region_law (first
            | (refine step_append_w rfl (.tmp 92) (.tmp 108) rfl w.heap.size (.slice (some ⟨g, 0, none⟩) N cap) L ?_ ?_ w3.heap.size y ?_ ?_ hL1000 ?_ ?_
               · rfl
               · first | exact HO3.out.draw1.more _ | exact HO3.out.more _
               · rfl
               · refine (one_cell _ _ _).trans ?_
                 rw [HY.out]
                 simp only [IntKind.wrap_u32', lowS, highS, x32, Int.emod_add_emod]
                 refine congrArg some (congrArg (Value.int .u32) ?_)
                 omega
               · exact Nat.le_trans HB3.out.size (by simp)
               intro v' w' hown' hg'
               have hbel : Below w.heap.size w3 w' := by first | exact (((Below.refl _ w3).drew).alloc HB3.out.size _).grown hg' (Nat.le_trans HB3.out.size (by simp)) (fun g hg => (HO3.out.size g hg).1) | exact ((Below.refl _ w3).alloc HB3.out.size _).grown hg' (Nat.le_trans HB3.out.size (by simp)) (fun g hg => (HO3.out.size g hg).1)))
          clear s2 s7 s15 s16 n2 n7 n15 n16
          all_goals
            (go_wp2
             go_roundw
             case rel => exact ⟨k + 1, by omega, by omega, by go_num, by rw [HN.out, ← HY.out]; exact hown', HB3.out.trans (hbel.mono (Nat.le_refl _))⟩
             case measure => simp [intOf]; omega)
        · have hk64 : k = 64 := by omega
          subst hk64
          have hfull : (spreadB l (64 - 16)).take 64 = spreadAll l := by
            rw [spreadAll, List.take_of_length_le (by rw [spreadB_length]; omega)]
          rw [hfull] at hown
          have HO := Lib.hid hown
          have HB := Lib.hid hb
          clear hown hb hfull hlt
          go_wp2
          go_ret
          exact ⟨_, rfl, HO.out, HB.out⟩
end Go.Proofs.YtafmompplcaadaaGreatDoor
