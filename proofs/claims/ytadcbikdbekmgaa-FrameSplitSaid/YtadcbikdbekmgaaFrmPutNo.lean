/- The walk over package frame's Put, where a frame is not plain. -/
import Derived.Test.YtadcbikdbekmgaaFrmPlain2
import Derived.Test.YtadcbikdbekmgaaFrmPure
namespace Go.Proofs.Ytadcbikdbekmgaa
set_option linter.unusedVariables false
set_option linter.unusedSimpArgs false
open Go.RowKit

theorem plain_any (f : Fr) (S : List Nat) (t : Bool) (w : World) (hok : f.ok) (hk : 0 ≤ f.kind) (hS : S.length = 8) (hsm : S.sum ≤ 1000) :
    Calls Try.prog 20 #[frV f, shV S t] w fun e w' => e = .returned (.bool (plainS f S t)) ∧ Below w.heap.size w w' := by
  cases h : rangeB f with
  | true => exact plain_high f S t w hok hk hS hsm h
  | false => exact plain_low f S t w hS h
theorem szK_small (k : Nat) : (szK k).sum ≤ 1000 := by
  have := folK_small k
  unfold folL at this
  omega
theorem kind_pos {k : Int} (h : kindB k = true) : 0 ≤ k := by unfold kindB at h; rw [decide_eq_true_eq] at h; exact h.1
theorem two_rows_of {w w1 : World} {o1 : Obj} (h : Below (w.alloc o1).heap.size (w.alloc o1) w1) (o : Obj) : (w1.alloc o).heap[w.heap.size]? = some o1 := by
  have h1 := after_alloc h
  exact (Below.heap_alloc w1 o _ (Array.getElem?_eq_some_iff.1 h1).1).trans h1

set_option maxHeartbeats 1000000 in
theorem put_kind (f : Fr) (w : World) (h : kindB f.kind = false) :
    Calls Try.prog 10 #[frV f] w fun e w' => e = .returned (.tuple #[.slice none 0 0, .bool false]) ∧ Below w.heap.size w w' := by
  have hh := hasF f
  have hsh : shV [0, 0, 0, 0, 0, 0, 0, 0] false = .agg #[.int .i64 0, .int .i64 0, .int .i64 0, .int .i64 0, .int .i64 0, .int .i64 0, .int .i64 0, .int .i64 0, .bool false] := rfl
  have hc : ∀ w, Calls Try.prog 19 #[.int .i64 f.kind] w fun e w' => e = .returned (.tuple #[.agg #[.int .i64 0, .int .i64 0, .int .i64 0, .int .i64 0, .int .i64 0, .int .i64 0, .int .i64 0, .int .i64 0, .bool false], .bool false]) ∧ Below w.heap.size w w' := fun w => by
    rw [← hsh]; exact shape_no f.kind w h
  unfold frV
  obtain ⟨C, hC⟩ : ∃ C, C = frA f := ⟨_, rfl⟩
  rw [← hC] at hh ⊢
  obtain ⟨d0, _, _, _, _, _, _, _⟩ := hh
  have HCC := Lib.hid hc
  clear hc hsh hC h
  go_enter Try.func10, Try.ntmps10
  go_wp2_with (go_at_call 19; (with_reducible refine (HCC.out _).mono ?_); rintro e w1 ⟨rfl, hb1⟩)
  go_ret2
  exact ⟨rfl, (after_one hb1).1.alloc (Nat.le_trans (Nat.le_succ _) (after_one hb1).2.1) _⟩

set_option maxHeartbeats 1000000 in
theorem put_plain_no (f : Fr) (w : World) (hok : f.ok) (h : kindB f.kind = true) (hp : plainB f = false) :
    Calls Try.prog 10 #[frV f] w fun e w' => e = .returned (.tuple #[.slice none 0 0, .bool false]) ∧ Below w.heap.size w w' := by
  have hps : plainS f (szK f.kind.toNat) (tagK f.kind.toNat) = false := by rw [plainB, h, Bool.true_and] at hp; exact hp
  have hh := hasF f
  have hCs : (frA f).size = 40 := frA_size hok.len
  have hS := szK_length f.kind.toNat
  have hsm := szK_small f.kind.toNat
  have hsc := fun w => shape_yes f.kind w h
  obtain ⟨S, hSS⟩ : ∃ S, szK f.kind.toNat = S := ⟨_, rfl⟩
  obtain ⟨t, ht⟩ : ∃ t, tagK f.kind.toNat = t := ⟨_, rfl⟩
  rw [hSS] at hps hS hsm hsc
  rw [ht] at hps hsc
  have hpc := fun w => plain_any f S t w hok (kind_pos h) hS hsm
  rw [hps] at hpc
  obtain ⟨s0, s1, s2, s3, s4, s5, s6, s7, hl⟩ := list8 S hS
  rw [shV_lit hl] at hsc hpc
  unfold frV at hpc ⊢
  obtain ⟨C, hC⟩ : ∃ C, C = frA f := ⟨_, rfl⟩
  rw [← hC] at hh hCs hpc ⊢
  obtain ⟨d0, _, _, _, _, _, _, _⟩ := hh
  have HSC := Lib.hid hsc
  have HPC := Lib.hid hpc
  have HCS := Lib.hid hCs
  clear hsc hpc hCs hC h hl hS hsm hSS ht hps hp hok
  go_enter Try.func10, Try.ntmps10
  go_wp2_with (first
    | (go_at_call 19; (with_reducible refine (HSC.out _).mono ?_); rintro e w1 ⟨rfl, hb1⟩)
    | ((with_reducible refine wpList_load_blk 26 _ rfl w.heap.size ?hx2 26 C (0, 0) _ (two_rows_of hb1 _) Try.underlying26 ?hd2 (info_frame HCS.out) ?_ ?hw2); (case hx2 => rfl); (case hd2 => rfl); (case hw2 => rfl))
    | (go_at_call 20; (with_reducible refine (HPC.out _).mono ?_); rintro e w2 ⟨rfl, hb2⟩
       have hb3 := (after_one hb2).1))
  go_ret2
  exact ⟨rfl, (after_one hb1).1.trans (hb3.mono (Nat.le_trans (Nat.le_succ _) (after_one hb1).2.1))⟩
end Go.Proofs.Ytadcbikdbekmgaa
