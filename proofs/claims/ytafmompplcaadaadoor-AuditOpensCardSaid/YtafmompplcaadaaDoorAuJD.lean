/- Joined texts: What follows of entries in a chain of sums: two lists of one head tell two texts of one sum; a record that is spoiled is found, or tells two. The walks over package entry's upTo and May. The walks over package entry's sizes, numbersOf and entryOf. Loads and stores of whole rows: guarded ones; a store, with the world behind it under a name; a row that is built. Arrays by value: one element. The walk over package entry's Put. The walk over the document's May of entries. The walk over the document's Put of entries. The walks over package sha's rounds: a number turned, a round, a block's numbers, a register rounded by a block, and by all blocks. The walk over package sha's spread: the 64 numbers of a block. Arrays of numbers that lie in a block of their own; slices of bytes; small facts on both. The walks over package sha's rounded (a register, rounded by a block) and roundedBy (by all whole blocks). The walks over the plain answers' turned, constant and numbers. The walk over the plain answers' numbers: the 64 numbers of a block, appended one by one. -/
import Derived.Test.YtafmompplcaadaaDoorAuJC
import Derived.WalkMore
import Derived.Test.YtafmompplcaadaaDoorAuJA
import Derived.Test.YtafmompplcaadaaDoorRows
import Derived.WalkKit
import Derived.WalkSpells
import Derived.WalkLawsBesides
import Derived.Deep.QuietTactic
import Derived.BigQuiet
import Derived.StillTailTactics
import Derived.Lib.Hide
import Derived.Laws.CopyOwn
import Derived.OwnWalk
import Derived.Deep.RegionHeld3
import Derived.Deep.AppendLies
/- What follows of entries in a chain of sums: two lists of one head tell two texts of one sum; a record that is spoiled is found, or tells two. -/
namespace Go.Proofs.YtafmompplcaadaaDoor
set_option linter.unusedVariables false
set_option linter.unusedSimpArgs false
open Go

theorem linkT_inj {h g : List Int} {u v : En} (hh : h.length = 32) (hg : g.length = 32) (e : linkT h u = linkT g v) : h = g ∧ putE u = putE v := by
  simp only [linkT, List.cons.injEq, true_and] at e
  exact List.append_inj e (by rw [hh, hg])
theorem text_take {a : List En} {i : Nat} {u : En} (h : a[i]? = some u) : textC (a.take (i + 1)) = linkT (headC (a.take i)) u ∧ headC (a.take (i + 1)) = linkC (headC (a.take i)) u := by
  rw [etake_more h, textC_snoc, headC_snoc]
  exact ⟨rfl, rfl⟩
theorem clash_ix {a b : List En} (ha : mayC a = true) (hb : mayC b = true) (oa : ∀ u ∈ a, u.ok) (ob : ∀ u ∈ b, u.ok) : ∀ (i k : Nat), i ≤ a.length → k ≤ b.length → headC (a.take i) = headC (b.take k) → a.drop i = b.drop k →
    headC (a.take (clashIx a b i k).1) = headC (b.take (clashIx a b i k).2) ∧ a.drop (clashIx a b i k).1 = b.drop (clashIx a b i k).2 ∧ (clashIx a b i k).1 ≤ a.length ∧ (clashIx a b i k).2 ≤ b.length ∧
    (textC (a.take (clashIx a b i k).1) ≠ textC (b.take (clashIx a b i k).2) ∨ (clashIx a b i k).1 = 0 ∨ (clashIx a b i k).2 = 0)
  | 0, k, h1, h2, h3, h4 => by
    have e : clashIx a b 0 k = (0, k) := by cases k <;> rfl
    rw [e]
    exact ⟨h3, h4, h1, h2, .inr (.inl rfl)⟩
  | i + 1, 0, h1, h2, h3, h4 => ⟨h3, h4, h1, h2, .inr (.inr rfl)⟩
  | i + 1, k + 1, h1, h2, h3, h4 => by
    by_cases e : textC (a.take (i + 1)) = textC (b.take (k + 1))
    · have er : clashIx a b (i + 1) (k + 1) = clashIx a b i k := by rw [clashIx, if_pos e]
      rw [er]
      have hu : a[i]? = some a[i] := List.getElem?_eq_getElem h1
      have hv : b[k]? = some b[k] := List.getElem?_eq_getElem h2
      rw [(text_take hu).1, (text_take hv).1] at e
      obtain ⟨e1, e2⟩ := linkT_inj (headC_len _) (headC_len _) e
      have mu : mayE a[i] = true := List.all_eq_true.1 ha _ (List.getElem_mem h1)
      have mv : mayE b[k] = true := List.all_eq_true.1 hb _ (List.getElem_mem h2)
      have euv := eput_inj mu (oa _ (List.getElem_mem h1)) mv (ob _ (List.getElem_mem h2)) e2
      have hd : a.drop i = b.drop k := by
        rw [List.drop_eq_getElem_cons h1, List.drop_eq_getElem_cons h2, euv, h4]
      exact clash_ix ha hb oa ob i k (by omega) (by omega) e1 hd
    · have er : clashIx a b (i + 1) (k + 1) = (i + 1, k + 1) := by rw [clashIx, if_neg e]
      rw [er]
      exact ⟨h3, h4, h1, h2, .inl e⟩
theorem text_nil : textC [] = [0] := rfl
theorem text_one {l : List En} (h : l ≠ []) : textC l ≠ [0] := by
  rcases List.eq_nil_or_concat l with rfl | ⟨m, u, rfl⟩
  · exact fun _ => h rfl
  · rw [List.concat_eq_append, textC_snoc, linkT]
    intro e
    injection e with e1 _
    cases e1
/-- two lists of one head that are not the same tell two texts of one sum -/
theorem clash_two {a b : List En} (h : clashB a b = true) (oa : ∀ u ∈ a, u.ok) (ob : ∀ u ∈ b, u.ok) : (clashP a b).1 ≠ (clashP a b).2 ∧ sumL (clashP a b).1 = sumL (clashP a b).2 := by
  have hc := h
  rw [clashB, Bool.and_eq_true, Bool.and_eq_true, Bool.and_eq_true, putC, putC, Bool.and_eq_true, Bool.and_eq_true, decide_eq_true_eq, decide_eq_true_eq, decide_eq_true_eq, Bool.not_eq_true', decide_eq_false_iff_not] at h
  obtain ⟨⟨-, ha⟩, ⟨-, hb⟩, hh, hne⟩ := h
  obtain ⟨c1, c2, c3, c4, c5⟩ := clash_ix ha hb oa ob a.length b.length (Nat.le_refl _) (Nat.le_refl _) (by rw [List.take_length, List.take_length]; exact hh) (by rw [List.drop_length, List.drop_length])
  rw [clashP, if_pos hc]
  refine ⟨?_, by rw [← head_text, ← head_text]; exact c1⟩
  intro e
  dsimp only at e
  rcases c5 with c5 | c5 | c5
  · exact c5 e
  · have e2 : textC (b.take (clashIx a b a.length b.length).2) = [0] := by rw [← e, c5]; rfl
    by_cases e3 : b.take (clashIx a b a.length b.length).2 = []
    · have e4 : (clashIx a b a.length b.length).2 = 0 := by
        have := congrArg List.length e3
        rw [List.length_take, List.length_nil] at this
        omega
      rw [c5, e4] at c2
      exact hne c2
    · exact text_one e3 e2
  · have e2 : textC (a.take (clashIx a b a.length b.length).1) = [0] := by rw [e, c5]; rfl
    by_cases e3 : a.take (clashIx a b a.length b.length).1 = []
    · have e4 : (clashIx a b a.length b.length).1 = 0 := by
        have := congrArg List.length e3
        rw [List.length_take, List.length_nil] at this
        omega
      rw [c5, e4] at c2
      exact hne c2
    · exact text_one e3 e2
theorem head_eq_of {a b : List En} (h : a = b) : headC a = headC b := by rw [h]
/-- the records, about one of them -/
theorem recs_about {l : List En} {i : Nat} {u : En} (h : l[i]? = some u) : recsC l = recsC (l.take i) ++ (putE u ++ (linkC (headC (l.take i)) u ++ recsF (linkC (headC (l.take i)) u) (l.drop (i + 1)))) := by
  obtain ⟨hi, rfl⟩ := List.getElem?_eq_some_iff.1 h
  have e : l = l.take i ++ l[i] :: l.drop (i + 1) := by rw [← List.drop_eq_getElem_cons hi, List.take_append_drop]
  conv => lhs; rw [e]
  rw [recsC, recsF_app, recsF]
  rfl
/-- a spoiled record -/
theorem spoil {l : List En} {i : Nat} {u e : En} (h : l[i]? = some u) (hm : mayC l = true) (ho : ∀ u ∈ l, u.ok) (h264 : l.length ≤ 264) (he : mayE e = true) (oe : e.ok) (hne : u ≠ e) :
    errC (recsC (l.take i) ++ (putE e ++ (linkC (headC (l.take i)) u ++ recsF (linkC (headC (l.take i)) u) (l.drop (i + 1))))) = 7 ∨
    (linkT (headC (l.take i)) e ≠ linkT (headC (l.take i)) u ∧ sumL (linkT (headC (l.take i)) e) = sumL (linkT (headC (l.take i)) u)) := by
  obtain ⟨hi, hu⟩ := List.getElem?_eq_some_iff.1 h
  have hul : u ∈ l := by rw [← hu]; exact List.getElem_mem hi
  have mu : mayE u = true := List.all_eq_true.1 hm _ hul
  by_cases hs : linkC (headC (l.take i)) e = linkC (headC (l.take i)) u
  · right
    refine ⟨fun e1 => ?_, hs⟩
    have := (linkT_inj (headC_len _) (headC_len _) e1).2
    exact hne (eput_inj mu (ho u hul) he oe this.symm)
  · left
    have hl : (l.take i).length = i := by rw [List.length_take]; omega
    have hm2 : mayC (l.take i) = true := by
      cases h : mayC (l.take i) with
      | true => rfl
      | false => rw [mayC_part h] at hm; exact hm
    obtain ⟨H, hH⟩ : ∃ H, headC (l.take i) = H := ⟨_, rfl⟩
    rw [hH] at hs ⊢
    obtain ⟨Z, hZ⟩ : ∃ Z, recsF (linkC H u) (l.drop (i + 1)) = Z := ⟨_, rfl⟩
    rw [hZ]
    have hw : wholeC H (putE e ++ (linkC H u ++ Z)) = false := by
      have e1 : (putE e ++ (linkC H u ++ Z)).take 30 = putE e := List.take_left' (put_len e)
      have e2 : (putE e ++ (linkC H u ++ Z)).drop 30 = linkC H u ++ Z := List.drop_left' (put_len e)
      have e3 : (linkC H u ++ Z).take 32 = linkC H u := List.take_left' (csum_len _)
      rw [wholeC, e1, e2, e3, seems_put he oe]
      have e4 : (linkC H e == linkC H u) = false := by rw [beq_eq_false_iff_ne]; exact hs
      rw [e4, Bool.and_false, Bool.and_false]
    have hr : readC (recsC (l.take i) ++ (putE e ++ (linkC H u ++ Z))) = l.take i := by
      rw [readC, recsC, read_recs (l.take i) 264 startC _ hm2 (fun v hv => ho v (List.mem_of_mem_take hv)) (by omega)]
      have e5 : headF startC (l.take i) = H := hH
      rw [e5]
      obtain ⟨f, hf⟩ : ∃ f, 264 - (l.take i).length = f + 1 := ⟨264 - i - 1, by omega⟩
      rw [hf, readF, hw]
      simp
    have hxl : (recsC (l.take i) ++ (putE e ++ (linkC H u ++ Z))).length = 62 * i + 62 + Z.length := by
      rw [List.length_append, List.length_append, List.length_append, recsC, recsF_len, hl, put_len, linkC, csum_len]
      omega
    have hd : ((recsC (l.take i) ++ (putE e ++ (linkC H u ++ Z))).drop (62 * i)).take 30 = putE e := by
      rw [List.drop_left' (by rw [recsC, recsF_len, hl]), List.take_left' (put_len e)]
    rw [errC, hr, hl, hd, hxl, if_neg (by omega), if_neg (by omega), got_put he oe, if_pos rfl]
end Go.Proofs.YtafmompplcaadaaDoor

/- The walks over package entry's upTo and May. -/
namespace Go.Proofs.YtafmompplcaadaaDoor
set_option linter.unusedVariables false
set_option linter.unusedSimpArgs false
open Go.RowKit

/-- an array that holds an entry's cells -/
structure HasE (C : Array Value) (u : En) : Prop where
  d0 : C[0]? = some (.int .i64 u.kind)
  d1 : C[1]? = some (.int .i64 u.tick)
  d2 : C[2]? = some (.int .i64 u.epoch)
  d3 : C[3]? = some (.int .i64 u.user)
  d4 : C[4]? = some (.int .u64 u.sess)
  d5 : C[5]? = some (.int .u64 u.count)
  d6 : C[6]? = some (.int .i64 u.cmd)
  d7 : C[7]? = some (.int .i64 u.arg)
  d8 : C[8]? = some (.int .i64 u.code)
theorem hasE (u : En) : HasE (enA u) u := ⟨rfl, rfl, rfl, rfl, rfl, rfl, rfl, rfl, rfl⟩
set_option maxHeartbeats 1000000 in
theorem eupto_any (n m : Int) (w : World) : Calls Tryd.prog 32 #[.int .i64 n, .int .i64 m] w fun e w' => e = .returned (.bool (upE n m)) ∧ w = w' := by
  have hr : upE n m = (decide (0 ≤ n) && decide (n ≤ m)) := rfl
  cases h1 : decide (0 ≤ n) with
  | false =>
    rw [h1, Bool.false_and] at hr
    rw [hr]
    clear hr
    go_enter Tryd.func32, Tryd.ntmps32
    go_wp2
    go_ret
    exact ⟨rfl, rfl⟩
  | true =>
    rw [h1, Bool.true_and] at hr
    rw [hr]
    clear hr
    go_enter Tryd.func32, Tryd.ntmps32
    go_wp2
    go_ret
    exact ⟨rfl, rfl⟩
set_option maxHeartbeats 4000000 in
theorem emay_any (u : En) (w : World) : Calls Tryd.prog 18 #[enV u] w (GBe (mayE u) w) := by
  have hh := hasE u
  unfold enV
  obtain ⟨C, hC⟩ : ∃ C, C = enA u := ⟨_, rfl⟩
  rw [← hC] at hh ⊢
  obtain ⟨d0, d1, d2, d3, d4, d5, d6, d7, d8⟩ := hh
  rcases u with ⟨kind, tick, epoch, user, sess, count, cmd, arg, code⟩
  simp only at *
  clear hC
  have hr : mayE ⟨kind, tick, epoch, user, sess, count, cmd, arg, code⟩ = (decide (0 ≤ kind) && (decide (kind < 5) && (decide (0 ≤ code) && (decide (code ≤ 12) && (upE tick 1073741824 && (upE epoch 1073741824 && (upE user 255 && (upE cmd 255 && upE arg 65535)))))))) := rfl
  obtain ⟨M, hM⟩ : ∃ M, mayE ⟨kind, tick, epoch, user, sess, count, cmd, arg, code⟩ = M := ⟨_, rfl⟩
  rw [hM] at hr ⊢
  clear hM
  obtain ⟨u1, hu1⟩ : ∃ b, upE tick 1073741824 = b := ⟨_, rfl⟩
  rw [hu1] at hr
  have H1 := Lib.hid hu1
  clear hu1
  obtain ⟨u2, hu2⟩ : ∃ b, upE epoch 1073741824 = b := ⟨_, rfl⟩
  rw [hu2] at hr
  have H2 := Lib.hid hu2
  clear hu2
  obtain ⟨u3, hu3⟩ : ∃ b, upE user 255 = b := ⟨_, rfl⟩
  rw [hu3] at hr
  have H3 := Lib.hid hu3
  clear hu3
  obtain ⟨u4, hu4⟩ : ∃ b, upE cmd 255 = b := ⟨_, rfl⟩
  rw [hu4] at hr
  have H4 := Lib.hid hu4
  clear hu4
  obtain ⟨u5, hu5⟩ : ∃ b, upE arg 65535 = b := ⟨_, rfl⟩
  rw [hu5] at hr
  have H5 := Lib.hid hu5
  clear hu5
  have hb := one_alloc w (.cells C 33)
  have HB := Lib.hid hb
  clear hb
  obtain ⟨p1, hp1⟩ : ∃ b, decide (0 ≤ kind) = b := ⟨_, rfl⟩
  obtain ⟨p2, hp2⟩ : ∃ b, decide (kind < 5) = b := ⟨_, rfl⟩
  obtain ⟨p3, hp3⟩ : ∃ b, decide (0 ≤ code) = b := ⟨_, rfl⟩
  obtain ⟨p4, hp4⟩ : ∃ b, decide (code ≤ 12) = b := ⟨_, rfl⟩
  have e1 : decide (kind < 0) = !p1 := by rw [← hp1, Bool.eq_iff_iff]; simp
  have e2 : decide (5 ≤ kind) = !p2 := by rw [← hp2, Bool.eq_iff_iff]; simp
  have e3 : decide (code < 0) = !p3 := by rw [← hp3, Bool.eq_iff_iff]; simp
  have e4 : decide (12 < code) = !p4 := by rw [← hp4, Bool.eq_iff_iff]; simp
  rw [hp1, hp2, hp3, hp4] at hr
  clear hp1 hp2 hp3 hp4
  cases p1
  case' true =>
    cases p2
    case' true =>
      cases p3
      case' true =>
        cases p4
        case' true =>
          cases u1
          case' true =>
            cases u2
            case' true =>
              cases u3
              case' true =>
                cases u4
  all_goals
    simp only [Bool.not_true, Bool.not_false] at e1 e2 e3 e4
    simp only [Bool.true_and, Bool.false_and, Bool.and_true, Bool.and_false] at hr
    subst hr
    go_enter Tryd.func18, Tryd.ntmps18
    go_wp2_with (first
      | (go_at_call 32; (with_reducible refine (eupto_any tick 1073741824 _).mono ?_); rintro e w1 ⟨he, rfl⟩; rw [H1.out] at he; subst he)
      | (go_at_call 32; (with_reducible refine (eupto_any epoch 1073741824 _).mono ?_); rintro e w2 ⟨he, rfl⟩; rw [H2.out] at he; subst he)
      | (go_at_call 32; (with_reducible refine (eupto_any user 255 _).mono ?_); rintro e w3 ⟨he, rfl⟩; rw [H3.out] at he; subst he)
      | (go_at_call 32; (with_reducible refine (eupto_any cmd 255 _).mono ?_); rintro e w4 ⟨he, rfl⟩; rw [H4.out] at he; subst he)
      | (go_at_call 32; (with_reducible refine (eupto_any arg 65535 _).mono ?_); rintro e w5 ⟨he, rfl⟩; rw [H5.out] at he; subst he))
    go_ret
    exact ⟨rfl, HB.out⟩
end Go.Proofs.YtafmompplcaadaaDoor

/- The walks over package entry's sizes, numbersOf and entryOf. -/
namespace Go.Proofs.YtafmompplcaadaaDoor
set_option linter.unusedVariables false
set_option linter.unusedSimpArgs false
open Go.RowKit

def szV : Value := .agg #[.int .i64 1, .int .i64 4, .int .i64 4, .int .i64 1, .int .i64 8, .int .i64 8, .int .i64 1, .int .i64 2, .int .i64 1]
theorem esizes_any (w : World) : Calls Tryd.prog 48 #[] w fun e w' => e = .returned szV ∧ Below w.heap.size w w' := by
  go_enter Tryd.func48, Tryd.ntmps48
  go_wp2
  refine bodyPost_ret (v := szV) (by simp [results, Tryd.results48, go_sem]; rfl) rfl ⟨rfl, ?_⟩
  exact one_alloc w _
def numA (u : En) : Array Value := ((numsE u).map (Value.int .u64)).toArray
def enumV (u : En) : Value := .agg (numA u)
set_option maxHeartbeats 2000000 in
theorem nums_of (u : En) (w : World) (hm : mayE u = true) (ho : u.ok) :
    Calls Tryd.prog 49 #[enV u] w fun e w' => e = .returned (enumV u) ∧ Below w.heap.size w w' := by
  have hh := hasE u
  obtain ⟨⟨p0, a0⟩, ⟨p8, a8⟩, ⟨p1, a1⟩, ⟨p2, a2⟩, ⟨p3, a3⟩, ⟨p6, a6⟩, ⟨p7, a7⟩⟩ := may_iff.1 hm
  obtain ⟨⟨b4, a4⟩, ⟨b5, a5⟩⟩ := ho
  unfold enV
  obtain ⟨C, hC⟩ : ∃ C, C = enA u := ⟨_, rfl⟩
  rw [← hC] at hh ⊢
  obtain ⟨d0, d1, d2, d3, d4, d5, d6, d7, d8⟩ := hh
  rcases u with ⟨kind, tick, epoch, user, sess, count, cmd, arg, code⟩
  simp only at *
  clear hC hm
  go_enter Tryd.func49, Tryd.ntmps49
  go_wp2
  refine bodyPost_ret (v := .agg #[.int .u64 kind, .int .u64 tick, .int .u64 epoch, .int .u64 user, .int .u64 sess, .int .u64 count, .int .u64 cmd, .int .u64 arg, .int .u64 code]) (by simp [results, Tryd.results49, go_sem]) rfl ⟨rfl, two_below _ _ _⟩
set_option maxHeartbeats 2000000 in
theorem entry_of (n0 n1 n2 n3 n4 n5 n6 n7 n8 : Nat) (w : World) (h0 : n0 < 9223372036854775808) (h1 : n1 < 9223372036854775808) (h2 : n2 < 9223372036854775808) (h3 : n3 < 9223372036854775808) (h6 : n6 < 9223372036854775808) (h7 : n7 < 9223372036854775808) (h8 : n8 < 9223372036854775808)
    (h4 : n4 < 18446744073709551616) (h5 : n5 < 18446744073709551616) :
    Calls Tryd.prog 55 #[.agg #[.int .u64 n0, .int .u64 n1, .int .u64 n2, .int .u64 n3, .int .u64 n4, .int .u64 n5, .int .u64 n6, .int .u64 n7, .int .u64 n8]] w fun e w' => e = .returned (enV (enOf [n0, n1, n2, n3, n4, n5, n6, n7, n8])) ∧ Below w.heap.size w w' := by
  have g0 : (n0 : Int) ≤ 9223372036854775807 := by omega
  have g1 : (n1 : Int) ≤ 9223372036854775807 := by omega
  have g2 : (n2 : Int) ≤ 9223372036854775807 := by omega
  have g3 : (n3 : Int) ≤ 9223372036854775807 := by omega
  have g6 : (n6 : Int) ≤ 9223372036854775807 := by omega
  have g7 : (n7 : Int) ≤ 9223372036854775807 := by omega
  have g8 : (n8 : Int) ≤ 9223372036854775807 := by omega
  have g4 : (n4 : Int) < 18446744073709551616 := by omega
  have g5 : (n5 : Int) < 18446744073709551616 := by omega
  clear h0 h1 h2 h3 h4 h5 h6 h7 h8
  go_enter Tryd.func55, Tryd.ntmps55
  go_wp2
  refine bodyPost_ret (v := .agg #[.int .i64 n0, .int .i64 n1, .int .i64 n2, .int .i64 n3, .int .u64 n4, .int .u64 n5, .int .i64 n6, .int .i64 n7, .int .i64 n8]) (by simp [results, Tryd.results55, go_sem]) rfl ⟨rfl, two_below _ _ _⟩
end Go.Proofs.YtafmompplcaadaaDoor

/- Loads and stores of whole rows: guarded ones; a store, with the world behind it under a name; a row that is built. -/
namespace Go.Proofs.YtafmompplcaadaaDoor
open Go.RowKit

section
variable {P : Program} {ops : Array Oper} {rest : List Oper} {o : Oper} {a : Act} {w : World} {Q : Exit → Act → World → Prop}
/-- a load out of the middle of a block, guarded or not -/
theorem wpList_load_on (ty : TypeId) (x : Operand) (ho : o.op = .load ty x) (b off : Nat) (hx : a.eval x = .pointer (some ⟨b, off, none⟩)) (cs : List Value) (T : Array Value) (hT : cs.toArray = T) (d : TypeDesc) (hc : w.rangeAt b off cs)
    (hu : P.underlying ty = some d) (hd : d.isRow = true) (hi : (P.info? ty).map (·.size) = some cs.length)
    (h : wpList P ops Q rest (a.put o.dst (.agg T)) w) (hw : Region.wanted o (yielded ops a.tmps) = true) : wpList P ops Q (o :: rest) a w := by
  subst hT
  exact wpList_step fun K hK => by rw [if_pos hw]; exact wp_load_mid ty x ho b off hx cs d hc hu hd hi (hK _ _ h)
/-- a load of a whole block, guarded or not -/
theorem wpList_load_blk (ty : TypeId) (x : Operand) (ho : o.op = .load ty x) (g : Nat) (hx : a.eval x = .pointer (some ⟨g, 0, none⟩)) (t : TypeId) (cs : Array Value) (fr : Nat × Nat) (d : TypeDesc) (hg : w.heap[g]? = some (.cells cs t fr))
    (hu : P.underlying ty = some d) (hd : (match d with | .struct _ | .array _ _ => true | _ => false) = true) (hi : (P.info? ty).map (·.size) = some cs.size)
    (h : wpList P ops Q rest (a.put o.dst (.agg cs)) w) (hw : Region.wanted o (yielded ops a.tmps) = true) : wpList P ops Q (o :: rest) a w :=
  wpList_step fun K hK => by rw [if_pos hw]; exact wp_load_row ty x ho g hx t cs fr d hg hu hd hi (hK _ _ h)
/-- a store of a whole block; the world behind it under a name -/
theorem wpList_store_blk (hgd : o.guard = none) (ty : TypeId) (x y : Operand) (ho : o.op = .store ty x y)
    (g : Nat) (cells : Array Value) (hx : a.eval x = .pointer (some ⟨g, 0, none⟩)) (hy : a.eval y = .agg cells) (t : TypeId) (old : Array Value) (hg : w.heap[g]? = some (.cells old t (0, 0))) (hi : (P.info? ty).map (·.size) = some cells.size) (hold : old.size = cells.size) (h1 : cells.all (·.oneCell') = true)
    (h : ∀ w', w.grownBy w' (some g) → w'.heap[g]? = some (.cells cells t (0, 0)) → w'.heap.size = w.heap.size → wpList P ops Q rest (a.put o.dst undef) w') : wpList P ops Q (o :: rest) a w :=
  wpList_store_row hgd ty x y ho g cells hx hy t old hg hi hold h1 (h _ (grown_setRow _ _ _) (setRow_heap _ _ _ _ _ _ hg) (by simp))
/-- a row that is built of its parts -/
theorem wpList_build_to (hg : o.guard = none) (t : TypeId) (parts : Array (Nat × Operand)) (ho : o.op = .build t parts)
    (l : List (Nat × Value)) (Y : Array Value) (hl' : parts.toList.map (fun (i, x) => (i, a.eval x)) = l) (hb : P.built t l = some Y) (h : wpList P ops Q rest (a.put o.dst (.agg Y)) w) : wpList P ops Q (o :: rest) a w := by
  have hl : (parts.map fun (i, x) => (i, a.eval x)).toList = l := by rw [Array.toList_map]; exact hl'
  refine wpList_build hg t parts ho ?_ ?_
  · rw [hl, hb]; rfl
  · rw [hl, hb]; exact h
/-- the same, guarded or not -/
theorem wpList_build_on (t : TypeId) (parts : Array (Nat × Operand)) (ho : o.op = .build t parts)
    (l : List (Nat × Value)) (Y : Array Value) (hl' : parts.toList.map (fun (i, x) => (i, a.eval x)) = l) (hb : P.built t l = some Y) (h : wpList P ops Q rest (a.put o.dst (.agg Y)) w) (hw : Region.wanted o (yielded ops a.tmps) = true) : wpList P ops Q (o :: rest) a w := by
  have hl : (parts.map fun (i, x) => (i, a.eval x)).toList = l := by rw [Array.toList_map]; exact hl'
  refine wpList_step fun K hK => ?_
  rw [if_pos hw]
  refine wp_build t parts ho ?_ ?_
  · rw [hl, hb]; rfl
  · rw [hl, hb]; exact hK _ _ h
end
/-- a whole block and a value, handed back -/
theorem results_blk_tmp {fn : Func} {p u : Tmp} {ty : TypeId} (h : fn.results = #[.cell p ty, .tmp u]) (tmps : Array Value) (P : Program) (w : World) (g : Nat) (t : TypeId) (cs : Array Value) (fr : Nat × Nat) (d : TypeDesc)
    (hp : tmps.getD p undef = .pointer (some ⟨g, 0, none⟩)) (hg : w.heap[g]? = some (.cells cs t fr))
    (hu : P.underlying ty = some d) (hd : d.isRow = true) (hi : (P.info? ty).map (·.size) = some cs.size) (v : Value) (hv : tmps.getD u undef = v) :
    (results fn tmps).run P w = .ok (.tuple #[.agg cs, v]) w := by
  rw [results_cell_tmp h, hp, hv]
  simp [asAddr, run_loadVar_row w g t ty cs fr d hg hu (by cases d <;> simp_all) hi]
theorem built_of {P : Program} {t : TypeId} {fs : Array Field} {z : Value} {places : List (Nat × Nat)} {parts : List (Nat × Value)} {cells : Array Value} (hu : P.underlying t = some (.struct fs)) (hz : (P.info? t).bind (·.zero) = some z)
    (hp : fs.toList.mapM (fun f => (P.info? f.type).map fun i => (f.offset, i.size)) = some places) (hf : Instr.fill (places.toArray[·]?) z.cells parts = some cells) : P.built t parts = some cells := by
  unfold Program.built
  cases hi : P.info? t with
  | none => simp [hi] at hz
  | some i =>
    simp only [hi, Option.bind_some] at hz
    simp only [hu, hz, hp, hf]
/-- of no parts: the zero one -/
theorem built_none {P : Program} {t e : TypeId} {n : Nat} {z : Value} (hu : P.underlying t = some (.array n e)) (hz : (P.info? t).bind (·.zero) = some z) (he : (P.info? e).isSome = true) : P.built t [] = some z.cells := by
  unfold Program.built
  cases hi : P.info? t with
  | none => simp [hi] at hz
  | some i =>
    simp only [hi, Option.bind_some] at hz
    obtain ⟨j, hj⟩ := Option.isSome_iff_exists.1 he
    simp only [hu, hz, hj, Instr.fill]
end Go.Proofs.YtafmompplcaadaaDoor

/- Arrays by value: one element. -/
namespace Go.Proofs.YtafmompplcaadaaDoor
open Go.RowKit

/-- 'a[i]' of an array by value, its elements numbers -/
theorem run_index_arr {P : Program} (t e : TypeId) (n : Nat) (K : IntKind) (cs : Array Value) (i : Nat) (j : Int) (v : Value) (ht : P.underlying t = some (.array n e)) (he : P.underlying e = some (.int K)) (hs : (P.info? e).map (·.size) = some 1)
    (hj : j = i) (hi : i < n) (hv : cs[i]? = some v) (w : World) : (Instr.index t (.agg cs) (.int .i64 j)).run P w = .ok v w := by
  subst hj
  have hb : 0 ≤ (i : Int) ∧ (i : Int) < (n : Int) := by omega
  cases hinfo : P.info? e with
  | none => simp [hinfo] at hs
  | some inf =>
    simp [hinfo] at hs
    simp [Instr.index, run_underlying ht, run_underlying he, asIntOf, hb, part, isAgg, sizeOf, typeInfo, hinfo, hs, hv, go_sem]
    intro h
    omega
end Go.Proofs.YtafmompplcaadaaDoor

/- The walk over package entry's Put. -/
namespace Go.Proofs.YtafmompplcaadaaDoor
set_option maxRecDepth 100000
set_option linter.unusedVariables false
set_option linter.unusedSimpArgs false
open Go.RowKit

theorem in_alloc {w1 : World} {g : Nat} {o1 : Obj} (h1 : w1.heap[g]? = some o1) (o : Obj) : (w1.alloc o).heap[g]? = some o1 := (Below.heap_alloc w1 o _ (Array.getElem?_eq_some_iff.1 h1).1).trans h1
theorem enumR_one (p : Int × Int) : ∀ u ∈ numR p, u.oneCell' = true := by
  intro u hu
  simp only [numR, List.mem_cons, List.not_mem_nil, or_false] at hu
  rcases hu with rfl | rfl <;> rfl
theorem enum_index {u : En} {cs : Array Value} (hc : numA u = cs) (k : Nat) (hk : k < 9) (w : World) :
    (Instr.index 93 (.agg cs) (.int .i64 k)).run Tryd.prog w = .ok (.int .u64 ((numsE u).getD k 0)) w := by
  refine run_index_arr 93 30 9 .u64 _ k k _ Tryd.underlying93 Tryd.underlying30 (by kernel_rfl) rfl hk ?_ w
  have hl : k < (numsE u).length := hk
  rw [← hc]
  simp only [numA, List.getElem?_toArray, List.getElem?_map, List.getD_eq_getElem?_getD, List.getElem?_eq_getElem hl, Option.map_some, Option.getD_some]
abbrev szC : Array Value := #[.int .i64 1, .int .i64 4, .int .i64 4, .int .i64 1, .int .i64 8, .int .i64 8, .int .i64 1, .int .i64 2, .int .i64 1]
/-- the block g holds the sizes -/
structure RowZ (w : World) (g : Nat) : Prop where
  blk : w.heap[g]? = some (.cells szC 90 (0, 0))
theorem RowZ.below {w w' : World} {g : Nat} (h : RowZ w g) (hb : Below w.heap.size w w') : RowZ w' g := ⟨(hb.block g (Array.getElem?_eq_some_iff.1 h.blk).1).trans h.blk⟩
theorem RowZ.lt {w : World} {g : Nat} (h : RowZ w g) : g < w.heap.size := (Array.getElem?_eq_some_iff.1 h.blk).1
theorem RowZ.at_ {w : World} {g : Nat} (h : RowZ w g) (k : Nat) (hk : k < 9) : w.cell? ⟨g, k, none⟩ = some (.int .i64 (szI.getD k 0)) := by
  rw [cell_of_row _ _ _ _ _ _ h.blk]
  match k, hk with
  | 0, _ | 1, _ | 2, _ | 3, _ | 4, _ | 5, _ | 6, _ | 7, _ | 8, _ => rfl
theorem row_take {u : En} (k : Nat) (hk : k < 9) : (rowE u).take (k + 1) = (rowE u).take k ++ [((numsE u).getD k 0, szI.getD k 0)] := by
  have hl : k < (rowE u).length := hk
  rw [List.take_succ_eq_append_getElem hl]
  congr 2
  match k, hk with
  | 0, _ | 1, _ | 2, _ | 3, _ | 4, _ | 5, _ | 6, _ | 7, _ | 8, _ => rfl

theorem eput_no (u : En) (w : World) (hm : mayE u = false) :
    Calls Tryd.prog 37 #[enV u] w fun e w' => e = .returned (.tuple #[.slice none 0 0, .bool false]) ∧ Below w.heap.size w w' := by
  have hmc := fun w => emay_any u w
  rw [hm] at hmc
  unfold enV at hmc ⊢
  obtain ⟨C, hC⟩ : ∃ C, C = enA u := ⟨_, rfl⟩
  rw [← hC] at hmc ⊢
  have hCs : C.size = 9 := by rw [hC]; rfl
  have HCS := Lib.hid hCs
  have HMC := Lib.hid hmc
  clear hmc hC hCs
  go_enter Tryd.func37, Tryd.ntmps37
  go_wp2_with (first
    | ((with_reducible refine wpList_load_blk 33 _ rfl w.heap.size ?hx2 33 C (0, 0) _ (heap_alloc_new w _) Tryd.underlying33 ?hd2 (info_en HCS.out) ?_ ?hw2); (case hx2 => rfl); (case hd2 => rfl); (case hw2 => rfl))
    | (go_at_call 18; (with_reducible refine (HMC.out _).mono ?_); rintro e w1 ⟨rfl, hb1⟩))
  go_ret2
  exact ⟨rfl, (after_one hb1).1⟩
set_option maxRecDepth 100000 in
set_option maxHeartbeats 2000000 in
theorem eput_yes (u : En) (w : World) (hm : mayE u = true) (ho : u.ok) :
    Calls Tryd.prog 37 #[enV u] w fun e w' => ∃ v, e = .returned (.tuple #[v, .bool true]) ∧ Own w' w.heap.size v (putE u) ∧ Below w.heap.size w w' := by
  have hmc := fun w => emay_any u w
  rw [hm] at hmc
  have hnc := fun w => nums_of u w hm ho
  have hcat := put_fits hm ho
  have hsm := row_small hm ho
  have hnum : ∀ k, k < 9 → 0 ≤ (numsE u).getD k 0 ∧ (numsE u).getD k 0 < 18446744073709551616 := fun k hk => by
    have h1 : ((rowE u).getD k (0, 0)) ∈ rowE u := by
      have hl : k < (rowE u).length := hk
      rw [List.getD_eq_getElem?_getD, List.getElem?_eq_getElem hl]
      exact List.getElem_mem hl
    have h2 := hsm _ h1
    match k, hk with
    | 0, _ | 1, _ | 2, _ | 3, _ | 4, _ | 5, _ | 6, _ | 7, _ | 8, _ => exact ⟨h2.1, h2.2.1⟩
  unfold enV at hmc hnc ⊢
  obtain ⟨C, hC⟩ : ∃ C, C = enA u := ⟨_, rfl⟩
  rw [← hC] at hmc hnc ⊢
  have hCs : C.size = 9 := by rw [hC]; rfl
  obtain ⟨M, hM⟩ : ∃ M, numA u = M := ⟨_, rfl⟩
  have hnv : enumV u = .agg M := by rw [← hM]; rfl
  rw [hnv] at hnc
  have HCS := Lib.hid hCs
  have HMC := Lib.hid hmc
  have HNC := Lib.hid hnc
  have HM := Lib.hid hM
  have HCAT := Lib.hid hcat
  have HSM := Lib.hid hsm
  have HNUM := Lib.hid hnum
  have HC := Lib.hid hC
  have HSZ := Lib.hid esizes_any
  clear hmc hnc hC hCs hM hnv hcat hsm hnum
  go_enter Tryd.func37, Tryd.ntmps37
  go_wp2_with (first
    | ((with_reducible refine wpList_load_blk 33 _ rfl w.heap.size ?hx2 33 C (0, 0) _ (heap_alloc_new w _) Tryd.underlying33 ?hd2 (info_en HCS.out) ?_ ?hw2); (case hx2 => rfl); (case hd2 => rfl); (case hw2 => rfl))
    | (go_at_call 18; (with_reducible refine (HMC.out _).mono ?_); rintro e w1 ⟨rfl, hb1⟩
       have hE1 := after_alloc hb1
       have hB1 := (after_one hb1).1
       clear hb1)
    | (go_at_call 48; (with_reducible refine (HSZ.out _).mono ?_); rintro e w2 ⟨rfl, hb2⟩
       unfold szV
       have hE2 := (hb2.block _ (Array.getElem?_eq_some_iff.1 hE1).1).trans hE1
       have hB2 := hB1.trans (hb2.mono hB1.size)
       clear hb2 hE1 hB1)
    | ((with_reducible refine wpList_load_blk 33 _ rfl w.heap.size ?hx3 33 C (0, 0) _ (in_alloc hE2 _) Tryd.underlying33 ?hd3 (info_en HCS.out) ?_ ?hw3); (case hx3 => rfl); (case hd3 => rfl); (case hw3 => rfl))
    | (go_at_call 49; (with_reducible refine (HNC.out _).mono ?_); rintro e w3 ⟨rfl, hb3⟩
       have hZ3 : RowZ w3 w2.heap.size := ⟨after_alloc hb3⟩
       have hB3 := hB2.trans ((after_one hb3).1.mono hB2.size)
       clear hb3 hE2 hB2))
  have HZ3 := Lib.hid hZ3
  have HB3 := Lib.hid hB3
  have hlt3 := hZ3.lt
  clear hZ3 hB3
  go_loopw [5, 6, 7, 14] (fun v y z i wr => ∃ k : Nat, k ≤ 9 ∧ i = .int .i64 k ∧ OwnR 96 2 wr w3.heap.size v (((rowE u).take k).map numR) ∧ Below w3.heap.size w3 wr) (fun _ _ _ i _ => 9 - (intOf i).toNat)
  case atStart => exact ⟨0, by omega, rfl, OwnR.nil _ _ _ _, Below.refl _ _⟩
  case round =>
    obtain ⟨k, hk9, rfl, hown, hB⟩ := hrel
    have HO := Lib.hid hown
    clear hown
    by_cases hlt : k < 9
    · have hix := enum_index HM.out k hlt
      have hcell := (hB.cell (p := ⟨w2.heap.size, k, none⟩) hlt3).trans (HZ3.out.at_ k hlt)
      obtain ⟨y0, y1⟩ := HNUM.out k hlt
      have hsn : ((rowE u).take (k + 1)).map numR = ((rowE u).take k).map numR ++ [numR ((numsE u).getD k 0, szI.getD k 0)] := by rw [row_take k hlt, List.map_append]; rfl
      obtain ⟨y, hy⟩ : ∃ y, (numsE u).getD k 0 = y := ⟨_, rfl⟩
      obtain ⟨x, hx⟩ : ∃ x, szI.getD k 0 = x := ⟨_, rfl⟩
      rw [hy] at hix y0 y1 hsn
      rw [hx] at hcell hsn
      obtain ⟨L, hL⟩ : ∃ L, L = ((rowE u).take k).map numR := ⟨_, rfl⟩
      have hLl : L.length ≤ 9 := by rw [hL, List.length_map, List.length_take]; omega
      rw [← hL] at hsn
      have hown := HO.out
      rw [← hL] at hown
      have HNX := Lib.hid hsn
      have HLL := Lib.hid hLl
      clear hx hy hsn hL HO hLl
      go_wp2_with (at_builtin
                   refine wpList_append_r rfl 92 96 2 16 _ _ rfl Tryd.underlying92 (by kernel_rfl) (by omega) w3.heap.size u5 L rfl (hown.more _) _ 1 1 [numR (y, x)] rfl (one_rws 2 96 _ _ rfl (enumR_one (y, x))) (by have := HLL.out; omega) (by have := HLL.out; omega) (Nat.le_trans hB.size (size_le_alloc _ _)) ?_
                   intro v5 w5 hown5 hg5
                   have hB5 : Below w3.heap.size w3 w5 := (hB.alloc hB.size _).grown hg5 (Nat.le_trans hB.size (size_le_alloc _ _)) (fun k hk => (hown.size k hk).1)
                   rw [← HNX.out] at hown5
                   clear hg5)
      go_roundw
      case rel => exact ⟨k + 1, by omega, by go_num, hown5, hB5⟩
      case measure => simp [intOf]; omega
    · have hkn : k = 9 := by omega
      have htk : (rowE u).take k = rowE u := by rw [hkn]; rfl
      have hown := HO.out
      rw [htk] at hown
      obtain ⟨A, n, cap, rfl, hrw⟩ := hown.rws
      have hnms : Nms wr A n cap (rowE u) := ⟨hrw, HSM.out⟩
      have hca := (cat_any A n cap (rowE u) wr hnms).mono (R' := fun e w' => ∃ v, e = .returned (.tuple #[v, .bool true]) ∧ Own w' wr.heap.size v (putE u) ∧ Below wr.heap.size wr w') fun e w' h => by
        obtain ⟨v, he, ho⟩ := h.1 HCAT.out
        exact ⟨v, he, ho, h.2.2⟩
      have HCA := Lib.hid hca
      have hB3 := HB3.out
      have HB9 := Lib.hid (hB3.trans (hB.mono hB3.size))
      clear htk hkn hown hrw hnms hca hB HO hB3
      go_wp2_with (go_at_call 50; (with_reducible refine HCA.out.mono ?_); rintro e w6 ⟨v6, rfl, hown6, hb6⟩; have HO6 := Lib.hid hown6; have HB6 := Lib.hid hb6; clear hown6 hb6)
      go_ret2
      exact ⟨v6, rfl, HO6.out.mono HB9.out.size, HB9.out.trans (HB6.out.mono HB9.out.size)⟩
theorem eput_any (u : En) (w : World) (ho : u.ok) :
    Calls Tryd.prog 37 #[enV u] w (GivesB (if mayE u then putE u else []) (mayE u) w) := by
  cases hm : mayE u with
  | false => exact (eput_no u w hm).mono fun e w' ⟨he, hb⟩ => ⟨none, 0, 0, he, Bts.nil w', hb⟩
  | true =>
    refine (eput_yes u w hm ho).mono ?_
    rintro e w' ⟨v, rfl, hv, hb⟩
    exact hv.gives (put_ok u) hb
end Go.Proofs.YtafmompplcaadaaDoor

/- The walk over the document's May of entries. -/
namespace Go.Proofs.YtafmompplcaadaaDoor
set_option linter.unusedVariables false
set_option linter.unusedSimpArgs false
open Go.RowKit

end Go.Proofs.YtafmompplcaadaaDoor

/- The walk over the document's Put of entries. -/
namespace Go.Proofs.YtafmompplcaadaaDoor
set_option maxRecDepth 100000
set_option linter.unusedVariables false
set_option linter.unusedSimpArgs false
open Go.RowKit

/-- a literal of rows -/
theorem lit_rws (k : Nat) (e : TypeId) (w : World) (cs : Array Value) (rows : List (List Value)) (n : Nat) (hcs : cs = rows.flatten.toArray) (hn : rows.length = n) (hw : ∀ r ∈ rows, r.length = k) (h1 : ∀ r ∈ rows, ∀ u ∈ r, u.oneCell' = true) (hm : n ≤ maxLen) :
    Rws k (w.alloc (.cells cs e)) (some ⟨w.heap.size, 0, none⟩) n n rows := by
  subst hcs
  refine ⟨hn, hw, h1, Nat.le_refl _, hm, (fun e => by cases e), fun _ => ⟨w.heap.size, 0, rfl, fun j hj i hi => ?_⟩⟩
  rw [Nat.zero_add, cell_of_row _ _ _ _ _ _ (heap_alloc_new w _), List.getElem?_toArray, flat_get hw j i (by omega) hi]
theorem nine_nums (w : World) (u : En) (hs : ∀ p ∈ rowE u, 0 ≤ p.1 ∧ p.1 < 18446744073709551616 ∧ -9223372036854775808 ≤ p.2 ∧ p.2 ≤ 9223372036854775807) :
    Nms (w.alloc (.cells #[.int .u64 u.kind, .int .i64 1, .int .u64 u.tick, .int .i64 4, .int .u64 u.epoch, .int .i64 4, .int .u64 u.user, .int .i64 1, .int .u64 u.sess, .int .i64 8, .int .u64 u.count, .int .i64 8, .int .u64 u.cmd, .int .i64 1, .int .u64 u.arg, .int .i64 2, .int .u64 u.code, .int .i64 1] 96)) (some ⟨w.heap.size, 0, none⟩) 9 9 (rowE u) :=
  ⟨lit_rws 2 _ w _ _ 9 rfl rfl (fun r hr => by obtain ⟨p, _, rfl⟩ := List.mem_map.1 hr; rfl) (fun r hr => by obtain ⟨p, _, rfl⟩ := List.mem_map.1 hr; exact enumR_one p) (by unfold maxLen; omega), hs⟩
/-- gives bytes of its own, and a bool -/
def GOwn (L : List Int) (b : Bool) (w : World) (e : Ending) (w' : World) : Prop := ∃ A m c, e = .returned (.tuple #[.slice A m c, .bool b]) ∧ Bts w' A m c L ∧ Own w' w.heap.size (.slice A m c) L ∧ Below w.heap.size w w'
end Go.Proofs.YtafmompplcaadaaDoor

/- The walks over package sha's rounds: a number turned, a round, a block's numbers, a register rounded by a block, and by all blocks. -/
namespace Go.Proofs.YtafmompplcaadaaDoor
open Go.RowKit

/-- numbers of 32 bits, as cells -/
def regv (r : List Int) : Array Value := (r.map (Value.int .u32)).toArray
theorem regv_size (r : List Int) : (regv r).size = r.length := by simp [regv]
theorem regv_get (r : List Int) (i : Nat) (h : i < r.length) : (regv r)[i]? = some (.int .u32 (r.getD i 0)) := by
  simp [regv, List.getD_eq_getElem?_getD, h]
theorem regv_set (r : List Int) (i : Nat) (v : Int) : (regv r).setIfInBounds i (.int .u32 v) = regv (r.set i v) := by
  simp [regv, List.map_set]
theorem regv_one (r : List Int) : (regv r).all (·.oneCell') = true := by
  simp only [regv, List.all_toArray, List.all_map, List.all_eq_true]
  intro x _
  rfl

theorem eight {r : List Int} (h : r.length = 8) : ∃ a b c d e f g k, r = [a, b, c, d, e, f, g, k] := by
  match r, h with
  | [a, b, c, d, e, f, g, k], _ => exact ⟨a, b, c, d, e, f, g, k, rfl⟩

set_option maxHeartbeats 400000 in
theorem turned_any (x n : Int) (w : World) (hn : 0 ≤ n) (hn2 : n < 32) :
    Calls Tryd.prog 72 #[.int .u32 x, .int .i64 n] w fun e w' => e = .returned (.int .u32 (rot x n)) ∧ ∃ k, w' = w.drewN k := by
  go_enter Tryd.func72, Tryd.ntmps72
  go_wp2
  go_quiet (fail)
  go_wp2
  go_ret
  exact ⟨rfl, _, rfl⟩

theorem below_round (w : World) (o1 o2 : Obj) (k : Nat) (v0 v1 v2 v3 v4 v5 v6 v7 : Value) :
    Below w.heap.size w (((((((((((w.alloc o1).alloc o2).drewN k).setCell ⟨w.heap.size + 1, 0, none⟩ v0).setCell ⟨w.heap.size + 1, 1, none⟩ v1).setCell ⟨w.heap.size + 1, 2, none⟩ v2).setCell ⟨w.heap.size + 1, 3, none⟩ v3).setCell ⟨w.heap.size + 1, 4, none⟩ v4).setCell ⟨w.heap.size + 1, 5, none⟩ v5).setCell ⟨w.heap.size + 1, 6, none⟩ v6).setCell ⟨w.heap.size + 1, 7, none⟩ v7) :=
  have h := below_drewN ((((Below.refl w.heap.size w).alloc (Nat.le_refl _) o1)).alloc (by simp) o2) k
  have q := Nat.le_succ w.heap.size
  (((((((h.setCell q v0).setCell q v1).setCell q v2).setCell q v3).setCell q v4).setCell q v5).setCell q v6).setCell q v7

set_option maxHeartbeats 1000000 in
theorem round_any (r : List Int) (n : Int) (w : World) (hr : r.length = 8) :
    Calls Tryd.prog 71 #[.agg (regv r), .int .u32 n] w fun e w' => e = .returned (.agg (regv (rnd r n))) ∧ Below w.heap.size w w' := by
  obtain ⟨a, b, c, d, e, f, g, h8, rfl⟩ := eight hr
  simp only [regv, List.map_cons, List.map_nil, rnd]
  go_enter Tryd.func71, Tryd.ntmps71
  go_wp2
  go_quiet (fail)
  go_wp2_with (go_at_call 72; refine (turned_any _ _ _ (by omega) (by omega)).mono ?_; rintro e w' ⟨rfl, k, rfl⟩)
  refine bodyPost_ret (v := .agg #[.int .u32 ((h8 + bigE e + chE e f g + n + (bigA a + majA a b c)) % 4294967296), .int .u32 a, .int .u32 b, .int .u32 c, .int .u32 ((d + (h8 + bigE e + chE e f g + n)) % 4294967296), .int .u32 e, .int .u32 f, .int .u32 g]) (by simp [results, Tryd.results71, go_sem, bigE, bigA, chE, majA, x32, a32]) rfl ⟨rfl, ?_⟩
  exact below_round _ _ _ _ _ _ _ _ _ _ _ _
end Go.Proofs.YtafmompplcaadaaDoor

/- The walk over package sha's spread: the 64 numbers of a block. -/
namespace Go.Proofs.YtafmompplcaadaaDoor
open Go.RowKit

theorem spreadA_length (l : List Int) (k : Nat) : (spreadA l k).length = 64 := by
  induction k with
  | zero => rfl
  | succ k ih => simp [spreadA, ih]
theorem spreadB_length (l : List Int) (k : Nat) : (spreadB l k).length = 64 := by
  induction k with
  | zero => exact spreadA_length l 16
  | succ k ih => simp [spreadB, ih]

set_option maxRecDepth 100000 in
set_option maxHeartbeats 1000000 in
theorem spread_any (l : List Int) (b off cap : Nat) (w : World) (hr : ∀ j, 0 ≤ l.getD j 0 ∧ l.getD j 0 < 256)
    (hc : ∀ j, j < 64 → w.cell? ⟨b, off + j, none⟩ = some (.int .u8 (l.getD j 0))) :
    Calls Tryd.prog 70 #[.slice (some ⟨b, off, none⟩) 64 cap] w fun e w' => e = .returned (.agg (regv (spreadAll l))) ∧ Below w.heap.size w w' := by
  have hbw : b < w.heap.size := block_lt_of_cell (hc 0 (by omega))
  go_enter Tryd.func70, Tryd.ntmps70
  go_wp2

  go_loopw [10] (fun i wr => ∃ k : Nat, k ≤ 16 ∧ i = .int .i64 k ∧ wr.heap[w.heap.size]? = some (.cells (regv (List.replicate 64 0)) 128 (0, 0)) ∧ wr.heap[w.heap.size + 1]? = some (.cells (regv (spreadA l k)) 128 (0, 0)) ∧ Below w.heap.size w wr)
    (fun i _ => 16 - (intOf i).toNat)
  case atStart => exact ⟨0, by omega, rfl, heap_alloc2_old w _ _, heap_alloc2_new w _ _, ((Below.refl _ _).alloc (Nat.le_refl _) _).alloc (by simp) _⟩
  case round =>
    obtain ⟨k, hk, rfl, hZ, hW, hb⟩ := hrel
    by_cases hlt : k < 16
    · have c0 := (hb.cell (p := ⟨b, off + 4 * k, none⟩) hbw).trans (hc (4 * k) (by omega))
      have c1 := (hb.cell (p := ⟨b, off + (4 * k + 1), none⟩) hbw).trans (hc (4 * k + 1) (by omega))
      have c2 := (hb.cell (p := ⟨b, off + (4 * k + 2), none⟩) hbw).trans (hc (4 * k + 2) (by omega))
      have c3 := (hb.cell (p := ⟨b, off + (4 * k + 3), none⟩) hbw).trans (hc (4 * k + 3) (by omega))
      obtain ⟨x0, hx0⟩ : ∃ x, x = l.getD (4 * k) 0 := ⟨_, rfl⟩
      obtain ⟨x1, hx1⟩ : ∃ x, x = l.getD (4 * k + 1) 0 := ⟨_, rfl⟩
      obtain ⟨x2, hx2⟩ : ∃ x, x = l.getD (4 * k + 2) 0 := ⟨_, rfl⟩
      obtain ⟨x3, hx3⟩ : ∃ x, x = l.getD (4 * k + 3) 0 := ⟨_, rfl⟩
      have e0 := hr (4 * k)
      have e1 := hr (4 * k + 1)
      have e2 := hr (4 * k + 2)
      have e3 := hr (4 * k + 3)
      rw [← hx0] at c0 e0
      rw [← hx1] at c1 e1
      rw [← hx2] at c2 e2
      rw [← hx3] at c3 e3
      have v0 : IntKind.u32.wrap x0 = x0 := by rw [IntKind.wrap_u32']; omega
      have v1 : IntKind.u32.wrap x1 = x1 := by rw [IntKind.wrap_u32']; omega
      have v2 : IntKind.u32.wrap x2 = x2 := by rw [IntKind.wrap_u32']; omega
      have v3 : IntKind.u32.wrap x3 = x3 := by rw [IntKind.wrap_u32']; omega
      have hword : word l k = bits .or .u32 (bits .or .u32 (bits .or .u32 (IntKind.u32.wrap (x0 * 16777216)) (IntKind.u32.wrap (x1 * 65536))) (IntKind.u32.wrap (x2 * 256))) x3 := by
        simp only [word, hx0, hx1, hx2, hx3, IntKind.wrap_u32']
      have HW := Lib.hid hword
      have H0 := Lib.hid hx0
      clear hx0 hx1 hx2 hx3 hword e0 e1 e2 e3 H0
      have hwc : wr.cell? ⟨w.heap.size + 1, k, none⟩ = some (.int .u32 ((spreadA l k).getD k 0)) := by
        rw [cell_of_row _ _ _ _ _ _ hW, regv_get _ _ (by rw [spreadA_length]; omega)]
      have hwf := frozen_of_row _ _ k _ _ hW
      have s0 : IntKind.i64.wrap (4 * (k : Int)) = 4 * (k : Int) := IntWalk.i64_in _ (by omega)
      have s1 : IntKind.i64.wrap (4 * (k : Int) + 1) = 4 * (k : Int) + 1 := IntWalk.i64_in _ (by omega)
      have s2 : IntKind.i64.wrap (4 * (k : Int) + 2) = 4 * (k : Int) + 2 := IntWalk.i64_in _ (by omega)
      have s3 : IntKind.i64.wrap (4 * (k : Int) + 3) = 4 * (k : Int) + 3 := IntWalk.i64_in _ (by omega)
      have p0 : 0 ≤ 4 * (k : Int) := by omega
      have p1 : 0 ≤ 4 * (k : Int) + 1 := by omega
      have p2 : 0 ≤ 4 * (k : Int) + 2 := by omega
      have p3 : 0 ≤ 4 * (k : Int) + 3 := by omega
      have q0 : 4 * (k : Int) < 64 := by omega
      have q1 : 4 * (k : Int) + 1 < 64 := by omega
      have q2 : 4 * (k : Int) + 2 < 64 := by omega
      have q3 : 4 * (k : Int) + 3 < 64 := by omega
      have q4 : (k : Int) < 64 := by omega
      have p4 : 0 ≤ (k : Int) := by omega
      have n0 : (4 * (k : Int)).toNat = 4 * k := by omega
      have n1 : (4 * (k : Int) + 1).toNat = 4 * k + 1 := by omega
      have n2 : (4 * (k : Int) + 2).toNat = 4 * k + 2 := by omega
      have n3 : (4 * (k : Int) + 3).toNat = 4 * k + 3 := by omega
      have HS := Lib.hid hW
      have HB := Lib.hid hb
      have HZ := Lib.hid hZ
      clear hZ hW hb hc hr
      go_wp2
      go_still_tail 35, (by kernel_rfl)
      clear s0 s1 s2 s3 n0 n1 n2 n3
      go_wp2
      have hb := HB.out
      go_roundw
      case rel =>
        refine ⟨k + 1, by omega, by go_num, (heap_setCell_other _ _ _ _ (by simp)).trans HZ.out, ?_, (hb.drew).setCell (Nat.le_succ _) _⟩
        refine (heap_setCell_same _ _ _ _ _ _ HS.out).trans ?_
        rw [regv_set, spreadA, HW.out]; simp only [IntKind.wrap_u32']
      case measure => simp [intOf]; omega
    · have hge : 16 ≤ k := by omega
      rw [show k = 16 by omega] at hW
      have HW := Lib.hid hW
      have HZ := Lib.hid hZ
      have HB := Lib.hid hb
      clear hc hlt hW hZ hb
      go_wp2
      go_loopw [5] (fun i wr => ∃ k : Nat, 16 ≤ k ∧ k ≤ 64 ∧ i = .int .i64 k ∧ wr.heap[w.heap.size]? = some (.cells (regv (List.replicate 64 0)) 128 (0, 0)) ∧ wr.heap[w.heap.size + 1]? = some (.cells (regv (spreadB l (k - 16))) 128 (0, 0)) ∧ Below w.heap.size w wr)
        (fun i _ => 64 - (intOf i).toNat)
      case atStart => exact ⟨16, by omega, by omega, rfl, HZ.out, HW.out, HB.out⟩
      case round =>
        clear HZ HW HB hge hk
        obtain ⟨k, hk1, hk2, rfl, hZ, hW, hb⟩ := hrel
        by_cases hlt : k < 64
        · have hL := spreadB_length l (k - 16)
          have cel : ∀ j, j < 64 → wr.cell? ⟨w.heap.size + 1, j, none⟩ = some (.int .u32 ((spreadB l (k - 16)).getD j 0)) := fun j hj => by
            rw [cell_of_row _ _ _ _ _ _ hW, regv_get _ _ (by omega)]
          obtain ⟨x2, hx2⟩ : ∃ x, x = (spreadB l (k - 16)).getD (k - 2) 0 := ⟨_, rfl⟩
          obtain ⟨x7, hx7⟩ : ∃ x, x = (spreadB l (k - 16)).getD (k - 7) 0 := ⟨_, rfl⟩
          obtain ⟨x15, hx15⟩ : ∃ x, x = (spreadB l (k - 16)).getD (k - 15) 0 := ⟨_, rfl⟩
          obtain ⟨x16, hx16⟩ : ∃ x, x = (spreadB l (k - 16)).getD (k - 16) 0 := ⟨_, rfl⟩
          have c2 := cel (k - 2) (by omega)
          have c7 := cel (k - 7) (by omega)
          have c15 := cel (k - 15) (by omega)
          have c16 := cel (k - 16) (by omega)
          have ck := cel k (by omega)
          rw [← hx2] at c2
          rw [← hx7] at c7
          rw [← hx15] at c15
          rw [← hx16] at c16
          have hnext : nextW (spreadB l (k - 16)) k = (x16 + lowS x15 + x7 + highS x2) % 4294967296 := by
            simp only [nextW, hx2, hx7, hx15, hx16]
          have HN := Lib.hid hnext
          have hwf := frozen_of_row _ _ k _ _ hW
          have s2 : IntKind.i64.wrap ((k : Int) - 2) = (k : Int) - 2 := IntWalk.i64_in _ (by omega)
          have s7 : IntKind.i64.wrap ((k : Int) - 7) = (k : Int) - 7 := IntWalk.i64_in _ (by omega)
          have s15 : IntKind.i64.wrap ((k : Int) - 15) = (k : Int) - 15 := IntWalk.i64_in _ (by omega)
          have s16 : IntKind.i64.wrap ((k : Int) - 16) = (k : Int) - 16 := IntWalk.i64_in _ (by omega)
          have r7 : (7 : Int) ≤ k := by omega
          have r16 : (16 : Int) ≤ k := by omega
          have t7 : (k : Int) < 71 := by omega
          have t16 : (k : Int) < 80 := by omega
          have p2 : 0 ≤ (k : Int) - 2 := by omega
          have p7 : 0 ≤ (k : Int) - 7 := by omega
          have p15 : 0 ≤ (k : Int) - 15 := by omega
          have p16 : 0 ≤ (k : Int) - 16 := by omega
          have q2 : (k : Int) - 2 < 64 := by omega
          have q7 : (k : Int) - 7 < 64 := by omega
          have q15 : (k : Int) - 15 < 64 := by omega
          have q16 : (k : Int) - 16 < 64 := by omega
          have q4 : (k : Int) < 64 := by omega
          have p4 : 0 ≤ (k : Int) := by omega
          have n2 : ((k : Int) - 2).toNat = k - 2 := by omega
          have n7 : ((k : Int) - 7).toNat = k - 7 := by omega
          have n15 : ((k : Int) - 15).toNat = k - 15 := by omega
          have n16 : ((k : Int) - 16).toNat = k - 16 := by omega
          have HS := Lib.hid hW
          have HB := Lib.hid hb
          have HZ := Lib.hid hZ
          clear hZ hL hx2 hx7 hx15 hx16 hW hb hr cel hnext
          go_wp2
          go_quiet (fail)
          go_wp2_with (go_at_call 72; refine (turned_any _ _ _ (by omega) (by omega)).mono ?_; rintro e w' ⟨rfl, kt, rfl⟩)
          generalize hw2 : wr.drewN _ = w2
          have d7 : w2.cell? ⟨w.heap.size + 1, k - 7, none⟩ = some (.int .u32 x7) := by rw [← hw2]; exact c7
          have d16 : w2.cell? ⟨w.heap.size + 1, k - 16, none⟩ = some (.int .u32 x16) := by rw [← hw2]; exact c16
          have dk : w2.cell? ⟨w.heap.size + 1, k, none⟩ = some (.int .u32 ((spreadB l (k - 16)).getD k 0)) := by rw [← hw2]; exact ck
          have dwf : w2.frozen? ⟨w.heap.size + 1, k, none⟩ = false := by rw [← hw2]; exact hwf
          have HW2 := Lib.hid hw2
          clear hw2 c2 c7 c15 c16 ck hwf
          go_still_tail 15, (by kernel_rfl)
          clear s2 s7 s15 s16 n2 n7 n15 n16
          go_wp2
          have hb := HB.out
          go_roundw
          case rel =>
            have hw2 := HW2.out
            subst hw2
            refine ⟨k + 1, by omega, by omega, by go_num, (heap_setCell_other _ _ _ _ (by simp)).trans HZ.out, ?_, ((below_drewN hb _).drew).setCell (Nat.le_succ _) _⟩
            refine (heap_setCell_same _ _ _ _ _ _ HS.out).trans ?_
            have e1 : k + 1 - 16 = (k - 16) + 1 := by omega
            have e2 : k - 16 + 16 = k := by omega
            rw [regv_set, e1, spreadB, e2, HN.out]
            simp only [lowS, highS, x32]
          case measure => simp [intOf]; omega
        · have hge : 64 ≤ k := by omega
          rw [show k - 16 = 48 by omega] at hW
          obtain ⟨C, hC⟩ : ∃ C, C = regv (spreadAll l) := ⟨_, rfl⟩
          obtain ⟨Z, hZe⟩ : ∃ Z, Z = regv (List.replicate 64 0) := ⟨_, rfl⟩
          have hi : (Tryd.prog.info? 128).map (·.size) = some C.size := by
            rw [hC, regv_size, spreadAll, spreadB_length]; kernel_rfl
          have hzs : Z.size = C.size := by
            rw [hC, hZe, regv_size, regv_size, spreadAll, spreadB_length]; rfl
          have h1 : C.all (·.oneCell') = true := by rw [hC]; exact regv_one (spreadAll l)
          rw [← hZe] at hZ
          have hW' : wr.heap[w.heap.size + 1]? = some (.cells C 128 (0, 0)) := by rw [hC]; exact hW
          have HS := Lib.hid hW'
          have HZ := Lib.hid hZ
          have HB := Lib.hid hb
          have HI := Lib.hid hi
          have HT := Lib.hid hzs
          have H1 := Lib.hid h1
          have HC := Lib.hid hC
          clear hW hW' hZ hb hlt hi hzs h1 hC hZe
          go_wp2_with (first
            | ((with_reducible refine wpList_load_row rfl 128 _ rfl (w.heap.size + 1) ?_ 128 _ (0, 0) _ HS.out Tryd.underlying128 ?_ HI.out ?_); all_goals (first | ((with_reducible show _ = _); rfl) | skip))
            | ((with_reducible refine wpList_store_row rfl 128 _ _ rfl w.heap.size C ?_ ?_ 128 _ HZ.out HI.out HT.out H1.out ?_); all_goals (first | ((with_reducible show _ = _); rfl) | skip)))
          refine bodyPost_ret (v := .agg C) ?_ ?_ ?_
          · exact results_cell_row Tryd.results70 _ _ w.heap.size 128 _ (0, 0) _ rfl (setRow_heap _ _ _ _ _ _ HZ.out) Tryd.underlying128 rfl HI.out
          · rfl
          · exact ⟨by rw [HC.out], below_setRow HB.out (Nat.le_refl _) _⟩
end Go.Proofs.YtafmompplcaadaaDoor

/- Arrays of numbers that lie in a block of their own; slices of bytes; small facts on both. -/
namespace Go.Proofs.YtafmompplcaadaaDoor
open Go.RowKit

/-- block g is just the numbers l, of 32 bits, none frozen -/
def Row (w : World) (g : Nat) (t : TypeId) (l : List Int) : Prop := w.heap[g]? = some (.cells (regv l) t (0, 0))
theorem Row.lt {w : World} {g : Nat} {t : TypeId} {l : List Int} (h : Row w g t l) : g < w.heap.size := (Array.getElem?_eq_some_iff.1 h).1
theorem Row.cell {w : World} {g : Nat} {t : TypeId} {l : List Int} (h : Row w g t l) (i : Nat) (hi : i < l.length) : w.cell? ⟨g, i, none⟩ = some (.int .u32 (l.getD i 0)) := by
  rw [cell_of_row _ _ _ _ _ _ h, regv_get _ _ hi]
theorem Row.free {w : World} {g : Nat} {t : TypeId} {l : List Int} (h : Row w g t l) (i : Nat) : w.frozen? ⟨g, i, none⟩ = false := frozen_of_row _ _ i _ _ h
theorem Row.draw {w : World} {g : Nat} {t : TypeId} {l : List Int} (h : Row w g t l) (n : Nat) : Row (w.drewN n) g t l := h
theorem Row.draw1 {w : World} {g : Nat} {t : TypeId} {l : List Int} (h : Row w g t l) : Row w.drew g t l := h
theorem Row.put {w : World} {g : Nat} {t : TypeId} {l : List Int} (h : Row w g t l) (i : Nat) (v : Int) : Row (w.setCell ⟨g, i, none⟩ (.int .u32 v)) g t (l.set i v) :=
  (heap_setCell_same _ _ _ _ _ _ h).trans (by rw [regv_set])
theorem Row.far {w : World} {g : Nat} {t : TypeId} {l : List Int} (h : Row w g t l) {a : Addr} (ha : g ≠ a.block) (v : Value) : Row (w.setCell a v) g t l := (heap_setCell_other _ _ _ _ ha).trans h
theorem Row.more {w : World} {g : Nat} {t : TypeId} {l : List Int} (h : Row w g t l) (o : Obj) : Row (w.alloc o) g t l := (Below.heap_alloc w o g h.lt).trans h
theorem Row.below {w w' : World} {B g : Nat} {t : TypeId} {l : List Int} (h : Row w g t l) (hb : Below B w w') (hg : g < B) : Row w' g t l := (hb.block g hg).trans h
theorem Row.all {w : World} {g : Nat} {t : TypeId} {l : List Int} (h : Row w g t l) (m : List Int) : Row (w.setRow g (regv m)) g t m := setRow_heap _ _ _ _ _ _ h
theorem Row.off {w : World} {g k : Nat} {t : TypeId} {l : List Int} (h : Row w g t l) (hk : g ≠ k) (cs : Array Value) : Row (w.setRow k cs) g t l := (setRow_other w k g cs hk).trans h
theorem Row.is {w : World} {g : Nat} {t : TypeId} {l : List Int} (h : Row w g t l) : w.heap[g]? = some (.cells (regv l) t (0, 0)) := h
theorem Row.grown {w w' : World} {g : Nat} {t : TypeId} {l : List Int} {row : Option Nat} (h : Row w g t l) (hb : w.grownBy w' row) (hg : some g ≠ row) : Row w' g t l := (hb.block g h.lt hg).trans h
theorem Row.new (w : World) (t : TypeId) (l : List Int) : Row (w.alloc (.cells (regv l) t)) w.heap.size t l := heap_alloc_new w _
theorem Row.eight {w : World} {g : Nat} {t : TypeId} {x0 x1 x2 x3 x4 x5 x6 x7 : Int} (h : Row w g t [x0, x1, x2, x3, x4, x5, x6, x7]) :
    w.cell? ⟨g, 0, none⟩ = some (.int .u32 x0) ∧ w.cell? ⟨g, 1, none⟩ = some (.int .u32 x1) ∧ w.cell? ⟨g, 2, none⟩ = some (.int .u32 x2) ∧ w.cell? ⟨g, 3, none⟩ = some (.int .u32 x3) ∧
    w.cell? ⟨g, 4, none⟩ = some (.int .u32 x4) ∧ w.cell? ⟨g, 5, none⟩ = some (.int .u32 x5) ∧ w.cell? ⟨g, 6, none⟩ = some (.int .u32 x6) ∧ w.cell? ⟨g, 7, none⟩ = some (.int .u32 x7) :=
  ⟨h.cell 0 (by simp), h.cell 1 (by simp), h.cell 2 (by simp), h.cell 3 (by simp), h.cell 4 (by simp), h.cell 5 (by simp), h.cell 6 (by simp), h.cell 7 (by simp)⟩
theorem row_lit (w : World) (t : TypeId) (cs : Array Value) (l : List Int) (h : cs = regv l) : Row (w.alloc (.cells cs t)) w.heap.size t l := by
  subst h
  exact heap_alloc_new w _
/-- a whole array out of its block, and into it, whatever its numbers are -/
theorem wpList_load_r32 {P : Program} {ops : Array Oper} {rest : List Oper} {o : Oper} {a : Act} {w : World} {Q : Exit → Act → World → Prop} (hgd : o.guard = none) (ty e : TypeId) (n : Nat) (x : Operand) (ho : o.op = .load ty x)
    (g : Nat) (hx : a.eval x = .pointer (some ⟨g, 0, none⟩)) (t : TypeId) (l : List Int) (hg : Row w g t l)
    (hu : P.underlying ty = some (.array n e)) (hi : (P.info? ty).map (·.size) = some (regv l).size)
    (h : wpList P ops Q rest (a.put o.dst (.agg (regv l))) w) : wpList P ops Q (o :: rest) a w :=
  wpList_load_row hgd ty x ho g hx t (regv l) (0, 0) _ hg hu rfl hi h
theorem wpList_store_r32 {P : Program} {ops : Array Oper} {rest : List Oper} {o : Oper} {a : Act} {w : World} {Q : Exit → Act → World → Prop} (hgd : o.guard = none) (ty : TypeId) (x y : Operand) (ho : o.op = .store ty x y)
    (g : Nat) (m : List Int) (hx : a.eval x = .pointer (some ⟨g, 0, none⟩)) (hy : a.eval y = .agg (regv m)) (t : TypeId) (l : List Int) (hg : Row w g t l) (hi : (P.info? ty).map (·.size) = some (regv m).size) (hl : l.length = m.length)
    (h : ∀ w', w.grownBy w' (some g) → Row w' g t m → w'.heap.size = w.heap.size → wpList P ops Q rest (a.put o.dst undef) w') : wpList P ops Q (o :: rest) a w :=
  wpList_store_row hgd ty x y ho g (regv m) hx hy t (regv l) hg hi (by rw [regv_size, regv_size, hl]) (regv_one m) (h _ (grown_setRow _ _ _) (hg.all m) (by simp))

/-- the table of the constants lies in its block -/
def KTab (w : World) : Prop := 0 < w.heap.size ∧ ∀ j, j < 64 → w.cell? ⟨0, j, none⟩ = some (.int .u32 (kList.getD j 0))
theorem KTab.below {w w' : World} {B : Nat} (h : KTab w) (hb : Below B w w') (hB : 0 < B) : KTab w' :=
  ⟨Nat.lt_of_lt_of_le h.1 hb.size, fun j hj => (hb.cell (p := ⟨0, j, none⟩) hB).trans (h.2 j hj)⟩
theorem KTab.from {w w' : World} (h : KTab w) (hb : Below w.heap.size w w') : KTab w' := h.below hb h.1

theorem runs_length (w r : List Int) (hr : r.length = 8) (k : Nat) : (runs w r k).length = 8 := by
  induction k with
  | zero => exact hr
  | succ k ih =>
    obtain ⟨a, b, c, d, e, f, g, h8, hx⟩ := eight ih
    simp only [runs, hx, rnd]
    rfl
theorem addTo_length (x r : List Int) (k : Nat) : (addTo x r k).length = x.length := by
  induction k with
  | zero => rfl
  | succ k ih => simp [addTo, ih]
theorem rounded_length (r l : List Int) (hr : r.length = 8) : (roundedL r l).length = 8 := by
  rw [roundedL, addTo_length, runs_length _ _ hr]
end Go.Proofs.YtafmompplcaadaaDoor

/- The walks over package sha's rounded (a register, rounded by a block) and roundedBy (by all whole blocks). -/
namespace Go.Proofs.YtafmompplcaadaaDoor
open Go.RowKit

theorem info8 {l : List Int} (h : l.length = 8) : (Tryd.prog.info? 110).map (·.size) = some (regv l).size := by rw [regv_size, h]; kernel_rfl
theorem info64 {l : List Int} (h : l.length = 64) : (Tryd.prog.info? 128).map (·.size) = some (regv l).size := by rw [regv_size, h]; kernel_rfl
theorem spreadAll_length (l : List Int) : (spreadAll l).length = 64 := spreadB_length l 48

theorem round_lit (a b c d e f g h n : Int) (w : World) :
    Calls Tryd.prog 71 #[.agg #[.int .u32 a, .int .u32 b, .int .u32 c, .int .u32 d, .int .u32 e, .int .u32 f, .int .u32 g, .int .u32 h], .int .u32 n] w fun e' w' => e' = .returned (.agg (regv (rnd [a, b, c, d, e, f, g, h] n))) ∧ Below w.heap.size w w' :=
  round_any [a, b, c, d, e, f, g, h] n w rfl
theorem rnd_length (a b c d e f g h n : Int) : (rnd [a, b, c, d, e, f, g, h] n).length = 8 := rfl

set_option maxRecDepth 100000 in
set_option maxHeartbeats 1000000 in
theorem rounded_any (r l : List Int) (b off cap : Nat) (w : World) (hK : KTab w) (hr : r.length = 8) (hby : ∀ j, 0 ≤ l.getD j 0 ∧ l.getD j 0 < 256)
    (hc : ∀ j, j < 64 → w.cell? ⟨b, off + j, none⟩ = some (.int .u8 (l.getD j 0))) :
    Calls Tryd.prog 69 #[.agg (regv r), .slice (some ⟨b, off, none⟩) 64 cap] w fun e w' => e = .returned (.agg (regv (roundedL r l))) ∧ Below w.heap.size w w' := by
  have hbw : b < w.heap.size := block_lt_of_cell (hc 0 (by omega))
  have HR := Lib.hid hr
  obtain ⟨S, hSd⟩ : ∃ S, S = spreadAll l := ⟨_, rfl⟩
  have hSl : S.length = 64 := by rw [hSd]; exact spreadAll_length l
  have HW := Lib.hid hSl
  have HSD := Lib.hid hSd
  clear hr hSd hSl
  go_enter Tryd.func69, Tryd.ntmps69
  go_wp2_with fail
  refine (spread_any l b off cap _ hby (fun j hj => ((two_below w _ _).cell (p := ⟨b, off + j, none⟩) hbw).trans (hc j hj))).mono ?_
  rintro e w1 ⟨he, hb1⟩
  rw [← HSD.out] at he
  subst he
  obtain ⟨hB1, hz1, hR1, hO1⟩ := after_two hb1
  have hR1 : Row w1 w.heap.size 110 r := hR1
  have hO1 : Row w1 (w.heap.size + 1) 110 [0, 0, 0, 0, 0, 0, 0, 0] := hO1
  have hK1 := hK.from hB1
  clear hb1 hc
  go_wp2_with (first
    | ((with_reducible refine wpList_store_r32 rfl 128 _ _ rfl w1.heap.size S ?hx ?hy 128 (List.replicate 64 0) (row_lit w1 128 _ _ ?hz) ?hi ?hl ?hm); (case hx => rfl); (case hy => rfl); (case hz => rfl); (case hi => exact info64 HW.out); (case hl => rw [HW.out]; rfl)
       intro w2 hg2 hW2 hs2
       have hR2 : Row w2 w.heap.size 110 r := (hR1.more _).grown hg2 (ne_some (by omega))
       have hO2 : Row w2 (w.heap.size + 1) 110 [0, 0, 0, 0, 0, 0, 0, 0] := (hO1.more _).grown hg2 (ne_some (by omega))
       have hB2 : Below w.heap.size w w2 := Below.grows (hB1.alloc (by omega) _) hg2 (by simp; omega) (by omega)
       have hz2 : w1.heap.size < w2.heap.size := hW2.lt
       clear hg2 hs2 hR1 hO1)
    | ((with_reducible refine wpList_load_r32 rfl 110 109 8 _ rfl w.heap.size ?hx2 110 r hR2 Tryd.underlying110 (info8 HR.out) ?_); (case hx2 => rfl))
    | ((with_reducible refine wpList_store_r32 rfl 110 _ _ rfl w2.heap.size r ?hx3 ?hy3 110 [0, 0, 0, 0, 0, 0, 0, 0] (row_lit w2 110 _ _ ?hz3) (info8 HR.out) ?hl3 ?hm3); (case hx3 => rfl); (case hy3 => rfl); (case hz3 => rfl); (case hl3 => rw [HR.out]; rfl)
       intro w3 hg3 hX3 hs3
       have hR3 : Row w3 w.heap.size 110 r := (hR2.more _).grown hg3 (ne_some (by omega))
       have hO3 : Row w3 (w.heap.size + 1) 110 [0, 0, 0, 0, 0, 0, 0, 0] := (hO2.more _).grown hg3 (ne_some (by omega))
       have hW3 : Row w3 w1.heap.size 128 S := (hW2.more _).grown hg3 (ne_some (by omega))
       have hB3 : Below w.heap.size w w3 := Below.grows (hB2.alloc (by omega) _) hg3 (by simp; omega) (by omega)
       clear hg3 hs3 hR2 hO2 hW2))
  go_loopw [12] (fun i wr => ∃ k : Nat, k ≤ 64 ∧ i = .int .i64 k ∧ Row wr w.heap.size 110 r ∧ Row wr (w.heap.size + 1) 110 [0, 0, 0, 0, 0, 0, 0, 0] ∧ Row wr w1.heap.size 128 S ∧ Row wr w2.heap.size 110 (runs S r k) ∧ Below w.heap.size w wr)
    (fun i _ => 64 - (intOf i).toNat)
  case atStart => exact ⟨0, by omega, rfl, hR3, hO3, hW3, hX3, hB3⟩
  case round =>
    clear hB3 hX3 hW3 hO3 hR3 hK1 hB1 hB2
    obtain ⟨k, hk, rfl, hR, hO, hS, hX, hB⟩ := hrel
    have hXl := runs_length S r HR.out k
    have hw1 := hS.lt
    have hw2 := hX.lt
    by_cases hlt : k < 64
    · obtain ⟨x0, x1, x2, x3, x4, x5, x6, x7, hx⟩ := eight hXl
      have hnext : runs S r (k + 1) = rnd [x0, x1, x2, x3, x4, x5, x6, x7] ((kList.getD k 0 + S.getD k 0) % 4294967296) := by
        rw [runs, hx]
      have HN := Lib.hid hnext
      rw [hx] at hX
      obtain ⟨c0, c1, c2, c3, c4, c5, c6, c7⟩ := hX.eight
      have hKr := (hK.from hB).2 k hlt
      have hSr := hS.cell k (by rw [HW.out]; exact hlt)
      obtain ⟨kk, hkk⟩ : ∃ x, x = kList.getD k 0 := ⟨_, rfl⟩
      obtain ⟨wk, hwk⟩ : ∃ x, x = S.getD k 0 := ⟨_, rfl⟩
      rw [← hkk, ← hwk] at hnext
      rw [← hkk] at hKr
      rw [← hwk] at hSr
      have HN := Lib.hid hnext
      have p0 : 0 ≤ (k : Int) := by omega
      have q0 : (k : Int) < 64 := by omega
      clear hkk hwk hx hnext hXl
      go_wp2
      go_still_tail 8, (by kernel_rfl)
      clear c0 c1 c2 c3 c4 c5 c6 c7 hKr hSr
      go_wp2_with (first
        | (go_at_call 71; refine (round_lit _ _ _ _ _ _ _ _ _ _).mono ?_; rintro e w4 ⟨rfl, hb4⟩
           have hb4 := below_draw hb4
           have hX4 := hX.below hb4 hw2)
        | ((with_reducible refine wpList_store_r32 rfl 110 _ _ rfl w2.heap.size (rnd [x0, x1, x2, x3, x4, x5, x6, x7] ((kk + wk) % 4294967296)) ?hx5 ?hy5 110 [x0, x1, x2, x3, x4, x5, x6, x7] hX4 (info8 (rnd_length _ _ _ _ _ _ _ _ _)) ?hl5 ?hm5); (case hx5 => rfl); (case hy5 => rfl); (case hl5 => rfl)
           intro w5 hg5 hX5 hs5
           have hz5 := hb4.size))
      go_roundw
      case rel =>
        refine ⟨k + 1, by omega, by go_num, ?_, ?_, ?_, ?_, ?_⟩
        · exact (hR.below hb4 hR.lt).grown hg5 (ne_some (by omega))
        · exact (hO.below hb4 hO.lt).grown hg5 (ne_some (by omega))
        · exact (hS.below hb4 hS.lt).grown hg5 (ne_some (by omega))
        · rw [HN.out]; exact hX5
        · exact Below.grows (hB.trans (hb4.mono hB.size)) hg5 (by omega) (by omega)
      case measure => simp [intOf]; omega
    · have hge : 64 ≤ k := by omega
      rw [show k = 64 by omega] at hX
      have hk64 := runs_length S r HR.out 64
      obtain ⟨Y, hY⟩ : ∃ Y, Y = runs S r 64 := ⟨_, rfl⟩
      rw [← hY] at hX hk64
      have HY := Lib.hid hY
      have HL := Lib.hid hk64
      clear hlt hk hS hXl hk64 hY
      go_wp2
      go_loopw [25] (fun i wr => ∃ k : Nat, k ≤ 8 ∧ i = .int .i64 k ∧ Row wr w.heap.size 110 r ∧ Row wr (w.heap.size + 1) 110 [0, 0, 0, 0, 0, 0, 0, 0] ∧ Row wr w2.heap.size 110 (addTo Y r k) ∧ Below w.heap.size w wr)
        (fun i _ => 8 - (intOf i).toNat)
      case atStart => exact ⟨0, by omega, rfl, hR, hO, hX, hB⟩
      case round =>
        clear hR hO hX hB hw1 hw2 hge
        obtain ⟨k, hk, rfl, hR, hO, hX, hB⟩ := hrel
        have hXl := addTo_length Y r k
        rw [HL.out] at hXl
        have hw2 := hX.lt
        by_cases hlt : k < 8
        · have hXc := hX.cell k (by rw [hXl]; exact hlt)
          have hXf := hX.free k
          have hRc := hR.cell k (by rw [HR.out]; exact hlt)
          obtain ⟨xk, hxk⟩ : ∃ x, x = (addTo Y r k).getD k 0 := ⟨_, rfl⟩
          obtain ⟨rk, hrk⟩ : ∃ x, x = r.getD k 0 := ⟨_, rfl⟩
          have hnext : addTo Y r (k + 1) = (addTo Y r k).set k ((xk + rk) % 4294967296) := by
            rw [addTo, hxk, hrk]
          rw [← hxk] at hXc
          rw [← hrk] at hRc
          have HN := Lib.hid hnext
          have p0 : 0 ≤ (k : Int) := by omega
          have q0 : (k : Int) < 8 := by omega
          clear hxk hrk hnext hXl
          go_wp2
          go_still_tail 8, (by kernel_rfl)
          go_wp2
          go_roundw
          case rel =>
            refine ⟨k + 1, by omega, by go_num, ?_, ?_, ?_, ?_⟩
            · exact hR.draw1.far (by simp; omega) _
            · exact hO.draw1.far (by simp; omega) _
            · rw [HN.out]; exact hX.draw1.put k _
            · exact hB.drew.setCell (by simp; omega) _
          case measure => simp [intOf]; omega
        · rw [show k = 8 by omega] at hX hXl
          have hge : 8 ≤ k := by omega
          obtain ⟨Z, hZ⟩ : ∃ Z, Z = roundedL r l := ⟨_, rfl⟩
          have hZ2 : addTo Y r 8 = Z := by rw [hZ, roundedL, HY.out, HSD.out]
          rw [hZ2] at hX hXl
          have HZ := Lib.hid hZ
          have HXL := Lib.hid hXl
          clear hlt hk hXl hZ hZ2
          go_wp2_with (first
            | ((with_reducible refine wpList_load_r32 rfl 110 109 8 _ rfl w2.heap.size ?hx6 110 Z hX Tryd.underlying110 (info8 HXL.out) ?_); (case hx6 => rfl))
            | ((with_reducible refine wpList_store_r32 rfl 110 _ _ rfl (w.heap.size + 1) Z ?hx7 ?hy7 110 [0, 0, 0, 0, 0, 0, 0, 0] hO (info8 HXL.out) ?hl7 ?hm7); (case hx7 => rfl); (case hy7 => rfl); (case hl7 => rw [HXL.out]; rfl)
               intro w6 hg6 hX6 hs6))
          refine bodyPost_ret (v := .agg (regv Z)) ?_ ?_ ?_
          · exact results_cell_row Tryd.results69 _ _ (w.heap.size + 1) 110 _ (0, 0) _ rfl hX6.is Tryd.underlying110 rfl (info8 HXL.out)
          · rfl
          · exact ⟨by rw [HZ.out], Below.grows hB hg6 hB.size (by omega)⟩
end Go.Proofs.YtafmompplcaadaaDoor

/- The walks over the plain answers' turned, constant and numbers. -/
namespace Go.Proofs.YtafmompplcaadaaDoor
open Go.RowKit

end Go.Proofs.YtafmompplcaadaaDoor

/- The walk over the plain answers' numbers: the 64 numbers of a block, appended one by one. -/
namespace Go.Proofs.YtafmompplcaadaaDoor
open Go.RowKit

/-- a slice of numbers of 32 bits that the call made itself -/
def OwnW (w : World) (base : Nat) (v : Value) (l : List Int) : Prop := w.ownsRow base 109 1 v l.length (l.map (Value.int .u32))
theorem OwnW.nil (w : World) (base : Nat) : OwnW w base (.slice none 0 0) [] := World.ownsRow_nil _ _ _ _
theorem OwnW.more {w : World} {base : Nat} {v : Value} {l : List Int} (h : OwnW w base v l) (o : Obj) : OwnW (w.alloc o) base v l := World.ownsRow.alloc h o
theorem OwnW.draw1 {w : World} {base : Nat} {v : Value} {l : List Int} (h : OwnW w base v l) : OwnW w.drew base v l := h
theorem OwnW.draw {w : World} {base : Nat} {v : Value} {l : List Int} (h : OwnW w base v l) (k : Nat) : OwnW (w.drewN k) base v l := h
theorem OwnW.size {w : World} {base : Nat} {v : Value} {l : List Int} (h : OwnW w base v l) : ∀ k, v.ownBlock = some k → base ≤ k ∧ k < w.heap.size := World.ownsRow.lt h
theorem OwnW.below {w w' : World} {base : Nat} {v : Value} {l : List Int} (h : OwnW w base v l) (hb : Below w.heap.size w w') : OwnW w' base v l := by
  refine ⟨h.1, ?_⟩
  rcases h.2 with h0 | ⟨g, cap, cur, hv, hg, hh, rest⟩
  · exact .inl h0
  · exact .inr ⟨g, cap, cur, hv, hg, (hb.block g (Array.getElem?_eq_some_iff.1 hh).1).trans hh, rest⟩
theorem OwnW.form {w : World} {base : Nat} {v : Value} {l : List Int} (h : OwnW w base v l) (hn : 0 < l.length) :
    ∃ g cap, v = .slice (some ⟨g, 0, none⟩) l.length cap ∧ base ≤ g ∧ g < w.heap.size ∧ l.length ≤ cap ∧ cap ≤ maxLen ∧ ∀ j, j < l.length → w.cell? ⟨g, j, none⟩ = some (.int .u32 (l.getD j 0)) := by
  rcases h.2 with ⟨_, h0⟩ | ⟨g, cap, cur, hv, hg, hh, hnc, hcm, hcs, htake⟩
  · omega
  · refine ⟨g, cap, hv, hg, (Array.getElem?_eq_some_iff.1 hh).1, hnc, hcm, fun j hj => ?_⟩
    rw [cell_of_row _ _ _ _ _ _ hh]
    have : (l.map (Value.int .u32))[j]? = some (.int .u32 (l.getD j 0)) := by simp [List.getD_eq_getElem?_getD, hj]
    rw [← this, ← htake, List.getElem?_take, if_pos (by omega)]
    simp
theorem info_u32 : (Tryd.prog.info? 109).map (fun i => (i.zero, i.size, i.bytes)) = some (some (.int .u32 0), 1, 4) := by kernel_rfl

theorem take_set_snoc (L : List Int) (k : Nat) (x : Int) (h : k < L.length) : (L.set k x).take (k + 1) = L.take k ++ [x] := by
  rw [List.take_succ_eq_append_getElem (by simpa using h), List.take_set_of_le (Nat.le_refl _)]
  simp
end Go.Proofs.YtafmompplcaadaaDoor
