/- Joined texts: Package group's small calls: has, isSet, groups. A set's groups, handed on one by one. append onto a slice of rows of the call's own, inside a fence; what an iterator turns leaves such a slice. What is against some groups: their rows, together. What package group's own ways come to: rows together are the groups against; a greatest free set is one that just all others are against. A range over a function inside an ordinary loop: each time it is come to, it lays one mark more among the deferred calls; how a function leaves with all of them. The walk over package group's May: a matrix, row by row; each row's groups by the range over a function. slices.Collect of what is handed on, one by one. The walk over the document's Sets: the greatest free ones. What package group does: six contracts that its own walks must bring; the chapter's example over them. Package group's calls: Against, Free, List, Of, Sets; with May they are all that the laws stand on. -/
import Derived.Test.YtgnhmdfajnnkhaaSbJB
import Derived.Test.YtgnhmdfajnnkhaaSbJC
import Derived.Laws.EntriesVeiled
/- Package group's small calls: has, isSet, groups. -/
namespace Go.Proofs.Ytgnhmdfajnnkhaa
set_option maxRecDepth 100000
set_option linter.unusedVariables false
set_option linter.unusedSimpArgs false
open Go.RowKit

theorem and_one (x : Int) : bits .and .i64 x 1 = x % 2 := by
  show IntKind.i64.wrap ((BitVec.ofInt 64 x &&& BitVec.ofInt 64 1).toNat : Int) = _
  rw [BitVec.toNat_and, BitVec.toNat_ofInt, show (BitVec.ofInt 64 1).toNat = 1 by rfl, Nat.and_one_is_mod, IntKind.wrap_i64]
  omega
set_option maxHeartbeats 1000000 in
theorem has_int (s : Int) (i : Nat) (hi : i < 8) (w : World) : Calls Try.prog 100 #[.int .i64 s, .int .i64 (i : Int)] w fun e w' => e = .returned (.bool (bitI s i)) ∧ w = w' := by
  go_enter Try.func100, Try.ntmps100
  go_wp2
  go_ret
  rw [and_one]
  refine ⟨?_, rfl⟩
  rw [bitI]
  congr 2
theorem has_any (t i : Nat) (ht : t < 256) (hi : i < 8) (w : World) : Calls Try.prog 100 #[.int .i64 (t : Int), .int .i64 (i : Int)] w fun e w' => e = .returned (.bool (t.testBit i)) ∧ w = w' := by
  rw [← bit_nat]
  exact has_int _ i hi w
theorem is_set (s : Int) (n : Nat) : (decide (0 ≤ s ∧ s < ((2 ^ n : Nat) : Int))) = (decide (0 ≤ s) && decide (s < ((2 ^ n : Nat) : Int))) := by
  by_cases h : 0 ≤ s <;> simp [h]
set_option maxHeartbeats 1000000 in
theorem isSet_any (s : Int) (n : Nat) (hn : n ≤ 8) (w : World) : Calls Try.prog 84 #[.int .i64 s, .int .i64 (n : Int)] w fun e w' => e = .returned (.bool (decide (0 ≤ s ∧ s < ((2 ^ n : Nat) : Int)))) ∧ w = w' := by
  have h8 := pow_le hn
  obtain ⟨P, hP⟩ : ∃ P : Nat, 2 ^ n = P := ⟨_, rfl⟩
  have hPi : (2 : Int) ^ n = (P : Int) := by rw [pow_int, hP]
  have hw : IntKind.i64.wrap (1 * (2 : Int) ^ n) = (P : Int) := by rw [hPi, IntKind.wrap_i64]; omega
  rw [is_set, hP]
  by_cases h0 : 0 ≤ s
  · rw [decide_eq_true h0]
    go_enter Try.func84, Try.ntmps84
    go_wp2
    go_ret
    exact ⟨rfl, rfl⟩
  · rw [decide_eq_false h0]
    go_enter Try.func84, Try.ntmps84
    go_wp2
    go_ret
    exact ⟨rfl, rfl⟩
theorem groups_any (s : Int) (w : World) : Calls Try.prog 86 #[.int .i64 s] w fun e w' => e = .returned (.func (.func 99) #[] #[.pointer (some ⟨w.heap.size, 0, none⟩)]) ∧ w.alloc (.cells #[.int .i64 s] 3) = w' := by
  go_enter Try.func86, Try.ntmps86
  go_wp2
  go_ret
  exact ⟨rfl, rfl⟩
end Go.Proofs.Ytgnhmdfajnnkhaa


/- A set's groups, handed on one by one. -/
namespace Go.Proofs.Ytgnhmdfajnnkhaa
set_option maxRecDepth 100000
set_option linter.unusedVariables false
set_option linter.unusedSimpArgs false
open Go.RowKit Go.Shelf
attribute [local go_sem] Oper.semAt_some

theorem list_more (t k m : Nat) : ∃ r, listTo t (k + m) = listTo t k ++ r := by
  induction m with
  | zero => exact ⟨[], by simp⟩
  | succ m ih =>
    obtain ⟨r, hr⟩ := ih
    rw [← Nat.add_assoc, list_next, hr]
    exact ⟨r ++ _, by rw [List.append_assoc]⟩
theorem list_at {t k : Nat} (hk : k < 8) (h : t.testBit k = true) : (listTo t k).length < (listTo t 8).length ∧ (listTo t 8).getD (listTo t k).length 0 = (k : Int) ∧ (listTo t (k + 1)).length = (listTo t k).length + 1 := by
  have h1 := list_next t k
  rw [if_pos h] at h1
  obtain ⟨r, hr⟩ := list_more t (k + 1) (7 - k)
  rw [show k + 1 + (7 - k) = 8 by omega, h1] at hr
  exact ⟨by rw [hr]; simp, by rw [hr]; simp [List.getD_eq_getElem?_getD], by rw [h1]; simp⟩
theorem list_not {t k : Nat} (h : t.testBit k = false) : (listTo t (k + 1)).length = (listTo t k).length := by
  rw [list_next, if_neg (by rw [h]; simp), List.append_nil]
theorem list_zero (t : Nat) : (listTo t 0).length = 0 := rfl
set_option maxHeartbeats 2000000 in
theorem groups_hands (t : Nat) (ht : t < 256) (Bs n0 : Nat) (w0 : World) (hbox : Boxed w0 Bs 3 (.int .i64 (t : Int))) :
    HandsC Try.prog 99 #[.pointer (some ⟨Bs, 0, none⟩)] (fun k => #[.int .i64 ((listTo t 8).getD k 0)]) (listTo t 8).length (fun _ => KeepB n0 [Bs]) w0 := by
  intro n L J Jx W hW hJ hJx hY h0
  have hBs := hbox.lt
  have hbW : Boxed W Bs 3 (.int .i64 (t : Int)) := (hW.block Bs hBs).trans hbox
  have HBW := Lib.hid hbW
  have HY := Lib.hid hY
  clear hY hW hbox hJ hJx hbW
  refine callsIn_of_wp Try.func99 rfl trivial ?_ rfl
  simp only [Try.ntmps99, List.size_toArray, List.length_cons, List.length_nil, Nat.reduceAdd, Nat.reduceSub, Array.replicate_succ, Array.replicate_zero, List.push_toArray, List.append_toArray, List.nil_append, List.cons_append]
  gi_wp2
  gi_loopw [4] (fun i wr => ∃ k : Nat, k ≤ 8 ∧ i = .int .i64 k ∧ J (listTo t k).length wr ∧ Boxed wr Bs 3 (.int .i64 (t : Int))) (fun i _ => 8 - (intOf i).toNat)
  case atStart => exact ⟨0, Nat.zero_le _, rfl, by rw [list_zero]; exact h0, HBW.out⟩
  case round =>
    obtain ⟨k, hk, rfl, hJk, hbr⟩ := hrel
    have hbx := hbr.cell
    have HBR := Lib.hid hbr
    clear hbr
    by_cases hlt : k < 8
    · have q1 : (k : Int) < 8 := by omega
      have HA := Lib.hid (fun X => callsIn_wide (n := n - 1).2 (has_any t k ht hlt X))
      cases hm : t.testBit k
      · rw [hm] at HA
        have HJK := Lib.hid hJk
        have HN := Lib.hid (list_not hm)
        clear hm hJk
        gi_wp2_with (refine ⟨trivial, (fun h => by simp [Fence.wide] at h), ?_⟩; (with_reducible refine (HA.out _).mono ?_); rintro e w1 ⟨rfl, rfl⟩)
        refine ⟨fun f h => (by cases h), ?_⟩
        gi_wp2
        go_roundw
        case rel => exact ⟨k + 1, by omega, by go_num, by rw [HN.out]; exact HJK.out, HBR.out⟩
        case measure => simp [intOf]; omega
      · rw [hm] at HA
        obtain ⟨k1, k2, k3⟩ := list_at hlt hm
        have hy0 := yield_any (n - 1) (HY.out _ wr k1 hJk)
        rw [k2, ← k3] at hy0
        obtain ⟨fn, tmps, assign, body, hy, hR⟩ := hy0
        have HR := Lib.hid hR
        clear hR k1 k2 k3 hm hJk
        gi_wp2_with (refine ⟨trivial, (fun h => by simp [Fence.wide] at h), ?_⟩; (with_reducible refine (HA.out _).mono ?_); rintro e w1 ⟨rfl, rfl⟩)
        refine ⟨(fun h => by simp [Fence.wide] at h), HR.out.mono ?_⟩
        rintro e W3 (⟨rfl, hJ3, hk3, -⟩ | ⟨rfl, hJx3, -⟩)
        · have HJ3 := Lib.hid hJ3
          have HK3 := Lib.hid hk3
          clear hJ3 hk3 hy HR
          gi_wp2
          go_roundw
          case rel => exact ⟨k + 1, by omega, by go_num, HJ3.out, HK3.out.2 Bs (by simp) _ HBR.out⟩
          case measure => simp [intOf]; omega
        · have HJX := Lib.hid hJx3
          clear hJx3 hy HR
          gi_wp2
          refine bodyPost_ret (results_none rfl _ _ _) rfl ?_
          exact ⟨⟨_, rfl⟩, .inr HJX.out⟩
    · obtain rfl : k = 8 := by omega
      gi_wp2
      go_end0
      exact ⟨⟨_, rfl⟩, .inl hJk⟩
end Go.Proofs.Ytgnhmdfajnnkhaa


/- append onto a slice of rows of the call's own, inside a fence; what an iterator turns leaves such a slice. -/
namespace Go.Proofs.Ytgnhmdfajnnkhaa
set_option linter.unusedVariables false
open Go.RowKit

theorem boxed_turn {X Y : World} {row : Option Nat} {g : Nat} {t : TypeId} {v : Value} (h : Boxed X g t v) (hg : X.grownBy Y row) (hr : ∀ r, row = some r → ∃ o : Obj, X.heap[r]? = some o ∧ o.isCells = false) : Boxed Y g t v := by
  refine h.kept hg (fun e => ?_)
  obtain ⟨o, ho, hc⟩ := hr _ e.symm
  rw [show X.heap[g]? = _ from h] at ho
  cases ho
  cases hc
end Go.Proofs.Ytgnhmdfajnnkhaa


/- What is against some groups: their rows, together. -/
namespace Go.Proofs.Ytgnhmdfajnnkhaa
set_option maxRecDepth 100000
set_option linter.unusedVariables false
set_option linter.unusedSimpArgs false
open Go.RowKit Go.Shelf
attribute [local go_sem] Oper.semAt_some

/-- the rows of some groups, together -/
def orN (m l : List Int) : Nat := l.foldl (fun a i => a ||| (m.getD i.toNat 0).toNat) 0
theorem orN_snoc (m l : List Int) (i : Int) : orN m (l ++ [i]) = orN m l ||| (m.getD i.toNat 0).toNat := by simp [orN]
theorem orN_bit (m : List Int) (k : Nat) (l : List Int) : (orN m l).testBit k = l.any fun i => (m.getD i.toNat 0).toNat.testBit k := by
  suffices h : ∀ a : Nat, (l.foldl (fun a i => a ||| (m.getD i.toNat 0).toNat) a).testBit k = (a.testBit k || l.any fun i => (m.getD i.toNat 0).toNat.testBit k) by
    rw [orN, h]; simp
  induction l with
  | nil => intro a; simp
  | cons i l ih => intro a; rw [List.foldl_cons, ih, Nat.testBit_or, List.any_cons, Bool.or_assoc]
theorem orN_lt {m : List Int} (h : ∀ i, i < m.length → 0 ≤ m.getD i 0 ∧ m.getD i 0 < 256) (l : List Int) : orN m l < 256 := by
  suffices h : ∀ a : Nat, a < 2 ^ 8 → l.foldl (fun a i => a ||| (m.getD i.toNat 0).toNat) a < 2 ^ 8 from h 0 (by omega)
  induction l with
  | nil => intro a ha; exact ha
  | cons i l ih =>
    intro a ha
    rw [List.foldl_cons]
    refine ih _ (Nat.or_lt_two_pow ha ?_)
    rcases Nat.lt_or_ge i.toNat m.length with h1 | h1
    · have := h _ h1
      omega
    · have e : m.getD i.toNat 0 = 0 := by simp [List.getD_eq_getElem?_getD, h1]
      rw [e]
      simp
theorem list_mem {t k : Nat} {i : Int} (h : i ∈ listTo t k) : ∃ j : Nat, i = j ∧ j < k ∧ t.testBit j = true := by
  rw [listTo, List.mem_map] at h
  obtain ⟨j, hj, rfl⟩ := h
  rw [List.mem_filter, List.mem_range] at hj
  exact ⟨j, rfl, hj.1, hj.2⟩
theorem list_get {t j : Nat} (h : j < (listTo t 8).length) : ∃ i : Nat, (listTo t 8).getD j 0 = (i : Int) ∧ i < 8 ∧ t.testBit i = true := by
  have h1 : (listTo t 8).getD j 0 ∈ listTo t 8 := by
    rw [List.getD_eq_getElem?_getD, List.getElem?_eq_getElem h]
    exact List.getElem_mem h
  exact list_mem h1
theorem bit_lt {t i n : Nat} (ht : t < 2 ^ n) (h : t.testBit i = true) : i < n := by
  rcases Nat.lt_or_ge i n with h1 | h1
  · exact h1
  · have h2 : 2 ^ n ≤ 2 ^ i := Nat.pow_le_pow_right (by omega) h1
    rw [Nat.testBit_lt_two_pow (by omega)] at h
    cases h
set_option maxHeartbeats 2000000 in
theorem over_any (A : Option Addr) (n c : Nat) (m : List Int) (t : Nat) (w : World) (hit : Its .i64 w A n c m) (hrow : ∀ i, i < n → 0 ≤ m.getD i 0 ∧ m.getD i 0 < 256) (ht : t < 256) (htn : t < 2 ^ n) :
    Calls Try.prog 105 #[.slice A n c, .int .i64 (t : Int)] w fun e w' => e = .returned (.int .i64 ((orN m (listTo t 8) : Nat) : Int)) ∧ Below w.heap.size w w' := by
  have hn := hit.small
  have hml := hit.len
  have hlt := orN_lt (m := m) (by rw [hml]; exact hrow)
  obtain ⟨L, hL⟩ : ∃ L, listTo t 8 = L := ⟨_, rfl⟩
  have hget : ∀ j, j < L.length → ∃ i : Nat, L.getD j 0 = (i : Int) ∧ i < n := fun j hj => by
    rw [← hL] at hj ⊢
    obtain ⟨i, h1, h2, h3⟩ := list_get hj
    exact ⟨i, h1, bit_lt htn h3⟩
  have HG := Lib.hid (fun (B : Nat) (W0 : World) (o : Boxed W0 B 3 (.int .i64 (t : Int))) => groups_hands t ht B w.heap.size W0 o)
  rw [hL] at HG ⊢
  obtain ⟨OL, hOL⟩ : ∃ OL, orN m L = OL := ⟨_, rfl⟩
  rw [hOL]
  have HOL := Lib.hid hOL
  clear hL hOL
  refine (callsIn_wide (n := 9)).1 ?_
  refine callsIn_of_wp_marks Try.func105 rfl trivial ?_ rfl
  simp only [Try.ntmps105, List.size_toArray, List.length_cons, List.length_nil, Nat.reduceAdd, Nat.reduceSub, Array.replicate_succ, Array.replicate_zero, List.push_toArray, List.append_toArray, List.nil_append, List.cons_append]
  gi_wp2_with (refine ⟨trivial, ?_⟩; gi_at_call 86; refine (callsIn_wide.2 (groups_any _ _)).mono ?_; rintro e w1 ⟨rfl, rfl⟩)
  have o1 := Boxed.new w 40 (.slice A n c)
  obtain ⟨V1, hV1⟩ : ∃ V1, w.alloc (.cells #[.slice A n c] 40) = V1 := ⟨_, rfl⟩
  have s1 : V1.heap.size = w.heap.size + 1 := by rw [← hV1]; simp
  rw [hV1] at o1 ⊢
  have o2 := Boxed.new V1 3 (.int .i64 0)
  obtain ⟨V2, hV2⟩ : ∃ V2, V1.alloc (.cells #[.int .i64 0] 3) = V2 := ⟨_, rfl⟩
  have s2 : V2.heap.size = w.heap.size + 1 + 1 := by rw [← hV2]; simp [s1]
  rw [s1] at o2
  have o1 := o1.alloc (.cells #[.int .i64 0] 3)
  rw [hV2] at o1 o2 ⊢
  have o3 := Boxed.new V2 3 (.int .i64 (t : Int))
  obtain ⟨W0, hW0⟩ : ∃ W0, V2.alloc (.cells #[.int .i64 (t : Int)] 3) = W0 := ⟨_, rfl⟩
  have s3 : W0.heap.size = w.heap.size + 1 + 1 + 1 := by rw [← hW0]; simp [s2]
  rw [s2] at o3
  have o1 := o1.alloc (.cells #[.int .i64 (t : Int)] 3)
  have o2 := o2.alloc (.cells #[.int .i64 (t : Int)] 3)
  have hB0 : Below w.heap.size w W0 := by
    rw [← hW0, ← hV2, ← hV1]
    exact ((one_alloc w _).alloc (by simp) _).alloc (by simp; omega) _
  rw [hW0] at o1 o2 o3 ⊢
  clear hV1 hV2 hW0 s1 s2
  have hin := HG.out (w.heap.size + 1 + 1) W0 o3
  clear HG
  refine range_c (w0 := W0) (gf := 99) (lb := #[.pointer (some ⟨w.heap.size + 1 + 1, 0, none⟩)]) rfl (enters_of Try.func99 (by kernel_rfl) rfl) hin (Below.refl _ _) (fun _ => rfl) (fun h k => h.trans k)
    (fun X o o' hx hc hw => KeepB.put o' hx (by omega) (fun b hb => by simp only [List.mem_cons, List.not_mem_nil, or_false] at hb; omega))
    (fun k X => Boxed X w.heap.size 40 (.slice A n c) ∧ Boxed X (w.heap.size + 1) 3 (.int .i64 ((orN m (L.take k) : Nat) : Int)) ∧ Below w.heap.size w X) ?hI (fun _ => False) (fun _ _ _ _ h _ _ => h) ⟨o1, by rw [List.take_zero]; exact o2, hB0⟩
    (fun k a' X => a' = { tmps := #[.slice A n c, .int .i64 (t : Int), .pointer (some ⟨w.heap.size, 0, none⟩), undef, .int .i64 0, .pointer (some ⟨w.heap.size + 1, 0, none⟩), .int .i64 (L.getD k 0), .int .i64 (t : Int), .func (.func 99) #[] #[.pointer (some ⟨w.heap.size + 1 + 1, 0, none⟩)], .int .i64 (L.getD k 0), undef, undef, undef, undef, undef, undef, undef], defers := [] }) (fun _ _ _ _ _ _ h _ _ => h) ?assign ?body ?done (fun _ _ _ h _ => h.elim)
  case hI =>
    rintro k X Y row ⟨p1, p2, p3⟩ hg hr
    exact ⟨boxed_turn p1 hg (fun r e => (hr r e).2), boxed_turn p2 hg (fun r e => (hr r e).2), p3.grown hg p3.size (fun r e => by have := (hr r e).1; omega)⟩
  case assign =>
    rintro x k X K hk hsx p hK
    have hK2 := hK _ X (KeepsFrom.refl _ _) (KeepB.refl _ _ _) p rfl
    have HK2 := Lib.hid hK2
    obtain ⟨v, hv⟩ : ∃ v, L.getD k 0 = v := ⟨_, rfl⟩
    rw [hv] at HK2 ⊢
    clear hK2 hK hv
    gi_wp2
    exact HK2.out
  case body =>
    rintro x k a' X hk hsx ⟨p1, p2, p3⟩ rfl
    obtain ⟨i, hi, hin⟩ := hget k hk
    obtain ⟨b, off, rfl, hc⟩ := hit.at_ (by omega)
    have z := (p3.cell (p := ⟨b, off + i, none⟩) (block_lt_of_cell (hc i hin))).trans (hc i hin)
    obtain ⟨r, hr⟩ := Int.eq_ofNat_of_zero_le (hrow i hin).1
    have hr2 := (hrow i hin).2
    have hsn : orN m (L.take (k + 1)) = orN m (L.take k) ||| r := by
      have e : L[k]'hk = (i : Int) := by rw [← hi]; simp [List.getD_eq_getElem?_getD, hk]
      rw [List.take_succ_eq_append_getElem hk, orN_snoc, e, Int.toNat_natCast, hr]
      rfl
    have hl1 := hlt (L.take k)
    rw [hr] at z hr2
    rw [hi]
    obtain ⟨O, hO⟩ : ∃ O, orN m (L.take k) = O := ⟨_, rfl⟩
    have hor := or_set O r (by omega) (by omega)
    rw [hO] at hsn p2 hl1
    rw [← hsn] at hor
    obtain ⟨O2, hO2⟩ : ∃ O2, orN m (L.take (k + 1)) = O2 := ⟨_, rfl⟩
    rw [hO2] at hor
    have q0 : 0 ≤ (i : Int) := by omega
    have q1 : (i : Int) < n := by omega
    have y1 := p1.cell
    have y2 := p2.cell
    have y3 := p2.frozen
    have HP := Lib.hid (show KeepsFrom W0.heap.size X ((X.setCell ⟨w.heap.size + 1, 0, none⟩ (.int .i64 (O2 : Int))).drew) ∧ KeepB w.heap.size [w.heap.size + 1 + 1] X ((X.setCell ⟨w.heap.size + 1, 0, none⟩ (.int .i64 (O2 : Int))).drew) ∧ Boxed ((X.setCell ⟨w.heap.size + 1, 0, none⟩ (.int .i64 (O2 : Int))).drew) w.heap.size 40 (.slice (some ⟨b, off, none⟩) n c) ∧
        Boxed ((X.setCell ⟨w.heap.size + 1, 0, none⟩ (.int .i64 (O2 : Int))).drew) (w.heap.size + 1) 3 (.int .i64 ((orN m (L.take (k + 1)) : Nat) : Int)) ∧ Below w.heap.size w ((X.setCell ⟨w.heap.size + 1, 0, none⟩ (.int .i64 (O2 : Int))).drew) from by
      refine ⟨((KeepsOthers.setCell _ _ _).trans (KeepsOthers.drew _)).from _, ⟨((Below.refl w.heap.size X).setCell (p := ⟨w.heap.size + 1, 0, none⟩) (Nat.le_succ _) _).drew, fun g hg o ho => ?_⟩, p1.other (by omega) _, ?_, (p3.setCell (p := ⟨w.heap.size + 1, 0, none⟩) (Nat.le_succ _) _).drew⟩
      · simp only [List.mem_cons, List.not_mem_nil, or_false] at hg
        exact (Below.heap_setCell _ _ _ _ (by simp only; omega)).trans ho
      · rw [hO2]; exact p2.set _)
    clear hc hr hsn hO hO2 hi hget hin hlt hrow hit p1 p2 p3
    have hmx : Try.prog.follows .mixedOrders = true := by kernel_rfl
    gi_wp2
    gi_region_with_o (fail)
    all_goals gi_wp2
    all_goals exact HP.out
  case done =>
    rintro D X hD ⟨p1, p2, p3⟩ hDD
    rw [List.take_length, HOL.out] at p2
    have y2 := p2.cell
    have hbl := p3.grown (grownBy_putObj' X D (.deferred none)) p3.size (fun r e => by cases e; omega)
    gi_wp2
    refine ⟨by simp, .inl ⟨_, _, rfl, run_takeDeferred hDD, ?_⟩⟩
    exact ⟨_, results_tmp rfl _ _ _, rfl, hbl⟩
end Go.Proofs.Ytgnhmdfajnnkhaa


/- What package group's own ways come to: rows together are the groups against; a greatest free set is one that just all others are against. -/
namespace Go.Proofs.Ytgnhmdfajnnkhaa
set_option maxRecDepth 100000
set_option linter.unusedVariables false
open Go.RowKit

theorem bit_row {m : List Int} {i k : Nat} (h : 0 ≤ m.getD i 0) : (m.getD i 0).toNat.testBit k = meetM m i k := by
  obtain ⟨r, hr⟩ := Int.eq_ofNat_of_zero_le h
  unfold meetM
  rw [hr, bit_nat]
  rfl
theorem over_is {m : List Int} {t : Nat} (hm : mayM m = true) (ht : t < 2 ^ m.length) : orN m (listTo t 8) = sumN (hitM m (t : Int)) m.length := by
  obtain ⟨⟨-, h8⟩, hrow, -⟩ := may_all hm
  refine Nat.eq_of_testBit_eq fun k => ?_
  rw [Bool.eq_iff_iff, against_bit, orN_bit, List.any_eq_true]
  constructor
  · rintro ⟨x, hx, hb⟩
    obtain ⟨i, rfl, hi, hti⟩ := list_mem hx
    have hil := bit_lt ht hti
    rw [Int.toNat_natCast] at hb
    obtain ⟨r, hr⟩ := Int.eq_ofNat_of_zero_le (hrow i hil).1
    have hk : k < m.length := by
      have h2 := (hrow i hil).2
      rw [hr, pow_int] at h2
      rw [hr] at hb
      exact bit_lt (by omega) hb
    exact ⟨hk, i, hil, hti, by rw [← bit_row (hrow i hil).1]; exact hb⟩
  · rintro ⟨hk, i, hi, hti, hmt⟩
    refine ⟨(i : Int), ?_, by rw [Int.toNat_natCast, bit_row (hrow i hi).1]; exact hmt⟩
    rw [listTo, List.mem_map]
    exact ⟨i, List.mem_filter.2 ⟨List.mem_range.2 (by omega), hti⟩, rfl⟩
end Go.Proofs.Ytgnhmdfajnnkhaa


/- A range over a function inside an ordinary loop: each time it is come to, it lays one mark more among the deferred calls; how a function leaves with all of them. -/
namespace Go.Proofs.Ytgnhmdfajnnkhaa
set_option linter.unusedVariables false
open Go.RowKit

/-- the marks that those ranges have laid -/
def marksOf (bs : List Nat) : List Deferred := bs.map fun D => { target := .collected D, args := #[] }
/-- their blocks, open, none twice, from B on -/
def MarksAt (B : Nat) (bs : List Nat) (W : World) : Prop := bs.Nodup ∧ ∀ D ∈ bs, B ≤ D ∧ W.heap[D]? = some (.deferred (some []))
theorem MarksAt.nil (B : Nat) (W : World) : MarksAt B [] W := ⟨List.nodup_nil, fun D h => by cases h⟩
theorem MarksAt.below {B : Nat} {bs : List Nat} {W W' : World} (h : MarksAt B bs W) (hb : Below W.heap.size W W') : MarksAt B bs W' :=
  ⟨h.1, fun D hD => ⟨(h.2 D hD).1, (hb.block D (Array.getElem?_eq_some_iff.1 (h.2 D hD).2).1).trans (h.2 D hD).2⟩⟩
theorem MarksAt.keeps {B : Nat} {bs : List Nat} {W W' : World} (h : MarksAt B bs W) (hk : KeepsOthers W W') : MarksAt B bs W' :=
  ⟨h.1, fun D hD => ⟨(h.2 D hD).1, hk.same D _ (h.2 D hD).2 rfl⟩⟩
theorem MarksAt.turn {B : Nat} {bs : List Nat} {W W' : World} {row : Option Nat} (h : MarksAt B bs W) (hg : W.grownBy W' row) (hr : ∀ r, row = some r → ∀ D ∈ bs, D ≠ r) : MarksAt B bs W' :=
  ⟨h.1, fun D hD => ⟨(h.2 D hD).1, (hg.block D (Array.getElem?_eq_some_iff.1 (h.2 D hD).2).1 (fun e => hr D e.symm D hD rfl)).trans (h.2 D hD).2⟩⟩
theorem MarksAt.lt {B : Nat} {bs : List Nat} {W : World} (h : MarksAt B bs W) : ∀ D ∈ bs, D < W.heap.size := fun D hD => (Array.getElem?_eq_some_iff.1 (h.2 D hD).2).1
theorem MarksAt.more {B D : Nat} {bs : List Nat} {W : World} (h : MarksAt B bs W) (hB : B ≤ D) (hD : W.heap[D]? = some (.deferred (some []))) (hn : ∀ E ∈ bs, E ≠ D) : MarksAt B (D :: bs) W :=
  ⟨List.nodup_cons.2 ⟨fun hm => hn D hm rfl, h.1⟩, fun E hE => by
    rcases List.mem_cons.1 hE with rfl | hE
    · exact ⟨hB, hD⟩
    · exact h.2 E hE⟩
theorem leaves_marks {P : Program} {fn : Func} {tmps : Array Value} {R : Ending → World → Prop} {n B : Nat} (I : World → Prop) (hI : OwnFrom B (fun (_ : Unit) X => I X)) (hend : ∀ X, I X → ∃ v, (results fn tmps).run P X = .ok v X ∧ R (.returned v) X) :
    ∀ (bs : List Nat) (W : World), MarksAt B bs W → I W → LeavesInM Fence.wide n P fn tmps R (marksOf bs) .returning W
  | [], W, _, hi => hend W hi
  | D :: bs, W, hm, hi => by
    obtain ⟨hB, hD⟩ := hm.2 D (List.mem_cons_self ..)
    have hnd := List.nodup_cons.1 hm.1
    refine ⟨by simp, .inl ⟨_, _, rfl, run_takeDeferred hD, ?_⟩⟩
    refine leaves_marks I hI hend bs _ ⟨hnd.2, fun E hE => ?_⟩ (hI.putObj (s := ()) _ hi hB hD rfl)
    have hne : E ≠ D := fun e => hnd.1 (e ▸ hE)
    obtain ⟨h1, h2⟩ := hm.2 E (List.mem_cons_of_mem _ hE)
    exact ⟨h1, (World.putObj_heap_other hne).trans h2⟩
end Go.Proofs.Ytgnhmdfajnnkhaa


/- The walk over package group's May: a matrix, row by row; each row's groups by the range over a function. -/
namespace Go.Proofs.Ytgnhmdfajnnkhaa
set_option maxRecDepth 100000
set_option linter.unusedVariables false
set_option linter.unusedSimpArgs false
open Go.RowKit Go.Shelf
attribute [local go_sem] Oper.semAt_some

/-- row i is a set of the groups that there are, without i; all that it has have i -/
def fineRow (m : List Int) (n i : Nat) : Prop := (0 ≤ m.getD i 0 ∧ m.getD i 0 < ((2 ^ n : Nat) : Int)) ∧ bitI (m.getD i 0) i = false ∧ ∀ g, g < n → bitI (m.getD i 0) g = true → bitI (m.getD g 0) i = true
theorem may_of_rows {m : List Int} {n : Nat} (hn : m.length = n) (h : 1 ≤ n ∧ n ≤ 8) (hr : ∀ i, i < n → fineRow m n i) : mayM m = true := by
  refine may_of_all hn h (fun k hk => (hr k hk).1) fun i hi k hk => ⟨?_, ?_⟩
  · unfold meetM
    have h1 := (hr i hi).2.2 k hk
    have h2 := (hr k hk).2.2 i hi
    cases e1 : bitI (m.getD i 0) k <;> cases e2 : bitI (m.getD k 0) i
    · rfl
    · rw [h2 e2] at e1; cases e1
    · rw [h1 e1] at e2; cases e2
    · rfl
  · rintro ⟨h1, rfl⟩
    unfold meetM at h1
    rw [(hr i hi).2.1] at h1
    cases h1
theorem may_self {m : List Int} {n i : Nat} (hn : m.length = n) (hi : i < n) (h : bitI (m.getD i 0) i = true) : mayM m = false :=
  may_not hn hi hi fun hf => hf.2 ⟨h, rfl⟩
theorem may_one {m : List Int} {n i g : Nat} (hn : m.length = n) (hi : i < n) (hg : g < n) (h1 : bitI (m.getD i 0) g = true) (h2 : bitI (m.getD g 0) i = false) : mayM m = false :=
  may_not hn hi hg fun hf => by
    have e := hf.1
    unfold meetM at e
    rw [h1, h2] at e
    cases e
theorem may_result (b : Bool) (B : Nat) (tmps : Array Value) (X : World) (hp : tmps.getD 2 undef = .pointer (some ⟨B, 0, none⟩)) (hc : X.cell? ⟨B, 0, none⟩ = some (.bool b)) : (results Try.f101 tmps).run Try.prog X = .ok (.bool b) X := by
  have hp2 : tmps[2]?.getD undef = .pointer (some ⟨B, 0, none⟩) := by simpa using hp
  simp [results, Try.results101, go_sem, hp2, hc]
theorem may_leaves {b : Bool} {w W : World} {tmps : Array Value} {R : Ending → World → Prop} (bs : List Nat) (hp : tmps.getD 2 undef = .pointer (some ⟨w.heap.size + 1, 0, none⟩)) (hm : MarksAt w.heap.size bs W) (hb : Boxed W (w.heap.size + 1) 4 (.bool b)) (hB : Below w.heap.size w W)
    (hR : ∀ X, Below w.heap.size w X → R (.returned (.bool b)) X) : LeavesInM Fence.wide 9 Try.prog Try.f101 tmps R (marksOf bs) .returning W := by
  refine leaves_marks (fun X => Boxed X (w.heap.size + 1) 4 (.bool b) ∧ Below w.heap.size w X) ?_ (fun X hX => ⟨_, may_result b _ tmps X hp hX.1.cell, hR X hX.2⟩) bs W hm ⟨hb, hB⟩
  rintro u X Y row ⟨p1, p2⟩ hg hr
  exact ⟨boxed_turn p1 hg (fun r e => (hr r e).2), p2.grown hg p2.size (fun r e => (hr r e).1)⟩
/-- ahead of row k: those ahead are fine -/
def MayInv (A : Option Addr) (n c : Nat) (m : List Int) (w : World) (ds : List Deferred) (v : Value) (X : World) : Prop :=
  ∃ (k : Nat) (bs : List Nat), k ≤ n ∧ v = .int .i64 k ∧ ds = marksOf bs ∧ MarksAt w.heap.size bs X ∧ (∀ i, i < k → fineRow m n i) ∧ Boxed X w.heap.size 40 (.slice A n c) ∧ Boxed X (w.heap.size + 1) 4 (.bool false) ∧ Below w.heap.size w X
set_option maxHeartbeats 4000000 in
theorem gmay_any (A : Option Addr) (n c : Nat) (m : List Int) (w : World) (hit : Its .i64 w A n c m) :
    Calls Try.prog 101 #[.slice A n c] w fun e w' => e = .returned (.bool (mayM m)) ∧ Below w.heap.size w w' := by
  have hn := hit.small
  have HL := Lib.hid hit.len
  have o1 := (Boxed.new w 40 (.slice A n c)).alloc (.cells #[.bool false] 4)
  have o2 := Boxed.new (w.alloc (.cells #[.slice A n c] 40)) 4 (.bool false)
  rw [World.size_alloc] at o2
  have hB0 : Below w.heap.size w ((w.alloc (.cells #[.slice A n c] 40)).alloc (.cells #[.bool false] 4)) := (one_alloc w _).alloc (by simp) _
  refine (callsIn_wide (n := 9)).1 ?_
  refine callsIn_of_wp_marks Try.func101 rfl trivial ?_ rfl
  simp only [Try.ntmps101, List.size_toArray, List.length_cons, List.length_nil, Nat.reduceAdd, Nat.reduceSub, Array.replicate_succ, Array.replicate_zero, List.push_toArray, List.append_toArray, List.nil_append, List.cons_append]
  by_cases h1 : n < 1 ∨ 8 < n
  · have HR := Lib.hid (may_short HL.out h1)
    rcases h1 with h1 | h1
    all_goals
      gi_wp2
      refine may_leaves (w := w) [] rfl (MarksAt.nil _ _) o2 hB0 (fun X hX => ⟨?_, hX⟩)
      rw [HR.out]
  · have h1a : ¬ ((n : Int) < 1) := by omega
    have h1b : ¬ (8 < (n : Int)) := by omega
    have hn1 : 1 ≤ n ∧ n ≤ 8 := by omega
    have hsz : ((w.alloc (.cells #[.slice A n c] 40)).alloc (.cells #[.bool false] 4)).heap.size = w.heap.size + 2 := by simp
    have HMY := Lib.hid (may_of_rows (m := m) HL.out hn1)
    have HIT := Lib.hid hit
    have HO1 := Lib.hid o1
    have HO2 := Lib.hid o2
    have HB0 := Lib.hid hB0
    clear hit h1 o1 o2 hB0
    gi_wp2
    obtain ⟨W0, hW0⟩ : ∃ W0, (w.alloc (.cells #[.slice A n c] 40)).alloc (.cells #[.bool false] 4) = W0 := ⟨_, rfl⟩
    rw [hW0] at HO1 HO2 HB0 hsz ⊢
    clear hW0
    refine wpIn_loop (fun a' wr => ∃ (ds : List Deferred) (u3 u4 u16 u17 u18 u19 u20 u21 u22 u23 u24 u25 u26 u27 u28 u29 u30 u31 u32 u41 : Value), MayInv A n c m w ds u16 wr ∧ a' = { tmps := #[.slice A n c, .pointer (some ⟨w.heap.size, 0, none⟩), .pointer (some ⟨w.heap.size + 1, 0, none⟩), u3, u4, undef, .slice A n c, .int .i64 n, .bool false, .bool false, .slice A n c, .int .i64 n, .bool false, .bool false, .slice A n c, .int .i64 n, u16, u17, u18, u19, u20, u21, u22, u23, u24, u25, u26, u27, u28, u29, u30, u31, u32, undef, undef, undef, undef, undef, undef, undef, undef, u41], defers := ds }) (fun a' _ => n - (intOf (a'.tmps.getD 16 undef)).toNat) ⟨_, _, _, _, _, _, _, _, _, _, _, _, _, _, _, _, _, _, _, _, _, ⟨0, [], by omega, rfl, rfl, MarksAt.nil _ _, fun i hi => by omega, HO1.out, HO2.out, HB0.out⟩, rfl⟩ ?_
    rintro a' wr ⟨ds, u3, u4, u16, u17, u18, u19, u20, u21, u22, u23, u24, u25, u26, u27, u28, u29, u30, u31, u32, u41, ⟨k, bs, hk, rfl, rfl, hm, hf, p1, p2, p3⟩, rfl⟩
    try dsimp only
    by_cases hlt : k < n
    · obtain ⟨b, off, rfl, hc⟩ := HIT.out.at_ (by omega)
      have HC := Lib.hid (fun (i : Nat) (hi : i < n) (X : World) (hX : Below w.heap.size w X) => (hX.cell (p := ⟨b, off + i, none⟩) (block_lt_of_cell (hc i hi))).trans (hc i hi))
      have z := HC.out k hlt wr p3
      obtain ⟨x, hx⟩ : ∃ x, m.getD k 0 = x := ⟨_, rfl⟩
      rw [hx] at z
      have q0 : 0 ≤ (k : Int) := by omega
      have q1 : (k : Int) < n := by omega
      have o3 := Boxed.new wr 3 (.int .i64 (k : Int))
      have y1 := p1.cell
      have e1 := (p1.alloc (.cells #[.int .i64 (k : Int)] 3)).cell
      have e2 := (p2.alloc (.cells #[.int .i64 (k : Int)] 3)).cell
      have e3 := (p2.alloc (.cells #[.int .i64 (k : Int)] 3)).frozen
      have HM := Lib.hid hm
      have HF := Lib.hid hf
      have P1 := Lib.hid p1
      have P2 := Lib.hid p2
      have P3 := Lib.hid p3
      have HO3 := Lib.hid o3
      have HSI := Lib.hid (fun X => callsIn_wide (n := 9 - 1).2 (isSet_any x n hn1.2 X))
      have HHI := Lib.hid (fun X => callsIn_wide (n := 9 - 1).2 (has_int x k (by omega) X))
      have HEND := Lib.hid (show ∀ (hmay : mayM m = false) (tmps : Array Value) (hp : tmps.getD 2 undef = .pointer (some ⟨w.heap.size + 1, 0, none⟩)), LeavesInM Fence.wide 9 Try.prog Try.f101 tmps (fun e w' => e = .returned (.bool (mayM m)) ∧ Below w.heap.size w w') (marksOf bs) .returning ((wr.alloc (.cells #[.int .i64 (k : Int)] 3)).setCell ⟨w.heap.size + 1, 0, none⟩ (.bool false)) from
        fun hmay tmps hp => may_leaves bs hp ((hm.below (one_alloc wr _)).keeps (KeepsOthers.setCell _ _ _)) ((p2.alloc _).set _) ((p3.alloc p3.size _).setCell (p := ⟨w.heap.size + 1, 0, none⟩) (Nat.le_succ _) _) (fun X hX => ⟨by rw [hmay], hX⟩))
      clear hm hf p1 p2 p3 o3 hc
      by_cases hs : 0 ≤ x ∧ x < ((2 ^ n : Nat) : Int)
      · rw [decide_eq_true hs] at HSI
        obtain ⟨t, rfl⟩ := Int.eq_ofNat_of_zero_le hs.1
        have h8 := pow_le hn1.2
        have ht : t < 2 ^ n := by omega
        cases hbk : bitI (t : Int) k
        · rw [hbk] at HHI
          have HX := Lib.hid hx
          have HS := Lib.hid hs
          have HBK := Lib.hid hbk
          clear hx hs hbk
          gi_wp2_with (first
            | (refine ⟨trivial, ?_⟩; gi_at_call 84; refine (HSI.out _).mono ?_; rintro e w1 ⟨rfl, rfl⟩)
            | (refine ⟨trivial, ?_⟩; gi_at_call 100; refine (HHI.out _).mono ?_; rintro e w1 ⟨rfl, rfl⟩)
            | (refine ⟨trivial, ?_⟩; gi_at_call 86; refine (callsIn_wide.2 (groups_any _ _)).mono ?_; rintro e w1 ⟨rfl, rfl⟩))
          obtain ⟨W1, hW1⟩ : ∃ W1, wr.alloc (.cells #[.int .i64 (k : Int)] 3) = W1 := ⟨_, rfl⟩
          have s1 : W1.heap.size = wr.heap.size + 1 := by rw [← hW1]; simp
          have o4 := Boxed.new W1 3 (.int .i64 (t : Int))
          have hB1 : Below wr.heap.size wr W1 := by rw [← hW1]; exact one_alloc wr _
          have o3 := HO3.out
          have p1 := P1.out.alloc (.cells #[.int .i64 (k : Int)] 3)
          have p2 := P2.out.alloc (.cells #[.int .i64 (k : Int)] 3)
          rw [hW1] at o3 p1 p2 ⊢
          rw [s1] at o4
          obtain ⟨W2, hW2⟩ : ∃ W2, W1.alloc (.cells #[.int .i64 (t : Int)] 3) = W2 := ⟨_, rfl⟩
          have s2 : W2.heap.size = wr.heap.size + 1 + 1 := by rw [← hW2]; simp [s1]
          have o3 := o3.alloc (.cells #[.int .i64 (t : Int)] 3)
          have p1 := p1.alloc (.cells #[.int .i64 (t : Int)] 3)
          have p2 := p2.alloc (.cells #[.int .i64 (t : Int)] 3)
          have hB2 : Below wr.heap.size wr W2 := by rw [← hW2]; exact hB1.alloc hB1.size _
          rw [hW2] at o3 o4 p1 p2 ⊢
          have p3 : Below w.heap.size w W2 := P3.out.trans (hB2.mono P3.out.size)
          have hm2 : MarksAt w.heap.size bs W2 := HM.out.below hB2
          have hlt2 := HM.out.lt
          have hin := groups_hands t (by omega) (wr.heap.size + 1) w.heap.size W2 o4
          obtain ⟨L, hL⟩ : ∃ L, listTo t 8 = L := ⟨_, rfl⟩
          have hget : ∀ j, j < L.length → ∃ i : Nat, L.getD j 0 = (i : Int) ∧ i < n ∧ bitI (t : Int) i = true := fun j hj => by
            rw [← hL] at hj ⊢
            obtain ⟨i, h1, h2, h3⟩ := list_get hj
            exact ⟨i, h1, bit_lt ht h3, by rw [bit_nat]; exact h3⟩
          have hall : ∀ g, g < n → bitI (t : Int) g = true → ∃ j, j < L.length ∧ L.getD j 0 = (g : Int) := fun g hg hbg => by
            rw [bit_nat] at hbg
            obtain ⟨h1, h2, -⟩ := list_at (by omega : g < 8) hbg
            rw [← hL]
            exact ⟨_, h1, h2⟩
          rw [hL] at hin
          clear hL hW1 hW2 hB1 s1 HHI HSI HEND
          refine range_c (w0 := W2) (gf := 99) (lb := #[.pointer (some ⟨wr.heap.size + 1, 0, none⟩)]) rfl (enters_of Try.func99 (by kernel_rfl) rfl) hin (Below.refl _ _) (fun _ => rfl) (fun h k => h.trans k)
            (fun X o o' hx hc hw => KeepB.put o' hx (by have := p3.size; omega) (fun b hb => by simp only [List.mem_cons, List.not_mem_nil, or_false] at hb; omega))
            (fun j X => (∀ j', j' < j → bitI (m.getD (L.getD j' 0).toNat 0) k = true) ∧ Below W2.heap.size W2 X) ?hI
            (fun X => mayM m = false ∧ MarksAt w.heap.size bs X ∧ Boxed X (w.heap.size + 1) 4 (.bool false) ∧ Below w.heap.size w X) ?hIx ⟨fun j' hj => by omega, Below.refl _ _⟩
            (fun j a' X => a' = { tmps := #[.slice (some ⟨b, off, none⟩) n c, .pointer (some ⟨w.heap.size, 0, none⟩), .pointer (some ⟨w.heap.size + 1, 0, none⟩), .pointer (some ⟨wr.heap.size, 0, none⟩), .int .i64 (t : Int), .int .i64 (L.getD j 0), .slice (some ⟨b, off, none⟩) n c, .int .i64 n, .bool false, .bool false, .slice (some ⟨b, off, none⟩) n c, .int .i64 n, .bool false, .bool false, .slice (some ⟨b, off, none⟩) n c, .int .i64 n, .int .i64 k, .bool true, .int .i64 k, .pointer (some ⟨b, off + k, none⟩), .int .i64 (t : Int), .int .i64 (t : Int), .slice (some ⟨b, off, none⟩) n c, .int .i64 n, .bool true, .bool false, .bool false, .int .i64 (t : Int), .int .i64 k, .bool false, .bool false, .int .i64 (t : Int), .func (.func 99) #[] #[.pointer (some ⟨wr.heap.size + 1, 0, none⟩)], .int .i64 (L.getD j 0), undef, undef, undef, undef, undef, undef, undef, u41], defers := [] }) (fun _ _ _ _ _ _ h _ _ => h) ?assign ?body ?done ?stop
          case hI =>
            rintro j X Y row ⟨h1, h2⟩ hg hr
            exact ⟨h1, h2.grown hg h2.size (fun r e => (hr r e).1)⟩
          case hIx =>
            rintro u X Y row ⟨h1, h2, h3, h4⟩ hg hr
            exact ⟨h1, h2.turn hg (fun r e D hD => by have := (hr r e).1; have := hlt2 D hD; omega), boxed_turn h3 hg (fun r e => (hr r e).2), h4.grown hg h4.size (fun r e => by have := (hr r e).1; have := p3.size; omega)⟩
          case assign =>
            rintro l j X K hj hsx p hK
            have hK2 := hK _ X (KeepsFrom.refl _ _) (KeepB.refl _ _ _) p rfl
            have HK2 := Lib.hid hK2
            obtain ⟨v, hv⟩ : ∃ v, L.getD j 0 = v := ⟨_, rfl⟩
            rw [hv] at HK2 ⊢
            clear hK2 hK hv
            gi_wp2
            exact HK2.out
          case body =>
            rintro l j a' X hj hsx ⟨h1, h2⟩ rfl
            obtain ⟨g, hg, hgn, hgb⟩ := hget j hj
            have hBX : Below w.heap.size w X := p3.trans (h2.mono p3.size)
            have z2 := HC.out g hgn X hBX
            obtain ⟨y, hy⟩ : ∃ y, m.getD g 0 = y := ⟨_, rfl⟩
            rw [hy] at z2
            have b1 := boxed_below p1 h2
            have b2 := boxed_below p2 h2
            have b3 := boxed_below o3 h2
            have hmx := hm2.below h2
            have q2 : 0 ≤ (g : Int) := by omega
            have q3 : (g : Int) < n := by omega
            have y4 := b1.cell
            have y5 := b3.cell
            have y6 := b2.cell
            have y7 := b2.frozen
            have HHI := Lib.hid (fun X => callsIn_wide (n := 9 - 1 - 1 - 1).2 (has_int y k (by omega) X))
            rw [hg]
            have hmo : Try.prog.follows .mixedOrders = true := by kernel_rfl
            cases hby : bitI y k
            · have HP := Lib.hid (show KeepsFrom W2.heap.size X ((X.drew).setCell ⟨w.heap.size + 1, 0, none⟩ (.bool false)) ∧ mayM m = false ∧ MarksAt w.heap.size bs ((X.drew).setCell ⟨w.heap.size + 1, 0, none⟩ (.bool false)) ∧ Boxed ((X.drew).setCell ⟨w.heap.size + 1, 0, none⟩ (.bool false)) (w.heap.size + 1) 4 (.bool false) ∧ Below w.heap.size w ((X.drew).setCell ⟨w.heap.size + 1, 0, none⟩ (.bool false)) from
                ⟨((KeepsOthers.drew _).trans (KeepsOthers.setCell _ _ _)).from _, may_one HL.out hlt hgn (by rw [HX.out]; exact hgb) (by rw [hy]; exact hby), hmx.keeps ((KeepsOthers.drew _).trans (KeepsOthers.setCell _ _ _)), b2.set _, hBX.drew.setCell (p := ⟨w.heap.size + 1, 0, none⟩) (Nat.le_succ _) _⟩)
              rw [hby] at HHI
              clear hg hy hgb hby h1 h2 hBX b1 b2 b3 hmx hget hall hin hm2 hlt2 o3 o4 p1 p2 hj hsx
              gi_wp2
              gi_region_with_o (refine ⟨trivial, ?_⟩; gi_at_call 100; refine (CallsIn.inRound l (HHI.out _)).mono ?_; rintro e w' ⟨rfl, rfl⟩)
              all_goals gi_wp2
              all_goals exact HP.out
            · have HP := Lib.hid (show KeepsFrom W2.heap.size X (X.drew) ∧ KeepB w.heap.size [wr.heap.size + 1] X (X.drew) ∧ (∀ j', j' < j + 1 → bitI (m.getD (L.getD j' 0).toNat 0) k = true) ∧ Below W2.heap.size W2 (X.drew) from
                ⟨(KeepsOthers.drew _).from _, ⟨(Below.refl _ X).drew, fun b _ o ho => ho⟩, fun j' hj' => by
                  by_cases e : j' = j
                  · rw [e, hg, Int.toNat_natCast, hy]; exact hby
                  · exact h1 j' (by omega), h2.drew⟩)
              rw [hby] at HHI
              clear hg hy hgb hby h1 h2 hBX b1 b2 b3 hmx hget hall hin hm2 hlt2 o3 o4 p1 p2 hj hsx
              gi_wp2
              gi_region_with_o (refine ⟨trivial, ?_⟩; gi_at_call 100; refine (CallsIn.inRound l (HHI.out _)).mono ?_; rintro e w' ⟨rfl, rfl⟩)
              all_goals gi_wp2
              all_goals exact HP.out
          case done =>
            rintro D X hD ⟨h1, h2⟩ hDD
            have HI := Lib.hid (show MayInv (some ⟨b, off, none⟩) n c m w (marksOf (D :: bs)) (.int .i64 ((k : Int) + 1)) X from
              ⟨k + 1, D :: bs, by omega, by go_num, rfl, (hm2.below h2).more (by have := p3.size; omega) hDD (fun E hE => by have := hlt2 E hE; omega), fun i hi => by
                by_cases e : i = k
                · subst e
                  refine ⟨by rw [HX.out]; exact HS.out, by rw [HX.out]; exact HBK.out, fun g hg hbg => ?_⟩
                  rw [HX.out] at hbg
                  obtain ⟨j, hj, hjg⟩ := hall g hg hbg
                  have := h1 j hj
                  rw [hjg, Int.toNat_natCast] at this
                  exact this
                · exact HF.out i (by omega), boxed_below p1 h2, boxed_below p2 h2, p3.trans (h2.mono p3.size)⟩)
            clear h1 h2 hget hall hin hm2 hlt2 o3 o4 p1 p2 hDD
            gi_wp2
            refine ⟨?_, ?measure⟩
            (repeat apply Exists.intro)
            refine ⟨?rel, rfl⟩
            case rel => exact HI.out
            case measure => simp [intOf]; omega
          case stop =>
            rintro D X hD ⟨h1, h2, h3, h4⟩ hDD
            have HP := Lib.hid (show ∀ (tmps : Array Value) (hp : tmps.getD 2 undef = .pointer (some ⟨w.heap.size + 1, 0, none⟩)), LeavesInM Fence.wide 9 Try.prog Try.f101 tmps (fun e w' => e = .returned (.bool (mayM m)) ∧ Below w.heap.size w w') (marksOf (D :: bs)) .returning X from
              fun tmps hp => may_leaves (D :: bs) hp (h2.more (by have := p3.size; omega) hDD (fun E hE => by have := hlt2 E hE; omega)) h3 h4 (fun X hX => ⟨by rw [h1], hX⟩))
            clear h1 h2 h3 h4 hget hall hin hm2 hlt2 o3 o4 p1 p2 hDD
            gi_wp2
            refine HP.out _ ?_
            rfl
        · rw [hbk] at HHI
          have HMF := Lib.hid (may_self HL.out hlt (by rw [hx]; exact hbk))
          clear hx hs hbk
          gi_wp2_with (first
            | (refine ⟨trivial, ?_⟩; gi_at_call 84; refine (HSI.out _).mono ?_; rintro e w1 ⟨rfl, rfl⟩)
            | (refine ⟨trivial, ?_⟩; gi_at_call 100; refine (HHI.out _).mono ?_; rintro e w1 ⟨rfl, rfl⟩))
          refine HEND.out HMF.out _ ?_
          rfl
      · rw [decide_eq_false hs] at HSI
        have HMF := Lib.hid (may_row HL.out hlt (by rw [hx]; omega))
        clear hx hs
        gi_wp2_with (refine ⟨trivial, ?_⟩; gi_at_call 84; refine (HSI.out _).mono ?_; rintro e w1 ⟨rfl, rfl⟩)
        refine ⟨trivial, ?_⟩
        gi_wp2
        refine HEND.out HMF.out _ ?_
        rfl
    · obtain rfl : k = n := by omega
      have HMT := Lib.hid (HMY.out hf)
      have y2 := p2.cell
      have y3 := p2.frozen
      have HM := Lib.hid hm
      have P2 := Lib.hid p2
      have P3 := Lib.hid p3
      clear hf hm p1 p2 p3
      gi_wp2
      exact may_leaves bs rfl (HM.out.keeps (KeepsOthers.setCell _ _ _)) (P2.out.set _) (P3.out.setCell (p := ⟨w.heap.size + 1, 0, none⟩) (Nat.le_succ _) _) (fun X hX => ⟨by rw [HMT.out], hX⟩)
end Go.Proofs.Ytgnhmdfajnnkhaa


/- slices.Collect of what is handed on, one by one. -/
namespace Go.Proofs.Ytgnhmdfajnnkhaa
set_option maxRecDepth 100000
set_option linter.unusedVariables false
set_option linter.unusedSimpArgs false
open Go.RowKit Go.Shelf
attribute [local go_sem] Oper.semAt_some

theorem ownI_turn {K : IntKind} {e : TypeId} {X Y : World} {base : Nat} {v : Value} {l : List Int} {row : Option Nat} (h : OwnI K e X base v l) (hg : X.grownBy Y row) (hr : ∀ r, row = some r → ∃ o : Obj, X.heap[r]? = some o ∧ o.isCells = false) : OwnI K e Y base v l := by
  refine h.far hg ?_
  rcases h.2 with ⟨hv, _⟩ | ⟨g, cap, cur, hv, _, hh, _⟩
  · left; rw [hv]; rfl
  · right
    rw [hv]
    intro e2
    obtain ⟨o, ho, hc⟩ := hr g e2.symm
    exact block_ne hh rfl ho hc rfl
def GathInv (L : List Int) (w : World) (base : Nat) (k : Nat) (X : World) : Prop :=
  (∃ v, Boxed X w.heap.size 40 v ∧ OwnI .i64 3 X base v (L.take k)) ∧ Below w.heap.size w X
set_option maxHeartbeats 2000000 in
theorem gather_own (gf : Nat) (lb : Array Value) (L : List Int) (n0 : Nat) (bs : List Nat) (w : World) (hLl : L.length ≤ 1000000) (hn0 : n0 ≤ w.heap.size) (hbs : ∀ b ∈ bs, b < w.heap.size) (eg : ∀ args w, (callFunc gf args).run Try.prog w = .ok (.enter gf args) w)
    (hin : HandsC Try.prog gf lb (fun k => #[.int .i64 (L.getD k 0)]) L.length (fun _ => KeepB n0 bs) w) :
    Calls Try.prog 98 #[.slice none 0 0, .func (.func gf) #[] lb] w (GivesO L w) := by
  refine (callsIn_wide (n := 9)).1 ?_
  refine callsIn_of_wp_marks Try.func98 rfl trivial ?_ rfl
  simp only [Try.ntmps98, List.size_toArray, List.length_cons, List.length_nil, Nat.reduceAdd, Nat.reduceSub, Array.replicate_succ, Array.replicate_zero, List.push_toArray, List.append_toArray, List.nil_append, List.cons_append]
  gi_wp2
  have o1 := Boxed.new w 40 (.slice none 0 0)
  obtain ⟨W0, hW0⟩ : ∃ W0, w.alloc (.cells #[.slice none 0 0] 40) = W0 := ⟨_, rfl⟩
  have s1 : W0.heap.size = w.heap.size + 1 := by rw [← hW0]; simp
  have hB0 : Below w.heap.size w W0 := by rw [← hW0]; exact one_alloc w _
  rw [hW0] at o1 ⊢
  clear hW0
  refine range_c (w0 := w) (gf := gf) (lb := lb) rfl eg hin hB0 (fun _ => rfl) (fun h k => h.trans k)
    (fun X o o' hx hc hw => KeepB.put o' hx (by omega) (fun b hb => by have := hbs b hb; omega))
    (GathInv L w (W0.heap.size + 1 + 1 + 1)) ?hI (fun _ => False) (fun _ _ _ _ h _ _ => h) ⟨⟨_, o1, by rw [List.take_zero]; exact OwnI.nil _ _ _ _⟩, hB0⟩
    (fun k a' X => a' = { tmps := #[.slice none 0 0, .func (.func gf) #[] lb, .pointer (some ⟨w.heap.size, 0, none⟩), undef, .slice none 0 0, .int .i64 (L.getD k 0), .func (.func gf) #[] lb, .int .i64 (L.getD k 0), undef, undef, undef, undef, undef], defers := [] }) (fun _ _ _ _ _ _ h _ _ => h) ?assign ?body ?done (fun _ _ _ h _ => h.elim)
  case hI =>
    rintro k X Y row ⟨⟨v, p1, p2⟩, p3⟩ hg hr
    exact ⟨⟨v, boxed_turn p1 hg (fun r e => (hr r e).2), ownI_turn p2 hg (fun r e => (hr r e).2)⟩, p3.grown hg p3.size (fun r e => by have := (hr r e).1; omega)⟩
  case assign =>
    rintro x k X K hk hsx p hK
    have hK2 := hK _ X (KeepsFrom.refl _ _) (KeepB.refl _ _ _) p rfl
    have HK2 := Lib.hid hK2
    obtain ⟨v, hv⟩ : ∃ v, L.getD k 0 = v := ⟨_, rfl⟩
    rw [hv] at HK2 ⊢
    clear hK2 hK hv
    gi_wp2
    exact HK2.out
  case body =>
    rintro x k a' X hk hsx ⟨⟨v, p1, p2⟩, p3⟩ rfl
    have htk : L.take (k + 1) = L.take k ++ [L.getD k 0] := by
      rw [List.take_succ_eq_append_getElem hk]
      simp [List.getD_eq_getElem?_getD, hk]
    have hkl : (L.take k).length ≤ 1000000 := by rw [List.length_take]; omega
    obtain ⟨R, hR⟩ : ∃ R, L.take k = R := ⟨_, rfl⟩
    obtain ⟨y, hy⟩ : ∃ y, L.getD k 0 = y := ⟨_, rfl⟩
    rw [hR, hy] at htk
    rw [hR] at hkl p2
    rw [hy]
    have y1 := p1.cell
    have y2 := p1.frozen
    have HT := Lib.hid htk
    have P1 := Lib.hid p1
    have P2 := Lib.hid p2
    have P3 := Lib.hid p3
    have hwX : w.heap.size < X.heap.size := p1.lt
    clear htk hR hy p1 p2 p3
    gi_wp2_with (gi_at_builtin
                 refine wpListIn_append_i rfl 40 3 .i64 8 _ _ rfl Try.underlying40 (by kernel_rfl) (by omega) (W0.heap.size + 1 + 1 + 1) v R rfl (P2.out.more _) ⟨X.heap.size, 0, none⟩ 1 1 [y] rfl (one_its .i64 3 X y) (by omega) (Nat.le_trans (Nat.succ_le_succ hsx) (by simp)) ?_
                 intro v5 X5 hown5 hg5
                 rw [← HT.out] at hown5
                 obtain ⟨A5, n5, c5, rfl, -⟩ := hown5.its
                 have b5 : Boxed X5 w.heap.size 40 v := (P1.out.alloc (.cells #[.int .i64 y] 3)).kept hg5 (fun e => by have := (P2.out.size _ e.symm).1; omega)
                 have y5 := b5.cell
                 have f5 := b5.frozen
                 have B5 := Lib.hid b5
                 have HO5 := Lib.hid hown5
                 have HG5 := Lib.hid hg5
                 clear hown5 hg5 b5)
    have hk5 : KeepsOthers X X5 := (KeepsOthers.alloc X (.cells #[.int .i64 y] 3)).trans (others_grown (P2.out.more _) HG5.out)
    have hb5 : Below w.heap.size X X5 := ((Below.refl w.heap.size X).alloc (by omega) (.cells #[.int .i64 y] 3)).grown HG5.out (by simp; omega) (fun g e => by have := (P2.out.size g e).1; omega)
    have hx5 : ∀ b, b < W0.heap.size + 1 + 1 + 1 → b < X.heap.size → X5.heap[b]? = X.heap[b]? := fun b h1 h2 =>
      (HG5.out.block b (by simp; omega) (fun e => by have := (P2.out.size b e.symm).1; omega)).trans (Below.heap_alloc X _ b h2)
    have hb0 : Below n0 X X5 := hb5.mono hn0
    refine ⟨(hk5.trans (KeepsOthers.setCell _ _ _)).from _, ⟨hb0.setCell (p := ⟨w.heap.size, 0, none⟩) hn0 _, fun b hb o ho => ?_⟩, ⟨_, B5.out.set _, own_set HO5.out (by omega)⟩, P3.out.trans (hb5.setCell (p := ⟨w.heap.size, 0, none⟩) (Nat.le_refl _) _)⟩
    have hbl := (Array.getElem?_eq_some_iff.1 ho).1
    have hbw := hbs b hb
    exact (Below.heap_setCell _ _ _ _ (by simp only; omega)).trans ((hx5 b (by omega) hbl).trans ho)
  case done =>
    rintro D X hD ⟨⟨v, p1, p2⟩, p3⟩ hDD
    have y1 := p1.cell
    rw [List.take_length] at p2
    have ho5 := ownI_turn p2 (grownBy_putObj' X D (.deferred none)) (fun r e => by cases e; exact ⟨_, hDD, rfl⟩)
    obtain ⟨A5, n5, c5, rfl, -⟩ := ho5.its
    have hen := ho5.mono (show w.heap.size ≤ W0.heap.size + 1 + 1 + 1 by omega)
    clear ho5
    have hbl := p3.grown (grownBy_putObj' X D (.deferred none)) p3.size (fun r e => by cases e; omega)
    gi_wp2
    refine ⟨by simp, .inl ⟨_, _, rfl, run_takeDeferred hDD, ?_⟩⟩
    exact ⟨_, results_tmp rfl _ _ _, A5, n5, c5, rfl, hen, hbl⟩
end Go.Proofs.Ytgnhmdfajnnkhaa


/- The walk over the document's Sets: the greatest free ones. -/
namespace Go.Proofs.Ytgnhmdfajnnkhaa
set_option maxRecDepth 100000
set_option linter.unusedVariables false
set_option linter.unusedSimpArgs false
open Go.RowKit

end Go.Proofs.Ytgnhmdfajnnkhaa


/- What package group does: six contracts that its own walks must bring; the chapter's example over them. -/
namespace Go.Proofs.Ytgnhmdfajnnkhaa
set_option maxRecDepth 100000
set_option linter.unusedVariables false
set_option linter.unusedSimpArgs false
open Go.RowKit

end Go.Proofs.Ytgnhmdfajnnkhaa


/- Package group's calls: Against, Free, List, Of, Sets; with May they are all that the laws stand on. -/
namespace Go.Proofs.Ytgnhmdfajnnkhaa
set_option maxRecDepth 100000
set_option linter.unusedVariables false
set_option linter.unusedSimpArgs false
open Go.RowKit Go.Shelf

set_option maxHeartbeats 2000000 in
theorem gagainst_any (A : Option Addr) (n c : Nat) (m : List Int) (s : Int) (w : World) (hit : Its .i64 w A n c m) :
    Calls Try.prog 104 #[.slice A n c, .int .i64 s] w fun e w' => e = .returned (.int .i64 (againstM m s)) ∧ Below w.heap.size w w' := by
  have HL := Lib.hid hit.len
  have HMY := Lib.hid (gmay_any A n c m w hit)
  cases hm : mayM m with
  | false =>
    rw [hm] at HMY
    have HR := Lib.hid (against_bad (s := s) (.inl hm))
    clear hm hit
    go_enter Try.func104, Try.ntmps104
    go_wp2_with (go_at_call 101; (with_reducible refine (HMY.out).mono ?_); rintro e w1 ⟨rfl, hb1⟩; have HB1 := Lib.hid hb1; clear hb1)
    go_ret
    exact ⟨by rw [HR.out]; rfl, HB1.out⟩
  | true =>
    rw [hm] at HMY
    obtain ⟨hn8, hrow⟩ := may_rows hit.len hm
    have h8 := pow_le hn8
    have HIS := Lib.hid (fun X => isSet_any s n hn8 X)
    by_cases hs : 0 ≤ s ∧ s < ((2 ^ n : Nat) : Int)
    · obtain ⟨t, rfl⟩ := Int.eq_ofNat_of_zero_le hs.1
      have ht : t < 2 ^ n := by omega
      rw [decide_eq_true hs] at HIS
      have HR := Lib.hid (show againstM m (t : Int) = ((orN m (listTo t 8) : Nat) : Int) by
        rw [against_some hm (by rw [HL.out]; exact ht), over_is hm (by rw [HL.out]; exact ht)])
      have HOV := Lib.hid (fun (X : World) (hX : Below w.heap.size w X) => over_any A n c m t X (hit.below hX) (fun i hi => ⟨(hrow i hi).1, by have := (hrow i hi).2; omega⟩) (by omega) ht)
      obtain ⟨O, hO⟩ : ∃ O : Int, ((orN m (listTo t 8) : Nat) : Int) = O := ⟨_, rfl⟩
      rw [hO] at HR HOV
      clear hm hit hrow hs ht hO
      go_enter Try.func104, Try.ntmps104
      go_wp2_with (first
        | (go_at_call 101; (with_reducible refine (HMY.out).mono ?_); rintro e w1 ⟨rfl, hb1⟩; have HB1 := Lib.hid hb1; clear hb1)
        | (go_at_call 84; (with_reducible refine (HIS.out _).mono ?_); rintro e w2 ⟨rfl, rfl⟩)
        | (go_at_call 105; (with_reducible refine (HOV.out _ HB1.out).mono ?_); rintro e w3 ⟨rfl, hb3⟩; have HB3 := Lib.hid (HB1.out.trans (hb3.mono HB1.out.size)); clear hb3))
      go_ret
      exact ⟨by rw [HR.out]; rfl, HB3.out⟩
    · rw [decide_eq_false hs] at HIS
      have HR := Lib.hid (against_bad (m := m) (s := s) (.inr (by rw [HL.out]; omega)))
      clear hm hit hrow hs
      go_enter Try.func104, Try.ntmps104
      go_wp2_with (first
        | (go_at_call 101; (with_reducible refine (HMY.out).mono ?_); rintro e w1 ⟨rfl, hb1⟩; have HB1 := Lib.hid hb1; clear hb1)
        | (go_at_call 84; (with_reducible refine (HIS.out _).mono ?_); rintro e w2 ⟨rfl, rfl⟩))
      go_ret
      exact ⟨by rw [HR.out]; rfl, HB1.out⟩
theorem against_cases (m : List Int) (s : Int) : (againstM m s = -1 ∧ freeM m s = false) ∨ ∃ f t : Nat, againstM m s = f ∧ s = t ∧ f < 256 ∧ t < 256 ∧ freeM m s = decide (t &&& f = 0) := by
  by_cases h : mayM m = true ∧ setM m s
  · obtain ⟨hm, hs⟩ := h
    obtain ⟨t, rfl, ht⟩ := set_nat hs
    obtain ⟨⟨-, h8⟩, -, -⟩ := may_all hm
    have h256 := pow_le h8
    refine .inr ⟨_, t, against_some hm ht, rfl, Nat.lt_of_lt_of_le (sumN_lt _ _) h256, by omega, ?_⟩
    rw [free_against hm ht, Nat.and_comm]
  · refine .inl ⟨if_neg h, decide_eq_false fun hh => h ⟨hh.1, hh.2.1⟩⟩
set_option maxHeartbeats 2000000 in
theorem gfree_any (A : Option Addr) (n c : Nat) (m : List Int) (s : Int) (w : World) (hit : Its .i64 w A n c m) :
    Calls Try.prog 103 #[.slice A n c, .int .i64 s] w fun e w' => e = .returned (.bool (freeM m s)) ∧ Below w.heap.size w w' := by
  have HAG := Lib.hid (gagainst_any A n c m s w hit)
  clear hit
  rcases against_cases m s with ⟨h1, h2⟩ | ⟨f, t, h1, rfl, hf, ht, h2⟩
  · rw [h1] at HAG
    rw [h2]
    clear h1 h2
    go_enter Try.func103, Try.ntmps103
    go_wp2_with (go_at_call 104; (with_reducible refine (HAG.out).mono ?_); rintro e w1 ⟨rfl, hb1⟩; have HB1 := Lib.hid hb1; clear hb1)
    go_ret
    exact ⟨rfl, HB1.out⟩
  · rw [h1] at HAG
    have hand := and_set t f (by omega) (by omega)
    have h0 : (0 : Int) ≤ (f : Int) := by omega
    obtain ⟨g, hg⟩ : ∃ g : Nat, t &&& f = g := ⟨_, rfl⟩
    rw [hg] at hand h2
    rw [h2]
    clear h1 h2 hg
    go_enter Try.func103, Try.ntmps103
    go_wp2_with (go_at_call 104; (with_reducible refine (HAG.out).mono ?_); rintro e w1 ⟨rfl, hb1⟩; have HB1 := Lib.hid hb1; clear hb1)
    go_ret
    refine ⟨?_, HB1.out⟩
    have e : ((g : Int) == 0) = decide (g = 0) := by rw [Bool.eq_iff_iff, beq_iff_eq, decide_eq_true_iff]; omega
    rw [← e]
    rfl
set_option maxHeartbeats 2000000 in
theorem glist_own (s : Int) (w : World) : Calls Try.prog 74 #[.int .i64 s] w (GivesO (listM s) w) := by
  have HIS := Lib.hid (show ∀ X : World, Calls Try.prog 84 #[.int .i64 s, .int .i64 8] X fun e w' => e = .returned (.bool (decide (0 ≤ s ∧ s < ((2 ^ 8 : Nat) : Int)))) ∧ X = w' from fun X => isSet_any s 8 (by omega) X)
  by_cases hs : 0 ≤ s ∧ s < ((2 ^ 8 : Nat) : Int)
  · rw [decide_eq_true hs] at HIS
    obtain ⟨t, rfl⟩ := Int.eq_ofNat_of_zero_le hs.1
    have ht : t < 256 := by omega
    have hla := list_all ht
    have hll := list_len t 8
    have HCO := Lib.hid (show ∀ X : World, Calls Try.prog 85 #[.func (.func 99) #[] #[.pointer (some ⟨X.heap.size, 0, none⟩)]] (X.alloc (.cells #[.int .i64 (t : Int)] 3)) (GivesO (listM (t : Int)) (X.alloc (.cells #[.int .i64 (t : Int)] 3))) from fun X => by
      have hg := gather_own 99 #[.pointer (some ⟨X.heap.size, 0, none⟩)] (listTo t 8) X.heap.size [X.heap.size] (X.alloc (.cells #[.int .i64 (t : Int)] 3)) (by omega) (by simp) (fun b hb => by simp only [List.mem_cons, List.not_mem_nil, or_false] at hb; simp; omega) (enters_of Try.func99 (by kernel_rfl) rfl)
        (groups_hands t ht X.heap.size X.heap.size _ (Boxed.new X 3 (.int .i64 (t : Int))))
      rw [hla] at hg
      obtain ⟨Y, hY⟩ : ∃ Y, X.alloc (.cells #[.int .i64 (t : Int)] 3) = Y := ⟨_, rfl⟩
      rw [hY] at hg ⊢
      have HG := Lib.hid hg
      clear hg hla hll hY hs
      go_enter Try.func85, Try.ntmps85
      go_wp2_with (go_at_call 98; (with_reducible refine (HG.out).mono ?_); rintro e w1 ⟨A1, n1, c1, rfl, hit1, hb1⟩; have HB1 := Lib.hid hb1; have HI1 := Lib.hid hit1; clear hb1 hit1)
      go_ret
      exact ⟨_, _, _, rfl, HI1.out, HB1.out⟩)
    clear hs hla hll ht
    go_enter Try.func74, Try.ntmps74
    go_wp2_with (first
      | (go_at_call 84; (with_reducible refine (HIS.out _).mono ?_); rintro e w2 ⟨rfl, rfl⟩)
      | (go_at_call 86; (with_reducible refine (groups_any _ _).mono ?_); rintro e w2 ⟨rfl, rfl⟩)
      | (go_at_call 85; (with_reducible refine (HCO.out _).mono ?_); rintro e w1 ⟨A1, n1, c1, rfl, hit1, hb1⟩; have HB1 := Lib.hid hb1; have HI1 := Lib.hid hit1; clear hb1 hit1))
    go_ret
    exact ⟨_, _, _, rfl, HI1.out.mono (size_le_alloc _ _), (one_alloc w _).trans (HB1.out.mono (size_le_alloc _ _))⟩
  · rw [decide_eq_false hs] at HIS
    have HR := Lib.hid (show listM s = [] by rw [listM, if_neg (by omega)])
    clear hs
    go_enter Try.func74, Try.ntmps74
    go_wp2_with (go_at_call 84; (with_reducible refine (HIS.out _).mono ?_); rintro e w2 ⟨rfl, rfl⟩)
    go_ret
    exact ⟨none, 0, 0, rfl, by rw [HR.out]; exact OwnI.nil _ _ _ _, Below.refl _ _⟩
end Go.Proofs.Ytgnhmdfajnnkhaa

