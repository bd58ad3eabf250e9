/- What is against some groups: their rows, together. -/
import Derived.Test.YtjjjfckkglcdfaaGrpIter
import Derived.Test.YtjjjfckkglcdfaaBasFenceR
namespace Go.Proofs.Ytjjjfckkglcdfaa
set_option maxRecDepth 100000
set_option linter.unusedVariables false
set_option linter.unusedSimpArgs false
open Go.RowKit Go.Shelf
attribute [local go_sem] Oper.semAt_some

/-- the rows of some groups, together -/
def orN (m l : List Int) : Nat := l.foldl (fun a i => a ||| (m.getD i.toNat 0).toNat) 0
theorem orN_snoc (m l : List Int) (i : Int) : orN m (l ++ [i]) = orN m l ||| (m.getD i.toNat 0).toNat := by simp [orN]
theorem orN_bit (m : List Int) (k : Nat) (l : List Int) : (orN m l).testBit k = l.any fun i => (m.getD i.toNat 0).toNat.testBit k := by
  suffices h : ∀ a : Nat, (l.foldl (fun a i => a ||| (m.getD i.toNat 0).toNat) a).testBit k = (a.testBit k || l.any fun i => (m.getD i.toNat 0).toNat.testBit k) by
    rw [orN, h]; simp
  induction l with
  | nil => intro a; simp
  | cons i l ih => intro a; rw [List.foldl_cons, ih, Nat.testBit_or, List.any_cons, Bool.or_assoc]
theorem orN_lt {m : List Int} (h : ∀ i, i < m.length → 0 ≤ m.getD i 0 ∧ m.getD i 0 < 256) (l : List Int) : orN m l < 256 := by
  suffices h : ∀ a : Nat, a < 2 ^ 8 → l.foldl (fun a i => a ||| (m.getD i.toNat 0).toNat) a < 2 ^ 8 from h 0 (by omega)
  induction l with
  | nil => intro a ha; exact ha
  | cons i l ih =>
    intro a ha
    rw [List.foldl_cons]
    refine ih _ (Nat.or_lt_two_pow ha ?_)
    rcases Nat.lt_or_ge i.toNat m.length with h1 | h1
    · have := h _ h1
      omega
    · have e : m.getD i.toNat 0 = 0 := by simp [List.getD_eq_getElem?_getD, h1]
      rw [e]
      simp
theorem list_mem {t k : Nat} {i : Int} (h : i ∈ listTo t k) : ∃ j : Nat, i = j ∧ j < k ∧ t.testBit j = true := by
  rw [listTo, List.mem_map] at h
  obtain ⟨j, hj, rfl⟩ := h
  rw [List.mem_filter, List.mem_range] at hj
  exact ⟨j, rfl, hj.1, hj.2⟩
theorem list_get {t j : Nat} (h : j < (listTo t 8).length) : ∃ i : Nat, (listTo t 8).getD j 0 = (i : Int) ∧ i < 8 ∧ t.testBit i = true := by
  have h1 : (listTo t 8).getD j 0 ∈ listTo t 8 := by
    rw [List.getD_eq_getElem?_getD, List.getElem?_eq_getElem h]
    exact List.getElem_mem h
  exact list_mem h1
theorem bit_lt {t i n : Nat} (ht : t < 2 ^ n) (h : t.testBit i = true) : i < n := by
  rcases Nat.lt_or_ge i n with h1 | h1
  · exact h1
  · have h2 : 2 ^ n ≤ 2 ^ i := Nat.pow_le_pow_right (by omega) h1
    rw [Nat.testBit_lt_two_pow (by omega)] at h
    cases h
set_option maxHeartbeats 2000000 in
theorem over_any (A : Option Addr) (n c : Nat) (m : List Int) (t : Nat) (w : World) (hit : Its .i64 w A n c m) (hrow : ∀ i, i < n → 0 ≤ m.getD i 0 ∧ m.getD i 0 < 256) (ht : t < 256) (htn : t < 2 ^ n) :
    Calls Try.prog 36 #[.slice A n c, .int .i64 (t : Int)] w fun e w' => e = .returned (.int .i64 ((orN m (listTo t 8) : Nat) : Int)) ∧ Below w.heap.size w w' := by
  have hn := hit.small
  have hml := hit.len
  have hlt := orN_lt (m := m) (by rw [hml]; exact hrow)
  obtain ⟨L, hL⟩ : ∃ L, listTo t 8 = L := ⟨_, rfl⟩
  have hget : ∀ j, j < L.length → ∃ i : Nat, L.getD j 0 = (i : Int) ∧ i < n := fun j hj => by
    rw [← hL] at hj ⊢
    obtain ⟨i, h1, h2, h3⟩ := list_get hj
    exact ⟨i, h1, bit_lt htn h3⟩
  have HG := Lib.hid (fun (B : Nat) (W0 : World) (o : Boxed W0 B 3 (.int .i64 (t : Int))) => groups_hands t ht B w.heap.size W0 o)
  rw [hL] at HG ⊢
  obtain ⟨OL, hOL⟩ : ∃ OL, orN m L = OL := ⟨_, rfl⟩
  rw [hOL]
  have HOL := Lib.hid hOL
  clear hL hOL
  refine (callsIn_wide (n := 9)).1 ?_
  refine callsIn_of_wp_marks Try.func36 rfl trivial ?_ rfl
  simp only [Try.ntmps36, List.size_toArray, List.length_cons, List.length_nil, Nat.reduceAdd, Nat.reduceSub, Array.replicate_succ, Array.replicate_zero, List.push_toArray, List.append_toArray, List.nil_append, List.cons_append]
  gi_wp2_with (refine ⟨trivial, ?_⟩; gi_at_call 45; refine (callsIn_wide.2 (groups_any _ _)).mono ?_; rintro e w1 ⟨rfl, rfl⟩)
  have o1 := Boxed.new w 22 (.slice A n c)
  obtain ⟨V1, hV1⟩ : ∃ V1, w.alloc (.cells #[.slice A n c] 22) = V1 := ⟨_, rfl⟩
  have s1 : V1.heap.size = w.heap.size + 1 := by rw [← hV1]; simp
  rw [hV1] at o1 ⊢
  have o2 := Boxed.new V1 3 (.int .i64 0)
  obtain ⟨V2, hV2⟩ : ∃ V2, V1.alloc (.cells #[.int .i64 0] 3) = V2 := ⟨_, rfl⟩
  have s2 : V2.heap.size = w.heap.size + 1 + 1 := by rw [← hV2]; simp [s1]
  rw [s1] at o2
  have o1 := o1.alloc (.cells #[.int .i64 0] 3)
  rw [hV2] at o1 o2 ⊢
  have o3 := Boxed.new V2 3 (.int .i64 (t : Int))
  obtain ⟨W0, hW0⟩ : ∃ W0, V2.alloc (.cells #[.int .i64 (t : Int)] 3) = W0 := ⟨_, rfl⟩
  have s3 : W0.heap.size = w.heap.size + 1 + 1 + 1 := by rw [← hW0]; simp [s2]
  rw [s2] at o3
  have o1 := o1.alloc (.cells #[.int .i64 (t : Int)] 3)
  have o2 := o2.alloc (.cells #[.int .i64 (t : Int)] 3)
  have hB0 : Below w.heap.size w W0 := by
    rw [← hW0, ← hV2, ← hV1]
    exact ((one_alloc w _).alloc (by simp) _).alloc (by simp; omega) _
  rw [hW0] at o1 o2 o3 ⊢
  clear hV1 hV2 hW0 s1 s2
  have hin := HG.out (w.heap.size + 1 + 1) W0 o3
  clear HG
  refine range_c (w0 := W0) (gf := 47) (lb := #[.pointer (some ⟨w.heap.size + 1 + 1, 0, none⟩)]) rfl (enters_of Try.func47 (by kernel_rfl) rfl) hin (Below.refl _ _) (fun _ => rfl) (fun h k => h.trans k)
    (fun X o o' hx hc hw => KeepB.put o' hx (by omega) (fun b hb => by simp only [List.mem_cons, List.not_mem_nil, or_false] at hb; omega))
    (fun k X => Boxed X w.heap.size 22 (.slice A n c) ∧ Boxed X (w.heap.size + 1) 3 (.int .i64 ((orN m (L.take k) : Nat) : Int)) ∧ Below w.heap.size w X) ?hI (fun _ => False) (fun _ _ _ _ h _ _ => h) ⟨o1, by rw [List.take_zero]; exact o2, hB0⟩
    (fun k a' X => a' = { tmps := #[.slice A n c, .int .i64 (t : Int), .pointer (some ⟨w.heap.size, 0, none⟩), undef, .int .i64 0, .pointer (some ⟨w.heap.size + 1, 0, none⟩), .int .i64 (L.getD k 0), .int .i64 (t : Int), .func (.func 47) #[] #[.pointer (some ⟨w.heap.size + 1 + 1, 0, none⟩)], .int .i64 (L.getD k 0), undef, undef, undef, undef, undef, undef, undef], defers := [] }) (fun _ _ _ _ _ _ h _ _ => h) ?assign ?body ?done (fun _ _ _ h _ => h.elim)
  case hI =>
    rintro k X Y row ⟨p1, p2, p3⟩ hg hr
    exact ⟨boxed_turn p1 hg (fun r e => (hr r e).2), boxed_turn p2 hg (fun r e => (hr r e).2), p3.grown hg p3.size (fun r e => by have := (hr r e).1; omega)⟩
  case assign =>
    rintro x k X K hk hsx p hK
    have hK2 := hK _ X (KeepsFrom.refl _ _) (KeepB.refl _ _ _) p rfl
    have HK2 := Lib.hid hK2
    obtain ⟨v, hv⟩ : ∃ v, L.getD k 0 = v := ⟨_, rfl⟩
    rw [hv] at HK2 ⊢
    clear hK2 hK hv
    gi_wp2
    exact HK2.out
  case body =>
    rintro x k a' X hk hsx ⟨p1, p2, p3⟩ rfl
    obtain ⟨i, hi, hin⟩ := hget k hk
    obtain ⟨b, off, rfl, hc⟩ := hit.at_ (by omega)
    have z := (p3.cell (p := ⟨b, off + i, none⟩) (block_lt_of_cell (hc i hin))).trans (hc i hin)
    obtain ⟨r, hr⟩ := Int.eq_ofNat_of_zero_le (hrow i hin).1
    have hr2 := (hrow i hin).2
    have hsn : orN m (L.take (k + 1)) = orN m (L.take k) ||| r := by
      have e : L[k]'hk = (i : Int) := by rw [← hi]; simp [List.getD_eq_getElem?_getD, hk]
      rw [List.take_succ_eq_append_getElem hk, orN_snoc, e, Int.toNat_natCast, hr]
      rfl
    have hl1 := hlt (L.take k)
    rw [hr] at z hr2
    rw [hi]
    obtain ⟨O, hO⟩ : ∃ O, orN m (L.take k) = O := ⟨_, rfl⟩
    have hor := or_set O r (by omega) (by omega)
    rw [hO] at hsn p2 hl1
    rw [← hsn] at hor
    obtain ⟨O2, hO2⟩ : ∃ O2, orN m (L.take (k + 1)) = O2 := ⟨_, rfl⟩
    rw [hO2] at hor
    have q0 : 0 ≤ (i : Int) := by omega
    have q1 : (i : Int) < n := by omega
    have y1 := p1.cell
    have y2 := p2.cell
    have y3 := p2.frozen
    have HP := Lib.hid (show KeepsFrom W0.heap.size X ((X.setCell ⟨w.heap.size + 1, 0, none⟩ (.int .i64 (O2 : Int))).drew) ∧ KeepB w.heap.size [w.heap.size + 1 + 1] X ((X.setCell ⟨w.heap.size + 1, 0, none⟩ (.int .i64 (O2 : Int))).drew) ∧ Boxed ((X.setCell ⟨w.heap.size + 1, 0, none⟩ (.int .i64 (O2 : Int))).drew) w.heap.size 22 (.slice (some ⟨b, off, none⟩) n c) ∧
        Boxed ((X.setCell ⟨w.heap.size + 1, 0, none⟩ (.int .i64 (O2 : Int))).drew) (w.heap.size + 1) 3 (.int .i64 ((orN m (L.take (k + 1)) : Nat) : Int)) ∧ Below w.heap.size w ((X.setCell ⟨w.heap.size + 1, 0, none⟩ (.int .i64 (O2 : Int))).drew) from by
      refine ⟨((KeepsOthers.setCell _ _ _).trans (KeepsOthers.drew _)).from _, ⟨((Below.refl w.heap.size X).setCell (p := ⟨w.heap.size + 1, 0, none⟩) (Nat.le_succ _) _).drew, fun g hg o ho => ?_⟩, p1.other (by omega) _, ?_, (p3.setCell (p := ⟨w.heap.size + 1, 0, none⟩) (Nat.le_succ _) _).drew⟩
      · simp only [List.mem_cons, List.not_mem_nil, or_false] at hg
        exact (Below.heap_setCell _ _ _ _ (by simp only; omega)).trans ho
      · rw [hO2]; exact p2.set _)
    clear hc hr hsn hO hO2 hi hget hin hlt hrow hit p1 p2 p3
    have hmx : Try.prog.follows .mixedOrders = true := by kernel_rfl
    gi_wp2
    gi_region_with_o (fail)
    all_goals gi_wp2
    all_goals exact HP.out
  case done =>
    rintro D X hD ⟨p1, p2, p3⟩ hDD
    rw [List.take_length, HOL.out] at p2
    have y2 := p2.cell
    have hbl := p3.grown (grownBy_putObj' X D (.deferred none)) p3.size (fun r e => by cases e; omega)
    gi_wp2
    refine ⟨by simp, .inl ⟨_, _, rfl, run_takeDeferred hDD, ?_⟩⟩
    exact ⟨_, results_tmp rfl _ _ _, rfl, hbl⟩
end Go.Proofs.Ytjjjfckkglcdfaa
