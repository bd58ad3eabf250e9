/- Joined texts: The walk over package num's Cat: the bytes of several numbers. The walk over package user's Secret. The walks over the laws' Key16 and awake (the chapter's example). The walk over the document's May of users. The walk over the laws' Few. The walks over the document's own Same, Find and Role of users. The walk over the document's own Same of users. The walks over the plain answers' Put and Get of numbers. -/
import Derived.Test.YtcfkpepohnjdfaaDoorUtJE
import Derived.Test.YtcfkpepohnjdfaaDoorUtJA
import Derived.Test.YtcfkpepohnjdfaaDoorUtJB
import Derived.Deep.SlicePairs
import Derived.Test.YtcfkpepohnjdfaaDoorUtJC
import Derived.Test.YtcfkpepohnjdfaaDoorUtJD
/- The walk over package num's Cat: the bytes of several numbers. -/
namespace Go.Proofs.YtcfkpepohnjdfaaDoor
set_option linter.unusedVariables false
set_option linter.unusedSimpArgs false
open Go.RowKit

def numR (p : Int × Int) : List Value := [.int .u64 p.1, .int .i64 p.2]
/-- the slice value A, n, cap reads as these numbers, each with its size -/
structure Nms (w : World) (A : Option Addr) (n cap : Nat) (l : List (Int × Int)) : Prop where
  rws : Rws 2 w A n cap (l.map numR)
  num : ∀ p ∈ l, 0 ≤ p.1 ∧ p.1 < 18446744073709551616 ∧ -9223372036854775808 ≤ p.2 ∧ p.2 ≤ 9223372036854775807
theorem Nms.len {w : World} {A : Option Addr} {n cap : Nat} {l : List (Int × Int)} (h : Nms w A n cap l) : l.length = n := by have := h.rws.len; rwa [List.length_map] at this
theorem Nms.below {w w' : World} {A : Option Addr} {n cap : Nat} {l : List (Int × Int)} (h : Nms w A n cap l) (hb : Below w.heap.size w w') : Nms w' A n cap l := ⟨h.rws.below hb, h.num⟩
theorem Nms.cells {w : World} {A : Option Addr} {n cap : Nat} {l : List (Int × Int)} (h : Nms w A n cap l) (hn : 0 < n) : ∃ b off, A = some ⟨b, off, none⟩ ∧
    ∀ j, j < n → w.cell? ⟨b, off + j * 2, none⟩ = some (.int .u64 (l.getD j (0, 0)).1) ∧ w.cell? ⟨b, off + j * 2 + 1, none⟩ = some (.int .i64 (l.getD j (0, 0)).2) := by
  obtain ⟨b, off, hA, hc⟩ := h.rws.at_ hn
  refine ⟨b, off, hA, fun j hj => ?_⟩
  have hjl : j < l.length := by rw [h.len]; exact hj
  have h0 := hc j hj 0 (by omega)
  have h1 := hc j hj 1 (by omega)
  simp only [List.getD_eq_getElem?_getD, List.getElem?_map, List.getElem?_eq_getElem hjl, Option.map_some, Option.getD_some, numR, List.getElem?_cons_zero, List.getElem?_cons_succ, Nat.add_zero] at h0 h1 ⊢
  exact ⟨h0, h1⟩
theorem Nms.at_ {w : World} {A : Option Addr} {n cap : Nat} {l : List (Int × Int)} (h : Nms w A n cap l) (j : Nat) (hj : j < n) : 0 ≤ (l.getD j (0, 0)).1 ∧ (l.getD j (0, 0)).1 < 18446744073709551616 ∧ -9223372036854775808 ≤ (l.getD j (0, 0)).2 ∧ (l.getD j (0, 0)).2 ≤ 9223372036854775807 := by
  have hjl : j < l.length := by rw [h.len]; exact hj
  have := h.num _ (List.getElem_mem hjl)
  simpa [List.getD_eq_getElem?_getD, hjl] using this

def toN (l : List (Int × Int)) : List (Nat × Nat) := l.map fun p => (p.1.toNat, p.2.toNat)
def fitsB (l : List (Int × Int)) : Bool := l.all fun p => fitB p.1 p.2
/-- may these numbers be put together? -/
def catB (l : List (Int × Int)) : Bool := decide (l.length ≤ 40) && fitsB l
def CatPost (l : List (Int × Int)) (w : World) (e : Ending) (w' : World) : Prop :=
  (catB l = true → ∃ v, e = .returned (.tuple #[v, .bool true]) ∧ Own w' w.heap.size v (catL (toN l))) ∧ (catB l = false → e = .returned (.tuple #[.slice none 0 0, .bool false])) ∧ Below w.heap.size w w'
theorem catPost_yes {l : List (Int × Int)} {w w' : World} {v : Value} (h : catB l = true) (ho : Own w' w.heap.size v (catL (toN l))) (hb : Below w.heap.size w w') : CatPost l w (.returned (.tuple #[v, .bool true])) w' :=
  ⟨fun _ => ⟨v, rfl, ho⟩, fun h2 => by rw [h] at h2; exact Bool.noConfusion h2, hb⟩
theorem catPost_no {l : List (Int × Int)} {w w' : World} (h : catB l = false) (hb : Below w.heap.size w w') : CatPost l w (.returned (.tuple #[.slice none 0 0, .bool false])) w' :=
  ⟨fun h2 => by rw [h] at h2; exact Bool.noConfusion h2, fun _ => rfl, hb⟩
theorem fitsB_snoc (l : List (Int × Int)) (k : Nat) (h : k < l.length) : fitsB (l.take (k + 1)) = (fitsB (l.take k) && fitB (l.getD k (0, 0)).1 (l.getD k (0, 0)).2) := by
  rw [fitsB, fitsB, List.take_succ_eq_append_getElem h, List.all_append]
  simp [List.getD_eq_getElem?_getD, h]
theorem fitsB_part (l : List (Int × Int)) (k : Nat) (h : fitsB (l.take k) = false) : fitsB l = false := by
  have e : l = l.take k ++ l.drop k := (List.take_append_drop k l).symm
  rw [e, fitsB, List.all_append]
  rw [fitsB] at h
  rw [h, Bool.false_and]
theorem catL_snoc (l : List (Int × Int)) (k : Nat) (h : k < l.length) : catL (toN (l.take (k + 1))) = catL (toN (l.take k)) ++ putL (l.getD k (0, 0)).1.toNat (l.getD k (0, 0)).2.toNat := by
  rw [toN, List.take_succ_eq_append_getElem h, List.map_append, catL_append]
  simp [toN, catL, List.getD_eq_getElem?_getD, h]
theorem catL_ok (l : List (Nat × Nat)) : ∀ j, 0 ≤ (catL l).getD j 0 ∧ (catL l).getD j 0 < 256 := by
  induction l with
  | nil => simp [catL]
  | cons p l ih => exact ok_append (ok_map _ (fun i => putAt_ok _ _ i) _) ih
theorem catL_small (l : List (Int × Int)) (h : fitsB l = true) : (catL (toN l)).length ≤ 8 * l.length := by
  rw [catL_length]
  induction l with
  | nil => simp [toN]
  | cons p l ih =>
    rw [fitsB, List.all_cons, Bool.and_eq_true] at h
    have h2 := h.1
    unfold fitB at h2
    rw [decide_eq_true_eq] at h2
    have := ih h.2
    simp only [toN, List.map_cons, List.sum_cons, List.length_cons] at this ⊢
    omega

theorem cat_long (A : Option Addr) (n c : Nat) (l : List (Int × Int)) (w : World) (hl : Nms w A n c l) (h : 40 < n) :
    Calls Tryd.prog 22 #[.slice A n c] w fun e w' => CatPost l w e w' := by
  have hn := hl.rws.small
  have h1 : (40 : Int) < n := by omega
  have h2 : catB l = false := by rw [catB, hl.len, decide_eq_false (by omega), Bool.false_and]
  have H2 := Lib.hid h2
  clear h2
  go_enter Tryd.func22, Tryd.ntmps22
  go_wp2
  go_ret2
  exact catPost_no H2.out (Below.refl _ _)
set_option maxHeartbeats 1000000 in
theorem cat_short (A : Option Addr) (n c : Nat) (l : List (Int × Int)) (w : World) (hl : Nms w A n c l) (h : n ≤ 40) :
    Calls Tryd.prog 22 #[.slice A n c] w fun e w' => CatPost l w e w' := by
  have h1 : (n : Int) ≤ 40 := by omega
  have hll : l.length = n := hl.len
  have HLL := Lib.hid hll
  clear hll
  go_enter Tryd.func22, Tryd.ntmps22
  go_wp2
  go_loopw [4, 14] (fun v i wr => ∃ k : Nat, k ≤ n ∧ i = .int .i64 k ∧ fitsB (l.take k) = true ∧ Own wr w.heap.size v (catL (toN (l.take k))) ∧ Below w.heap.size w wr) (fun _ i _ => n - (intOf i).toNat)
  case atStart => exact ⟨0, Nat.zero_le _, rfl, rfl, Own.nil _ _, Below.refl _ _⟩
  case round =>
    obtain ⟨k, hk, rfl, hfit, hown, hB⟩ := hrel
    have HF := Lib.hid hfit
    clear hfit
    by_cases hlt : k < n
    · obtain ⟨b, off, rfl, hcs⟩ := (hl.below hB).cells (by omega)
      obtain ⟨hc0, hc1⟩ := hcs k hlt
      obtain ⟨p, hp⟩ : ∃ p, p = l.getD k (0, 0) := ⟨_, rfl⟩
      rw [← hp] at hc0 hc1
      obtain ⟨x, y⟩ := p
      simp only at hc0 hc1
      have hb4 := hl.at_ k hlt
      rw [← hp] at hb4
      simp only at hb4
      have HB4 := Lib.hid hb4
      have HP := Lib.hid hp
      clear hp hb4 hcs
      have hlk : k < l.length := by rw [HLL.out]; exact hlt
      cases hf : fitB x y with
      | false =>
        have HNF := Lib.hid hf
        have hcb : catB l = false := by
          have h3 := fitsB_snoc l k hlk
          rw [← HP.out, HNF.out, Bool.and_false] at h3
          rw [catB, fitsB_part l (k + 1) h3, Bool.and_false]
        have HCB := Lib.hid hcb
        clear hf hcb
        go_wp2_with (go_at_call 33; (with_reducible refine (put_no x y _ HB4.out.1 HB4.out.2.1 HNF.out).mono ?_); rintro e w2 ⟨rfl, rfl⟩)
        go_ret2
        exact catPost_no HCB.out (hB.alloc hB.size _)
      | true =>
        obtain ⟨N, K, rfl, rfl, h2, h3, h4⟩ := fit_nat HB4.out.1 hf
        obtain ⟨Z, hZ⟩ : ∃ Z, putL N K = Z := ⟨_, rfl⟩
        have hZl : Z.length = K := by rw [← hZ]; exact putL_length N K
        have hZo : ∀ j, 0 ≤ Z.getD j 0 ∧ Z.getD j 0 < 256 := by rw [← hZ]; exact ok_map _ (fun i => putAt_ok N K i) K
        have hnext : catL (toN (l.take (k + 1))) = catL (toN (l.take k)) ++ Z := by
          rw [catL_snoc l k hlk, ← HP.out, ← hZ]
          rfl
        have hfit2 : fitsB (l.take (k + 1)) = true := by
          rw [fitsB_snoc l k hlk, HF.out, ← HP.out, hf]
          rfl
        obtain ⟨L, hL⟩ : ∃ L, L = catL (toN (l.take k)) := ⟨_, rfl⟩
        have hLs : L.length ≤ 320 := by
          have := catL_small (l.take k) HF.out
          rw [List.length_take] at this
          rw [hL]
          omega
        rw [← hL] at hown hnext
        have HZ := Lib.hid hZ
        have HZL := Lib.hid hZl
        have HZO := Lib.hid hZo
        have H4 := Lib.hid h4
        have HNX := Lib.hid hnext
        have HF2 := Lib.hid hfit2
        clear hZ hZl hZo h4 hnext hfit2 hL hf hlk
        go_wp2_with (first
          | (go_at_call 33; (with_reducible refine (put_yes N K _ h2 h3 H4.out).mono ?_); rintro e w2 ⟨rfl, hX2, hb2⟩
             obtain ⟨hb3, _, _⟩ := after_one hb2
             have hB2 := then_below hB hb3
             have hown2 := hown.below hb3
             rw [HZ.out] at hX2
             have hX2 := at_next hX2
             clear hb2 hb3)
          | (at_builtin
             refine wpList_append_b rfl _ _ rfl w.heap.size u4 L rfl hown2 _ K K Z rfl (hX2.bts HZL.out (by unfold maxLen; omega) HZO.out) (by omega) hB2.size ?_
             intro v5 w5 hown5 hg5
             have hB5 : Below w.heap.size w w5 := hB2.grown hg5 hB2.size (fun k hk => (hown2.size k hk).1)
             rw [← HNX.out] at hown5
             clear hg5))
        go_roundw
        case rel => exact ⟨k + 1, by omega, by go_num, HF2.out, hown5, hB5⟩
        case measure => simp [intOf]; omega
    · have hkn : k = n := by omega
      have htk : l.take k = l := by rw [hkn, ← HLL.out, List.take_length]
      rw [htk] at hown
      have hcb : catB l = true := by
        have h3 := HF.out
        rw [htk] at h3
        rw [catB, h3, HLL.out, decide_eq_true h]
        rfl
      have HCB := Lib.hid hcb
      have HO := Lib.hid hown
      clear hcb hown htk hkn
      go_wp2
      go_ret2
      exact catPost_yes HCB.out HO.out hB
theorem cat_any (A : Option Addr) (n c : Nat) (l : List (Int × Int)) (w : World) (hl : Nms w A n c l) :
    Calls Tryd.prog 22 #[.slice A n c] w fun e w' => CatPost l w e w' := by
  by_cases h : 40 < n
  · exact cat_long A n c l w hl h
  · exact cat_short A n c l w hl (by omega)
end Go.Proofs.YtcfkpepohnjdfaaDoor

/- The walk over package user's Secret. -/
namespace Go.Proofs.YtcfkpepohnjdfaaDoor
set_option linter.unusedVariables false
set_option linter.unusedSimpArgs false
open Go.RowKit

def sessS : ByteArray := ⟨#[115, 101, 115, 115, 105, 111, 110]⟩
/-- what a session is, as bytes -/
def ctxL (no e d c : Nat) : List Int := catL [(e, 4), (d, 8), (c, 8), (no, 1)]
/-- a session's key -/
def secZ (key : List Int) (no e d c : Nat) : List Int := tagL key (labelL (strL sessS) (ctxL no e d c))
theorem secZ_length (key : List Int) (no e d c : Nat) : (secZ key no e d c).length = 32 := by rw [secZ, tagL]; exact sumL_length _
theorem ctx_length (no e d c : Nat) : (ctxL no e d c).length = 21 := by rw [ctxL, catL_length]; rfl
theorem one_user (w : World) (u : Us) (h : Bts w u.A u.n u.c u.key) : Uss (w.alloc (.cells #[.int .i64 u.no, .int .i64 u.role, .slice u.A u.n u.c] 25)) (some ⟨w.heap.size, 0, none⟩) 1 1 [u] := by
  refine ⟨⟨rfl, ?_, ?_, Nat.le_refl _, by unfold maxLen; omega, (fun e => by cases e), fun _ => ⟨w.heap.size, 0, rfl, fun j hj i hi => ?_⟩⟩, ?_⟩
  · intro r hr
    simp only [List.map_cons, List.map_nil, List.mem_singleton] at hr
    subst hr
    rfl
  · intro r hr
    simp only [List.map_cons, List.map_nil, List.mem_singleton] at hr
    subst hr
    exact row_one3 u
  · obtain rfl : j = 0 := by omega
    rw [cell_of_row _ _ _ _ _ _ (heap_alloc_new w _)]
    match i, hi with
    | 0, _ => rfl
    | 1, _ => rfl
    | 2, _ => rfl
  · intro v hv
    rw [List.mem_singleton] at hv
    subst hv
    exact h.more _
theorem one_user_at {w : World} {g : Nat} (u : Us) (hg : w.heap.size = g) (h : Bts w u.A u.n u.c u.key) : Uss (w.alloc (.cells #[.int .i64 u.no, .int .i64 u.role, .slice u.A u.n u.c] 25)) (some ⟨g, 0, none⟩) 1 1 [u] := by
  subst hg
  exact one_user w u h
theorem size_two1 (w : World) (o1 o2 : Obj) : ((w.alloc o1).alloc o2).heap.size = w.heap.size + 1 + 1 := by simp
theorem four_nums (w : World) (e d c no : Nat) (he : e < 18446744073709551616) (hd : d < 18446744073709551616) (hc : c < 18446744073709551616) (hno : no < 18446744073709551616) :
    Nms (w.alloc (.cells #[.int .u64 e, .int .i64 4, .int .u64 d, .int .i64 8, .int .u64 c, .int .i64 8, .int .u64 no, .int .i64 1] 41)) (some ⟨w.heap.size, 0, none⟩) 4 4 [((e : Int), 4), ((d : Int), 8), ((c : Int), 8), ((no : Int), 1)] := by
  refine ⟨⟨rfl, ?_, ?_, Nat.le_refl _, by unfold maxLen; omega, (fun e => by cases e), fun _ => ⟨w.heap.size, 0, rfl, fun j hj i hi => ?_⟩⟩, ?_⟩
  · intro r hr
    simp only [List.map_cons, List.map_nil, List.mem_cons, List.not_mem_nil, or_false] at hr
    rcases hr with rfl | rfl | rfl | rfl <;> rfl
  · intro r hr v hv
    simp only [List.map_cons, List.map_nil, List.mem_cons, List.not_mem_nil, or_false] at hr
    rcases hr with rfl | rfl | rfl | rfl <;>
    · simp only [numR, List.mem_cons, List.not_mem_nil, or_false] at hv
      rcases hv with rfl | rfl <;> rfl
  · rw [cell_of_row _ _ _ _ _ _ (heap_alloc_new w _)]
    match j, i, hj, hi with
    | 0, 0, _, _ => rfl
    | 0, 1, _, _ => rfl
    | 1, 0, _, _ => rfl
    | 1, 1, _, _ => rfl
    | 2, 0, _, _ => rfl
    | 2, 1, _, _ => rfl
    | 3, 0, _, _ => rfl
    | 3, 1, _, _ => rfl
  · intro p hp
    simp only [List.mem_cons, List.not_mem_nil, or_false] at hp
    rcases hp with rfl | rfl | rfl | rfl <;> simp only <;> omega
theorem after_three {w w1 : World} {o1 o2 o3 : Obj} (h : Below (((w.alloc o1).alloc o2).alloc o3).heap.size (((w.alloc o1).alloc o2).alloc o3) w1) :
    Below w.heap.size w w1 ∧ w.heap.size + 3 ≤ w1.heap.size ∧ w1.heap[w.heap.size]? = some o1 ∧ w1.heap[w.heap.size + 1]? = some o2 := by
  obtain ⟨W, hW⟩ : ∃ W, ((w.alloc o1).alloc o2).alloc o3 = W := ⟨_, rfl⟩
  obtain ⟨h1, h2, h3, h4⟩ := named_three hW
  rw [hW] at h
  exact ⟨h1.trans (h.mono h1.size), by have := h.size; omega, (h.block _ (by omega)).trans h3, (h.block _ (by omega)).trans h4⟩
/-- what a session is, put together -/
theorem four_cat (e d c no : Nat) (he : e ≤ 1073741824) (hd : d < 18446744073709551616) (hc : c < 18446744073709551616) (hno : (no : Int) ≤ 255) : catB [((e : Int), 4), ((d : Int), 8), ((c : Int), 8), ((no : Int), 1)] = true ∧ toN [((e : Int), 4), ((d : Int), 8), ((c : Int), 8), ((no : Int), 1)] = [(e, 4), (d, 8), (c, 8), (no, 1)] := by
  refine ⟨?_, by simp [toN]⟩
  have h1 : fitB e 4 = true := fit_of e 4 (by omega) (by omega) (by omega)
  have h2 : fitB d 8 = true := fit_of d 8 (by omega) (by omega) (by omega)
  have h3 : fitB c 8 = true := fit_of c 8 (by omega) (by omega) (by omega)
  have h4 : fitB no 1 = true := fit_of no 1 (by omega) (by omega) (by omega)
  simp [catB, fitsB, h1, h2, h3, h4]
theorem cat_four (w : World) (e d c no : Nat) (he : e ≤ 1073741824) (hd : d < 18446744073709551616) (hc : c < 18446744073709551616) (hno : (no : Int) ≤ 255) :
    Calls Tryd.prog 22 #[.slice (some ⟨w.heap.size, 0, none⟩) 4 4] (w.alloc (.cells #[.int .u64 e, .int .i64 4, .int .u64 d, .int .i64 8, .int .u64 c, .int .i64 8, .int .u64 no, .int .i64 1] 41)) fun x w' => ∃ A n k, x = .returned (.tuple #[.slice A n k, .bool true]) ∧ n = 21 ∧ Bts w' A n k (ctxL no e d c) ∧ Below w.heap.size w w' := by
  obtain ⟨h1, h2⟩ := four_cat e d c no he hd hc hno
  refine (cat_any _ _ _ _ _ (four_nums w e d c no (by omega) hd hc (by omega))).mono fun x w' ⟨h3, _, h4⟩ => ?_
  obtain ⟨v, hv, ho⟩ := h3 h1
  rw [h2] at ho
  obtain ⟨A, n, k, rfl, hb⟩ := ho.slice (catL_ok _)
  exact ⟨A, n, k, hv, by rw [← hb.len]; exact ctx_length no e d c, hb, (one_alloc _ _).trans (h4.mono (size_le_alloc _ _))⟩
/-- a user in a box -/
def BoxU (w : World) (g : Nat) (u : Us) : Prop := w.heap[g]? = some (.cells #[.int .i64 u.no, .int .i64 u.role, .slice u.A u.n u.c] 25 (0, 0))
theorem BoxU.cells {w : World} {g : Nat} {u : Us} (h : BoxU w g u) : w.cell? ⟨g, 0, none⟩ = some (.int .i64 u.no) ∧ w.cell? ⟨g, 1, none⟩ = some (.int .i64 u.role) ∧ w.cell? ⟨g, 2, none⟩ = some (.slice u.A u.n u.c) :=
  ⟨(cell_of_row _ _ _ _ _ _ h).trans rfl, (cell_of_row _ _ _ _ _ _ h).trans rfl, (cell_of_row _ _ _ _ _ _ h).trans rfl⟩
theorem BoxU.lt {w : World} {g : Nat} {u : Us} (h : BoxU w g u) : g < w.heap.size := (Array.getElem?_eq_some_iff.1 h).1
theorem BoxU.below {w w' : World} {g : Nat} {u : Us} (h : BoxU w g u) (hb : Below w.heap.size w w') : BoxU w' g u := (hb.block g h.lt).trans h

set_option maxRecDepth 100000 in
set_option maxHeartbeats 2000000 in
theorem usecret_yes (u : Us) (no e d c : Nat) (hno : u.no = no) (w : World) (hK : KTab w) (hk : Bts w u.A u.n u.c u.key) (hm : mayU [u] = true) (he : e ≤ 1073741824) (hd : d < 18446744073709551616) (hc : c < 18446744073709551616) :
    Calls Tryd.prog 11 #[.agg #[.int .i64 u.no, .int .i64 u.role, .slice u.A u.n u.c], .int .i64 e, .int .u64 d, .int .u64 c] w fun x w' => x = .returned (.tuple #[.agg (idv (secZ u.key no e d c)), .bool true]) ∧ Below w.heap.size w w' := by
  have hgood : u.no ≤ 255 ∧ 16 ≤ u.n ∧ u.n ≤ 64 := by
    rw [mayU, Bool.and_eq_true] at hm
    have := may_all hm.2 u (by simp)
    exact ⟨this.2.1, this.2.2.2.1, this.2.2.2.2⟩
  obtain ⟨hg1, hg2, hg3⟩ := hgood
  obtain ⟨no', role, A, n, c', key⟩ := u
  simp only at hno hk hg1 hg2 hg3
  subst hno
  obtain ⟨Z, hZ⟩ : ∃ Z, Z = secZ key no e d c := ⟨_, rfl⟩
  have hZl : Z.length = 32 := by rw [hZ]; exact secZ_length _ _ _ _ _
  rw [← hZ]
  have HK := Lib.hid hK
  have HKB := Lib.hid hk
  have HZ := Lib.hid hZ
  have HZL := Lib.hid hZl
  have HM := Lib.hid hm
  clear hK hk hZ hZl hm
  go_enter Tryd.func11, Tryd.ntmps11
  go_wp2_with (first
    | (go_at_call 15
       refine (umay_any _ _ _ _ _ (one_user_at ⟨no, role, A, n, c', key⟩ (size_two1 _ _ _) (HKB.out.below (two_below _ _ _)))).mono ?_
       rintro x w4 ⟨hx, hb4⟩
       rw [HM.out] at hx
       subst hx
       obtain ⟨hb5, hs5, h6, h7⟩ := after_three hb4
       have hO4 : RowB w4 (w.heap.size + 1) 30 (List.replicate 32 0) := h7
       have hU4 : BoxU w4 w.heap.size ⟨no, role, A, n, c', key⟩ := h6
       obtain ⟨y0, y1, y2⟩ := hU4.cells
       simp only at y0 y1 y2
       have HB5 := Lib.hid hb5
       have HO4 := Lib.hid hO4
       have HU4 := Lib.hid hU4
       clear hb4 hb5 h6 h7 hO4 hU4)
    | (go_at_call 22
       refine (cat_four w4 e d c no he hd hc hg1).mono ?_
       rintro x w5 ⟨B, m, k, rfl, hm21, hctx, hb6⟩
       obtain ⟨z0, z1, z2⟩ := (HU4.out.below hb6).cells
       simp only at z0 z1 z2
       have HO5 := Lib.hid (HO4.out.keep hb6)
       have HB6 := Lib.hid (HB5.out.trans (hb6.mono HB5.out.size))
       have HCTX := Lib.hid hctx
       have HM21 := Lib.hid hm21
       clear hb6 hctx hm21 y0 y1 y2)
    | (go_at_call 23
       refine (derive_yes A B n c' m k key _ sessS w5 (HK.out.from HB6.out) (by omega) (by rw [HM21.out]; omega) (HKB.out.below HB6.out) HCTX.out (by decide) (by decide)).mono ?_
       rintro x w6 ⟨hx, hb7⟩
       rw [show tagL key (labelL (strL sessS) (ctxL no e d c)) = Z from HZ.out.symm] at hx
       subst hx
       have hO6 := HO5.out.keep hb7
       have hB7 := HB6.out.trans (hb7.mono HB6.out.size)
       clear hb7)
    | ((with_reducible refine wpList_store_b rfl 30 _ _ rfl (w.heap.size + 1) Z ?hx ?hy 30 (List.replicate 32 0) hO6 (info32 HZL.out) ?hl ?hm); (case hx => rfl); (case hy => rfl); (case hl => rw [HZL.out]; rfl)
       intro w7 hg7 hX7 hs7
       have hB8 : Below w.heap.size w w7 := Below.grows hB7 hg7 hB7.size (Nat.le_succ _)))
  refine bodyPost_ret (v := .tuple #[.agg (idv Z), .bool true]) ?_ ?_ ?_
  · exact results_row_tmp Tryd.results11 _ _ _ (w.heap.size + 1) 30 _ (0, 0) rfl hX7.is Tryd.underlying30 (info32 HZL.out) _ rfl
  · rfl
  · exact ⟨rfl, hB8⟩
end Go.Proofs.YtcfkpepohnjdfaaDoor

/- The walks over the laws' Key16 and awake (the chapter's example). -/
namespace Go.Proofs.YtcfkpepohnjdfaaDoor
set_option linter.unusedVariables false
set_option linter.unusedSimpArgs false
open Go.RowKit

theorem rep_more (k : Nat) (c : Int) : List.replicate k c ++ [c] = List.replicate (k + 1) c := by rw [List.replicate_succ']
theorem ok_reps (c : Int) (h0 : 0 ≤ c) (h1 : c < 256) (k : Nat) : ∀ j, 0 ≤ (List.replicate k c).getD j 0 ∧ (List.replicate k c).getD j 0 < 256 := by
  intro j
  simp only [List.getD_eq_getElem?_getD, List.getElem?_replicate]
  split
  · exact ⟨h0, h1⟩
  · simp
set_option maxHeartbeats 1000000 in
theorem key16_any (c : Int) (w : World) (h0 : 0 ≤ c) (h1 : c < 256) :
    Calls Tryd.prog 24 #[.int .u8 c] w fun e w' => ∃ A k, e = .returned (.slice A 16 k) ∧ Bts w' A 16 k (List.replicate 16 c) ∧ Below w.heap.size w w' := by
  go_enter Tryd.func24, Tryd.ntmps24
  go_wp2
  go_loopw [3, 4] (fun v i wr => ∃ k : Nat, k ≤ 16 ∧ i = .int .i64 k ∧ Own wr w.heap.size v (List.replicate k c) ∧ Below w.heap.size w wr) (fun _ i _ => 16 - (intOf i).toNat)
  case atStart => exact ⟨0, by omega, rfl, Own.nil _ _, Below.refl _ _⟩
  case round =>
    obtain ⟨k, hk, rfl, hown, hb⟩ := hrel
    by_cases hlt : k < 16
    · have hlt' : (k : Int) < 16 := by omega
      obtain ⟨L, hL⟩ : ∃ L, List.replicate k c = L := ⟨_, rfl⟩
      have hLl : L.length = k := by rw [← hL]; simp
      have hnext : L ++ [c] = List.replicate (k + 1) c := by rw [← hL]; exact rep_more k c
      rw [hL] at hown
      have HN := Lib.hid hnext
      have HLL := Lib.hid hLl
      have HO := Lib.hid hown
      have HB := Lib.hid hb
      clear hL hLl hnext hown hb
      go_wp2_with (first
        | (at_builtin
           refine wpList_append_b rfl _ _ rfl w.heap.size u3 L rfl (HO.out.more _) (some ⟨wr.heap.size, 0, none⟩) 1 1 [c] rfl (one_bts wr c h0 h1) (by rw [HLL.out]; omega) (Nat.le_trans HB.out.size (size_le_alloc _ _)) ?_
           intro v5 w5 hown5 hg5
           have hB5 : Below w.heap.size w w5 := (HB.out.alloc HB.out.size _).grown hg5 (Nat.le_trans HB.out.size (size_le_alloc _ _)) (fun k hk => (HO.out.size k hk).1)
           rw [HN.out] at hown5
           clear hg5))
      go_roundw
      case rel => exact ⟨k + 1, by omega, by go_num, hown5, hB5⟩
      case measure => simp [intOf]; omega
    · have hkn : k = 16 := by omega
      have hge : ¬ ((k : Int) < 16) := by omega
      obtain ⟨A, n, q, rfl, hbt⟩ := hown.slice (ok_reps c h0 h1 k)
      obtain rfl : n = 16 := by rw [← hbt.len]; simpa using hkn
      rw [hkn] at hbt
      have HBT := Lib.hid hbt
      have HB := Lib.hid hb
      clear hbt hb hown
      go_wp2
      go_ret
      exact ⟨A, q, rfl, HBT.out, HB.out⟩
theorem same_self (u : Us) : u.same u = true := by simp [Us.same]
theorem sameU_self : ∀ l : List Us, sameU l l = true
  | [] => rfl
  | u :: l => by rw [sameU, same_self, sameU_self l]; rfl
theorem two_users (w : World) (u v : Us) (hu : Bts w u.A u.n u.c u.key) (hv : Bts w v.A v.n v.c v.key) :
    Uss (w.alloc (.cells #[.int .i64 u.no, .int .i64 u.role, .slice u.A u.n u.c, .int .i64 v.no, .int .i64 v.role, .slice v.A v.n v.c] 25)) (some ⟨w.heap.size, 0, none⟩) 2 2 [u, v] := by
  refine ⟨⟨rfl, ?_, ?_, Nat.le_refl _, by unfold maxLen; omega, (fun e => by cases e), fun _ => ⟨w.heap.size, 0, rfl, fun j hj i hi => ?_⟩⟩, ?_⟩
  · intro r hr
    simp only [List.map_cons, List.map_nil, List.mem_cons, List.not_mem_nil, or_false] at hr
    rcases hr with rfl | rfl <;> rfl
  · intro r hr x hx
    simp only [List.map_cons, List.map_nil, List.mem_cons, List.not_mem_nil, or_false] at hr
    rcases hr with rfl | rfl
    · exact row_one3 u x hx
    · exact row_one3 v x hx
  · rw [cell_of_row _ _ _ _ _ _ (heap_alloc_new w _)]
    match j, i, hj, hi with
    | 0, 0, _, _ => rfl
    | 0, 1, _, _ => rfl
    | 0, 2, _, _ => rfl
    | 1, 0, _, _ => rfl
    | 1, 1, _, _ => rfl
    | 1, 2, _, _ => rfl
  · intro x hx
    simp only [List.mem_cons, List.not_mem_nil, or_false] at hx
    rcases hx with rfl | rfl
    · exact hu.more _
    · exact hv.more _
/-- the example's two users -/
theorem pair_facts (A B : Option Addr) (c d : Nat) (k1 k2 : List Int) : mayU [⟨3, 0, A, 16, c, k1⟩, ⟨7, 2, B, 16, d, k2⟩] = true ∧ mayU [⟨3, 0, A, 16, c, k1⟩] = true ∧ findU [⟨3, 0, A, 16, c, k1⟩, ⟨7, 2, B, 16, d, k2⟩] 7 = 1 ∧ findU [⟨3, 0, A, 16, c, k1⟩, ⟨7, 2, B, 16, d, k2⟩] 5 = -1 ∧ roleU [⟨3, 0, A, 16, c, k1⟩, ⟨7, 2, B, 16, d, k2⟩] 7 = 2 := by
  have h1 : mayU [⟨3, 0, A, 16, c, k1⟩, ⟨7, 2, B, 16, d, k2⟩] = true := by simp [mayU, mayFrom, goodU, isB]
  have h2 : mayU [⟨3, 0, A, 16, c, k1⟩] = true := by simp [mayU, mayFrom, goodU, isB]
  have h3 : findU [⟨3, 0, A, 16, c, k1⟩, ⟨7, 2, B, 16, d, k2⟩] 7 = 1 := by rw [findU, if_pos h1]; simp [findIx]
  have h4 : findU [⟨3, 0, A, 16, c, k1⟩, ⟨7, 2, B, 16, d, k2⟩] 5 = -1 := by rw [findU, if_pos h1]; simp [findIx]
  have h5 : roleU [⟨3, 0, A, 16, c, k1⟩, ⟨7, 2, B, 16, d, k2⟩] 7 = 2 := by rw [roleU, h3]; rfl
  exact ⟨h1, h2, h3, h4, h5⟩
set_option maxRecDepth 100000 in
set_option maxHeartbeats 2000000 in
theorem uawake_any (w : World) (hK : KTab w) :
    Calls Tryd.prog 9 #[] w fun e w' => e = .returned (.bool true) ∧ Below w.heap.size w w' := by
  have HK := Lib.hid hK
  clear hK
  go_enter Tryd.func9, Tryd.ntmps9
  go_wp2_with (first
    | (go_at_call 24
       (with_reducible refine (key16_any 1 w (by omega) (by omega)).mono ?_)
       rintro e w1 ⟨A, c, rfl, hk1, hb1⟩
       have HK1 := Lib.hid hk1
       have HB1 := Lib.hid hb1
       clear hk1 hb1)
    | (go_at_call 24
       (with_reducible refine (key16_any 2 w1 (by omega) (by omega)).mono ?_)
       rintro e w2 ⟨B, d, rfl, hk2, hb2⟩
       obtain ⟨k1, hk1e⟩ : ∃ k, List.replicate 16 (1 : Int) = k := ⟨_, rfl⟩
       obtain ⟨k2, hk2e⟩ : ∃ k, List.replicate 16 (2 : Int) = k := ⟨_, rfl⟩
       rw [hk2e] at hk2
       rw [hk1e] at HK1
       have HK2 := Lib.hid (HK1.out.below hb2)
       have HB2 := Lib.hid (HB1.out.trans (hb2.mono HB1.out.size))
       obtain ⟨f1, f2, f3, f4, f5⟩ := pair_facts A B c d k1 k2
       have hus := two_users w2 ⟨3, 0, A, 16, c, k1⟩ ⟨7, 2, B, 16, d, k2⟩ HK2.out hk2
       obtain ⟨ul, hul⟩ : ∃ l : List Us, [⟨3, 0, A, 16, c, k1⟩, ⟨7, 2, B, 16, d, k2⟩] = l := ⟨_, rfl⟩
       have hss := sameU_self ul
       rw [hul] at f1 f3 f4 f5 hus
       have HUS := Lib.hid hus
       have F1 := Lib.hid f1
       have F2 := Lib.hid f2
       have F3 := Lib.hid f3
       have F4 := Lib.hid f4
       have F5 := Lib.hid f5
       have FS := Lib.hid hss
       obtain ⟨Z, hZ⟩ : ∃ Z, secZ k1 3 1 2 3 = Z := ⟨_, rfl⟩
       have HZL := Lib.hid (show Z.length = 32 from (by rw [← hZ]; exact secZ_length _ _ _ _ _))
       have HZ := Lib.hid hZ
       clear hZ hk2 hb2 HB1 hus f1 f2 f3 f4 f5 hss hul hk1e hk2e HK1)
    | (go_at_call 11
       refine (usecret_yes ⟨3, 0, A, 16, c, k1⟩ 3 1 2 3 rfl _ (HK.out.from (HB2.out.alloc HB2.out.size _)) (HK2.out.more _) F2.out (by omega) (by omega) (by omega)).mono ?_
       rintro e w3 ⟨he, hb3⟩
       rw [HZ.out] at he
       subst he
       have HUSw3 := Lib.hid (HUS.out.below hb3)
       have HBw3 := Lib.hid ((HB2.out.alloc HB2.out.size _).trans (hb3.mono (Nat.le_trans HB2.out.size (size_le_alloc _ _))))
       clear hb3 HUS HB2)
    | ((with_reducible refine wpList_store_b rfl 30 _ _ rfl w3.heap.size Z ?hx1 ?hy1 30 (List.replicate 32 0) (rowb_lit w3 30 _ _ ?hz1) (info32 HZL.out) ?hl1 ?hm1); (case hx1 => rfl); (case hy1 => rfl); (case hz1 => rfl); (case hl1 => rw [HZL.out]; rfl)
       intro w4 hg4 hX4 hs4
       have hb4 : Below w3.heap.size w3 w4 := Below.grows (one_alloc w3 _) hg4 (size_le_alloc _ _) (Nat.le_refl _)
       have HUSw4 := Lib.hid (HUSw3.out.below hb4)
       have HBw4 := Lib.hid (HBw3.out.trans (hb4.mono HBw3.out.size))
       clear hb4 hg4 hX4 hs4 HUSw3 HBw3)
    | (go_at_call 15
       (with_reducible refine (umay_any (some ⟨w2.heap.size, 0, none⟩) 2 2 ul w4 HUSw4.out).mono ?_)
       rintro e w5 ⟨he, hbx⟩
       rw [F1.out] at he
       subst he
       have HBw5 := Lib.hid (HBw4.out.trans (hbx.mono HBw4.out.size))
       have HUSw5 := Lib.hid (HUSw4.out.below hbx)
       clear hbx HBw4 HUSw4)
    | (go_at_call 17
       (with_reducible refine (ufind_any (some ⟨w2.heap.size, 0, none⟩) 2 2 ul 7 w5 HUSw5.out).mono ?_)
       rintro e w6 ⟨he, hbx⟩
       rw [F3.out] at he
       subst he
       have HBw6 := Lib.hid (HBw5.out.trans (hbx.mono HBw5.out.size))
       have HUSw6 := Lib.hid (HUSw5.out.below hbx)
       clear hbx HBw5 HUSw5)
    | (go_at_call 17
       (with_reducible refine (ufind_any (some ⟨w2.heap.size, 0, none⟩) 2 2 ul 5 w6 HUSw6.out).mono ?_)
       rintro e w7 ⟨he, hbx⟩
       rw [F4.out] at he
       subst he
       have HBw7 := Lib.hid (HBw6.out.trans (hbx.mono HBw6.out.size))
       have HUSw7 := Lib.hid (HUSw6.out.below hbx)
       clear hbx HBw6 HUSw6)
    | (go_at_call 19
       (with_reducible refine (urole_any (some ⟨w2.heap.size, 0, none⟩) 2 2 ul 7 w7 HUSw7.out).mono ?_)
       rintro e w8 ⟨he, hbx⟩
       rw [F5.out] at he
       subst he
       have HBw8 := Lib.hid (HBw7.out.trans (hbx.mono HBw7.out.size))
       have HUSw8 := Lib.hid (HUSw7.out.below hbx)
       clear hbx HBw7 HUSw7)
    | (go_at_call 16
       (with_reducible refine (usame_any (some ⟨w2.heap.size, 0, none⟩) 2 2 ul (some ⟨w2.heap.size, 0, none⟩) 2 2 ul w8 HUSw8.out HUSw8.out).mono ?_)
       rintro e w9 ⟨he, hbx⟩
       rw [FS.out] at he
       subst he
       have HBw9 := Lib.hid (HBw8.out.trans (hbx.mono HBw8.out.size))
       have HUSw9 := Lib.hid (HUSw8.out.below hbx)
       clear hbx HBw8 HUSw8))
  go_ret
  exact ⟨rfl, HBw9.out⟩
end Go.Proofs.YtcfkpepohnjdfaaDoor

/- The walk over the document's May of users. -/
namespace Go.Proofs.YtcfkpepohnjdfaaDoor
set_option linter.unusedVariables false
set_option linter.unusedSimpArgs false
open Go.RowKit

set_option maxHeartbeats 2000000 in
theorem rumay_any (A : Option Addr) (n c : Nat) (l : List Us) (w : World) (hl : Uss w A n c l) :
    Calls Tryd.prog 13 #[.slice A n c] w (GB (mayU l) w) := by
  have hn := hl.small
  have HLL := Lib.hid hl.len
  go_enter Tryd.func13, Tryd.ntmps13
  go_wp2
  go_loopw [3] (fun i wr => ∃ k : Nat, k ≤ n ∧ k ≤ 10 ∧ i = .int .i64 k ∧ mayFrom 0 (l.take k) = true ∧ Below w.heap.size w wr) (fun i _ => n - (intOf i).toNat)
  case atStart => exact ⟨0, by omega, by omega, rfl, rfl, Below.refl _ _⟩
  case round =>
    obtain ⟨k, hk, hk10, rfl, hm, hb⟩ := hrel
    by_cases hlt : k < n
    · have hlt' : (k : Int) < n := by omega
      by_cases hten : k < 10
      · have hten' : (k : Int) < 10 := by omega
        obtain ⟨b, off, u, rfl, -, hul, hu, z0, z1, z2, hkey, hkn⟩ := (hl.below hb).at_ k hlt
        have hmore := mayFrom_more hu 0
        have hlast := lastFrom_more hu 0
        have hlow := last_low hm
        rw [hm, Bool.true_and] at hmore
        obtain ⟨no, role, A', n', c', key⟩ := u
        simp only at z0 z1 z2 hlast
        obtain ⟨x, hx⟩ : ∃ x, x = lastFrom 0 (l.take k) := ⟨_, rfl⟩
        rw [← hx] at hmore hlow
        have q0 : 0 ≤ (k : Int) := by omega
        have hbad : goodU x ⟨no, role, A', n', c', key⟩ = false → false = mayU l := fun h => by
          have h2 : mayFrom 0 l = false := mayFrom_stop hu (by rw [← hx]; exact h)
          rw [mayU, h2, Bool.and_false]
        have hprev : (k = 0 ∧ x = 0) ∨ ∃ k' : Nat, k = k' + 1 ∧ k' < n ∧ wr.cell? ⟨b, off + k' * 3, none⟩ = some (.int .i64 x) := by
          cases k with
          | zero => exact .inl ⟨rfl, hx⟩
          | succ k' =>
            refine .inr ⟨k', rfl, by omega, ?_⟩
            obtain ⟨b2, off2, u2, e2, -, -, hu2, y0, -, -, -, -⟩ := (hl.below hb).at_ k' (by omega)
            injection e2 with e2
            injection e2 with e3 e4 _
            subst e3 e4
            rw [y0, hx, lastFrom_more hu2 0]
        have HB := Lib.hid hb
        have HM := Lib.hid hmore
        have HLA := Lib.hid hlast
        have HX := Lib.hid hx
        clear hb hu hmore hlast hul hkey hkn hm hx
        cases h3 : isB role with
        | false =>
          have h0 : goodU x ⟨no, role, A', n', c', key⟩ = false := by simp [goodU, h3]
          have HR := Lib.hid h3
          clear hprev h3
          have HR2 := Lib.hid (hbad h0)
          clear hbad h0
          go_wp2_with (go_at_call 27; refine (ris_any role _).mono ?_; rintro e w1 ⟨he, rfl⟩; rw [HR.out] at he; subst he)
          go_quiet (fail)
          go_wp2
          go_ret
          exact ⟨congrArg (fun b => Ending.returned (Value.bool b)) HR2.out, below_drewN HB.out _⟩
        | true =>
          have HR := Lib.hid h3
          clear h3
          by_cases h1 : 1 ≤ no
          · by_cases h2 : no ≤ 255
            · by_cases h4 : 16 ≤ n'
              · have h4' : (16 : Int) ≤ n' := by omega
                by_cases h5 : n' ≤ 64
                · have h5' : (n' : Int) ≤ 64 := by omega
                  have d1 : decide (no < 1) = false := by rw [decide_eq_false_iff_not]; omega
                  have d2 : decide (255 < no) = false := by rw [decide_eq_false_iff_not]; omega
                  have d4 : decide ((n' : Int) < 16) = false := by rw [decide_eq_false_iff_not]; omega
                  have d5 : decide ((64 : Int) < n') = false := by rw [decide_eq_false_iff_not]; omega
                  rcases hprev with ⟨hk0, hx0⟩ | ⟨m, hkm, hmn, y0⟩
                  · have d6 : decide (0 < k) = false := by rw [decide_eq_false_iff_not]; omega
                    have hno : x < no := by rw [hx0]; omega
                    have hgood : goodU x ⟨no, role, A', n', c', key⟩ = true := good_iff.2 ⟨hno, h2, HR.out, h4, h5⟩
                    have HM2 := Lib.hid (HM.out.trans hgood)
                    clear hgood hbad hk0 hx0 hno
                    go_wp2_with (go_at_call 27; refine (ris_any role _).mono ?_; rintro e w1 ⟨he, rfl⟩; rw [HR.out] at he; subst he)
                    go_quiet (fail)
                    go_wp2
                    go_roundw
                    case rel => exact ⟨k + 1, by omega, by omega, by go_num, HM2.out, below_drewN HB.out _⟩
                    case measure => simp [intOf]; omega
                  · have ek : (k : Int) - 1 = m := by omega
                    have ek0 : 0 ≤ (m : Int) := by omega
                    have ek1 : (m : Int) < n := by omega
                    have ek3 : m < 9223372036854775808 := by omega
                    have d6 : decide (0 < k) = true := by rw [decide_eq_true_eq]; omega
                    clear hkm hmn
                    by_cases h6 : x < no
                    · have h6' : ¬ no ≤ x := by omega
                      have hgood : goodU x ⟨no, role, A', n', c', key⟩ = true := good_iff.2 ⟨h6, h2, HR.out, h4, h5⟩
                      have HM2 := Lib.hid (HM.out.trans hgood)
                      have d7 : decide (no ≤ x) = false := by rw [decide_eq_false_iff_not]; omega
                      clear hgood hbad
                      go_wp2_with (go_at_call 27; refine (ris_any role _).mono ?_; rintro e w1 ⟨he, rfl⟩; rw [HR.out] at he; subst he)
                      go_quiet (fail)
                      go_wp2
                      go_roundw
                      case rel => exact ⟨k + 1, by omega, by omega, by go_num, HM2.out, below_drewN HB.out _⟩
                      case measure => simp [intOf]; omega
                    · have h6' : no ≤ x := by omega
                      have h0 : goodU x ⟨no, role, A', n', c', key⟩ = false := by simp [goodU, h6]
                      have HR2 := Lib.hid (hbad h0)
                      clear hbad h0
                      go_wp2_with (go_at_call 27; refine (ris_any role _).mono ?_; rintro e w1 ⟨he, rfl⟩; rw [HR.out] at he; subst he)
                      go_quiet (fail)
                      go_wp2
                      go_ret
                      exact ⟨congrArg (fun b => Ending.returned (Value.bool b)) HR2.out, below_drewN HB.out _⟩
                · have h5' : (64 : Int) < n' := by omega
                  have d1 : decide (no < 1) = false := by rw [decide_eq_false_iff_not]; omega
                  have d2 : decide (255 < no) = false := by rw [decide_eq_false_iff_not]; omega
                  have d4 : decide ((n' : Int) < 16) = false := by rw [decide_eq_false_iff_not]; omega
                  have h0 : goodU x ⟨no, role, A', n', c', key⟩ = false := by simp [goodU, h5]
                  clear hprev
                  have HR2 := Lib.hid (hbad h0)
                  clear hbad h0
                  go_wp2_with (go_at_call 27; refine (ris_any role _).mono ?_; rintro e w1 ⟨he, rfl⟩; rw [HR.out] at he; subst he)
                  go_quiet (fail)
                  go_wp2
                  go_ret
                  exact ⟨congrArg (fun b => Ending.returned (Value.bool b)) HR2.out, below_drewN HB.out _⟩
              · have h4' : (n' : Int) < 16 := by omega
                have d1 : decide (no < 1) = false := by rw [decide_eq_false_iff_not]; omega
                have d2 : decide (255 < no) = false := by rw [decide_eq_false_iff_not]; omega
                have h0 : goodU x ⟨no, role, A', n', c', key⟩ = false := by simp [goodU, h4]
                clear hprev
                have HR2 := Lib.hid (hbad h0)
                clear hbad h0
                go_wp2_with (go_at_call 27; refine (ris_any role _).mono ?_; rintro e w1 ⟨he, rfl⟩; rw [HR.out] at he; subst he)
                go_quiet (fail)
                go_wp2
                go_ret
                exact ⟨congrArg (fun b => Ending.returned (Value.bool b)) HR2.out, below_drewN HB.out _⟩
            · have h2' : 255 < no := by omega
              have d1 : decide (no < 1) = false := by rw [decide_eq_false_iff_not]; omega
              have h0 : goodU x ⟨no, role, A', n', c', key⟩ = false := by simp [goodU, h2]
              clear hprev
              have HR2 := Lib.hid (hbad h0)
              clear hbad h0
              go_wp2_with (go_at_call 27; refine (ris_any role _).mono ?_; rintro e w1 ⟨he, rfl⟩; rw [HR.out] at he; subst he)
              go_quiet (fail)
              go_wp2
              go_ret
              exact ⟨congrArg (fun b => Ending.returned (Value.bool b)) HR2.out, below_drewN HB.out _⟩
          · have h1' : no < 1 := by omega
            have h0 : goodU x ⟨no, role, A', n', c', key⟩ = false := by
              have : ¬ x < no := by omega
              simp [goodU, this]
            clear hprev
            have HR2 := Lib.hid (hbad h0)
            clear hbad h0
            go_wp2_with (go_at_call 27; refine (ris_any role _).mono ?_; rintro e w1 ⟨he, rfl⟩; rw [HR.out] at he; subst he)
            go_quiet (fail)
            go_wp2
            go_ret
            exact ⟨congrArg (fun b => Ending.returned (Value.bool b)) HR2.out, below_drewN HB.out _⟩
      · have hten' : ¬ ((k : Int) < 10) := by omega
        have hr : decide ((n : Int) ≤ 8) = mayU l := by
          rw [mayU, HLL.out, decide_eq_false (show ¬ n ≤ 8 by omega), Bool.false_and, decide_eq_false_iff_not]
          omega
        have HR2 := Lib.hid hr
        have HB := Lib.hid hb
        clear hr hb hm
        go_wp2
        go_ret
        exact ⟨congrArg (fun b => Ending.returned (Value.bool b)) HR2.out, HB.out⟩
    · have hkn : k = n := by omega
      have hge : ¬ ((k : Int) < n) := by omega
      have hr : decide ((n : Int) ≤ 8) = mayU l := by
        rw [hkn, List.take_of_length_le (by rw [HLL.out]; exact Nat.le_refl _)] at hm
        rw [mayU, HLL.out, hm, Bool.and_true, Bool.eq_iff_iff, decide_eq_true_eq, decide_eq_true_eq]
        omega
      have HR2 := Lib.hid hr
      have HB := Lib.hid hb
      clear hr hm hb
      go_wp2
      go_ret
      exact ⟨congrArg (fun b => Ending.returned (Value.bool b)) HR2.out, HB.out⟩
end Go.Proofs.YtcfkpepohnjdfaaDoor

/- The walk over the laws' Few. -/
namespace Go.Proofs.YtcfkpepohnjdfaaDoor
set_option linter.unusedVariables false
set_option linter.unusedSimpArgs false
open Go.RowKit

def fewU (l : List Us) : Bool := decide (l.length ≤ 10) && l.all fun u => decide (u.n ≤ 100)
set_option maxHeartbeats 1000000 in
theorem few_any (A : Option Addr) (n c : Nat) (l : List Us) (w : World) (hl : Uss w A n c l) :
    Calls Tryd.prog 10 #[.slice A n c] w fun e w' => e = .returned (.bool (fewU l)) ∧ w' = w := by
  have hn := hl.small
  have HLL := Lib.hid hl.len
  go_enter Tryd.func10, Tryd.ntmps10
  go_wp2
  go_loopw [3] (fun i wr => ∃ k : Nat, k ≤ n ∧ k ≤ 11 ∧ i = .int .i64 k ∧ (l.take k).all (fun u => decide (u.n ≤ 100)) = true ∧ wr = w) (fun i _ => n - (intOf i).toNat)
  case atStart => exact ⟨0, by omega, by omega, rfl, rfl, rfl⟩
  case round =>
    obtain ⟨k, hk, hk10, rfl, hm, rfl⟩ := hrel
    by_cases hlt : k < n
    · have hlt' : (k : Int) < n := by omega
      by_cases hten : k ≤ 10
      · have hten' : (k : Int) ≤ 10 := by omega
        obtain ⟨b, off, u, rfl, -, hul, hu, -, -, z2, -, -⟩ := hl.at_ k hlt
        have q0 : 0 ≤ (k : Int) := by omega
        by_cases hx : u.n ≤ 100
        · have hx' : (u.n : Int) ≤ 100 := by omega
          have hnext : (l.take (k + 1)).all (fun u => decide (u.n ≤ 100)) = true := by
            rw [take_more hu, List.all_append, hm]
            simp [hx]
          have HN := Lib.hid hnext
          obtain ⟨m, hm2⟩ : ∃ m, u.n = m := ⟨_, rfl⟩
          rw [hm2] at z2 hx'
          clear hnext hm hul hu hx hm2
          go_wp2
          go_roundw
          case rel => exact ⟨k + 1, by omega, by omega, by go_num, HN.out, trivial⟩
          case measure => simp [intOf]; omega
        · have hx' : (100 : Int) < u.n := by omega
          have hr : false = fewU l := by
            rw [fewU, eq_comm, ← Bool.not_eq_true, Bool.and_eq_true, List.all_eq_true]
            intro h
            have := h.2 u hul
            rw [decide_eq_true_eq] at this
            exact hx this
          have HR := Lib.hid hr
          obtain ⟨m, hm2⟩ : ∃ m, u.n = m := ⟨_, rfl⟩
          rw [hm2] at z2 hx'
          clear hr hm hul hu hx hm2
          go_wp2
          go_ret
          exact ⟨by rw [← HR.out]; rfl, rfl⟩
      · have hten' : ¬ ((k : Int) ≤ 10) := by omega
        have hr : decide ((n : Int) ≤ 10) = fewU l := by
          rw [fewU, HLL.out, decide_eq_false (show ¬ n ≤ 10 by omega), Bool.false_and, decide_eq_false_iff_not]
          omega
        have HR := Lib.hid hr
        clear hr hm
        go_wp2
        go_ret
        exact ⟨by rw [← HR.out]; rfl, rfl⟩
    · have hkn : k = n := by omega
      have hge : ¬ ((k : Int) < n) := by omega
      have hr : decide ((n : Int) ≤ 10) = fewU l := by
        rw [hkn, List.take_of_length_le (by rw [HLL.out]; exact Nat.le_refl _)] at hm
        rw [fewU, HLL.out, hm, Bool.and_true, Bool.eq_iff_iff, decide_eq_true_eq, decide_eq_true_eq]
        omega
      have HR := Lib.hid hr
      clear hr hm
      go_wp2
      go_ret
      exact ⟨by rw [← HR.out]; rfl, rfl⟩
end Go.Proofs.YtcfkpepohnjdfaaDoor

/- The walks over the document's own Same, Find and Role of users. -/
namespace Go.Proofs.YtcfkpepohnjdfaaDoor
set_option linter.unusedVariables false
set_option linter.unusedSimpArgs false
open Go.RowKit

set_option maxHeartbeats 1000000 in
theorem rufind_any (A : Option Addr) (n c : Nat) (l : List Us) (no : Int) (w : World) (hl : Uss w A n c l) :
    Calls Tryd.prog 18 #[.slice A n c, .int .i64 no] w (GI (findU l no) w) := by
  have hn := hl.small
  have HLL := Lib.hid hl.len
  have HL := Lib.hid hl
  have HC := Lib.hid (rumay_any A n c l w hl)
  obtain ⟨E, hE⟩ : ∃ E, mayU l = E := ⟨_, rfl⟩
  rw [hE] at HC
  have HE := Lib.hid hE
  clear hE hl
  go_enter Tryd.func18, Tryd.ntmps18
  go_wp2_with (go_at_call 13; refine HC.out.mono ?_; rintro e w1 ⟨rfl, hb4⟩; have HB4 := Lib.hid hb4; clear hb4)
  cases E with
  | false =>
    have hr : (-1 : Int) = findU l no := by rw [findU, HE.out]; rfl
    have HR := Lib.hid hr
    clear hr
    go_loopw [6] (fun i wr => i = .int .i64 0 ∧ wr = w1) (fun i _ => 0)
    case atStart => exact ⟨rfl, rfl⟩
    case round =>
      obtain ⟨rfl, rfl⟩ := hrel
      by_cases h0 : (0 : Int) < n
      · go_wp2
        go_ret
        exact ⟨congrArg (fun i => Ending.returned (Value.int .i64 i)) HR.out, HB4.out⟩
      · go_wp2
        go_ret
        exact ⟨congrArg (fun i => Ending.returned (Value.int .i64 i)) HR.out, HB4.out⟩
  | true =>
    go_loopw [6] (fun i wr => ∃ k : Nat, k ≤ n ∧ i = .int .i64 k ∧ (∀ j v, j < k → l[j]? = some v → v.no ≠ no) ∧ wr = w1) (fun i _ => n - (intOf i).toNat)
    case atStart => exact ⟨0, by omega, rfl, (fun j v hj => by omega), rfl⟩
    case round =>
      obtain ⟨k, hk, rfl, hm, rfl⟩ := hrel
      by_cases hlt : k < n
      · have hlt' : (k : Int) < n := by omega
        obtain ⟨b, off, u, rfl, -, hul, hu, z0, -, -, -, -⟩ := (HL.out.below HB4.out).at_ k hlt
        have q0 : 0 ≤ (k : Int) := by omega
        obtain ⟨x, hxe⟩ : ∃ x, u.no = x := ⟨_, rfl⟩
        rw [hxe] at z0
        by_cases hx : x = no
        · have hr : (k : Int) = findU l no := by
            rw [findU, if_pos HE.out, findIx_at 0 k u hu (hxe.trans hx) hm]
            omega
          have HR := Lib.hid hr
          have qn : (x == no) = true := by rw [beq_iff_eq]; exact hx
          clear hr hm hul hu hx hxe
          go_wp2
          go_ret
          exact ⟨congrArg (fun i => Ending.returned (Value.int .i64 i)) HR.out, HB4.out⟩
        · have qn : (x == no) = false := by rw [beq_eq_false_iff_ne]; exact hx
          have hnext : ∀ j v, j < k + 1 → l[j]? = some v → v.no ≠ no := fun j v hj hv => by
            by_cases e : j = k
            · subst e
              rw [hu] at hv
              obtain rfl := Option.some.inj hv
              rw [hxe]; exact hx
            · exact hm j v (by omega) hv
          have HN := Lib.hid hnext
          clear hnext hm hul hu hx hxe
          go_wp2
          go_roundw
          case rel => exact ⟨k + 1, by omega, by go_num, HN.out, trivial⟩
          case measure => simp [intOf]; omega
      · have hkn : k = n := by omega
        have hge : ¬ ((k : Int) < n) := by omega
        have hr : (-1 : Int) = findU l no := (find_none fun j v hv hv2 => hm j v (by have h1 := (List.getElem?_eq_some_iff.1 hv).1; rw [HLL.out] at h1; omega) hv hv2).symm
        have HR := Lib.hid hr
        clear hr hm
        go_wp2
        go_ret
        exact ⟨congrArg (fun i => Ending.returned (Value.int .i64 i)) HR.out, HB4.out⟩
set_option maxHeartbeats 1000000 in
theorem rurole_any (A : Option Addr) (n c : Nat) (l : List Us) (no : Int) (w : World) (hl : Uss w A n c l) :
    Calls Tryd.prog 20 #[.slice A n c, .int .i64 no] w (GI (roleU l no) w) := by
  have hn := hl.small
  have HC := Lib.hid (rufind_any A n c l no w hl)
  by_cases h : 0 ≤ findU l no
  · obtain ⟨k, hk, hkl, u, hu, -⟩ := find_range h
    rw [hl.len] at hkl
    rw [role_at hk hu]
    rw [hk] at HC
    have HL := Lib.hid hl
    have HU := Lib.hid hu
    have q0 : 0 ≤ (k : Int) := by omega
    have q1 : (k : Int) < n := by omega
    clear h hk hl hu
    go_enter Tryd.func20, Tryd.ntmps20
    go_wp2_with (go_at_call 18; refine HC.out.mono ?_; rintro e w1 ⟨rfl, hb4⟩; have HB4 := Lib.hid hb4; obtain ⟨b, off, u', rfl, -, -, hu', -, z1, -, -, -⟩ := (HL.out.below hb4).at_ k hkl; obtain rfl : u' = u := (by rw [HU.out] at hu'; exact (Option.some.inj hu').symm); clear hb4 hu')
    go_ret
    exact ⟨rfl, HB4.out⟩
  · rw [role_no h]
    obtain ⟨x, hx⟩ : ∃ x, findU l no = x := ⟨_, rfl⟩
    rw [hx] at HC h
    have h' : x < 0 := by omega
    clear hx hl h
    go_enter Tryd.func20, Tryd.ntmps20
    go_wp2_with (go_at_call 18; refine HC.out.mono ?_; rintro e w1 ⟨rfl, hb4⟩; have HB4 := Lib.hid hb4; clear hb4)
    go_ret
    exact ⟨rfl, HB4.out⟩
end Go.Proofs.YtcfkpepohnjdfaaDoor

/- The walk over the document's own Same of users. -/
namespace Go.Proofs.YtcfkpepohnjdfaaDoor
set_option linter.unusedVariables false
set_option linter.unusedSimpArgs false
open Go.RowKit

theorem ne_bstr {l m : List Int} (hl : ∀ j, 0 ≤ l.getD j 0 ∧ l.getD j 0 < 256) (hm : ∀ j, 0 ≤ m.getD j 0 ∧ m.getD j 0 < 256) : ((bstr l).toList != (bstr m).toList) = !(l == m) := by
  rw [bne, run_eq_bstr l m hl hm]
set_option maxHeartbeats 2000000 in
theorem rusame_any (A : Option Addr) (n c : Nat) (l : List Us) (B : Option Addr) (m d : Nat) (l2 : List Us) (w : World) (hl : Uss w A n c l) (hm : Uss w B m d l2) :
    Calls Tryd.prog 14 #[.slice A n c, .slice B m d] w (GB (sameU l l2) w) := by
  have hn := hl.small
  have hn2 := hm.small
  have HL := Lib.hid hl.len
  have HL2 := Lib.hid hm.len
  by_cases hmm : n = m
  · subst hmm
    have hne : ((n : Int) != (n : Int)) = false := by simp
    go_enter Tryd.func14, Tryd.ntmps14
    go_wp2
    go_loopw [5] (fun v wr => ∃ j : Nat, j ≤ n ∧ v = .int .i64 j ∧ sameU (l.take j) (l2.take j) = true ∧ ∃ d, wr = w.drewN d) (fun v _ => n - (intOf v).toNat)
    case atStart => exact ⟨0, Nat.zero_le _, rfl, by simp [sameU], 0, rfl⟩
    case round =>
      obtain ⟨j, hj, rfl, hsm, d1, rfl⟩ := hrel
      by_cases hlt : j < n
      · obtain ⟨b, off, u, rfl, -, -, hu, z0, z1, z2, hk, -⟩ := hl.at_ j hlt
        obtain ⟨b2, off2, v, rfl, -, -, hv, y0, y1, y2, hk2, -⟩ := hm.at_ j hlt
        have hst := sameU_take hu hv
        have hsp := fun h => sameU_stop hu hv h
        rw [hsm, Bool.true_and] at hst
        have q0 : 0 ≤ (j : Int) := by omega
        have q1 : (j : Int) < n := by omega
        obtain ⟨n1, r1, A1, m1, c1, k1⟩ := u
        obtain ⟨n2, r2, A2, m2, c2, k2⟩ := v
        simp only at z0 z1 z2 y0 y1 y2 hk hk2
        have hcv1 : ∀ e, (convert 23 9 (.slice A1 m1 c1)).run Tryd.prog (w.drewN e) = .ok (.string (bstr k1)) (w.drewN e) := fun e => conv_bts (hk.draw e)
        have hcv2 : ∀ e, (convert 23 9 (.slice A2 m2 c2)).run Tryd.prog (w.drewN e) = .ok (.string (bstr k2)) (w.drewN e) := fun e => conv_bts (hk2.draw e)
        have hneq := run_eq_bstr k1 k2 hk.ok hk2.ok
        obtain ⟨s1, hs1⟩ : ∃ s, bstr k1 = s := ⟨_, rfl⟩
        obtain ⟨s2, hs2⟩ : ∃ s, bstr k2 = s := ⟨_, rfl⟩
        rw [hs1] at hcv1 hneq
        rw [hs2] at hcv2 hneq
        have HST := Lib.hid hst
        have HSP := Lib.hid hsp
        clear hst hsp hsm hk hk2 hu hv hs1 hs2
        by_cases e1 : n1 = n2
        · have f1 : (n1 != n2) = false := by rw [e1]; simp
          by_cases e2 : r1 = r2
          · have f2 : (r1 != r2) = false := by rw [e2]; simp
            cases e3 : (k1 == k2) with
            | true =>
              have hs : Us.same ⟨n1, r1, A1, m1, c1, k1⟩ ⟨n2, r2, A2, m2, c2, k2⟩ = true := by simp [Us.same, e1, e2, e3]
              have HST2 := Lib.hid (HST.out.trans hs)
              rw [e3] at hneq
              have hneq2 : (s1.toList == s2.toList) = true := hneq
              clear hs e3 hneq HST HSP e1 e2
              go_wp2_with fail
              go_quiet (fail)
              go_wp2
              go_roundw
              case rel => exact ⟨j + 1, by omega, by go_num, HST2.out, _, rfl⟩
              case measure => simp [intOf]; omega
            | false =>
              have hs : Us.same ⟨n1, r1, A1, m1, c1, k1⟩ ⟨n2, r2, A2, m2, c2, k2⟩ = false := by simp [Us.same, e1, e2, e3]
              have HS2 := Lib.hid (HSP.out hs)
              rw [e3] at hneq
              have hneq2 : (s1.toList == s2.toList) = false := hneq
              clear hs e3 hneq HST HSP e1 e2
              go_wp2_with fail
              go_quiet (fail)
              go_wp2
              go_ret
              exact ⟨by rw [HS2.out]; rfl, below_drewN (below_drewN (Below.refl _ _) _) _⟩
          · have f2 : (r1 != r2) = true := by rw [bne_iff_ne]; exact e2
            have hs : Us.same ⟨n1, r1, A1, m1, c1, k1⟩ ⟨n2, r2, A2, m2, c2, k2⟩ = false := by simp [Us.same, e2]
            have HS2 := Lib.hid (HSP.out hs)
            clear hs hneq HST HSP e1 e2
            go_wp2_with fail
            go_quiet (fail)
            go_wp2
            go_ret
            exact ⟨by rw [HS2.out]; rfl, below_drewN (below_drewN (Below.refl _ _) _) _⟩
        · have f1 : (n1 != n2) = true := by rw [bne_iff_ne]; exact e1
          have hs : Us.same ⟨n1, r1, A1, m1, c1, k1⟩ ⟨n2, r2, A2, m2, c2, k2⟩ = false := by simp [Us.same, e1]
          have HS2 := Lib.hid (HSP.out hs)
          clear hs hneq HST HSP e1
          go_wp2_with fail
          go_quiet (fail)
          go_wp2
          go_ret
          exact ⟨by rw [HS2.out]; rfl, below_drewN (below_drewN (Below.refl _ _) _) _⟩
      · obtain rfl : j = n := by omega
        rw [List.take_of_length_le (by rw [HL.out]; exact Nat.le_refl _), List.take_of_length_le (by rw [HL2.out]; exact Nat.le_refl _)] at hsm
        have HS := Lib.hid hsm
        clear hsm
        go_wp2
        go_ret
        exact ⟨by rw [HS.out]; rfl, below_drewN (Below.refl _ _) _⟩
  · have hne : ((n : Int) != (m : Int)) = true := by rw [bne_iff_ne]; omega
    have hr : false = sameU l l2 := (sameU_ne (by rw [HL.out, HL2.out]; exact hmm)).symm
    have HR := Lib.hid hr
    clear hr
    go_enter Tryd.func14, Tryd.ntmps14
    go_wp2
    go_ret
    exact ⟨congrArg (fun b => Ending.returned (Value.bool b)) HR.out, Below.refl _ _⟩
end Go.Proofs.YtcfkpepohnjdfaaDoor

/- The walks over the plain answers' Put and Get of numbers. -/
namespace Go.Proofs.YtcfkpepohnjdfaaDoor
set_option linter.unusedVariables false
set_option linter.unusedSimpArgs false
open Go.RowKit

theorem rput_out (n k : Int) (w : World) (h : k < 1 ∨ 8 < k) :
    Calls Tryd.prog 35 #[.int .u64 n, .int .i64 k] w fun e w' => e = .returned (.tuple #[.slice none 0 0, .bool false]) ∧ Below w.heap.size w w' := by
  by_cases h1 : k < 1
  · clear h
    go_enter Tryd.func35, Tryd.ntmps35
    go_wp2
    go_ret2
    exact ⟨rfl, Below.refl _ _⟩
  · have h2 : 1 ≤ k := by omega
    have h3 : 8 < k := by omega
    clear h h1
    go_enter Tryd.func35, Tryd.ntmps35
    go_wp2
    go_ret2
    exact ⟨rfl, Below.refl _ _⟩
def putV (N K g : Nat) : Value := if N < 256 ^ K then .tuple #[.slice (some ⟨g, 0, none⟩) K K, .bool true] else .tuple #[.slice none 0 0, .bool false]
theorem putV_yes {N K g : Nat} (h : N < 256 ^ K) : Ending.returned (.tuple #[.slice (some ⟨g, 0, none⟩) K K, .bool true]) = Ending.returned (putV N K g) := by rw [putV, if_pos h]
theorem putV_no {N K g : Nat} (h : ¬ N < 256 ^ K) : Ending.returned (.tuple #[.slice none 0 0, .bool false]) = Ending.returned (putV N K g) := by rw [putV, if_neg h]
set_option maxHeartbeats 1000000 in
theorem rput_any (N K : Nat) (w : World) (h1 : 1 ≤ K) (h2 : K ≤ 8) (h3 : N < 256 ^ 8) :
    Calls Tryd.prog 35 #[.int .u64 N, .int .i64 K] w fun e w' => e = .returned (putV N K w.heap.size) ∧ RowB w' w.heap.size 5 (putL N K) ∧ Below w.heap.size w w' := by
  have HN := Lib.hid h3
  clear h3
  go_enter Tryd.func35, Tryd.ntmps35
  go_wp2_with (at_make
               refine wpList_make_n rfl _ _ rfl K K K rfl rfl rfl rfl (by omega) ?_
               intro w1 hX1 hg1 hs1
               have hB1 : Below w.heap.size w w1 := (Below.refl _ _).grown hg1 (Nat.le_refl _) (fun k hk => by cases hk))
  go_loopw [0, 7] (fun n i wr => ∃ M x : Nat, M ≤ K ∧ n = .int .u64 x ∧ x = N / 256 ^ (K - M) ∧ i = .int .i64 ((M : Int) - 1) ∧ RowB wr w.heap.size 5 (fillBack N K (K - M)) ∧ Below w.heap.size w wr) (fun _ i _ => (intOf i + 1).toNat)
  case atStart => exact ⟨K, N, Nat.le_refl _, rfl, by simp, rfl, by rw [Nat.sub_self]; exact hX1, hB1⟩
  case round =>
    clear hX1 hg1 hs1 hB1
    obtain ⟨M, x, hM, rfl, hx, rfl, hX, hB⟩ := hrel
    have hxb : x < 256 ^ 8 := by rw [hx]; exact Nat.lt_of_le_of_lt (Nat.div_le_self _ _) HN.out
    have HX := Lib.hid hx
    clear hx
    rcases M with _ | m
    · rw [Nat.sub_zero, fillBack_all] at hX
      have hx0 : (x = 0) ↔ N < 256 ^ K := by
        rw [HX.out, Nat.sub_zero, Nat.div_eq_zero_iff]
        have := Nat.pow_pos (n := K) (show 0 < 256 by omega)
        omega
      by_cases hz : x = 0
      · have hlt := hx0.1 hz
        have hne : ((x : Int) != 0) = false := by subst hz; rfl
        have HLT := Lib.hid hlt
        clear hx0 hz hlt
        go_wp2
        go_ret2
        exact ⟨putV_yes HLT.out, hX, hB⟩
      · have hlt : ¬ N < 256 ^ K := fun h => hz (hx0.2 h)
        have hne : ((x : Int) != 0) = true := by rw [bne_iff_ne]; omega
        have HLT := Lib.hid hlt
        clear hx0 hz hlt
        go_wp2
        go_ret2
        exact ⟨putV_no HLT.out, hX, hB⟩
    · have e : (((m + 1 : Nat) : Int) - 1) = m := by omega
      rw [e]
      have hl : (fillBack N K (K - (m + 1))).length = K := fillBack_length _ _ _
      have hcell := hX.cell m (by omega)
      have hfr := hX.free m
      have hnext : fillBack N K (K - m) = (fillBack N K (K - (m + 1))).set m ((x : Int) % 256) := by
        rw [show K - m = (K - (m + 1)) + 1 by omega, fillBack, HX.out, show K - 1 - (K - (m + 1)) = m by omega]
        rfl
      have hx2 : x / 256 = N / 256 ^ (K - m) := by
        rw [HX.out, show K - m = (K - (m + 1)) + 1 by omega, Nat.div_div_eq_div_mul, Nat.pow_succ]
      have HP := Lib.hid (hX.put m ((x : Int) % 256))
      have HNX := Lib.hid hnext
      have HX2 := Lib.hid hx2
      have HBB := Lib.hid hB
      obtain ⟨c, hc⟩ : ∃ c, c = (fillBack N K (K - (m + 1))).getD m 0 := ⟨_, rfl⟩
      rw [← hc] at hcell
      clear hc e hl hnext hx2 hX hB
      go_wp2
      go_roundw
      case rel =>
        exact ⟨m, x / 256, by omega, by go_num, HX2.out, rfl, by rw [HNX.out]; exact HP.out, HBB.out.setCell (p := ⟨_, m, none⟩) (Nat.le_refl _) _⟩
      case measure => simp [intOf]

theorem mulStep (y : Nat) (z : Int) (hy : y < 256 ^ 7) (h0 : 0 ≤ z) (h1 : z < 256) : IntKind.u64.wrap (IntKind.u64.wrap (256 * (y : Int)) + z) = ((256 * y + z.toNat : Nat) : Int) := by
  rw [IntKind.wrap_u64, IntKind.wrap_u64]
  omega
end Go.Proofs.YtcfkpepohnjdfaaDoor
