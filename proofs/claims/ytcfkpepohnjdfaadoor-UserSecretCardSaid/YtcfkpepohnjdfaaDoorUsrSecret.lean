/- The walk over package user's Secret. -/
import Derived.Test.YtcfkpepohnjdfaaDoorUsrMay
import Derived.Test.YtcfkpepohnjdfaaDoorMacDer
import Derived.Test.YtcfkpepohnjdfaaDoorNumCat
namespace Go.Proofs.YtcfkpepohnjdfaaDoor
set_option linter.unusedVariables false
set_option linter.unusedSimpArgs false
open Go.RowKit

def sessS : ByteArray := ⟨#[115, 101, 115, 115, 105, 111, 110]⟩
/-- what a session is, as bytes -/
def ctxL (no e d c : Nat) : List Int := catL [(e, 4), (d, 8), (c, 8), (no, 1)]
/-- a session's key -/
def secZ (key : List Int) (no e d c : Nat) : List Int := tagL key (labelL (strL sessS) (ctxL no e d c))
theorem secZ_length (key : List Int) (no e d c : Nat) : (secZ key no e d c).length = 32 := by rw [secZ, tagL]; exact sumL_length _
theorem ctx_length (no e d c : Nat) : (ctxL no e d c).length = 21 := by rw [ctxL, catL_length]; rfl
theorem one_user (w : World) (u : Us) (h : Bts w u.A u.n u.c u.key) : Uss (w.alloc (.cells #[.int .i64 u.no, .int .i64 u.role, .slice u.A u.n u.c] 25)) (some ⟨w.heap.size, 0, none⟩) 1 1 [u] := by
  refine ⟨⟨rfl, ?_, ?_, Nat.le_refl _, by unfold maxLen; omega, (fun e => by cases e), fun _ => ⟨w.heap.size, 0, rfl, fun j hj i hi => ?_⟩⟩, ?_⟩
  · intro r hr
    simp only [List.map_cons, List.map_nil, List.mem_singleton] at hr
    subst hr
    rfl
  · intro r hr
    simp only [List.map_cons, List.map_nil, List.mem_singleton] at hr
    subst hr
    exact row_one3 u
  · obtain rfl : j = 0 := by omega
    rw [cell_of_row _ _ _ _ _ _ (heap_alloc_new w _)]
    match i, hi with
    | 0, _ => rfl
    | 1, _ => rfl
    | 2, _ => rfl
  · intro v hv
    rw [List.mem_singleton] at hv
    subst hv
    exact h.more _
theorem one_user_at {w : World} {g : Nat} (u : Us) (hg : w.heap.size = g) (h : Bts w u.A u.n u.c u.key) : Uss (w.alloc (.cells #[.int .i64 u.no, .int .i64 u.role, .slice u.A u.n u.c] 25)) (some ⟨g, 0, none⟩) 1 1 [u] := by
  subst hg
  exact one_user w u h
theorem size_two1 (w : World) (o1 o2 : Obj) : ((w.alloc o1).alloc o2).heap.size = w.heap.size + 1 + 1 := by simp
theorem four_nums (w : World) (e d c no : Nat) (he : e < 18446744073709551616) (hd : d < 18446744073709551616) (hc : c < 18446744073709551616) (hno : no < 18446744073709551616) :
    Nms (w.alloc (.cells #[.int .u64 e, .int .i64 4, .int .u64 d, .int .i64 8, .int .u64 c, .int .i64 8, .int .u64 no, .int .i64 1] 41)) (some ⟨w.heap.size, 0, none⟩) 4 4 [((e : Int), 4), ((d : Int), 8), ((c : Int), 8), ((no : Int), 1)] := by
  refine ⟨⟨rfl, ?_, ?_, Nat.le_refl _, by unfold maxLen; omega, (fun e => by cases e), fun _ => ⟨w.heap.size, 0, rfl, fun j hj i hi => ?_⟩⟩, ?_⟩
  · intro r hr
    simp only [List.map_cons, List.map_nil, List.mem_cons, List.not_mem_nil, or_false] at hr
    rcases hr with rfl | rfl | rfl | rfl <;> rfl
  · intro r hr v hv
    simp only [List.map_cons, List.map_nil, List.mem_cons, List.not_mem_nil, or_false] at hr
    rcases hr with rfl | rfl | rfl | rfl <;>
    · simp only [numR, List.mem_cons, List.not_mem_nil, or_false] at hv
      rcases hv with rfl | rfl <;> rfl
  · rw [cell_of_row _ _ _ _ _ _ (heap_alloc_new w _)]
    match j, i, hj, hi with
    | 0, 0, _, _ => rfl
    | 0, 1, _, _ => rfl
    | 1, 0, _, _ => rfl
    | 1, 1, _, _ => rfl
    | 2, 0, _, _ => rfl
    | 2, 1, _, _ => rfl
    | 3, 0, _, _ => rfl
    | 3, 1, _, _ => rfl
  · intro p hp
    simp only [List.mem_cons, List.not_mem_nil, or_false] at hp
    rcases hp with rfl | rfl | rfl | rfl <;> simp only <;> omega
theorem after_three {w w1 : World} {o1 o2 o3 : Obj} (h : Below (((w.alloc o1).alloc o2).alloc o3).heap.size (((w.alloc o1).alloc o2).alloc o3) w1) :
    Below w.heap.size w w1 ∧ w.heap.size + 3 ≤ w1.heap.size ∧ w1.heap[w.heap.size]? = some o1 ∧ w1.heap[w.heap.size + 1]? = some o2 := by
  obtain ⟨W, hW⟩ : ∃ W, ((w.alloc o1).alloc o2).alloc o3 = W := ⟨_, rfl⟩
  obtain ⟨h1, h2, h3, h4⟩ := named_three hW
  rw [hW] at h
  exact ⟨h1.trans (h.mono h1.size), by have := h.size; omega, (h.block _ (by omega)).trans h3, (h.block _ (by omega)).trans h4⟩
/-- what a session is, put together -/
theorem four_cat (e d c no : Nat) (he : e ≤ 1073741824) (hd : d < 18446744073709551616) (hc : c < 18446744073709551616) (hno : (no : Int) ≤ 255) : catB [((e : Int), 4), ((d : Int), 8), ((c : Int), 8), ((no : Int), 1)] = true ∧ toN [((e : Int), 4), ((d : Int), 8), ((c : Int), 8), ((no : Int), 1)] = [(e, 4), (d, 8), (c, 8), (no, 1)] := by
  refine ⟨?_, by simp [toN]⟩
  have h1 : fitB e 4 = true := fit_of e 4 (by omega) (by omega) (by omega)
  have h2 : fitB d 8 = true := fit_of d 8 (by omega) (by omega) (by omega)
  have h3 : fitB c 8 = true := fit_of c 8 (by omega) (by omega) (by omega)
  have h4 : fitB no 1 = true := fit_of no 1 (by omega) (by omega) (by omega)
  simp [catB, fitsB, h1, h2, h3, h4]
theorem cat_four (w : World) (e d c no : Nat) (he : e ≤ 1073741824) (hd : d < 18446744073709551616) (hc : c < 18446744073709551616) (hno : (no : Int) ≤ 255) :
    Calls Tryd.prog 22 #[.slice (some ⟨w.heap.size, 0, none⟩) 4 4] (w.alloc (.cells #[.int .u64 e, .int .i64 4, .int .u64 d, .int .i64 8, .int .u64 c, .int .i64 8, .int .u64 no, .int .i64 1] 41)) fun x w' => ∃ A n k, x = .returned (.tuple #[.slice A n k, .bool true]) ∧ n = 21 ∧ Bts w' A n k (ctxL no e d c) ∧ Below w.heap.size w w' := by
  obtain ⟨h1, h2⟩ := four_cat e d c no he hd hc hno
  refine (cat_any _ _ _ _ _ (four_nums w e d c no (by omega) hd hc (by omega))).mono fun x w' ⟨h3, _, h4⟩ => ?_
  obtain ⟨v, hv, ho⟩ := h3 h1
  rw [h2] at ho
  obtain ⟨A, n, k, rfl, hb⟩ := ho.slice (catL_ok _)
  exact ⟨A, n, k, hv, by rw [← hb.len]; exact ctx_length no e d c, hb, (one_alloc _ _).trans (h4.mono (size_le_alloc _ _))⟩
/-- a user in a box -/
def BoxU (w : World) (g : Nat) (u : Us) : Prop := w.heap[g]? = some (.cells #[.int .i64 u.no, .int .i64 u.role, .slice u.A u.n u.c] 25 (0, 0))
theorem BoxU.cells {w : World} {g : Nat} {u : Us} (h : BoxU w g u) : w.cell? ⟨g, 0, none⟩ = some (.int .i64 u.no) ∧ w.cell? ⟨g, 1, none⟩ = some (.int .i64 u.role) ∧ w.cell? ⟨g, 2, none⟩ = some (.slice u.A u.n u.c) :=
  ⟨(cell_of_row _ _ _ _ _ _ h).trans rfl, (cell_of_row _ _ _ _ _ _ h).trans rfl, (cell_of_row _ _ _ _ _ _ h).trans rfl⟩
theorem BoxU.lt {w : World} {g : Nat} {u : Us} (h : BoxU w g u) : g < w.heap.size := (Array.getElem?_eq_some_iff.1 h).1
theorem BoxU.below {w w' : World} {g : Nat} {u : Us} (h : BoxU w g u) (hb : Below w.heap.size w w') : BoxU w' g u := (hb.block g h.lt).trans h

set_option maxRecDepth 100000 in
set_option maxHeartbeats 2000000 in
theorem usecret_yes (u : Us) (no e d c : Nat) (hno : u.no = no) (w : World) (hK : KTab w) (hk : Bts w u.A u.n u.c u.key) (hm : mayU [u] = true) (he : e ≤ 1073741824) (hd : d < 18446744073709551616) (hc : c < 18446744073709551616) :
    Calls Tryd.prog 11 #[.agg #[.int .i64 u.no, .int .i64 u.role, .slice u.A u.n u.c], .int .i64 e, .int .u64 d, .int .u64 c] w fun x w' => x = .returned (.tuple #[.agg (idv (secZ u.key no e d c)), .bool true]) ∧ Below w.heap.size w w' := by
  have hgood : u.no ≤ 255 ∧ 16 ≤ u.n ∧ u.n ≤ 64 := by
    rw [mayU, Bool.and_eq_true] at hm
    have := may_all hm.2 u (by simp)
    exact ⟨this.2.1, this.2.2.2.1, this.2.2.2.2⟩
  obtain ⟨hg1, hg2, hg3⟩ := hgood
  obtain ⟨no', role, A, n, c', key⟩ := u
  simp only at hno hk hg1 hg2 hg3
  subst hno
  obtain ⟨Z, hZ⟩ : ∃ Z, Z = secZ key no e d c := ⟨_, rfl⟩
  have hZl : Z.length = 32 := by rw [hZ]; exact secZ_length _ _ _ _ _
  rw [← hZ]
  have HK := Lib.hid hK
  have HKB := Lib.hid hk
  have HZ := Lib.hid hZ
  have HZL := Lib.hid hZl
  have HM := Lib.hid hm
  clear hK hk hZ hZl hm
  go_enter Tryd.func11, Tryd.ntmps11
  go_wp2_with (first
    | (go_at_call 15
       refine (umay_any _ _ _ _ _ (one_user_at ⟨no, role, A, n, c', key⟩ (size_two1 _ _ _) (HKB.out.below (two_below _ _ _)))).mono ?_
       rintro x w4 ⟨hx, hb4⟩
       rw [HM.out] at hx
       subst hx
       obtain ⟨hb5, hs5, h6, h7⟩ := after_three hb4
       have hO4 : RowB w4 (w.heap.size + 1) 30 (List.replicate 32 0) := h7
       have hU4 : BoxU w4 w.heap.size ⟨no, role, A, n, c', key⟩ := h6
       obtain ⟨y0, y1, y2⟩ := hU4.cells
       simp only at y0 y1 y2
       have HB5 := Lib.hid hb5
       have HO4 := Lib.hid hO4
       have HU4 := Lib.hid hU4
       clear hb4 hb5 h6 h7 hO4 hU4)
    | (go_at_call 22
       refine (cat_four w4 e d c no he hd hc hg1).mono ?_
       rintro x w5 ⟨B, m, k, rfl, hm21, hctx, hb6⟩
       obtain ⟨z0, z1, z2⟩ := (HU4.out.below hb6).cells
       simp only at z0 z1 z2
       have HO5 := Lib.hid (HO4.out.keep hb6)
       have HB6 := Lib.hid (HB5.out.trans (hb6.mono HB5.out.size))
       have HCTX := Lib.hid hctx
       have HM21 := Lib.hid hm21
       clear hb6 hctx hm21 y0 y1 y2)
    | (go_at_call 23
       refine (derive_yes A B n c' m k key _ sessS w5 (HK.out.from HB6.out) (by omega) (by rw [HM21.out]; omega) (HKB.out.below HB6.out) HCTX.out (by decide) (by decide)).mono ?_
       rintro x w6 ⟨hx, hb7⟩
       rw [show tagL key (labelL (strL sessS) (ctxL no e d c)) = Z from HZ.out.symm] at hx
       subst hx
       have hO6 := HO5.out.keep hb7
       have hB7 := HB6.out.trans (hb7.mono HB6.out.size)
       clear hb7)
    | ((with_reducible refine wpList_store_b rfl 30 _ _ rfl (w.heap.size + 1) Z ?hx ?hy 30 (List.replicate 32 0) hO6 (info32 HZL.out) ?hl ?hm); (case hx => rfl); (case hy => rfl); (case hl => rw [HZL.out]; rfl)
       intro w7 hg7 hX7 hs7
       have hB8 : Below w.heap.size w w7 := Below.grows hB7 hg7 hB7.size (Nat.le_succ _)))
  refine bodyPost_ret (v := .tuple #[.agg (idv Z), .bool true]) ?_ ?_ ?_
  · exact results_row_tmp Tryd.results11 _ _ _ (w.heap.size + 1) 30 _ (0, 0) rfl hX7.is Tryd.underlying30 (info32 HZL.out) _ rfl
  · rfl
  · exact ⟨rfl, hB8⟩
end Go.Proofs.YtcfkpepohnjdfaaDoor
