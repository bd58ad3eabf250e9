/- The walk over package mac's Tag: a tag by a key. -/
import Derived.Test.YtcfkpepohnjdfaaDoorMacBlock
import Derived.Test.YtcfkpepohnjdfaaDoorMacTurn
namespace Go.Proofs.YtcfkpepohnjdfaaDoor
open Go.RowKit

/-- append as one step of a region that draws its order: v the call's own, s with an address -/
theorem step_append_b {ops : Array Oper} {o : Oper} {a : Act} {w : World} {K : Act → World → Prop} {Q : Exit → Act → World → Prop} {E : Prop} (hgd : o.guard = none) (s x : Operand)
    (ho : o.op = .call { callee := .builtin .append, args := #[s, x], argTypes := #[23, 23] })
    (base : Nat) (v : Value) (l : List Int) (hs : a.eval s = v) (hown : Own w base v l) (ad : Addr) (m c : Nat) (l2 : List Int) (hx : a.eval x = .slice (some ad) m c) (hr : Bts w (some ad) m c l2)
    (hsmall : l.length + m ≤ 140737488355328) (hbase : base ≤ w.heap.size)
    (h : ∀ v' w', Own w' base v' (l ++ l2) → w.grownBy w' v.ownBlock → K (a.put o.dst v') w') : if Region.wanted o (yielded ops a.tmps) = true then Oper.wp Tryd.prog o a w K Q else E := by
  have hw : Region.wanted o (yielded ops a.tmps) = true := by simp [Region.wanted, hgd]
  rw [if_pos hw]
  obtain ⟨i, hi, hz, h1, h2⟩ := info_parts info_u8
  have hl2 : (byv l2).length = m * 1 := by rw [byv_length, hr.len, Nat.mul_one]
  refine wp_append_own (P := Tryd.prog) w s x 23 ho base 5 i (.int .u8 0) 1 1 Tryd.underlying23 hi hz h1 h2 rfl (by omega) v l.length (byv l) hs hown ad m c (byv l2) hx hl2 ?_ (byv_one l2) (by unfold maxLen; omega) (by omega) hbase ?_
  · intro j u hu
    have hj : j < l2.length := by
      have := (List.getElem?_eq_some_iff.1 hu).1
      rwa [byv_length] at this
    rw [byv_get l2 j hj] at hu
    obtain ⟨b, off, hA, hc⟩ := hr.at_ (by have := hr.len; omega)
    injection hA with hA
    subst hA
    have hadd : (⟨b, off, none⟩ : Addr).add j = ⟨b, off + j, none⟩ := by
      unfold Addr.add
      split
      · rename_i h0; subst h0; rfl
      · rfl
    rw [hadd, hc j (by have := hr.len; omega), hu]
  · intro v' w' hown' hg _
    refine h v' w' ?_ hg
    unfold Own
    rw [byv_append, List.length_append, hr.len]
    exact hown'

/-- the block of one captured slice -/
def CapAt (w : World) (C g : Nat) : Prop := w.heap[C]? = some (.cells #[.slice (some ⟨g, 0, none⟩) 64 64] 23 (0, 0))
theorem CapAt.lt {w : World} {C g : Nat} (h : CapAt w C g) : C < w.heap.size := (Array.getElem?_eq_some_iff.1 h).1
theorem CapAt.below {w w' : World} {C g : Nat} (h : CapAt w C g) (hb : Below w.heap.size w w') : CapAt w' C g := (hb.block C h.lt).trans h
theorem CapAt.grown {w w' : World} {C g : Nat} {row : Option Nat} (h : CapAt w C g) (hb : w.grownBy w' row) (hg : some C ≠ row) : CapAt w' C g := (hb.block C h.lt hg).trans h
theorem CapAt.draw1 {w : World} {C g : Nat} (h : CapAt w C g) : CapAt w.drew C g := h
set_option maxRecDepth 100000 in
set_option maxHeartbeats 1000000 in
theorem tag_any (A B : Option Addr) (n c m d : Nat) (key b : List Int) (w : World) (hK : KTab w) (hn : n ≤ 1048576) (hm : m ≤ 1048512) (hk : Bts w A n c key) (hb : Bts w B m d b) :
    Calls Tryd.prog 34 #[.slice A n c, .slice B m d] w fun e w' => e = .returned (.agg (idv (tagL key b))) ∧ Below w.heap.size w w' := by
  obtain ⟨X, hX⟩ : ∃ X, X = blockL key := ⟨_, rfl⟩
  have hXl : X.length = 64 := by rw [hX]; exact blockL_length _
  obtain ⟨U, hU⟩ : ∃ U, U = xorL 54 X := ⟨_, rfl⟩
  obtain ⟨V, hV⟩ : ∃ V, V = xorL 92 X := ⟨_, rfl⟩
  have hUl : U.length = 64 := by rw [hU]; exact xorL_length _ _
  have hVl : V.length = 64 := by rw [hV]; exact xorL_length _ _
  have hUo : ∀ j, 0 ≤ U.getD j 0 ∧ U.getD j 0 < 256 := by rw [hU]; exact ok_xor _ _
  have hVo : ∀ j, 0 ≤ V.getD j 0 ∧ V.getD j 0 < 256 := by rw [hV]; exact ok_xor _ _
  obtain ⟨I, hI⟩ : ∃ I, I = sumL (U ++ b) := ⟨_, rfl⟩
  have hIl : I.length = 32 := by rw [hI]; exact sumL_length _
  have hIo : ∀ j, 0 ≤ I.getD j 0 ∧ I.getD j 0 < 256 := by rw [hI]; exact ok_sum _
  obtain ⟨Z, hZ⟩ : ∃ Z, Z = sumL (V ++ I) := ⟨_, rfl⟩
  have hZl : Z.length = 32 := by rw [hZ]; exact sumL_length _
  have hfin : tagL key b = Z := by rw [hZ, hI, hU, hV, hX, tagL, innerL]
  have hZ32 : (byv Z).length = 32 := by rw [byv_length, hZl]
  have hone := byv_one Z
  have hi32 : (Tryd.prog.info? 30).map (·.size) = some 32 := by kernel_rfl
  rw [hfin]
  have HX := Lib.hid hX
  have HXL := Lib.hid hXl
  have HU := Lib.hid hU
  have HV := Lib.hid hV
  have HUL := Lib.hid hUl
  have HVL := Lib.hid hVl
  have HUO := Lib.hid hUo
  have HVO := Lib.hid hVo
  have HI := Lib.hid hI
  have HIL := Lib.hid hIl
  have HIO := Lib.hid hIo
  have HZ := Lib.hid hZ
  have HZL := Lib.hid hZl
  clear hX hXl hU hV hUl hVl hUo hVo hI hIl hIo hZ hZl hfin
  go_enter Tryd.func34, Tryd.ntmps34
  go_wp2_with (first
    | (go_at_call 38; refine (block_any A n c key _ (hK.from (mac_alloc _ _)) hn (hk.more _)).mono ?_; rintro e w1 ⟨rfl, hX1, hb1⟩
       rw [← HX.out] at hX1
       have hX1 := at_next hX1
       obtain ⟨hB1, hz1, hO1⟩ := after_one hb1
       have hO1 : RowB w1 w.heap.size 30 (List.replicate 32 0) := hO1
       have hlt1 := hX1.lt
       clear hb1)
    | (go_at_call 39; refine (turn_any 54 X w1.heap.size (w.heap.size + 1) _ HXL.out (heap_alloc_new w1 _) (hX1.more _)).mono ?_; rintro e w2 ⟨rfl, hY2, hb2⟩
       rw [← HU.out] at hY2
       have hY2 := at_next hY2
       have hC2 : CapAt w2 w1.heap.size (w.heap.size + 1) := (hb2.block _ (by simp)).trans (heap_alloc_new w1 _)
       obtain ⟨hD2, hz2, _⟩ := after_one hb2
       have hX2 := hX1.keep hD2
       have hO2 := hO1.keep hD2
       have hB2 : Below w.heap.size w w2 := hB1.trans (hD2.mono hB1.size)
       have hY2l := hY2.lt
       clear hb2 hD2)
    | (at_builtin
       refine wpList_append_b rfl (.tmp 12) (.tmp 13) rfl w.heap.size _ U rfl (hY2.own (by omega) HUL.out (by unfold maxLen; omega)) B m d b rfl (hb.below hB2) (by rw [HUL.out]; omega) hB2.size ?_
       intro v3 w3 hown3 hg3
       have hg3 : w2.grownBy w3 (some (w1.heap.size + 1)) := hg3
       have hB3 : Below w.heap.size w w3 := hB2.grown hg3 hB2.size (fun k hk => by injection hk with hk; omega)
       have hC3 := hC2.grown hg3 (ne_some (by omega))
       have hX3 := hX2.grown hg3 (ne_some (by omega))
       have hO3 := hO2.grown hg3 (ne_some (by omega))
       obtain ⟨A3, n3, c3, rfl, hbt3⟩ := hown3.slice (ok_append HUO.out hb.ok)
       have hn3 : n3 ≤ 1048576 := by have h1 := hbt3.len; rw [List.length_append, HUL.out, hb.len] at h1; omega
       clear hg3 hown3)
    | (go_at_call 40; refine (sum_yes A3 n3 c3 (U ++ b) w3 (hK.from hB3) hn3 hbt3).mono ?_; rintro e w4 ⟨he, hb4⟩
       rw [← HI.out] at he
       subst he
       have hB4 : Below w.heap.size w w4 := hB3.trans (hb4.mono hB3.size)
       have hC4 := hC3.below hb4
       have hX4 := hX3.keep hb4
       have hO4 := hO3.keep hb4
       have hC4l := hC4.lt
       have hX4l := hX4.lt
       have hO4l := hO4.lt
       clear hb4 hbt3)
    | ((with_reducible refine wpList_store_b rfl 30 _ _ rfl w4.heap.size I ?hx ?hy 30 (List.replicate 32 0) (rowb_lit w4 30 _ _ ?hz) (info32 HIL.out) ?hl ?hm); (case hx => rfl); (case hy => rfl); (case hz => rfl); (case hl => rw [HIL.out]; rfl)
       intro w5 hg5 hI5 hs5
       have hC5 : CapAt w5 w1.heap.size (w.heap.size + 1) := (show CapAt (w4.alloc _) w1.heap.size (w.heap.size + 1) from hC4.below (mac_alloc _ _)).grown hg5 (ne_some (by omega))
       have hX5 : RowB w5 (w.heap.size + 1) 5 X := (hX4.more _).grown hg5 (ne_some (by omega))
       have hO5 : RowB w5 w.heap.size 30 (List.replicate 32 0) := (hO4.more _).grown hg5 (ne_some (by omega))
       have hB5 : Below w.heap.size w w5 := Below.grows (hB4.alloc hB4.size _) hg5 (Nat.le_trans hB4.size (size_le_alloc _ _)) hB4.size
       clear hg5))
  clear hX1 hO1 hY2 hC2 hX2 hO2 hC3 hX3 hO3 hC4 hX4 hO4
  have hI5l := hI5.lt
  have e5 : w5.heap.size = w4.heap.size + 1 := by simpa using hs5
  go_region_held3 (fun _ => True) (first | trivial)
    (first
    | (go_at_call 39; refine (turn_any 92 X w1.heap.size (w.heap.size + 1) _ HXL.out hC5.draw1 hX5.draw1).mono ?_; rintro e w6 ⟨rfl, hY6, hb6⟩
       have hb6 := below_draw hb6
       have hY6 : RowB w6 w5.heap.size 5 (xorL 92 X) := hY6
       rw [← HV.out, e5] at hY6
       have hI6 := hI5.keep hb6
       have hO6 := hO5.keep hb6
       have hB6 : Below w.heap.size w w6 := hB5.trans (hb6.mono hB5.size)
       have hY6l := hY6.lt
       clear hb6)
    | (refine step_append_b rfl (.tmp 17) (.tmp 18) rfl w.heap.size _ V rfl (hY6.own (by omega) HVL.out (by unfold maxLen; omega)) ⟨w4.heap.size, 0, none⟩ 32 32 I rfl (hI6.btsAt HIL.out (by unfold maxLen; omega) HIO.out) (by rw [HVL.out]; omega) hB6.size ?_
       intro v7 w7 hown7 hg7
       have hg7 : w6.grownBy w7 (some (w4.heap.size + 1)) := hg7
       have hB7 : Below w.heap.size w w7 := hB6.grown hg7 hB6.size (fun k hk => by injection hk with hk; omega)
       have hO7 := hO6.grown hg7 (ne_some (by omega))
       obtain ⟨A7, n7, c7, rfl, hbt7⟩ := hown7.slice (ok_append HVO.out HIO.out)
       have hn7 : n7 ≤ 1048576 := by have h1 := hbt7.len; rw [List.length_append, HVL.out, HIL.out] at h1; omega
       clear hg7 hown7)
    | (go_at_call 40; refine (sum_yes A7 n7 c7 (V ++ I) w7 (hK.from hB7) hn7 hbt7).mono ?_; rintro e w8 ⟨he, hb8⟩
       rw [← HZ.out] at he
       subst he
       have hB8 : Below w.heap.size w w8 := hB7.trans (hb8.mono hB7.size)
       have hO8 := hO7.keep hb8
       have hT8 : w8.there w.heap.size 0 32 := there_of hO8 (by rw [idv_size]; rfl)
       clear hb8 hbt7))
  go_wp2
  refine bodyPost_ret (v := .agg (idv Z)) ?_ ?_ ?_
  · exact results_cell_row Tryd.results34 _ _ w.heap.size 30 (idv Z) (0, 0) _ rfl (setCells_all hO8 (by rw [hZ32, byv_length]; rfl)) Tryd.underlying30 rfl (info32 HZL.out)
  · rfl
  · exact ⟨rfl, setCells_below (Nat.le_refl _) _ _ _ hB8⟩
end Go.Proofs.YtcfkpepohnjdfaaDoor
