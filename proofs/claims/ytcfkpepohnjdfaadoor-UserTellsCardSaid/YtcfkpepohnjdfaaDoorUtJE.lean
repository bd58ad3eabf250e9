/- Joined texts: The walk over package mac's closure in Tag: the bytes of a block, each exclusive-or a number. The walk over package mac's Tag: a tag by a key. The walk over package mac's Derive: a key that is made of another one. Numbers as bytes, the highest byte first, as functions of lists. Numbers as bytes: which bytes stand ahead; the bytes of several numbers, and the numbers that bytes are cut into. The laws' arguments, opened: a slice of numbers. The laws' arguments, opened: a slice of bytes. The walks over package num's isSize, fits and Put: a number's bytes. The walk over package num's Get: the number of some bytes. What the walks over package num's laws, and others, share: pieces of bytes, numbers that fit; what a call gives. -/
import Derived.Test.YtcfkpepohnjdfaaDoorUtJD
import Derived.Lib.AppendStr
import Derived.Laws.ResultCell
import GoSem.Claim
import Derived.Test.YtcfkpepohnjdfaaDoorUtJA
import Derived.Test.YtcfkpepohnjdfaaDoorUtJB
import Derived.ProofKit
import Derived.OpenShut
import Derived.Deep.DeepHandedRow
import Derived.WalkMore
import Derived.ScopeJumps
/- The walk over package mac's closure in Tag: the bytes of a block, each exclusive-or a number. -/
namespace Go.Proofs.YtcfkpepohnjdfaaDoor
open Go.RowKit

set_option maxHeartbeats 1000000 in
theorem turn_any (x : Int) (l : List Int) (C g : Nat) (w : World) (hl : l.length = 64) (hC : w.heap[C]? = some (.cells #[.slice (some ⟨g, 0, none⟩) 64 64] 23 (0, 0))) (hg : RowB w g 5 l) :
    Calls Tryd.prog 39 #[.int .u8 x, .pointer (some ⟨C, 0, none⟩)] w fun e w' => e = .returned (.slice (some ⟨w.heap.size, 0, none⟩) 64 64) ∧ RowB w' w.heap.size 5 (xorL x l) ∧ Below w.heap.size w w' := by
  have hCl := (Array.getElem?_eq_some_iff.1 hC).1
  have hgl := hg.lt
  have hc0 : w.cell? ⟨C, 0, none⟩ = some (.slice (some ⟨g, 0, none⟩) 64 64) := cell_of_row _ _ 0 _ _ _ hC
  have HLN := Lib.hid hl
  clear hl
  go_enter Tryd.func39, Tryd.ntmps39
  go_wp2_with (at_make; refine wpList_make_n rfl _ _ rfl 64 64 64 rfl rfl rfl rfl (by omega) ?_; intro w1 hX1 hg1 hs1)
  have hB1 : Below w.heap.size w w1 := (Below.refl _ _).grown hg1 (Nat.le_refl _) (fun k hk => by cases hk)
  go_loopw [11] (fun i wr => ∃ k : Nat, k ≤ 64 ∧ i = .int .i64 k ∧ RowB wr w.heap.size 5 (fillTo (xorAt x l) 64 k) ∧ Below w.heap.size w wr) (fun i _ => 64 - (intOf i).toNat)
  case atStart => exact ⟨0, by omega, rfl, hX1, hB1⟩
  case round =>
    clear hX1 hg1 hs1 hB1
    obtain ⟨k, hk, rfl, hX, hB⟩ := hrel
    have hXl := fillTo_length (xorAt x l) 64 k
    by_cases hlt : k < 64
    · have hcr := (hB.cell (p := ⟨C, 0, none⟩) hCl).trans hc0
      have hgr := (hg.below hB hgl).cell k (by rw [HLN.out]; exact hlt)
      have hXc := hX.cell k (by rw [hXl]; exact hlt)
      have hXf := hX.free k
      have hXs := hX.lt
      have hnext : fillTo (xorAt x l) 64 (k + 1) = (fillTo (xorAt x l) 64 k).set k (xorAt x l k) := rfl
      obtain ⟨y, hy⟩ : ∃ y, y = l.getD k 0 := ⟨_, rfl⟩
      rw [← hy] at hgr
      have hval : xorAt x l k = bits .xor .u8 y x := by rw [xorAt, hy]
      rw [hval] at hnext
      have HN := Lib.hid hnext
      clear hy hnext hval hXl
      go_wp2
      go_roundw
      case rel =>
        refine ⟨k + 1, by omega, by go_num, ?_, ?_⟩
        · rw [HN.out]; exact hX.put k _
        · exact hB.setCell (p := ⟨w.heap.size, k, none⟩) (by simp) _
      case measure => simp [intOf]; omega
    · have hge : 64 ≤ k := by omega
      have h64 : k = 64 := by omega
      rw [h64] at hX
      rw [fillTo_all] at hX
      have HX := Lib.hid hX
      clear hX hXl h64 hk hlt
      go_wp2
      go_ret
      exact ⟨rfl, HX.out, hB⟩
end Go.Proofs.YtcfkpepohnjdfaaDoor

/- The walk over package mac's Tag: a tag by a key. -/
namespace Go.Proofs.YtcfkpepohnjdfaaDoor
open Go.RowKit

/-- append as one step of a region that draws its order: v the call's own, s with an address -/
theorem step_append_b {ops : Array Oper} {o : Oper} {a : Act} {w : World} {K : Act → World → Prop} {Q : Exit → Act → World → Prop} {E : Prop} (hgd : o.guard = none) (s x : Operand)
    (ho : o.op = .call { callee := .builtin .append, args := #[s, x], argTypes := #[23, 23] })
    (base : Nat) (v : Value) (l : List Int) (hs : a.eval s = v) (hown : Own w base v l) (ad : Addr) (m c : Nat) (l2 : List Int) (hx : a.eval x = .slice (some ad) m c) (hr : Bts w (some ad) m c l2)
    (hsmall : l.length + m ≤ 140737488355328) (hbase : base ≤ w.heap.size)
    (h : ∀ v' w', Own w' base v' (l ++ l2) → w.grownBy w' v.ownBlock → K (a.put o.dst v') w') : if Region.wanted o (yielded ops a.tmps) = true then Oper.wp Tryd.prog o a w K Q else E := by
  have hw : Region.wanted o (yielded ops a.tmps) = true := by simp [Region.wanted, hgd]
  rw [if_pos hw]
  obtain ⟨i, hi, hz, h1, h2⟩ := info_parts info_u8
  have hl2 : (byv l2).length = m * 1 := by rw [byv_length, hr.len, Nat.mul_one]
  refine wp_append_own (P := Tryd.prog) w s x 23 ho base 5 i (.int .u8 0) 1 1 Tryd.underlying23 hi hz h1 h2 rfl (by omega) v l.length (byv l) hs hown ad m c (byv l2) hx hl2 ?_ (byv_one l2) (by unfold maxLen; omega) (by omega) hbase ?_
  · intro j u hu
    have hj : j < l2.length := by
      have := (List.getElem?_eq_some_iff.1 hu).1
      rwa [byv_length] at this
    rw [byv_get l2 j hj] at hu
    obtain ⟨b, off, hA, hc⟩ := hr.at_ (by have := hr.len; omega)
    injection hA with hA
    subst hA
    have hadd : (⟨b, off, none⟩ : Addr).add j = ⟨b, off + j, none⟩ := by
      unfold Addr.add
      split
      · rename_i h0; subst h0; rfl
      · rfl
    rw [hadd, hc j (by have := hr.len; omega), hu]
  · intro v' w' hown' hg _
    refine h v' w' ?_ hg
    unfold Own
    rw [byv_append, List.length_append, hr.len]
    exact hown'

/-- the block of one captured slice -/
def CapAt (w : World) (C g : Nat) : Prop := w.heap[C]? = some (.cells #[.slice (some ⟨g, 0, none⟩) 64 64] 23 (0, 0))
theorem CapAt.lt {w : World} {C g : Nat} (h : CapAt w C g) : C < w.heap.size := (Array.getElem?_eq_some_iff.1 h).1
theorem CapAt.below {w w' : World} {C g : Nat} (h : CapAt w C g) (hb : Below w.heap.size w w') : CapAt w' C g := (hb.block C h.lt).trans h
theorem CapAt.grown {w w' : World} {C g : Nat} {row : Option Nat} (h : CapAt w C g) (hb : w.grownBy w' row) (hg : some C ≠ row) : CapAt w' C g := (hb.block C h.lt hg).trans h
theorem CapAt.draw1 {w : World} {C g : Nat} (h : CapAt w C g) : CapAt w.drew C g := h
set_option maxRecDepth 100000 in
set_option maxHeartbeats 1000000 in
theorem tag_any (A B : Option Addr) (n c m d : Nat) (key b : List Int) (w : World) (hK : KTab w) (hn : n ≤ 1048576) (hm : m ≤ 1048512) (hk : Bts w A n c key) (hb : Bts w B m d b) :
    Calls Tryd.prog 34 #[.slice A n c, .slice B m d] w fun e w' => e = .returned (.agg (idv (tagL key b))) ∧ Below w.heap.size w w' := by
  obtain ⟨X, hX⟩ : ∃ X, X = blockL key := ⟨_, rfl⟩
  have hXl : X.length = 64 := by rw [hX]; exact blockL_length _
  obtain ⟨U, hU⟩ : ∃ U, U = xorL 54 X := ⟨_, rfl⟩
  obtain ⟨V, hV⟩ : ∃ V, V = xorL 92 X := ⟨_, rfl⟩
  have hUl : U.length = 64 := by rw [hU]; exact xorL_length _ _
  have hVl : V.length = 64 := by rw [hV]; exact xorL_length _ _
  have hUo : ∀ j, 0 ≤ U.getD j 0 ∧ U.getD j 0 < 256 := by rw [hU]; exact ok_xor _ _
  have hVo : ∀ j, 0 ≤ V.getD j 0 ∧ V.getD j 0 < 256 := by rw [hV]; exact ok_xor _ _
  obtain ⟨I, hI⟩ : ∃ I, I = sumL (U ++ b) := ⟨_, rfl⟩
  have hIl : I.length = 32 := by rw [hI]; exact sumL_length _
  have hIo : ∀ j, 0 ≤ I.getD j 0 ∧ I.getD j 0 < 256 := by rw [hI]; exact ok_sum _
  obtain ⟨Z, hZ⟩ : ∃ Z, Z = sumL (V ++ I) := ⟨_, rfl⟩
  have hZl : Z.length = 32 := by rw [hZ]; exact sumL_length _
  have hfin : tagL key b = Z := by rw [hZ, hI, hU, hV, hX, tagL, innerL]
  have hZ32 : (byv Z).length = 32 := by rw [byv_length, hZl]
  have hone := byv_one Z
  have hi32 : (Tryd.prog.info? 30).map (·.size) = some 32 := by kernel_rfl
  rw [hfin]
  have HX := Lib.hid hX
  have HXL := Lib.hid hXl
  have HU := Lib.hid hU
  have HV := Lib.hid hV
  have HUL := Lib.hid hUl
  have HVL := Lib.hid hVl
  have HUO := Lib.hid hUo
  have HVO := Lib.hid hVo
  have HI := Lib.hid hI
  have HIL := Lib.hid hIl
  have HIO := Lib.hid hIo
  have HZ := Lib.hid hZ
  have HZL := Lib.hid hZl
  clear hX hXl hU hV hUl hVl hUo hVo hI hIl hIo hZ hZl hfin
  go_enter Tryd.func34, Tryd.ntmps34
  go_wp2_with (first
    | (go_at_call 38; refine (block_any A n c key _ (hK.from (mac_alloc _ _)) hn (hk.more _)).mono ?_; rintro e w1 ⟨rfl, hX1, hb1⟩
       rw [← HX.out] at hX1
       have hX1 := at_next hX1
       obtain ⟨hB1, hz1, hO1⟩ := after_one hb1
       have hO1 : RowB w1 w.heap.size 30 (List.replicate 32 0) := hO1
       have hlt1 := hX1.lt
       clear hb1)
    | (go_at_call 39; refine (turn_any 54 X w1.heap.size (w.heap.size + 1) _ HXL.out (heap_alloc_new w1 _) (hX1.more _)).mono ?_; rintro e w2 ⟨rfl, hY2, hb2⟩
       rw [← HU.out] at hY2
       have hY2 := at_next hY2
       have hC2 : CapAt w2 w1.heap.size (w.heap.size + 1) := (hb2.block _ (by simp)).trans (heap_alloc_new w1 _)
       obtain ⟨hD2, hz2, _⟩ := after_one hb2
       have hX2 := hX1.keep hD2
       have hO2 := hO1.keep hD2
       have hB2 : Below w.heap.size w w2 := hB1.trans (hD2.mono hB1.size)
       have hY2l := hY2.lt
       clear hb2 hD2)
    | (at_builtin
       refine wpList_append_b rfl (.tmp 12) (.tmp 13) rfl w.heap.size _ U rfl (hY2.own (by omega) HUL.out (by unfold maxLen; omega)) B m d b rfl (hb.below hB2) (by rw [HUL.out]; omega) hB2.size ?_
       intro v3 w3 hown3 hg3
       have hg3 : w2.grownBy w3 (some (w1.heap.size + 1)) := hg3
       have hB3 : Below w.heap.size w w3 := hB2.grown hg3 hB2.size (fun k hk => by injection hk with hk; omega)
       have hC3 := hC2.grown hg3 (ne_some (by omega))
       have hX3 := hX2.grown hg3 (ne_some (by omega))
       have hO3 := hO2.grown hg3 (ne_some (by omega))
       obtain ⟨A3, n3, c3, rfl, hbt3⟩ := hown3.slice (ok_append HUO.out hb.ok)
       have hn3 : n3 ≤ 1048576 := by have h1 := hbt3.len; rw [List.length_append, HUL.out, hb.len] at h1; omega
       clear hg3 hown3)
    | (go_at_call 40; refine (sum_yes A3 n3 c3 (U ++ b) w3 (hK.from hB3) hn3 hbt3).mono ?_; rintro e w4 ⟨he, hb4⟩
       rw [← HI.out] at he
       subst he
       have hB4 : Below w.heap.size w w4 := hB3.trans (hb4.mono hB3.size)
       have hC4 := hC3.below hb4
       have hX4 := hX3.keep hb4
       have hO4 := hO3.keep hb4
       have hC4l := hC4.lt
       have hX4l := hX4.lt
       have hO4l := hO4.lt
       clear hb4 hbt3)
    | ((with_reducible refine wpList_store_b rfl 30 _ _ rfl w4.heap.size I ?hx ?hy 30 (List.replicate 32 0) (rowb_lit w4 30 _ _ ?hz) (info32 HIL.out) ?hl ?hm); (case hx => rfl); (case hy => rfl); (case hz => rfl); (case hl => rw [HIL.out]; rfl)
       intro w5 hg5 hI5 hs5
       have hC5 : CapAt w5 w1.heap.size (w.heap.size + 1) := (show CapAt (w4.alloc _) w1.heap.size (w.heap.size + 1) from hC4.below (mac_alloc _ _)).grown hg5 (ne_some (by omega))
       have hX5 : RowB w5 (w.heap.size + 1) 5 X := (hX4.more _).grown hg5 (ne_some (by omega))
       have hO5 : RowB w5 w.heap.size 30 (List.replicate 32 0) := (hO4.more _).grown hg5 (ne_some (by omega))
       have hB5 : Below w.heap.size w w5 := Below.grows (hB4.alloc hB4.size _) hg5 (Nat.le_trans hB4.size (size_le_alloc _ _)) hB4.size
       clear hg5))
  clear hX1 hO1 hY2 hC2 hX2 hO2 hC3 hX3 hO3 hC4 hX4 hO4
  have hI5l := hI5.lt
  have e5 : w5.heap.size = w4.heap.size + 1 := by simpa using hs5
  go_region_held3 (fun _ => True) (first | trivial)
    (first
    | (go_at_call 39; refine (turn_any 92 X w1.heap.size (w.heap.size + 1) _ HXL.out hC5.draw1 hX5.draw1).mono ?_; rintro e w6 ⟨rfl, hY6, hb6⟩
       have hb6 := below_draw hb6
       have hY6 : RowB w6 w5.heap.size 5 (xorL 92 X) := hY6
       rw [← HV.out, e5] at hY6
       have hI6 := hI5.keep hb6
       have hO6 := hO5.keep hb6
       have hB6 : Below w.heap.size w w6 := hB5.trans (hb6.mono hB5.size)
       have hY6l := hY6.lt
       clear hb6)
    | (refine step_append_b rfl (.tmp 17) (.tmp 18) rfl w.heap.size _ V rfl (hY6.own (by omega) HVL.out (by unfold maxLen; omega)) ⟨w4.heap.size, 0, none⟩ 32 32 I rfl (hI6.btsAt HIL.out (by unfold maxLen; omega) HIO.out) (by rw [HVL.out]; omega) hB6.size ?_
       intro v7 w7 hown7 hg7
       have hg7 : w6.grownBy w7 (some (w4.heap.size + 1)) := hg7
       have hB7 : Below w.heap.size w w7 := hB6.grown hg7 hB6.size (fun k hk => by injection hk with hk; omega)
       have hO7 := hO6.grown hg7 (ne_some (by omega))
       obtain ⟨A7, n7, c7, rfl, hbt7⟩ := hown7.slice (ok_append HVO.out HIO.out)
       have hn7 : n7 ≤ 1048576 := by have h1 := hbt7.len; rw [List.length_append, HVL.out, HIL.out] at h1; omega
       clear hg7 hown7)
    | (go_at_call 40; refine (sum_yes A7 n7 c7 (V ++ I) w7 (hK.from hB7) hn7 hbt7).mono ?_; rintro e w8 ⟨he, hb8⟩
       rw [← HZ.out] at he
       subst he
       have hB8 : Below w.heap.size w w8 := hB7.trans (hb8.mono hB7.size)
       have hO8 := hO7.keep hb8
       have hT8 : w8.there w.heap.size 0 32 := there_of hO8 (by rw [idv_size]; rfl)
       clear hb8 hbt7))
  go_wp2
  refine bodyPost_ret (v := .agg (idv Z)) ?_ ?_ ?_
  · exact results_cell_row Tryd.results34 _ _ w.heap.size 30 (idv Z) (0, 0) _ rfl (setCells_all hO8 (by rw [hZ32, byv_length]; rfl)) Tryd.underlying30 rfl (info32 HZL.out)
  · rfl
  · exact ⟨rfl, setCells_below (Nat.le_refl _) _ _ _ hB8⟩
end Go.Proofs.YtcfkpepohnjdfaaDoor

/- The walk over package mac's Derive: a key that is made of another one. -/
namespace Go.Proofs.YtcfkpepohnjdfaaDoor
open Go.RowKit

set_option maxRecDepth 100000 in
set_option maxHeartbeats 1000000 in
theorem derive_yes (A B : Option Addr) (n c m d : Nat) (key b : List Int) (s : ByteArray) (w : World) (hK : KTab w) (hn : n ≤ 1048576) (hm : m ≤ 1048000) (hk : Bts w A n c key) (hb : Bts w B m d b) (h0 : 0 < s.size) (h1 : s.size ≤ 32) :
    Calls Tryd.prog 23 #[.slice A n c, .string s, .slice B m d] w fun e w' => e = .returned (.tuple #[.agg (idv (tagL key (labelL (strL s) b))), .bool true]) ∧ Below w.heap.size w w' := by
  obtain ⟨L, hL⟩ : ∃ L, L = [(s.size : Int)] ++ strL s := ⟨_, rfl⟩
  have hLl : L.length = 1 + s.size := by rw [hL, List.length_append, strL_length]; simp
  have hLo : ∀ j, 0 ≤ L.getD j 0 ∧ L.getD j 0 < 256 := by rw [hL]; exact ok_append (ok_one1 _ (by omega) (by omega)) (strL_ok s)
  obtain ⟨Z, hZ⟩ : ∃ Z, Z = tagL key (L ++ b) := ⟨_, rfl⟩
  have hZl : Z.length = 32 := by rw [hZ, tagL]; exact sumL_length _
  have hfin : tagL key (labelL (strL s) b) = Z := by rw [hZ, labelL, strL_length, hL]
  have he : s.toList.isEmpty = false := by rw [str_empty, decide_eq_false_iff_not]; omega
  have h2 : (s.size : Int) ≤ 32 := by omega
  have h3 : decide (32 < (s.size : Int)) = false := by rw [decide_eq_false_iff_not]; omega
  rw [hfin]
  have HL := Lib.hid hL
  have HLL := Lib.hid hLl
  have HLO := Lib.hid hLo
  have HZ := Lib.hid hZ
  have HZL := Lib.hid hZl
  clear hL hLl hLo hZ hZl hfin
  go_enter Tryd.func23, Tryd.ntmps23
  go_wp2_with (first
    | (at_builtin
       refine wpList_append_str rfl (.tmp 20) (.tmp 21) rfl (w.heap.size + 1) _ [(s.size : Int)] rfl (one_own_next w _ _) s rfl (by simp only [List.length_cons, List.length_nil]; omega) (size_two w _ _).1 ?_
       intro v1 w1 hown1 hg1
       have hg1 : ((w.alloc _).alloc _).grownBy w1 (some (w.heap.size + 1)) := hg1
       rw [← HL.out] at hown1
       have hB1 : Below w.heap.size w w1 := (two_below w _ _).grown hg1 (Nat.le_of_lt (size_two w _ _).2) (fun k hk => by injection hk with hk; omega)
       have hO1 : RowB w1 w.heap.size 30 (List.replicate 32 0) := (hg1.block w.heap.size (size_two w _ _).2 (ne_some (by omega))).trans (heap_alloc2_old w _ _)
       have hv1 := hown1.size
       clear hg1)
    | (at_builtin
       refine wpList_append_b rfl (.tmp 24) (.tmp 25) rfl (w.heap.size + 1) _ L rfl hown1 B m d b rfl (hb.below hB1) (by rw [HLL.out]; omega) hO1.lt ?_
       intro v2 w2 hown2 hg2
       have hB2 : Below w.heap.size w w2 := hB1.grown hg2 hB1.size (fun k hk => by have := (hv1 k hk).1; omega)
       have hO2 : RowB w2 w.heap.size 30 (List.replicate 32 0) := hO1.grown hg2 (fun e => by have := (hv1 _ e.symm).1; omega)
       obtain ⟨A2, n2, c2, rfl, hbt2⟩ := hown2.slice (ok_append HLO.out hb.ok)
       have hn2 : n2 ≤ 1048512 := by have h1 := hbt2.len; rw [List.length_append, HLL.out, hb.len] at h1; omega
       clear hg2 hown2 hown1 hv1)
    | (go_at_call 34; refine (tag_any A A2 n c n2 c2 key (L ++ b) w2 (hK.from hB2) hn hn2 (hk.below hB2) hbt2).mono ?_; rintro e w3 ⟨he, hb3⟩
       rw [← HZ.out] at he
       subst he
       have hO3 := hO2.keep hb3
       have hB3 : Below w.heap.size w w3 := hB2.trans (hb3.mono hB2.size)
       clear hb3)
    | ((with_reducible refine wpList_store_b rfl 30 _ _ rfl w.heap.size Z ?hx ?hy 30 (List.replicate 32 0) hO3 (info32 HZL.out) ?hl ?hm); (case hx => rfl); (case hy => rfl); (case hl => rw [HZL.out]; rfl)
       intro w6 hg6 hX6 hs6
       have hB6 : Below w.heap.size w w6 := Below.grows hB3 hg6 hB3.size (Nat.le_refl _)))
  refine bodyPost_ret (v := .tuple #[.agg (idv Z), .bool true]) ?_ ?_ ?_
  · exact results_row_tmp Tryd.results23 _ _ _ w.heap.size 30 _ (0, 0) rfl hX6.is Tryd.underlying30 (info32 HZL.out) _ rfl
  · rfl
  · exact ⟨rfl, hB6⟩

set_option maxHeartbeats 1000000 in
theorem derive_no (A B : Option Addr) (n c m d : Nat) (s : ByteArray) (w : World) (hs : s.size ≤ 9223372036854775807) (h1 : s.size = 0 ∨ 32 < s.size) :
    Calls Tryd.prog 23 #[.slice A n c, .string s, .slice B m d] w fun e w' => e = .returned (.tuple #[.agg (idv (List.replicate 32 0)), .bool false]) ∧ Below w.heap.size w w' := by
  rcases h1 with h0 | h0
  · have he : s.toList.isEmpty = true := by rw [str_empty, decide_eq_true_eq]; exact h0
    go_enter Tryd.func23, Tryd.ntmps23
    go_wp2_with (first | ((with_reducible refine wpList_store_b rfl 30 _ _ rfl w.heap.size (List.replicate 32 0) ?hx7 ?hy7 30 (List.replicate 32 0) (rowb_lit w 30 _ _ ?hz7) (info32 rfl) ?hl7 ?_); (case hx7 => rfl); (case hy7 => rfl); (case hz7 => rfl); (case hl7 => rfl); intro w6 hg6 hX6 hs6; have hB6 : Below w.heap.size w w6 := Below.grows (mac_alloc _ _) hg6 (size_le_alloc _ _) (Nat.le_refl _)))
    refine bodyPost_ret (v := .tuple #[.agg (idv (List.replicate 32 0)), .bool false]) ?_ ?_ ?_
    · exact results_row_tmp Tryd.results23 _ _ _ w.heap.size 30 _ (0, 0) rfl hX6.is Tryd.underlying30 (info32 rfl) _ rfl
    · rfl
    · exact ⟨rfl, hB6⟩
  · have he : s.toList.isEmpty = false := by rw [str_empty, decide_eq_false_iff_not]; omega
    have h2 : (32 : Int) < s.size := by omega
    go_enter Tryd.func23, Tryd.ntmps23
    go_wp2_with (first | ((with_reducible refine wpList_store_b rfl 30 _ _ rfl w.heap.size (List.replicate 32 0) ?ghx8 ?ghy8 30 (List.replicate 32 0) (rowb_lit w 30 _ _ ?ghz8) (info32 rfl) ?ghl8 ?_); (case ghx8 => rfl); (case ghy8 => rfl); (case ghz8 => rfl); (case ghl8 => rfl); intro w6 hg6 hX6 hs6; have hB6 : Below w.heap.size w w6 := Below.grows (mac_alloc _ _) hg6 (size_le_alloc _ _) (Nat.le_refl _)))
    refine bodyPost_ret (v := .tuple #[.agg (idv (List.replicate 32 0)), .bool false]) ?_ ?_ ?_
    · exact results_row_tmp Tryd.results23 _ _ _ w.heap.size 30 _ (0, 0) rfl hX6.is Tryd.underlying30 (info32 rfl) _ rfl
    · rfl
    · exact ⟨rfl, hB6⟩
end Go.Proofs.YtcfkpepohnjdfaaDoor

/- Numbers as bytes, the highest byte first, as functions of lists. -/
namespace Go.Proofs.YtcfkpepohnjdfaaDoor
open Go

/-- the byte of N at place i of k -/
def putAt (N k i : Nat) : Int := ((N / 256 ^ (k - 1 - i) % 256 : Nat) : Int)
def putL (N k : Nat) : List Int := (List.range k).map (putAt N k)
/-- the number of bytes -/
def numOf : List Int → Nat → Nat
  | [], a => a
  | x :: l, a => numOf l (256 * a + x.toNat)
def numL (l : List Int) : Nat := numOf l 0
/-- filled from behind: the last j bytes are set -/
def fillBack (N k : Nat) : Nat → List Int
  | 0 => List.replicate k 0
  | j + 1 => (fillBack N k j).set (k - 1 - j) ((N / 256 ^ j % 256 : Nat) : Int)

theorem putL_length (N k : Nat) : (putL N k).length = k := by simp [putL]
theorem putAt_ok (N k i : Nat) : 0 ≤ putAt N k i ∧ putAt N k i < 256 := by unfold putAt; omega
theorem fillBack_length (N k j : Nat) : (fillBack N k j).length = k := by
  induction j with
  | zero => simp [fillBack]
  | succ j ih => simp [fillBack, ih]
theorem fillBack_get (N k j i : Nat) (hj : j ≤ k) (hi : i < k) : (fillBack N k j)[i]? = some (if k - j ≤ i then putAt N k i else 0) := by
  induction j with
  | zero => simp [fillBack, hi]; omega
  | succ j ih =>
    have ih := ih (by omega)
    rw [fillBack, List.getElem?_set, fillBack_length]
    by_cases h : k - 1 - j = i
    · rw [if_pos h, if_pos (by omega), if_pos (by omega)]
      subst h
      rw [putAt, show k - 1 - (k - 1 - j) = j by omega]
    · rw [if_neg h, ih]
      by_cases h2 : k - j ≤ i
      · rw [if_pos h2, if_pos (by omega)]
      · rw [if_neg h2, if_neg (by omega)]
theorem fillBack_all (N k : Nat) : fillBack N k k = putL N k := by
  apply List.ext_getElem?
  intro i
  by_cases hi : i < k
  · rw [fillBack_get N k k i (Nat.le_refl _) hi, if_pos (by omega)]
    simp [putL, hi]
  · rw [List.getElem?_eq_none (by rw [fillBack_length]; omega), List.getElem?_eq_none (by rw [putL_length]; omega)]

theorem numOf_append (l m : List Int) (a : Nat) : numOf (l ++ m) a = numOf m (numOf l a) := by
  induction l generalizing a with
  | nil => rfl
  | cons x l ih => rw [List.cons_append, numOf, numOf, ih]
theorem numOf_bound (l : List Int) (hl : ∀ x ∈ l, 0 ≤ x ∧ x < 256) (a : Nat) : numOf l a < (a + 1) * 256 ^ l.length := by
  induction l generalizing a with
  | nil => simp [numOf]
  | cons x l ih =>
    have hx := hl x (by simp)
    have h := ih (fun y hy => hl y (by simp [hy])) (256 * a + x.toNat)
    rw [numOf, List.length_cons, Nat.pow_succ]
    refine Nat.lt_of_lt_of_le h ?_
    have : 256 * a + x.toNat + 1 ≤ (a + 1) * 256 := by omega
    calc (256 * a + x.toNat + 1) * 256 ^ l.length ≤ ((a + 1) * 256) * 256 ^ l.length := Nat.mul_le_mul_right _ this
      _ = (a + 1) * (256 ^ l.length * 256) := by rw [Nat.mul_assoc, Nat.mul_comm 256]
theorem numL_bound (l : List Int) (hl : ∀ x ∈ l, 0 ≤ x ∧ x < 256) : numL l < 256 ^ l.length := by
  have := numOf_bound l hl 0
  simpa [numL] using this
theorem putL_succ (N k : Nat) : putL N (k + 1) = putL (N / 256) k ++ [((N % 256 : Nat) : Int)] := by
  rw [putL, putL, List.range_succ, List.map_append]
  congr 1
  · apply List.map_congr_left
    intro i hi
    have hi : i < k := List.mem_range.1 hi
    rw [putAt, putAt, Nat.div_div_eq_div_mul, show k + 1 - 1 - i = (k - 1 - i) + 1 by omega, Nat.pow_succ, Nat.mul_comm]
  · simp [putAt]
/-- what is put is got -/
theorem num_put (N k : Nat) (h : N < 256 ^ k) : numL (putL N k) = N := by
  induction k generalizing N with
  | zero => simp at h; subst h; rfl
  | succ k ih =>
    have h2 : N / 256 < 256 ^ k := by
      rw [Nat.div_lt_iff_lt_mul (by omega)]
      rw [Nat.pow_succ] at h
      exact h
    have := ih (N / 256) h2
    rw [putL_succ, numL, numOf_append]
    rw [numL] at this
    rw [this]
    simp only [numOf]
    omega
theorem numOf_snoc (l : List Int) (x : Int) (a : Nat) : numOf (l ++ [x]) a = 256 * numOf l a + x.toNat := by
  rw [numOf_append]; rfl
/-- what is got is put as the same bytes -/
theorem put_num (l : List Int) (hl : ∀ x ∈ l, 0 ≤ x ∧ x < 256) : putL (numL l) l.length = l := by
  obtain ⟨k, hk⟩ : ∃ k, k = l.length := ⟨_, rfl⟩
  induction k generalizing l with
  | zero =>
    have : l = [] := List.eq_nil_of_length_eq_zero hk.symm
    subst this
    rfl
  | succ k ih =>
    have hne : l ≠ [] := by intro h; subst h; simp at hk
    obtain ⟨m, x, rfl⟩ : ∃ m x, l = m ++ [x] := ⟨l.dropLast, l.getLast hne, (List.dropLast_concat_getLast hne).symm⟩
    have hm : m.length = k := by simp at hk; omega
    have hx := hl x (by simp)
    have h := ih m (fun y hy => hl y (by simp [hy])) hm.symm
    rw [List.length_append, List.length_cons, List.length_nil, Nat.zero_add, hm, putL_succ, numL, numOf_snoc]
    rw [numL, hm] at h
    rw [show (256 * numOf m 0 + x.toNat) / 256 = numOf m 0 by omega, h, show (256 * numOf m 0 + x.toNat) % 256 = x.toNat by omega]
    congr 2
    omega
end Go.Proofs.YtcfkpepohnjdfaaDoor

/- Numbers as bytes: which bytes stand ahead; the bytes of several numbers, and the numbers that bytes are cut into. -/
namespace Go.Proofs.YtcfkpepohnjdfaaDoor
open Go

theorem numOf_eq (l : List Int) (a : Nat) : numOf l a = a * 256 ^ l.length + numL l := by
  induction l generalizing a with
  | nil => simp [numOf, numL]
  | cons x l ih =>
    rw [numL, numOf, numOf, ih (256 * a + x.toNat), ih (256 * 0 + x.toNat), List.length_cons, Nat.pow_succ]
    rw [Nat.add_mul, Nat.add_mul, Nat.mul_comm 256 a, Nat.mul_assoc, Nat.mul_comm 256 (256 ^ l.length)]
    omega
theorem numL_cons (x : Int) (l : List Int) : numL (x :: l) = x.toNat * 256 ^ l.length + numL l := by
  rw [numL, numOf, numOf_eq, Nat.mul_zero, Nat.zero_add]
def u8s (l : List Int) : List UInt8 := l.map fun n => UInt8.ofNat n.toNat
theorem u8_lt (x y : Int) (hx : 0 ≤ x ∧ x < 256) (hy : 0 ≤ y ∧ y < 256) : (UInt8.ofNat x.toNat < UInt8.ofNat y.toNat) ↔ x < y := by
  rw [UInt8.lt_iff_toNat_lt]
  simp only [UInt8.toNat_ofNat']
  omega
theorem u8_eq (x y : Int) (hx : 0 ≤ x ∧ x < 256) (hy : 0 ≤ y ∧ y < 256) : (UInt8.ofNat x.toNat = UInt8.ofNat y.toNat) ↔ x = y := by
  rw [← UInt8.toNat_inj]
  simp only [UInt8.toNat_ofNat']
  omega
/-- of as many bytes the lesser number's stand ahead -/
theorem less_num (l m : List Int) (h : l.length = m.length) (hl : ∀ x ∈ l, 0 ≤ x ∧ x < 256) (hm : ∀ x ∈ m, 0 ≤ x ∧ x < 256) : Op.bytesLess (u8s l) (u8s m) = decide (numL l < numL m) := by
  induction l generalizing m with
  | nil =>
    cases m with
    | nil => simp [u8s, Op.bytesLess]
    | cons y m => simp at h
  | cons x l ih =>
    cases m with
    | nil => simp at h
    | cons y m =>
      have hlen : l.length = m.length := by simpa using h
      have hx := hl x (by simp)
      have hy := hm y (by simp)
      have hl' : ∀ z ∈ l, 0 ≤ z ∧ z < 256 := fun z hz => hl z (by simp [hz])
      have hm' : ∀ z ∈ m, 0 ≤ z ∧ z < 256 := fun z hz => hm z (by simp [hz])
      have ih := ih m hlen hl' hm'
      have bl := numL_bound l hl'
      have bm := numL_bound m hm'
      rw [hlen] at bl
      rw [numL_cons, numL_cons, hlen]
      show (decide (UInt8.ofNat x.toNat < UInt8.ofNat y.toNat) || (UInt8.ofNat x.toNat == UInt8.ofNat y.toNat && Op.bytesLess (u8s l) (u8s m))) = _
      rw [ih]
      generalize 256 ^ m.length = P at bl bm ⊢
      generalize numL l = a at bl ⊢
      generalize numL m = b at bm ⊢
      rw [Bool.eq_iff_iff, Bool.or_eq_true, Bool.and_eq_true, decide_eq_true_eq, decide_eq_true_eq, decide_eq_true_eq, beq_iff_eq, u8_lt x y hx hy, u8_eq x y hx hy]
      obtain ⟨X, hX⟩ : ∃ X, X = x.toNat := ⟨_, rfl⟩
      obtain ⟨Y, hY⟩ : ∃ Y, Y = y.toNat := ⟨_, rfl⟩
      rw [← hX, ← hY]
      have e1 : x < y ↔ X < Y := by omega
      have e2 : x = y ↔ X = Y := by omega
      rw [e1, e2]
      constructor
      · rintro (hlt | ⟨rfl, hab⟩)
        · have : (X + 1) * P ≤ Y * P := Nat.mul_le_mul_right _ hlt
          rw [Nat.add_mul, Nat.one_mul] at this
          omega
        · omega
      · intro hlt
        rcases Nat.lt_trichotomy X Y with h1 | h1 | h1
        · exact .inl h1
        · subst h1
          exact .inr ⟨rfl, by omega⟩
        · have : (Y + 1) * P ≤ X * P := Nat.mul_le_mul_right _ h1
          rw [Nat.add_mul, Nat.one_mul] at this
          omega
theorem putL_mem (N k : Nat) : ∀ x ∈ putL N k, 0 ≤ x ∧ x < 256 := by
  intro x hx
  obtain ⟨i, _, rfl⟩ := List.mem_map.1 hx
  exact putAt_ok N k i
theorem less_put (N M k : Nat) (hN : N < 256 ^ k) (hM : M < 256 ^ k) : Op.bytesLess (u8s (putL N k)) (u8s (putL M k)) = decide (N < M) := by
  rw [less_num _ _ (by rw [putL_length, putL_length]) (putL_mem N k) (putL_mem M k), num_put N k hN, num_put M k hM]
/-- one byte more, with a nought ahead -/
theorem put_long (N k : Nat) (hN : N < 256 ^ k) : putL N (k + 1) = 0 :: putL N k := by
  rw [putL, List.range_succ_eq_map, List.map_cons, List.map_map]
  congr 1
  · rw [putAt, show k + 1 - 1 - 0 = k by omega, Nat.div_eq_of_lt hN]
    rfl
  · apply List.map_congr_left
    intro i _
    show putAt N (k + 1) (i + 1) = putAt N k i
    rw [putAt, putAt, show k + 1 - 1 - (i + 1) = k - 1 - i by omega]

/-- the bytes of several numbers -/
def catL : List (Nat × Nat) → List Int
  | [] => []
  | p :: l => putL p.1 p.2 ++ catL l
/-- the numbers that bytes are cut into -/
def cutL : List Nat → List Int → List Nat
  | [], _ => []
  | k :: ks, b => numL (b.take k) :: cutL ks (b.drop k)
def fitsL (l : List (Nat × Nat)) : Prop := ∀ p ∈ l, p.1 < 256 ^ p.2
theorem catL_append (l m : List (Nat × Nat)) : catL (l ++ m) = catL l ++ catL m := by
  induction l with
  | nil => rfl
  | cons p l ih => rw [List.cons_append, catL, catL, ih, List.append_assoc]
theorem catL_length (l : List (Nat × Nat)) : (catL l).length = (l.map (·.2)).sum := by
  induction l with
  | nil => rfl
  | cons p l ih => rw [catL, List.length_append, putL_length, ih, List.map_cons, List.sum_cons]
theorem cutL_length (ks : List Nat) (b : List Int) : (cutL ks b).length = ks.length := by
  induction ks generalizing b with
  | nil => rfl
  | cons k ks ih => rw [cutL, List.length_cons, ih, List.length_cons]
/-- numbers are cut out of their bytes -/
theorem cut_cat (l : List (Nat × Nat)) (h : fitsL l) : cutL (l.map (·.2)) (catL l) = l.map (·.1) := by
  induction l with
  | nil => rfl
  | cons p l ih =>
    have hp := h p (by simp)
    have ih := ih (fun q hq => h q (by simp [hq]))
    rw [List.map_cons, List.map_cons, catL, cutL]
    have e1 : (putL p.1 p.2 ++ catL l).take p.2 = putL p.1 p.2 := List.take_left' (putL_length _ _)
    have e2 : (putL p.1 p.2 ++ catL l).drop p.2 = catL l := List.drop_left' (putL_length _ _)
    rw [e1, e2, num_put _ _ hp, ih]
/-- what is cut is put together as the same bytes -/
theorem cat_cut (ks : List Nat) (b : List Int) (hb : ∀ x ∈ b, 0 ≤ x ∧ x < 256) (h : ks.sum = b.length) : catL ((cutL ks b).zip ks) = b := by
  induction ks generalizing b with
  | nil =>
    have : b = [] := List.eq_nil_of_length_eq_zero (by simpa using h.symm)
    subst this
    rfl
  | cons k ks ih =>
    rw [List.sum_cons] at h
    have hd : ks.sum = (b.drop k).length := by rw [List.length_drop]; omega
    have ih := ih (b.drop k) (fun x hx => hb x (List.mem_of_mem_drop hx)) hd
    have ht : (b.take k).length = k := by rw [List.length_take]; omega
    have hp := put_num (b.take k) (fun x hx => hb x (List.mem_of_mem_take hx))
    rw [ht] at hp
    rw [cutL, List.zip_cons_cons, catL, ih, hp, List.take_append_drop]
theorem fits_cut (ks : List Nat) (b : List Int) (hb : ∀ x ∈ b, 0 ≤ x ∧ x < 256) (h : ks.sum = b.length) : fitsL ((cutL ks b).zip ks) := by
  induction ks generalizing b with
  | nil => intro p hp; simp [cutL] at hp
  | cons k ks ih =>
    rw [List.sum_cons] at h
    have hd : ks.sum = (b.drop k).length := by rw [List.length_drop]; omega
    have ih := ih (b.drop k) (fun x hx => hb x (List.mem_of_mem_drop hx)) hd
    have ht : (b.take k).length = k := by rw [List.length_take]; omega
    intro p hp
    rw [cutL, List.zip_cons_cons] at hp
    rcases List.mem_cons.1 hp with rfl | hp
    · have := numL_bound (b.take k) (fun x hx => hb x (List.mem_of_mem_take hx))
      rwa [ht] at this
    · exact ih p hp
end Go.Proofs.YtcfkpepohnjdfaaDoor

/- The laws' arguments, opened: a slice of numbers. -/
namespace Go.Proofs.YtcfkpepohnjdfaaDoor
open Go.ChangeShapes Go.WideShapes Go.ChangeAt Go.RowKit

theorem own : ownKnob Tryd.prog.godebug = none := by kernel_rfl
theorem cellsInt : Tryd.prog.cellsOf 3 = 1 := by kernel_rfl
theorem laidOut : laidOutB Tryd.prog = true := by kernel_rfl

section
variable {H : Type} {enc : TypeId × Value → H} {W : World} {base : Nat} {spare : Nat → Bool} {held : Bool}
/-- a slice of numbers of kind K: t the slice's type, e the element's -/
theorem open_its {t e : TypeId} {K : IntKind} {fuel : Nat} {cs : List Value} {x : DataW H × List MemPlace} (ht : Tryd.prog.underlying t = some (.slice e)) (he : Tryd.prog.underlying e = some (.int K)) (hc : Tryd.prog.cellsOf e = 1)
    (h : DataW.trod enc Tryd.prog W base spare held fuel t cs = some x) : ∃ (A : Option Addr) (n c : Nat) (l : List Int), cs = [.slice A n c] ∧ Its K W A n c l ∧ ∀ y ∈ l, (Lit.int K y).wf = true := by
  rcases open_ints ht he hc h with ⟨hcs, _⟩ | ⟨a, len, cap, zs, hcs, _, hl, hm, hz, _, hcell, hwz⟩
  · exact ⟨none, 0, 0, [], hcs, Its.nil K W, fun y hy => by cases hy⟩
  · have hlen : len ≤ zs.length := by rw [hz]; split <;> omega
    refine ⟨some a, len, cap, zs.take len, hcs, ⟨by rw [List.length_take]; omega, hl, hm, (fun e => by cases e), ?_⟩, fun y hy => hwz y (List.mem_of_mem_take hy)⟩
    intro hn
    obtain ⟨b, off, rfl, hc⟩ := ints_at hcell (by omega)
    refine ⟨b, off, rfl, fun j hj => ?_⟩
    rw [hc j (by omega)]
    simp [List.getD_eq_getElem?_getD, hj]
theorem trodAll_five {P : Program} {w : World} {t0 t1 t2 t3 t4 : TypeId} {args : Array Value} {ds : List (DataW H)} {ps : List MemPlace} (h : DataW.TrodAll enc P w base spare held [t0, t1, t2, t3, t4] args.toList ds ps) :
    ∃ v0 v1 v2 v3 v4 d0 d1 d2 d3 d4 p0 p1 p2 p3 p4, args = #[v0, v1, v2, v3, v4] ∧ ds = [d0, d1, d2, d3, d4] ∧ ps = p0 ++ p1 ++ p2 ++ p3 ++ p4 ∧ DataW.Trod enc P w base spare held t0 v0 d0 p0 ∧ DataW.Trod enc P w base spare held t1 v1 d1 p1 ∧ DataW.Trod enc P w base spare held t2 v2 d2 p2 ∧ DataW.Trod enc P w base spare held t3 v3 d3 p3 ∧ DataW.Trod enc P w base spare held t4 v4 d4 p4 := by
  obtain ⟨v0, vs0, d0, es0, p0, q0, hargs, rfl, rfl, h0, r0⟩ := trodAll_cons h
  obtain ⟨v1, vs1, d1, es1, p1, q1, rfl, rfl, rfl, h1, r1⟩ := trodAll_cons r0
  obtain ⟨v2, vs2, d2, es2, p2, q2, rfl, rfl, rfl, h2, r2⟩ := trodAll_cons r1
  obtain ⟨v3, vs3, d3, es3, p3, q3, rfl, rfl, rfl, h3, r3⟩ := trodAll_cons r2
  obtain ⟨v4, vs4, d4, es4, p4, q4, rfl, rfl, rfl, h4, r4⟩ := trodAll_cons r3
  obtain ⟨rfl, rfl, rfl⟩ := trodAll_nil r4
  exact ⟨v0, v1, v2, v3, v4, d0, d1, d2, d3, d4, p0, p1, p2, p3, p4, by cases args; simp_all, rfl, by simp, h0, h1, h2, h3, h4⟩
theorem trodAll_mk5 {P : Program} {w : World} {t0 t1 t2 t3 t4 : TypeId} {v0 v1 v2 v3 v4 : Value} {d0 d1 d2 d3 d4 : DataW H} {p0 p1 p2 p3 p4 : List MemPlace} (h0 : DataW.Trod enc P w base spare held t0 v0 d0 p0) (h1 : DataW.Trod enc P w base spare held t1 v1 d1 p1) (h2 : DataW.Trod enc P w base spare held t2 v2 d2 p2) (h3 : DataW.Trod enc P w base spare held t3 v3 d3 p3) (h4 : DataW.Trod enc P w base spare held t4 v4 d4 p4) : DataW.TrodAll enc P w base spare held [t0, t1, t2, t3, t4] [v0, v1, v2, v3, v4] [d0, d1, d2, d3, d4] (p0 ++ (p1 ++ (p2 ++ (p3 ++ (p4))))) :=
  ⟨p0, _, h0, trodAll_mk4 h1 h2 h3 h4, rfl⟩
theorem trodAll_six {P : Program} {w : World} {t0 t1 t2 t3 t4 t5 : TypeId} {args : Array Value} {ds : List (DataW H)} {ps : List MemPlace} (h : DataW.TrodAll enc P w base spare held [t0, t1, t2, t3, t4, t5] args.toList ds ps) :
    ∃ v0 v1 v2 v3 v4 v5 d0 d1 d2 d3 d4 d5 p0 p1 p2 p3 p4 p5, args = #[v0, v1, v2, v3, v4, v5] ∧ ds = [d0, d1, d2, d3, d4, d5] ∧ ps = p0 ++ p1 ++ p2 ++ p3 ++ p4 ++ p5 ∧ DataW.Trod enc P w base spare held t0 v0 d0 p0 ∧ DataW.Trod enc P w base spare held t1 v1 d1 p1 ∧ DataW.Trod enc P w base spare held t2 v2 d2 p2 ∧ DataW.Trod enc P w base spare held t3 v3 d3 p3 ∧ DataW.Trod enc P w base spare held t4 v4 d4 p4 ∧ DataW.Trod enc P w base spare held t5 v5 d5 p5 := by
  obtain ⟨v0, vs0, d0, es0, p0, q0, hargs, rfl, rfl, h0, r0⟩ := trodAll_cons h
  obtain ⟨v1, vs1, d1, es1, p1, q1, rfl, rfl, rfl, h1, r1⟩ := trodAll_cons r0
  obtain ⟨v2, vs2, d2, es2, p2, q2, rfl, rfl, rfl, h2, r2⟩ := trodAll_cons r1
  obtain ⟨v3, vs3, d3, es3, p3, q3, rfl, rfl, rfl, h3, r3⟩ := trodAll_cons r2
  obtain ⟨v4, vs4, d4, es4, p4, q4, rfl, rfl, rfl, h4, r4⟩ := trodAll_cons r3
  obtain ⟨v5, vs5, d5, es5, p5, q5, rfl, rfl, rfl, h5, r5⟩ := trodAll_cons r4
  obtain ⟨rfl, rfl, rfl⟩ := trodAll_nil r5
  exact ⟨v0, v1, v2, v3, v4, v5, d0, d1, d2, d3, d4, d5, p0, p1, p2, p3, p4, p5, by cases args; simp_all, rfl, by simp, h0, h1, h2, h3, h4, h5⟩
theorem trodAll_mk6 {P : Program} {w : World} {t0 t1 t2 t3 t4 t5 : TypeId} {v0 v1 v2 v3 v4 v5 : Value} {d0 d1 d2 d3 d4 d5 : DataW H} {p0 p1 p2 p3 p4 p5 : List MemPlace} (h0 : DataW.Trod enc P w base spare held t0 v0 d0 p0) (h1 : DataW.Trod enc P w base spare held t1 v1 d1 p1) (h2 : DataW.Trod enc P w base spare held t2 v2 d2 p2) (h3 : DataW.Trod enc P w base spare held t3 v3 d3 p3) (h4 : DataW.Trod enc P w base spare held t4 v4 d4 p4) (h5 : DataW.Trod enc P w base spare held t5 v5 d5 p5) : DataW.TrodAll enc P w base spare held [t0, t1, t2, t3, t4, t5] [v0, v1, v2, v3, v4, v5] [d0, d1, d2, d3, d4, d5] (p0 ++ (p1 ++ (p2 ++ (p3 ++ (p4 ++ (p5)))))) :=
  ⟨p0, _, h0, trodAll_mk5 h1 h2 h3 h4 h5, rfl⟩
end
end Go.Proofs.YtcfkpepohnjdfaaDoor

/- The laws' arguments, opened: a slice of bytes. -/
namespace Go.Proofs.YtcfkpepohnjdfaaDoor
open Go.ChangeShapes Go.WideShapes Go.ChangeAt Go.RowKit

theorem cellsU8 : Tryd.prog.cellsOf 5 = 1 := by kernel_rfl
theorem cellsBytes : Tryd.prog.cellsOf 23 = 1 := by kernel_rfl
section
variable {H : Type} {enc : TypeId × Value → H} {W : World} {base : Nat} {spare : Nat → Bool} {held : Bool}
theorem open_bytes {fuel : Nat} {cs : List Value} {x : DataW H × List MemPlace} (h : DataW.trod enc Tryd.prog W base spare held fuel 23 cs = some x) :
    ∃ (A : Option Addr) (n c : Nat) (l : List Int), cs = [.slice A n c] ∧ Bts W A n c l := by
  rcases open_ints Tryd.underlying23 Tryd.underlying5 cellsU8 h with ⟨hcs, _⟩ | ⟨a, len, cap, zs, hcs, _, hl, hm, hz, _, hcell, hwz⟩
  · exact ⟨none, 0, 0, [], hcs, Bts.nil W⟩
  · have hlen : len ≤ zs.length := by rw [hz]; split <;> omega
    refine ⟨some a, len, cap, zs.take len, hcs, by rw [List.length_take]; omega, hl, hm, ?_, (fun e => by cases e), ?_⟩
    · intro j
      simp only [List.getD_eq_getElem?_getD, List.getElem?_take]
      split
      · cases hj : zs[j]? with
        | none => simp
        | some y =>
          have := bounds_u8 (hwz y (List.mem_of_getElem? hj))
          simp only [Option.getD_some]
          omega
      · simp
    · intro hn
      obtain ⟨b, off, rfl, hc⟩ := ints_at hcell (by omega)
      refine ⟨b, off, rfl, fun j hj => ?_⟩
      rw [hc j (by omega)]
      simp [List.getD_eq_getElem?_getD, hj]
end
end Go.Proofs.YtcfkpepohnjdfaaDoor

/- The walks over package num's isSize, fits and Put: a number's bytes. -/
namespace Go.Proofs.YtcfkpepohnjdfaaDoor
set_option linter.unusedVariables false
set_option linter.unusedSimpArgs false
open Go.RowKit

def sizeB (k : Int) : Bool := decide (1 ≤ k ∧ k ≤ 8)
def fitB (n : Int) (k : Int) : Bool := decide (1 ≤ k ∧ k ≤ 8 ∧ n.toNat < 256 ^ k.toNat)
theorem ret_bool {a b : Bool} (h : a = b) : Ending.returned (.bool a) = .returned (.bool b) := by rw [h]

theorem size_any (k : Int) (w : World) : Calls Tryd.prog 43 #[.int .i64 k] w fun e w' => e = .returned (.bool (sizeB k)) ∧ w = w' := by
  have k1 : 1 ≤ k → decide (k ≤ 8) = sizeB k := by
    intro h; unfold sizeB; rw [Bool.eq_iff_iff]; simp; omega
  have k2 : k < 1 → false = sizeB k := by
    intro h; unfold sizeB; rw [Bool.eq_iff_iff]; simp; omega
  have K1 := Lib.hid k1
  have K2 := Lib.hid k2
  clear k1 k2
  by_cases h : 1 ≤ k
  · go_enter Tryd.func43, Tryd.ntmps43
    go_wp2
    go_ret
    exact ⟨ret_bool (K1.out h), rfl⟩
  · have h2 : k < 1 := by omega
    clear h
    go_enter Tryd.func43, Tryd.ntmps43
    go_wp2
    go_ret
    exact ⟨ret_bool (K2.out h2), rfl⟩
theorem size_yes (k : Int) (w : World) (h1 : 1 ≤ k) (h2 : k ≤ 8) : Calls Tryd.prog 43 #[.int .i64 k] w fun e w' => e = .returned (.bool true) ∧ w = w' := by
  refine (size_any k w).mono fun e w' ⟨he, hw⟩ => ⟨he.trans (ret_bool ?_), hw⟩
  unfold sizeB; simp; omega
theorem size_no (k : Int) (w : World) (h : k < 1 ∨ 8 < k) : Calls Tryd.prog 43 #[.int .i64 k] w fun e w' => e = .returned (.bool false) ∧ w = w' := by
  refine (size_any k w).mono fun e w' ⟨he, hw⟩ => ⟨he.trans (ret_bool ?_), hw⟩
  unfold sizeB; simp; omega

set_option maxHeartbeats 1000000 in
theorem fits_any (n : Int) (k : Int) (w : World) (h0 : 0 ≤ n) (h1 : n < 18446744073709551616) :
    Calls Tryd.prog 37 #[.int .u64 n, .int .i64 k] w fun e w' => e = .returned (.bool (fitB n k)) ∧ w = w' := by
  by_cases h : 1 ≤ k ∧ k ≤ 8
  · obtain ⟨ha, hb⟩ := h
    have hk : k = 1 ∨ k = 2 ∨ k = 3 ∨ k = 4 ∨ k = 5 ∨ k = 6 ∨ k = 7 ∨ k = 8 := by omega
    rcases hk with rfl | rfl | rfl | rfl | rfl | rfl | rfl | rfl
    all_goals
      go_enter Tryd.func37, Tryd.ntmps37
      go_wp2_with (go_at_call 43; refine (size_yes _ _ (by omega) (by omega)).mono ?_; rintro e w1 ⟨rfl, rfl⟩)
      go_ret
      exact ⟨ret_bool (by unfold fitB; rw [Bool.eq_iff_iff]; simp; omega), rfl⟩
  · have hr : false = fitB n k := by unfold fitB; rw [Bool.eq_iff_iff]; simp; omega
    have HR := Lib.hid hr
    clear hr
    go_enter Tryd.func37, Tryd.ntmps37
    go_wp2_with (go_at_call 43; refine (size_no _ _ (by omega)).mono ?_; rintro e w1 ⟨rfl, rfl⟩)
    go_ret
    exact ⟨ret_bool HR.out, rfl⟩
theorem fits_yes (N K : Nat) (w : World) (h1 : 1 ≤ K) (h2 : K ≤ 8) (h3 : N < 256 ^ K) :
    Calls Tryd.prog 37 #[.int .u64 N, .int .i64 K] w fun e w' => e = .returned (.bool true) ∧ w = w' := by
  have hN : N < 256 ^ 8 := Nat.lt_of_lt_of_le h3 (Nat.pow_le_pow_right (by omega) h2)
  refine (fits_any N K w (by omega) (by omega)).mono fun e w' ⟨he, hw⟩ => ⟨he.trans (ret_bool ?_), hw⟩
  unfold fitB; rw [decide_eq_true_eq]
  exact ⟨by omega, by omega, by simpa using h3⟩
theorem fits_no (n k : Int) (w : World) (h0 : 0 ≤ n) (h1 : n < 18446744073709551616) (h : fitB n k = false) :
    Calls Tryd.prog 37 #[.int .u64 n, .int .i64 k] w fun e w' => e = .returned (.bool false) ∧ w = w' := by
  exact (fits_any n k w h0 h1).mono fun e w' ⟨he, hw⟩ => ⟨he.trans (ret_bool h), hw⟩

theorem put_no (n k : Int) (w : World) (h0 : 0 ≤ n) (h1 : n < 18446744073709551616) (h : fitB n k = false) :
    Calls Tryd.prog 33 #[.int .u64 n, .int .i64 k] w fun e w' => e = .returned (.tuple #[.slice none 0 0, .bool false]) ∧ w = w' := by
  have H := Lib.hid h
  clear h
  go_enter Tryd.func33, Tryd.ntmps33
  go_wp2_with (go_at_call 37; refine (fits_no _ _ _ h0 h1 H.out).mono ?_; rintro e w1 ⟨rfl, rfl⟩)
  go_ret2
  exact ⟨rfl, rfl⟩

set_option maxHeartbeats 1000000 in
theorem put_yes (N K : Nat) (w : World) (h1 : 1 ≤ K) (h2 : K ≤ 8) (h3 : N < 256 ^ K) :
    Calls Tryd.prog 33 #[.int .u64 N, .int .i64 K] w fun e w' => e = .returned (.tuple #[.slice (some ⟨w.heap.size, 0, none⟩) K K, .bool true]) ∧ RowB w' w.heap.size 5 (putL N K) ∧ Below w.heap.size w w' := by
  have hN : N < 256 ^ 8 := Nat.lt_of_lt_of_le h3 (Nat.pow_le_pow_right (by omega) h2)
  have HN := Lib.hid hN
  have H3 := Lib.hid h3
  clear h3 hN
  go_enter Tryd.func33, Tryd.ntmps33
  go_wp2_with (first
    | (go_at_call 37; refine (fits_yes _ _ _ h1 h2 H3.out).mono ?_; rintro e w1 ⟨rfl, rfl⟩)
    | (at_make
       refine wpList_make_n rfl _ _ rfl K K K rfl rfl rfl rfl (by omega) ?_
       intro w1 hX1 hg1 hs1
       have hB1 : Below w.heap.size w w1 := (Below.refl _ _).grown hg1 (Nat.le_refl _) (fun k hk => by cases hk)))
  go_loopw [0, 7] (fun n i wr => ∃ M x : Nat, M ≤ K ∧ n = .int .u64 x ∧ x = N / 256 ^ (K - M) ∧ i = .int .i64 ((M : Int) - 1) ∧ RowB wr w.heap.size 5 (fillBack N K (K - M)) ∧ Below w.heap.size w wr) (fun _ i _ => (intOf i + 1).toNat)
  case atStart => exact ⟨K, N, Nat.le_refl _, rfl, by simp, rfl, by rw [Nat.sub_self]; exact hX1, hB1⟩
  case round =>
    clear hX1 hg1 hs1 hB1
    obtain ⟨M, x, hM, rfl, hx, rfl, hX, hB⟩ := hrel
    have hxb : x < 256 ^ 8 := by rw [hx]; exact Nat.lt_of_le_of_lt (Nat.div_le_self _ _) HN.out
    have HX := Lib.hid hx
    clear hx
    rcases M with _ | m
    · rw [Nat.sub_zero, fillBack_all] at hX
      go_wp2
      go_ret2
      exact ⟨rfl, hX, hB⟩
    · have e : (((m + 1 : Nat) : Int) - 1) = m := by omega
      rw [e]
      have hl : (fillBack N K (K - (m + 1))).length = K := fillBack_length _ _ _
      have hcell := hX.cell m (by omega)
      have hfr := hX.free m
      have hnext : fillBack N K (K - m) = (fillBack N K (K - (m + 1))).set m ((x : Int) % 256) := by
        rw [show K - m = (K - (m + 1)) + 1 by omega, fillBack, HX.out, show K - 1 - (K - (m + 1)) = m by omega]
        rfl
      have hx2 : x / 256 = N / 256 ^ (K - m) := by
        rw [HX.out, show K - m = (K - (m + 1)) + 1 by omega, Nat.div_div_eq_div_mul, Nat.pow_succ]
      have HP := Lib.hid (hX.put m ((x : Int) % 256))
      have HNX := Lib.hid hnext
      have HX2 := Lib.hid hx2
      have HBB := Lib.hid hB
      obtain ⟨c, hc⟩ : ∃ c, c = (fillBack N K (K - (m + 1))).getD m 0 := ⟨_, rfl⟩
      rw [← hc] at hcell
      clear hc e hl hnext hx2 hX hB
      go_wp2
      go_roundw
      case rel =>
        exact ⟨m, x / 256, by omega, by go_num, HX2.out, rfl, by rw [HNX.out]; exact HP.out, HBB.out.setCell (p := ⟨_, m, none⟩) (Nat.le_refl _) _⟩
      case measure => simp [intOf]
theorem put_at (n k : Int) (N K : Nat) (w : World) (hn : n = N) (hk : k = K) (h1 : 1 ≤ K) (h2 : K ≤ 8) (h3 : N < 256 ^ K) :
    Calls Tryd.prog 33 #[.int .u64 n, .int .i64 k] w fun e w' => e = .returned (.tuple #[.slice (some ⟨w.heap.size, 0, none⟩) K K, .bool true]) ∧ RowB w' w.heap.size 5 (putL N K) ∧ Below w.heap.size w w' := by
  subst hn hk
  exact put_yes N K w h1 h2 h3
theorem fit_nat {n k : Int} (h0 : 0 ≤ n) (h : fitB n k = true) : ∃ N K : Nat, n = N ∧ k = K ∧ 1 ≤ K ∧ K ≤ 8 ∧ N < 256 ^ K := by
  unfold fitB at h
  rw [decide_eq_true_eq] at h
  refine ⟨n.toNat, k.toNat, by omega, by omega, by omega, by omega, h.2.2⟩
theorem fit_of (N K : Nat) (h1 : 1 ≤ K) (h2 : K ≤ 8) (h3 : N < 256 ^ K) : fitB N K = true := by
  unfold fitB
  rw [decide_eq_true_eq]
  exact ⟨by omega, by omega, by simpa using h3⟩
/-- whatever is put: a slice, and whether it fits -/
theorem put_some (n k : Int) (w : World) (h0 : 0 ≤ n) (h1 : n < 18446744073709551616) :
    Calls Tryd.prog 33 #[.int .u64 n, .int .i64 k] w fun e w' => ∃ V, e = .returned (.tuple #[V, .bool (fitB n k)]) ∧ Below w.heap.size w w' := by
  cases h : fitB n k with
  | false => exact (put_no n k w h0 h1 h).mono fun e w' ⟨he, hw⟩ => ⟨_, he, by subst hw; exact Below.refl _ _⟩
  | true =>
    obtain ⟨N, K, rfl, rfl, h2, h3, h4⟩ := fit_nat h0 h
    exact (put_yes N K w h2 h3 h4).mono fun e w' ⟨he, _, hw⟩ => ⟨_, he, hw⟩
theorem put_b (n k : Int) (b : Bool) (w : World) (h0 : 0 ≤ n) (h1 : n < 18446744073709551616) (h : fitB n k = b) :
    Calls Tryd.prog 33 #[.int .u64 n, .int .i64 k] w fun e w' => ∃ V, e = .returned (.tuple #[V, .bool b]) ∧ Below w.heap.size w w' := by
  subst h
  exact put_some n k w h0 h1
end Go.Proofs.YtcfkpepohnjdfaaDoor

/- The walk over package num's Get: the number of some bytes. -/
namespace Go.Proofs.YtcfkpepohnjdfaaDoor
set_option linter.unusedVariables false
set_option linter.unusedSimpArgs false
open Go.RowKit

/-- may a number be read there? -/
def mayGet (n at_ k : Int) : Bool := decide (1 ≤ k ∧ k ≤ 8 ∧ 0 ≤ at_ ∧ at_ + k ≤ n)

theorem orStep (y : Nat) (z : Int) (hy : y < 256 ^ 7) (h0 : 0 ≤ z) (h1 : z < 256) : bits .or .u64 (IntKind.u64.wrap ((y : Int) * 256)) z = ((256 * y + z.toNat : Nat) : Int) := by
  obtain ⟨x, rfl⟩ := Int.eq_ofNat_of_zero_le h0
  have e : IntKind.u64.wrap ((y : Int) * 256) = ((256 * y : Nat) : Int) := by
    rw [IntKind.wrap_u64]
    omega
  have hx : x < 2 ^ 8 := by omega
  rw [e, u64_or_nat _ _ (by omega) (by omega), Int.toNat_natCast]
  have := Nat.two_pow_add_eq_or_of_lt hx y
  rw [show 2 ^ 8 = 256 by rfl] at this
  rw [this]
theorem orStart (z : Int) (h0 : 0 ≤ z) (h1 : z < 256) : bits .or .u64 0 z = ((z.toNat : Nat) : Int) := by
  have := orStep 0 z (by omega) h0 h1
  simpa [IntKind.wrap_u64] using this
theorem num_one (l : List Int) (a : Nat) (h : a < l.length) : numL ((l.drop a).take 1) = (l.getD a 0).toNat := by
  rw [List.drop_eq_getElem_cons h, List.take_succ_cons, List.take_zero]
  simp [numL, numOf, h]
theorem num_next (l : List Int) (a j : Nat) (h : a + j < l.length) : numL ((l.drop a).take (j + 1)) = 256 * numL ((l.drop a).take j) + (l.getD (a + j) 0).toNat := by
  rw [List.take_succ_eq_append_getElem (by rw [List.length_drop]; omega), numL, numOf_snoc, numL]
  simp [h]
theorem mem_ok {l : List Int} (h : ∀ j, 0 ≤ l.getD j 0 ∧ l.getD j 0 < 256) : ∀ x ∈ l, 0 ≤ x ∧ x < 256 := by
  intro x hx
  obtain ⟨i, hi, rfl⟩ := List.getElem_of_mem hx
  have := h i
  simpa [List.getD_eq_getElem?_getD, hi] using this

end Go.Proofs.YtcfkpepohnjdfaaDoor

/- What the walks over package num's laws, and others, share: pieces of bytes, numbers that fit; what a call gives. -/
namespace Go.Proofs.YtcfkpepohnjdfaaDoor
set_option linter.unusedVariables false
set_option linter.unusedSimpArgs false
open Go.RowKit

theorem then_below {w w1 w2 : World} (h : Below w.heap.size w w1) (h2 : Below w1.heap.size w1 w2) : Below w.heap.size w w2 := h.trans (h2.mono h.size)
theorem fit8 (n : Int) (h0 : 0 ≤ n) (h1 : n < 18446744073709551616) : fitB n 8 = true := by
  unfold fitB
  rw [decide_eq_true_eq]
  exact ⟨by omega, by omega, by simp; omega⟩
theorem top7 : fitB 18446744073709551615 7 = false := by decide +kernel

theorem fit_more (N K : Nat) (h1 : 1 ≤ K) (h2 : K < 8) (h3 : N < 256 ^ K) : fitB N ((K : Int) + 1) = true := by
  have h := fit_of N (K + 1) (by omega) (by omega) (by rw [Nat.pow_succ]; omega)
  simpa using h
theorem fit_nine (n : Int) : fitB n 9 = false := by
  unfold fitB
  rw [decide_eq_false_iff_not]
  omega
theorem fit_low (n k : Int) (h : fitB n k = true) : 1 ≤ k ∧ k ≤ 8 := by
  unfold fitB at h
  rw [decide_eq_true_eq] at h
  exact ⟨h.1, h.2.1⟩

theorem bstr_u8s (l : List Int) : (bstr l).toList = u8s l := by
  have e : ∀ b : ByteArray, b.toList = b.data.toList := fun b => by
    rcases b with ⟨⟨d⟩⟩
    simp
  rw [e]
  rfl
theorem less_bstr (N M K : Nat) (hN : N < 256 ^ K) (hM : M < 256 ^ K) : Op.bytesLess (bstr (putL N K)).toList (bstr (putL M K)).toList = decide (N < M) := by
  rw [bstr_u8s, bstr_u8s, less_put N M K hN hM]
theorem putL_ok (N K : Nat) : ∀ j, 0 ≤ (putL N K).getD j 0 ∧ (putL N K).getD j 0 < 256 := ok_map _ (fun i => putAt_ok N K i) K
theorem conv_row {w : World} {g K : Nat} {l : List Int} (h : RowB w g 5 l) (hl : l.length = K) (hm : K ≤ maxLen) (hok : ∀ j, 0 ≤ l.getD j 0 ∧ l.getD j 0 < 256) :
    (convert 23 9 (.slice (some ⟨g, 0, none⟩) K K)).run Tryd.prog w = .ok (.string (bstr l)) w := conv_bts (h.bts hl hm hok)

theorem one_more (N K : Nat) (h : N < 256 ^ K) : bstr (putL N (K + 1)) = bstr ([0] ++ putL N K) := by rw [put_long N K h]; rfl
theorem zero_str (l : List Int) (hl : l.length ≤ 8388608) (w : World) : (Op.stringOp .add ⟨#[0]⟩ (bstr l)).run Tryd.prog w = .ok (.string (bstr ([0] ++ l))) w := by
  have := add_bstr [0] l (by simp) hl w
  exact this
/-- a slice that tells this text -/
def ConvTo (w : World) (v : Value) (s : ByteArray) : Prop := ∃ A n c l, v = .slice A n c ∧ bstr l = s ∧ Bts w A n c l
theorem ConvTo.keep {w w' : World} {v : Value} {s : ByteArray} (h : ConvTo w v s) (hb : Below w.heap.size w w') : ConvTo w' v s := by
  obtain ⟨A, n, c, l, rfl, rfl, h⟩ := h
  exact ⟨A, n, c, l, rfl, rfl, h.below hb⟩
theorem ConvTo.run {w : World} {v : Value} {s : ByteArray} (h : ConvTo w v s) : (convert 23 9 v).run Tryd.prog w = .ok (.string s) w := by
  obtain ⟨A, n, c, l, rfl, rfl, h⟩ := h
  exact conv_bts h
theorem mayGet_nat {n : Nat} {i k : Int} (h : mayGet n i k = true) : ∃ a K : Nat, i = a ∧ k = K ∧ 1 ≤ K ∧ K ≤ 8 ∧ a + K ≤ n := by
  unfold mayGet at h
  rw [decide_eq_true_eq] at h
  exact ⟨i.toNat, k.toNat, by omega, by omega, by omega, by omega, by omega⟩
/-- the piece that was got is put as the same bytes -/
theorem put_piece (l : List Int) (a K : Nat) (hl : ∀ j, 0 ≤ l.getD j 0 ∧ l.getD j 0 < 256) (h : a + K ≤ l.length) : putL (numL ((l.drop a).take K)) K = (l.drop a).take K := by
  have hlen : ((l.drop a).take K).length = K := by rw [List.length_take, List.length_drop]; omega
  have := put_num ((l.drop a).take K) (fun x hx => mem_ok hl x (List.mem_of_mem_drop (List.mem_of_mem_take hx)))
  rw [hlen] at this
  exact this
theorem num_piece (l : List Int) (a K : Nat) (hl : ∀ j, 0 ≤ l.getD j 0 ∧ l.getD j 0 < 256) (h : a + K ≤ l.length) : numL ((l.drop a).take K) < 256 ^ K := by
  have hlen : ((l.drop a).take K).length = K := by rw [List.length_take, List.length_drop]; omega
  have := numL_bound ((l.drop a).take K) (fun x hx => mem_ok hl x (List.mem_of_mem_drop (List.mem_of_mem_take hx)))
  rw [hlen] at this
  exact this
/-- what is put is got out of the middle -/
theorem ok_nil : ∀ j, 0 ≤ ([] : List Int).getD j 0 ∧ ([] : List Int).getD j 0 < 256 := by simp
theorem piece_bts {w : World} {b off n c a K : Nat} {l : List Int} (h : Bts w (some ⟨b, off, none⟩) n c l) (ha : a + K ≤ n) (hK : 1 ≤ K) : Bts w (some ⟨b, off + a, none⟩) K (c - a) ((l.drop a).take K) := by
  have hle := h.le
  have hm := h.max
  refine ⟨by rw [List.length_take, List.length_drop, h.len]; omega, by omega, by omega, ok_piece l h.ok a K, (fun e => by cases e), fun _ => ⟨b, off + a, rfl, fun j hj => ?_⟩⟩
  obtain ⟨b', off', hA, hc⟩ := h.at_ (by omega)
  injection hA with hA
  injection hA with e1 e2 _
  subst e1 e2
  have := hc (a + j) (by omega)
  rw [← Nat.add_assoc] at this
  rw [this]
  simp [List.getD_eq_getElem?_getD, List.getElem?_take, hj, List.getElem?_drop]
theorem mid_piece (a p b : List Int) : ((a ++ p ++ b).drop a.length).take p.length = p := by
  rw [List.append_assoc, List.drop_left, List.take_left]
end Go.Proofs.YtcfkpepohnjdfaaDoor
