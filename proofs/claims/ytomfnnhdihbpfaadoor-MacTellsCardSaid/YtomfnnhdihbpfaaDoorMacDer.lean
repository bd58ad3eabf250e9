/- The walk over package mac's Derive: a key that is made of another one. -/
import Derived.Test.YtomfnnhdihbpfaaDoorMacTag
import Derived.Lib.AppendStr
import Derived.Laws.ResultCell
namespace Go.Proofs.YtomfnnhdihbpfaaDoor
open Go.RowKit

/-- a text's bytes, as numbers -/
def strL (s : ByteArray) : List Int := s.data.toList.map fun b => (b.toNat : Int)
theorem strL_length (s : ByteArray) : (strL s).length = s.size := by
  rw [strL, List.length_map, Array.length_toList]
  rfl
theorem strL_ok (s : ByteArray) : ∀ j, 0 ≤ (strL s).getD j 0 ∧ (strL s).getD j 0 < 256 := by
  intro j
  simp only [strL, List.getD_eq_getElem?_getD, List.getElem?_map]
  cases h : s.data.toList[j]? with
  | none => simp
  | some b =>
    have := b.toNat_lt
    simp only [Option.map_some, Option.getD_some]
    omega
theorem byv_strL (s : ByteArray) : byv (strL s) = Lib.strCells s := by
  simp [byv, strL, Lib.strCells]
theorem str_empty (s : ByteArray) : s.toList.isEmpty = decide (s.size = 0) := by
  have e : s.toList = s.data.toList := by
    rcases s with ⟨⟨d⟩⟩
    simp
  rw [e, Bool.eq_iff_iff, List.isEmpty_iff, decide_eq_true_eq]
  rw [show s.size = s.data.toList.length by rw [Array.length_toList]; rfl]
  exact List.length_eq_zero_iff.symm

theorem wpList_append_str {w : World} {ops : Array Oper} {rest : List Oper} {o : Oper} {a : Act} {Q : Exit → Act → World → Prop} (hgd : o.guard = none) (sl x : Operand)
    (ho : o.op = .call { callee := .builtin .append, args := #[sl, x], argTypes := #[24, 9] })
    (base : Nat) (v : Value) (l : List Int) (hs : a.eval sl = v) (hown : Own w base v l) (s : ByteArray) (hx : a.eval x = .string s)
    (hsmall : l.length + s.size ≤ 140737488355328) (hbase : base ≤ w.heap.size)
    (h : ∀ v' w', Own w' base v' (l ++ strL s) → w.grownBy w' v.ownBlock → wpList Tryd.prog ops Q rest (a.put o.dst v') w') : wpList Tryd.prog ops Q (o :: rest) a w := by
  obtain ⟨i, hi, hz, h1, h2⟩ := info_parts info_u8
  refine Lib.wpList_append_own_string w hgd sl x 24 9 ho base 5 i Tryd.underlying24 Tryd.underlying9 hi hz h1 h2 v l.length (byv l) hs hown s hx (by unfold maxLen; omega) hsmall hbase ?_
  intro v' w' h3 h4 _
  refine h v' w' ?_ h4
  unfold Own
  rw [byv_append, List.length_append, strL_length, byv_strL]
  exact h3
theorem one_own_next (w : World) (o : Obj) (x : Int) : Own ((w.alloc o).alloc (.cells #[.int .u8 x] 5)) (w.heap.size + 1) (.slice (some ⟨w.heap.size + 1, 0, none⟩) 1 1) [x] := by
  have h := one_own (w.alloc o) x
  have e : (w.alloc o).heap.size = w.heap.size + 1 := by simp
  rw [e] at h
  exact h
theorem size_two (w : World) (o1 o2 : Obj) : w.heap.size + 1 ≤ ((w.alloc o1).alloc o2).heap.size ∧ w.heap.size < ((w.alloc o1).alloc o2).heap.size := by
  simp; omega
/-- an array and a bool, handed back -/
theorem results_row_tmp {fn : Func} {p u : Tmp} {ty e : TypeId} {n : Nat} (h : fn.results = #[.cell p ty, .tmp u]) (tmps : Array Value) (P : Program) (w : World) (g : Nat) (t : TypeId) (cs : Array Value) (fr : Nat × Nat)
    (hp : tmps.getD p undef = .pointer (some ⟨g, 0, none⟩)) (hg : w.heap[g]? = some (.cells cs t fr))
    (hu : P.underlying ty = some (.array n e)) (hi : (P.info? ty).map (·.size) = some cs.size) (v : Value) (hv : tmps.getD u undef = v) :
    (results fn tmps).run P w = .ok (.tuple #[.agg cs, v]) w := by
  rw [results_cell_tmp h, hp, hv]
  simp [asAddr, run_loadVar_row w g t ty cs fr _ hg hu rfl hi]

set_option maxRecDepth 100000 in
set_option maxHeartbeats 1000000 in
theorem derive_yes (A B : Option Addr) (n c m d : Nat) (key b : List Int) (s : ByteArray) (w : World) (hK : KTab w) (hn : n ≤ 1048576) (hm : m ≤ 1048000) (hk : Bts w A n c key) (hb : Bts w B m d b) (h0 : 0 < s.size) (h1 : s.size ≤ 32) :
    Calls Tryd.prog 29 #[.slice A n c, .string s, .slice B m d] w fun e w' => e = .returned (.tuple #[.agg (idv (tagL key (labelL (strL s) b))), .bool true]) ∧ Below w.heap.size w w' := by
  obtain ⟨L, hL⟩ : ∃ L, L = [(s.size : Int)] ++ strL s := ⟨_, rfl⟩
  have hLl : L.length = 1 + s.size := by rw [hL, List.length_append, strL_length]; simp
  have hLo : ∀ j, 0 ≤ L.getD j 0 ∧ L.getD j 0 < 256 := by rw [hL]; exact ok_append (ok_one1 _ (by omega) (by omega)) (strL_ok s)
  obtain ⟨Z, hZ⟩ : ∃ Z, Z = tagL key (L ++ b) := ⟨_, rfl⟩
  have hZl : Z.length = 32 := by rw [hZ, tagL]; exact sumL_length _
  have hfin : tagL key (labelL (strL s) b) = Z := by rw [hZ, labelL, strL_length, hL]
  have he : s.toList.isEmpty = false := by rw [str_empty, decide_eq_false_iff_not]; omega
  have h2 : (s.size : Int) ≤ 32 := by omega
  have h3 : decide (32 < (s.size : Int)) = false := by rw [decide_eq_false_iff_not]; omega
  rw [hfin]
  have HL := Lib.hid hL
  have HLL := Lib.hid hLl
  have HLO := Lib.hid hLo
  have HZ := Lib.hid hZ
  have HZL := Lib.hid hZl
  clear hL hLl hLo hZ hZl hfin
  go_enter Tryd.func29, Tryd.ntmps29
  go_wp2_with (first
    | (at_builtin
       refine wpList_append_str rfl (.tmp 20) (.tmp 21) rfl (w.heap.size + 1) _ [(s.size : Int)] rfl (one_own_next w _ _) s rfl (by simp only [List.length_cons, List.length_nil]; omega) (size_two w _ _).1 ?_
       intro v1 w1 hown1 hg1
       have hg1 : ((w.alloc _).alloc _).grownBy w1 (some (w.heap.size + 1)) := hg1
       rw [← HL.out] at hown1
       have hB1 : Below w.heap.size w w1 := (two_below w _ _).grown hg1 (Nat.le_of_lt (size_two w _ _).2) (fun k hk => by injection hk with hk; omega)
       have hO1 : RowB w1 w.heap.size 33 (List.replicate 32 0) := (hg1.block w.heap.size (size_two w _ _).2 (ne_some (by omega))).trans (heap_alloc2_old w _ _)
       have hv1 := hown1.size
       clear hg1)
    | (at_builtin
       refine wpList_append_b rfl (.tmp 24) (.tmp 25) rfl (w.heap.size + 1) _ L rfl hown1 B m d b rfl (hb.below hB1) (by rw [HLL.out]; omega) hO1.lt ?_
       intro v2 w2 hown2 hg2
       have hB2 : Below w.heap.size w w2 := hB1.grown hg2 hB1.size (fun k hk => by have := (hv1 k hk).1; omega)
       have hO2 : RowB w2 w.heap.size 33 (List.replicate 32 0) := hO1.grown hg2 (fun e => by have := (hv1 _ e.symm).1; omega)
       obtain ⟨A2, n2, c2, rfl, hbt2⟩ := hown2.slice (ok_append HLO.out hb.ok)
       have hn2 : n2 ≤ 1048512 := by have h1 := hbt2.len; rw [List.length_append, HLL.out, hb.len] at h1; omega
       clear hg2 hown2 hown1 hv1)
    | (go_at_call 33; refine (tag_any A A2 n c n2 c2 key (L ++ b) w2 (hK.from hB2) hn hn2 (hk.below hB2) hbt2).mono ?_; rintro e w3 ⟨he, hb3⟩
       rw [← HZ.out] at he
       subst he
       have hO3 := hO2.keep hb3
       have hB3 : Below w.heap.size w w3 := hB2.trans (hb3.mono hB2.size)
       clear hb3)
    | ((with_reducible refine wpList_store_b rfl 33 _ _ rfl w.heap.size Z ?hx ?hy 33 (List.replicate 32 0) hO3 (info32 HZL.out) ?hl ?hm); (case hx => rfl); (case hy => rfl); (case hl => rw [HZL.out]; rfl)
       intro w6 hg6 hX6 hs6
       have hB6 : Below w.heap.size w w6 := Below.grows hB3 hg6 hB3.size (Nat.le_refl _)))
  refine bodyPost_ret (v := .tuple #[.agg (idv Z), .bool true]) ?_ ?_ ?_
  · exact results_row_tmp Tryd.results29 _ _ _ w.heap.size 33 _ (0, 0) rfl hX6.is Tryd.underlying33 (info32 HZL.out) _ rfl
  · rfl
  · exact ⟨rfl, hB6⟩

set_option maxHeartbeats 1000000 in
theorem derive_no (A B : Option Addr) (n c m d : Nat) (s : ByteArray) (w : World) (hs : s.size ≤ 9223372036854775807) (h1 : s.size = 0 ∨ 32 < s.size) :
    Calls Tryd.prog 29 #[.slice A n c, .string s, .slice B m d] w fun e w' => e = .returned (.tuple #[.agg (idv (List.replicate 32 0)), .bool false]) ∧ Below w.heap.size w w' := by
  rcases h1 with h0 | h0
  · have he : s.toList.isEmpty = true := by rw [str_empty, decide_eq_true_eq]; exact h0
    go_enter Tryd.func29, Tryd.ntmps29
    go_wp2_with (first | ((with_reducible refine wpList_store_b rfl 33 _ _ rfl w.heap.size (List.replicate 32 0) ?hx7 ?hy7 33 (List.replicate 32 0) (rowb_lit w 33 _ _ ?hz7) (info32 rfl) ?hl7 ?_); (case hx7 => rfl); (case hy7 => rfl); (case hz7 => rfl); (case hl7 => rfl); intro w6 hg6 hX6 hs6; have hB6 : Below w.heap.size w w6 := Below.grows (mac_alloc _ _) hg6 (size_le_alloc _ _) (Nat.le_refl _)))
    refine bodyPost_ret (v := .tuple #[.agg (idv (List.replicate 32 0)), .bool false]) ?_ ?_ ?_
    · exact results_row_tmp Tryd.results29 _ _ _ w.heap.size 33 _ (0, 0) rfl hX6.is Tryd.underlying33 (info32 rfl) _ rfl
    · rfl
    · exact ⟨rfl, hB6⟩
  · have he : s.toList.isEmpty = false := by rw [str_empty, decide_eq_false_iff_not]; omega
    have h2 : (32 : Int) < s.size := by omega
    go_enter Tryd.func29, Tryd.ntmps29
    go_wp2_with (first | ((with_reducible refine wpList_store_b rfl 33 _ _ rfl w.heap.size (List.replicate 32 0) ?ghx8 ?ghy8 33 (List.replicate 32 0) (rowb_lit w 33 _ _ ?ghz8) (info32 rfl) ?ghl8 ?_); (case ghx8 => rfl); (case ghy8 => rfl); (case ghz8 => rfl); (case ghl8 => rfl); intro w6 hg6 hX6 hs6; have hB6 : Below w.heap.size w w6 := Below.grows (mac_alloc _ _) hg6 (size_le_alloc _ _) (Nat.le_refl _)))
    refine bodyPost_ret (v := .tuple #[.agg (idv (List.replicate 32 0)), .bool false]) ?_ ?_ ?_
    · exact results_row_tmp Tryd.results29 _ _ _ w.heap.size 33 _ (0, 0) rfl hX6.is Tryd.underlying33 (info32 rfl) _ rfl
    · rfl
    · exact ⟨rfl, hB6⟩
end Go.Proofs.YtomfnnhdihbpfaaDoor
