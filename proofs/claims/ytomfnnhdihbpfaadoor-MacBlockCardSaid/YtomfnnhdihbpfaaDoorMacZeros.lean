/- append(v, make([]byte, k)...), v the call's own: k noughts behind. -/
import Derived.Test.YtomfnnhdihbpfaaDoorMacStep
import Derived.Lib.AppendZeros
import Derived.Lib.AppendZerosOnto
namespace Go.Proofs.YtomfnnhdihbpfaaDoor
open Go.RowKit

theorem zeroCells_u8 (k : Nat) : Builtin.zeroCells (Value.int .u8 0).cells k = (byv (List.replicate k 0)).toArray := by
  rw [← Array.toList_inj]
  apply List.ext_getElem?
  intro j
  have hs : (Value.int .u8 0).cells = #[Value.int .u8 0] := rfl
  rw [hs]
  by_cases hj : j < k
  · simp [Builtin.zeroCells, byv, hj, Nat.mod_one]
  · simp [Builtin.zeroCells, byv, hj]
theorem ok_zeros {l : List Int} (h : ∀ j, 0 ≤ l.getD j 0 ∧ l.getD j 0 < 256) (k : Nat) : ∀ j, 0 ≤ (l ++ List.replicate k 0).getD j 0 ∧ (l ++ List.replicate k 0).getD j 0 < 256 := ok_append h (ok_rep k)

theorem run_append_zeros {w : World} (base : Nat) (ty : TypeId) (v : Value) (l : List Int) (hown : Own w base v l) (k : Nat) (hk : k ≤ 1048576) (hl : l.length ≤ 1048576) (hbase : base ≤ w.heap.size) :
    ∃ v' w', (Builtin.append_ #[24, 3] ty #[v, .int .i64 k]).run Tryd.prog w = .ok v' w' ∧ Own w' base v' (l ++ List.replicate k 0) ∧ w.grownBy w' v.ownBlock := by
  obtain ⟨i, hi, hz, h1, h2⟩ := info_parts info_u8
  have hu := Tryd.underlying24
  have hun := Tryd.underlying3
  have hw : IntKind.i64.wrap (k : Int) = k := by rw [IntKind.wrap_i64]; omega
  have hneg : ¬ ((k : Int) < 0) := by omega
  have h48 : ¬ ((281474976710656 : Int) < (k : Int) * (i.bytes : Int)) := by rw [h2]; omega
  have hlr : (l ++ List.replicate k (0 : Int)).length = l.length + k := by simp
  rcases hown.2 with ⟨rfl, h0⟩ | ⟨g, cap, cur, rfl, hbg, hg, hnc, hcm, hcs, htake⟩
  · obtain rfl : l = [] := List.eq_nil_of_length_eq_zero h0
    by_cases hk0 : k = 0
    · subst hk0
      refine ⟨.slice none 0 0, w, ?_, by simpa using hown, World.grownBy.refl w _⟩
      have hw0 : IntKind.i64.wrap 0 = 0 := by rw [IntKind.wrap_i64]; rfl
      simp [Builtin.append_, run_underlying hu, run_underlying hun, sizeOf, typeInfo, hi, asInt, asIntOf, hw0, h2]
    · have hr := Lib.run_append_nil_zeros (P := Tryd.prog) w 24 3 ty 5 i (.int .u8 0) .i64 .i64 hu hun hi hz k (by omega) (by omega) (by omega) (by rw [h2]; omega)
      have hge := grownCap_ge w k 0 5
      have hcm := grownCap_le_maxLen w k 0 5 (by unfold maxLen; omega)
      refine ⟨_, _, hr, ⟨?_, .inr ⟨w.heap.size, _, _, ?_, hbase, heap_alloc_new w.drew _, ?_, hcm, ?_, ?_⟩⟩, ⟨rfl, rfl, rfl, by simp, fun j hj _ => heap_alloc_old w.drew _ hj⟩⟩
      · rw [byv_length, Nat.mul_one]
      · rw [List.nil_append, List.length_replicate]
      · rw [List.nil_append, List.length_replicate]; exact hge
      · rw [Array.size_append, size_zeroCells, size_zeroCells]
        have hs : (Value.int .u8 0).cells.size = 1 := rfl
        rw [hs]
        omega
      · rw [Array.toList_append, zeroCells_u8, List.nil_append, List.length_replicate, Nat.mul_one]
        exact List.take_left' (by rw [byv_length, List.length_replicate])
  · by_cases hroom : l.length + k ≤ cap
    · have hst := run_storeCells_at Tryd.prog g (l.length * 1) 5 (byv (List.replicate k 0)) 0 cur w hg (by rw [byv_length, List.length_replicate]; omega) (byv_one _)
      simp only [Nat.add_zero, Nat.mul_one] at hst
      obtain ⟨W1, hW1⟩ : ∃ W1, W1 = w.setRow g (cur.toList.take l.length ++ byv (List.replicate k 0) ++ cur.toList.drop (l.length + (byv (List.replicate k 0)).length)).toArray := ⟨_, rfl⟩
      rw [← hW1] at hst
      have hr : (Builtin.append_ #[24, 3] ty #[.slice (some ⟨g, 0, none⟩) l.length cap, .int .i64 k]).run Tryd.prog w = .ok (.slice (some ⟨g, 0, none⟩) (l.length + k) cap) W1 := by
        by_cases hk0 : k = 0
        · subst hk0
          have hw0 : IntKind.i64.wrap 0 = 0 := by rw [IntKind.wrap_i64]; rfl
          have he : byv (List.replicate 0 0) = [] := rfl
          rw [he] at hst
          simp [Builtin.append_, run_underlying hu, run_underlying hun, sizeOf, typeInfo, hi, asInt, asIntOf, hw0, h1, h2, hnc, Addr.add_lit, hst]
        · have hzz : (Builtin.zeroCells (Value.int .u8 0).cells k).toList = byv (List.replicate k 0) := by rw [zeroCells_u8]
          rw [← hzz] at hst
          simp [Builtin.append_, run_underlying hu, run_underlying hun, sizeOf, typeInfo, hi, hz, asInt, asIntOf, hw, h1, h2, hroom, hk0, hneg, Addr.add_lit, zeroValue, hst]
          omega
      refine ⟨_, W1, hr, ⟨?_, .inr ⟨g, cap, _, ?_, hbg, by rw [hW1]; exact setRow_heap w g cur _ 5 _ hg, ?_, hcm, ?_, ?_⟩⟩, ?_⟩
      · rw [byv_length, Nat.mul_one]
      · rw [hlr]
      · rw [hlr]; exact hroom
      · simp only [List.size_toArray, List.length_append, List.length_take, List.length_drop, Array.length_toList, byv_length, List.length_replicate]
        omega
      · rw [Nat.mul_one] at htake
        rw [htake, hlr, Nat.mul_one, byv_append]
        exact List.take_left' (by rw [List.length_append, byv_length, byv_length, List.length_replicate])
      · rw [hW1]
        exact ⟨rfl, rfl, rfl, by simp, fun j _ hj => setRow_other w g j _ (fun e => hj (by simp [Value.ownBlock, e]))⟩
    · have holds : ∀ j u, (byv l)[j]? = some u → w.cell? ((⟨g, 0, none⟩ : Addr).add j) = some u := World.ownsRow.cells hown (g := g) rfl
      have hold : (Builtin.firstCells i.size l.length (.slice (some ⟨g, 0, none⟩) l.length cap)).run Tryd.prog w.drew = .ok (byv l).toArray w.drew := by
        have := run_firstCells_some (P := Tryd.prog) w.drew i.size l.length ⟨g, 0, none⟩ l.length cap (byv l) (by rw [byv_length, h1, Nat.mul_one]) holds
        exact this
      have hcap : cap < l.length + k := by omega
      have hr := Lib.run_append_grow_zeros (P := Tryd.prog) w 24 3 ty 5 i (.int .u8 0) .i64 .i64 hu hun hi hz (some ⟨g, 0, none⟩) l.length cap (byv l) hold k (by omega) (by omega) hcap (by omega) (by rw [h2]; omega) (growslice_fits hcap (by rw [h2]; omega))
      have hge := grownCap_ge w (l.length + k) cap 5
      have hcm2 := grownCap_le_maxLen w (l.length + k) cap 5 (by unfold maxLen; omega)
      refine ⟨_, _, hr, ⟨?_, .inr ⟨w.heap.size, _, _, ?_, hbase, heap_alloc_new w.drew _, ?_, hcm2, ?_, ?_⟩⟩, ⟨rfl, rfl, rfl, by simp, fun j hj _ => heap_alloc_old w.drew _ hj⟩⟩
      · rw [byv_length, Nat.mul_one]
      · rw [hlr]
      · rw [hlr]; exact hge
      · rw [Array.size_append, Array.size_append, size_zeroCells, size_zeroCells]
        have hs : (Value.int .u8 0).cells.size = 1 := rfl
        rw [hs, List.size_toArray, byv_length]
        omega
      · rw [Array.toList_append, Array.toList_append, zeroCells_u8, hlr, Nat.mul_one, byv_append]
        exact List.take_left' (by rw [List.length_append, byv_length, byv_length, List.length_replicate])

theorem wpList_append_zeros {w : World} {ops : Array Oper} {rest : List Oper} {o : Oper} {a : Act} {Q : Exit → Act → World → Prop} (hgd : o.guard = none) (s x : Operand)
    (ho : o.op = .call { callee := .builtin .append, args := #[s, x], argTypes := #[24, 3] })
    (base : Nat) (v : Value) (l : List Int) (hs : a.eval s = v) (hown : Own w base v l) (k : Nat) (hx : a.eval x = .int .i64 k) (hk : k ≤ 1048576) (hl : l.length ≤ 1048576) (hbase : base ≤ w.heap.size)
    (h : ∀ v' w', Own w' base v' (l ++ List.replicate k 0) → w.grownBy w' v.ownBlock → wpList Tryd.prog ops Q rest (a.put o.dst v') w') : wpList Tryd.prog ops Q (o :: rest) a w := by
  obtain ⟨v', w', hr, h2, h3⟩ := run_append_zeros base o.type v l hown k hk hl hbase
  exact Lib.wpList_append_run w hgd s x 24 3 ho v (.int .i64 k) hs hx v' w' hr (h v' w' h2 h3)
end Go.Proofs.YtomfnnhdihbpfaaDoor
