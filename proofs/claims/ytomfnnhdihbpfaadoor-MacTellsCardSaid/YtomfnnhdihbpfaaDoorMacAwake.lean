/- The walk over the laws' awake (the chapter's example). -/
import Derived.Test.YtomfnnhdihbpfaaDoorMacTag
import Derived.Test.YtomfnnhdihbpfaaDoorMacSame
import Derived.Lib.SlBytesConst
import Derived.BigQuiet
namespace Go.Proofs.YtomfnnhdihbpfaaDoor
open Go.RowKit

theorem ok_all {l : List Int} (h : l.all (fun x => decide (0 ≤ x ∧ x < 256)) = true) : ∀ j, 0 ≤ l.getD j 0 ∧ l.getD j 0 < 256 := by
  intro j
  simp only [List.getD_eq_getElem?_getD]
  cases hj : l[j]? with
  | none => simp
  | some y =>
    have := List.all_eq_true.1 h y (List.mem_of_getElem? hj)
    simpa using this
theorem const_bts (w : World) (cs : Array Value) (l : List Int) (n : Nat) (fr : Nat × Nat) (hcs : cs = idv l) (hl : l.length = n) (hm : n ≤ maxLen) (hok : ∀ j, 0 ≤ l.getD j 0 ∧ l.getD j 0 < 256) :
    Bts (w.alloc (.cells cs 5 fr)) (some ⟨w.heap.size, 0, none⟩) n n l := by
  subst hcs
  refine ⟨hl, Nat.le_refl _, hm, hok, (fun e => by cases e), fun _ => ⟨w.heap.size, 0, rfl, fun j hj => ?_⟩⟩
  rw [Nat.zero_add, cell_of_row _ _ _ _ _ _ (heap_alloc_new w _), idv_get l j (by omega)]
theorem jefe_ok : ∀ j, 0 ≤ jefe.getD j 0 ∧ jefe.getD j 0 < 256 := ok_all (by decide)
theorem whatDo_ok : ∀ j, 0 ≤ whatDo.getD j 0 ∧ whatDo.getD j 0 < 256 := ok_all (by decide)
theorem size_next (w : World) (o : Obj) : (w.alloc o).heap.size = w.heap.size + 1 := by simp
theorem const_bts_next (w : World) (o : Obj) (cs : Array Value) (l : List Int) (n : Nat) (fr : Nat × Nat) (hcs : cs = idv l) (hl : l.length = n) (hm : n ≤ maxLen) (hok : ∀ j, 0 ≤ l.getD j 0 ∧ l.getD j 0 < 256) :
    Bts ((w.alloc o).alloc (.cells cs 5 fr)) (some ⟨w.heap.size + 1, 0, none⟩) n n l := by
  have h := const_bts (w.alloc o) cs l n fr hcs hl hm hok
  rw [size_next] at h
  exact h

set_option maxRecDepth 100000 in
set_option maxHeartbeats 1000000 in
theorem mawake_any (w : World) (hK : KTab w) :
    Calls Tryd.prog 28 #[] w fun e w' => e = .returned (.bool true) ∧ Below w.heap.size w w' := by
  obtain ⟨Z, hZ⟩ : ∃ Z, Z = tagL jefe whatDo := ⟨_, rfl⟩
  have hl : Z.length = 32 := by rw [hZ, tagL]; exact sumL_length _
  have hZo : ∀ j, 0 ≤ Z.getD j 0 ∧ Z.getD j 0 < 256 := by rw [hZ, tagL]; exact ok_sum _
  have hv : (Z.getD 0 0, Z.getD 1 0, Z.getD 2 0, Z.getD 3 0) = (91, 220, 193, 70) := by rw [hZ]; exact jefe_first
  simp only [Prod.mk.injEq] at hv
  have HV := Lib.hid hv
  have HZ := Lib.hid hZ
  have HL := Lib.hid hl
  have HO := Lib.hid hZo
  clear hZ hl hv hZo
  have k1 := Lib.run_convert_bytes_const (P := Tryd.prog) w 24 5 (idv jefe) 4 4 Tryd.underlying24 Tryd.underlying5
  have k2 := Lib.run_convert_bytes_const (P := Tryd.prog) (w.alloc (.cells (idv jefe) 5 (4, 5))) 24 5 (idv whatDo) 28 28 Tryd.underlying24 Tryd.underlying5
  rw [size_next] at k2
  simp only [idv, byv, jefe, whatDo, List.map_cons, List.map_nil] at k1 k2
  go_enter Tryd.func28, Tryd.ntmps28
  go_wp2_with (first
    | (go_at_call 33; refine (tag_any _ _ 4 4 28 28 jefe whatDo _ (hK.from (two_below w _ _)) (by omega) (by omega) ((const_bts w _ jefe 4 _ rfl rfl (by unfold maxLen; omega) jefe_ok).more _) (const_bts_next w _ _ whatDo 28 _ rfl rfl (by unfold maxLen; omega) whatDo_ok)).mono ?_; rintro e w1 ⟨he, hb1⟩
       rw [← HZ.out] at he
       subst he
       obtain ⟨hB1, _, _⟩ := after_two hb1
       clear hb1)
    | ((with_reducible refine wpList_store_b rfl 33 _ _ rfl w1.heap.size Z ?hx ?hy 33 (List.replicate 32 0) (rowb_lit w1 33 _ _ ?hz) (info32 HL.out) ?hl ?_); (case hx => rfl); (case hy => rfl); (case hz => rfl); (case hl => rw [HL.out]; rfl)
       intro w2 hg2 hA2 hs2
       have hB2 : Below w.heap.size w w2 := Below.grows (hB1.alloc hB1.size _) hg2 (Nat.le_trans hB1.size (size_le_alloc _ _)) hB1.size
       clear hg2 hs2))
  have a0 := hA2.cell 0 (by rw [HL.out]; omega)
  have a1 := hA2.cell 1 (by rw [HL.out]; omega)
  have a2 := hA2.cell 2 (by rw [HL.out]; omega)
  have a3 := hA2.cell 3 (by rw [HL.out]; omega)
  rw [HV.out.1] at a0
  rw [HV.out.2.1] at a1
  rw [HV.out.2.2.1] at a2
  rw [HV.out.2.2.2] at a3
  clear k1 k2
  go_quiet ((go_at_call 35; exact Calls.quiet_of (msame_any _ _ 32 32 32 32 Z Z _ (Bts.draw (hA2.btsAt HL.out (by unfold maxLen; omega) HO.out) _) (Bts.draw (hA2.btsAt HL.out (by unfold maxLen; omega) HO.out) _))))
  go_wp2
  go_ret
  exact ⟨by simp, below_drewN hB2 _⟩
end Go.Proofs.YtomfnnhdihbpfaaDoor
