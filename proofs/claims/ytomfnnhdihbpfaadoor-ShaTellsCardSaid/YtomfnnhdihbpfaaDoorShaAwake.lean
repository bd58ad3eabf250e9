/- The walks over the laws' awake (the chapter's examples) and Few. -/
import Derived.Test.YtomfnnhdihbpfaaDoorShaSum
import Derived.Lib.SlBytesConst
namespace Go.Proofs.YtomfnnhdihbpfaaDoor
open Go.RowKit

theorem abc_bts (w : World) : Bts (w.alloc (.cells #[.int .u8 97, .int .u8 98, .int .u8 99] 5 (3, 4))) (some ⟨w.heap.size, 0, none⟩) 3 3 [97, 98, 99] := by
  refine ⟨rfl, Nat.le_refl _, by unfold maxLen; omega, ?_, (fun e => by cases e), fun _ => ⟨w.heap.size, 0, rfl, fun j hj => ?_⟩⟩
  · intro j
    match j with
    | 0 => simp
    | 1 => simp
    | 2 => simp
    | j + 3 => simp
  · rw [Nat.zero_add, cell_of_row _ _ _ _ _ _ (heap_alloc_new w _)]
    match j, hj with
    | 0, _ => rfl
    | 1, _ => rfl
    | 2, _ => rfl

theorem sum_length (l : List Int) : (sumL l).length = 32 := by rw [sumL, endL]; exact spelt_length _

set_option maxHeartbeats 400000 in
theorem awake_any (w : World) (hK : KTab w) :
    Calls Tryd.prog 15 #[] w fun e w' => e = .returned (.bool true) ∧ Below w.heap.size w w' := by
  obtain ⟨Z1, hZ1⟩ : ∃ Z, Z = sumL [97, 98, 99] := ⟨_, rfl⟩
  obtain ⟨Z2, hZ2⟩ : ∃ Z, Z = sumL [] := ⟨_, rfl⟩
  have hl1 : Z1.length = 32 := by rw [hZ1]; exact sum_length _
  have hl2 : Z2.length = 32 := by rw [hZ2]; exact sum_length _
  have hv1 : (Z1.getD 0 0, Z1.getD 1 0, Z1.getD 2 0, Z1.getD 3 0) = (186, 120, 22, 191) := by rw [hZ1]; exact abc_first
  have hv2 : (Z2.getD 0 0, Z2.getD 3 0) = (227, 66) := by rw [hZ2]; exact none_first
  simp only [Prod.mk.injEq] at hv1 hv2
  have HV1 := Lib.hid hv1
  have HV2 := Lib.hid hv2
  have H1 := Lib.hid hZ1
  have H2 := Lib.hid hZ2
  have HL1 := Lib.hid hl1
  have HL2 := Lib.hid hl2
  clear hZ1 hZ2 hl1 hl2 hv1 hv2
  have kc := Lib.run_convert_bytes_const (P := Tryd.prog) w 24 5 #[.int .u8 97, .int .u8 98, .int .u8 99] 3 3 Tryd.underlying24 Tryd.underlying5
  go_enter Tryd.func15, Tryd.ntmps15
  go_wp2_with fail
  clear kc
  refine (sum_yes _ 3 3 [97, 98, 99] _ (hK.from ((Below.refl _ _).alloc (Nat.le_refl _) _)) (by omega) (abc_bts w)).mono ?_
  rintro e w1 ⟨he, hb1⟩
  rw [← H1.out] at he
  subst he
  obtain ⟨hB1, hz1, _⟩ := after_one hb1
  clear hb1
  go_wp2_with (first
    | ((with_reducible refine wpList_store_b rfl 33 _ _ rfl w1.heap.size Z1 ?hx ?hy 33 (List.replicate 32 0) (rowb_lit w1 33 _ _ ?hz) (info32 HL1.out) ?hl ?hm); (case hx => rfl); (case hy => rfl); (case hz => rfl); (case hl => rw [HL1.out]; rfl)
       intro w2 hg2 hA2 hs2
       have hB2 : Below w.heap.size w w2 := Below.grows (hB1.alloc (by omega) _) hg2 (Nat.le_trans hB1.size (size_le_alloc _ _)) (by omega)
       clear hg2 hs2)
    | (go_at_call 26; refine (sum_yes none 0 0 [] w2 (hK.from hB2) (by omega) (Bts.nil w2)).mono ?_; rintro e w3 ⟨he, hb3⟩
       rw [← H2.out] at he
       subst he
       have hA3 := hA2.below hb3 hA2.lt
       have hB3 := hB2.trans (hb3.mono hB2.size)
       have hz3 := hA3.lt
       clear hb3 hA2)
    | ((with_reducible refine wpList_store_b rfl 33 _ _ rfl w3.heap.size Z2 ?hx2 ?hy2 33 (List.replicate 32 0) (rowb_lit w3 33 _ _ ?hz2) (info32 HL2.out) ?hl2 ?hm2); (case hx2 => rfl); (case hy2 => rfl); (case hz2 => rfl); (case hl2 => rw [HL2.out]; rfl)
       intro w4 hg4 hC4 hs4
       have hA4 : RowB w4 w1.heap.size 33 Z1 := (hA3.more _).grown hg4 (ne_some (by omega))
       have hB4 : Below w.heap.size w w4 := Below.grows (hB3.alloc hB3.size _) hg4 (Nat.le_trans hB3.size (size_le_alloc _ _)) hB3.size
       have a0 := hA4.cell 0 (by rw [HL1.out]; omega)
       have a1 := hA4.cell 1 (by rw [HL1.out]; omega)
       have a2 := hA4.cell 2 (by rw [HL1.out]; omega)
       have a3 := hA4.cell 3 (by rw [HL1.out]; omega)
       have b0 := hC4.cell 0 (by rw [HL2.out]; omega)
       have b3 := hC4.cell 3 (by rw [HL2.out]; omega)
       rw [HV1.out.1] at a0
       rw [HV1.out.2.1] at a1
       rw [HV1.out.2.2.1] at a2
       rw [HV1.out.2.2.2] at a3
       rw [HV2.out.1] at b0
       rw [HV2.out.2] at b3
       clear hg4 hs4 hA3)
    | (go_at_call 21; refine (new_any _).mono ?_; rintro e w5 ⟨rfl, hb5⟩)
    | (go_at_call 23; refine (may_any _ _ _ _ _ _ _ _ _ _ _ _ _).mono ?_; rintro e w6 ⟨rfl, rfl⟩))
  have hmb : mayB 0 0 = true := by decide
  go_ret
  refine ⟨congrArg (fun b => Ending.returned (Value.bool b)) hmb, ?_⟩
  exact (hB4.trans (hb5.mono hB4.size)).alloc (Nat.le_trans hB4.size hb5.size) _

set_option maxHeartbeats 400000 in
theorem few_any (x0 x1 x2 x3 x4 x5 x6 x7 : Int) (A : Option Addr) (n c : Nat) (len : Int) (w : World) (_hn : n ≤ 9223372036854775807) :
    Calls Tryd.prog 16 #[hashV x0 x1 x2 x3 x4 x5 x6 x7 A n c len] w fun e w' => e = .returned (.bool (decide ((n : Int) ≤ 100))) ∧
      w.alloc (.cells #[.int .u32 x0, .int .u32 x1, .int .u32 x2, .int .u32 x3, .int .u32 x4, .int .u32 x5, .int .u32 x6, .int .u32 x7, .slice A n c, .int .i64 len] 26) = w' := by
  go_enter Tryd.func16, Tryd.ntmps16
  go_wp2
  go_ret
  exact ⟨rfl, rfl⟩
end Go.Proofs.YtomfnnhdihbpfaaDoor
