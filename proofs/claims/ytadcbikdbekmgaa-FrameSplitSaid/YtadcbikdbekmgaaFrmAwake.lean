/- The walk over the laws' awake (the chapter's examples). -/
import Derived.Test.YtadcbikdbekmgaaFrmEq
import Derived.Test.YtadcbikdbekmgaaFrmSplit
namespace Go.Proofs.Ytadcbikdbekmgaa
set_option linter.unusedVariables false
set_option linter.unusedSimpArgs false
open Go.RowKit

def fHello : Fr := ⟨0, 3, 0, 9, 0, 0, 0, 0, noTag⟩
def fNo : Fr := ⟨6, 0, 0, 0, 0, 0, 5, 0, noTag⟩
theorem hello_ok : fHello.ok := ⟨by decide, by decide, by decide, by decide, by decide, by decide, by decide, by decide, rfl, ok_rep 32⟩
theorem no_ok : fNo.ok := ⟨by decide, by decide, by decide, by decide, by decide, by decide, by decide, by decide, rfl, ok_rep 32⟩
theorem hello_put : putF fHello = [0, 10, 0, 3, 0, 0, 0, 0, 0, 0, 0, 9] := by decide
theorem no_put : putF fNo = [0, 2, 6, 5] := by decide
theorem hello_plain : plainB fHello = true := by decide
theorem no_plain : plainB fNo = true := by decide
theorem hello_cnt : cnt ([0, 10, 0, 3, 0, 0, 0, 0, 0, 0, 0, 9] ++ [0]) = 1 := by decide
theorem hello_rest : restL ([0, 10, 0, 3, 0, 0, 0, 0, 0, 0, 0, 9] ++ [0]) = [0] := by decide
theorem built_hello : Try.prog.built 26 [(1, .int .i64 3), (3, .int .u64 9)] = some (frA fHello) :=
  built_of (z := .agg (frA Fr.zero)) (places := [(0, 1), (1, 1), (2, 1), (3, 1), (4, 1), (5, 1), (6, 1), (7, 1), (8, 32)]) Try.underlying26 (by kernel_rfl) (by kernel_rfl) (by kernel_rfl)
theorem built_no : Try.prog.built 26 [(0, .int .i64 6), (6, .int .i64 5)] = some (frA fNo) :=
  built_of (z := .agg (frA Fr.zero)) (places := [(0, 1), (1, 1), (2, 1), (3, 1), (4, 1), (5, 1), (6, 1), (7, 1), (8, 32)]) Try.underlying26 (by kernel_rfl) (by kernel_rfl) (by kernel_rfl)
theorem framesL_length (l : List Int) : (framesL l).length = cnt l := by simp [framesL, framesTo]

set_option maxRecDepth 100000 in
set_option maxHeartbeats 2000000 in
theorem fawake_any (w : World) :
    Calls Try.prog 9 #[] w fun e w' => e = .returned (.bool true) ∧ Below w.heap.size w w' := by
  obtain ⟨l0, hl0⟩ : ∃ l0 : List Int, [0, 10, 0, 3, 0, 0, 0, 0, 0, 0, 0, 9] = l0 := ⟨_, rfl⟩
  obtain ⟨l1, hl1⟩ : ∃ l1 : List Int, [0, 2, 6, 5] = l1 := ⟨_, rfl⟩
  have hp0 := hello_put
  have hp1 := no_put
  have hcn := hello_cnt
  have hrs := hello_rest
  rw [hl0] at hp0 hcn hrs
  rw [hl1] at hp1
  have hlen0 : l0.length = 12 := by rw [← hl0]; rfl
  have hg1 : l0.getD 1 0 = 10 := by rw [← hl0]; rfl
  have hg3 : l0.getD 3 0 = 3 := by rw [← hl0]; rfl
  have hg11 : l0.getD 11 0 = 9 := by rw [← hl0]; rfl
  have hok0 : ∀ j, 0 ≤ l0.getD j 0 ∧ l0.getD j 0 < 256 := by rw [← hl0]; exact ok_all (by decide)
  have hb1 : bstr l1 = ⟨#[0, 2, 6, 5]⟩ := by rw [← hl1]; rfl
  have hpa := fun w => put_plain_b fHello w hello_ok true hello_plain
  have hpb := fun w => put_plain_b fNo w no_ok true no_plain
  rw [if_pos rfl, hp0] at hpa
  rw [if_pos rfl, hp1] at hpb
  have hra := (put_read hello_ok hello_plain)
  rw [hp0] at hra
  have hbl0 := built_hello
  have hbl1 := built_no
  have hu : (frA fHello)[1]? = some (.int .i64 3) := rfl
  have hCs : (frA fHello).size = 40 := rfl
  have hC1 := frA_one fHello
  unfold frV at hpa hpb
  have hrd : ∀ (A : Option Addr) (n c : Nat) (w : World), Bts w A n c l0 → Calls Try.prog 12 #[.slice A n c] w fun e w' => e = .returned (.tuple #[.agg (frA fHello), .int .i64 0]) ∧ Below w.heap.size w w' := fun A n c w hb => by
    refine (read_any A n c l0 w hb).mono fun e w' ⟨he, hB⟩ => ⟨?_, hB⟩
    rw [he, hra.1, hra.2]
    rfl
  obtain ⟨C, hC⟩ : ∃ C, frA fHello = C := ⟨_, rfl⟩
  obtain ⟨D, hD⟩ : ∃ D, frA fNo = D := ⟨_, rfl⟩
  rw [hC] at hpa hbl0 hu hCs hC1 hrd
  rw [hD] at hpb hbl1
  have HCN := Lib.hid hcn
  have HRS := Lib.hid hrs
  have HL0 := Lib.hid hlen0
  have HG1 := Lib.hid hg1
  have HG3 := Lib.hid hg3
  have HG11 := Lib.hid hg11
  have HOK := Lib.hid hok0
  have HB1 := Lib.hid hb1
  have HPA := Lib.hid hpa
  have HPB := Lib.hid hpb
  have HRD := Lib.hid hrd
  have HBL0 := Lib.hid hbl0
  have HBL1 := Lib.hid hbl1
  have HU := Lib.hid hu
  have HCS := Lib.hid hCs
  have HC1 := Lib.hid hC1
  clear hcn hrs hlen0 hg1 hg3 hg11 hok0 hb1 hpa hpb hrd hbl0 hbl1 hu hCs hC1 hC hD hl0 hl1 hp0 hp1 hra
  go_enter Try.func9, Try.ntmps9
  go_wp2_with (first
    | ((with_reducible refine wpList_build_to rfl 26 _ rfl _ C ?hb1 HBL0.out ?_); (case hb1 => rfl))
    | ((with_reducible refine wpList_build_to rfl 26 _ rfl _ D ?hb2 HBL1.out ?_); (case hb2 => rfl))
    | (go_at_call 10; (with_reducible refine (HPA.out _).mono ?_); rintro e w1 ⟨A1, m1, c1, rfl, hv1, hb1⟩
       obtain rfl : m1 = 12 := by rw [← hv1.len]; exact HL0.out)
    | (go_at_call 12; (with_reducible refine (HRD.out A1 12 c1 w1 hv1).mono ?_); rintro e w2 ⟨rfl, hb2⟩
       have hB2 := hb1.trans (hb2.mono hb1.size))
    | ((refine wpList_store_blk rfl 26 _ _ rfl w2.heap.size C ?hx3 ?hy3 26 _ (heap_alloc_new w2 _) (info_frame HCS.out) ?hs3 HC1.out ?_); (case hx3 => rfl); (case hy3 => rfl); (case hs3 => rw [HCS.out]; rfl)
       intro w3 hg3 hX3 hs3
       have hB3 : Below w.heap.size w w3 := (hB2.alloc hB2.size _).grown hg3 (Nat.le_trans hB2.size (size_le_alloc _ _)) (fun k e => by cases e; exact hB2.size)
       have hb23 : Below w2.heap.size w2 w3 := (one_alloc w2 _).grown hg3 (size_le_alloc _ _) (fun k e => by cases e; exact Nat.le_refl _)
       have hv3 := (hv1.below hb2).below hb23
       clear hg3 hs3)
    | (go_at_call 10; (with_reducible refine (HPB.out _).mono ?_); rintro e w4 ⟨A4, m4, c4, rfl, hv4, hb4⟩
       have hB4 := hB3.trans (hb4.mono hB3.size)
       have hv14 := hv3.below hb4
       have hX4 := (hb4.block _ (Array.getElem?_eq_some_iff.1 hX3).1).trans hX3)
    | (at_builtin
       refine wpList_append_b rfl _ _ rfl w4.heap.size (.slice none 0 0) [] rfl (Own.nil _ _) A1 12 c1 l0 rfl hv14 (by simp) (Nat.le_refl _) ?_
       intro v5 w5 hown5 hg5
       rw [List.nil_append] at hown5
       have hb5 : Below w4.heap.size w4 w5 := (Below.refl _ _).grown hg5 (Nat.le_refl _) (fun k hk => by cases hk))
    | (at_builtin
       refine wpList_append_b rfl _ _ rfl w4.heap.size v5 l0 rfl (hown5.more _) _ 1 1 [0] rfl (one_bts w5 0 (by omega) (by omega)) (by have := HL0.out; omega) (Nat.le_trans hb5.size (size_le_alloc _ _)) ?_
       intro v6 w6 hown6 hg6
       have hb6 : Below w4.heap.size w4 w6 := (hb5.alloc hb5.size _).grown hg6 (Nat.le_trans hb5.size (size_le_alloc _ _)) (fun k hk => (hown5.size k hk).1)
       obtain ⟨A6, m6, c6, rfl, hbt6⟩ := hown6.slice (ok_append HOK.out (ok_one1 0 (by omega) (by omega)))
       have hm6 : m6 ≤ 1000000 := by rw [← hbt6.len, List.length_append, HL0.out]; simp)
    | (go_at_call 14; (with_reducible refine (split_any A6 m6 c6 (l0 ++ [0]) w6 hbt6 hm6).mono ?_); rintro e w7 ⟨v7, u7, sl7, rfl, hown7, hpt7, hu7, hb7⟩
       have hb47 : Below w4.heap.size w4 w7 := hb6.trans (hb7.mono hb6.size)
       rw [HRS.out] at hu7
       obtain ⟨A7, n7, c7, rfl, hrw7⟩ := hown7.rws
       obtain rfl : n7 = 1 := by rw [← hrw7.len, List.length_map, hpt7.len, framesL_length, HCN.out]
       obtain ⟨A8, n8, c8, rfl, hbt8⟩ := hu7.slice (ok_one1 0 (by omega) (by omega))
       obtain rfl : n8 = 1 := by rw [← hbt8.len]; rfl
       have hv17 := hv14.below hb47
       obtain ⟨bb, off, rfl, hcs⟩ := hv17.at_ (by omega)
       have q1 := hcs 1 (by omega)
       have q3 := hcs 3 (by omega)
       have q11 := hcs 11 (by omega)
       rw [HG1.out] at q1
       rw [HG3.out] at q3
       rw [HG11.out] at q11
       have hX7 := (hb47.block _ (Array.getElem?_eq_some_iff.1 hX4).1).trans hX4
       have qu : w7.cell? ⟨w2.heap.size, 1, none⟩ = some (.int .i64 3) := (cell_of_row _ _ _ _ _ _ hX7).trans HU.out
       have qc := conv_bts (hv4.below hb47)
       rw [HB1.out] at qc
       have hB7 := hB4.trans (hb47.mono hB4.size)
       clear hcs hX7 hX4 hX3 hv17 hv14 hv3 hv1 hv4 hbt8 hrw7 hpt7 hu7 hown7 hown6 hown5 hg5 hg6))
  go_ret
  exact ⟨rfl, hB7⟩
end Go.Proofs.Ytadcbikdbekmgaa
