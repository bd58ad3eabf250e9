/- The walk over package entry's Put. -/
import Derived.Test.YtfjiefhicjnnnaaEntNums
import Derived.Test.YtfjiefhicjnnnaaBasGuard
import Derived.Test.YtfjiefhicjnnnaaBasArr
namespace Go.Proofs.Ytfjiefhicjnnnaa
set_option linter.unusedVariables false
set_option linter.unusedSimpArgs false
open Go.RowKit

theorem in_alloc {w1 : World} {g : Nat} {o1 : Obj} (h1 : w1.heap[g]? = some o1) (o : Obj) : (w1.alloc o).heap[g]? = some o1 := (Below.heap_alloc w1 o _ (Array.getElem?_eq_some_iff.1 h1).1).trans h1
theorem numR_one (p : Int × Int) : ∀ u ∈ numR p, u.oneCell' = true := by
  intro u hu
  simp only [numR, List.mem_cons, List.not_mem_nil, or_false] at hu
  rcases hu with rfl | rfl <;> rfl
theorem num_index {u : En} {cs : Array Value} (hc : numA u = cs) (k : Nat) (hk : k < 9) (w : World) :
    (Instr.index 46 (.agg cs) (.int .i64 k)).run Try.prog w = .ok (.int .u64 ((numsE u).getD k 0)) w := by
  refine run_index_arr 46 22 9 .u64 _ k k _ Try.underlying46 Try.underlying22 (by kernel_rfl) rfl hk ?_ w
  have hl : k < (numsE u).length := hk
  rw [← hc]
  simp only [numA, List.getElem?_toArray, List.getElem?_map, List.getD_eq_getElem?_getD, List.getElem?_eq_getElem hl, Option.map_some, Option.getD_some]
abbrev szC : Array Value := #[.int .i64 1, .int .i64 4, .int .i64 4, .int .i64 1, .int .i64 8, .int .i64 8, .int .i64 1, .int .i64 2, .int .i64 1]
/-- the block g holds the sizes -/
structure RowZ (w : World) (g : Nat) : Prop where
  blk : w.heap[g]? = some (.cells szC 43 (0, 0))
theorem RowZ.below {w w' : World} {g : Nat} (h : RowZ w g) (hb : Below w.heap.size w w') : RowZ w' g := ⟨(hb.block g (Array.getElem?_eq_some_iff.1 h.blk).1).trans h.blk⟩
theorem RowZ.lt {w : World} {g : Nat} (h : RowZ w g) : g < w.heap.size := (Array.getElem?_eq_some_iff.1 h.blk).1
theorem RowZ.at_ {w : World} {g : Nat} (h : RowZ w g) (k : Nat) (hk : k < 9) : w.cell? ⟨g, k, none⟩ = some (.int .i64 (szI.getD k 0)) := by
  rw [cell_of_row _ _ _ _ _ _ h.blk]
  match k, hk with
  | 0, _ | 1, _ | 2, _ | 3, _ | 4, _ | 5, _ | 6, _ | 7, _ | 8, _ => rfl
theorem row_take {u : En} (k : Nat) (hk : k < 9) : (rowE u).take (k + 1) = (rowE u).take k ++ [((numsE u).getD k 0, szI.getD k 0)] := by
  have hl : k < (rowE u).length := hk
  rw [List.take_succ_eq_append_getElem hl]
  congr 2
  match k, hk with
  | 0, _ | 1, _ | 2, _ | 3, _ | 4, _ | 5, _ | 6, _ | 7, _ | 8, _ => rfl

theorem eput_no (u : En) (w : World) (hm : mayE u = false) :
    Calls Try.prog 10 #[enV u] w fun e w' => e = .returned (.tuple #[.slice none 0 0, .bool false]) ∧ Below w.heap.size w w' := by
  have hmc := fun w => may_any u w
  rw [hm] at hmc
  unfold enV at hmc ⊢
  obtain ⟨C, hC⟩ : ∃ C, C = enA u := ⟨_, rfl⟩
  rw [← hC] at hmc ⊢
  have hCs : C.size = 9 := by rw [hC]; rfl
  have HCS := Lib.hid hCs
  have HMC := Lib.hid hmc
  clear hmc hC hCs
  go_enter Try.func10, Try.ntmps10
  go_wp2_with (first
    | ((with_reducible refine wpList_load_blk 25 _ rfl w.heap.size ?hx2 25 C (0, 0) _ (heap_alloc_new w _) Try.underlying25 ?hd2 (info_en HCS.out) ?_ ?hw2); (case hx2 => rfl); (case hd2 => rfl); (case hw2 => rfl))
    | (go_at_call 18; (with_reducible refine (HMC.out _).mono ?_); rintro e w1 ⟨rfl, hb1⟩))
  go_ret2
  exact ⟨rfl, (after_one hb1).1⟩
set_option maxRecDepth 100000 in
set_option maxHeartbeats 2000000 in
theorem eput_yes (u : En) (w : World) (hm : mayE u = true) (ho : u.ok) :
    Calls Try.prog 10 #[enV u] w fun e w' => ∃ v, e = .returned (.tuple #[v, .bool true]) ∧ Own w' w.heap.size v (putE u) ∧ Below w.heap.size w w' := by
  have hmc := fun w => may_any u w
  rw [hm] at hmc
  have hnc := fun w => nums_of u w hm ho
  have hcat := put_fits hm ho
  have hsm := row_small hm ho
  have hnum : ∀ k, k < 9 → 0 ≤ (numsE u).getD k 0 ∧ (numsE u).getD k 0 < 18446744073709551616 := fun k hk => by
    have h1 : ((rowE u).getD k (0, 0)) ∈ rowE u := by
      have hl : k < (rowE u).length := hk
      rw [List.getD_eq_getElem?_getD, List.getElem?_eq_getElem hl]
      exact List.getElem_mem hl
    have h2 := hsm _ h1
    match k, hk with
    | 0, _ | 1, _ | 2, _ | 3, _ | 4, _ | 5, _ | 6, _ | 7, _ | 8, _ => exact ⟨h2.1, h2.2.1⟩
  unfold enV at hmc hnc ⊢
  obtain ⟨C, hC⟩ : ∃ C, C = enA u := ⟨_, rfl⟩
  rw [← hC] at hmc hnc ⊢
  have hCs : C.size = 9 := by rw [hC]; rfl
  obtain ⟨M, hM⟩ : ∃ M, numA u = M := ⟨_, rfl⟩
  have hnv : numV u = .agg M := by rw [← hM]; rfl
  rw [hnv] at hnc
  have HCS := Lib.hid hCs
  have HMC := Lib.hid hmc
  have HNC := Lib.hid hnc
  have HM := Lib.hid hM
  have HCAT := Lib.hid hcat
  have HSM := Lib.hid hsm
  have HNUM := Lib.hid hnum
  have HC := Lib.hid hC
  have HSZ := Lib.hid sizes_any
  clear hmc hnc hC hCs hM hnv hcat hsm hnum
  go_enter Try.func10, Try.ntmps10
  go_wp2_with (first
    | ((with_reducible refine wpList_load_blk 25 _ rfl w.heap.size ?hx2 25 C (0, 0) _ (heap_alloc_new w _) Try.underlying25 ?hd2 (info_en HCS.out) ?_ ?hw2); (case hx2 => rfl); (case hd2 => rfl); (case hw2 => rfl))
    | (go_at_call 18; (with_reducible refine (HMC.out _).mono ?_); rintro e w1 ⟨rfl, hb1⟩
       have hE1 := after_alloc hb1
       have hB1 := (after_one hb1).1
       clear hb1)
    | (go_at_call 22; (with_reducible refine (HSZ.out _).mono ?_); rintro e w2 ⟨rfl, hb2⟩
       unfold szV
       have hE2 := (hb2.block _ (Array.getElem?_eq_some_iff.1 hE1).1).trans hE1
       have hB2 := hB1.trans (hb2.mono hB1.size)
       clear hb2 hE1 hB1)
    | ((with_reducible refine wpList_load_blk 25 _ rfl w.heap.size ?hx3 25 C (0, 0) _ (in_alloc hE2 _) Try.underlying25 ?hd3 (info_en HCS.out) ?_ ?hw3); (case hx3 => rfl); (case hd3 => rfl); (case hw3 => rfl))
    | (go_at_call 23; (with_reducible refine (HNC.out _).mono ?_); rintro e w3 ⟨rfl, hb3⟩
       have hZ3 : RowZ w3 w2.heap.size := ⟨after_alloc hb3⟩
       have hB3 := hB2.trans ((after_one hb3).1.mono hB2.size)
       clear hb3 hE2 hB2))
  have HZ3 := Lib.hid hZ3
  have HB3 := Lib.hid hB3
  have hlt3 := hZ3.lt
  clear hZ3 hB3
  go_loopw [5, 6, 7, 14] (fun v y z i wr => ∃ k : Nat, k ≤ 9 ∧ i = .int .i64 k ∧ OwnR 49 2 wr w3.heap.size v (((rowE u).take k).map numR) ∧ Below w3.heap.size w3 wr) (fun _ _ _ i _ => 9 - (intOf i).toNat)
  case atStart => exact ⟨0, by omega, rfl, OwnR.nil _ _ _ _, Below.refl _ _⟩
  case round =>
    obtain ⟨k, hk9, rfl, hown, hB⟩ := hrel
    have HO := Lib.hid hown
    clear hown
    by_cases hlt : k < 9
    · have hix := num_index HM.out k hlt
      have hcell := (hB.cell (p := ⟨w2.heap.size, k, none⟩) hlt3).trans (HZ3.out.at_ k hlt)
      obtain ⟨y0, y1⟩ := HNUM.out k hlt
      have hsn : ((rowE u).take (k + 1)).map numR = ((rowE u).take k).map numR ++ [numR ((numsE u).getD k 0, szI.getD k 0)] := by rw [row_take k hlt, List.map_append]; rfl
      obtain ⟨y, hy⟩ : ∃ y, (numsE u).getD k 0 = y := ⟨_, rfl⟩
      obtain ⟨x, hx⟩ : ∃ x, szI.getD k 0 = x := ⟨_, rfl⟩
      rw [hy] at hix y0 y1 hsn
      rw [hx] at hcell hsn
      obtain ⟨L, hL⟩ : ∃ L, L = ((rowE u).take k).map numR := ⟨_, rfl⟩
      have hLl : L.length ≤ 9 := by rw [hL, List.length_map, List.length_take]; omega
      rw [← hL] at hsn
      have hown := HO.out
      rw [← hL] at hown
      have HNX := Lib.hid hsn
      have HLL := Lib.hid hLl
      clear hx hy hsn hL HO hLl
      go_wp2_with (at_builtin
                   refine wpList_append_r rfl 45 49 2 16 _ _ rfl Try.underlying45 (by kernel_rfl) (by omega) w3.heap.size u5 L rfl (hown.more _) _ 1 1 [numR (y, x)] rfl (one_rws 2 49 _ _ rfl (numR_one (y, x))) (by have := HLL.out; omega) (by have := HLL.out; omega) (Nat.le_trans hB.size (size_le_alloc _ _)) ?_
                   intro v5 w5 hown5 hg5
                   have hB5 : Below w3.heap.size w3 w5 := (hB.alloc hB.size _).grown hg5 (Nat.le_trans hB.size (size_le_alloc _ _)) (fun k hk => (hown.size k hk).1)
                   rw [← HNX.out] at hown5
                   clear hg5)
      go_roundw
      case rel => exact ⟨k + 1, by omega, by go_num, hown5, hB5⟩
      case measure => simp [intOf]; omega
    · have hkn : k = 9 := by omega
      have htk : (rowE u).take k = rowE u := by rw [hkn]; rfl
      have hown := HO.out
      rw [htk] at hown
      obtain ⟨A, n, cap, rfl, hrw⟩ := hown.rws
      have hnms : Nms wr A n cap (rowE u) := ⟨hrw, HSM.out⟩
      have hca := (cat_any A n cap (rowE u) wr hnms).mono (R' := fun e w' => ∃ v, e = .returned (.tuple #[v, .bool true]) ∧ Own w' wr.heap.size v (putE u) ∧ Below wr.heap.size wr w') fun e w' h => by
        obtain ⟨v, he, ho⟩ := h.1 HCAT.out
        exact ⟨v, he, ho, h.2.2⟩
      have HCA := Lib.hid hca
      have hB3 := HB3.out
      have HB9 := Lib.hid (hB3.trans (hB.mono hB3.size))
      clear htk hkn hown hrw hnms hca hB HO hB3
      go_wp2_with (go_at_call 24; (with_reducible refine HCA.out.mono ?_); rintro e w6 ⟨v6, rfl, hown6, hb6⟩; have HO6 := Lib.hid hown6; have HB6 := Lib.hid hb6; clear hown6 hb6)
      go_ret2
      exact ⟨v6, rfl, HO6.out.mono HB9.out.size, HB9.out.trans (HB6.out.mono HB9.out.size)⟩
theorem eput_any (u : En) (w : World) (ho : u.ok) :
    Calls Try.prog 10 #[enV u] w (GivesB (if mayE u then putE u else []) (mayE u) w) := by
  cases hm : mayE u with
  | false => exact (eput_no u w hm).mono fun e w' ⟨he, hb⟩ => ⟨none, 0, 0, he, Bts.nil w', hb⟩
  | true =>
    refine (eput_yes u w hm ho).mono ?_
    rintro e w' ⟨v, rfl, hv, hb⟩
    exact hv.gives (put_ok u) hb
end Go.Proofs.Ytfjiefhicjnnnaa
