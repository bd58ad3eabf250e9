/- Joined texts: The walks over package sha's join (two slices of bytes, one behind the other) and ending (what stands behind n bytes). The walk over package sha's spelt: the bytes of a register. Arrays of bytes that lie in a block of their own. The walks over package sha's New, May, End, Add and Sum. The walk over package sha's End: the sum of a state. Slices of bytes that a call makes whole ('make([]byte, n)'): the block they lie in is known as a row. The walk over package mac's Same: two texts, held against one another to the end. The walks over package user's Same, and the document's own. The walk over package sha's Add, where the state may be, and there is room for the bytes. The walks over package sha's Add and End where they answer noughts, and over Sum. The walk over package mac's Block: a key, made as long as a block. -/
import Derived.Test.YtcfkpepohnjdfaaDoorUtJC
import Derived.Test.YtcfkpepohnjdfaaDoorUtJA
import Derived.Laws.OwnMore
import Derived.Deep.RegionHeld3
import Derived.Deep.MidRow
import Derived.OwnWalk
import Derived.BigQuiet
import Derived.Test.YtcfkpepohnjdfaaDoorUtJB
/- The walks over package sha's join (two slices of bytes, one behind the other) and ending (what stands behind n bytes). -/
namespace Go.Proofs.YtcfkpepohnjdfaaDoor
open Go.RowKit

set_option maxHeartbeats 1000000 in
theorem join_any (l l2 : List Int) (A B : Option Addr) (n c m d : Nat) (w : World) (ha : Bts w A n c l) (hb : Bts w B m d l2) (hn : n ≤ 4194304) (hm : m ≤ 4194304) :
    Calls Tryd.prog 54 #[.slice A n c, .slice B m d] w fun e w' => ∃ v, e = .returned v ∧ Own w' w.heap.size v (l ++ l2) ∧ Below w.heap.size w w' := by
  have hla := ha.len
  have HLA := Lib.hid hla
  have hln : l.length ≤ 4194304 := by omega
  clear hla
  go_enter Tryd.func54, Tryd.ntmps54
  go_wp2_with (first
    | (at_make
       refine wpList_make_b rfl _ _ rfl w.heap.size ((n : Int) + (m : Int)) (n + m) rfl rfl (by omega) (by omega) (Nat.le_refl _) ?_
       intro v1 w1 hown1 hg1
       have hB1 : Below w.heap.size w w1 := (Below.refl _ _).grown hg1 (Nat.le_refl _) (fun k hk => by cases hk))
    | (at_builtin
       refine wpList_append_b rfl (.tmp 12) (.tmp 13) rfl w.heap.size v1 [] rfl hown1 A n c l rfl (ha.below hB1) (by simp only [List.length_nil]; omega) hB1.size ?_
       intro v2 w2 hown2 hg2
       have hB2 : Below w.heap.size w w2 := hB1.grown hg2 hB1.size (fun k hk => (hown1.size k hk).1)
       clear hg2 hg1)
    | (at_builtin
       refine wpList_append_b rfl (.tmp 15) (.tmp 16) rfl w.heap.size v2 ([] ++ l) rfl hown2 B m d l2 rfl (hb.below hB2) (by simp only [List.nil_append]; omega) hB2.size ?_
       intro v3 w3 hown3 hg3
       have hB3 : Below w.heap.size w w3 := hB2.grown hg3 hB2.size (fun k hk => (hown2.size k hk).1)))
  go_ret
  exact ⟨v3, rfl, hown3, hB3⟩

theorem ok_bits8 (n i : Nat) : 0 ≤ bits8 n i ∧ bits8 n i < 256 := by
  unfold bits8; omega
theorem ok_ending (n : Nat) : ∀ j, 0 ≤ (endingL n).getD j 0 ∧ (endingL n).getD j 0 < 256 := by
  unfold endingL
  exact ok_append (ok_append (ok_one1 128 (by omega) (by omega)) (ok_rep _)) (ok_map _ (ok_bits8 n) 8)
set_option maxHeartbeats 1000000 in
theorem ending_any (n : Nat) (w : World) (hn : n ≤ 1048576) :
    Calls Tryd.prog 55 #[.int .i64 n] w fun e w' => ∃ v, e = .returned v ∧ Own w' w.heap.size v (endingL n) ∧ Below w.heap.size w w' := by
  have hno : noughts n ≤ 63 := by unfold noughts; omega
  go_enter Tryd.func55, Tryd.ntmps55
  go_wp2
  go_loopw [3] (fun v wr => ∃ k : Nat, k ≤ noughts n ∧ Own wr w.heap.size v ([128] ++ List.replicate k 0) ∧ Below w.heap.size w wr) (fun v _ => 65 - lenV v)
  case atStart => exact ⟨0, by omega, one_own w 128, (Below.refl _ _).alloc (Nat.le_refl _) _⟩
  case round =>
    obtain ⟨k, hk, hown, hB⟩ := hrel
    obtain ⟨A, cap, rfl, hbt⟩ := hown.bts (ok_append (ok_one1 128 (by omega) (by omega)) (ok_rep k))
    have hlen : ([128] ++ List.replicate k (0 : Int)).length = k + 1 := by simp
    obtain ⟨L, hL⟩ : ∃ L, L = [128] ++ List.replicate k (0 : Int) := ⟨_, rfl⟩
    rw [← hL] at hown hbt hlen
    rw [← hL, hlen]
    rw [hlen] at hbt hown
    have HL := Lib.hid hL
    have HLN := Lib.hid hlen
    clear hL hlen
    by_cases hlt : k < noughts n
    · have ht : (((n : Int) + ((k : Int) + 1) + 8) % 64 != 0) = true := by
        rw [bne_iff_ne]; unfold noughts at hlt; omega
      have hsm : L.length + 1 ≤ 140737488355328 := by rw [HLN.out]; omega
      go_wp2_with (first
        | (at_builtin
           refine wpList_append_b rfl (.tmp 14) (.tmp 15) rfl w.heap.size (.slice A (k + 1) cap) L rfl (hown.more _) (some ⟨wr.heap.size, 0, none⟩) 1 1 [0] rfl (one_bts wr 0 (by omega) (by omega)) hsm (Nat.le_trans hB.size (size_le_alloc _ _)) ?_
           intro v' w' hown' hg'))
      go_roundw
      case rel =>
        refine ⟨k + 1, by omega, ?_, (hB.alloc hB.size _).grown hg' (Nat.le_trans hB.size (size_le_alloc _ _)) (fun g hg => (hown.size g hg).1)⟩
        rw [HL.out, List.append_assoc, ← List.replicate_succ'] at hown'
        exact hown'
      case measure =>
        obtain ⟨A', c', hv, _⟩ := hown'.bts (ok_append (HL.out ▸ ok_append (ok_one1 128 (by omega) (by omega)) (ok_rep k)) (ok_one1 0 (by omega) (by omega)))
        rw [hv]
        simp only [lenV, List.length_append, HLN.out, List.length_cons, List.length_nil]
        omega
    · have ht : (((n : Int) + ((k : Int) + 1) + 8) % 64 != 0) = false := by
        rw [bne_eq_false_iff_eq]; unfold noughts at hlt hk; omega
      have hk' : k = noughts n := by omega
      have HK := Lib.hid hk'
      clear hk' hlt
      go_wp2
      go_loopw [3, 20] (fun v i wr => ∃ k : Nat, k ≤ 8 ∧ i = .int .i64 k ∧ Own wr w.heap.size v (L ++ (List.range k).map (bits8 n)) ∧ Below w.heap.size w wr) (fun _ i _ => 8 - (intOf i).toNat)
      case atStart => exact ⟨0, by omega, rfl, by simpa using hown, hB⟩
      case round =>
        clear hown hB hbt
        obtain ⟨i, hi, rfl, hown, hB⟩ := hrel
        by_cases hlt : i < 8
        · have hlenM : (L ++ (List.range i).map (bits8 n)).length = k + 1 + i := by simp [HLN.out]
          have hnext : L ++ (List.range (i + 1)).map (bits8 n) = (L ++ (List.range i).map (bits8 n)) ++ [bits8 n i] := by
            rw [List.range_succ, List.map_append, List.append_assoc]; rfl
          have hval : 8 * (n : Int) / 2 ^ (56 - 8 * i) % 256 = bits8 n i := by
            rw [bits8]; simp
          have hb9 : 0 ≤ 8 * (n : Int) / 2 ^ (56 - 8 * i) % 256 ∧ 8 * (n : Int) / 2 ^ (56 - 8 * i) % 256 < 256 := by omega
          obtain ⟨M, hM⟩ : ∃ M, M = L ++ (List.range i).map (bits8 n) := ⟨_, rfl⟩
          rw [← hM] at hown hlenM hnext
          rw [← hval] at hnext
          have hsm : M.length + 1 ≤ 140737488355328 := by omega
          have HN := Lib.hid hnext
          clear hM hlenM hnext hval
          go_wp2_with (first
            | (at_builtin
               refine wpList_append_b rfl (.tmp 23) (.tmp 30) rfl w.heap.size _ M rfl (hown.more _) (some ⟨wr.heap.size, 0, none⟩) 1 1 [8 * (n : Int) / 2 ^ (56 - 8 * i) % 256] rfl (one_bts wr _ hb9.1 hb9.2) hsm (Nat.le_trans hB.size (size_le_alloc _ _)) ?_
               intro v' w' hown' hg'))
          go_roundw
          case rel =>
            refine ⟨i + 1, by omega, by go_num, by rw [HN.out]; exact hown', (hB.alloc hB.size _).grown hg' (Nat.le_trans hB.size (size_le_alloc _ _)) (fun g hg => (hown.size g hg).1)⟩
          case measure => simp [intOf]; omega
        · have h8 : i = 8 := by omega
          rw [h8] at hown
          have HOWN := Lib.hid hown
          have hge : 8 ≤ i := by omega
          clear hown hi h8 hlt
          go_wp2
          go_ret
          refine ⟨_, rfl, ?_, hB⟩
          have := HOWN.out
          rw [HL.out, HK.out] at this
          exact this
end Go.Proofs.YtcfkpepohnjdfaaDoor

/- The walk over package sha's spelt: the bytes of a register. Arrays of bytes that lie in a block of their own. -/
namespace Go.Proofs.YtcfkpepohnjdfaaDoor
open Go.RowKit

theorem info32 {l : List Int} (h : l.length = 32) : (Tryd.prog.info? 30).map (·.size) = some (idv l).size := by rw [idv_size, h]; kernel_rfl

set_option maxRecDepth 100000 in
set_option maxHeartbeats 1000000 in
theorem spelt_any (r : List Int) (w : World) (hr : r.length = 8) :
    Calls Tryd.prog 52 #[.agg (regv r)] w fun e w' => e = .returned (.agg (idv (speltL r))) ∧ Below w.heap.size w w' := by
  have HR := Lib.hid hr
  clear hr
  go_enter Tryd.func52, Tryd.ntmps52
  go_wp2
  go_loopw [5] (fun i wr => ∃ k : Nat, k ≤ 32 ∧ i = .int .i64 k ∧ Row wr w.heap.size 61 r ∧ RowB wr (w.heap.size + 1) 30 (List.replicate 32 0) ∧ RowB wr (w.heap.size + 2) 30 (fillTo (speltAt r) 32 k) ∧ Below w.heap.size w wr)
    (fun i _ => 32 - (intOf i).toNat)
  case atStart =>
    have h := two_rows w (.cells (regv r) 61) 30 _ _ (List.replicate 32 0) rfl rfl
    exact ⟨0, by omega, rfl, Row.more (heap_alloc2_old w _ _) _, h.1, h.2, three_below w _ _ _⟩
  case round =>
    obtain ⟨k, hk, rfl, hR, hO, hX, hB⟩ := hrel
    have hXl := fillTo_length (speltAt r) 32 k
    by_cases hlt : k < 32
    · have hRc := hR.cell (k / 4) (by rw [HR.out]; omega)
      have hXc := hX.cell k (by rw [hXl]; exact hlt)
      have hXf := hX.free k
      have hnext : fillTo (speltAt r) 32 (k + 1) = (fillTo (speltAt r) 32 k).set k (speltAt r k) := rfl
      obtain ⟨x, hx⟩ : ∃ x, x = r.getD (k / 4) 0 := ⟨_, rfl⟩
      rw [← hx] at hRc
      have hval : speltAt r k = x / 2 ^ (24 - 8 * (k % 4)) % 256 := by rw [speltAt, hx]
      rw [hval] at hnext
      have HN := Lib.hid hnext
      clear hx hnext hval hXl
      go_wp2
      go_roundw
      case rel =>
        refine ⟨k + 1, by omega, by go_num, ?_, ?_, ?_, ?_⟩
        · exact hR.draw1.far (a := ⟨w.heap.size + 2, k, none⟩) (by simp) _
        · exact hO.draw1.far (a := ⟨w.heap.size + 2, k, none⟩) (by simp) _
        · rw [HN.out]; exact hX.draw1.put k _
        · exact hB.setCell (p := ⟨w.heap.size + 2, k, none⟩) (by simp) _
      case measure => simp [intOf]; omega
    · have hge : 32 ≤ k := by omega
      rw [show k = 32 by omega] at hX hXl
      rw [fillTo_all] at hX hXl
      obtain ⟨Z, hZ⟩ : ∃ Z, Z = speltL r := ⟨_, rfl⟩
      have hX : RowB wr (w.heap.size + 2) 30 Z := by rw [hZ]; exact hX
      have hXl : Z.length = 32 := by rw [hZ]; exact hXl
      have HZ := Lib.hid hZ
      have HXL := Lib.hid hXl
      clear hlt hk hXl hZ hR
      go_wp2_with (first
        | ((with_reducible refine wpList_load_b rfl 30 _ _ rfl (w.heap.size + 2) ?hx6 30 Z hX Tryd.underlying30 ?hd6 (info32 HXL.out) ?_); (case hx6 => rfl); (case hd6 => rfl))
        | ((with_reducible refine wpList_store_b rfl 30 _ _ rfl (w.heap.size + 1) Z ?hx7 ?hy7 30 (List.replicate 32 0) hO (info32 HXL.out) ?hl7 ?hm7); (case hx7 => rfl); (case hy7 => rfl); (case hl7 => rw [HXL.out]; rfl)
           intro w6 hg6 hX6 hs6))
      refine bodyPost_ret (v := .agg (idv Z)) ?_ ?_ ?_
      · exact results_cell_row Tryd.results52 _ _ (w.heap.size + 1) 30 _ (0, 0) _ rfl hX6.is Tryd.underlying30 rfl (info32 HXL.out)
      · rfl
      · exact ⟨by rw [HZ.out], Below.grows hB hg6 hB.size (by omega)⟩
end Go.Proofs.YtcfkpepohnjdfaaDoor

/- The walks over package sha's New, May, End, Add and Sum. -/
namespace Go.Proofs.YtcfkpepohnjdfaaDoor
open Go.RowKit

/-- a state, as a value -/
abbrev hashV (x0 x1 x2 x3 x4 x5 x6 x7 : Int) (A : Option Addr) (n c : Nat) (len : Int) : Value :=
  .agg #[.int .u32 x0, .int .u32 x1, .int .u32 x2, .int .u32 x3, .int .u32 x4, .int .u32 x5, .int .u32 x6, .int .u32 x7, .slice A n c, .int .i64 len]

set_option maxHeartbeats 1000000 in
theorem new_any (w : World) :
    Calls Tryd.prog 46 #[] w fun e w' => e = .returned (hashV 1779033703 3144134277 1013904242 2773480762 1359893119 2600822924 528734635 1541459225 none 0 0 0) ∧ Below w.heap.size w w' := by
  go_enter Tryd.func46, Tryd.ntmps46
  go_wp2
  exact bodyPost_ret (v := hashV 1779033703 3144134277 1013904242 2773480762 1359893119 2600822924 528734635 1541459225 none 0 0 0) (by simp [results, Tryd.results46, go_sem]) rfl ⟨rfl, (Below.refl _ _).alloc (Nat.le_refl _) _⟩

/-- may a state be? -/
def mayB (n : Nat) (len : Int) : Bool := decide (0 ≤ len ∧ len ≤ 1048576 ∧ (n : Int) = len % 64)
theorem mayB_yes {n : Nat} {len : Int} (h : mayB n len = true) : 0 ≤ len ∧ len ≤ 1048576 ∧ (n : Int) = len % 64 := of_decide_eq_true h
theorem mayB_no {n : Nat} {len : Int} (h : mayB n len = false) : ¬ (0 ≤ len ∧ len ≤ 1048576 ∧ (n : Int) = len % 64) := of_decide_eq_false h

set_option maxHeartbeats 1000000 in
theorem may_any (x0 x1 x2 x3 x4 x5 x6 x7 : Int) (A : Option Addr) (n c : Nat) (len : Int) (w : World) :
    Calls Tryd.prog 51 #[hashV x0 x1 x2 x3 x4 x5 x6 x7 A n c len] w fun e w' => e = .returned (.bool (mayB n len)) ∧ w.alloc (.cells #[.int .u32 x0, .int .u32 x1, .int .u32 x2, .int .u32 x3, .int .u32 x4, .int .u32 x5, .int .u32 x6, .int .u32 x7, .slice A n c, .int .i64 len] 63) = w' := by
  have k1 : 0 ≤ len → len ≤ 1048576 → ((n : Int) == len % 64) = mayB n len := by
    intro h0 h1
    unfold mayB
    rw [Bool.eq_iff_iff]
    simp [h0, h1]
  have k2 : 0 ≤ len → 1048576 < len → false = mayB n len := by
    intro h0 h1
    unfold mayB
    rw [Bool.eq_iff_iff]
    simp; omega
  have k3 : len < 0 → false = mayB n len := by
    intro h0
    unfold mayB
    rw [Bool.eq_iff_iff]
    simp; omega
  have K1 := Lib.hid k1
  have K2 := Lib.hid k2
  have K3 := Lib.hid k3
  clear k1 k2 k3
  go_enter Tryd.func51, Tryd.ntmps51
  go_wp2
  · go_ret
    exact ⟨congrArg (fun b => Ending.returned (Value.bool b)) (K1.out (by assumption) (by assumption)), rfl⟩
  · go_ret
    exact ⟨congrArg (fun b => Ending.returned (Value.bool b)) (K2.out (by assumption) (by assumption)), rfl⟩
  · go_ret
    exact ⟨congrArg (fun b => Ending.returned (Value.bool b)) (K3.out (by assumption)), rfl⟩

end Go.Proofs.YtcfkpepohnjdfaaDoor

/- The walk over package sha's End: the sum of a state. -/
namespace Go.Proofs.YtcfkpepohnjdfaaDoor
open Go.RowKit

theorem roundedBy_lit (x0 x1 x2 x3 x4 x5 x6 x7 : Int) (l : List Int) (A : Option Addr) (n cap : Nat) (w : World) (hK : KTab w) (hB : Bts w A n cap l) :
    Calls Tryd.prog 53 #[.agg #[.int .u32 x0, .int .u32 x1, .int .u32 x2, .int .u32 x3, .int .u32 x4, .int .u32 x5, .int .u32 x6, .int .u32 x7], .slice A n cap] w
      fun e w' => e = .returned (.agg (regv (byBlocks [x0, x1, x2, x3, x4, x5, x6, x7] l))) ∧ Below w.heap.size w w' :=
  roundedBy_any [x0, x1, x2, x3, x4, x5, x6, x7] l A n cap w hK rfl hB
theorem byBlocks_length (r l : List Int) (hr : r.length = 8) : (byBlocks r l).length = 8 := blocks_length r l hr _
theorem ending_length (n : Nat) : (endingL n).length ≤ 100 := by
  have : noughts n ≤ 63 := by unfold noughts; omega
  simp only [endingL, List.length_append, List.length_cons, List.length_nil, List.length_replicate, List.length_map, List.length_range]
  omega
theorem spelt_length (r : List Int) : (speltL r).length = 32 := by simp [speltL]

theorem box_cells {W : World} {g : Nat} {t : TypeId} {v0 v1 v2 v3 v4 v5 v6 v7 v8 v9 : Value} (h : W.heap[g]? = some (.cells #[v0, v1, v2, v3, v4, v5, v6, v7, v8, v9] t (0, 0))) :
    W.cell? ⟨g, 0, none⟩ = some v0 ∧ W.cell? ⟨g, 1, none⟩ = some v1 ∧ W.cell? ⟨g, 2, none⟩ = some v2 ∧ W.cell? ⟨g, 3, none⟩ = some v3 ∧ W.cell? ⟨g, 4, none⟩ = some v4 ∧
    W.cell? ⟨g, 5, none⟩ = some v5 ∧ W.cell? ⟨g, 6, none⟩ = some v6 ∧ W.cell? ⟨g, 7, none⟩ = some v7 ∧ W.cell? ⟨g, 8, none⟩ = some v8 ∧ W.cell? ⟨g, 9, none⟩ = some v9 := by
  refine ⟨?_, ?_, ?_, ?_, ?_, ?_, ?_, ?_, ?_, ?_⟩ <;> exact (cell_of_row _ _ _ _ _ _ h).trans rfl

def BoxAt (w : World) (g : Nat) (x0 x1 x2 x3 x4 x5 x6 x7 : Int) (A : Option Addr) (n c : Nat) (len : Int) : Prop :=
  w.heap[g]? = some (.cells #[.int .u32 x0, .int .u32 x1, .int .u32 x2, .int .u32 x3, .int .u32 x4, .int .u32 x5, .int .u32 x6, .int .u32 x7, .slice A n c, .int .i64 len] 63 (0, 0))
theorem BoxAt.cells {W : World} {g : Nat} {x0 x1 x2 x3 x4 x5 x6 x7 : Int} {A : Option Addr} {n c : Nat} {len : Int} (h : BoxAt W g x0 x1 x2 x3 x4 x5 x6 x7 A n c len) :
    W.cell? ⟨g, 0, none⟩ = some (.int .u32 x0) ∧ W.cell? ⟨g, 1, none⟩ = some (.int .u32 x1) ∧ W.cell? ⟨g, 2, none⟩ = some (.int .u32 x2) ∧ W.cell? ⟨g, 3, none⟩ = some (.int .u32 x3) ∧ W.cell? ⟨g, 4, none⟩ = some (.int .u32 x4) ∧
    W.cell? ⟨g, 5, none⟩ = some (.int .u32 x5) ∧ W.cell? ⟨g, 6, none⟩ = some (.int .u32 x6) ∧ W.cell? ⟨g, 7, none⟩ = some (.int .u32 x7) ∧ W.cell? ⟨g, 8, none⟩ = some (.slice A n c) ∧ W.cell? ⟨g, 9, none⟩ = some (.int .i64 len) := box_cells h
theorem BoxAt.sets {w : World} {g k : Nat} {x0 x1 x2 x3 x4 x5 x6 x7 : Int} {A : Option Addr} {n c : Nat} {len : Int} (h : BoxAt w g x0 x1 x2 x3 x4 x5 x6 x7 A n c len) (hk : g ≠ k) (o : Nat) (vs : List Value) : BoxAt (w.setCells k o vs) g x0 x1 x2 x3 x4 x5 x6 x7 A n c len :=
  (setCells_off hk vs o w).trans h
theorem BoxAt.below {w W : World} {g : Nat} {x0 x1 x2 x3 x4 x5 x6 x7 : Int} {A : Option Addr} {n c : Nat} {len : Int} (h : BoxAt w g x0 x1 x2 x3 x4 x5 x6 x7 A n c len) (hb : Below w.heap.size w W) : BoxAt W g x0 x1 x2 x3 x4 x5 x6 x7 A n c len :=
  (hb.block g (Array.getElem?_eq_some_iff.1 h).1).trans h

set_option maxRecDepth 100000 in
set_option maxHeartbeats 1000000 in
theorem end_good (x0 x1 x2 x3 x4 x5 x6 x7 : Int) (A : Option Addr) (n c N : Nat) (rest : List Int) (w : World) (hK : KTab w) (hmay : mayB n N = true) (hb : Bts w A n c rest) :
    Calls Tryd.prog 44 #[hashV x0 x1 x2 x3 x4 x5 x6 x7 A n c N] w fun e w' => e = .returned (.agg (idv (endL [x0, x1, x2, x3, x4, x5, x6, x7] rest N))) ∧ Below w.heap.size w w' := by
  obtain ⟨_, hN, hn⟩ := mayB_yes hmay
  have hN : N ≤ 1048576 := by omega
  have hn64 : n < 64 := by omega
  have hel := ending_length N
  have hlen := byBlocks_length [x0, x1, x2, x3, x4, x5, x6, x7] (rest ++ endingL N) rfl
  obtain ⟨R, hR⟩ : ∃ R, R = byBlocks [x0, x1, x2, x3, x4, x5, x6, x7] (rest ++ endingL N) := ⟨_, rfl⟩
  obtain ⟨Z, hZ⟩ : ∃ Z, Z = speltL R := ⟨_, rfl⟩
  have hZl : Z.length = 32 := by rw [hZ]; exact spelt_length R
  have hfin : endL [x0, x1, x2, x3, x4, x5, x6, x7] rest N = Z := by rw [hZ, hR, endL]
  rw [← hR] at hlen
  rw [hfin]
  have HR := Lib.hid hR
  have HZ := Lib.hid hZ
  have HZL := Lib.hid hZl
  have HRL := Lib.hid hlen
  have HN := Lib.hid hn
  clear hR hZ hZl hlen hfin hn
  go_enter Tryd.func44, Tryd.ntmps44
  go_wp2_with (go_at_call 51; refine (may_any _ _ _ _ _ _ _ _ _ _ _ _ _).mono ?_; rintro e w0 ⟨rfl, rfl⟩)
  generalize hW : World.alloc _ _ = W
  obtain ⟨hB0, hz0, hX0, hO0⟩ := named_three hW
  obtain ⟨b0, b1, b2, b3, b4, b5, b6, b7, b8, b9⟩ := box_cells hX0
  have hO0 : RowB W (w.heap.size + 1) 30 (List.replicate 32 0) := hO0
  have hz0 : w.heap.size + 1 < W.heap.size := by omega
  have hbe : BoxAt W w.heap.size x0 x1 x2 x3 x4 x5 x6 x7 A n c N := hX0
  clear hW hX0 hmay b0 b1 b2 b3 b4 b5 b6 b7 b8 b9
  have hi32 : (Tryd.prog.info? 30).map (·.size) = some 32 := by kernel_rfl
  have hZ32 : (byv Z).length = 32 := by rw [byv_length, HZL.out]
  have hone := byv_one Z
  go_region_held3 (fun w' => w'.cell? ⟨w.heap.size, 0, none⟩ = some (.int .u32 x0) ∧ w'.cell? ⟨w.heap.size, 1, none⟩ = some (.int .u32 x1) ∧ w'.cell? ⟨w.heap.size, 2, none⟩ = some (.int .u32 x2) ∧ w'.cell? ⟨w.heap.size, 3, none⟩ = some (.int .u32 x3) ∧ w'.cell? ⟨w.heap.size, 4, none⟩ = some (.int .u32 x4) ∧ w'.cell? ⟨w.heap.size, 5, none⟩ = some (.int .u32 x5) ∧ w'.cell? ⟨w.heap.size, 6, none⟩ = some (.int .u32 x6) ∧ w'.cell? ⟨w.heap.size, 7, none⟩ = some (.int .u32 x7) ∧ w'.cell? ⟨w.heap.size, 8, none⟩ = some (.slice A n c) ∧ w'.cell? ⟨w.heap.size, 9, none⟩ = some (.int .i64 N))
    (first | exact BoxAt.cells hbe | exact BoxAt.cells hbx1 | exact BoxAt.cells hbx2 | exact BoxAt.cells hbx3 | exact BoxAt.cells hbx4 | exact BoxAt.cells (hbx4.sets (Nat.ne_of_lt (Nat.lt_succ_self _)) _ _))
    (first
    | (go_at_call 55; refine (ending_any N _ hN).mono ?_; rintro e w1 ⟨v1, rfl, hown1, hb1⟩
       obtain ⟨A1, n1, c1, rfl, hbt1⟩ := hown1.slice (ok_ending N)
       have hb1 := below_draw hb1
       have hO1 := hO0.below hb1 hO0.lt
       have hbx1 := hbe.below hb1
       have hB1 : Below w.heap.size w w1 := hB0.trans (hb1.mono hB0.size)
       have hn1 : n1 ≤ 100 := by rw [← hbt1.len]; exact hel
       clear hown1 hb1)
    | (go_at_call 54; refine (join_any rest (endingL N) A A1 n c n1 c1 w1 (hb.below hB1) hbt1 (by omega) (by omega)).mono ?_; rintro e w2 ⟨v2, rfl, hown2, hb2⟩
       obtain ⟨A2, n2, c2, rfl, hbt2⟩ := hown2.slice (ok_append hb.ok (ok_ending N))
       have hbx2 := hbx1.below hb2
       clear hown2)
    | (go_at_call 53; refine (roundedBy_lit _ _ _ _ _ _ _ _ (rest ++ endingL N) A2 n2 c2 w2 (hK.from (hB1.trans (hb2.mono hB1.size))) hbt2).mono ?_; rintro e w3 ⟨he, hb3⟩
       rw [← HR.out] at he
       subst he
       have hbx3 := hbx2.below hb3)
    | (go_at_call 52; refine (spelt_any R w3 HRL.out).mono ?_; rintro e w4 ⟨he, hb4⟩
       rw [← HZ.out] at he
       subst he
       have hbx4 := hbx3.below hb4
       have hO4 : RowB w4 (w.heap.size + 1) 30 (List.replicate 32 0) := by
         have h2 := hO1.below hb2 hO1.lt
         have h3 := h2.below hb3 h2.lt
         exact h3.below hb4 h3.lt
       have hT4 : w4.there (w.heap.size + 1) 0 32 := there_of hO4 (by rw [idv_size]; rfl)
       have hB4 : Below w.heap.size w w4 := ((hB1.trans (hb2.mono hB1.size)).trans (hb3.mono (Nat.le_trans hB1.size hb2.size))).trans (hb4.mono (Nat.le_trans (Nat.le_trans hB1.size hb2.size) hb3.size))))
  go_wp2
  refine bodyPost_ret (v := .agg (idv Z)) ?_ ?_ ?_
  · exact results_cell_row Tryd.results44 _ _ (w.heap.size + 1) 30 (idv Z) (0, 0) _ rfl (setCells_all hO4 (by rw [hZ32, byv_length]; rfl)) Tryd.underlying30 rfl (info32 HZL.out)
  · rfl
  · exact ⟨rfl, setCells_below (Nat.le_succ _) _ _ _ hB4⟩
end Go.Proofs.YtcfkpepohnjdfaaDoor

/- Slices of bytes that a call makes whole ('make([]byte, n)'): the block they lie in is known as a row. -/
namespace Go.Proofs.YtcfkpepohnjdfaaDoor
open Go.RowKit

theorem keyL_length (key : List Int) : (keyL key).length ≤ 64 := by
  unfold keyL
  split
  · rw [sumL, endL, spelt_length]; omega
  · omega
theorem blockL_length (key : List Int) : (blockL key).length = 64 := by
  have := keyL_length key
  simp only [blockL, padK, List.length_append, List.length_replicate]
  omega
theorem xorL_length (x : Int) (l : List Int) : (xorL x l).length = 64 := by simp [xorL]
theorem ok_spelt (r : List Int) : ∀ j, 0 ≤ (speltL r).getD j 0 ∧ (speltL r).getD j 0 < 256 := ok_map _ (fun i => by unfold speltAt; omega) 32
theorem ok_sum (l : List Int) : ∀ j, 0 ≤ (sumL l).getD j 0 ∧ (sumL l).getD j 0 < 256 := by rw [sumL, endL]; exact ok_spelt _
theorem sumL_length (l : List Int) : (sumL l).length = 32 := by rw [sumL, endL]; exact spelt_length _
theorem ok_block (key : List Int) (h : ∀ j, 0 ≤ key.getD j 0 ∧ key.getD j 0 < 256) : ∀ j, 0 ≤ (blockL key).getD j 0 ∧ (blockL key).getD j 0 < 256 := by
  unfold blockL padK
  refine ok_append ?_ (ok_rep _)
  unfold keyL
  split
  · exact ok_sum key
  · exact h
theorem xor_u8_range (a x : Int) : 0 ≤ bits .xor .u8 a x ∧ bits .xor .u8 a x < 256 := by
  have h : ∃ y : Int, bits .xor .u8 a x = IntKind.u8.wrap y := ⟨_, rfl⟩
  obtain ⟨y, h⟩ := h
  rw [h, IntKind.wrap_u8']
  omega
theorem ok_xor (x : Int) (l : List Int) : ∀ j, 0 ≤ (xorL x l).getD j 0 ∧ (xorL x l).getD j 0 < 256 := ok_map _ (fun _ => xor_u8_range _ _) 64
end Go.Proofs.YtcfkpepohnjdfaaDoor

/- The walk over package mac's Same: two texts, held against one another to the end. -/
namespace Go.Proofs.YtcfkpepohnjdfaaDoor
open Go.RowKit

/-- what the first k bytes differ in -/
def orAcc (a b : List Int) : Nat → Int
  | 0 => 0
  | k + 1 => bits .or .u8 (orAcc a b k) (bits .xor .u8 (a.getD k 0) (b.getD k 0))
theorem or_u8_range (a x : Int) : 0 ≤ bits .or .u8 a x ∧ bits .or .u8 a x < 256 := by
  have h : ∃ y : Int, bits .or .u8 a x = IntKind.u8.wrap y := ⟨_, rfl⟩
  obtain ⟨y, h⟩ := h
  rw [h, IntKind.wrap_u8']
  omega
theorem orAcc_range (a b : List Int) (k : Nat) : 0 ≤ orAcc a b k ∧ orAcc a b k < 256 := by
  cases k with
  | zero => simp [orAcc]
  | succ k => exact or_u8_range _ _
theorem nat_or_zero (x y : Nat) : x ||| y = 0 ↔ x = 0 ∧ y = 0 := by
  constructor
  · intro h
    refine ⟨?_, ?_⟩
    · have := @Nat.left_le_or x y
      omega
    · have := @Nat.right_le_or x y
      omega
  · rintro ⟨rfl, rfl⟩
    rfl
theorem nat_xor_zero (x y : Nat) : x ^^^ y = 0 ↔ x = y := by
  constructor
  · intro h
    have h2 : x ^^^ (x ^^^ y) = x := by rw [h, Nat.xor_zero]
    rw [← Nat.xor_assoc, Nat.xor_self, Nat.zero_xor] at h2
    exact h2.symm
  · rintro rfl
    exact Nat.xor_self _
theorem or_zero (x y : Int) (hx : 0 ≤ x ∧ x < 256) (hy : 0 ≤ y ∧ y < 256) : bits .or .u8 x y = 0 ↔ x = 0 ∧ y = 0 := by
  rw [u8_or x y hx.1 hx.2 hy.1 hy.2]
  have := nat_or_zero x.toNat y.toNat
  omega
theorem xor_zero (x y : Int) (hx : 0 ≤ x ∧ x < 256) (hy : 0 ≤ y ∧ y < 256) : bits .xor .u8 x y = 0 ↔ x = y := by
  rw [u8_xor x y hx.1 hx.2 hy.1 hy.2]
  have := nat_xor_zero x.toNat y.toNat
  omega
theorem orAcc_zero (a b : List Int) (ha : ∀ j, 0 ≤ a.getD j 0 ∧ a.getD j 0 < 256) (hb : ∀ j, 0 ≤ b.getD j 0 ∧ b.getD j 0 < 256) (k : Nat) : orAcc a b k = 0 ↔ ∀ j, j < k → a.getD j 0 = b.getD j 0 := by
  induction k with
  | zero => simp [orAcc]
  | succ k ih =>
    rw [orAcc, or_zero _ _ (orAcc_range a b k) (xor_u8_range _ _), ih, xor_zero _ _ (ha k) (hb k)]
    constructor
    · rintro ⟨h1, h2⟩ j hj
      by_cases e : j = k
      · rw [e]; exact h2
      · exact h1 j (by omega)
    · intro h
      exact ⟨fun j hj => h j (by omega), h k (by omega)⟩
theorem same_eq (a b : List Int) (ha : ∀ j, 0 ≤ a.getD j 0 ∧ a.getD j 0 < 256) (hb : ∀ j, 0 ≤ b.getD j 0 ∧ b.getD j 0 < 256) (n : Nat) (hn : a.length = n) (hm : b.length = n) : (orAcc a b n == 0) = (a == b) := by
  rw [Bool.eq_iff_iff, beq_iff_eq, beq_iff_eq, orAcc_zero a b ha hb]
  constructor
  · intro h
    exact ext_getD (hn.trans hm.symm) (fun j hj => h j (by omega))
  · rintro rfl j _
    rfl
theorem not_same (a b : List Int) (h : a.length ≠ b.length) : false = (a == b) := by
  rw [eq_comm, beq_eq_false_iff_ne]
  rintro rfl
  exact h rfl

set_option maxHeartbeats 1000000 in
theorem msame_any (A B : Option Addr) (n c m d : Nat) (a b : List Int) (w : World) (ha : Bts w A n c a) (hb : Bts w B m d b) :
    Calls Tryd.prog 30 #[.slice A n c, .slice B m d] w fun e w' => e = .returned (.bool (a == b)) ∧ ∃ j, w' = w.drewN j := by
  have hna : n ≤ 9223372036854775807 := Nat.le_trans ha.le (by have := ha.max; unfold maxLen at this; omega)
  have hmb : m ≤ 9223372036854775807 := Nat.le_trans hb.le (by have := hb.max; unfold maxLen at this; omega)
  by_cases hnm : n = m
  · subst hnm
    have hres := same_eq a b ha.ok hb.ok n ha.len hb.len
    have hne : ((n : Int) != (n : Int)) = false := by simp
    have HR := Lib.hid hres
    clear hres
    go_enter Tryd.func30, Tryd.ntmps30
    go_wp2
    go_loopw [5, 14] (fun v i wr => ∃ k : Nat, k ≤ n ∧ i = .int .i64 k ∧ v = .int .u8 (orAcc a b k) ∧ ∃ j, wr = w.drewN j) (fun _ i _ => n - (intOf i).toNat)
    case atStart => exact ⟨0, by omega, rfl, rfl, 0, rfl⟩
    case round =>
      obtain ⟨k, hk, rfl, rfl, j, rfl⟩ := hrel
      by_cases hlt : k < n
      · obtain ⟨ba, oa, rfl, hca⟩ := ha.at_ (by omega)
        obtain ⟨bb, ob, rfl, hcb⟩ := hb.at_ (by omega)
        have hxa := hca k hlt
        have hxb := hcb k hlt
        obtain ⟨x, hx⟩ : ∃ x, x = a.getD k 0 := ⟨_, rfl⟩
        obtain ⟨y, hy⟩ : ∃ y, y = b.getD k 0 := ⟨_, rfl⟩
        obtain ⟨acc, hacc⟩ : ∃ z, z = orAcc a b k := ⟨_, rfl⟩
        have hnext : orAcc a b (k + 1) = bits .or .u8 acc (bits .xor .u8 x y) := by rw [orAcc, hx, hy, hacc]
        rw [← hacc]
        rw [← hx] at hxa
        rw [← hy] at hxb
        have hp0 : 0 ≤ (k : Int) := by omega
        have hp1 : (k : Int) < n := by omega
        have HN := Lib.hid hnext
        clear hx hy hacc hnext hca hcb
        go_wp2
        go_quiet (fail)
        go_wp2
        go_roundw
        case rel => exact ⟨k + 1, by omega, by go_num, by rw [HN.out], _, rfl⟩
        case measure => simp [intOf]; omega
      · have hkn : k = n := by omega
        subst hkn
        have hge : ¬ ((k : Int) < k) := by omega
        go_wp2
        go_ret
        exact ⟨congrArg (fun b => Ending.returned (Value.bool b)) HR.out, _, rfl⟩
  · have hne : ((n : Int) != (m : Int)) = true := by rw [bne_iff_ne]; omega
    have hres := not_same a b (by rw [ha.len, hb.len]; exact hnm)
    have HR := Lib.hid hres
    clear hres hnm
    go_enter Tryd.func30, Tryd.ntmps30
    go_wp2
    go_ret
    exact ⟨congrArg (fun b => Ending.returned (Value.bool b)) HR.out, 0, rfl⟩
end Go.Proofs.YtcfkpepohnjdfaaDoor

/- The walks over package user's Same, and the document's own. -/
namespace Go.Proofs.YtcfkpepohnjdfaaDoor
set_option linter.unusedVariables false
set_option linter.unusedSimpArgs false
open Go.RowKit

set_option maxHeartbeats 1000000 in
theorem usame1_any (u v : Us) (w : World) (hu : Bts w u.A u.n u.c u.key) (hv : Bts w v.A v.n v.c v.key) :
    Calls Tryd.prog 29 #[.agg #[.int .i64 u.no, .int .i64 u.role, .slice u.A u.n u.c], .agg #[.int .i64 v.no, .int .i64 v.role, .slice v.A v.n v.c]] w (GB (u.same v) w) := by
  obtain ⟨n1, r1, A1, m1, c1, k1⟩ := u
  obtain ⟨n2, r2, A2, m2, c2, k2⟩ := v
  simp only at hu hv
  have htwo := two_below w (.cells #[.int .i64 n1, .int .i64 r1, .slice A1 m1 c1] 25) (.cells #[.int .i64 n2, .int .i64 r2, .slice A2 m2 c2] 25)
  have HC := Lib.hid (msame_any A1 A2 m1 c1 m2 c2 k1 k2 _ (hu.below htwo) (hv.below htwo))
  have HTWO := Lib.hid htwo
  obtain ⟨E, hE⟩ : ∃ E, (k1 == k2) = E := ⟨_, rfl⟩
  rw [hE] at HC
  have HE := Lib.hid hE
  clear htwo hu hv hE
  cases e1 : (n1 == n2) with
  | false =>
    have hr : false = Us.same ⟨n1, r1, A1, m1, c1, k1⟩ ⟨n2, r2, A2, m2, c2, k2⟩ := by simp only [Us.same, e1, Bool.false_and]
    have HR := Lib.hid hr
    clear hr
    go_enter Tryd.func29, Tryd.ntmps29
    go_wp2
    go_ret
    exact ⟨congrArg (fun b => Ending.returned (Value.bool b)) HR.out, HTWO.out⟩
  | true =>
    cases e2 : (r1 == r2) with
    | false =>
      have hr : false = Us.same ⟨n1, r1, A1, m1, c1, k1⟩ ⟨n2, r2, A2, m2, c2, k2⟩ := by simp only [Us.same, e2, Bool.and_false, Bool.false_and]
      have HR := Lib.hid hr
      clear hr
      go_enter Tryd.func29, Tryd.ntmps29
      go_wp2
      go_ret
      exact ⟨congrArg (fun b => Ending.returned (Value.bool b)) HR.out, HTWO.out⟩
    | true =>
      have hr : E = Us.same ⟨n1, r1, A1, m1, c1, k1⟩ ⟨n2, r2, A2, m2, c2, k2⟩ := by simp only [Us.same, e1, e2, Bool.true_and, HE.out]
      have HR := Lib.hid hr
      clear hr
      go_enter Tryd.func29, Tryd.ntmps29
      go_wp2_with (go_at_call 30; refine HC.out.mono ?_; rintro e w1 ⟨rfl, hj⟩; have HJ := Lib.hid hj; clear hj)
      go_ret
      refine ⟨congrArg (fun b => Ending.returned (Value.bool b)) HR.out, ?_⟩
      obtain ⟨j, rfl⟩ := HJ.out
      exact below_drewN HTWO.out _

set_option maxHeartbeats 1000000 in
theorem uequalFunc_any (A : Option Addr) (n c : Nat) (l : List Us) (B : Option Addr) (m d : Nat) (l2 : List Us) (w : World) (hl : Uss w A n c l) (hm : Uss w B m d l2) :
    Calls Tryd.prog 28 #[.slice A n c, .slice B m d, .func (.func 29) #[] #[]] w (GB (sameU l l2) w) := by
  have hn := hl.small
  have hn2 := hm.small
  have HL := Lib.hid hl.len
  have HL2 := Lib.hid hm.len
  by_cases hmm : n = m
  · subst hmm
    have hne : ((n : Int) != (n : Int)) = false := by simp
    go_enter Tryd.func28, Tryd.ntmps28
    go_wp2
    go_loopw [17] (fun v wr => ∃ j : Nat, j ≤ n ∧ v = .int .i64 j ∧ sameU (l.take j) (l2.take j) = true ∧ Below w.heap.size w wr) (fun v _ => n - (intOf v).toNat)
    case atStart => exact ⟨0, Nat.zero_le _, rfl, by simp [sameU], Below.refl _ _⟩
    case round =>
      obtain ⟨j, hj, rfl, hsm, hbw⟩ := hrel
      have HBW := Lib.hid hbw
      by_cases hlt : j < n
      · obtain ⟨b, off, u, rfl, -, -, hu, z0, z1, z2, hk, -⟩ := (hl.below hbw).at_ j hlt
        obtain ⟨b2, off2, v, rfl, -, -, hv, y0, y1, y2, hk2, -⟩ := (hm.below hbw).at_ j hlt
        have hst := sameU_take hu hv
        have hsp := fun h => sameU_stop hu hv h
        rw [hsm, Bool.true_and] at hst
        have htwo := two_below wr (.cells #[.int .i64 u.no, .int .i64 u.role, .slice u.A u.n u.c] 25) (.cells #[.int .i64 v.no, .int .i64 v.role, .slice v.A v.n v.c] 25)
        have HC := Lib.hid (usame1_any u v _ (hk.below htwo) (hk2.below htwo))
        have hone := one_alloc wr (.cells #[.int .i64 u.no, .int .i64 u.role, .slice u.A u.n u.c] 25)
        have x0 := (hone.cell (block_lt_of_cell y0)).trans y0
        have x1 := (hone.cell (block_lt_of_cell y1)).trans y1
        have x2 := (hone.cell (block_lt_of_cell y2)).trans y2
        obtain ⟨E, hE⟩ : ∃ E, u.same v = E := ⟨_, rfl⟩
        rw [hE] at HC hst hsp
        have HTWO := Lib.hid htwo
        have HST := Lib.hid hst
        have HSP := Lib.hid hsp
        obtain ⟨n1, r1, A1, m1, c1, k1⟩ := u
        obtain ⟨n2, r2, A2, m2, c2, k2⟩ := v
        simp only at z0 z1 z2 y0 y1 y2 x0 x1 x2 HC HTWO
        have q0 : 0 ≤ (j : Int) := by omega
        have q1 : (j : Int) < n := by omega
        clear hbw hst hsp hsm hone htwo hk hk2 hu hv hE
        cases E with
        | true =>
          go_wp2_with (go_at_call 29; refine HC.out.mono ?_; rintro e w1 ⟨rfl, hb4⟩; have hb4 := HTWO.out.trans (hb4.mono HTWO.out.size))
          go_roundw
          case rel => exact ⟨j + 1, by omega, by go_num, HST.out, HBW.out.trans (hb4.mono HBW.out.size)⟩
          case measure => simp [intOf]; omega
        | false =>
          have HS2 := Lib.hid (HSP.out rfl)
          clear HSP
          go_wp2_with (go_at_call 29; refine HC.out.mono ?_; rintro e w1 ⟨rfl, hb4⟩; have hb4 := HTWO.out.trans (hb4.mono HTWO.out.size))
          go_ret
          exact ⟨by rw [HS2.out]; rfl, HBW.out.trans (hb4.mono HBW.out.size)⟩
      · obtain rfl : j = n := by omega
        rw [List.take_of_length_le (by rw [HL.out]; exact Nat.le_refl _), List.take_of_length_le (by rw [HL2.out]; exact Nat.le_refl _)] at hsm
        have HS := Lib.hid hsm
        clear hbw hsm
        go_wp2
        go_ret
        exact ⟨by rw [HS.out]; rfl, HBW.out⟩
  · have hne : ((n : Int) != (m : Int)) = true := by rw [bne_iff_ne]; omega
    have hr : false = sameU l l2 := (sameU_ne (by rw [HL.out, HL2.out]; exact hmm)).symm
    have HR := Lib.hid hr
    clear hr
    go_enter Tryd.func28, Tryd.ntmps28
    go_wp2
    go_ret
    exact ⟨congrArg (fun b => Ending.returned (Value.bool b)) HR.out, Below.refl _ _⟩
theorem usame_any (A : Option Addr) (n c : Nat) (l : List Us) (B : Option Addr) (m d : Nat) (l2 : List Us) (w : World) (hl : Uss w A n c l) (hm : Uss w B m d l2) :
    Calls Tryd.prog 16 #[.slice A n c, .slice B m d] w (GB (sameU l l2) w) := by
  have HC := Lib.hid (uequalFunc_any A n c l B m d l2 w hl hm)
  obtain ⟨E, hE⟩ : ∃ E, sameU l l2 = E := ⟨_, rfl⟩
  rw [hE] at HC ⊢
  clear hl hm hE
  go_enter Tryd.func16, Tryd.ntmps16
  go_wp2_with (go_at_call 28; refine HC.out.mono ?_; rintro e w1 ⟨rfl, hb4⟩; have HB4 := Lib.hid hb4; clear hb4)
  go_ret
  exact ⟨rfl, HB4.out⟩
end Go.Proofs.YtcfkpepohnjdfaaDoor

/- The walk over package sha's Add, where the state may be, and there is room for the bytes. -/
namespace Go.Proofs.YtcfkpepohnjdfaaDoor
open Go.RowKit

theorem BoxAt.free {w : World} {g : Nat} {x0 x1 x2 x3 x4 x5 x6 x7 : Int} {A : Option Addr} {n c : Nat} {len : Int} (h : BoxAt w g x0 x1 x2 x3 x4 x5 x6 x7 A n c len) :
    w.frozen? ⟨g, 0, none⟩ = false ∧ w.frozen? ⟨g, 1, none⟩ = false ∧ w.frozen? ⟨g, 2, none⟩ = false ∧ w.frozen? ⟨g, 3, none⟩ = false ∧ w.frozen? ⟨g, 4, none⟩ = false ∧
    w.frozen? ⟨g, 5, none⟩ = false ∧ w.frozen? ⟨g, 6, none⟩ = false ∧ w.frozen? ⟨g, 7, none⟩ = false ∧ w.frozen? ⟨g, 8, none⟩ = false ∧ w.frozen? ⟨g, 9, none⟩ = false := by
  refine ⟨?_, ?_, ?_, ?_, ?_, ?_, ?_, ?_, ?_, ?_⟩ <;> exact frozen_of_row _ _ _ _ _ h
/-- bytes do not lie in a state's block -/
theorem BoxAt.apart {w : World} {g : Nat} {x0 x1 x2 x3 x4 x5 x6 x7 : Int} {A : Option Addr} {n c : Nat} {len : Int} (h : BoxAt w g x0 x1 x2 x3 x4 x5 x6 x7 A n c len) {b i : Nat} {x : Int} (hc : w.cell? ⟨b, i, none⟩ = some (.int .u8 x)) : b ≠ g := by
  rintro rfl
  rw [cell_of_row _ _ _ _ _ _ h] at hc
  match i, hc with
  | 0, hc => simp at hc
  | 1, hc => simp at hc
  | 2, hc => simp at hc
  | 3, hc => simp at hc
  | 4, hc => simp at hc
  | 5, hc => simp at hc
  | 6, hc => simp at hc
  | 7, hc => simp at hc
  | 8, hc => simp at hc
  | 9, hc => simp at hc
  | i + 10, hc => simp at hc
theorem Bts.sets {w : World} {g : Nat} {x0 x1 x2 x3 x4 x5 x6 x7 : Int} {A B : Option Addr} {n c m d : Nat} {len : Int} {l : List Int} (hb : Bts w B m d l) (h : BoxAt w g x0 x1 x2 x3 x4 x5 x6 x7 A n c len) (o : Nat) (vs : List Value) : Bts (w.setCells g o vs) B m d l := by
  refine ⟨hb.len, hb.le, hb.max, hb.ok, hb.bare, fun hm => ?_⟩
  obtain ⟨b, off, hA, hc⟩ := hb.at_ hm
  refine ⟨b, off, hA, fun j hj => ?_⟩
  rw [World.cell?_of_block (w := w) (a := ⟨b, off + j, none⟩) (setCells_off (h.apart (hc j hj)) vs o w)]
  exact hc j hj

theorem BoxAt.put10 {w : World} {g k : Nat} {x0 x1 x2 x3 x4 x5 x6 x7 : Int} {A : Option Addr} {n c : Nat} {len : Int} (h : BoxAt w g x0 x1 x2 x3 x4 x5 x6 x7 A n c len) (hk : g ≠ k) (v0 v1 v2 v3 v4 v5 v6 v7 v8 v9 : Value) :
    BoxAt ((((((((((w.setCell ⟨k, 0, none⟩ v0).setCell ⟨k, 1, none⟩ v1).setCell ⟨k, 2, none⟩ v2).setCell ⟨k, 3, none⟩ v3).setCell ⟨k, 4, none⟩ v4).setCell ⟨k, 5, none⟩ v5).setCell ⟨k, 6, none⟩ v6).setCell ⟨k, 7, none⟩ v7).setCell ⟨k, 8, none⟩ v8).setCell ⟨k, 9, none⟩ v9) g x0 x1 x2 x3 x4 x5 x6 x7 A n c len := h.sets hk 0 [v0, v1, v2, v3, v4, v5, v6, v7, v8, v9]
theorem BoxAt.draw1 {w : World} {g : Nat} {x0 x1 x2 x3 x4 x5 x6 x7 : Int} {A : Option Addr} {n c : Nat} {len : Int} (h : BoxAt w g x0 x1 x2 x3 x4 x5 x6 x7 A n c len) : BoxAt w.drew g x0 x1 x2 x3 x4 x5 x6 x7 A n c len := h
theorem Bts.put10 {w : World} {k : Nat} {x0 x1 x2 x3 x4 x5 x6 x7 : Int} {A B : Option Addr} {n c m d : Nat} {len : Int} {l : List Int} (hb : Bts w B m d l) (h : BoxAt w k x0 x1 x2 x3 x4 x5 x6 x7 A n c len) (v0 v1 v2 v3 v4 v5 v6 v7 v8 v9 : Value) :
    Bts ((((((((((w.setCell ⟨k, 0, none⟩ v0).setCell ⟨k, 1, none⟩ v1).setCell ⟨k, 2, none⟩ v2).setCell ⟨k, 3, none⟩ v3).setCell ⟨k, 4, none⟩ v4).setCell ⟨k, 5, none⟩ v5).setCell ⟨k, 6, none⟩ v6).setCell ⟨k, 7, none⟩ v7).setCell ⟨k, 8, none⟩ v8).setCell ⟨k, 9, none⟩ v9) B m d l := hb.sets h 0 [v0, v1, v2, v3, v4, v5, v6, v7, v8, v9]
theorem below_put10 {B : Nat} {w0 w : World} {k : Nat} (hk : B ≤ k) (h : Below B w0 w) (v0 v1 v2 v3 v4 v5 v6 v7 v8 v9 : Value) : Below B w0 ((((((((((w.setCell ⟨k, 0, none⟩ v0).setCell ⟨k, 1, none⟩ v1).setCell ⟨k, 2, none⟩ v2).setCell ⟨k, 3, none⟩ v3).setCell ⟨k, 4, none⟩ v4).setCell ⟨k, 5, none⟩ v5).setCell ⟨k, 6, none⟩ v6).setCell ⟨k, 7, none⟩ v7).setCell ⟨k, 8, none⟩ v8).setCell ⟨k, 9, none⟩ v9) := setCells_below hk [v0, v1, v2, v3, v4, v5, v6, v7, v8, v9] 0 w h
theorem heap_put10 {w : World} {k : Nat} {x0 x1 x2 x3 x4 x5 x6 x7 : Int} {A : Option Addr} {n c : Nat} {len : Int} (h : BoxAt w k x0 x1 x2 x3 x4 x5 x6 x7 A n c len) (v0 v1 v2 v3 v4 v5 v6 v7 v8 v9 : Value) :
    ((((((((((w.setCell ⟨k, 0, none⟩ v0).setCell ⟨k, 1, none⟩ v1).setCell ⟨k, 2, none⟩ v2).setCell ⟨k, 3, none⟩ v3).setCell ⟨k, 4, none⟩ v4).setCell ⟨k, 5, none⟩ v5).setCell ⟨k, 6, none⟩ v6).setCell ⟨k, 7, none⟩ v7).setCell ⟨k, 8, none⟩ v8).setCell ⟨k, 9, none⟩ v9).heap[k]? = some (.cells #[v0, v1, v2, v3, v4, v5, v6, v7, v8, v9] 63 (0, 0)) := setCells_all (vs := [v0, v1, v2, v3, v4, v5, v6, v7, v8, v9]) h rfl

/-- so many of the bytes are whole blocks -/
def whole (l : List Int) : Nat := l.length / 64 * 64
def AddPost (w : World) (x all : List Int) (len : Int) (e : Ending) (w' : World) : Prop :=
  ∃ y0 y1 y2 y3 y4 y5 y6 y7 A n c, e = .returned (hashV y0 y1 y2 y3 y4 y5 y6 y7 A n c len) ∧ byBlocks x (all.take (whole all)) = [y0, y1, y2, y3, y4, y5, y6, y7] ∧ Bts w' A n c (all.drop (whole all)) ∧ Below w.heap.size w w'

set_option maxRecDepth 100000 in
set_option maxHeartbeats 1000000 in
theorem add_good (x0 x1 x2 x3 x4 x5 x6 x7 : Int) (A B : Option Addr) (n c N m d : Nat) (rest b : List Int) (w : World) (hK : KTab w) (hmay : mayB n N = true) (hroom : (m : Int) ≤ 1048576 - N) (ha : Bts w A n c rest) (hb : Bts w B m d b) :
    Calls Tryd.prog 45 #[hashV x0 x1 x2 x3 x4 x5 x6 x7 A n c N, .slice B m d] w (AddPost w [x0, x1, x2, x3, x4, x5, x6, x7] (rest ++ b) ((N : Int) + (m : Int))) := by
  obtain ⟨_, hN, hn⟩ := mayB_yes hmay
  have hN : N ≤ 1048576 := by omega
  have hn64 : n < 64 := by omega
  have hm : m ≤ 1048576 := by omega
  have hlen := byBlocks_length [x0, x1, x2, x3, x4, x5, x6, x7] ((rest ++ b).take (whole (rest ++ b))) rfl
  obtain ⟨y0, y1, y2, y3, y4, y5, y6, y7, hY⟩ := eight hlen
  have HY := Lib.hid hY
  clear hY hlen hn
  go_enter Tryd.func45, Tryd.ntmps45
  go_wp2_with (go_at_call 51; refine (may_any _ _ _ _ _ _ _ _ _ _ _ _ _).mono ?_; rintro e w0 ⟨rfl, rfl⟩)
  generalize hW : World.alloc _ _ = W
  obtain ⟨hB0, hz0, hX0, hO0⟩ := named_three hW
  have hbe : BoxAt W w.heap.size x0 x1 x2 x3 x4 x5 x6 x7 A n c N := hX0
  have hbo : BoxAt W (w.heap.size + 1) 0 0 0 0 0 0 0 0 none 0 0 0 := hO0
  clear hW hX0 hO0 hmay hz0
  refine (join_any rest b A B n c m d W (ha.below hB0) (hb.below hB0) (by omega) (by omega)).mono ?_
  rintro e w1 ⟨v1, rfl, hown1, hb1⟩
  obtain ⟨A1, n1, c1, rfl, hbt1⟩ := hown1.slice (ok_append ha.ok hb.ok)
  have hbe1 := hbe.below hb1
  have hbo1 := hbo.below hb1
  have hB1 := hB0.trans (hb1.mono hB0.size)
  have hn1 : n1 = n + m := by rw [← hbt1.len, List.length_append, ha.len, hb.len]
  have hn1' : n1 ≤ 1048700 := by omega
  have hwh : n1 / 64 * 64 = whole (rest ++ b) := by rw [whole, hbt1.len]
  obtain ⟨A2, hfrom, hbt2⟩ := run_from hbt1 ((n1 : Int) / 64 * 64) (lo := n1 / 64 * 64) (by omega) (by omega)
  obtain ⟨hto, hbt3⟩ := run_to hbt1 ((n1 : Int) / 64 * 64) (hi := n1 / 64 * 64) (by omega) (by omega)
  have hq1 : n1 - n1 / 64 * 64 ≤ 64 := by omega
  rw [hwh] at hbt2 hbt3
  rw [hwh] at hfrom hto hq1
  obtain ⟨L, hL⟩ : ∃ L, L = whole (rest ++ b) := ⟨_, rfl⟩
  rw [← hL] at hbt2 hbt3 hfrom hto hq1
  have HL := Lib.hid hL
  clear hn1 hwh hown1 hb1 hbe hbo hL
  go_wp2_with fail
  refine (join_any ((rest ++ b).drop L) [] A2 none (n1 - L) (c1 - L) 0 0 w1 hbt2 (Bts.nil w1) (by omega) (by omega)).mono ?_
  rintro e w2 ⟨v3, rfl, hown3, hb2⟩
  obtain ⟨A3, n3, c3, rfl, hbt4⟩ := hown3.slice (ok_append hbt2.ok (Bts.nil w1).ok)
  rw [List.append_nil] at hbt4
  have hbe2 := hbe1.below hb2
  have hbo2 := hbo1.below hb2
  have hB2 := hB1.trans (hb2.mono hB1.size)
  have hbt5 := hbt3.below hb2
  clear hown3 hb2 hbe1 hbo1 hbt2 hbt3 hbt1 hfrom
  have hsum : IntKind.i64.wrap ((N : Int) + (m : Int)) = (N : Int) + (m : Int) := IntWalk.i64_in _ (by omega)
  have hi26 : (Tryd.prog.info? 63).map (·.size) = some 10 := by kernel_rfl
  go_wp2
  go_region_held3 (fun w' => w'.cell? ⟨w.heap.size, 0, none⟩ = some (.int .u32 x0) ∧ w'.cell? ⟨w.heap.size, 1, none⟩ = some (.int .u32 x1) ∧ w'.cell? ⟨w.heap.size, 2, none⟩ = some (.int .u32 x2) ∧ w'.cell? ⟨w.heap.size, 3, none⟩ = some (.int .u32 x3) ∧ w'.cell? ⟨w.heap.size, 4, none⟩ = some (.int .u32 x4) ∧ w'.cell? ⟨w.heap.size, 5, none⟩ = some (.int .u32 x5) ∧ w'.cell? ⟨w.heap.size, 6, none⟩ = some (.int .u32 x6) ∧ w'.cell? ⟨w.heap.size, 7, none⟩ = some (.int .u32 x7) ∧ w'.cell? ⟨w.heap.size, 8, none⟩ = some (.slice A n c) ∧ w'.cell? ⟨w.heap.size, 9, none⟩ = some (.int .i64 N))
    (first | (with_reducible exact BoxAt.cells hbe2) | (with_reducible exact BoxAt.cells hbe2.draw1) | (with_reducible exact BoxAt.cells hbe3) | (with_reducible exact BoxAt.cells (hbe3.put10 (Nat.ne_of_lt (Nat.lt_succ_self _)) _ _ _ _ _ _ _ _ _ _)))
    (first
    | (go_at_call 53; refine (roundedBy_lit _ _ _ _ _ _ _ _ ((rest ++ b).take L) A1 L c1 _ (hK.from hB2.drew) hbt5.draw1).mono ?_; rintro e w3 ⟨he, hb3⟩
       have hb3 := below_draw hb3
       rw [HL.out, HY.out] at he
       simp only [regv, List.map_cons, List.map_nil] at he
       subst he
       have hbe3 := hbe2.below hb3
       have hbo3 := hbo2.below hb3
       have hB3 := hB2.trans (hb3.mono hB2.size)
       obtain ⟨o0, o1, o2, o3, o4, o5, o6, o7, o8, o9⟩ := BoxAt.cells hbo3
       obtain ⟨f0, f1, f2, f3, f4, f5, f6, f7, f8, f9⟩ := BoxAt.free hbo3
       have hbt6 := hbt4.below hb3))
  go_wp2
  refine bodyPost_ret (v := hashV y0 y1 y2 y3 y4 y5 y6 y7 A3 n3 c3 ((N : Int) + (m : Int))) ?_ ?_ ?_
  · exact results_cell_row Tryd.results45 _ _ (w.heap.size + 1) 63 _ (0, 0) _ rfl (heap_put10 hbo3 _ _ _ _ _ _ _ _ _ _) Tryd.underlying63 rfl hi26
  · rfl
  · refine ⟨y0, y1, y2, y3, y4, y5, y6, y7, A3, n3, c3, rfl, HY.out, ?_, below_put10 (Nat.le_succ _) hB3 _ _ _ _ _ _ _ _ _ _⟩
    rw [← HL.out]
    exact hbt6.put10 hbo3 _ _ _ _ _ _ _ _ _ _
end Go.Proofs.YtcfkpepohnjdfaaDoor

/- The walks over package sha's Add and End where they answer noughts, and over Sum. -/
namespace Go.Proofs.YtcfkpepohnjdfaaDoor
open Go.RowKit

theorem add_yes (x0 x1 x2 x3 x4 x5 x6 x7 len : Int) (A B : Option Addr) (n c m d : Nat) (rest b : List Int) (w : World) (hK : KTab w) (hmay : mayB n len = true) (hroom : (m : Int) ≤ 1048576 - len) (ha : Bts w A n c rest) (hb : Bts w B m d b) :
    Calls Tryd.prog 45 #[hashV x0 x1 x2 x3 x4 x5 x6 x7 A n c len, .slice B m d] w (AddPost w [x0, x1, x2, x3, x4, x5, x6, x7] (rest ++ b) (len + (m : Int))) := by
  obtain ⟨N, rfl⟩ := Int.eq_ofNat_of_zero_le (mayB_yes hmay).1
  exact add_good x0 x1 x2 x3 x4 x5 x6 x7 A B n c N m d rest b w hK hmay hroom ha hb
theorem end_yes (x0 x1 x2 x3 x4 x5 x6 x7 len : Int) (A : Option Addr) (n c : Nat) (rest : List Int) (w : World) (hK : KTab w) (hmay : mayB n len = true) (hb : Bts w A n c rest) :
    Calls Tryd.prog 44 #[hashV x0 x1 x2 x3 x4 x5 x6 x7 A n c len] w fun e w' => e = .returned (.agg (idv (endL [x0, x1, x2, x3, x4, x5, x6, x7] rest len.toNat))) ∧ Below w.heap.size w w' := by
  obtain ⟨N, rfl⟩ := Int.eq_ofNat_of_zero_le (mayB_yes hmay).1
  exact end_good x0 x1 x2 x3 x4 x5 x6 x7 A n c N rest w hK hmay hb

set_option maxHeartbeats 400000 in
theorem add_zero_may (x0 x1 x2 x3 x4 x5 x6 x7 len : Int) (A B : Option Addr) (n c m d : Nat) (w : World) (hmay : mayB n len = false) :
    Calls Tryd.prog 45 #[hashV x0 x1 x2 x3 x4 x5 x6 x7 A n c len, .slice B m d] w fun e w' => e = .returned (hashV 0 0 0 0 0 0 0 0 none 0 0 0) ∧ Below w.heap.size w w' := by
  have hi26 : (Tryd.prog.info? 63).map (·.size) = some 10 := by kernel_rfl
  go_enter Tryd.func45, Tryd.ntmps45
  go_wp2_with fail
  refine (may_any _ _ _ _ _ _ _ _ _ _ _ _ _).mono ?_
  rintro e w0 ⟨rfl, rfl⟩
  generalize hW : World.alloc _ _ = W
  obtain ⟨hB0, hz0, hX0, hO0⟩ := named_three hW
  have hbe : BoxAt W w.heap.size x0 x1 x2 x3 x4 x5 x6 x7 A n c len := hX0
  have hbo : BoxAt W (w.heap.size + 1) 0 0 0 0 0 0 0 0 none 0 0 0 := hO0
  obtain ⟨o0, o1, o2, o3, o4, o5, o6, o7, o8, o9⟩ := BoxAt.cells hbo
  obtain ⟨f0, f1, f2, f3, f4, f5, f6, f7, f8, f9⟩ := BoxAt.free hbo
  obtain ⟨_, _, _, _, _, _, _, _, _, e9⟩ := BoxAt.cells hbe
  clear hW hX0 hO0 hz0
  rw [hmay]
  go_wp2
  refine bodyPost_ret (v := hashV 0 0 0 0 0 0 0 0 none 0 0 0) ?_ ?_ ?_
  · exact results_cell_row Tryd.results45 _ _ (w.heap.size + 1) 63 _ (0, 0) _ rfl (heap_put10 hbo _ _ _ _ _ _ _ _ _ _) Tryd.underlying63 rfl hi26
  · rfl
  · exact ⟨rfl, below_put10 (Nat.le_succ _) hB0 _ _ _ _ _ _ _ _ _ _⟩

set_option maxHeartbeats 400000 in
theorem add_zero_room (x0 x1 x2 x3 x4 x5 x6 x7 len : Int) (A B : Option Addr) (n c m d : Nat) (w : World) (hmay : mayB n len = true) (_hm : m ≤ 9223372036854775807) (hroom : 1048576 - len < (m : Int)) :
    Calls Tryd.prog 45 #[hashV x0 x1 x2 x3 x4 x5 x6 x7 A n c len, .slice B m d] w fun e w' => e = .returned (hashV 0 0 0 0 0 0 0 0 none 0 0 0) ∧ Below w.heap.size w w' := by
  obtain ⟨h0, h1, h2⟩ := mayB_yes hmay
  have H2 := Lib.hid h2
  clear h2
  have hi26 : (Tryd.prog.info? 63).map (·.size) = some 10 := by kernel_rfl
  go_enter Tryd.func45, Tryd.ntmps45
  go_wp2_with fail
  refine (may_any _ _ _ _ _ _ _ _ _ _ _ _ _).mono ?_
  rintro e w0 ⟨rfl, rfl⟩
  generalize hW : World.alloc _ _ = W
  obtain ⟨hB0, hz0, hX0, hO0⟩ := named_three hW
  have hbe : BoxAt W w.heap.size x0 x1 x2 x3 x4 x5 x6 x7 A n c len := hX0
  have hbo : BoxAt W (w.heap.size + 1) 0 0 0 0 0 0 0 0 none 0 0 0 := hO0
  obtain ⟨o0, o1, o2, o3, o4, o5, o6, o7, o8, o9⟩ := BoxAt.cells hbo
  obtain ⟨f0, f1, f2, f3, f4, f5, f6, f7, f8, f9⟩ := BoxAt.free hbo
  obtain ⟨_, _, _, _, _, _, _, _, _, e9⟩ := BoxAt.cells hbe
  clear hW hX0 hO0 hz0
  rw [hmay]
  go_wp2
  refine bodyPost_ret (v := hashV 0 0 0 0 0 0 0 0 none 0 0 0) ?_ ?_ ?_
  · exact results_cell_row Tryd.results45 _ _ (w.heap.size + 1) 63 _ (0, 0) _ rfl (heap_put10 hbo _ _ _ _ _ _ _ _ _ _) Tryd.underlying63 rfl hi26
  · rfl
  · exact ⟨rfl, below_put10 (Nat.le_succ _) hB0 _ _ _ _ _ _ _ _ _ _⟩

set_option maxHeartbeats 400000 in
theorem end_zero (x0 x1 x2 x3 x4 x5 x6 x7 len : Int) (A : Option Addr) (n c : Nat) (w : World) (hmay : mayB n len = false) :
    Calls Tryd.prog 44 #[hashV x0 x1 x2 x3 x4 x5 x6 x7 A n c len] w fun e w' => e = .returned (.agg (idv (List.replicate 32 0))) ∧ Below w.heap.size w w' := by
  go_enter Tryd.func44, Tryd.ntmps44
  go_wp2_with fail
  refine (may_any _ _ _ _ _ _ _ _ _ _ _ _ _).mono ?_
  rintro e w0 ⟨rfl, rfl⟩
  generalize hW : World.alloc _ _ = W
  obtain ⟨hB0, hz0, hX0, hO0⟩ := named_three hW
  have hO0 : RowB W (w.heap.size + 1) 30 (List.replicate 32 0) := hO0
  clear hW hX0 hz0
  rw [hmay]
  go_wp2_with (first | ((with_reducible refine wpList_store_b rfl 30 _ _ rfl (w.heap.size + 1) (List.replicate 32 0) ?hx7 ?hy7 30 (List.replicate 32 0) hO0 (info32 rfl) ?hl7 ?hm7); (case hx7 => rfl); (case hy7 => rfl); (case hl7 => rfl); intro w6 hg6 hX6 hs6))
  refine bodyPost_ret (v := .agg (idv (List.replicate 32 0))) ?_ ?_ ?_
  · exact results_cell_row Tryd.results44 _ _ (w.heap.size + 1) 30 _ (0, 0) _ rfl hX6.is Tryd.underlying30 rfl (info32 rfl)
  · rfl
  · exact ⟨rfl, Below.grows hB0 hg6 hB0.size (by omega)⟩

theorem whole_le (l : List Int) : whole l ≤ l.length := by unfold whole; omega
theorem add_new (B : Option Addr) (m d : Nat) (l : List Int) (w : World) (hK : KTab w) (hm : m ≤ 1048576) (hb : Bts w B m d l) :
    Calls Tryd.prog 45 #[hashV 1779033703 3144134277 1013904242 2773480762 1359893119 2600822924 528734635 1541459225 none 0 0 0, .slice B m d] w (AddPost w iList l (m : Int)) := by
  have h := add_yes 1779033703 3144134277 1013904242 2773480762 1359893119 2600822924 528734635 1541459225 0 none B 0 0 m d [] l w hK (by decide) (by omega) (Bts.nil w) hb
  rw [Int.zero_add, List.nil_append] at h
  exact h

set_option maxHeartbeats 400000 in
theorem sum_yes (B : Option Addr) (m d : Nat) (l : List Int) (w : World) (hK : KTab w) (hm : m ≤ 1048576) (hb : Bts w B m d l) :
    Calls Tryd.prog 40 #[.slice B m d] w fun e w' => e = .returned (.agg (idv (sumL l))) ∧ Below w.heap.size w w' := by
  obtain ⟨Z, hZ⟩ : ∃ Z, Z = sumL l := ⟨_, rfl⟩
  have hZl : Z.length = 32 := by rw [hZ, sumL, endL]; exact spelt_length _
  rw [← hZ]
  have HZ := Lib.hid hZ
  have HZL := Lib.hid hZl
  clear hZ hZl
  go_enter Tryd.func40, Tryd.ntmps40
  go_wp2_with fail
  refine (new_any _).mono ?_
  rintro e w1 ⟨rfl, hb1⟩
  obtain ⟨hB1, hz1, hO1⟩ := after_one hb1
  have hO1 : RowB w1 w.heap.size 30 (List.replicate 32 0) := hO1
  clear hb1
  go_wp2_with fail
  refine (add_new B m d l w1 (hK.from hB1) hm (hb.below hB1)).mono ?_
  rintro e w2 ⟨y0, y1, y2, y3, y4, y5, y6, y7, A3, n3, c3, rfl, hY, hbt, hb2⟩
  have hO2 := hO1.below hb2 hO1.lt
  have hB2 := hB1.trans (hb2.mono hB1.size)
  have hmay : mayB n3 (m : Int) = true := by
    have h1 := hbt.len
    rw [List.length_drop, hb.len, whole, hb.len] at h1
    unfold mayB
    rw [decide_eq_true_eq]
    omega
  have hfin : endL [y0, y1, y2, y3, y4, y5, y6, y7] (l.drop (whole l)) ((m : Int)).toNat = Z := by
    rw [HZ.out, sumL, ← hY, Int.toNat_natCast, ← hb.len]
    rfl
  have HF := Lib.hid hfin
  have HMAY := Lib.hid hmay
  clear hfin hmay hY hb2
  go_wp2_with fail
  refine (end_yes y0 y1 y2 y3 y4 y5 y6 y7 (m : Int) A3 n3 c3 (l.drop (whole l)) w2 (hK.from hB2) HMAY.out hbt).mono ?_
  rintro e w3 ⟨he, hb3⟩
  rw [HF.out] at he
  subst he
  have hO3 := hO2.below hb3 hO2.lt
  have hB3 := hB2.trans (hb3.mono hB2.size)
  clear hb3
  go_wp2_with (first | ((with_reducible refine wpList_store_b rfl 30 _ _ rfl w.heap.size Z ?hx7 ?hy7 30 (List.replicate 32 0) hO3 (info32 HZL.out) ?hl7 ?hm7); (case hx7 => rfl); (case hy7 => rfl); (case hl7 => rw [HZL.out]; rfl); intro w6 hg6 hX6 hs6))
  refine bodyPost_ret (v := .agg (idv Z)) ?_ ?_ ?_
  · exact results_cell_row Tryd.results40 _ _ w.heap.size 30 _ (0, 0) _ rfl hX6.is Tryd.underlying30 rfl (info32 HZL.out)
  · rfl
  · exact ⟨rfl, Below.grows hB3 hg6 hB3.size (Nat.le_refl _)⟩
end Go.Proofs.YtcfkpepohnjdfaaDoor

/- The walk over package mac's Block: a key, made as long as a block. -/
namespace Go.Proofs.YtcfkpepohnjdfaaDoor
open Go.RowKit

set_option maxHeartbeats 1000000 in
theorem block_short (A : Option Addr) (n c : Nat) (key : List Int) (w : World) (hn : n ≤ 64) (hb : Bts w A n c key) :
    Calls Tryd.prog 38 #[.slice A n c] w fun e w' => e = .returned (.slice (some ⟨w.heap.size, 0, none⟩) 64 64) ∧ RowB w' w.heap.size 5 (blockL key) ∧ Below w.heap.size w w' := by
  have hkl := hb.len
  have hres : key ++ (List.replicate 64 (0 : Int)).drop n = blockL key := by
    rw [blockL, keyL, if_neg (by omega), padK, List.drop_replicate, hkl]
  have HR := Lib.hid hres
  clear hkl hres
  go_enter Tryd.func38, Tryd.ntmps38
  go_wp2_with (first
    | (at_make
       refine wpList_make_n rfl _ _ rfl 64 64 64 rfl rfl rfl rfl (by omega) ?_
       intro w1 hX1 hg1 hs1
       have hB1 : Below w.heap.size w w1 := (Below.refl _ _).grown hg1 (Nat.le_refl _) (fun k hk => by cases hk))
    | (refine wpList_copy_b rfl (.tmp 12) (.tmp 13) rfl w.heap.size 64 (List.replicate 64 0) rfl hX1 (by simp) A n c key rfl (hb.below hB1) hn w.heap.size w hB1 (Nat.le_refl _) ?_
       intro w2 hX2 hB2
       rw [HR.out] at hX2))
  go_ret
  exact ⟨rfl, hX2, hB2⟩

set_option maxHeartbeats 1000000 in
theorem block_long (A : Option Addr) (n c : Nat) (key : List Int) (w : World) (hK : KTab w) (hn : 64 < n) (hm : n ≤ 1048576) (hb : Bts w A n c key) :
    Calls Tryd.prog 38 #[.slice A n c] w fun e w' => e = .returned (.slice (some ⟨w.heap.size, 0, none⟩) 64 64) ∧ RowB w' w.heap.size 5 (blockL key) ∧ Below w.heap.size w w' := by
  obtain ⟨Z, hZ⟩ : ∃ Z, Z = sumL key := ⟨_, rfl⟩
  have hZl : Z.length = 32 := by rw [hZ]; exact sumL_length _
  have hZo : ∀ j, 0 ≤ Z.getD j 0 ∧ Z.getD j 0 < 256 := by rw [hZ]; exact ok_sum _
  have hkl := hb.len
  have hres : Z ++ (List.replicate 64 (0 : Int)).drop 32 = blockL key := by
    rw [blockL, keyL, if_pos (by omega), ← hZ, padK, List.drop_replicate, hZl]
  have HR := Lib.hid hres
  have HZ := Lib.hid hZ
  have HZL := Lib.hid hZl
  have HZO := Lib.hid hZo
  clear hkl hres hZ hZl hZo
  go_enter Tryd.func38, Tryd.ntmps38
  go_wp2_with (first
    | (at_make
       refine wpList_make_n rfl _ _ rfl 64 64 64 rfl rfl rfl rfl (by omega) ?_
       intro w1 hX1 hg1 hs1
       have hB1 : Below w.heap.size w w1 := (Below.refl _ _).grown hg1 (Nat.le_refl _) (fun k hk => by cases hk))
    | (go_at_call 40; refine (sum_yes A n c key w1 (hK.from hB1) hm (hb.below hB1)).mono ?_; rintro e w3 ⟨he, hb3⟩
       rw [← HZ.out] at he
       subst he
       have hX3 := hX1.below hb3 hX1.lt
       have hB3 := hB1.trans (hb3.mono hB1.size)
       clear hb3)
    | ((with_reducible refine wpList_store_b rfl 30 _ _ rfl w3.heap.size Z ?hx ?hy 30 (List.replicate 32 0) (rowb_lit w3 30 _ _ ?hz) (info32 HZL.out) ?hl ?hm); (case hx => rfl); (case hy => rfl); (case hz => rfl); (case hl => rw [HZL.out]; rfl)
       intro w4 hg4 hA4 hs4
       have hX4 : RowB w4 w.heap.size 5 (List.replicate 64 0) := (hX3.more _).grown hg4 (ne_some (Nat.ne_of_lt hX3.lt))
       have hB4 : Below w.heap.size w w4 := Below.grows (hB3.alloc hB3.size _) hg4 (Nat.le_trans hB3.size (size_le_alloc _ _)) hB3.size
       clear hg4 hs4)
    | (refine wpList_copy_b rfl (.tmp 12) (.tmp 13) rfl w.heap.size 64 (List.replicate 64 0) rfl hX4 (by simp) (some ⟨w3.heap.size, 0, none⟩) 32 32 Z rfl (hA4.btsAt HZL.out (by unfold maxLen; omega) HZO.out) (by omega) w.heap.size w hB4 (Nat.le_refl _) ?_
       intro w5 hX5 hB5
       rw [HR.out] at hX5))
  go_ret
  exact ⟨rfl, hX5, hB5⟩

theorem block_any (A : Option Addr) (n c : Nat) (key : List Int) (w : World) (hK : KTab w) (hm : n ≤ 1048576) (hb : Bts w A n c key) :
    Calls Tryd.prog 38 #[.slice A n c] w fun e w' => e = .returned (.slice (some ⟨w.heap.size, 0, none⟩) 64 64) ∧ RowB w' w.heap.size 5 (blockL key) ∧ Below w.heap.size w w' := by
  by_cases h : 64 < n
  · exact block_long A n c key w hK h hm hb
  · exact block_short A n c key w (by omega) hb
end Go.Proofs.YtcfkpepohnjdfaaDoor
