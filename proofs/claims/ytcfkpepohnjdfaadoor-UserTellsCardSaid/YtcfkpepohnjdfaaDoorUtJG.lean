/- Joined texts: The walk over the plain answers' Cat of numbers. The walks over the plain answers' turned, constant and numbers. The walk over the plain answers' numbers: the 64 numbers of a block, appended one by one. The walk over the plain answers' numbers. The walk over the plain answers' round: a register, rounded by a block. The walks over the plain answers' New and May. Blocks, part by part: plain facts on lists. The walk over the plain answers' Add, where the state may be, and there is room for the bytes. -/
import Derived.Test.YtcfkpepohnjdfaaDoorUtJF
import Derived.Test.YtcfkpepohnjdfaaDoorUtJC
import Derived.OwnWalk
import Derived.Deep.RegionHeld3
import Derived.Deep.AppendLies
import Derived.BigQuiet
import Derived.Deep.RegionLaw
import Derived.StillTailTactics
import Derived.Test.YtcfkpepohnjdfaaDoorUtJD
/- The walk over the plain answers' Cat of numbers. -/
namespace Go.Proofs.YtcfkpepohnjdfaaDoor
set_option linter.unusedVariables false
set_option linter.unusedSimpArgs false
open Go.RowKit

theorem rput_yes (N K : Nat) (w : World) (h1 : 1 ≤ K) (h2 : K ≤ 8) (h3 : N < 256 ^ K) :
    Calls Tryd.prog 35 #[.int .u64 N, .int .i64 K] w fun e w' => e = .returned (.tuple #[.slice (some ⟨w.heap.size, 0, none⟩) K K, .bool true]) ∧ RowB w' w.heap.size 5 (putL N K) ∧ Below w.heap.size w w' :=
  (rput_any N K w h1 h2 (Nat.lt_of_lt_of_le h3 (Nat.pow_le_pow_right (by omega) h2))).mono fun e w' ⟨he, hX, hB⟩ => ⟨by rw [he, putV, if_pos h3], hX, hB⟩
theorem rput_no (n k : Int) (w : World) (h0 : 0 ≤ n) (h1 : n < 18446744073709551616) (h : fitB n k = false) :
    Calls Tryd.prog 35 #[.int .u64 n, .int .i64 k] w fun e w' => e = .returned (.tuple #[.slice none 0 0, .bool false]) ∧ Below w.heap.size w w' := by
  by_cases hk : k < 1 ∨ 8 < k
  · exact rput_out n k w hk
  · obtain ⟨N, rfl⟩ := Int.eq_ofNat_of_zero_le h0
    obtain ⟨K, rfl⟩ := Int.eq_ofNat_of_zero_le (show 0 ≤ k by omega)
    have h3 : ¬ N < 256 ^ K := fun h2 => by
      rw [fit_of N K (by omega) (by omega) h2] at h
      exact Bool.noConfusion h
    exact (rput_any N K w (by omega) (by omega) (by omega)).mono fun e w' ⟨he, _, hB⟩ => ⟨by rw [he, putV, if_neg h3], hB⟩

theorem rcat_long (A : Option Addr) (n c : Nat) (l : List (Int × Int)) (w : World) (hl : Nms w A n c l) (h : 40 < n) :
    Calls Tryd.prog 25 #[.slice A n c] w fun e w' => CatPost l w e w' := by
  have hn := hl.rws.small
  have h1 : (40 : Int) < n := by omega
  have h2 : catB l = false := by rw [catB, hl.len, decide_eq_false (by omega), Bool.false_and]
  have H2 := Lib.hid h2
  clear h2
  go_enter Tryd.func25, Tryd.ntmps25
  go_wp2
  go_ret2
  exact catPost_no H2.out (Below.refl _ _)
set_option maxHeartbeats 2000000 in
theorem rcat_short (A : Option Addr) (n c : Nat) (l : List (Int × Int)) (w : World) (hl : Nms w A n c l) (h : n ≤ 40) :
    Calls Tryd.prog 25 #[.slice A n c] w fun e w' => CatPost l w e w' := by
  have h1 : (n : Int) ≤ 40 := by omega
  have hll : l.length = n := hl.len
  have HLL := Lib.hid hll
  clear hll
  go_enter Tryd.func25, Tryd.ntmps25
  go_wp2
  go_loopw [4, 5] (fun v i wr => ∃ k : Nat, k ≤ n ∧ i = .int .i64 k ∧ fitsB (l.take k) = true ∧ Own wr w.heap.size v (catL (toN (l.take k))) ∧ Below w.heap.size w wr) (fun _ i _ => n - (intOf i).toNat)
  case atStart => exact ⟨0, Nat.zero_le _, rfl, rfl, Own.nil _ _, Below.refl _ _⟩
  case round =>
    obtain ⟨k, hk, rfl, hfit, hown, hB⟩ := hrel
    have HF := Lib.hid hfit
    clear hfit
    by_cases hlt : k < n
    · obtain ⟨b, off, rfl, hcs⟩ := (hl.below hB).cells (by omega)
      obtain ⟨hc0, hc1⟩ := hcs k hlt
      obtain ⟨p, hp⟩ : ∃ p, p = l.getD k (0, 0) := ⟨_, rfl⟩
      rw [← hp] at hc0 hc1
      obtain ⟨x, y⟩ := p
      simp only at hc0 hc1
      have hb4 := hl.at_ k hlt
      rw [← hp] at hb4
      simp only at hb4
      have HB4 := Lib.hid hb4
      have HP := Lib.hid hp
      clear hp hb4 hcs
      have hlk : k < l.length := by rw [HLL.out]; exact hlt
      have hlk0 : (0 : Int) ≤ k := by omega
      have hlk1 : (k : Int) < n := by omega
      have hd0 : wr.drew.cell? ⟨b, off + k * 2, none⟩ = some (.int .u64 x) := hc0
      have hd1 : wr.drew.cell? ⟨b, off + k * 2 + 1, none⟩ = some (.int .i64 y) := hc1
      cases hf : fitB x y with
      | false =>
        have HNF := Lib.hid hf
        have hcb : catB l = false := by
          have h3 := fitsB_snoc l k hlk
          rw [← HP.out, HNF.out, Bool.and_false] at h3
          rw [catB, fitsB_part l (k + 1) h3, Bool.and_false]
        have HCB := Lib.hid hcb
        clear hf hcb
        go_wp2
        go_region_held3 (fun w' => w'.cell? ⟨b, off + k * 2, none⟩ = some (.int .u64 x) ∧ w'.cell? ⟨b, off + k * 2 + 1, none⟩ = some (.int .i64 y)) (first | with_reducible exact ⟨hd0, hd1⟩ | with_reducible exact ⟨k0, k1⟩)
          ((go_at_call 35; (with_reducible refine (rput_no x y _ HB4.out.1 HB4.out.2.1 HNF.out).mono ?_); rintro e w2 ⟨rfl, hb2⟩
            have hS2 := below_draw hb2
            have k0 := (hS2.cell (p := ⟨b, off + k * 2, none⟩) (block_lt_of_cell hc0)).trans hc0
            have k1 := (hS2.cell (p := ⟨b, off + k * 2 + 1, none⟩) (block_lt_of_cell hc1)).trans hc1
            clear hb2))
        clear k0 k1 hd0 hd1 hc0 hc1
        go_wp2
        go_ret2
        exact catPost_no HCB.out (then_below hB hS2)
      | true =>
        obtain ⟨N, K, rfl, rfl, h2, h3, h4⟩ := fit_nat HB4.out.1 hf
        obtain ⟨Z, hZ⟩ : ∃ Z, putL N K = Z := ⟨_, rfl⟩
        have hZl : Z.length = K := by rw [← hZ]; exact putL_length N K
        have hZo : ∀ j, 0 ≤ Z.getD j 0 ∧ Z.getD j 0 < 256 := by rw [← hZ]; exact ok_map _ (fun i => putAt_ok N K i) K
        have hnext : catL (toN (l.take (k + 1))) = catL (toN (l.take k)) ++ Z := by
          rw [catL_snoc l k hlk, ← HP.out, ← hZ]
          rfl
        have hfit2 : fitsB (l.take (k + 1)) = true := by
          rw [fitsB_snoc l k hlk, HF.out, ← HP.out, hf]
          rfl
        obtain ⟨L, hL⟩ : ∃ L, L = catL (toN (l.take k)) := ⟨_, rfl⟩
        have hLs : L.length ≤ 320 := by
          have := catL_small (l.take k) HF.out
          rw [List.length_take] at this
          rw [hL]
          omega
        rw [← hL] at hown hnext
        have HZ := Lib.hid hZ
        have HZL := Lib.hid hZl
        have HZO := Lib.hid hZo
        have H4 := Lib.hid h4
        have HNX := Lib.hid hnext
        have HF2 := Lib.hid hfit2
        clear hZ hZl hZo h4 hnext hfit2 hL hf hlk
        go_wp2
        go_region_held3 (fun w' => w'.cell? ⟨b, off + k * 2, none⟩ = some (.int .u64 N) ∧ w'.cell? ⟨b, off + k * 2 + 1, none⟩ = some (.int .i64 K)) (first | with_reducible exact ⟨hd0, hd1⟩ | with_reducible exact ⟨k0, k1⟩)
          ((go_at_call 35; (with_reducible refine (rput_yes N K _ h2 h3 H4.out).mono ?_); rintro e w2 ⟨rfl, hX2, hb2⟩
            have hS2 := below_draw hb2
            have hX2 : RowB w2 wr.heap.size 5 (putL N K) := hX2
            have k0 := (hS2.cell (p := ⟨b, off + k * 2, none⟩) (block_lt_of_cell hc0)).trans hc0
            have k1 := (hS2.cell (p := ⟨b, off + k * 2 + 1, none⟩) (block_lt_of_cell hc1)).trans hc1
            clear hb2))
        clear k0 k1 hd0 hd1 hc0 hc1
        rw [HZ.out] at hX2
        have hB2 := then_below hB hS2
        have hown2 := hown.below hS2
        go_wp2_with (first
          | (at_builtin
             refine wpList_append_b rfl _ _ rfl w.heap.size u4 L rfl hown2 _ K K Z rfl (hX2.bts HZL.out (by unfold maxLen; omega) HZO.out) (by omega) hB2.size ?_
             intro v5 w5 hown5 hg5
             have hB5 : Below w.heap.size w w5 := hB2.grown hg5 hB2.size (fun k hk => (hown2.size k hk).1)
             rw [← HNX.out] at hown5
             clear hg5))
        go_roundw
        case rel => exact ⟨k + 1, by omega, by go_num, HF2.out, hown5, hB5⟩
        case measure => simp [intOf]; omega
    · have hkn : k = n := by omega
      have htk : l.take k = l := by rw [hkn, ← HLL.out, List.take_length]
      rw [htk] at hown
      have hcb : catB l = true := by
        have h3 := HF.out
        rw [htk] at h3
        rw [catB, h3, HLL.out, decide_eq_true h]
        rfl
      have HCB := Lib.hid hcb
      have HO := Lib.hid hown
      clear hcb hown htk hkn
      go_wp2
      go_ret2
      exact catPost_yes HCB.out HO.out hB
theorem rcat_any (A : Option Addr) (n c : Nat) (l : List (Int × Int)) (w : World) (hl : Nms w A n c l) :
    Calls Tryd.prog 25 #[.slice A n c] w fun e w' => CatPost l w e w' := by
  by_cases h : 40 < n
  · exact rcat_long A n c l w hl h
  · exact rcat_short A n c l w hl (by omega)
end Go.Proofs.YtcfkpepohnjdfaaDoor

/- The walks over the plain answers' turned, constant and numbers. -/
namespace Go.Proofs.YtcfkpepohnjdfaaDoor
open Go.RowKit

set_option maxHeartbeats 400000 in
theorem rturned_any (x n : Int) (w : World) (hn : 0 ≤ n) (hn2 : n < 32) :
    Calls Tryd.prog 60 #[.int .u32 x, .int .u32 n] w fun e w' => e = .returned (.int .u32 (rot x n)) ∧ w = w' := by
  go_enter Tryd.func60, Tryd.ntmps60
  go_wp2
  go_ret
  exact ⟨rfl, rfl⟩

set_option maxRecDepth 100000 in
set_option maxHeartbeats 400000 in
theorem rconst_any (k : Nat) (w : World) (hk : k < 64) :
    Calls Tryd.prog 61 #[.int .i64 k] w fun e w' => e = .returned (.int .u32 (kList.getD k 0)) ∧ Below w.heap.size w w' := by
  obtain ⟨K, hKd⟩ : ∃ K, K = kList := ⟨_, rfl⟩
  have hKl : K.length = 64 := by rw [hKd]; rfl
  rw [← hKd]
  obtain ⟨x, hx⟩ : ∃ x, x = K.getD k 0 := ⟨_, rfl⟩
  rw [← hx]
  have HK := Lib.hid hKd
  have HL := Lib.hid hKl
  have HX := Lib.hid hx
  have p0 : 0 ≤ (k : Int) := by omega
  have q0 : (k : Int) < 64 := by omega
  clear hKd hKl hx
  go_enter Tryd.func61, Tryd.ntmps61
  go_wp2_with (first
    | ((with_reducible refine wpList_store_r32 rfl 75 _ _ rfl w.heap.size K ?hx ?hy 75 (List.replicate 64 0) (row_lit w 75 _ _ ?hz) (info64 HL.out) ?hl ?hm); (case hx => rfl); (case hy => rw [HK.out]; rfl); (case hz => rfl); (case hl => rw [HL.out]; rfl)
       intro w2 hg2 hR2 hs2
       have hc2 := hR2.cell k (by rw [HL.out]; exact hk)
       rw [← HX.out] at hc2
       have hb2 : Below w.heap.size w w2 := Below.grows ((Below.refl _ _).alloc (Nat.le_refl _) _) hg2 (by simp) (Nat.le_refl _)
       clear hg2 hs2))
  go_ret
  exact ⟨rfl, hb2⟩
end Go.Proofs.YtcfkpepohnjdfaaDoor

/- The walk over the plain answers' numbers: the 64 numbers of a block, appended one by one. -/
namespace Go.Proofs.YtcfkpepohnjdfaaDoor
open Go.RowKit

/-- a slice of numbers of 32 bits that the call made itself -/
def OwnW (w : World) (base : Nat) (v : Value) (l : List Int) : Prop := w.ownsRow base 60 1 v l.length (l.map (Value.int .u32))
theorem OwnW.nil (w : World) (base : Nat) : OwnW w base (.slice none 0 0) [] := World.ownsRow_nil _ _ _ _
theorem OwnW.more {w : World} {base : Nat} {v : Value} {l : List Int} (h : OwnW w base v l) (o : Obj) : OwnW (w.alloc o) base v l := World.ownsRow.alloc h o
theorem OwnW.draw1 {w : World} {base : Nat} {v : Value} {l : List Int} (h : OwnW w base v l) : OwnW w.drew base v l := h
theorem OwnW.draw {w : World} {base : Nat} {v : Value} {l : List Int} (h : OwnW w base v l) (k : Nat) : OwnW (w.drewN k) base v l := h
theorem OwnW.size {w : World} {base : Nat} {v : Value} {l : List Int} (h : OwnW w base v l) : ∀ k, v.ownBlock = some k → base ≤ k ∧ k < w.heap.size := World.ownsRow.lt h
theorem OwnW.below {w w' : World} {base : Nat} {v : Value} {l : List Int} (h : OwnW w base v l) (hb : Below w.heap.size w w') : OwnW w' base v l := by
  refine ⟨h.1, ?_⟩
  rcases h.2 with h0 | ⟨g, cap, cur, hv, hg, hh, rest⟩
  · exact .inl h0
  · exact .inr ⟨g, cap, cur, hv, hg, (hb.block g (Array.getElem?_eq_some_iff.1 hh).1).trans hh, rest⟩
theorem OwnW.form {w : World} {base : Nat} {v : Value} {l : List Int} (h : OwnW w base v l) (hn : 0 < l.length) :
    ∃ g cap, v = .slice (some ⟨g, 0, none⟩) l.length cap ∧ base ≤ g ∧ g < w.heap.size ∧ l.length ≤ cap ∧ cap ≤ maxLen ∧ ∀ j, j < l.length → w.cell? ⟨g, j, none⟩ = some (.int .u32 (l.getD j 0)) := by
  rcases h.2 with ⟨_, h0⟩ | ⟨g, cap, cur, hv, hg, hh, hnc, hcm, hcs, htake⟩
  · omega
  · refine ⟨g, cap, hv, hg, (Array.getElem?_eq_some_iff.1 hh).1, hnc, hcm, fun j hj => ?_⟩
    rw [cell_of_row _ _ _ _ _ _ hh]
    have : (l.map (Value.int .u32))[j]? = some (.int .u32 (l.getD j 0)) := by simp [List.getD_eq_getElem?_getD, hj]
    rw [← this, ← htake, List.getElem?_take, if_pos (by omega)]
    simp
theorem info_u32 : (Tryd.prog.info? 60).map (fun i => (i.zero, i.size, i.bytes)) = some (some (.int .u32 0), 1, 4) := by kernel_rfl

theorem step_append_w {ops : Array Oper} {o : Oper} {a : Act} {w : World} {K : Act → World → Prop} {Q : Exit → Act → World → Prop} {E : Prop} (hgd : o.guard = none) (s x : Operand)
    (ho : o.op = .call { callee := .builtin .append, args := #[s, x], argTypes := #[71, 71] })
    (base : Nat) (v : Value) (l : List Int) (hs : a.eval s = v) (hown : OwnW w base v l) (g : Nat) (y : Int) (hx : a.eval x = .slice (some ⟨g, 0, none⟩) 1 1) (hg : w.cell? ⟨g, 0, none⟩ = some (.int .u32 y))
    (hsmall : l.length ≤ 1000) (hbase : base ≤ w.heap.size)
    (h : ∀ v' w', OwnW w' base v' (l ++ [y]) → w.grownBy w' v.ownBlock → K (a.put o.dst v') w') : if Region.wanted o (yielded ops a.tmps) = true then Oper.wp Tryd.prog o a w K Q else E := by
  have hw : Region.wanted o (yielded ops a.tmps) = true := by simp [Region.wanted, hgd]
  rw [if_pos hw]
  obtain ⟨i, hi, hz, h1, h2⟩ := info_parts info_u32
  refine wp_append_own (P := Tryd.prog) w s x 71 ho base 60 i (.int .u32 0) 1 4 Tryd.underlying71 hi hz h1 h2 rfl (by omega) v l.length (l.map (Value.int .u32)) hs hown ⟨g, 0, none⟩ 1 1 [.int .u32 y] hx rfl ?_ ?_ (by unfold maxLen; omega) (by omega) hbase ?_
  · intro j u hu
    match j, hu with
    | 0, hu =>
      simp at hu
      subst hu
      exact hg
    | j + 1, hu => simp at hu
  · intro u hu
    simp at hu
    subst hu
    rfl
  · intro v' w' hown' hgr _
    refine h v' w' ?_ hgr
    unfold OwnW
    rw [List.length_append, List.map_append]
    exact hown'

theorem take_set_snoc (L : List Int) (k : Nat) (x : Int) (h : k < L.length) : (L.set k x).take (k + 1) = L.take k ++ [x] := by
  rw [List.take_succ_eq_append_getElem (by simpa using h), List.take_set_of_le (Nat.le_refl _)]
  simp
end Go.Proofs.YtcfkpepohnjdfaaDoor

/- The walk over the plain answers' numbers. -/
namespace Go.Proofs.YtcfkpepohnjdfaaDoor
open Go.RowKit

/-- four bytes as a number, by sums: as by 'or' -/
theorem word_sum (l : List Int) (k : Nat) (hr : ∀ j, 0 ≤ l.getD j 0 ∧ l.getD j 0 < 256) :
    word l k = 16777216 * l.getD (4 * k) 0 + 65536 * l.getD (4 * k + 1) 0 + 256 * l.getD (4 * k + 2) 0 + l.getD (4 * k + 3) 0 := by
  have e0 := hr (4 * k)
  have e1 := hr (4 * k + 1)
  have e2 := hr (4 * k + 2)
  have e3 := hr (4 * k + 3)
  unfold word
  generalize l.getD (4 * k) 0 = a at *
  generalize l.getD (4 * k + 1) 0 = b at *
  generalize l.getD (4 * k + 2) 0 = c at *
  generalize l.getD (4 * k + 3) 0 = d at *
  obtain ⟨a, rfl⟩ := Int.eq_ofNat_of_zero_le e0.1
  obtain ⟨b, rfl⟩ := Int.eq_ofNat_of_zero_le e1.1
  obtain ⟨c, rfl⟩ := Int.eq_ofNat_of_zero_le e2.1
  obtain ⟨d, rfl⟩ := Int.eq_ofNat_of_zero_le e3.1
  have a1 : a < 256 := by omega
  have b1 : b < 256 := by omega
  have c1 : c < 256 := by omega
  have d1 : d < 256 := by omega
  rw [show (a : Int) * 16777216 % 4294967296 = ((a * 16777216 : Nat) : Int) by omega, show (b : Int) * 65536 % 4294967296 = ((b * 65536 : Nat) : Int) by omega, show (c : Int) * 256 % 4294967296 = ((c * 256 : Nat) : Int) by omega,
    u32_or_nat _ _ (by omega) (by omega), nat_join 24 _ _ (by omega) (by omega), u32_or_nat _ _ (by omega) (by omega), nat_join 16 _ _ (by omega) (by omega), u32_or_nat _ _ (by omega) (by omega), nat_join 8 _ _ (by omega) (by omega)]
  omega

theorem keepA {w : World} {b o0 o1 o2 o3 : Nat} {v0 v1 v2 v3 : Value} (h : w.cell? ⟨b, o0, none⟩ = some v0 ∧ w.cell? ⟨b, o1, none⟩ = some v1 ∧ w.cell? ⟨b, o2, none⟩ = some v2 ∧ w.cell? ⟨b, o3, none⟩ = some v3) (hb : b < w.heap.size) (o : Obj) :
    (w.alloc o).cell? ⟨b, o0, none⟩ = some v0 ∧ (w.alloc o).cell? ⟨b, o1, none⟩ = some v1 ∧ (w.alloc o).cell? ⟨b, o2, none⟩ = some v2 ∧ (w.alloc o).cell? ⟨b, o3, none⟩ = some v3 := by
  have e : ∀ i, (w.alloc o).cell? ⟨b, i, none⟩ = w.cell? ⟨b, i, none⟩ := fun i => World.cell?_of_block (Below.heap_alloc w o b hb)
  rw [e, e, e, e]
  exact h
theorem keepB {w w' : World} {b o0 o1 o2 o3 : Nat} {v0 v1 v2 v3 : Value} (h : w.cell? ⟨b, o0, none⟩ = some v0 ∧ w.cell? ⟨b, o1, none⟩ = some v1 ∧ w.cell? ⟨b, o2, none⟩ = some v2 ∧ w.cell? ⟨b, o3, none⟩ = some v3) {B : Nat} (hb : b < B) (hB : Below B w w') :
    w'.cell? ⟨b, o0, none⟩ = some v0 ∧ w'.cell? ⟨b, o1, none⟩ = some v1 ∧ w'.cell? ⟨b, o2, none⟩ = some v2 ∧ w'.cell? ⟨b, o3, none⟩ = some v3 := by
  have e : ∀ i, w'.cell? ⟨b, i, none⟩ = w.cell? ⟨b, i, none⟩ := fun i => hB.cell (p := ⟨b, i, none⟩) hb
  rw [e, e, e, e]
  exact h
theorem one_cell (w : World) (y : Int) (t : TypeId) : (w.alloc (.cells #[.int .u32 y] t)).cell? ⟨w.heap.size, 0, none⟩ = some (.int .u32 y) := (cell_of_row _ _ _ _ _ _ (heap_alloc_new w _)).trans rfl

theorem wpList_append_w {ops : Array Oper} {rest : List Oper} {o : Oper} {a : Act} {w : World} {Q : Exit → Act → World → Prop} (hgd : o.guard = none) (s x : Operand)
    (ho : o.op = .call { callee := .builtin .append, args := #[s, x], argTypes := #[71, 71] })
    (base : Nat) (v : Value) (l : List Int) (hs : a.eval s = v) (hown : OwnW w base v l) (g : Nat) (y : Int) (hx : a.eval x = .slice (some ⟨g, 0, none⟩) 1 1) (hg : w.cell? ⟨g, 0, none⟩ = some (.int .u32 y))
    (hsmall : l.length ≤ 1000) (hbase : base ≤ w.heap.size)
    (h : ∀ v' w', OwnW w' base v' (l ++ [y]) → w.grownBy w' v.ownBlock → wpList Tryd.prog ops Q rest (a.put o.dst v') w') : wpList Tryd.prog ops Q (o :: rest) a w := by
  obtain ⟨i, hi, hz, h1, h2⟩ := info_parts info_u32
  refine wpList_append_own w hgd s x 71 ho base 60 i (.int .u32 0) 1 4 Tryd.underlying71 hi hz h1 h2 rfl (by omega) v l.length (l.map (Value.int .u32)) hs hown ⟨g, 0, none⟩ 1 1 [.int .u32 y] hx rfl ?_ ?_ (by unfold maxLen; omega) (by omega) hbase ?_
  · intro j u hu
    match j, hu with
    | 0, hu =>
      simp at hu
      subst hu
      exact hg
    | j + 1, hu => simp at hu
  · intro u hu
    simp at hu
    subst hu
    rfl
  · intro v' w' hown' hgr _
    refine h v' w' ?_ hgr
    unfold OwnW
    rw [List.length_append, List.map_append]
    exact hown'

set_option maxRecDepth 100000 in
set_option maxHeartbeats 3000000 in
theorem numbers_any (l : List Int) (b off cap : Nat) (w : World) (hr : ∀ j, 0 ≤ l.getD j 0 ∧ l.getD j 0 < 256)
    (hc : ∀ j, j < 64 → w.cell? ⟨b, off + j, none⟩ = some (.int .u8 (l.getD j 0))) :
    Calls Tryd.prog 59 #[.slice (some ⟨b, off, none⟩) 64 cap] w fun e w' => ∃ v, e = .returned v ∧ OwnW w' w.heap.size v (spreadAll l) ∧ Below w.heap.size w w' := by
  have hbw : b < w.heap.size := block_lt_of_cell (hc 0 (by omega))
  go_enter Tryd.func59, Tryd.ntmps59
  go_wp2
  go_loopw [3, 4] (fun v i wr => ∃ k : Nat, k ≤ 16 ∧ i = .int .i64 k ∧ OwnW wr w.heap.size v ((spreadA l k).take k) ∧ Below w.heap.size w wr) (fun _ i _ => 16 - (intOf i).toNat)
  case atStart => exact ⟨0, by omega, rfl, OwnW.nil _ _, Below.refl _ _⟩
  case round =>
    obtain ⟨k, hk, rfl, hown, hb⟩ := hrel
    by_cases hlt : k < 16
    · have c0 := (hb.cell (p := ⟨b, off + 4 * k, none⟩) hbw).trans (hc (4 * k) (by omega))
      have c1 := (hb.cell (p := ⟨b, off + (4 * k + 1), none⟩) hbw).trans (hc (4 * k + 1) (by omega))
      have c2 := (hb.cell (p := ⟨b, off + (4 * k + 2), none⟩) hbw).trans (hc (4 * k + 2) (by omega))
      have c3 := (hb.cell (p := ⟨b, off + (4 * k + 3), none⟩) hbw).trans (hc (4 * k + 3) (by omega))
      have hws := word_sum l k hr
      obtain ⟨x0, hx0⟩ : ∃ x, x = l.getD (4 * k) 0 := ⟨_, rfl⟩
      obtain ⟨x1, hx1⟩ : ∃ x, x = l.getD (4 * k + 1) 0 := ⟨_, rfl⟩
      obtain ⟨x2, hx2⟩ : ∃ x, x = l.getD (4 * k + 2) 0 := ⟨_, rfl⟩
      obtain ⟨x3, hx3⟩ : ∃ x, x = l.getD (4 * k + 3) 0 := ⟨_, rfl⟩
      have e0 := hr (4 * k)
      have e1 := hr (4 * k + 1)
      have e2 := hr (4 * k + 2)
      have e3 := hr (4 * k + 3)
      rw [← hx0] at c0 e0 hws
      rw [← hx1] at c1 e1 hws
      rw [← hx2] at c2 e2 hws
      rw [← hx3] at c3 e3 hws
      obtain ⟨L, hL⟩ : ∃ L, L = (spreadA l k).take k := ⟨_, rfl⟩
      have hLl : L.length ≤ 1000 := by rw [hL, List.length_take]; omega
      have hnext : (spreadA l (k + 1)).take (k + 1) = L ++ [word l k] := by
        rw [spreadA, take_set_snoc _ _ _ (by rw [spreadA_length]; omega), hL]
      rw [← hL] at hown
      obtain ⟨y, hy⟩ : ∃ y, y = 16777216 * x0 + 65536 * x1 + 256 * x2 + x3 := ⟨_, rfl⟩
      rw [hws, ← hy] at hnext
      have HY := Lib.hid hy
      have HN := Lib.hid hnext
      have v0 : IntKind.u32.wrap x0 = x0 := by rw [IntKind.wrap_u32']; omega
      have v1 : IntKind.u32.wrap x1 = x1 := by rw [IntKind.wrap_u32']; omega
      have v2 : IntKind.u32.wrap x2 = x2 := by rw [IntKind.wrap_u32']; omega
      have v3 : IntKind.u32.wrap x3 = x3 := by rw [IntKind.wrap_u32']; omega
      have m0 : IntKind.u32.wrap (16777216 * x0) = 16777216 * x0 := by rw [IntKind.wrap_u32']; omega
      have m1 : IntKind.u32.wrap (65536 * x1) = 65536 * x1 := by rw [IntKind.wrap_u32']; omega
      have m2 : IntKind.u32.wrap (256 * x2) = 256 * x2 := by rw [IntKind.wrap_u32']; omega
      have a1 : IntKind.u32.wrap (16777216 * x0 + 65536 * x1) = 16777216 * x0 + 65536 * x1 := by rw [IntKind.wrap_u32']; omega
      have a2 : IntKind.u32.wrap (16777216 * x0 + 65536 * x1 + 256 * x2) = 16777216 * x0 + 65536 * x1 + 256 * x2 := by rw [IntKind.wrap_u32']; omega
      have a3 : IntKind.u32.wrap (16777216 * x0 + 65536 * x1 + 256 * x2 + x3) = y := by rw [IntKind.wrap_u32', hy]; omega
      have s0 : IntKind.i64.wrap (4 * (k : Int)) = 4 * (k : Int) := IntWalk.i64_in _ (by omega)
      have s1 : IntKind.i64.wrap (4 * (k : Int) + 1) = 4 * (k : Int) + 1 := IntWalk.i64_in _ (by omega)
      have s2 : IntKind.i64.wrap (4 * (k : Int) + 2) = 4 * (k : Int) + 2 := IntWalk.i64_in _ (by omega)
      have s3 : IntKind.i64.wrap (4 * (k : Int) + 3) = 4 * (k : Int) + 3 := IntWalk.i64_in _ (by omega)
      have p0 : 0 ≤ 4 * (k : Int) := by omega
      have p1 : 0 ≤ 4 * (k : Int) + 1 := by omega
      have p2 : 0 ≤ 4 * (k : Int) + 2 := by omega
      have p3 : 0 ≤ 4 * (k : Int) + 3 := by omega
      have q0 : 4 * (k : Int) < 64 := by omega
      have q1 : 4 * (k : Int) + 1 < 64 := by omega
      have q2 : 4 * (k : Int) + 2 < 64 := by omega
      have q3 : 4 * (k : Int) + 3 < 64 := by omega
      have n0 : (4 * (k : Int)).toNat = 4 * k := by omega
      have n1 : (4 * (k : Int) + 1).toNat = 4 * k + 1 := by omega
      have n2 : (4 * (k : Int) + 2).toNat = 4 * k + 2 := by omega
      have n3 : (4 * (k : Int) + 3).toNat = 4 * k + 3 := by omega
      have hcc : wr.cell? ⟨b, off + 4 * k, none⟩ = some (.int .u8 x0) ∧ wr.cell? ⟨b, off + (4 * k + 1), none⟩ = some (.int .u8 x1) ∧ wr.cell? ⟨b, off + (4 * k + 2), none⟩ = some (.int .u8 x2) ∧ wr.cell? ⟨b, off + (4 * k + 3), none⟩ = some (.int .u8 x3) := ⟨c0, c1, c2, c3⟩
      have HCC := Lib.hid hcc
      have hbB := Nat.lt_of_lt_of_le hbw hb.size
      clear hx0 hx1 hx2 hx3 hws hy hnext hL e0 e1 e2 e3 hc hr hcc c0 c1 c2 c3
      go_wp2
      go_region_held3 (fun w' => w'.cell? ⟨b, off + 4 * k, none⟩ = some (.int .u8 x0) ∧ w'.cell? ⟨b, off + (4 * k + 1), none⟩ = some (.int .u8 x1) ∧ w'.cell? ⟨b, off + (4 * k + 2), none⟩ = some (.int .u8 x2) ∧ w'.cell? ⟨b, off + (4 * k + 3), none⟩ = some (.int .u8 x3))
        (first | exact HCC.out | exact keepA HCC.out hbB _ | exact keepB HCC.out hbw hbel)
        (first
        | (refine step_append_w rfl (.tmp 12) (.tmp 46) rfl w.heap.size u3 L ?_ ?_ wr.heap.size y ?_ ?_ hLl ?_ ?_
           · rfl
           · first | exact hown.draw1.more _ | exact hown.more _
           · rfl
           · exact one_cell _ _ _
           · exact Nat.le_trans hb.size (by simp)
           intro v' w' hown' hg'
           have hbel : Below w.heap.size wr w' := by first | exact (((Below.refl _ wr).drew).alloc hb.size _).grown hg' (Nat.le_trans hb.size (by simp)) (fun g hg => (hown.size g hg).1) | exact ((Below.refl _ wr).alloc hb.size _).grown hg' (Nat.le_trans hb.size (by simp)) (fun g hg => (hown.size g hg).1)))
      clear s0 s1 s2 s3 n0 n1 n2 n3 v0 v1 v2 v3 m0 m1 m2 a1 a2 a3
      go_wp2
      go_roundw
      case rel => exact ⟨k + 1, by omega, by go_num, by rw [HN.out]; exact hown', hb.trans (hbel.mono (Nat.le_refl _))⟩
      case measure => simp [intOf]; omega
    · have hge : k = 16 := by omega
      have hown16 : OwnW wr w.heap.size u3 ((spreadB l 0).take 16) := by
        rw [hge] at hown
        exact hown
      have HO := Lib.hid hown16
      have HB := Lib.hid hb
      clear hc hown hown16 hb hk hge
      go_wp2
      clear hlt
      go_loopw [3, 5] (fun v i wr => ∃ k : Nat, 16 ≤ k ∧ k ≤ 64 ∧ i = .int .i64 k ∧ OwnW wr w.heap.size v ((spreadB l (k - 16)).take k) ∧ Below w.heap.size w wr) (fun _ i _ => 64 - (intOf i).toNat)
      case atStart => exact ⟨16, by omega, by omega, rfl, HO.out, HB.out⟩
      case round =>
        clear HO HB
        obtain ⟨k, hk1, hk2, rfl, hown, hb⟩ := hrel
        by_cases hlt : k < 64
        · have hSl := spreadB_length l (k - 16)
          obtain ⟨L, hL⟩ : ∃ L, L = (spreadB l (k - 16)).take k := ⟨_, rfl⟩
          have hLl : L.length = k := by rw [hL, List.length_take, hSl]; omega
          have hLg : ∀ j, j < k → L.getD j 0 = (spreadB l (k - 16)).getD j 0 := fun j hj => by
            rw [hL, List.getD_eq_getElem?_getD, List.getD_eq_getElem?_getD, List.getElem?_take, if_pos hj]
          rw [← hL] at hown
          have hnext : (spreadB l (k + 1 - 16)).take (k + 1) = L ++ [nextW (spreadB l (k - 16)) k] := by
            rw [show k + 1 - 16 = (k - 16) + 1 by omega, spreadB, show k - 16 + 16 = k by omega, take_set_snoc _ _ _ (by rw [hSl]; omega), hL]
          obtain ⟨g, cap, rfl, hgb, hgl, hgc, hgm, cel⟩ := hown.form (by omega)
          obtain ⟨N, hN⟩ : ∃ N, N = L.length := ⟨_, rfl⟩
          rw [hLl] at hgc cel
          rw [← hN] at hown ⊢
          have hNk : N = k := hN.trans hLl
          obtain ⟨x2, hx2⟩ : ∃ x, x = (spreadB l (k - 16)).getD (k - 2) 0 := ⟨_, rfl⟩
          obtain ⟨x7, hx7⟩ : ∃ x, x = (spreadB l (k - 16)).getD (k - 7) 0 := ⟨_, rfl⟩
          obtain ⟨x15, hx15⟩ : ∃ x, x = (spreadB l (k - 16)).getD (k - 15) 0 := ⟨_, rfl⟩
          obtain ⟨x16, hx16⟩ : ∃ x, x = (spreadB l (k - 16)).getD (k - 16) 0 := ⟨_, rfl⟩
          have c2 := cel (k - 2) (by omega)
          have c7 := cel (k - 7) (by omega)
          have c15 := cel (k - 15) (by omega)
          have c16 := cel (k - 16) (by omega)
          rw [hLg _ (by omega), ← hx2] at c2
          rw [hLg _ (by omega), ← hx7] at c7
          rw [hLg _ (by omega), ← hx15] at c15
          rw [hLg _ (by omega), ← hx16] at c16
          have hnw : nextW (spreadB l (k - 16)) k = (x16 + lowS x15 + x7 + highS x2) % 4294967296 := by
            simp only [nextW, hx2, hx7, hx15, hx16]
          rw [hnw] at hnext
          have HN := Lib.hid hnext
          have s2 : IntKind.i64.wrap ((k : Int) - 2) = (k : Int) - 2 := IntWalk.i64_in _ (by omega)
          have s7 : IntKind.i64.wrap ((k : Int) - 7) = (k : Int) - 7 := IntWalk.i64_in _ (by omega)
          have s15 : IntKind.i64.wrap ((k : Int) - 15) = (k : Int) - 15 := IntWalk.i64_in _ (by omega)
          have s16 : IntKind.i64.wrap ((k : Int) - 16) = (k : Int) - 16 := IntWalk.i64_in _ (by omega)
          have p2 : 0 ≤ (k : Int) - 2 := by omega
          have p7 : 0 ≤ (k : Int) - 7 := by omega
          have p15 : 0 ≤ (k : Int) - 15 := by omega
          have p16 : 0 ≤ (k : Int) - 16 := by omega
          have q2 : (k : Int) - 2 < (N : Int) := by omega
          have t2 : (k : Int) < (N : Int) + 2 := by omega
          have q7 : (k : Int) - 7 < (N : Int) := by omega
          have t7 : (k : Int) < (N : Int) + 7 := by omega
          have q15 : (k : Int) - 15 < (N : Int) := by omega
          have t15 : (k : Int) < (N : Int) + 15 := by omega
          have q16 : (k : Int) - 16 < (N : Int) := by omega
          have t16 : (k : Int) < (N : Int) + 16 := by omega
          have n2 : ((k : Int) - 2).toNat = k - 2 := by omega
          have n7 : ((k : Int) - 7).toNat = k - 7 := by omega
          have n15 : ((k : Int) - 15).toNat = k - 15 := by omega
          have n16 : ((k : Int) - 16).toNat = k - 16 := by omega
          have q4 : (k : Int) < 64 := by omega
          have r2 : (2 : Int) ≤ k := by omega
          have r7 : (7 : Int) ≤ k := by omega
          have r15 : (15 : Int) ≤ k := by omega
          have r16 : (16 : Int) ≤ k := by omega
          have HB := Lib.hid hb
          have HO := Lib.hid hown
          have hL1000 : L.length ≤ 1000 := by omega
          have HNk := Lib.hid hNk
          clear hNk hN hSl hL hLg hLl hx2 hx7 hx15 hx16 hnw hnext hb hr cel
          go_wp2
          go_quiet ((go_at_call 60; exact Calls.quiet_of_same ((rturned_any _ _ _ (by omega) (by omega)).mono fun _ _ h => ⟨h.1, h.2.symm⟩)))
          generalize hw2 : wr.drewN _ = w2
          have d2 : w2.cell? ⟨g, k - 2, none⟩ = some (.int .u32 x2) := by rw [← hw2]; exact c2
          have d7 : w2.cell? ⟨g, k - 7, none⟩ = some (.int .u32 x7) := by rw [← hw2]; exact c7
          have d16 : w2.cell? ⟨g, k - 16, none⟩ = some (.int .u32 x16) := by rw [← hw2]; exact c16
          have HW2 := Lib.hid hw2
          clear hw2 c2 c7 c15 c16
          go_wp2
          go_quiet ((go_at_call 60; exact Calls.quiet_of_same ((rturned_any _ _ _ (by omega) (by omega)).mono fun _ _ h => ⟨h.1, h.2.symm⟩)))
          generalize hw3 : w2.drewN _ = w3
          have e7 : w3.cell? ⟨g, k - 7, none⟩ = some (.int .u32 x7) := by rw [← hw3]; exact d7
          have e16 : w3.cell? ⟨g, k - 16, none⟩ = some (.int .u32 x16) := by rw [← hw3]; exact d16
          have hown3 : OwnW w3 w.heap.size (.slice (some ⟨g, 0, none⟩) N cap) L := by
            rw [← hw3, ← HW2.out]; exact (HO.out.draw _).draw _
          have hb3 : Below w.heap.size w w3 := by
            rw [← hw3, ← HW2.out]; exact below_drewN (below_drewN HB.out _) _
          have HB3 := Lib.hid hb3
          have HO3 := Lib.hid hown3
          clear hw3 d2 d7 d16 hb3 hown3 HO HB HW2
          go_wp2
          obtain ⟨y, hy⟩ : ∃ y, y = (x16 + lowS x15 + x7 + highS x2) % 4294967296 := ⟨_, rfl⟩
          have HY := Lib.hid hy
          go_region_law (first
            | (refine step_append_w rfl (.tmp 92) (.tmp 108) rfl w.heap.size (.slice (some ⟨g, 0, none⟩) N cap) L ?_ ?_ w3.heap.size y ?_ ?_ hL1000 ?_ ?_
               · rfl
               · first | exact HO3.out.draw1.more _ | exact HO3.out.more _
               · rfl
               · refine (one_cell _ _ _).trans ?_
                 rw [HY.out]
                 simp only [IntKind.wrap_u32', lowS, highS, x32, Int.emod_add_emod]
                 refine congrArg some (congrArg (Value.int .u32) ?_)
                 omega
               · exact Nat.le_trans HB3.out.size (by simp)
               intro v' w' hown' hg'
               have hbel : Below w.heap.size w3 w' := by first | exact (((Below.refl _ w3).drew).alloc HB3.out.size _).grown hg' (Nat.le_trans HB3.out.size (by simp)) (fun g hg => (HO3.out.size g hg).1) | exact ((Below.refl _ w3).alloc HB3.out.size _).grown hg' (Nat.le_trans HB3.out.size (by simp)) (fun g hg => (HO3.out.size g hg).1)))
          clear s2 s7 s15 s16 n2 n7 n15 n16
          all_goals
            (go_wp2
             go_roundw
             case rel => exact ⟨k + 1, by omega, by omega, by go_num, by rw [HN.out, ← HY.out]; exact hown', HB3.out.trans (hbel.mono (Nat.le_refl _))⟩
             case measure => simp [intOf]; omega)
        · have hk64 : k = 64 := by omega
          subst hk64
          have hfull : (spreadB l (64 - 16)).take 64 = spreadAll l := by
            rw [spreadAll, List.take_of_length_le (by rw [spreadB_length]; omega)]
          rw [hfull] at hown
          have HO := Lib.hid hown
          have HB := Lib.hid hb
          clear hown hb hfull hlt
          go_wp2
          go_ret
          exact ⟨_, rfl, HO.out, HB.out⟩
end Go.Proofs.YtcfkpepohnjdfaaDoor

/- The walk over the plain answers' round: a register, rounded by a block. -/
namespace Go.Proofs.YtcfkpepohnjdfaaDoor
open Go.RowKit

set_option maxRecDepth 100000 in
set_option maxHeartbeats 1000000 in
theorem rround_any (r l : List Int) (b off cap : Nat) (w : World) (hr : r.length = 8) (hby : ∀ j, 0 ≤ l.getD j 0 ∧ l.getD j 0 < 256)
    (hc : ∀ j, j < 64 → w.cell? ⟨b, off + j, none⟩ = some (.int .u8 (l.getD j 0))) :
    Calls Tryd.prog 57 #[.agg (regv r), .slice (some ⟨b, off, none⟩) 64 cap] w fun e w' => e = .returned (.agg (regv (roundedL r l))) ∧ Below w.heap.size w w' := by
  have hbw : b < w.heap.size := block_lt_of_cell (hc 0 (by omega))
  have HR := Lib.hid hr
  obtain ⟨S, hSd⟩ : ∃ S, S = spreadAll l := ⟨_, rfl⟩
  have hSl : S.length = 64 := by rw [hSd]; exact spreadAll_length l
  have HW := Lib.hid hSl
  have HSD := Lib.hid hSd
  clear hSd hSl
  go_enter Tryd.func57, Tryd.ntmps57
  go_wp2_with fail
  refine (numbers_any l b off cap _ hby (fun j hj => ((two_below w _ _).cell (p := ⟨b, off + j, none⟩) hbw).trans (hc j hj))).mono ?_
  rintro e w1 ⟨v, he, hown, hb1⟩
  rw [← HSD.out] at hown
  subst he
  obtain ⟨g, cp, rfl, hgb, hgl, hgc, hgm, cel⟩ := hown.form (by rw [HW.out]; omega)
  rw [HW.out] at cel ⊢
  obtain ⟨hB1, hz1, hR1, hO1⟩ := after_two hb1
  have hR1 : Row w1 w.heap.size 61 r := hR1
  have hO1 : Row w1 (w.heap.size + 1) 61 [0, 0, 0, 0, 0, 0, 0, 0] := hO1
  obtain ⟨r0, r1, r2, r3, r4, r5, r6, r7, hrx⟩ := eight hr
  have HRX := Lib.hid hrx
  rw [hrx] at hR1
  obtain ⟨c0, c1, c2, c3, c4, c5, c6, c7⟩ := hR1.eight
  have HRow := Lib.hid hR1
  have HORow := Lib.hid hO1
  have HCEL := Lib.hid cel
  have HB1 := Lib.hid hB1
  clear hb1 hc hown hrx hr hR1 hO1 cel hB1 hgc hgm
  go_wp2
  go_loopw [6, 7, 8, 9, 10, 11, 12, 13, 14] (fun a b c d e f g h i wr => ∃ k : Nat, k ≤ 64 ∧ i = .int .i64 k ∧ (∃ y0 y1 y2 y3 y4 y5 y6 y7 : Int, a = .int .u32 y0 ∧ b = .int .u32 y1 ∧ c = .int .u32 y2 ∧ d = .int .u32 y3 ∧ e = .int .u32 y4 ∧ f = .int .u32 y5 ∧ g = .int .u32 y6 ∧ h = .int .u32 y7 ∧ runs S r k = [y0, y1, y2, y3, y4, y5, y6, y7]) ∧ Below w1.heap.size w1 wr)
    (fun _ _ _ _ _ _ _ _ i _ => 64 - (intOf i).toNat)
  case atStart => exact ⟨0, by omega, rfl, ⟨_, _, _, _, _, _, _, _, rfl, rfl, rfl, rfl, rfl, rfl, rfl, rfl, HRX.out⟩, Below.refl _ _⟩
  case round =>
    clear c0 c1 c2 c3 c4 c5 c6 c7
    obtain ⟨k, hk, rfl, ⟨y0, y1, y2, y3, y4, y5, y6, y7, rfl, rfl, rfl, rfl, rfl, rfl, rfl, rfl, hy⟩, hB⟩ := hrel
    by_cases hlt : k < 64
    · obtain ⟨kk, hkk⟩ : ∃ x, x = kList.getD k 0 := ⟨_, rfl⟩
      obtain ⟨wk, hwk⟩ : ∃ x, x = S.getD k 0 := ⟨_, rfl⟩
      have hnext : runs S r (k + 1) = rnd [y0, y1, y2, y3, y4, y5, y6, y7] ((kk + wk) % 4294967296) := by
        rw [runs, hy, hkk, hwk]
      have hcell := (hB.cell (p := ⟨g, k, none⟩) hgl).trans (HCEL.out k hlt)
      have hgr := Nat.lt_of_lt_of_le hgl hB.size
      rw [← hwk] at hcell
      have hcst : ∀ w, Calls Tryd.prog 61 #[.int .i64 k] w fun e w' => e = .returned (.int .u32 kk) ∧ Below w.heap.size w w' := by
        rw [hkk]
        exact fun w => rconst_any k w hlt
      have HC := Lib.hid hcell
      have HN := Lib.hid hnext
      have HB := Lib.hid hB
      have p0 : 0 ≤ (k : Int) := by omega
      have q0 : (k : Int) < 64 := by omega
      clear hkk hwk hnext hy hcell hB
      go_wp2
      go_region_held3 (fun w' => w'.cell? ⟨g, k, none⟩ = some (.int .u32 wk))
        (first | exact HC.out | exact (hb4.cell (p := ⟨g, k, none⟩) hgr).trans HC.out)
        (first
        | (go_at_call 60; refine (rturned_any _ _ _ (by omega) (by omega)).mono ?_; rintro e w4 ⟨rfl, rfl⟩)
        | (go_at_call 61; refine (hcst _).mono ?_; rintro e w4 ⟨rfl, hb4⟩))
      go_wp2_with (go_at_call 60; refine (rturned_any _ _ _ (by omega) (by omega)).mono ?_; rintro e w5 ⟨rfl, rfl⟩)
      go_roundw
      case rel =>
        refine ⟨k + 1, by omega, by go_num, ⟨_, _, _, _, _, _, _, _, rfl, rfl, rfl, rfl, rfl, rfl, rfl, rfl, ?_⟩, ?_⟩
        · rw [HN.out]
          simp only [rnd, bigE, bigA, chE, majA, x32, a32]
          congr 1
          · omega
          · congr 4
            omega
        · exact HB.out.trans ((by first | exact hb4 | exact below_draw hb4 : Below wr.heap.size wr _).mono HB.out.size)
      case measure => simp [intOf]; omega
    · have h64 : k = 64 := by omega
      rw [h64] at hy
      have hfin : roundedL r l = [(r0 + y0) % 4294967296, (r1 + y1) % 4294967296, (r2 + y2) % 4294967296, (r3 + y3) % 4294967296, (r4 + y4) % 4294967296, (r5 + y5) % 4294967296, (r6 + y6) % 4294967296, (r7 + y7) % 4294967296] := by
        rw [roundedL, ← HSD.out, hy, HRX.out]
        simp [addTo, Int.add_comm]
      obtain ⟨Z, hZ⟩ : ∃ Z, Z = roundedL r l := ⟨_, rfl⟩
      rw [← hZ] at hfin
      have HZ := Lib.hid hZ
      simp only [← IntKind.wrap_u32'] at hfin
      have hZl : Z.length = 8 := by rw [hfin]; rfl
      have hRw := HRow.out.below hB (by omega)
      have hOw := HORow.out.below hB (by omega)
      obtain ⟨c0, c1, c2, c3, c4, c5, c6, c7⟩ := hRw.eight
      have HF := Lib.hid hfin
      have HL := Lib.hid hZl
      have HB := Lib.hid hB
      clear hy hfin hZ hZl hB h64
      go_wp2_with (first
        | ((with_reducible refine wpList_store_r32 rfl 61 _ _ rfl (w.heap.size + 1) Z ?hx7 ?hy7 61 [0, 0, 0, 0, 0, 0, 0, 0] hOw (info8 HL.out) ?hl7 ?hm7); (case hx7 => rfl); (case hy7 => rw [HF.out]; rfl); (case hl7 => rw [HL.out]; rfl)
           intro w6 hg6 hX6 hs6))
      refine bodyPost_ret (v := .agg (regv Z)) ?_ ?_ ?_
      · exact results_cell_row Tryd.results57 _ _ (w.heap.size + 1) 61 _ (0, 0) _ rfl hX6.is Tryd.underlying61 rfl (info8 HL.out)
      · rfl
      · exact ⟨by rw [HZ.out], Below.grows (HB1.out.trans (HB.out.mono (by omega))) hg6 (by have := HB.out.size; omega) (by omega)⟩
end Go.Proofs.YtcfkpepohnjdfaaDoor

/- The walks over the plain answers' New and May. -/
namespace Go.Proofs.YtcfkpepohnjdfaaDoor
open Go.RowKit

theorem rnew_any (w : World) :
    Calls Tryd.prog 49 #[] w fun e w' => e = .returned (hashV 1779033703 3144134277 1013904242 2773480762 1359893119 2600822924 528734635 1541459225 none 0 0 0) ∧ Below w.heap.size w w' := by
  go_enter Tryd.func49, Tryd.ntmps49
  go_wp2
  exact bodyPost_ret (v := hashV 1779033703 3144134277 1013904242 2773480762 1359893119 2600822924 528734635 1541459225 none 0 0 0) (by simp [results, Tryd.results49, go_sem]) rfl ⟨rfl, (Below.refl _ _).alloc (Nat.le_refl _) _⟩

set_option maxHeartbeats 1000000 in
theorem rmay_any (x0 x1 x2 x3 x4 x5 x6 x7 : Int) (A : Option Addr) (n c : Nat) (len : Int) (w : World) :
    Calls Tryd.prog 56 #[hashV x0 x1 x2 x3 x4 x5 x6 x7 A n c len] w fun e w' => e = .returned (.bool (mayB n len)) ∧ w.alloc (.cells #[.int .u32 x0, .int .u32 x1, .int .u32 x2, .int .u32 x3, .int .u32 x4, .int .u32 x5, .int .u32 x6, .int .u32 x7, .slice A n c, .int .i64 len] 63) = w' := by
  have k1 : 0 ≤ len → len ≤ 1048576 → ((n : Int) == len % 64) = mayB n len := by
    intro h0 h1
    unfold mayB
    rw [Bool.eq_iff_iff]
    simp [h0, h1]
  have k2 : 0 ≤ len → 1048576 < len → false = mayB n len := by
    intro h0 h1
    unfold mayB
    rw [Bool.eq_iff_iff]
    simp; omega
  have k3 : len < 0 → false = mayB n len := by
    intro h0
    unfold mayB
    rw [Bool.eq_iff_iff]
    simp; omega
  have K1 := Lib.hid k1
  have K2 := Lib.hid k2
  have K3 := Lib.hid k3
  clear k1 k2 k3
  go_enter Tryd.func56, Tryd.ntmps56
  go_wp2
  · go_ret
    exact ⟨congrArg (fun b => Ending.returned (Value.bool b)) (K1.out (by assumption) (by assumption)), rfl⟩
  · go_ret
    exact ⟨congrArg (fun b => Ending.returned (Value.bool b)) (K2.out (by assumption) (by assumption)), rfl⟩
  · go_ret
    exact ⟨congrArg (fun b => Ending.returned (Value.bool b)) (K3.out (by assumption)), rfl⟩
end Go.Proofs.YtcfkpepohnjdfaaDoor

/- Blocks, part by part: plain facts on lists. -/
namespace Go.Proofs.YtcfkpepohnjdfaaDoor

theorem blocksL_same (r l m : List Int) (k : Nat) (h : ∀ i, i < k → (l.drop (64 * i)).take 64 = (m.drop (64 * i)).take 64) : blocksL r l k = blocksL r m k := by
  induction k with
  | zero => rfl
  | succ k ih => rw [blocksL, blocksL, ih (fun i hi => h i (by omega)), h k (by omega)]
theorem blocksL_add (r l : List Int) (i j : Nat) : blocksL r l (i + j) = blocksL (blocksL r l i) (l.drop (64 * i)) j := by
  induction j with
  | zero => rfl
  | succ j ih =>
    rw [← Nat.add_assoc, blocksL, blocksL, ih, List.drop_drop]
    congr 3
    omega
theorem piece_take (l : List Int) (w i : Nat) (h : 64 * i + 64 ≤ w) : ((l.take w).drop (64 * i)).take 64 = (l.drop (64 * i)).take 64 := by
  rw [List.drop_take, List.take_take, Nat.min_eq_left (by omega)]
theorem piece_append (l b : List Int) (i : Nat) (h : 64 * i + 64 ≤ l.length) : ((l ++ b).drop (64 * i)).take 64 = (l.drop (64 * i)).take 64 := by
  rw [List.drop_append_of_le_length (by omega), List.take_append_of_le_length (by rw [List.length_drop]; omega)]
theorem byBlocks_whole (x l : List Int) : byBlocks x (l.take (whole l)) = blocksL x l (l.length / 64) := by
  have hw : (l.take (whole l)).length = l.length / 64 * 64 := by rw [List.length_take, whole]; omega
  rw [byBlocks, hw, Nat.mul_div_cancel _ (by omega)]
  exact blocksL_same _ _ _ _ fun i hi => piece_take l _ i (by rw [whole]; omega)
theorem byBlocks_all (x l : List Int) : byBlocks x (l.take (whole l)) = byBlocks x l := by rw [byBlocks_whole, byBlocks]

/-- bytes in two parts -/
theorem parts (x l b : List Int) : byBlocks (byBlocks x (l.take (whole l))) ((l.drop (whole l) ++ b).take (whole (l.drop (whole l) ++ b))) = byBlocks x ((l ++ b).take (whole (l ++ b))) ∧
    (l.drop (whole l) ++ b).drop (whole (l.drop (whole l) ++ b)) = (l ++ b).drop (whole (l ++ b)) := by
  have hd : (l ++ b).drop (64 * (l.length / 64)) = l.drop (whole l) ++ b := by
    rw [List.drop_append_of_le_length (by omega), whole, Nat.mul_comm]
  have hl : (l.drop (whole l) ++ b).length = l.length - 64 * (l.length / 64) + b.length := by
    rw [List.length_append, List.length_drop, whole]; omega
  have hk : (l ++ b).length / 64 = l.length / 64 + (l.drop (whole l) ++ b).length / 64 := by
    rw [hl, List.length_append]; omega
  refine ⟨?_, ?_⟩
  · rw [byBlocks_whole, byBlocks_whole, byBlocks_whole, hk, blocksL_add, hd]
    congr 1
    exact (blocksL_same _ _ _ _ fun i hi => piece_append l b i (by omega)).symm
  · have e : 64 * (l.length / 64) + whole (l.drop (whole l) ++ b) = whole (l ++ b) := by
      simp only [whole] at hk ⊢
      omega
    rw [← hd, List.drop_drop, hd, e]
theorem whole_drop (l : List Int) : (l.drop (whole l)).length = l.length % 64 := by
  rw [List.length_drop, whole]; omega
end Go.Proofs.YtcfkpepohnjdfaaDoor

/- The walk over the plain answers' Add, where the state may be, and there is room for the bytes. -/
namespace Go.Proofs.YtcfkpepohnjdfaaDoor
open Go.RowKit

theorem rround_lit (y0 y1 y2 y3 y4 y5 y6 y7 : Int) (l : List Int) (b off cap : Nat) (w : World) (hby : ∀ j, 0 ≤ l.getD j 0 ∧ l.getD j 0 < 256) (hc : ∀ j, j < 64 → w.cell? ⟨b, off + j, none⟩ = some (.int .u8 (l.getD j 0))) :
    Calls Tryd.prog 57 #[.agg #[.int .u32 y0, .int .u32 y1, .int .u32 y2, .int .u32 y3, .int .u32 y4, .int .u32 y5, .int .u32 y6, .int .u32 y7], .slice (some ⟨b, off, none⟩) 64 cap] w
      fun e w' => (∃ z0 z1 z2 z3 z4 z5 z6 z7 : Int, roundedL [y0, y1, y2, y3, y4, y5, y6, y7] l = [z0, z1, z2, z3, z4, z5, z6, z7] ∧ e = .returned (.agg #[.int .u32 z0, .int .u32 z1, .int .u32 z2, .int .u32 z3, .int .u32 z4, .int .u32 z5, .int .u32 z6, .int .u32 z7])) ∧ Below w.heap.size w w' := by
  refine (rround_any [y0, y1, y2, y3, y4, y5, y6, y7] l b off cap w rfl hby hc).mono ?_
  rintro e w' ⟨he, hb⟩
  obtain ⟨z0, z1, z2, z3, z4, z5, z6, z7, hz⟩ := eight (rounded_length [y0, y1, y2, y3, y4, y5, y6, y7] l rfl)
  rw [hz] at he
  exact ⟨⟨z0, z1, z2, z3, z4, z5, z6, z7, hz, he⟩, hb⟩
/-- a state's register, overwritten -/
theorem BoxAt.put8 {w : World} {k : Nat} {x0 x1 x2 x3 x4 x5 x6 x7 : Int} {A : Option Addr} {n c : Nat} {len : Int} (h : BoxAt w k x0 x1 x2 x3 x4 x5 x6 x7 A n c len) (z0 z1 z2 z3 z4 z5 z6 z7 : Int) :
    BoxAt ((((((((w.setCell ⟨k, 0, none⟩ (.int .u32 z0)).setCell ⟨k, 1, none⟩ (.int .u32 z1)).setCell ⟨k, 2, none⟩ (.int .u32 z2)).setCell ⟨k, 3, none⟩ (.int .u32 z3)).setCell ⟨k, 4, none⟩ (.int .u32 z4)).setCell ⟨k, 5, none⟩ (.int .u32 z5)).setCell ⟨k, 6, none⟩ (.int .u32 z6)).setCell ⟨k, 7, none⟩ (.int .u32 z7)) k z0 z1 z2 z3 z4 z5 z6 z7 A n c len := by
  have := setCells_heap k 63 [.int .u32 z0, .int .u32 z1, .int .u32 z2, .int .u32 z3, .int .u32 z4, .int .u32 z5, .int .u32 z6, .int .u32 z7] 0 w [.int .u32 x0, .int .u32 x1, .int .u32 x2, .int .u32 x3, .int .u32 x4, .int .u32 x5, .int .u32 x6, .int .u32 x7, .slice A n c, .int .i64 len] h (by simp)
  exact this
theorem below_put8 {B : Nat} {w0 w : World} {k : Nat} (hk : B ≤ k) (h : Below B w0 w) (v0 v1 v2 v3 v4 v5 v6 v7 : Value) : Below B w0 ((((((((w.setCell ⟨k, 0, none⟩ v0).setCell ⟨k, 1, none⟩ v1).setCell ⟨k, 2, none⟩ v2).setCell ⟨k, 3, none⟩ v3).setCell ⟨k, 4, none⟩ v4).setCell ⟨k, 5, none⟩ v5).setCell ⟨k, 6, none⟩ v6).setCell ⟨k, 7, none⟩ v7) :=
  setCells_below hk [v0, v1, v2, v3, v4, v5, v6, v7] 0 w h
theorem BoxAt.rest {w : World} {k : Nat} {x0 x1 x2 x3 x4 x5 x6 x7 : Int} {A A' : Option Addr} {n c n' c' : Nat} {len : Int} (h : BoxAt w k x0 x1 x2 x3 x4 x5 x6 x7 A n c len) : BoxAt (w.setCell ⟨k, 8, none⟩ (.slice A' n' c')) k x0 x1 x2 x3 x4 x5 x6 x7 A' n' c' len := by
  have := setCells_heap k 63 [.slice A' n' c'] 8 w [.int .u32 x0, .int .u32 x1, .int .u32 x2, .int .u32 x3, .int .u32 x4, .int .u32 x5, .int .u32 x6, .int .u32 x7, .slice A n c, .int .i64 len] h (by simp)
  exact this

set_option maxRecDepth 100000 in
set_option maxHeartbeats 1000000 in
theorem radd_good (x0 x1 x2 x3 x4 x5 x6 x7 : Int) (A B : Option Addr) (n c N m d : Nat) (rest b : List Int) (w : World) (hmay : mayB n N = true) (hroom : (m : Int) ≤ 1048576 - N) (ha : Bts w A n c rest) (hb : Bts w B m d b) :
    Calls Tryd.prog 48 #[hashV x0 x1 x2 x3 x4 x5 x6 x7 A n c N, .slice B m d] w (AddPost w [x0, x1, x2, x3, x4, x5, x6, x7] (rest ++ b) ((N : Int) + (m : Int))) := by
  obtain ⟨_, hN, hn⟩ := mayB_yes hmay
  have hN : N ≤ 1048576 := by omega
  have hn64 : n < 64 := by omega
  have hm : m ≤ 1048576 := by omega
  obtain ⟨L, hL⟩ : ∃ L, L = rest ++ b := ⟨_, rfl⟩
  have hLl : L.length = n + m := by rw [hL, List.length_append, ha.len, hb.len]
  have hLo : ∀ j, 0 ≤ L.getD j 0 ∧ L.getD j 0 < 256 := by rw [hL]; exact ok_append ha.ok hb.ok
  rw [← hL]
  have hal := ha.len
  have hsum : IntKind.i64.wrap ((N : Int) + (m : Int)) = (N : Int) + (m : Int) := IntWalk.i64_in _ (by omega)
  have HL := Lib.hid hL
  have HLL := Lib.hid hLl
  have HLO := Lib.hid hLo
  have HAL := Lib.hid hal
  clear hL hLl hLo hn hal
  go_enter Tryd.func48, Tryd.ntmps48
  go_wp2_with fail
  refine (rmay_any _ _ _ _ _ _ _ _ _ _ _ _ _).mono ?_
  rintro e w0 ⟨rfl, rfl⟩
  generalize hW : World.alloc _ _ = W
  obtain ⟨hB0, hz0, hX0, hO0⟩ := named_three hW
  have hbe : BoxAt W w.heap.size x0 x1 x2 x3 x4 x5 x6 x7 A n c N := hX0
  have hbo : BoxAt W (w.heap.size + 1) 0 0 0 0 0 0 0 0 none 0 0 0 := hO0
  obtain ⟨e0, e1, e2, e3, e4, e5, e6, e7, e8, e9⟩ := BoxAt.cells hbe
  rw [hmay]
  clear hW hX0 hO0 hmay
  go_wp2_with (first
    | (at_builtin
       refine wpList_append_b rfl (.const (.slice none 0 0)) (.tmp 22) rfl W.heap.size (.slice none 0 0) [] rfl (Own.nil _ _) A n c rest rfl (ha.below hB0) (by simp only [List.length_nil]; omega) (Nat.le_refl _) ?_
       intro v4 w4 hown4 hg4
       rw [List.nil_append] at hown4
       have hC4 : Below W.heap.size W w4 := (Below.refl _ _).grown hg4 (Nat.le_refl _) (fun k hk => by cases hk)
       have hv4 := hown4.size
       clear hg4)
    | (at_builtin
       refine wpList_append_b rfl (.tmp 24) (.tmp 25) rfl W.heap.size v4 rest rfl hown4 B m d b rfl ((hb.below hB0).below hC4) (by rw [HAL.out]; omega) hC4.size ?_
       intro v5 w5 hown5 hg5
       have hC5 : Below W.heap.size W w5 := hC4.grown hg5 hC4.size (fun k hk => (hv4 k hk).1)
       rw [← HL.out] at hown5
       obtain ⟨A5, n5, c5, rfl, hbt5⟩ := hown5.slice HLO.out
       have hbe5 : BoxAt w5 w.heap.size x0 x1 x2 x3 x4 x5 x6 x7 A n c N := hbe.below hC5
       obtain ⟨e0, e1, e2, e3, e4, e5, e6, e7, e8, e9⟩ := BoxAt.cells hbe5
       clear hg5 hown5 hown4 hv4))
  have hn5 : n5 = n + m := by have h1 := hbt5.len; rw [HLL.out] at h1; omega
  have hbo5 : BoxAt w5 (w.heap.size + 1) 0 0 0 0 0 0 0 0 none 0 0 0 := hbo.below hC5
  have hB5 : Below w.heap.size w w5 := hB0.trans (hC5.mono hB0.size)
  have hz5 : w.heap.size + 3 ≤ w5.heap.size := by have := hC5.size; omega
  have HBE := Lib.hid hbo5
  have HB5 := Lib.hid hB5
  have HC5 := Lib.hid hC5
  clear e0 e1 e2 e3 e4 e5 e6 e7 e8 e9 hbe hbe5 hbo hbo5 hB5 hC5 hC4 hB0 ha hb
  go_loopw [6] (fun v wr => ∃ (j : Nat) (A' : Option Addr) (n' c' : Nat) (y0 y1 y2 y3 y4 y5 y6 y7 : Int), 64 * j + n' = n + m ∧ v = .slice A' n' c' ∧ Bts w5 A' n' c' (L.drop (64 * j)) ∧ blocksL [x0, x1, x2, x3, x4, x5, x6, x7] L j = [y0, y1, y2, y3, y4, y5, y6, y7] ∧
      BoxAt wr w5.heap.size y0 y1 y2 y3 y4 y5 y6 y7 none 0 0 ((N : Int) + (m : Int)) ∧ Below w5.heap.size w5 wr) (fun v _ => lenV v)
  case atStart => exact ⟨0, A5, n5, c5, x0, x1, x2, x3, x4, x5, x6, x7, by omega, rfl, by rw [Nat.mul_zero, List.drop_zero]; exact hbt5, rfl, heap_alloc_new w5 _, mac_one w5 _⟩
  case round =>
    clear hbt5 hn5
    obtain ⟨j, A', n', c', y0, y1, y2, y3, y4, y5, y6, y7, hjn, rfl, hbt, hY, hbox, hB⟩ := hrel
    by_cases hge : 64 ≤ n'
    · have hge' : (64 : Int) ≤ n' := by omega
      obtain ⟨hto, hbtP⟩ := run_to hbt 64 (hi := 64) rfl hge
      obtain ⟨A2, hfrom, hbt2⟩ := run_from hbt 64 (lo := 64) rfl hge
      obtain ⟨bb, off, rfl, hcell⟩ := hbtP.at_ (by omega)
      have hblk := block_lt_of_cell (hcell 0 (by omega))
      have hok := hbtP.ok
      have hdrop : (L.drop (64 * j)).drop 64 = L.drop (64 * (j + 1)) := by rw [List.drop_drop]; congr 1
      rw [hdrop] at hbt2
      obtain ⟨P, hP⟩ : ∃ P, P = (L.drop (64 * j)).take 64 := ⟨_, rfl⟩
      rw [← hP] at hcell hok
      have hnext : blocksL [x0, x1, x2, x3, x4, x5, x6, x7] L (j + 1) = roundedL [y0, y1, y2, y3, y4, y5, y6, y7] P := by rw [blocksL, hY, hP]
      have hcr : ∀ k, k < 64 → wr.drew.cell? ⟨bb, off + k, none⟩ = some (.int .u8 (P.getD k 0)) := fun k hk => (hB.cell (p := ⟨bb, off + k, none⟩) hblk).trans (hcell k hk)
      have HN := Lib.hid hnext
      have HCR := Lib.hid hcr
      have HB := Lib.hid hB
      have HBT2 := Lib.hid hbt2
      have HBOX := Lib.hid hbox
      have HOK := Lib.hid hok
      clear hnext hcr hB hbt2 hbox hok hcell hP hdrop hbtP hbt hY
      obtain ⟨c0, c1, c2, c3, c4, c5, c6, c7, _, _⟩ := BoxAt.cells HBOX.out
      go_wp2
      go_region_with
        (first
        | (go_at_call 57; refine (rround_lit y0 y1 y2 y3 y4 y5 y6 y7 P bb off c' _ HOK.out HCR.out).mono ?_; rintro e w7 ⟨⟨z0, z1, z2, z3, z4, z5, z6, z7, hz, rfl⟩, hb7⟩
           have hb7 := below_draw hb7
           have hbox7 := HBOX.out.below hb7
           have hB7 : Below w5.heap.size w5 w7 := HB.out.trans (hb7.mono HB.out.size)
           obtain ⟨d0, d1, d2, d3, d4, d5, d6, d7, _, _⟩ := BoxAt.cells hbox7
           obtain ⟨f0, f1, f2, f3, f4, f5, f6, f7, _, _⟩ := BoxAt.free hbox7))
      generalize hW7 : World.setCell _ _ _ = W7
      have hboxW : BoxAt W7 w5.heap.size z0 z1 z2 z3 z4 z5 z6 z7 none 0 0 ((N : Int) + (m : Int)) := by rw [← hW7]; exact hbox7.put8 _ _ _ _ _ _ _ _
      have hBW : Below w5.heap.size w5 W7 := by rw [← hW7]; exact below_put8 (Nat.le_refl _) hB7 _ _ _ _ _ _ _ _
      clear hW7 hB7 hbox7 d0 d1 d2 d3 d4 d5 d6 d7 f0 f1 f2 f3 f4 f5 f6 f7
      go_wp2
      go_roundw
      case rel => exact ⟨j + 1, A2, n' - 64, c' - 64, z0, z1, z2, z3, z4, z5, z6, z7, by omega, rfl, HBT2.out, by rw [HN.out, hz], hboxW, hBW⟩
      case measure => simp only [lenV]; omega
    · have hlt' : (n' : Int) < 64 := by omega
      have hj : j = L.length / 64 := by rw [HLL.out]; omega
      have hw : 64 * j = whole L := by rw [whole, hj, Nat.mul_comm]
      have hY' : byBlocks [x0, x1, x2, x3, x4, x5, x6, x7] (L.take (whole L)) = [y0, y1, y2, y3, y4, y5, y6, y7] := by rw [byBlocks_whole, ← hj, hY]
      rw [hw] at hbt
      have hbtr := hbt.below hB
      have hbor := HBE.out.below hB
      obtain ⟨c0, c1, c2, c3, c4, c5, c6, c7, c8, c9⟩ := BoxAt.cells hbox
      obtain ⟨f0, f1, f2, f3, f4, f5, f6, f7, f8, f9⟩ := BoxAt.free hbox
      obtain ⟨o0, o1, o2, o3, o4, o5, o6, o7, o8, o9⟩ := BoxAt.cells hbor
      obtain ⟨g0, g1, g2, g3, g4, g5, g6, g7, g8, g9⟩ := BoxAt.free hbor
      have HY := Lib.hid hY'
      have HBOX := Lib.hid hbox
      have HBT := Lib.hid hbtr
      have HBO := Lib.hid hbor
      have HB := Lib.hid hB
      clear hY hY' hbox hbtr hbor hB hbt hw hj
      have hi26 : (Tryd.prog.info? 63).map (·.size) = some 10 := by kernel_rfl
      go_wp2
      have hbo8 : BoxAt (wr.setCell ⟨w5.heap.size, 8, none⟩ (.slice A' n' c')) (w.heap.size + 1) 0 0 0 0 0 0 0 0 none 0 0 0 := HBO.out.sets (by omega) 8 [.slice A' n' c']
      have hbt8 : Bts (wr.setCell ⟨w5.heap.size, 8, none⟩ (.slice A' n' c')) A' n' c' (L.drop (whole L)) := HBT.out.sets HBOX.out 8 [.slice A' n' c']
      have hB8 : Below w.heap.size w (wr.setCell ⟨w5.heap.size, 8, none⟩ (.slice A' n' c')) := (HB5.out.trans (HB.out.mono HB5.out.size)).setCell (p := ⟨w5.heap.size, 8, none⟩) HB5.out.size _
      refine bodyPost_ret (v := hashV y0 y1 y2 y3 y4 y5 y6 y7 A' n' c' ((N : Int) + (m : Int))) ?_ ?_ ?_
      · exact results_cell_row Tryd.results48 _ _ (w.heap.size + 1) 63 _ (0, 0) _ rfl (heap_put10 hbo8 _ _ _ _ _ _ _ _ _ _) Tryd.underlying63 rfl hi26
      · rfl
      · exact ⟨y0, y1, y2, y3, y4, y5, y6, y7, A', n', c', rfl, HY.out, hbt8.put10 hbo8 _ _ _ _ _ _ _ _ _ _, below_put10 (Nat.le_succ _) hB8 _ _ _ _ _ _ _ _ _ _⟩
end Go.Proofs.YtcfkpepohnjdfaaDoor
