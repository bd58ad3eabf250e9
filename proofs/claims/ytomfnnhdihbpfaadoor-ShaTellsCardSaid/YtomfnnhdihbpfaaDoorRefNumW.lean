/- The walk over the plain answers' numbers. -/
import Derived.Test.YtomfnnhdihbpfaaDoorRefNums
import Derived.BigQuiet
import Derived.Deep.RegionLaw
import Derived.StillTailTactics
namespace Go.Proofs.YtomfnnhdihbpfaaDoor
open Go.RowKit

/-- four bytes as a number, by sums: as by 'or' -/
theorem word_sum (l : List Int) (k : Nat) (hr : ∀ j, 0 ≤ l.getD j 0 ∧ l.getD j 0 < 256) :
    word l k = 16777216 * l.getD (4 * k) 0 + 65536 * l.getD (4 * k + 1) 0 + 256 * l.getD (4 * k + 2) 0 + l.getD (4 * k + 3) 0 := by
  have e0 := hr (4 * k)
  have e1 := hr (4 * k + 1)
  have e2 := hr (4 * k + 2)
  have e3 := hr (4 * k + 3)
  unfold word
  generalize l.getD (4 * k) 0 = a at *
  generalize l.getD (4 * k + 1) 0 = b at *
  generalize l.getD (4 * k + 2) 0 = c at *
  generalize l.getD (4 * k + 3) 0 = d at *
  obtain ⟨a, rfl⟩ := Int.eq_ofNat_of_zero_le e0.1
  obtain ⟨b, rfl⟩ := Int.eq_ofNat_of_zero_le e1.1
  obtain ⟨c, rfl⟩ := Int.eq_ofNat_of_zero_le e2.1
  obtain ⟨d, rfl⟩ := Int.eq_ofNat_of_zero_le e3.1
  have a1 : a < 256 := by omega
  have b1 : b < 256 := by omega
  have c1 : c < 256 := by omega
  have d1 : d < 256 := by omega
  rw [show (a : Int) * 16777216 % 4294967296 = ((a * 16777216 : Nat) : Int) by omega, show (b : Int) * 65536 % 4294967296 = ((b * 65536 : Nat) : Int) by omega, show (c : Int) * 256 % 4294967296 = ((c * 256 : Nat) : Int) by omega,
    u32_or_nat _ _ (by omega) (by omega), nat_join 24 _ _ (by omega) (by omega), u32_or_nat _ _ (by omega) (by omega), nat_join 16 _ _ (by omega) (by omega), u32_or_nat _ _ (by omega) (by omega), nat_join 8 _ _ (by omega) (by omega)]
  omega

theorem keepA {w : World} {b o0 o1 o2 o3 : Nat} {v0 v1 v2 v3 : Value} (h : w.cell? ⟨b, o0, none⟩ = some v0 ∧ w.cell? ⟨b, o1, none⟩ = some v1 ∧ w.cell? ⟨b, o2, none⟩ = some v2 ∧ w.cell? ⟨b, o3, none⟩ = some v3) (hb : b < w.heap.size) (o : Obj) :
    (w.alloc o).cell? ⟨b, o0, none⟩ = some v0 ∧ (w.alloc o).cell? ⟨b, o1, none⟩ = some v1 ∧ (w.alloc o).cell? ⟨b, o2, none⟩ = some v2 ∧ (w.alloc o).cell? ⟨b, o3, none⟩ = some v3 := by
  have e : ∀ i, (w.alloc o).cell? ⟨b, i, none⟩ = w.cell? ⟨b, i, none⟩ := fun i => World.cell?_of_block (Below.heap_alloc w o b hb)
  rw [e, e, e, e]
  exact h
theorem keepB {w w' : World} {b o0 o1 o2 o3 : Nat} {v0 v1 v2 v3 : Value} (h : w.cell? ⟨b, o0, none⟩ = some v0 ∧ w.cell? ⟨b, o1, none⟩ = some v1 ∧ w.cell? ⟨b, o2, none⟩ = some v2 ∧ w.cell? ⟨b, o3, none⟩ = some v3) {B : Nat} (hb : b < B) (hB : Below B w w') :
    w'.cell? ⟨b, o0, none⟩ = some v0 ∧ w'.cell? ⟨b, o1, none⟩ = some v1 ∧ w'.cell? ⟨b, o2, none⟩ = some v2 ∧ w'.cell? ⟨b, o3, none⟩ = some v3 := by
  have e : ∀ i, w'.cell? ⟨b, i, none⟩ = w.cell? ⟨b, i, none⟩ := fun i => hB.cell (p := ⟨b, i, none⟩) hb
  rw [e, e, e, e]
  exact h
theorem one_cell (w : World) (y : Int) (t : TypeId) : (w.alloc (.cells #[.int .u32 y] t)).cell? ⟨w.heap.size, 0, none⟩ = some (.int .u32 y) := (cell_of_row _ _ _ _ _ _ (heap_alloc_new w _)).trans rfl

theorem wpList_append_w {ops : Array Oper} {rest : List Oper} {o : Oper} {a : Act} {w : World} {Q : Exit → Act → World → Prop} (hgd : o.guard = none) (s x : Operand)
    (ho : o.op = .call { callee := .builtin .append, args := #[s, x], argTypes := #[55, 55] })
    (base : Nat) (v : Value) (l : List Int) (hs : a.eval s = v) (hown : OwnW w base v l) (g : Nat) (y : Int) (hx : a.eval x = .slice (some ⟨g, 0, none⟩) 1 1) (hg : w.cell? ⟨g, 0, none⟩ = some (.int .u32 y))
    (hsmall : l.length ≤ 1000) (hbase : base ≤ w.heap.size)
    (h : ∀ v' w', OwnW w' base v' (l ++ [y]) → w.grownBy w' v.ownBlock → wpList Tryd.prog ops Q rest (a.put o.dst v') w') : wpList Tryd.prog ops Q (o :: rest) a w := by
  obtain ⟨i, hi, hz, h1, h2⟩ := info_parts info_u32
  refine wpList_append_own w hgd s x 55 ho base 22 i (.int .u32 0) 1 4 Tryd.underlying55 hi hz h1 h2 rfl (by omega) v l.length (l.map (Value.int .u32)) hs hown ⟨g, 0, none⟩ 1 1 [.int .u32 y] hx rfl ?_ ?_ (by unfold maxLen; omega) (by omega) hbase ?_
  · intro j u hu
    match j, hu with
    | 0, hu =>
      simp at hu
      subst hu
      exact hg
    | j + 1, hu => simp at hu
  · intro u hu
    simp at hu
    subst hu
    rfl
  · intro v' w' hown' hgr _
    refine h v' w' ?_ hgr
    unfold OwnW
    rw [List.length_append, List.map_append]
    exact hown'

set_option maxRecDepth 100000 in
set_option maxHeartbeats 3000000 in
theorem numbers_any (l : List Int) (b off cap : Nat) (w : World) (hr : ∀ j, 0 ≤ l.getD j 0 ∧ l.getD j 0 < 256)
    (hc : ∀ j, j < 64 → w.cell? ⟨b, off + j, none⟩ = some (.int .u8 (l.getD j 0))) :
    Calls Tryd.prog 45 #[.slice (some ⟨b, off, none⟩) 64 cap] w fun e w' => ∃ v, e = .returned v ∧ OwnW w' w.heap.size v (spreadAll l) ∧ Below w.heap.size w w' := by
  have hbw : b < w.heap.size := block_lt_of_cell (hc 0 (by omega))
  go_enter Tryd.func45, Tryd.ntmps45
  go_wp2
  go_loopw [3, 4] (fun v i wr => ∃ k : Nat, k ≤ 16 ∧ i = .int .i64 k ∧ OwnW wr w.heap.size v ((spreadA l k).take k) ∧ Below w.heap.size w wr) (fun _ i _ => 16 - (intOf i).toNat)
  case atStart => exact ⟨0, by omega, rfl, OwnW.nil _ _, Below.refl _ _⟩
  case round =>
    obtain ⟨k, hk, rfl, hown, hb⟩ := hrel
    by_cases hlt : k < 16
    · have c0 := (hb.cell (p := ⟨b, off + 4 * k, none⟩) hbw).trans (hc (4 * k) (by omega))
      have c1 := (hb.cell (p := ⟨b, off + (4 * k + 1), none⟩) hbw).trans (hc (4 * k + 1) (by omega))
      have c2 := (hb.cell (p := ⟨b, off + (4 * k + 2), none⟩) hbw).trans (hc (4 * k + 2) (by omega))
      have c3 := (hb.cell (p := ⟨b, off + (4 * k + 3), none⟩) hbw).trans (hc (4 * k + 3) (by omega))
      have hws := word_sum l k hr
      obtain ⟨x0, hx0⟩ : ∃ x, x = l.getD (4 * k) 0 := ⟨_, rfl⟩
      obtain ⟨x1, hx1⟩ : ∃ x, x = l.getD (4 * k + 1) 0 := ⟨_, rfl⟩
      obtain ⟨x2, hx2⟩ : ∃ x, x = l.getD (4 * k + 2) 0 := ⟨_, rfl⟩
      obtain ⟨x3, hx3⟩ : ∃ x, x = l.getD (4 * k + 3) 0 := ⟨_, rfl⟩
      have e0 := hr (4 * k)
      have e1 := hr (4 * k + 1)
      have e2 := hr (4 * k + 2)
      have e3 := hr (4 * k + 3)
      rw [← hx0] at c0 e0 hws
      rw [← hx1] at c1 e1 hws
      rw [← hx2] at c2 e2 hws
      rw [← hx3] at c3 e3 hws
      obtain ⟨L, hL⟩ : ∃ L, L = (spreadA l k).take k := ⟨_, rfl⟩
      have hLl : L.length ≤ 1000 := by rw [hL, List.length_take]; omega
      have hnext : (spreadA l (k + 1)).take (k + 1) = L ++ [word l k] := by
        rw [spreadA, take_set_snoc _ _ _ (by rw [spreadA_length]; omega), hL]
      rw [← hL] at hown
      obtain ⟨y, hy⟩ : ∃ y, y = 16777216 * x0 + 65536 * x1 + 256 * x2 + x3 := ⟨_, rfl⟩
      rw [hws, ← hy] at hnext
      have HY := Lib.hid hy
      have HN := Lib.hid hnext
      have v0 : IntKind.u32.wrap x0 = x0 := by rw [IntKind.wrap_u32']; omega
      have v1 : IntKind.u32.wrap x1 = x1 := by rw [IntKind.wrap_u32']; omega
      have v2 : IntKind.u32.wrap x2 = x2 := by rw [IntKind.wrap_u32']; omega
      have v3 : IntKind.u32.wrap x3 = x3 := by rw [IntKind.wrap_u32']; omega
      have m0 : IntKind.u32.wrap (16777216 * x0) = 16777216 * x0 := by rw [IntKind.wrap_u32']; omega
      have m1 : IntKind.u32.wrap (65536 * x1) = 65536 * x1 := by rw [IntKind.wrap_u32']; omega
      have m2 : IntKind.u32.wrap (256 * x2) = 256 * x2 := by rw [IntKind.wrap_u32']; omega
      have a1 : IntKind.u32.wrap (16777216 * x0 + 65536 * x1) = 16777216 * x0 + 65536 * x1 := by rw [IntKind.wrap_u32']; omega
      have a2 : IntKind.u32.wrap (16777216 * x0 + 65536 * x1 + 256 * x2) = 16777216 * x0 + 65536 * x1 + 256 * x2 := by rw [IntKind.wrap_u32']; omega
      have a3 : IntKind.u32.wrap (16777216 * x0 + 65536 * x1 + 256 * x2 + x3) = y := by rw [IntKind.wrap_u32', hy]; omega
      have s0 : IntKind.i64.wrap (4 * (k : Int)) = 4 * (k : Int) := IntWalk.i64_in _ (by omega)
      have s1 : IntKind.i64.wrap (4 * (k : Int) + 1) = 4 * (k : Int) + 1 := IntWalk.i64_in _ (by omega)
      have s2 : IntKind.i64.wrap (4 * (k : Int) + 2) = 4 * (k : Int) + 2 := IntWalk.i64_in _ (by omega)
      have s3 : IntKind.i64.wrap (4 * (k : Int) + 3) = 4 * (k : Int) + 3 := IntWalk.i64_in _ (by omega)
      have p0 : 0 ≤ 4 * (k : Int) := by omega
      have p1 : 0 ≤ 4 * (k : Int) + 1 := by omega
      have p2 : 0 ≤ 4 * (k : Int) + 2 := by omega
      have p3 : 0 ≤ 4 * (k : Int) + 3 := by omega
      have q0 : 4 * (k : Int) < 64 := by omega
      have q1 : 4 * (k : Int) + 1 < 64 := by omega
      have q2 : 4 * (k : Int) + 2 < 64 := by omega
      have q3 : 4 * (k : Int) + 3 < 64 := by omega
      have n0 : (4 * (k : Int)).toNat = 4 * k := by omega
      have n1 : (4 * (k : Int) + 1).toNat = 4 * k + 1 := by omega
      have n2 : (4 * (k : Int) + 2).toNat = 4 * k + 2 := by omega
      have n3 : (4 * (k : Int) + 3).toNat = 4 * k + 3 := by omega
      have hcc : wr.cell? ⟨b, off + 4 * k, none⟩ = some (.int .u8 x0) ∧ wr.cell? ⟨b, off + (4 * k + 1), none⟩ = some (.int .u8 x1) ∧ wr.cell? ⟨b, off + (4 * k + 2), none⟩ = some (.int .u8 x2) ∧ wr.cell? ⟨b, off + (4 * k + 3), none⟩ = some (.int .u8 x3) := ⟨c0, c1, c2, c3⟩
      have HCC := Lib.hid hcc
      have hbB := Nat.lt_of_lt_of_le hbw hb.size
      clear hx0 hx1 hx2 hx3 hws hy hnext hL e0 e1 e2 e3 hc hr hcc c0 c1 c2 c3
      go_wp2
      go_region_held3 (fun w' => w'.cell? ⟨b, off + 4 * k, none⟩ = some (.int .u8 x0) ∧ w'.cell? ⟨b, off + (4 * k + 1), none⟩ = some (.int .u8 x1) ∧ w'.cell? ⟨b, off + (4 * k + 2), none⟩ = some (.int .u8 x2) ∧ w'.cell? ⟨b, off + (4 * k + 3), none⟩ = some (.int .u8 x3))
        (first | exact HCC.out | exact keepA HCC.out hbB _ | exact keepB HCC.out hbw hbel)
        (first
        | (refine step_append_w rfl (.tmp 12) (.tmp 46) rfl w.heap.size u3 L ?_ ?_ wr.heap.size y ?_ ?_ hLl ?_ ?_
           · rfl
           · first | exact hown.draw1.more _ | exact hown.more _
           · rfl
           · exact one_cell _ _ _
           · exact Nat.le_trans hb.size (by simp)
           intro v' w' hown' hg'
           have hbel : Below w.heap.size wr w' := by first | exact (((Below.refl _ wr).drew).alloc hb.size _).grown hg' (Nat.le_trans hb.size (by simp)) (fun g hg => (hown.size g hg).1) | exact ((Below.refl _ wr).alloc hb.size _).grown hg' (Nat.le_trans hb.size (by simp)) (fun g hg => (hown.size g hg).1)))
      clear s0 s1 s2 s3 n0 n1 n2 n3 v0 v1 v2 v3 m0 m1 m2 a1 a2 a3
      go_wp2
      go_roundw
      case rel => exact ⟨k + 1, by omega, by go_num, by rw [HN.out]; exact hown', hb.trans (hbel.mono (Nat.le_refl _))⟩
      case measure => simp [intOf]; omega
    · have hge : k = 16 := by omega
      have hown16 : OwnW wr w.heap.size u3 ((spreadB l 0).take 16) := by
        rw [hge] at hown
        exact hown
      have HO := Lib.hid hown16
      have HB := Lib.hid hb
      clear hc hown hown16 hb hk hge
      go_wp2
      clear hlt
      go_loopw [3, 5] (fun v i wr => ∃ k : Nat, 16 ≤ k ∧ k ≤ 64 ∧ i = .int .i64 k ∧ OwnW wr w.heap.size v ((spreadB l (k - 16)).take k) ∧ Below w.heap.size w wr) (fun _ i _ => 64 - (intOf i).toNat)
      case atStart => exact ⟨16, by omega, by omega, rfl, HO.out, HB.out⟩
      case round =>
        clear HO HB
        obtain ⟨k, hk1, hk2, rfl, hown, hb⟩ := hrel
        by_cases hlt : k < 64
        · have hSl := spreadB_length l (k - 16)
          obtain ⟨L, hL⟩ : ∃ L, L = (spreadB l (k - 16)).take k := ⟨_, rfl⟩
          have hLl : L.length = k := by rw [hL, List.length_take, hSl]; omega
          have hLg : ∀ j, j < k → L.getD j 0 = (spreadB l (k - 16)).getD j 0 := fun j hj => by
            rw [hL, List.getD_eq_getElem?_getD, List.getD_eq_getElem?_getD, List.getElem?_take, if_pos hj]
          rw [← hL] at hown
          have hnext : (spreadB l (k + 1 - 16)).take (k + 1) = L ++ [nextW (spreadB l (k - 16)) k] := by
            rw [show k + 1 - 16 = (k - 16) + 1 by omega, spreadB, show k - 16 + 16 = k by omega, take_set_snoc _ _ _ (by rw [hSl]; omega), hL]
          obtain ⟨g, cap, rfl, hgb, hgl, hgc, hgm, cel⟩ := hown.form (by omega)
          obtain ⟨N, hN⟩ : ∃ N, N = L.length := ⟨_, rfl⟩
          rw [hLl] at hgc cel
          rw [← hN] at hown ⊢
          have hNk : N = k := hN.trans hLl
          obtain ⟨x2, hx2⟩ : ∃ x, x = (spreadB l (k - 16)).getD (k - 2) 0 := ⟨_, rfl⟩
          obtain ⟨x7, hx7⟩ : ∃ x, x = (spreadB l (k - 16)).getD (k - 7) 0 := ⟨_, rfl⟩
          obtain ⟨x15, hx15⟩ : ∃ x, x = (spreadB l (k - 16)).getD (k - 15) 0 := ⟨_, rfl⟩
          obtain ⟨x16, hx16⟩ : ∃ x, x = (spreadB l (k - 16)).getD (k - 16) 0 := ⟨_, rfl⟩
          have c2 := cel (k - 2) (by omega)
          have c7 := cel (k - 7) (by omega)
          have c15 := cel (k - 15) (by omega)
          have c16 := cel (k - 16) (by omega)
          rw [hLg _ (by omega), ← hx2] at c2
          rw [hLg _ (by omega), ← hx7] at c7
          rw [hLg _ (by omega), ← hx15] at c15
          rw [hLg _ (by omega), ← hx16] at c16
          have hnw : nextW (spreadB l (k - 16)) k = (x16 + lowS x15 + x7 + highS x2) % 4294967296 := by
            simp only [nextW, hx2, hx7, hx15, hx16]
          rw [hnw] at hnext
          have HN := Lib.hid hnext
          have s2 : IntKind.i64.wrap ((k : Int) - 2) = (k : Int) - 2 := IntWalk.i64_in _ (by omega)
          have s7 : IntKind.i64.wrap ((k : Int) - 7) = (k : Int) - 7 := IntWalk.i64_in _ (by omega)
          have s15 : IntKind.i64.wrap ((k : Int) - 15) = (k : Int) - 15 := IntWalk.i64_in _ (by omega)
          have s16 : IntKind.i64.wrap ((k : Int) - 16) = (k : Int) - 16 := IntWalk.i64_in _ (by omega)
          have p2 : 0 ≤ (k : Int) - 2 := by omega
          have p7 : 0 ≤ (k : Int) - 7 := by omega
          have p15 : 0 ≤ (k : Int) - 15 := by omega
          have p16 : 0 ≤ (k : Int) - 16 := by omega
          have q2 : (k : Int) - 2 < (N : Int) := by omega
          have t2 : (k : Int) < (N : Int) + 2 := by omega
          have q7 : (k : Int) - 7 < (N : Int) := by omega
          have t7 : (k : Int) < (N : Int) + 7 := by omega
          have q15 : (k : Int) - 15 < (N : Int) := by omega
          have t15 : (k : Int) < (N : Int) + 15 := by omega
          have q16 : (k : Int) - 16 < (N : Int) := by omega
          have t16 : (k : Int) < (N : Int) + 16 := by omega
          have n2 : ((k : Int) - 2).toNat = k - 2 := by omega
          have n7 : ((k : Int) - 7).toNat = k - 7 := by omega
          have n15 : ((k : Int) - 15).toNat = k - 15 := by omega
          have n16 : ((k : Int) - 16).toNat = k - 16 := by omega
          have q4 : (k : Int) < 64 := by omega
          have r2 : (2 : Int) ≤ k := by omega
          have r7 : (7 : Int) ≤ k := by omega
          have r15 : (15 : Int) ≤ k := by omega
          have r16 : (16 : Int) ≤ k := by omega
          have HB := Lib.hid hb
          have HO := Lib.hid hown
          have hL1000 : L.length ≤ 1000 := by omega
          have HNk := Lib.hid hNk
          clear hNk hN hSl hL hLg hLl hx2 hx7 hx15 hx16 hnw hnext hb hr cel
          go_wp2
          go_quiet ((go_at_call 46; exact Calls.quiet_of_same ((rturned_any _ _ _ (by omega) (by omega)).mono fun _ _ h => ⟨h.1, h.2.symm⟩)))
          generalize hw2 : wr.drewN _ = w2
          have d2 : w2.cell? ⟨g, k - 2, none⟩ = some (.int .u32 x2) := by rw [← hw2]; exact c2
          have d7 : w2.cell? ⟨g, k - 7, none⟩ = some (.int .u32 x7) := by rw [← hw2]; exact c7
          have d16 : w2.cell? ⟨g, k - 16, none⟩ = some (.int .u32 x16) := by rw [← hw2]; exact c16
          have HW2 := Lib.hid hw2
          clear hw2 c2 c7 c15 c16
          go_wp2
          go_quiet ((go_at_call 46; exact Calls.quiet_of_same ((rturned_any _ _ _ (by omega) (by omega)).mono fun _ _ h => ⟨h.1, h.2.symm⟩)))
          generalize hw3 : w2.drewN _ = w3
          have e7 : w3.cell? ⟨g, k - 7, none⟩ = some (.int .u32 x7) := by rw [← hw3]; exact d7
          have e16 : w3.cell? ⟨g, k - 16, none⟩ = some (.int .u32 x16) := by rw [← hw3]; exact d16
          have hown3 : OwnW w3 w.heap.size (.slice (some ⟨g, 0, none⟩) N cap) L := by
            rw [← hw3, ← HW2.out]; exact (HO.out.draw _).draw _
          have hb3 : Below w.heap.size w w3 := by
            rw [← hw3, ← HW2.out]; exact below_drewN (below_drewN HB.out _) _
          have HB3 := Lib.hid hb3
          have HO3 := Lib.hid hown3
          clear hw3 d2 d7 d16 hb3 hown3 HO HB HW2
          go_wp2
          obtain ⟨y, hy⟩ : ∃ y, y = (x16 + lowS x15 + x7 + highS x2) % 4294967296 := ⟨_, rfl⟩
          have HY := Lib.hid hy
          go_region_law (first
            | (refine step_append_w rfl (.tmp 92) (.tmp 108) rfl w.heap.size (.slice (some ⟨g, 0, none⟩) N cap) L ?_ ?_ w3.heap.size y ?_ ?_ hL1000 ?_ ?_
               · rfl
               · first | exact HO3.out.draw1.more _ | exact HO3.out.more _
               · rfl
               · refine (one_cell _ _ _).trans ?_
                 rw [HY.out]
                 simp only [IntKind.wrap_u32', lowS, highS, x32, Int.emod_add_emod]
                 refine congrArg some (congrArg (Value.int .u32) ?_)
                 omega
               · exact Nat.le_trans HB3.out.size (by simp)
               intro v' w' hown' hg'
               have hbel : Below w.heap.size w3 w' := by first | exact (((Below.refl _ w3).drew).alloc HB3.out.size _).grown hg' (Nat.le_trans HB3.out.size (by simp)) (fun g hg => (HO3.out.size g hg).1) | exact ((Below.refl _ w3).alloc HB3.out.size _).grown hg' (Nat.le_trans HB3.out.size (by simp)) (fun g hg => (HO3.out.size g hg).1)))
          clear s2 s7 s15 s16 n2 n7 n15 n16
          all_goals
            (go_wp2
             go_roundw
             case rel => exact ⟨k + 1, by omega, by omega, by go_num, by rw [HN.out, ← HY.out]; exact hown', HB3.out.trans (hbel.mono (Nat.le_refl _))⟩
             case measure => simp [intOf]; omega)
        · have hk64 : k = 64 := by omega
          subst hk64
          have hfull : (spreadB l (64 - 16)).take 64 = spreadAll l := by
            rw [spreadAll, List.take_of_length_le (by rw [spreadB_length]; omega)]
          rw [hfull] at hown
          have HO := Lib.hid hown
          have HB := Lib.hid hb
          clear hown hb hfull hlt
          go_wp2
          go_ret
          exact ⟨_, rfl, HO.out, HB.out⟩
end Go.Proofs.YtomfnnhdihbpfaaDoor
