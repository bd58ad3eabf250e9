/- The walk over package entry's Of: those of a kind, collected. -/
import Derived.Test.YtfjiefhicjnnnaaEntKind
import Derived.Test.YtfjiefhicjnnnaaBasFenceR
namespace Go.Proofs.Ytfjiefhicjnnnaa
set_option linter.unusedVariables false
set_option linter.unusedSimpArgs false
open Go.RowKit Go.Shelf
attribute [local go_sem] Oper.semAt_some

def OfInv (L : List En) (w : World) (base : Nat) (k : Nat) (X : World) : Prop :=
  (∃ v, Boxed X w.heap.size 27 v ∧ OwnR 25 9 X base v ((L.take k).map En.row)) ∧ Below w.heap.size w X
set_option maxRecDepth 100000 in
set_option maxHeartbeats 2000000 in
theorem eof_any (A : Option Addr) (n c : Nat) (l : List En) (kind : Int) (w : World) (hl : Ens w A n c l) (hsm : n ≤ 1000000) :
    Calls Try.prog 16 #[.slice A n c, .int .i64 kind] w (GL (ofE l kind) w) := by
  have hn := hl.small
  have hll := hl.len
  refine (callsIn_wide (n := 9)).1 ?_
  refine callsIn_of_wp_marks Try.func16 rfl trivial ?_ rfl
  simp only [Try.ntmps16, List.size_toArray, List.length_cons, List.length_nil, Nat.reduceAdd, Nat.reduceSub, Array.replicate_succ, Array.replicate_zero, List.push_toArray, List.append_toArray, List.nil_append, List.cons_append]
  gi_wp2_with (first
    | (refine ⟨trivial, ?_⟩; gi_at_call 30; refine (callsIn_wide.2 (all_any _ _ _ _)).mono ?_; rintro e w1 ⟨rfl, rfl⟩)
    | (refine ⟨trivial, ?_⟩; gi_at_call 29; refine (callsIn_wide.2 (ofKind_any _ _ _ _)).mono ?_; rintro e w2 ⟨rfl, rfl⟩))
  have o1 := Boxed.new w 27 (.slice none 0 0)
  obtain ⟨V1, hV1⟩ : ∃ V1, w.alloc (.cells #[.slice none 0 0] 27) = V1 := ⟨_, rfl⟩
  have s1 : V1.heap.size = w.heap.size + 1 := by rw [← hV1]; simp
  rw [hV1] at o1 ⊢
  have o2 := Boxed.new V1 27 (.slice A n c)
  obtain ⟨V2, hV2⟩ : ∃ V2, V1.alloc (.cells #[.slice A n c] 27) = V2 := ⟨_, rfl⟩
  have s2 : V2.heap.size = w.heap.size + 1 + 1 := by rw [← hV2]; simp [s1]
  rw [s1] at o2
  have o1 := o1.alloc (.cells #[.slice A n c] 27)
  rw [hV2] at o1 o2 ⊢
  have o3 := Boxed.new V2 60 (.func (.func 40) #[] #[.pointer (some ⟨w.heap.size + 1, 0, none⟩)])
  obtain ⟨V3, hV3⟩ : ∃ V3, V2.alloc (.cells #[.func (.func 40) #[] #[.pointer (some ⟨w.heap.size + 1, 0, none⟩)]] 60) = V3 := ⟨_, rfl⟩
  have s3 : V3.heap.size = w.heap.size + 1 + 1 + 1 := by rw [← hV3]; simp [s2]
  rw [s2] at o3
  have o1 := o1.alloc (.cells #[.func (.func 40) #[] #[.pointer (some ⟨w.heap.size + 1, 0, none⟩)]] 60)
  have o2 := o2.alloc (.cells #[.func (.func 40) #[] #[.pointer (some ⟨w.heap.size + 1, 0, none⟩)]] 60)
  rw [hV3] at o1 o2 o3 ⊢
  have o4 := Boxed.new V3 3 (.int .i64 kind)
  obtain ⟨W0, hW0⟩ : ∃ W0, V3.alloc (.cells #[.int .i64 kind] 3) = W0 := ⟨_, rfl⟩
  have s4 : W0.heap.size = w.heap.size + 4 := by rw [← hW0]; simp [s3]
  rw [s3] at o4
  have o1 := o1.alloc (.cells #[.int .i64 kind] 3)
  have o2 := o2.alloc (.cells #[.int .i64 kind] 3)
  have o3 := o3.alloc (.cells #[.int .i64 kind] 3)
  have hB0 : Below w.heap.size w W0 := by
    rw [← hW0, ← hV3, ← hV2, ← hV1]
    exact (((one_alloc w _).alloc (by simp) _).alloc (by simp; omega) _).alloc (by simp; omega) _
  rw [hW0] at o1 o2 o3 o4 ⊢
  clear hV1 hV2 hV3 hW0 s1 s2 s3
  have hin := all_hands A n c l (w.heap.size + 1) w W0 hl hB0 o2.cell
  rw [← hll] at hin
  have hks := kind_hands 40 _ _ l kind (w.heap.size + 1 + 1) (w.heap.size + 1 + 1 + 1) [] w W0 W0 (enters_of Try.func40 (by kernel_rfl) rfl) hin hB0.size (fun b hb => by cases hb) (Below.refl _ _) o3.cell o4
  have hLl : (ofE l kind).length ≤ 1000000 := Nat.le_trans (of_len l kind) (by omega)
  obtain ⟨L, hL⟩ : ∃ L, ofE l kind = L := ⟨_, rfl⟩
  rw [hL] at hks hLl
  have HLE := Lib.hid hL
  clear hin hL
  refine range_c (w0 := W0) (gf := 39) (lb := #[.pointer (some ⟨w.heap.size + 1 + 1, 0, none⟩), .pointer (some ⟨w.heap.size + 1 + 1 + 1, 0, none⟩)]) rfl (enters_of Try.func39 (by kernel_rfl) rfl) hks (Below.refl _ _) (fun _ => rfl) (fun h k => h.trans k)
    (fun X o o' hx hc hw => KeepB.put o' hx (by omega) (fun b hb => by simp only [List.mem_cons, List.not_mem_nil, or_false] at hb; omega))
    (OfInv L w (W0.heap.size + 1 + 1 + 1)) ?hI (fun _ => False) (fun _ _ _ _ h _ _ => h) ⟨⟨_, o1, by rw [List.take_zero]; exact OwnR.nil _ _ _ _⟩, hB0⟩
    (fun k a' X => ∃ b, X.heap[b]? = some (.cells (enA (L.getD k En.zero)) 25 (0, 0)) ∧ a' = { tmps := #[.slice A n c, .int .i64 kind, undef, undef, .slice none 0 0, .pointer (some ⟨w.heap.size, 0, none⟩), .pointer (some ⟨b, 0, none⟩), .slice A n c, .func (.func 40) #[] #[.pointer (some ⟨w.heap.size + 1, 0, none⟩)], .int .i64 kind, .func (.func 39) #[] #[.pointer (some ⟨w.heap.size + 1 + 1, 0, none⟩), .pointer (some ⟨w.heap.size + 1 + 1 + 1, 0, none⟩)], enV (L.getD k En.zero), undef, undef, undef, undef, undef], defers := [] }) ?hAx ?assign ?body ?done (fun _ _ _ h _ => h.elim)
  case hI =>
    rintro k X Y row ⟨⟨v, p1, p2⟩, p3⟩ hg hr
    exact ⟨⟨v, boxed_turn p1 hg (fun r e => (hr r e).2), ownR_turn p2 hg (fun r e => (hr r e).2)⟩, p3.grown hg p3.size (fun r e => by have := (hr r e).1; omega)⟩
  case hAx =>
    rintro k a' u X Y row ⟨b, hb, rfl⟩ hg hr
    refine ⟨b, (hg.block b (Array.getElem?_eq_some_iff.1 hb).1 (fun e => ?_)).trans hb, rfl⟩
    obtain ⟨_, o, ho, hc⟩ := hr _ e.symm
    exact cells_own hb ho hc rfl
  case assign =>
    rintro x k X K hk hsx ⟨⟨v, p1, p2⟩, p3⟩ hK
    have hK2 := hK { tmps := #[.slice A n c, .int .i64 kind, undef, undef, .slice none 0 0, .pointer (some ⟨w.heap.size, 0, none⟩), .pointer (some ⟨X.heap.size, 0, none⟩), .slice A n c, .func (.func 40) #[] #[.pointer (some ⟨w.heap.size + 1, 0, none⟩)], .int .i64 kind, .func (.func 39) #[] #[.pointer (some ⟨w.heap.size + 1 + 1, 0, none⟩), .pointer (some ⟨w.heap.size + 1 + 1 + 1, 0, none⟩)], enV (L.getD k En.zero), undef, undef, undef, undef, undef], defers := [] } (X.alloc (.cells (enA (L.getD k En.zero)) 25))
      ((KeepsOthers.alloc _ _).from _) (KeepB.alloc _ _ _ _ (by omega)) ⟨⟨v, p1.alloc _, p2.more _⟩, p3.alloc p3.size _⟩ ⟨X.heap.size, heap_alloc_new X _, rfl⟩
    obtain ⟨⟨a0, a1, a2, a3, a4, a5, a6, a7, a8⟩, hu⟩ : ∃ u, L.getD k En.zero = u := ⟨_, rfl⟩
    rw [hu] at hK2 ⊢
    simp only [enV, enA, En.row] at hK2 ⊢
    have HK2 := Lib.hid hK2
    clear hK2 hK
    gi_wp2
    exact HK2.out
  case body =>
    rintro x k a' X hk hsx ⟨⟨v, p1, p2⟩, p3⟩ ⟨b, hb, rfl⟩
    have htk : ((L.take (k + 1)).map En.row) = (L.take k).map En.row ++ [(L.getD k En.zero).row] := by
      rw [List.take_succ_eq_append_getElem hk, List.map_append]
      simp [List.getD_eq_getElem?_getD, hk]
    have hkl : ((L.take k).map En.row).length ≤ 1000000 := by rw [List.length_map, List.length_take]; omega
    obtain ⟨R, hR⟩ : ∃ R, (L.take k).map En.row = R := ⟨_, rfl⟩
    rw [hR] at htk hkl p2
    have hbx := hb
    obtain ⟨⟨a0, a1, a2, a3, a4, a5, a6, a7, a8⟩, hu⟩ : ∃ u, L.getD k En.zero = u := ⟨_, rfl⟩
    rw [hu] at htk hb ⊢
    obtain ⟨z0, z1, z2, z3, z4, z5, z6, z7, z8⟩ := (BoxE.mk hb).cells
    simp only at z0 z1 z2 z3 z4 z5 z6 z7 z8
    have y1 := p1.cell
    have y2 := p1.frozen
    have HT := Lib.hid htk
    have P1 := Lib.hid p1
    have P2 := Lib.hid p2
    have P3 := Lib.hid p3
    have hwX : w.heap.size < X.heap.size := p1.lt
    clear htk hb hbx hR hu p1 p2 p3
    gi_wp2_with (gi_at_builtin
                 refine wpListIn_append_r rfl 27 25 9 72 _ _ rfl Try.underlying27 info_entry (by omega) (W0.heap.size + 1 + 1 + 1) v R rfl (P2.out.more _) X.heap.size 0 1 1 [En.row ⟨a0, a1, a2, a3, a4, a5, a6, a7, a8⟩] rfl (one_rws 9 25 X _ rfl (row_one9 ⟨a0, a1, a2, a3, a4, a5, a6, a7, a8⟩)) (by omega) (by omega) (Nat.le_trans (Nat.succ_le_succ hsx) (by simp)) ?_
                 intro v5 X5 hown5 hg5
                 rw [← HT.out] at hown5
                 obtain ⟨A5, n5, c5, rfl, -⟩ := own_ens hown5
                 have b5 : Boxed X5 w.heap.size 27 v := (P1.out.alloc (.cells (En.row ⟨a0, a1, a2, a3, a4, a5, a6, a7, a8⟩).toArray 25)).kept hg5 (fun e => by have := (P2.out.size _ e.symm).1; omega)
                 have y5 := b5.cell
                 have f5 := b5.frozen
                 have B5 := Lib.hid b5
                 have HO5 := Lib.hid hown5
                 have HG5 := Lib.hid hg5
                 clear hown5 hg5 b5)
    have hk5 : KeepsOthers X X5 := (KeepsOthers.alloc X (.cells (En.row ⟨a0, a1, a2, a3, a4, a5, a6, a7, a8⟩).toArray 25)).trans (ownR_keeps (P2.out.more _) HG5.out)
    have hb5 : Below w.heap.size X X5 := ((Below.refl w.heap.size X).alloc (by omega) (.cells (En.row ⟨a0, a1, a2, a3, a4, a5, a6, a7, a8⟩).toArray 25)).grown HG5.out (by simp; omega) (fun g e => by have := (P2.out.size g e).1; omega)
    have hx5 : ∀ b, b < W0.heap.size + 1 + 1 + 1 → b < X.heap.size → X5.heap[b]? = X.heap[b]? := fun b h1 h2 =>
      (HG5.out.block b (by simp; omega) (fun e => by have := (P2.out.size b e.symm).1; omega)).trans (Below.heap_alloc X _ b h2)
    refine ⟨(hk5.trans (KeepsOthers.setCell _ _ _)).from _, ⟨hb5.setCell (p := ⟨w.heap.size, 0, none⟩) (Nat.le_refl _) _, fun b hb o ho => ?_⟩, ⟨_, B5.out.set _, ownR_set HO5.out (by omega)⟩, P3.out.trans (hb5.setCell (p := ⟨w.heap.size, 0, none⟩) (Nat.le_refl _) _)⟩
    have hbl := (Array.getElem?_eq_some_iff.1 ho).1
    simp only [List.mem_cons, List.not_mem_nil, or_false] at hb
    exact (Below.heap_setCell _ _ _ _ (by simp only; omega)).trans ((hx5 b (by omega) hbl).trans ho)
  case done =>
    rintro D X hD ⟨⟨v, p1, p2⟩, p3⟩ hDD
    have y1 := p1.cell
    rw [List.take_length] at p2
    obtain ⟨A5, n5, c5, rfl, hen⟩ := own_ens (ownR_turn p2 (grownBy_putObj' X D (.deferred none)) (fun r e => by cases e; exact ⟨_, hDD, rfl⟩))
    have hbl := p3.grown (grownBy_putObj' X D (.deferred none)) p3.size (fun r e => by cases e; omega)
    gi_wp2
    refine ⟨by simp, .inl ⟨_, _, rfl, run_takeDeferred hDD, ?_⟩⟩
    exact ⟨_, results_tmp rfl _ _ _, A5, n5, c5, rfl, by rw [HLE.out]; exact hen, hbl⟩
end Go.Proofs.Ytfjiefhicjnnnaa
