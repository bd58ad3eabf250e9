/- The walk over package entry's Epoch: the first start from behind. -/
import Derived.Test.YtfjiefhicjnnnaaEntOf
namespace Go.Proofs.Ytfjiefhicjnnnaa
set_option linter.unusedVariables false
set_option linter.unusedSimpArgs false
open Go.RowKit Go.Shelf
attribute [local go_sem] Oper.semAt_some

theorem epoch_first {l : List En} (h : 0 < (ofE l.reverse 0).length) : epochE l = ((ofE l.reverse 0).getD 0 En.zero).epoch := by
  rw [epoch_back]
  cases hm : ofE l.reverse 0 with
  | nil => rw [hm] at h; simp at h
  | cons u m => rfl
theorem epoch_none {l : List En} (h : (ofE l.reverse 0).length = 0) : epochE l = 0 := by
  rw [epoch_back, List.eq_nil_of_length_eq_zero h]
  rfl
def EpInv (w : World) (x : Int) (X : World) : Prop := Boxed X w.heap.size 3 (.int .i64 x) ∧ Below w.heap.size w X
theorem epInv_turn {w X Y : World} {x : Int} {row : Option Nat} (h : EpInv w x X) (hg : X.grownBy Y row) (hr : ∀ r, row = some r → w.heap.size ≤ r ∧ ∃ o : Obj, X.heap[r]? = some o ∧ o.isCells = false) : EpInv w x Y :=
  ⟨boxed_turn h.1 hg (fun r e => (hr r e).2), h.2.grown hg h.2.size (fun r e => (hr r e).1)⟩
set_option maxRecDepth 100000 in
set_option maxHeartbeats 2000000 in
theorem eepoch_any (A : Option Addr) (n c : Nat) (l : List En) (w : World) (hl : Ens w A n c l) :
    Calls Try.prog 20 #[.slice A n c] w (GI (epochE l) w) := by
  have hn := hl.small
  have hll := hl.len
  refine (callsIn_wide (n := 9)).1 ?_
  refine callsIn_of_wp_marks Try.func20 rfl trivial ?_ rfl
  simp only [Try.ntmps20, List.size_toArray, List.length_cons, List.length_nil, Nat.reduceAdd, Nat.reduceSub, Array.replicate_succ, Array.replicate_zero, List.push_toArray, List.append_toArray, List.nil_append, List.cons_append]
  gi_wp2_with (first
    | (refine ⟨trivial, ?_⟩; gi_at_call 33; refine (callsIn_wide.2 (backward_any _ _ _ _)).mono ?_; rintro e w1 ⟨rfl, rfl⟩)
    | (refine ⟨trivial, ?_⟩; gi_at_call 29; refine (callsIn_wide.2 (ofKind_any _ _ _ _)).mono ?_; rintro e w2 ⟨rfl, rfl⟩))
  have o1 := Boxed.new w 3 (.int .i64 0)
  obtain ⟨V1, hV1⟩ : ∃ V1, w.alloc (.cells #[.int .i64 0] 3) = V1 := ⟨_, rfl⟩
  have s1 : V1.heap.size = w.heap.size + 1 := by rw [← hV1]; simp
  rw [hV1] at o1 ⊢
  have o2 := Boxed.new V1 27 (.slice A n c)
  obtain ⟨V2, hV2⟩ : ∃ V2, V1.alloc (.cells #[.slice A n c] 27) = V2 := ⟨_, rfl⟩
  have s2 : V2.heap.size = w.heap.size + 1 + 1 := by rw [← hV2]; simp [s1]
  rw [s1] at o2
  have o1 := o1.alloc (.cells #[.slice A n c] 27)
  rw [hV2] at o1 o2 ⊢
  have o3 := Boxed.new V2 60 (.func (.func 41) #[] #[.pointer (some ⟨w.heap.size + 1, 0, none⟩)])
  obtain ⟨V3, hV3⟩ : ∃ V3, V2.alloc (.cells #[.func (.func 41) #[] #[.pointer (some ⟨w.heap.size + 1, 0, none⟩)]] 60) = V3 := ⟨_, rfl⟩
  have s3 : V3.heap.size = w.heap.size + 1 + 1 + 1 := by rw [← hV3]; simp [s2]
  rw [s2] at o3
  have o1 := o1.alloc (.cells #[.func (.func 41) #[] #[.pointer (some ⟨w.heap.size + 1, 0, none⟩)]] 60)
  have o2 := o2.alloc (.cells #[.func (.func 41) #[] #[.pointer (some ⟨w.heap.size + 1, 0, none⟩)]] 60)
  rw [hV3] at o1 o2 o3 ⊢
  have o4 := Boxed.new V3 3 (.int .i64 0)
  obtain ⟨W0, hW0⟩ : ∃ W0, V3.alloc (.cells #[.int .i64 0] 3) = W0 := ⟨_, rfl⟩
  have s4 : W0.heap.size = w.heap.size + 4 := by rw [← hW0]; simp [s3]
  rw [s3] at o4
  have o1 := o1.alloc (.cells #[.int .i64 0] 3)
  have o2 := o2.alloc (.cells #[.int .i64 0] 3)
  have o3 := o3.alloc (.cells #[.int .i64 0] 3)
  have hB0 : Below w.heap.size w W0 := by
    rw [← hW0, ← hV3, ← hV2, ← hV1]
    exact (((one_alloc w _).alloc (by simp) _).alloc (by simp; omega) _).alloc (by simp; omega) _
  rw [hW0] at o1 o2 o3 o4 ⊢
  clear hV1 hV2 hV3 hW0 s1 s2 s3
  have hin := back_hands A n c l (w.heap.size + 1) w W0 hl hB0 o2
  have hrl : l.reverse.length = n := by rw [List.length_reverse, hll]
  have hin2 : HandsC Try.prog 41 #[.pointer (some ⟨w.heap.size + 1, 0, none⟩)] (pairV (fun k => (n : Int) - 1 - k) l.reverse) l.reverse.length (fun _ => KeepB w.heap.size [w.heap.size + 1]) W0 := by rw [hrl]; exact hin
  have hks := kind_hands 41 _ _ l.reverse 0 (w.heap.size + 1 + 1) (w.heap.size + 1 + 1 + 1) [w.heap.size + 1] w W0 W0 (enters_of Try.func41 (by kernel_rfl) rfl) hin2 hB0.size (fun b hb => by simp only [List.mem_cons, List.not_mem_nil, or_false] at hb; omega) (Below.refl _ _) o3.cell o4
  have HEF := Lib.hid (epoch_first (l := l))
  have HEN := Lib.hid (epoch_none (l := l))
  obtain ⟨L, hL⟩ : ∃ L, ofE l.reverse 0 = L := ⟨_, rfl⟩
  rw [hL] at hks HEF HEN
  obtain ⟨E, hE⟩ : ∃ E, epochE l = E := ⟨_, rfl⟩
  rw [hE] at HEF HEN
  have HE := Lib.hid hE
  clear hin hin2 hL hE hrl
  refine range_c (w0 := W0) (gf := 39) (lb := #[.pointer (some ⟨w.heap.size + 1 + 1, 0, none⟩), .pointer (some ⟨w.heap.size + 1 + 1 + 1, 0, none⟩)]) rfl (enters_of Try.func39 (by kernel_rfl) rfl) hks (Below.refl _ _) (fun _ => rfl) (fun h k => h.trans k)
    (fun X o o' hx hc hw => KeepB.put o' hx (by omega) (fun b hb => by simp only [List.mem_cons, List.not_mem_nil, or_false] at hb; omega))
    (fun k X => k = 0 ∧ EpInv w 0 X) ?hI (EpInv w E) ?hIx ⟨rfl, o1, hB0⟩
    (fun k a' X => ∃ b, X.heap[b]? = some (.cells (enA (L.getD k En.zero)) 25 (0, 0)) ∧ a' = { tmps := #[.slice A n c, undef, .pointer (some ⟨w.heap.size, 0, none⟩), .pointer (some ⟨b, 0, none⟩), .slice A n c, .func (.func 41) #[] #[.pointer (some ⟨w.heap.size + 1, 0, none⟩)], .func (.func 39) #[] #[.pointer (some ⟨w.heap.size + 1 + 1, 0, none⟩), .pointer (some ⟨w.heap.size + 1 + 1 + 1, 0, none⟩)], enV (L.getD k En.zero), undef, undef], defers := [] }) ?hAx ?assign ?body ?done ?stop
  case hI =>
    rintro k X Y row ⟨hk, p⟩ hg hr
    exact ⟨hk, epInv_turn p hg (fun r e => ⟨by have := (hr r e).1; omega, (hr r e).2⟩)⟩
  case hIx =>
    intro u X Y row p hg hr
    exact epInv_turn p hg (fun r e => ⟨by have := (hr r e).1; omega, (hr r e).2⟩)
  case hAx =>
    rintro k a' u X Y row ⟨b, hb, rfl⟩ hg hr
    refine ⟨b, (hg.block b (Array.getElem?_eq_some_iff.1 hb).1 (fun e => ?_)).trans hb, rfl⟩
    obtain ⟨_, o, ho, hc⟩ := hr _ e.symm
    exact cells_own hb ho hc rfl
  case assign =>
    rintro x k X K hk hsx ⟨hk0, p1, p2⟩ hK
    have hK2 := hK { tmps := #[.slice A n c, undef, .pointer (some ⟨w.heap.size, 0, none⟩), .pointer (some ⟨X.heap.size, 0, none⟩), .slice A n c, .func (.func 41) #[] #[.pointer (some ⟨w.heap.size + 1, 0, none⟩)], .func (.func 39) #[] #[.pointer (some ⟨w.heap.size + 1 + 1, 0, none⟩), .pointer (some ⟨w.heap.size + 1 + 1 + 1, 0, none⟩)], enV (L.getD k En.zero), undef, undef], defers := [] } (X.alloc (.cells (enA (L.getD k En.zero)) 25))
      ((KeepsOthers.alloc _ _).from _) (KeepB.alloc _ _ _ _ (by omega)) ⟨hk0, p1.alloc _, p2.alloc p2.size _⟩ ⟨X.heap.size, heap_alloc_new X _, rfl⟩
    obtain ⟨⟨a0, a1, a2, a3, a4, a5, a6, a7, a8⟩, hu⟩ : ∃ u, L.getD k En.zero = u := ⟨_, rfl⟩
    rw [hu] at hK2 ⊢
    simp only [enV, enA, En.row] at hK2 ⊢
    have HK2 := Lib.hid hK2
    clear hK2 hK
    gi_wp2
    exact HK2.out
  case body =>
    rintro x k a' X hk hsx ⟨rfl, p1, p2⟩ ⟨b, hb, rfl⟩
    have hE2 := HEF.out hk
    obtain ⟨⟨a0, a1, a2, a3, a4, a5, a6, a7, a8⟩, hu⟩ : ∃ u, L.getD 0 En.zero = u := ⟨_, rfl⟩
    rw [hu] at hb hE2 ⊢
    obtain ⟨z0, z1, z2, z3, z4, z5, z6, z7, z8⟩ := (BoxE.mk hb).cells
    simp only at z0 z1 z2 z3 z4 z5 z6 z7 z8 hE2
    have y1 := p1.cell
    have y2 := p1.frozen
    rw [← hE2] at z2
    have P1 := Lib.hid p1
    have P2 := Lib.hid p2
    clear hb hu p1 p2 hE2
    gi_wp2
    exact ⟨(KeepsOthers.setCell _ _ _).from _, P1.out.set _, P2.out.setCell (p := ⟨w.heap.size, 0, none⟩) (Nat.le_refl _) _⟩
  case done =>
    rintro D X hD ⟨hk0, p1, p2⟩ hDD
    have hE0 : (0 : Int) = epochE l := by rw [HE.out, HEN.out hk0]
    have y1 := p1.cell
    have y2 := p1.frozen
    have hd2 : (X.setCell ⟨w.heap.size, 0, none⟩ (.int .i64 0)).heap[D]? = some (.deferred (some [])) := (KeepsOthers.setCell _ _ _).same D _ hDD rfl
    have p3 : EpInv w 0 (X.setCell ⟨w.heap.size, 0, none⟩ (.int .i64 0)) := ⟨p1.set _, p2.setCell (p := ⟨w.heap.size, 0, none⟩) (Nat.le_refl _) _⟩
    obtain ⟨q1, q2⟩ := epInv_turn p3 (grownBy_putObj' _ D (.deferred none)) (fun r e => by cases e; exact ⟨by omega, _, hd2, rfl⟩)
    have hc5 := q1.cell
    have HE0 := Lib.hid hE0
    clear hE0 hk0
    gi_wp2
    refine ⟨by simp, .inl ⟨_, _, rfl, run_takeDeferred hd2, ?_⟩⟩
    refine ⟨.int .i64 0, ?_, congrArg (fun i => Ending.returned (Value.int .i64 i)) HE0.out, q2⟩
    simp [results, Try.results20, go_sem, hc5]
  case stop =>
    rintro D X hD p hDD
    obtain ⟨q1, q2⟩ := epInv_turn p (grownBy_putObj' _ D (.deferred none)) (fun r e => by cases e; exact ⟨by omega, _, hDD, rfl⟩)
    have hc5 := q1.cell
    gi_wp2
    refine ⟨by simp, .inl ⟨_, _, rfl, run_takeDeferred hDD, ?_⟩⟩
    refine ⟨.int .i64 E, ?_, congrArg (fun i => Ending.returned (Value.int .i64 i)) HE.out.symm, q2⟩
    simp [results, Try.results20, go_sem, hc5]
end Go.Proofs.Ytfjiefhicjnnnaa
