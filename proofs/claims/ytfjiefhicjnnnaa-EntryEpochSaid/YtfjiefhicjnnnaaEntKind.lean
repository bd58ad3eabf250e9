/- Those of a kind, handed on one by one, out of whatever is handed over. -/
import Derived.Test.YtfjiefhicjnnnaaEntIter
namespace Go.Proofs.Ytfjiefhicjnnnaa
set_option linter.unusedVariables false
set_option linter.unusedSimpArgs false
open Go.RowKit Go.Shelf
attribute [local go_sem] Oper.semAt_some

theorem of_at {m : List En} {k : Nat} {u : En} {kind : Int} (h : m[k]? = some u) (hk : (u.kind == kind) = true) : (ofE (m.take k) kind).length < (ofE m kind).length ∧ (ofE m kind).getD (ofE (m.take k) kind).length En.zero = u ∧ (ofE (m.take (k + 1)) kind).length = (ofE (m.take k) kind).length + 1 := by
  have h1 := of_take h kind
  rw [if_pos hk] at h1
  have h2 : ofE m kind = ofE (m.take k) kind ++ u :: ofE (m.drop (k + 1)) kind := by
    have h3 : ofE m kind = ofE (m.take (k + 1)) kind ++ ofE (m.drop (k + 1)) kind := by
      unfold ofE
      rw [← List.filter_append, List.take_append_drop]
    rw [h3, h1, List.append_assoc]
    rfl
  refine ⟨by rw [h2]; simp, by rw [h2]; simp [List.getD_eq_getElem?_getD], by rw [h1]; simp⟩
theorem of_not {m : List En} {k : Nat} {u : En} {kind : Int} (h : m[k]? = some u) (hk : (u.kind == kind) = false) : (ofE (m.take (k + 1)) kind).length = (ofE (m.take k) kind).length := by
  rw [of_take h kind, hk]
  simp
theorem cells_own {b l : Nat} {X : World} {cs : Array Value} {t : TypeId} {o : Obj} (hb : X.heap[b]? = some (.cells cs t (0, 0))) (hl : X.heap[l]? = some o) (hc : o.isCells = false) : b ≠ l := by
  rintro rfl
  rw [hb] at hl
  cases hl
  cases hc
set_option maxRecDepth 100000 in
set_option maxHeartbeats 2000000 in
theorem kind_hands (gf : Nat) (lb : Array Value) (ix : Nat → Int) (m : List En) (kind : Int) (B1 B2 : Nat) (bs : List Nat) (wb w0 w1 : World) (eg : ∀ args w, (callFunc gf args).run Try.prog w = .ok (.enter gf args) w)
    (hin : HandsC Try.prog gf lb (pairV ix m) m.length (fun _ => KeepB wb.heap.size bs) w0) (hb0 : wb.heap.size ≤ w0.heap.size) (hbs : ∀ b ∈ bs, b < w1.heap.size) (h01 : Below w0.heap.size w0 w1) (h1 : w1.cell? ⟨B1, 0, none⟩ = some (.func (.func gf) #[] lb)) (h2 : Boxed w1 B2 3 (.int .i64 kind)) :
    HandsC Try.prog 39 #[.pointer (some ⟨B1, 0, none⟩), .pointer (some ⟨B2, 0, none⟩)] (fun k => #[enV ((ofE m kind).getD k En.zero)]) (ofE m kind).length (fun g => KeepB wb.heap.size (g :: B2 :: bs)) w1 := by
  intro n L J Jx W hW hJ hJx hY h0
  have hb1 := (hW.cell (p := ⟨B1, 0, none⟩) (block_lt_of_cell h1)).trans h1
  have hb1 := ((one_alloc W (.cells #[.func (.yield L) #[] #[]] 33)).cell (p := ⟨B1, 0, none⟩) (block_lt_of_cell hb1)).trans hb1
  have HW := Lib.hid hW
  have h2W : Boxed W B2 3 (.int .i64 kind) := (hW.block B2 h2.lt).trans h2
  have HY := Lib.hid hY
  refine callsIn_of_wp_marks Try.func39 rfl trivial ?_ rfl
  simp only [Try.ntmps39, List.size_toArray, List.length_cons, List.length_nil, Nat.reduceAdd, Nat.reduceSub, Array.replicate_succ, Array.replicate_zero, List.push_toArray, List.append_toArray, List.nil_append, List.cons_append]
  gi_wp2
  have bY := Boxed.new W 33 (.func (.yield L) #[] #[])
  have hBa : Below w1.heap.size w1 (W.alloc (.cells #[.func (.yield L) #[] #[]] 33)) := hW.alloc hW.size _
  have h2a := h2W.alloc (.cells #[.func (.yield L) #[] #[]] 33)
  have hJa : J 0 (W.alloc (.cells #[.func (.yield L) #[] #[]] 33)) := hJ.alloc _ h0
  have hsz : (W.alloc (.cells #[.func (.yield L) #[] #[]] 33)).heap.size = W.heap.size + 1 := by simp
  obtain ⟨Wa, hWa⟩ : ∃ Wa, W.alloc (.cells #[.func (.yield L) #[] #[]] 33) = Wa := ⟨_, rfl⟩
  rw [hWa] at bY hBa hJa hsz h2a ⊢
  clear hWa hb1
  have hwb : wb.heap.size ≤ W.heap.size := Nat.le_trans hb0 (Nat.le_trans h01.size hW.size)
  have hw0 : w0.heap.size ≤ W.heap.size := Nat.le_trans h01.size hW.size
  refine range_c (w0 := w0) (gf := gf) (lb := lb) rfl eg hin (h01.trans (hBa.mono h01.size)) (fun _ => rfl) (fun h k => h.trans k) (fun X o o' hx hc hw => KeepB.put o' hx (by omega) (fun b hb => by have := hbs b hb; have := hW.size; omega))
    (fun k X => J (ofE (m.take k) kind).length X ∧ Boxed X W.heap.size 33 (.func (.yield L) #[] #[]) ∧ Boxed X B2 3 (.int .i64 kind)) ?hI Jx ?hIx ⟨hJa, bY, h2a⟩
    (fun k a' X => ∃ b, X.heap[b]? = some (.cells (enA (m.getD k En.zero)) 25 (0, 0)) ∧ a' = { tmps := #[.func (.yield L) #[] #[], .pointer (some ⟨B1, 0, none⟩), .pointer (some ⟨B2, 0, none⟩), .pointer (some ⟨W.heap.size, 0, none⟩), undef, .pointer (some ⟨b, 0, none⟩), .func (.func gf) #[] lb, .int .i64 (ix k), enV (m.getD k En.zero), undef, undef, undef, undef, undef, undef, undef, undef, undef, undef], defers := [] }) ?hAx ?assign ?body ?done ?stop
  case hI =>
    rintro k X Y row ⟨s1, s2, s3⟩ hg hr
    refine ⟨hJ _ X Y row s1 hg (fun r e => ⟨by have := (hr r e).1; omega, (hr r e).2⟩), s2.kept hg (fun e => ?_), s3.kept hg (fun e => ?_)⟩
    · obtain ⟨_, o, ho, hc⟩ := hr _ e.symm
      exact cells_own s2 ho hc rfl
    · obtain ⟨_, o, ho, hc⟩ := hr _ e.symm
      exact cells_own s3 ho hc rfl
  case hIx =>
    intro u X Y row s1 hg hr
    exact hJx u X Y row s1 hg (fun r e => ⟨by have := (hr r e).1; omega, (hr r e).2⟩)
  case hAx =>
    rintro k a' u X Y row ⟨b, hb, rfl⟩ hg hr
    refine ⟨b, (hg.block b (Array.getElem?_eq_some_iff.1 hb).1 (fun e => ?_)).trans hb, rfl⟩
    obtain ⟨_, o, ho, hc⟩ := hr _ e.symm
    exact cells_own hb ho hc rfl
  case assign =>
    intro l k X K hk hsx ⟨s1, s2, s3⟩ hK
    have hK2 := hK { tmps := #[.func (.yield L) #[] #[], .pointer (some ⟨B1, 0, none⟩), .pointer (some ⟨B2, 0, none⟩), .pointer (some ⟨W.heap.size, 0, none⟩), undef, .pointer (some ⟨X.heap.size, 0, none⟩), .func (.func gf) #[] lb, .int .i64 (ix k), enV (m.getD k En.zero), undef, undef, undef, undef, undef, undef, undef, undef, undef, undef], defers := [] } (X.alloc (.cells (enA (m.getD k En.zero)) 25))
      ((KeepsOthers.alloc _ _).from _) (KeepB.alloc _ _ _ _ (by omega)) ⟨hJ.alloc _ s1, s2.alloc _, s3.alloc _⟩ ⟨X.heap.size, heap_alloc_new X _, rfl⟩
    unfold pairV
    dsimp only
    obtain ⟨⟨a0, a1, a2, a3, a4, a5, a6, a7, a8⟩, hu⟩ : ∃ u, m.getD k En.zero = u := ⟨_, rfl⟩
    rw [hu] at hK2 ⊢
    simp only [enV, enA, En.row] at hK2 ⊢
    have HK2 := Lib.hid hK2
    clear hK2 hK
    gi_wp2
    exact HK2.out
  case body =>
    rintro l k a' X hk hsx ⟨s1, s2, s3⟩ ⟨b, hb, rfl⟩
    obtain ⟨u, hu⟩ : ∃ u, m[k]? = some u := ⟨_, List.getElem?_eq_getElem hk⟩
    have hgu : m.getD k En.zero = u := by rw [List.getD_eq_getElem?_getD, hu]; rfl
    rw [hgu] at hb ⊢
    obtain ⟨z0, z1, z2, z3, z4, z5, z6, z7, z8⟩ := (BoxE.mk hb).cells
    have y1 := s2.cell
    have y2 := s3.cell
    cases hkk : (u.kind == kind) with
    | true =>
      obtain ⟨k1, k2, k3⟩ := of_at hu hkk
      have hy0 := yield_any (n - 1 - 1 - 1) (HY.out _ X k1 s1)
      rw [k2, ← k3] at hy0
      have HS2 := Lib.hid s2
      have HS3 := Lib.hid s3
      rcases u with ⟨a0, a1, a2, a3, a4, a5, a6, a7, a8⟩
      simp only at z0 z1 z2 z3 z4 z5 z6 z7 z8 hkk
      simp only [enV, enA, En.row] at hy0 ⊢
      obtain ⟨fn, tmps, assign, body, hy, hR⟩ := hy0
      have HR := Lib.hid hR
      clear hR k1 k2 k3 s1 s2 s3 hu hgu
      gi_wp2
      refine ⟨(fun h => by simp [Fence.wide] at h), HR.out.mono ?_⟩
      rintro e X3 (⟨rfl, hJ3, hk3, hf3⟩ | ⟨rfl, hJx3, hf3⟩)
      · have HP := Lib.hid (show KeepsFrom Wa.heap.size X X3 ∧ KeepB wb.heap.size bs X X3 ∧ J _ X3 ∧ Boxed X3 W.heap.size 33 (.func (.yield L) #[] #[]) ∧ Boxed X3 B2 3 (.int .i64 kind) from ⟨keepsFrom_lift hf3 (by omega), hk3.less (fun b hb => by simp [hb]), hJ3, hk3.2 _ (by simp) _ HS2.out, hk3.2 _ (by simp) _ HS3.out⟩)
        clear hJ3 hk3 hf3 hy HR
        gi_wp2
        exact HP.out
      · have HP := Lib.hid (show KeepsFrom Wa.heap.size X X3 ∧ Jx X3 from ⟨keepsFrom_lift hf3 (by omega), hJx3⟩)
        clear hJx3 hf3 hy HR
        gi_wp2
        exact HP.out
    | false =>
      have h3 := of_not hu hkk
      rw [← h3] at s1
      have HS1 := Lib.hid s1
      have HS2 := Lib.hid s2
      have HS3 := Lib.hid s3
      rcases u with ⟨a0, a1, a2, a3, a4, a5, a6, a7, a8⟩
      simp only at z0 z1 z2 z3 z4 z5 z6 z7 z8 hkk
      clear h3 s1 s2 s3 hu hgu
      gi_wp2
      refine ⟨fun f h => (by cases h), ?_⟩
      gi_wp2
      exact ⟨KeepsFrom.refl _ _, KeepB.refl _ _ _, HS1.out, HS2.out, HS3.out⟩
  case done =>
    rintro D X hD ⟨s1, -, -⟩ hDD
    rw [List.take_length] at s1
    have hJD := hJ.putObj (.deferred none) s1 (by omega) hDD rfl
    gi_wp2
    refine ⟨by simp, .inl ⟨_, _, rfl, run_takeDeferred hDD, ?_⟩⟩
    exact ⟨_, results_none rfl _ _ _, ⟨_, rfl⟩, .inl hJD⟩
  case stop =>
    rintro D X hD s1 hDD
    have hJD := hJx.putObj (s := ()) (.deferred none) s1 (by omega) hDD rfl
    gi_wp2
    refine ⟨by simp, .inl ⟨_, _, rfl, run_takeDeferred hDD, ?_⟩⟩
    exact ⟨_, results_none rfl _ _ _, ⟨_, rfl⟩, .inr hJD⟩
end Go.Proofs.Ytfjiefhicjnnnaa
