/- slices.Collect of what is handed on, one by one. -/
import Derived.Test.YtlejeecnkbapmaaGrpIter
import Derived.Test.YtlejeecnkbapmaaBasFenceR
namespace Go.Proofs.Ytlejeecnkbapmaa
set_option maxRecDepth 100000
set_option linter.unusedVariables false
set_option linter.unusedSimpArgs false
open Go.RowKit Go.Shelf
attribute [local go_sem] Oper.semAt_some

theorem ownI_turn {K : IntKind} {e : TypeId} {X Y : World} {base : Nat} {v : Value} {l : List Int} {row : Option Nat} (h : OwnI K e X base v l) (hg : X.grownBy Y row) (hr : ∀ r, row = some r → ∃ o : Obj, X.heap[r]? = some o ∧ o.isCells = false) : OwnI K e Y base v l := by
  refine h.far hg ?_
  rcases h.2 with ⟨hv, _⟩ | ⟨g, cap, cur, hv, _, hh, _⟩
  · left; rw [hv]; rfl
  · right
    rw [hv]
    intro e2
    obtain ⟨o, ho, hc⟩ := hr g e2.symm
    exact block_ne hh rfl ho hc rfl
def GathInv (L : List Int) (w : World) (base : Nat) (k : Nat) (X : World) : Prop :=
  (∃ v, Boxed X w.heap.size 22 v ∧ OwnI .i64 3 X base v (L.take k)) ∧ Below w.heap.size w X
set_option maxHeartbeats 2000000 in
theorem gather_any (gf : Nat) (lb : Array Value) (L : List Int) (n0 : Nat) (bs : List Nat) (w : World) (hLl : L.length ≤ 1000000) (hn0 : n0 ≤ w.heap.size) (hbs : ∀ b ∈ bs, b < w.heap.size) (eg : ∀ args w, (callFunc gf args).run Try.prog w = .ok (.enter gf args) w)
    (hin : HandsC Try.prog gf lb (fun k => #[.int .i64 (L.getD k 0)]) L.length (fun _ => KeepB n0 bs) w) :
    Calls Try.prog 29 #[.slice none 0 0, .func (.func gf) #[] lb] w (GivesL L w) := by
  refine (callsIn_wide (n := 9)).1 ?_
  refine callsIn_of_wp_marks Try.func29 rfl trivial ?_ rfl
  simp only [Try.ntmps29, List.size_toArray, List.length_cons, List.length_nil, Nat.reduceAdd, Nat.reduceSub, Array.replicate_succ, Array.replicate_zero, List.push_toArray, List.append_toArray, List.nil_append, List.cons_append]
  gi_wp2
  have o1 := Boxed.new w 22 (.slice none 0 0)
  obtain ⟨W0, hW0⟩ : ∃ W0, w.alloc (.cells #[.slice none 0 0] 22) = W0 := ⟨_, rfl⟩
  have s1 : W0.heap.size = w.heap.size + 1 := by rw [← hW0]; simp
  have hB0 : Below w.heap.size w W0 := by rw [← hW0]; exact one_alloc w _
  rw [hW0] at o1 ⊢
  clear hW0
  refine range_c (w0 := w) (gf := gf) (lb := lb) rfl eg hin hB0 (fun _ => rfl) (fun h k => h.trans k)
    (fun X o o' hx hc hw => KeepB.put o' hx (by omega) (fun b hb => by have := hbs b hb; omega))
    (GathInv L w (W0.heap.size + 1 + 1 + 1)) ?hI (fun _ => False) (fun _ _ _ _ h _ _ => h) ⟨⟨_, o1, by rw [List.take_zero]; exact OwnI.nil _ _ _ _⟩, hB0⟩
    (fun k a' X => a' = { tmps := #[.slice none 0 0, .func (.func gf) #[] lb, .pointer (some ⟨w.heap.size, 0, none⟩), undef, .slice none 0 0, .int .i64 (L.getD k 0), .func (.func gf) #[] lb, .int .i64 (L.getD k 0), undef, undef, undef, undef, undef], defers := [] }) (fun _ _ _ _ _ _ h _ _ => h) ?assign ?body ?done (fun _ _ _ h _ => h.elim)
  case hI =>
    rintro k X Y row ⟨⟨v, p1, p2⟩, p3⟩ hg hr
    exact ⟨⟨v, boxed_turn p1 hg (fun r e => (hr r e).2), ownI_turn p2 hg (fun r e => (hr r e).2)⟩, p3.grown hg p3.size (fun r e => by have := (hr r e).1; omega)⟩
  case assign =>
    rintro x k X K hk hsx p hK
    have hK2 := hK _ X (KeepsFrom.refl _ _) (KeepB.refl _ _ _) p rfl
    have HK2 := Lib.hid hK2
    obtain ⟨v, hv⟩ : ∃ v, L.getD k 0 = v := ⟨_, rfl⟩
    rw [hv] at HK2 ⊢
    clear hK2 hK hv
    gi_wp2
    exact HK2.out
  case body =>
    rintro x k a' X hk hsx ⟨⟨v, p1, p2⟩, p3⟩ rfl
    have htk : L.take (k + 1) = L.take k ++ [L.getD k 0] := by
      rw [List.take_succ_eq_append_getElem hk]
      simp [List.getD_eq_getElem?_getD, hk]
    have hkl : (L.take k).length ≤ 1000000 := by rw [List.length_take]; omega
    obtain ⟨R, hR⟩ : ∃ R, L.take k = R := ⟨_, rfl⟩
    obtain ⟨y, hy⟩ : ∃ y, L.getD k 0 = y := ⟨_, rfl⟩
    rw [hR, hy] at htk
    rw [hR] at hkl p2
    rw [hy]
    have y1 := p1.cell
    have y2 := p1.frozen
    have HT := Lib.hid htk
    have P1 := Lib.hid p1
    have P2 := Lib.hid p2
    have P3 := Lib.hid p3
    have hwX : w.heap.size < X.heap.size := p1.lt
    clear htk hR hy p1 p2 p3
    gi_wp2_with (gi_at_builtin
                 refine wpListIn_append_i rfl 22 3 .i64 8 _ _ rfl Try.underlying22 (by kernel_rfl) (by omega) (W0.heap.size + 1 + 1 + 1) v R rfl (P2.out.more _) ⟨X.heap.size, 0, none⟩ 1 1 [y] rfl (one_its .i64 3 X y) (by omega) (Nat.le_trans (Nat.succ_le_succ hsx) (by simp)) ?_
                 intro v5 X5 hown5 hg5
                 rw [← HT.out] at hown5
                 obtain ⟨A5, n5, c5, rfl, -⟩ := hown5.its
                 have b5 : Boxed X5 w.heap.size 22 v := (P1.out.alloc (.cells #[.int .i64 y] 3)).kept hg5 (fun e => by have := (P2.out.size _ e.symm).1; omega)
                 have y5 := b5.cell
                 have f5 := b5.frozen
                 have B5 := Lib.hid b5
                 have HO5 := Lib.hid hown5
                 have HG5 := Lib.hid hg5
                 clear hown5 hg5 b5)
    have hk5 : KeepsOthers X X5 := (KeepsOthers.alloc X (.cells #[.int .i64 y] 3)).trans (others_grown (P2.out.more _) HG5.out)
    have hb5 : Below w.heap.size X X5 := ((Below.refl w.heap.size X).alloc (by omega) (.cells #[.int .i64 y] 3)).grown HG5.out (by simp; omega) (fun g e => by have := (P2.out.size g e).1; omega)
    have hx5 : ∀ b, b < W0.heap.size + 1 + 1 + 1 → b < X.heap.size → X5.heap[b]? = X.heap[b]? := fun b h1 h2 =>
      (HG5.out.block b (by simp; omega) (fun e => by have := (P2.out.size b e.symm).1; omega)).trans (Below.heap_alloc X _ b h2)
    have hb0 : Below n0 X X5 := hb5.mono hn0
    refine ⟨(hk5.trans (KeepsOthers.setCell _ _ _)).from _, ⟨hb0.setCell (p := ⟨w.heap.size, 0, none⟩) hn0 _, fun b hb o ho => ?_⟩, ⟨_, B5.out.set _, own_set HO5.out (by omega)⟩, P3.out.trans (hb5.setCell (p := ⟨w.heap.size, 0, none⟩) (Nat.le_refl _) _)⟩
    have hbl := (Array.getElem?_eq_some_iff.1 ho).1
    have hbw := hbs b hb
    exact (Below.heap_setCell _ _ _ _ (by simp only; omega)).trans ((hx5 b (by omega) hbl).trans ho)
  case done =>
    rintro D X hD ⟨⟨v, p1, p2⟩, p3⟩ hDD
    have y1 := p1.cell
    rw [List.take_length] at p2
    obtain ⟨A5, n5, c5, rfl, hen⟩ := (ownI_turn p2 (grownBy_putObj' X D (.deferred none)) (fun r e => by cases e; exact ⟨_, hDD, rfl⟩)).its
    have hbl := p3.grown (grownBy_putObj' X D (.deferred none)) p3.size (fun r e => by cases e; omega)
    gi_wp2
    refine ⟨by simp, .inl ⟨_, _, rfl, run_takeDeferred hDD, ?_⟩⟩
    exact ⟨_, results_tmp rfl _ _ _, A5, n5, c5, rfl, hen, hbl⟩
end Go.Proofs.Ytlejeecnkbapmaa
