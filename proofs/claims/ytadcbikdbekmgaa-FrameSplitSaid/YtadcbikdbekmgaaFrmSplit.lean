/- The walk over package frame's Split: the frames of bytes, and what is left. -/
import Derived.Test.YtadcbikdbekmgaaFrmIter
import Derived.Test.YtadcbikdbekmgaaBasRows
import Derived.Shelf.RegionOpen
namespace Go.Proofs.Ytadcbikdbekmgaa
set_option linter.unusedVariables false
set_option linter.unusedSimpArgs false
open Go.RowKit Go.Shelf
attribute [local go_sem] Oper.semAt_some

theorem cells_at {w : World} {a : Addr} {v : Value} (h : w.cell? a = some v) : ∃ o : Obj, w.heap[a.block]? = some o ∧ o.isCells = true := cells_of_cell h
theorem other_block {w : World} {b l : Nat} {o o2 : Obj} (hb : w.heap[b]? = some o2) (hc : o2.isCells = true) (hl : w.heap[l]? = some o) (hn : o.isCells = false) : b ≠ l := by
  rintro rfl
  rw [hb] at hl
  cases hl
  rw [hc] at hn
  cases hn
theorem Bts.turned {w : World} {A : Option Addr} {n c l : Nat} {b : List Int} {o : Obj} (o' : Obj) (h : Bts w A n c b) (hl : w.heap[l]? = some o) (hn : o.isCells = false) : Bts (w.putObj l o') A n c b := by
  refine ⟨h.len, h.le, h.max, h.ok, h.bare, fun hn0 => ?_⟩
  obtain ⟨bb, off, hA, hc⟩ := h.at_ hn0
  refine ⟨bb, off, hA, fun j hj => ?_⟩
  obtain ⟨o2, h1, h2⟩ := cells_at (hc j hj)
  rw [World.cell?_of_block (w := w) (a := ⟨bb, off + j, none⟩) (World.putObj_heap_other (other_block h1 h2 hl hn))]
  exact hc j hj
theorem OwnR.turned {e k : Nat} {w : World} {base l : Nat} {v : Value} {rows : List (List Value)} {o : Obj} (o' : Obj) (h : OwnR e k w base v rows) (hl : w.heap[l]? = some o) (hn : o.isCells = false) : OwnR e k (w.putObj l o') base v rows := by
  refine h.far (grownBy_putObj' w l o') ?_
  rcases h.row.2 with ⟨hv, _⟩ | ⟨g, cap, cur, hv, _, hh, _⟩
  · left; rw [hv]; rfl
  · right
    rw [hv]
    intro e
    injection e with e
    exact other_block hh rfl hl hn e
theorem boxed_turned {w : World} {B l : Nat} {t : TypeId} {v : Value} {o : Obj} (o' : Obj) (h : Boxed w B t v) (hl : w.heap[l]? = some o) (hn : o.isCells = false) : Boxed (w.putObj l o') B t v :=
  h.kept (grownBy_putObj' w l o') (fun e => by injection e with e; exact other_block h rfl hl hn e)
/-- a slice, as its three parts -/
abbrev Sl := Option Addr × Nat × Nat
def slV (r : Sl) : Value := .slice r.1 r.2.1 r.2.2
def slR (r : Sl) : List Value := [slV r]
/-- slices of bytes that the call made itself, from B on -/
structure Parts (w : World) (B : Nat) (sl : List Sl) (L : List (List Int)) : Prop where
  len : sl.length = L.length
  own : ∀ i, i < L.length → Own w B (slV (sl.getD i (none, 0, 0))) (L.getD i [])
  ok : ∀ i, ∀ j, 0 ≤ (L.getD i []).getD j 0 ∧ (L.getD i []).getD j 0 < 256
theorem Parts.nil (w : World) (B : Nat) : Parts w B [] [] := ⟨rfl, fun i h => by simp at h, fun i j => by simp⟩
theorem Own.turned {w : World} {base l : Nat} {v : Value} {b : List Int} {o : Obj} (o' : Obj) (h : Own w base v b) (hl : w.heap[l]? = some o) (hn : o.isCells = false) : Own (w.putObj l o') base v b := by
  refine h.far (grownBy_putObj' w l o') ?_
  rcases h.2 with ⟨hv, _⟩ | ⟨g, cap, cur, hv, _, hh, _⟩
  · left; rw [hv]; rfl
  · right
    rw [hv]
    intro e
    injection e with e
    exact other_block hh rfl hl hn e
/-- bytes and rows of slices lie in blocks of two types -/
theorem own_apart {w : World} {B B' : Nat} {u v : Value} {l : List Int} {rows : List (List Value)} (h : Own w B u l) (hr : OwnR 27 1 w B' v rows) : u.ownBlock = none ∨ u.ownBlock ≠ v.ownBlock := by
  rcases h.2 with ⟨hv, _⟩ | ⟨g, cap, cur, hv, _, hh, _⟩
  · left; rw [hv]; rfl
  · rcases hr.row.2 with ⟨hv2, _⟩ | ⟨g2, cap2, cur2, hv2, _, hh2, _⟩
    · right; rw [hv, hv2]; simp [Value.ownBlock]
    · right
      rw [hv, hv2]
      intro e
      have e : g = g2 := by simpa [Value.ownBlock] using e
      subst e
      rw [hh] at hh2
      simp at hh2
theorem Own.under {w : World} {base b : Nat} {u x : Value} {l : List Int} (h : Own w base u l) (hb : b < base) : Own (w.setCell ⟨b, 0, none⟩ x) base u l := by
  refine h.far (grownBy_setCell' w b x) ?_
  cases hu : u.ownBlock with
  | none => exact .inl rfl
  | some g => exact .inr fun e => by injection e with e; have := (h.size g hu).1; omega
theorem OwnR.under {e k : Nat} {w : World} {base b : Nat} {u x : Value} {rows : List (List Value)} (h : OwnR e k w base u rows) (hb : b < base) : OwnR e k (w.setCell ⟨b, 0, none⟩ x) base u rows := by
  refine h.far (grownBy_setCell' w b x) ?_
  cases hu : u.ownBlock with
  | none => exact .inl rfl
  | some g => exact .inr fun e => by injection e with e; have := (h.size g hu).1; omega
theorem OwnR.mono {e k b : Nat} {w : World} {base : Nat} {v : Value} {rows : List (List Value)} (h : OwnR e k w base v rows) (hb : b ≤ base) : OwnR e k w b v rows := by
  refine ⟨⟨h.row.1, ?_⟩, h.wid, h.one⟩
  rcases h.row.2 with h0 | ⟨g, cap, cur, hv, hg, rest⟩
  · exact .inl h0
  · exact .inr ⟨g, cap, cur, hv, Nat.le_trans hb hg, rest⟩
section
variable {w w' : World} {B : Nat} {sl : List Sl} {L : List (List Int)}
theorem Parts.turned {l : Nat} {o : Obj} (o' : Obj) (h : Parts w B sl L) (hl : w.heap[l]? = some o) (hn : o.isCells = false) : Parts (w.putObj l o') B sl L := ⟨h.len, fun i hi => (h.own i hi).turned o' hl hn, h.ok⟩
theorem Parts.below (h : Parts w B sl L) (hb : Below w.heap.size w w') : Parts w' B sl L := ⟨h.len, fun i hi => (h.own i hi).below hb, h.ok⟩
theorem Parts.grown {v : Value} {B' : Nat} {rows : List (List Value)} (h : Parts w B sl L) (hr : OwnR 27 1 w B' v rows) (hg : w.grownBy w' v.ownBlock) : Parts w' B sl L := ⟨h.len, fun i hi => (h.own i hi).far hg (own_apart (h.own i hi) hr), h.ok⟩
theorem Parts.under {b : Nat} {x : Value} (h : Parts w B sl L) (hb : b < B) : Parts (w.setCell ⟨b, 0, none⟩ x) B sl L := ⟨h.len, fun i hi => (h.own i hi).under hb, h.ok⟩
theorem Parts.mono {b : Nat} (h : Parts w B sl L) (hb : b ≤ B) : Parts w b sl L := ⟨h.len, fun i hi => (h.own i hi).mono hb, h.ok⟩
theorem Parts.snoc {r : Sl} {l : List Int} (h : Parts w B sl L) (ho : Own w B (slV r) l) (hok : ∀ j, 0 ≤ l.getD j 0 ∧ l.getD j 0 < 256) : Parts w B (sl ++ [r]) (L ++ [l]) := by
  refine ⟨by simp [h.len], fun i hi => ?_, fun i j => ?_⟩
  · by_cases hl : i < L.length
    · have := h.own i hl
      rw [List.getD_eq_getElem?_getD, List.getD_eq_getElem?_getD] at this ⊢
      rw [List.getElem?_append_left (by rw [h.len]; exact hl), List.getElem?_append_left hl]
      exact this
    · have e : i = L.length := by simp at hi; omega
      subst e
      rw [List.getD_eq_getElem?_getD, List.getD_eq_getElem?_getD, List.getElem?_append_right (by rw [h.len]; omega), List.getElem?_append_right (by omega), h.len]
      simpa using ho
  · by_cases hl : i < L.length
    · have e1 : (L ++ [l]).getD i [] = L.getD i [] := by rw [List.getD_eq_getElem?_getD, List.getElem?_append_left hl, ← List.getD_eq_getElem?_getD]
      rw [e1]
      exact h.ok i j
    · by_cases e : i = L.length
      · subst e
        simpa [List.getD_eq_getElem?_getD] using hok j
      · have hn : (L ++ [l]).getD i [] = [] := by
          rw [List.getD_eq_getElem?_getD, List.getElem?_eq_none (by simp; omega)]
          rfl
        rw [hn]
        simp
end
theorem info_sl : (Try.prog.info? 27).map (fun i => (i.zero, i.size, i.bytes)) = some (some (.slice none 0 0), 1, 24) := by kernel_rfl
/-- one slice more, behind others of the call's own -/
theorem run_append_sl {w : World} (base : Nat) (ty : TypeId) (v : Value) (sl : List Sl) (r : Sl) (hown : OwnR 27 1 w base v (sl.map slR)) (g : Nat) (hg : w.cell? ⟨g, 0, none⟩ = some (slV r)) (hl : sl.length ≤ 1000000) (hbase : base ≤ w.heap.size) :
    ∃ v' w', (Builtin.append_ #[34, 34] ty #[v, .slice (some ⟨g, 0, none⟩) 1 1]).run Try.prog w = .ok v' w' ∧ OwnR 27 1 w' base v' ((sl ++ [r]).map slR) ∧ w.grownBy w' v.ownBlock := by
  obtain ⟨i, hi, hz, h1, h2⟩ := info_parts info_sl
  have hone : ∀ u ∈ [slV r], u.oneCell' = true := fun u hu => by rw [List.mem_singleton.1 hu]; rfl
  obtain ⟨v', w', hr, ho, hgr, _⟩ := run_append_own (P := Try.prog) w base 34 ty 27 i (.slice none 0 0) 1 24 Try.underlying34 hi hz h1 h2 rfl (by omega) v (sl.map slR).length (sl.map slR).flatten hown.row ⟨g, 0, none⟩ 1 1 [slV r] rfl
    (fun j u hu => by
      have hj : j = 0 := by have := (List.getElem?_eq_some_iff.1 hu).1; simp at this; omega
      subst hj
      simp only [List.getElem?_cons_zero, Option.some.injEq] at hu
      rw [← hu]
      exact hg) hone (by unfold maxLen; simp; omega) (by simp; omega) hbase
  refine ⟨v', w', hr, ⟨?_, ?_, ?_⟩, hgr⟩
  · have e1 : ((sl ++ [r]).map slR).length = (sl.map slR).length + 1 := by simp
    have e2 : ((sl ++ [r]).map slR).flatten = (sl.map slR).flatten ++ [slV r] := by simp [slR]
    rw [e1, e2]
    exact ho
  · intro x hx
    obtain ⟨y, _, rfl⟩ := List.mem_map.1 hx
    rfl
  · intro x hx u hu
    obtain ⟨y, _, rfl⟩ := List.mem_map.1 hx
    rw [List.mem_singleton.1 hu]
    rfl
theorem cnt_le (m : Nat) : ∀ l : List Int, l.length ≤ m → cnt l ≤ l.length := by
  induction m with
  | zero => intro l hl; rw [cnt_not (whole_nil (by omega))]; omega
  | succ m ih =>
    intro l hl
    cases h : wholeB l with
    | false => rw [cnt_not h]; omega
    | true =>
      have h2 := whole_len h
      have := ih (l.drop (told l)) (by rw [List.length_drop]; omega)
      rw [cnt_whole h]
      rw [List.length_drop] at this
      omega
/-- the frames of bytes -/
def framesTo (l : List Int) (k : Nat) : List (List Int) := (List.range k).map fun i => (l.drop (pos l i)).take (told (l.drop (pos l i)))
def framesL (l : List Int) : List (List Int) := framesTo l (cnt l)
def restL (l : List Int) : List Int := l.drop (pos l (cnt l))
theorem framesTo_succ (l : List Int) (k : Nat) : framesTo l (k + 1) = framesTo l k ++ [(l.drop (pos l k)).take (told (l.drop (pos l k)))] := by simp [framesTo, List.range_succ]
/-- what Split hands back -/
def SplitPost (l : List Int) (w : World) (e : Ending) (w' : World) : Prop :=
  ∃ v u sl, e = .returned (.tuple #[v, u]) ∧ OwnR 27 1 w' w.heap.size v (sl.map slR) ∧ Parts w' w.heap.size sl (framesL l) ∧ Own w' w.heap.size u (restL l) ∧ Below w.heap.size w w'
/-- between two rounds -/
def SplitInv (l : List Int) (A : Option Addr) (n c : Nat) (w : World) (k : Nat) (W : World) : Prop :=
  (∃ v sl, Boxed W w.heap.size 34 v ∧ OwnR 27 1 W (w.heap.size + 2) v (sl.map slR) ∧ Parts W (w.heap.size + 2) sl (framesTo l k)) ∧ Boxed W (w.heap.size + 1) 27 (slV (leftAt l A n c k)) ∧ Below w.heap.size w W

theorem keeps_below {w w' : World} (h : Below w.heap.size w w') : KeepsOthers w w' := ⟨h.size, fun i o hi _ => (h.block i (Array.getElem?_eq_some_iff.1 hi).1).trans hi⟩
theorem keeps_grown {w w' : World} {base : Nat} {v : Value} {rows : List (List Value)} (h : OwnR 27 1 w base v rows) (hg : w.grownBy w' v.ownBlock) : KeepsOthers w w' := by
  refine KeepsOthers.of_grownBy hg fun j o hj ho => ?_
  rcases h.row.2 with ⟨hv, _⟩ | ⟨g, cap, cur, hv, _, hh, _⟩
  · rw [hv] at hj; cases hj
  · rw [hv] at hj
    have e : g = j := by simpa [Value.ownBlock] using hj
    subst e
    rw [hh] at ho
    cases ho
    rfl
set_option maxRecDepth 100000 in
set_option maxHeartbeats 2000000 in
theorem split_any (A : Option Addr) (n c : Nat) (l : List Int) (w : World) (hb : Bts w A n c l) (hsm : n ≤ 1000000) :
    Calls Try.prog 14 #[.slice A n c] w (SplitPost l w) := by
  have hn := hb.small
  have hmx : Try.prog.follows .mixedOrders = true := by kernel_rfl
  refine (callsIn_wide (n := 9)).1 ?_
  refine callsIn_of_wp_marks Try.func14 rfl trivial ?_ rfl
  simp only [Try.ntmps14, List.size_toArray, List.length_cons, List.length_nil, Nat.reduceAdd, Nat.reduceSub, Array.replicate_succ, Array.replicate_zero, List.push_toArray, List.append_toArray, List.nil_append, List.cons_append]
  gi_wp2_with (refine ⟨trivial, ?_⟩; gi_at_call 33; refine (callsIn_wide.2 (frames_any _ _ _ _)).mono ?_; rintro e w1 ⟨rfl, rfl⟩)
  have b4 := Boxed.new w 34 (.slice none 0 0)
  have b5 := Boxed.new (w.alloc (.cells #[.slice none 0 0] 34)) 27 (.slice A n c)
  have b6 := Boxed.new ((w.alloc (.cells #[.slice none 0 0] 34)).alloc (.cells #[.slice A n c] 27)) 27 (.slice A n c)
  rw [World.size_alloc] at b5
  rw [World.size_alloc, World.size_alloc] at b6
  obtain ⟨W0, hW0⟩ : ∃ W0, ((w.alloc (.cells #[.slice none 0 0] 34)).alloc (.cells #[.slice A n c] 27)).alloc (.cells #[.slice A n c] 27) = W0 := ⟨_, rfl⟩
  have hB0 : Below w.heap.size w W0 := by rw [← hW0]; exact three_below w _ _ _
  have hsz : W0.heap.size = w.heap.size + 3 := by rw [← hW0]; simp
  have b4' : Boxed W0 w.heap.size 34 (.slice none 0 0) := by rw [← hW0]; exact (b4.alloc _).alloc _
  have b5' : Boxed W0 (w.heap.size + 1) 27 (.slice A n c) := by rw [← hW0]; exact b5.alloc _
  rw [hW0] at b6 ⊢
  clear b4 b5 hW0
  have hih := iter_hands 8 (w.heap.size + 1 + 1) A n c l w W0 (by omega) hb hB0 (by omega) b6.cell
  have HB := Lib.hid hb
  have HB0 := Lib.hid hB0
  refine range_known (F := Fence.wide) rfl (by omega) (gf := 43) (lb := #[.pointer (some ⟨w.heap.size + 1 + 1, 0, none⟩)]) rfl trivial (enters_of Try.func43 (by kernel_rfl) rfl) hih (Below.refl _ _) (fun h k => h.trans k) (belowK_b (w := W0) (by omega))
    (SplitInv l A n c w) ?hI ?h0
    (fun k => { tmps := #[.slice A n c, undef, .slice none 0 0, .slice none 0 0, .pointer (some ⟨w.heap.size, 0, none⟩), .pointer (some ⟨w.heap.size + 1, 0, none⟩), pieceAt l A n c k, .slice A n c, .slice A n c, .func (.func 43) #[] #[.pointer (some ⟨w.heap.size + 1 + 1, 0, none⟩)], pieceAt l A n c k, undef, undef, undef, undef, undef, undef, undef, undef, undef, undef, undef, undef], defers := [] }) ?assign ?body ?done
  case hI =>
    rintro k W x o o' ⟨⟨v, sl, q1, q2, q3⟩, q4, q5⟩ hx ho hc
    exact ⟨⟨v, sl, boxed_turned o' q1 ho hc, q2.turned o' ho hc, q3.turned o' ho hc⟩, boxed_turned o' q4 ho hc, q5.grown (grownBy_putObj' W x o') q5.size (fun g e => by cases e; omega)⟩
  case h0 =>
    intro o
    exact ⟨⟨.slice none 0 0, [], (b4'.alloc _).alloc _, OwnR.nil _ _ _ _, Parts.nil _ _⟩, (b5'.alloc _).alloc _, HB0.out.trans ((two_below W0 _ _).mono HB0.out.size)⟩
  case assign =>
    intro x k W K hk hK
    gi_wp2
    exact hK
  case body =>
    rintro x k W hk ⟨⟨v, sl, q1, q2, q3⟩, q4, q5⟩
    have c4 := q1.cell
    have c5 := q4.cell
    have f4 := q1.frozen
    have f5 := q4.frozen
    have hbk := left_bts HB.out k (by omega)
    have hwl := whole_len ((whole_at _ l (Nat.le_refl _)).1 k hk)
    have hll := hbk.len
    have hsl : sl.length = k := by rw [q3.len]; simp [framesTo]
    have hkn := cnt_le _ l (Nat.le_refl _)
    have hnx : slV (leftAt l A n c (k + 1)) = .slice (if (leftAt l A n c k).2.2 = told (l.drop (pos l k)) then (leftAt l A n c k).1 else (leftAt l A n c k).1.map (·.add (told (l.drop (pos l k))))) ((leftAt l A n c k).2.1 - told (l.drop (pos l k))) ((leftAt l A n c k).2.2 - told (l.drop (pos l k))) := rfl
    have hpv : pieceAt l A n c k = .slice (leftAt l A n c k).1 (told (l.drop (pos l k))) (leftAt l A n c k).2.2 := rfl
    have hlv : slV (leftAt l A n c k) = .slice (leftAt l A n c k).1 (leftAt l A n c k).2.1 (leftAt l A n c k).2.2 := rfl
    have hft := framesTo_succ l k
    rw [hpv]
    rw [hlv] at c5
    have hn1 : (leftAt l A n c k).2.1 ≤ n := by rw [← hll, List.length_drop, HB.out.len]; omega
    obtain ⟨r, hr⟩ : ∃ r, leftAt l A n c k = r := ⟨_, rfl⟩
    obtain ⟨t, ht⟩ : ∃ t, told (l.drop (pos l k)) = t := ⟨_, rfl⟩
    rw [hr] at hbk hll hnx c5 hn1 hlv q4 ⊢
    rw [ht] at hwl hnx hft ⊢
    obtain ⟨A1, m1, c1⟩ := r
    simp only at hbk hll hnx c5 hn1 ⊢
    have hlv2 : slV (A1, m1, c1) = .slice A1 m1 c1 := rfl
    obtain ⟨hto, hbt⟩ := run_to hbk (t : Int) (hi := t) rfl (by omega)
    have hfrom := (run_from_at hbk (t : Int) (lo := t) rfl (by omega)).1
    obtain ⟨X1, hX1⟩ : ∃ X1, (if c1 = t then A1 else A1.map (·.add t)) = X1 := ⟨_, rfl⟩
    rw [hX1] at hfrom hnx
    have hcl := clone_any A1 t c1 _ W.drew ((hbt.below q5).draw1) (by omega)
    have hokp : ∀ j, 0 ≤ (((l.drop (pos l k)).take t).getD j 0) ∧ (((l.drop (pos l k)).take t).getD j 0) < 256 := hbt.ok
    obtain ⟨pc, hpc⟩ : ∃ pc, (l.drop (pos l k)).take t = pc := ⟨_, rfl⟩
    rw [hpc] at hcl hft hokp
    have htm : (t : Int) ≤ m1 := by omega
    have HCL := Lib.hid ((callsIn_wide (n := 9 - 1 - 1 - 1).2 hcl).inRound x)
    have HFT := Lib.hid hft
    have HNX := Lib.hid hnx
    have HSL : sl.length ≤ 1000000 := by rw [hsl]; rw [HB.out.len] at hkn; omega
    have hW2 : w.heap.size + 2 ≤ W.heap.size := by have h1 := q4.lt; omega
    have q4b : Boxed W (w.heap.size + 1) 27 (.slice A1 m1 c1) := by rw [hlv2] at q4; exact q4
    have q4' := Lib.hid q4b
    have q2' := Lib.hid q2
    have q3' := Lib.hid q3
    have HOKP := Lib.hid hokp
    clear hX1 q4b hlv2 hcl hft hnx hbk hwl hll hsl hkn hpv hlv hn1 hr ht hbt hpc hto q2 q3 hokp hb
    gi_wp2
    gi_region_with_o (first
      | (refine ⟨trivial, ?_⟩
         gi_at_call 34
         refine HCL.out.mono ?_
         rintro e w3 ⟨v3, rfl, hown3, hb3⟩
         have hb3 : Below W.heap.size W w3 := below_draw hb3
         obtain ⟨A3, m3, c3, rfl, hbt3⟩ := hown3.slice HOKP.out
         have hcell3 : (w3.alloc (.cells #[.slice A3 m3 c3] 27)).cell? ⟨w3.heap.size, 0, none⟩ = some (slV (A3, m3, c3)) := (Boxed.new w3 27 _).cell
         have q2w := (q2'.out.below hb3).more (.cells #[.slice A3 m3 c3] 27)
         obtain ⟨v4, w4, hrun, hown4, hg4⟩ := run_append_sl (w.heap.size + 2) 34 v sl (A3, m3, c3) q2w w3.heap.size hcell3 HSL (by have := hb3.size; simp; omega)
         obtain ⟨A4, m4, e4, rfl, hrw4⟩ := hown4.rws
         have c43 := (hb3.cell (p := ⟨w.heap.size, 0, none⟩) (by show w.heap.size < W.heap.size; omega)).trans c4
         have q13 : Boxed w3 w.heap.size 34 v := (hb3.block _ q1.lt).trans q1
         have q14 : Boxed w4 w.heap.size 34 v := (q13.alloc _).kept hg4 (fun e => by have := (q2w.size _ e.symm).1; omega)
         have c43a := (q13.alloc (.cells #[.slice A3 m3 c3] 27)).cell
         have c44 := q14.cell
         have f44 := q14.frozen)
      | (have hrun2 := hrun
         simp [go_sem] at hrun2
         rw [hrun2]
         go_simp))
    all_goals
      have p5 : Boxed w4 (w.heap.size + 1) 27 (.slice A1 m1 c1) := (Boxed.alloc (show Boxed w3 (w.heap.size + 1) 27 (.slice A1 m1 c1) from (hb3.block _ q4'.out.lt).trans q4'.out) _).kept hg4 (fun e => by have := (q2w.size _ e.symm).1; omega)
      have hsz4 : W.heap.size ≤ w4.heap.size := Nat.le_trans hb3.size (Nat.le_trans (size_le_alloc _ _) hg4.size)
      have hk4 : KeepsOthers W w4 := (keeps_below hb3).trans ((KeepsOthers.alloc _ _).trans (keeps_grown q2w hg4))
      have hbel4 : Below w.heap.size W w4 := ((hb3.mono (Nat.le_of_lt q1.lt)).alloc (Nat.le_trans (Nat.le_of_lt q1.lt) hb3.size) _).grown hg4 (Nat.le_trans (Nat.le_of_lt q1.lt) (Nat.le_trans hb3.size (size_le_alloc _ _))) (fun g e => by have := (q2w.size g e).1; omega)
      have pp4 : Parts w4 (w.heap.size + 2) (sl ++ [(A3, m3, c3)]) (framesTo l (k + 1)) := by
        rw [HFT.out]
        refine Parts.snoc (Parts.grown ((q3'.out.below hb3).below (one_alloc _ _)) q2w hg4) ?_ HOKP.out
        have ho : Own (w3.alloc (.cells #[.slice A3 m3 c3] 27)) (w.heap.size + 2) (slV (A3, m3, c3)) pc := (Own.mono hown3 (by show w.heap.size + 2 ≤ W.heap.size; omega)).more _
        exact ho.far hg4 (own_apart ho q2w)
      obtain ⟨W5, hW5⟩ : ∃ W5, w4.setCell ⟨w.heap.size, 0, none⟩ (.slice A4 m4 e4) = W5 := ⟨_, rfl⟩
      have t4 : Boxed W5 w.heap.size 34 (.slice A4 m4 e4) := by rw [← hW5]; exact q14.set _
      have t5 : Boxed W5 (w.heap.size + 1) 27 (.slice A1 m1 c1) := by rw [← hW5]; exact p5.kept (grownBy_setCell' w4 _ _) (by simp)
      have to5 : OwnR 27 1 W5 (w.heap.size + 2) (.slice A4 m4 e4) ((sl ++ [(A3, m3, c3)]).map slR) := by rw [← hW5]; exact hown4.under (by omega)
      have tp5 : Parts W5 (w.heap.size + 2) (sl ++ [(A3, m3, c3)]) (framesTo l (k + 1)) := by rw [← hW5]; exact pp4.under (by omega)
      have tk5 : KeepsOthers W W5 := by rw [← hW5]; exact hk4.trans (KeepsOthers.setCell _ _ _)
      have tb5 : Below w.heap.size W W5 := by rw [← hW5]; exact hbel4.setCell (p := ⟨w.heap.size, 0, none⟩) (Nat.le_refl _) _
      rw [hW5]
      have x5 := t5.cell
      have y5 := t5.frozen
      have TO5 := Lib.hid to5
      have TP5 := Lib.hid tp5
      have TK5 := Lib.hid tk5
      have TB5 := Lib.hid tb5
      have Q5 := Lib.hid q5
      clear to5 tp5 tk5 tb5 q5 hW5 pp4 hbel4 hk4 p5 hown4 hg4 hrun q2w hcell3 hbt3 hown3 hb3 q13 q14 c43 c43a c44 f44 hrw4 c4 c5 f4 f5
      gi_wp2
      exact ⟨TK5.out.trans (KeepsOthers.setCell _ _ _), TB5.out.setCell (p := ⟨w.heap.size + 1, 0, none⟩) (Nat.le_succ _) _, ⟨_, _, t4.kept (grownBy_setCell' W5 _ _) (by simp), TO5.out.under (by omega), TP5.out.under (by omega)⟩, by rw [HNX.out]; exact t5.set _, Q5.out.trans (TB5.out.setCell (p := ⟨w.heap.size + 1, 0, none⟩) (Nat.le_succ _) _)⟩
  case done =>
    rintro D W hD ⟨⟨v, sl, q1, q2, q3⟩, q4, q5⟩ hDD
    have c4 := q1.cell
    have hbk := left_bts HB.out (cnt l) (Nat.le_refl _)
    have hll := hbk.len
    have hn1 : (leftAt l A n c (cnt l)).2.1 ≤ n := by rw [← hll, List.length_drop, HB.out.len]; omega
    obtain ⟨r, hr⟩ : ∃ r, leftAt l A n c (cnt l) = r := ⟨_, rfl⟩
    rw [hr] at hbk hn1 q4
    obtain ⟨A1, m1, c1⟩ := r
    simp only at hbk hn1
    have q4b : Boxed W (w.heap.size + 1) 27 (.slice A1 m1 c1) := q4
    have c5 := q4b.cell
    have hcl := clone_any A1 m1 c1 (restL l) W.drew ((hbk.below q5).draw1) (by omega)
    obtain ⟨A0, m0, e0, rfl, hrw0⟩ := q2.rws
    have HCL := Lib.hid (callsIn_wide (n := 9 - 1).2 hcl)
    have Q1 := Lib.hid q1
    have Q2 := Lib.hid q2
    have Q3 := Lib.hid q3
    have Q4 := Lib.hid q4b
    have Q5 := Lib.hid q5
    have hlt1 : w.heap.size < W.heap.size := q1.lt
    have hlt2 : w.heap.size + 1 < W.heap.size := q4b.lt
    clear hcl q1 q2 q3 q4 q4b q5 hbk hll hn1 hr hrw0 hb
    gi_wp2
    refine wpIn_region_any hmx ?_
    change wpAnyIn _ _ _ _ _ _ _ _ _ (World.drew _)
    refine wpAnyIn_ready (rs := [0, 1]) (by kernel_rfl) (by simp) (AllReadyIn.cons rfl (fun K hK => ?_) (AllReadyIn.cons rfl (fun K hK => ?_) AllReadyIn.nil))
    · go_simp
      refine hK _ _ ?_
      clear hK K
      refine wpAnyIn_ready (rs := [1]) (by kernel_rfl) (by simp) (AllReadyIn.cons rfl (fun K hK => ?_) AllReadyIn.nil)
      go_simp
      refine hK _ _ ?_
      clear hK K
      refine wpAnyIn_ready (rs := [2]) (by kernel_rfl) (by simp) (AllReadyIn.cons rfl (fun K hK => ?_) AllReadyIn.nil)
      go_simp
      refine ⟨trivial, ?_⟩
      gi_at_call 34
      refine HCL.out.mono ?_
      rintro e w3 ⟨v3, rfl, hown3, hb3⟩
      have hb3 : Below W.heap.size W w3 := below_draw hb3
      have c43 := (hb3.cell (p := ⟨w.heap.size, 0, none⟩) hlt1).trans c4
      have c53 := (hb3.cell (p := ⟨w.heap.size + 1, 0, none⟩) hlt2).trans c5
      simp only []
      refine hK _ _ ?_
      clear hK K
      refine wpAnyIn_ready (rs := [3]) (by kernel_rfl) (by simp) (AllReadyIn.cons rfl (fun K hK => ?_) AllReadyIn.nil)
      go_simp
      refine hK _ _ ?_
      clear hK K
      refine wpAnyIn_ready (rs := [4]) (by kernel_rfl) (by simp) (AllReadyIn.cons rfl (fun K hK => ?_) AllReadyIn.nil)
      go_simp
      refine hK _ _ ?_
      clear hK K
      refine wpAnyIn_done (by kernel_rfl) ?_ _
      gi_wp2
      have hD3 : w3.heap[D]? = some (.deferred (some [])) := (hb3.block _ (Array.getElem?_eq_some_iff.1 hDD).1).trans hDD
      refine ⟨by simp, .inl ⟨_, _, rfl, run_takeDeferred hD3, ?_⟩⟩
      refine ⟨_, results_tmp2 Try.results14 _ _ _, _, _, sl, rfl, ?_, ?_, ?_, ?_⟩
      · exact ((Q2.out.below hb3).turned _ hD3 rfl).mono (by omega)
      · exact ((Q3.out.below hb3).turned _ hD3 rfl).mono (by omega)
      · exact Own.turned _ (Own.mono hown3 (by show w.heap.size ≤ W.heap.size; omega)) hD3 rfl
      · exact (Q5.out.trans (hb3.mono (Nat.le_of_lt hlt1))).grown (grownBy_putObj' w3 D _) (Nat.le_trans (Nat.le_of_lt hlt1) hb3.size) (fun g e => by cases e; omega)
    · go_simp
      refine hK _ _ ?_
      clear hK K
      refine wpAnyIn_ready (rs := [0, 2]) (by kernel_rfl) (by simp) (AllReadyIn.cons rfl (fun K hK => ?_) (AllReadyIn.cons rfl (fun K hK => ?_) AllReadyIn.nil))
      · go_simp
        refine hK _ _ ?_
        clear hK K
        refine wpAnyIn_ready (rs := [2]) (by kernel_rfl) (by simp) (AllReadyIn.cons rfl (fun K hK => ?_) AllReadyIn.nil)
        go_simp
        refine ⟨trivial, ?_⟩
        gi_at_call 34
        refine HCL.out.mono ?_
        rintro e w3 ⟨v3, rfl, hown3, hb3⟩
        have hb3 : Below W.heap.size W w3 := below_draw hb3
        have c43 := (hb3.cell (p := ⟨w.heap.size, 0, none⟩) hlt1).trans c4
        have c53 := (hb3.cell (p := ⟨w.heap.size + 1, 0, none⟩) hlt2).trans c5
        simp only []
        refine hK _ _ ?_
        clear hK K
        refine wpAnyIn_ready (rs := [3]) (by kernel_rfl) (by simp) (AllReadyIn.cons rfl (fun K hK => ?_) AllReadyIn.nil)
        go_simp
        refine hK _ _ ?_
        clear hK K
        refine wpAnyIn_ready (rs := [4]) (by kernel_rfl) (by simp) (AllReadyIn.cons rfl (fun K hK => ?_) AllReadyIn.nil)
        go_simp
        refine hK _ _ ?_
        clear hK K
        refine wpAnyIn_done (by kernel_rfl) ?_ _
        gi_wp2
        have hD3 : w3.heap[D]? = some (.deferred (some [])) := (hb3.block _ (Array.getElem?_eq_some_iff.1 hDD).1).trans hDD
        refine ⟨by simp, .inl ⟨_, _, rfl, run_takeDeferred hD3, ?_⟩⟩
        refine ⟨_, results_tmp2 Try.results14 _ _ _, _, _, sl, rfl, ?_, ?_, ?_, ?_⟩
        · exact ((Q2.out.below hb3).turned _ hD3 rfl).mono (by omega)
        · exact ((Q3.out.below hb3).turned _ hD3 rfl).mono (by omega)
        · exact Own.turned _ (Own.mono hown3 (by show w.heap.size ≤ W.heap.size; omega)) hD3 rfl
        · exact (Q5.out.trans (hb3.mono (Nat.le_of_lt hlt1))).grown (grownBy_putObj' w3 D _) (Nat.le_trans (Nat.le_of_lt hlt1) hb3.size) (fun g e => by cases e; omega)
      · go_simp
        refine ⟨trivial, ?_⟩
        gi_at_call 34
        refine HCL.out.mono ?_
        rintro e w3 ⟨v3, rfl, hown3, hb3⟩
        have hb3 : Below W.heap.size W w3 := below_draw hb3
        have c43 := (hb3.cell (p := ⟨w.heap.size, 0, none⟩) hlt1).trans c4
        have c53 := (hb3.cell (p := ⟨w.heap.size + 1, 0, none⟩) hlt2).trans c5
        simp only []
        refine hK _ _ ?_
        clear hK K
        refine wpAnyIn_ready (rs := [0]) (by kernel_rfl) (by simp) (AllReadyIn.cons rfl (fun K hK => ?_) AllReadyIn.nil)
        go_simp
        refine hK _ _ ?_
        clear hK K
        refine wpAnyIn_ready (rs := [3]) (by kernel_rfl) (by simp) (AllReadyIn.cons rfl (fun K hK => ?_) AllReadyIn.nil)
        go_simp
        refine hK _ _ ?_
        clear hK K
        refine wpAnyIn_ready (rs := [4]) (by kernel_rfl) (by simp) (AllReadyIn.cons rfl (fun K hK => ?_) AllReadyIn.nil)
        go_simp
        refine hK _ _ ?_
        clear hK K
        refine wpAnyIn_done (by kernel_rfl) ?_ _
        gi_wp2
        have hD3 : w3.heap[D]? = some (.deferred (some [])) := (hb3.block _ (Array.getElem?_eq_some_iff.1 hDD).1).trans hDD
        refine ⟨by simp, .inl ⟨_, _, rfl, run_takeDeferred hD3, ?_⟩⟩
        refine ⟨_, results_tmp2 Try.results14 _ _ _, _, _, sl, rfl, ?_, ?_, ?_, ?_⟩
        · exact ((Q2.out.below hb3).turned _ hD3 rfl).mono (by omega)
        · exact ((Q3.out.below hb3).turned _ hD3 rfl).mono (by omega)
        · exact Own.turned _ (Own.mono hown3 (by show w.heap.size ≤ W.heap.size; omega)) hD3 rfl
        · exact (Q5.out.trans (hb3.mono (Nat.le_of_lt hlt1))).grown (grownBy_putObj' w3 D _) (Nat.le_trans (Nat.le_of_lt hlt1) hb3.size) (fun g e => by cases e; omega)
end Go.Proofs.Ytadcbikdbekmgaa
