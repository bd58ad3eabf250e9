/- Bytes as frames, one behind the other; the walk over package frame's frames. -/
import Derived.Test.YtadcbikdbekmgaaFrmWhole
import Derived.Test.YtadcbikdbekmgaaBasRange
namespace Go.Proofs.Ytadcbikdbekmgaa
set_option linter.unusedVariables false
set_option linter.unusedSimpArgs false
open Go.RowKit Go.Shelf
attribute [local go_sem] Oper.semAt_some

/-- how many bytes the first frame has -/
def told (l : List Int) : Nat := 2 + numL (l.take 2)
/-- where the k-th frame begins -/
def pos (l : List Int) : Nat → Nat
  | 0 => 0
  | k + 1 => pos l k + told (l.drop (pos l k))
def cntF : Nat → List Int → Nat
  | 0, _ => 0
  | f + 1, l => if wholeB l then 1 + cntF f (l.drop (told l)) else 0
/-- how many frames bytes begin with -/
def cnt (l : List Int) : Nat := cntF l.length l
theorem whole_len {l : List Int} (h : wholeB l = true) : 2 ≤ told l ∧ told l ≤ l.length := by
  unfold wholeB at h
  rw [decide_eq_true_eq] at h
  unfold told
  omega
theorem whole_nil {l : List Int} (h : l.length < 2) : wholeB l = false := by
  unfold wholeB
  rw [decide_eq_false_iff_not]
  omega
theorem cntF_more : ∀ (f g : Nat) (l : List Int), l.length ≤ f → l.length ≤ g → cntF f l = cntF g l
  | 0, 0, _, _, _ => rfl
  | 0, g + 1, l, h, _ => by rw [cntF, cntF, whole_nil (by omega)]; rfl
  | f + 1, 0, l, _, h => by rw [cntF, cntF, whole_nil (by omega)]; rfl
  | f + 1, g + 1, l, h1, h2 => by
    rw [cntF, cntF]
    cases h : wholeB l with
    | false => rfl
    | true =>
      have := whole_len h
      rw [if_pos rfl, if_pos rfl, cntF_more f g (l.drop (told l)) (by rw [List.length_drop]; omega) (by rw [List.length_drop]; omega)]
theorem cnt_whole {l : List Int} (h : wholeB l = true) : cnt l = 1 + cnt (l.drop (told l)) := by
  have h2 := whole_len h
  unfold cnt
  obtain ⟨m, hm⟩ : ∃ m, l.length = m + 1 := ⟨l.length - 1, by omega⟩
  rw [hm, cntF, if_pos h, cntF_more m (l.drop (told l)).length _ (by rw [List.length_drop]; omega) (Nat.le_refl _)]
theorem cnt_not {l : List Int} (h : wholeB l = false) : cnt l = 0 := by
  unfold cnt
  cases l.length with
  | zero => rfl
  | succ m => rw [cntF, h]; rfl
theorem pos_succ (l : List Int) (k : Nat) : pos l (k + 1) = told l + pos (l.drop (told l)) k := by
  induction k with
  | zero => simp [pos]
  | succ k ih =>
    rw [pos, ih, pos, ← List.drop_drop]
    omega
theorem whole_at (m : Nat) : ∀ (l : List Int), l.length ≤ m → (∀ k, k < cnt l → wholeB (l.drop (pos l k)) = true) ∧ wholeB (l.drop (pos l (cnt l))) = false ∧ pos l (cnt l) ≤ l.length := by
  induction m with
  | zero =>
    intro l hl
    have h := whole_nil (l := l) (by omega)
    rw [cnt_not h]
    exact ⟨fun k hk => by omega, h, Nat.zero_le _⟩
  | succ m ih =>
    intro l hl
    cases h : wholeB l with
    | false =>
      rw [cnt_not h]
      exact ⟨fun k hk => by omega, h, Nat.zero_le _⟩
    | true =>
      have h2 := whole_len h
      obtain ⟨i1, i2, i3⟩ := ih (l.drop (told l)) (by rw [List.length_drop]; omega)
      rw [cnt_whole h, Nat.add_comm 1]
      refine ⟨fun k hk => ?_, ?_, ?_⟩
      · cases k with
        | zero => exact h
        | succ k =>
          rw [pos_succ, ← List.drop_drop]
          exact i1 k (by omega)
      · rw [pos_succ, ← List.drop_drop]
        exact i2
      · rw [pos_succ]
        rw [List.length_drop] at i3
        omega
/-- what is left, as a slice, behind k frames -/
def leftAt (l : List Int) (A : Option Addr) (n c : Nat) : Nat → Option Addr × Nat × Nat
  | 0 => (A, n, c)
  | k + 1 =>
    let r := leftAt l A n c k
    let t := told (l.drop (pos l k))
    (if r.2.2 = t then r.1 else r.1.map (·.add t), r.2.1 - t, r.2.2 - t)
/-- the k-th frame, as a slice -/
def pieceAt (l : List Int) (A : Option Addr) (n c : Nat) (k : Nat) : Value := .slice (leftAt l A n c k).1 (told (l.drop (pos l k))) (leftAt l A n c k).2.2
theorem run_from_at {w0 : World} {A : Option Addr} {n cap lo : Nat} {l : List Int} (hb : Bts w0 A n cap l) (x : Int) (hx : x = lo) (hlo : lo ≤ n) :
    (∀ w : World, (Instr.slice 27 (.slice A n cap) (some (.int .i64 x)) none none).run Try.prog w = .ok (.slice (if cap = lo then A else A.map (·.add lo)) (n - lo) (cap - lo)) w) ∧ Bts w0 (if cap = lo then A else A.map (·.add lo)) (n - lo) (cap - lo) (l.drop lo) := by
  obtain ⟨A2, h1, h2⟩ := run_from hb x hx hlo
  have h3 : ∀ w : World, (Instr.slice 27 (.slice A n cap) (some (.int .i64 x)) none none).run Try.prog w = .ok (.slice (if cap = lo then A else A.map (·.add lo)) (n - lo) (cap - lo)) w := fun w => by
    subst hx
    rw [run_slice_l (P := Try.prog) w 27 A n cap (by kernel_rfl) .i64 lo (by omega) (by omega), size_u8]
    simp only [Result.andThen_ok, sliced, Int.toNat_natCast, Nat.mul_one]
  have h4 := (h1 w0).symm.trans (h3 w0)
  simp only [Result.ok.injEq, Value.slice.injEq, and_true] at h4
  rw [← h4]
  exact ⟨fun w => by rw [h4]; exact h3 w, h2⟩
theorem left_bts {w0 : World} {A : Option Addr} {n c : Nat} {l : List Int} (hb : Bts w0 A n c l) : ∀ k, k ≤ cnt l → Bts w0 (leftAt l A n c k).1 (leftAt l A n c k).2.1 (leftAt l A n c k).2.2 (l.drop (pos l k))
  | 0, _ => by simpa [leftAt, pos] using hb
  | k + 1, hk => by
    have ih := left_bts hb k (by omega)
    have hw := whole_len ((whole_at _ l (Nat.le_refl _)).1 k (by omega))
    have := (run_from_at ih (told (l.drop (pos l k)) : Int) (lo := told (l.drop (pos l k))) rfl (by rw [← ih.len]; exact hw.2)).2
    rw [List.drop_drop] at this
    exact this
def sliceLen : Value → Nat
  | .slice _ n _ => n
  | _ => 0

set_option maxRecDepth 100000 in
set_option maxHeartbeats 2000000 in
theorem iter_hands (n Bs : Nat) (A : Option Addr) (m c : Nat) (l : List Int) (wb w0 : World) (hn : 1 ≤ n) (hb : Bts wb A m c l) (hwb : Below wb.heap.size wb w0) (hBs : Bs < w0.heap.size) (hbox : w0.cell? ⟨Bs, 0, none⟩ = some (.slice A m c)) :
    Hands Fence.wide n Try.prog 43 #[.pointer (some ⟨Bs, 0, none⟩)] (pieceAt l A m c) (cnt l) (Below wb.heap.size) w0 := by
  intro L J W hW hY h0
  have hWb := hwb.trans (hW.mono hwb.size)
  have hboxW := (hW.cell (p := ⟨Bs, 0, none⟩) hBs).trans hbox
  have hlb := fun k hk => left_bts hb k hk
  have hwa := whole_at _ l (Nat.le_refl _)
  have HY := Lib.hid hY
  have HLB := Lib.hid hlb
  have HWA := Lib.hid hwa
  have HW := Lib.hid hWb
  clear hlb hwa hY hW hWb hwb hbox hb
  refine callsIn_of_wp Try.func43 rfl trivial ?_ rfl
  simp only [Try.ntmps43, List.size_toArray, List.length_cons, List.length_nil, Nat.reduceAdd, Nat.reduceSub, Array.replicate_succ, Array.replicate_zero, List.push_toArray, List.append_toArray, List.nil_append, List.cons_append]
  gi_wp2
  gi_loopw [3] (fun v wr => ∃ k, k ≤ cnt l ∧ v = .slice (leftAt l A m c k).1 (leftAt l A m c k).2.1 (leftAt l A m c k).2.2 ∧ J k wr ∧ Below wb.heap.size wb wr) (fun v _ => sliceLen v)
  case atStart => exact ⟨0, Nat.zero_le _, rfl, h0, HW.out⟩
  case round =>
    obtain ⟨k, hk, rfl, hJ, hB⟩ := hrel
    have hbk := (HLB.out k hk).below hB
    by_cases hlt : k < cnt l
    · have hwk := HWA.out.1 k hlt
      have hwl := whole_len hwk
      have hts := two_small hbk.ok
      have hg := get_at _ _ _ _ 0 2 0 2 wr rfl rfl hbk (by omega) (by omega) (by rw [← hbk.len]; omega)
      rw [List.drop_zero] at hg
      have hwc := whole_any _ _ _ _ wr hbk
      rw [hwk] at hwc
      obtain ⟨fn, tmps, assign, body, hy, hR⟩ := HY.out k wr hlt hJ
      have hpc : pieceAt l A m c k = .slice (leftAt l A m c k).1 (told (l.drop (pos l k))) (leftAt l A m c k).2.2 := rfl
      rw [hpc] at hy
      have hnx : leftAt l A m c (k + 1) = (if (leftAt l A m c k).2.2 = told (l.drop (pos l k)) then (leftAt l A m c k).1 else (leftAt l A m c k).1.map (·.add (told (l.drop (pos l k)))), (leftAt l A m c k).2.1 - told (l.drop (pos l k)), (leftAt l A m c k).2.2 - told (l.drop (pos l k))) := rfl
      have hln : (l.drop (pos l k)).length = (leftAt l A m c k).2.1 := hbk.len
      have htd : told (l.drop (pos l k)) = 2 + numL ((l.drop (pos l k)).take 2) := rfl
      obtain ⟨x, hx⟩ : ∃ x, numL ((l.drop (pos l k)).take 2) = x := ⟨_, rfl⟩
      rw [hx] at hg hts htd
      obtain ⟨t, ht⟩ : ∃ t, told (l.drop (pos l k)) = t := ⟨_, rfl⟩
      rw [ht] at hwl hy hnx htd
      obtain ⟨r, hr⟩ : ∃ r, leftAt l A m c k = r := ⟨_, rfl⟩
      rw [hr] at hbk hg hwc hy hnx hln ⊢
      obtain ⟨A1, m1, c1⟩ := r
      simp only at hbk hg hwc hy hnx hln ⊢
      have htm : t ≤ m1 := by omega
      have hto := (run_to hbk ((2 : Int) + x) (hi := t) (by omega) htm).1
      have hfrom := (run_from_at hbk ((2 : Int) + x) (lo := t) (by omega) htm).1
      have hts' : (x : Int) < 65536 := by omega
      have HNX := Lib.hid hnx
      have HG := Lib.hid (callsIn_wide (n := n - 1).2 hg)
      have HWC := Lib.hid (callsIn_wide (n := n - 1).2 hwc)
      have HB := Lib.hid hB
      have htw := hwl.1
      have HTM := Lib.hid htm
      have HTW := Lib.hid htw
      clear hnx hg hwc hB hbk hln htd hx ht hr hwl hts htm htw hpc hwk
      gi_wp2_with (first
        | (refine ⟨trivial, ?_⟩; gi_at_call 26; refine HWC.out.mono ?_; rintro e w1 ⟨rfl, rfl⟩)
        | (refine ⟨trivial, ?_⟩; gi_at_call 38; refine HG.out.mono ?_; rintro e w2 ⟨rfl, rfl⟩))
      refine hR.mono ?_
      rintro e W3 ⟨rfl, hJ3, hk3⟩
      gi_wp2
      go_roundw
      case rel => exact ⟨k + 1, by omega, by rw [HNX.out], hJ3, HB.out.trans hk3⟩
      case measure => have := HTM.out; have := HTW.out; simp [sliceLen]; omega
    · have hkn : k = cnt l := by omega
      have hwk := HWA.out.2.1
      rw [← hkn] at hwk
      have hwc := whole_any _ _ _ _ wr hbk
      rw [hwk] at hwc
      obtain ⟨r, hr⟩ : ∃ r, leftAt l A m c k = r := ⟨_, rfl⟩
      rw [hr] at hwc ⊢
      obtain ⟨A1, m1, c1⟩ := r
      have HWC := Lib.hid (callsIn_wide (n := n - 1).2 hwc)
      rw [hkn] at hJ
      clear hwc hkn hwk hr hbk
      gi_wp2_with (refine ⟨trivial, ?_⟩; gi_at_call 26; refine HWC.out.mono ?_; rintro e w1 ⟨rfl, rfl⟩)
      go_end0
      exact ⟨⟨_, rfl⟩, hJ⟩
theorem frames_any (A : Option Addr) (m c : Nat) (w : World) :
    Calls Try.prog 33 #[.slice A m c] w fun e w' => e = .returned (.func (.func 43) #[] #[.pointer (some ⟨w.heap.size, 0, none⟩)]) ∧ w.alloc (.cells #[.slice A m c] 27) = w' := by
  go_enter Try.func33, Try.ntmps33
  go_wp2
  go_ret
  exact ⟨rfl, rfl⟩
end Go.Proofs.Ytadcbikdbekmgaa
