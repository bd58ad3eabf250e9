/- The laws' arguments, opened: a slice of frames; bytes that are split, as lists. -/
import Derived.Test.YtadcbikdbekmgaaFrmOpen
import Derived.Deep.Slices
namespace Go.Proofs.Ytadcbikdbekmgaa
set_option linter.unusedVariables false
set_option linter.unusedSimpArgs false
open Go.ChangeShapes Go.WideShapes Go.ChangeAt Go.RowKit

/-- a slice of frames -/
structure Frs (w : World) (A : Option Addr) (n c : Nat) (l : List Fr) : Prop where
  rws : Rws 40 w A n c (l.map frC)
  ok : ∀ f ∈ l, f.ok
theorem Frs.len {w : World} {A : Option Addr} {n c : Nat} {l : List Fr} (h : Frs w A n c l) : l.length = n := by rw [← h.rws.len, List.length_map]
theorem Frs.below {w w' : World} {A : Option Addr} {n c : Nat} {l : List Fr} (h : Frs w A n c l) (hb : Below w.heap.size w w') : Frs w' A n c l := ⟨h.rws.below hb, h.ok⟩
theorem add_addr2 (b o m i : Nat) : (((⟨b, o, none⟩ : Addr).add m).add i) = ⟨b, o + m + i, none⟩ := by rw [Addr.add_mid, Addr.add_mid]
theorem open_frames {H : Type} {enc : TypeId × Value → H} {W : World} {base : Nat} {spare : Nat → Bool} {held : Bool} {fuel : Nat} {cs : List Value} {x : DataW H × List MemPlace} (h : DataW.trod enc Try.prog W base spare held fuel 40 cs = some x) :
    ∃ (A : Option Addr) (n c : Nat) (l : List Fr), cs = [.slice A n c] ∧ Frs W A n c l := by
  rcases Go.Deep.open_slice Try.underlying40 h with ⟨hcs, _⟩ | ⟨a, len, cap, m, n, D, Pl, hcs, _, hl, hm, hz, _, hx⟩
  · exact ⟨none, 0, 0, [], hcs, Rws.nil 40 W, fun p hp => by cases hp⟩
  · have hlm : len ≤ m := by rw [hz]; split <;> omega
    have each : ∀ i, i < len → ∃ f : Fr, (∀ j, j < 40 → W.cell? ((a.add (i * 40)).add j) = (frC f)[j]?) ∧ f.ok := by
      intro i hi
      obtain ⟨cs', h1, h2⟩ := hx i (by omega)
      rw [cellsFrame] at h1
      obtain ⟨_, h3, h4⟩ := World.cells?_some h1
      obtain ⟨f, rfl, hok⟩ := frame_cells h3 h2
      exact ⟨f, h4, hok⟩
    haveI : Inhabited Fr := ⟨Fr.zero⟩
    obtain ⟨q, hq⟩ := Go.Deep.choose_lt each
    refine ⟨some a, len, cap, (List.range len).map q, hcs, ⟨by simp, ?_, ?_, hl, hm, (fun e => by cases e), ?_⟩, ?_⟩
    · intro r hr
      obtain ⟨f, hf, rfl⟩ := List.mem_map.1 hr
      obtain ⟨i, hi, rfl⟩ := List.mem_map.1 hf
      exact frC_length (hq i (List.mem_range.1 hi)).2.len
    · intro r hr u hu
      obtain ⟨f, _, rfl⟩ := List.mem_map.1 hr
      have h1 := frA_one f
      unfold frA at h1
      rw [List.all_toArray, List.all_eq_true] at h1
      exact h1 u hu
    · intro hn
      obtain ⟨ab, ao, am⟩ := a
      have h0 := (hq 0 hn).1 0 (by omega)
      have ham : am = none := by
        have h1 : (frC (q 0))[0]? = some (.int .i64 (q 0).kind) := rfl
        rw [h1] at h0
        simpa [Addr.add] using World.cell?_spot h0
      subst ham
      refine ⟨ab, ao, rfl, fun j hj i hi => ?_⟩
      have h1 := (hq j hj).1 i hi
      rw [add_addr2] at h1
      rw [h1]
      have hl40 : i < (frC (q j)).length := by rw [frC_length (hq j hj).2.len]; exact hi
      simp [List.getD_eq_getElem?_getD, List.getElem?_range hj, hl40]
    · intro f hf
      obtain ⟨i, hi, rfl⟩ := List.mem_map.1 hf
      exact (hq i (List.mem_range.1 hi)).2

theorem framesL_whole {l : List Int} (h : wholeB l = true) : framesL l = l.take (told l) :: framesL (l.drop (told l)) ∧ restL l = restL (l.drop (told l)) := by
  constructor
  · unfold framesL framesTo
    rw [cnt_whole h, Nat.add_comm 1, List.range_succ_eq_map, List.map_cons, List.map_map]
    congr 1
    refine List.map_congr_left fun k _ => ?_
    simp only [Function.comp, Nat.succ_eq_add_one, pos_succ, ← List.drop_drop]
  · unfold restL
    rw [cnt_whole h, Nat.add_comm 1, pos_succ, ← List.drop_drop]
theorem framesL_not {l : List Int} (h : wholeB l = false) : framesL l = [] ∧ restL l = l := by
  unfold framesL framesTo restL
  rw [cnt_not h]
  exact ⟨rfl, rfl⟩
/-- all of it is all the bytes -/
theorem all_back (m : Nat) : ∀ l : List Int, l.length ≤ m → (framesL l).flatten ++ restL l = l := by
  induction m with
  | zero =>
    intro l hl
    obtain ⟨h1, h2⟩ := framesL_not (whole_nil (l := l) (by omega))
    rw [h1, h2]; rfl
  | succ m ih =>
    intro l hl
    cases h : wholeB l with
    | false =>
      obtain ⟨h1, h2⟩ := framesL_not h
      rw [h1, h2]; rfl
    | true =>
      have h3 := whole_len h
      obtain ⟨h1, h2⟩ := framesL_whole h
      rw [h1, h2, List.flatten_cons, List.append_assoc, ih _ (by rw [List.length_drop]; omega), List.take_append_drop]
theorem put_more {f : Fr} (hT : f.tag.length = 32) (m : List Int) : wholeB (putF f ++ m) = true ∧ told (putF f ++ m) = (putF f).length := by
  have h1 := put_whole hT
  have h2 := put_told hT
  have h3 := whole_len h1
  have h4 : (putF f ++ m).take 2 = (putF f).take 2 := List.take_append_of_le_length (by omega)
  unfold told wholeB at *
  rw [h4]
  refine ⟨?_, h2⟩
  rw [decide_eq_true_eq] at h1 ⊢
  rw [List.length_append]
  omega
/-- frames that come one behind the other -/
theorem split_put : ∀ (fs : List Fr) (_ : ∀ f ∈ fs, f.tag.length = 32) (B : List Int), framesL ((fs.map putF).flatten ++ B) = fs.map putF ++ framesL B ∧ restL ((fs.map putF).flatten ++ B) = restL B
  | [], _, _ => ⟨rfl, rfl⟩
  | f :: fs, h, B => by
    obtain ⟨h1, h2⟩ := put_more (h f (by simp)) ((fs.map putF).flatten ++ B)
    obtain ⟨i1, i2⟩ := split_put fs (fun g hg => h g (by simp [hg])) B
    obtain ⟨e1, e2⟩ := framesL_whole h1
    rw [List.map_cons, List.flatten_cons, List.append_assoc, e1, e2, h2, List.take_left' rfl, List.drop_left' rfl, i1, i2]
    exact ⟨rfl, rfl⟩
/-- a beginning of a frame is none -/
theorem begin_not {f : Fr} (hT : f.tag.length = 32) (k : Nat) (hk : k < (putF f).length) : wholeB ((putF f).take k) = false := by
  by_cases h2 : k < 2
  · exact whole_nil (by rw [List.length_take]; omega)
  · have h3 := put_told hT
    have h4 : ((putF f).take k).take 2 = (putF f).take 2 := by rw [List.take_take, Nat.min_eq_left (by omega)]
    unfold told at h3
    unfold wholeB
    rw [decide_eq_false_iff_not, h4, List.length_take]
    omega
end Go.Proofs.Ytadcbikdbekmgaa
