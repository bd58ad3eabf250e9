/- Joined texts: The head and the text that stand at the end of records; what a round of reading meets; how two lists go back together. A log, plainly: entries in a chain, in a store; which may be; room, an entry more, a crash meanwhile, a store opened. What the laws on a log ask, plainly. append(v[:n:n], s...) of bytes, whoever's v is; v[:n:n]. A region that draws its order, walked by hand: one operation after another, taken first. '==' between two entries; a load out of a slice of entries. A log as it lies in memory: its cells, what is loaded of it, how one is built. The walk over the document's Head of entries. -/
import Derived.Test.YtafmompplcaadaaGreatDoorAuJG
import Derived.Test.YtafmompplcaadaaGreatDoorAuJA
import Derived.ArgAppend
import Derived.Test.YtafmompplcaadaaGreatDoorAuJD
/- The head and the text that stand at the end of records; what a round of reading meets; how two lists go back together. -/
namespace Go.Proofs.YtafmompplcaadaaGreatDoor
set_option linter.unusedVariables false
set_option linter.unusedSimpArgs false
open Go

def headB (b : List Int) : List Int := if b = [] then startC else b.drop (b.length - 32)
theorem headB_recs (l : List En) : headB (recsC l) = headC l := by
  rcases List.eq_nil_or_concat l with rfl | ⟨m, u, rfl⟩
  · rfl
  · rw [List.concat_eq_append, recsC_snoc, headC_snoc]
    obtain ⟨X, hX⟩ : ∃ X, recsC m ++ putE u = X := ⟨_, rfl⟩
    have hXl : 30 ≤ X.length := by rw [← hX, List.length_append, put_len]; omega
    rw [← List.append_assoc, hX]
    have hl : (linkC (headC m) u).length = 32 := csum_len _
    have hne : ¬ X ++ linkC (headC m) u = [] := by
      intro e
      have := congrArg List.length e
      rw [List.length_append, List.length_nil] at this
      omega
    rw [headB, if_neg hne, List.length_append, hl, Nat.add_sub_cancel, List.drop_left' rfl]
theorem headB_len {b : List Int} (h : b.length = 0 ∨ 32 ≤ b.length) : (headB b).length = 32 := by
  unfold headB
  split
  · exact csum_len _
  · rename_i hne
    rw [List.length_drop]
    have : b.length ≠ 0 := fun e => hne (List.eq_nil_of_length_eq_zero e)
    omega
theorem headB_byte {b : List Int} (hb : ∀ j, 0 ≤ b.getD j 0 ∧ b.getD j 0 < 256) : ∀ j, 0 ≤ (headB b).getD j 0 ∧ (headB b).getD j 0 < 256 := by
  intro j
  unfold headB
  split
  · exact csum_byte _ j
  · have := hb (b.length - 32 + j)
    simpa [List.getD_eq_getElem?_getD, List.getElem?_drop] using this
def textB (b : List Int) : List Int := if b = [] then [0] else 1 :: (headB (b.take (b.length - 62)) ++ (b.drop (b.length - 62)).take 30)
theorem textB_recs (l : List En) : textB (recsC l) = textC l := by
  rcases List.eq_nil_or_concat l with rfl | ⟨m, u, rfl⟩
  · rfl
  · rw [List.concat_eq_append, recsC_snoc, textC_snoc]
    obtain ⟨X, hX⟩ : ∃ X, putE u ++ linkC (headC m) u = X := ⟨_, rfl⟩
    have hXl : X.length = 62 := by rw [← hX, List.length_append, put_len, linkC, csum_len]
    rw [hX]
    have hne : ¬ recsC m ++ X = [] := by
      intro e
      have := congrArg List.length e
      rw [List.length_append, List.length_nil] at this
      omega
    rw [textB, if_neg hne, List.length_append, hXl, Nat.add_sub_cancel, List.take_left' rfl, List.drop_left' rfl, headB_recs, ← hX, List.take_left' (put_len u)]
    rfl
theorem textB_len {b : List Int} : (textB b).length ≤ 1 + (headB (b.take (b.length - 62))).length + 30 := by
  unfold textB
  split
  · simp only [List.length_cons, List.length_nil]; omega
  · rw [List.length_cons, List.length_append, List.length_take]; omega
theorem recs_upto {l : List En} {k : Nat} (hk : k ≤ l.length) : (recsC l).take (62 * k) = recsC (l.take k) := by
  have e : recsC l = recsC (l.take k) ++ recsF (headF startC (l.take k)) (l.drop k) := by rw [recsC, recsC, ← recsF_app, List.take_append_drop]
  rw [e]
  exact List.take_left' (by rw [recsC, recsF_len, List.length_take]; omega)
/-- the head ahead of a record -/
theorem head_ahead {b : List Int} (hb : ∀ x ∈ b, 0 ≤ x ∧ x < 256) {k : Nat} (hk : k ≤ (readC b).length) : headB (b.take (62 * k)) = headC ((readC b).take k) := by
  obtain ⟨-, h2, h3, -⟩ := reads_all hb
  have e : b.take (62 * k) = recsC ((readC b).take k) := by
    rw [← recs_upto hk, h2, List.take_take]
    congr 1
    omega
  rw [e, headB_recs]
theorem head_of {b : List Int} {k : Nat} (hr : 62 * k + 62 ≤ b.length) : headB ((b.drop (62 * k)).take 62) = (b.drop (62 * k + 30)).take 32 := by
  have hl : ((b.drop (62 * k)).take 62).length = 62 := by rw [List.length_take, List.length_drop]; omega
  have hne : ¬ (b.drop (62 * k)).take 62 = [] := by
    intro e
    rw [e] at hl
    cases hl
  rw [headB, if_neg hne, hl, List.drop_take, List.drop_drop]
theorem err_form {b : List Int} {k : Nat} {h : List Int} (hk : k ≤ (readC b).length) (h264 : k < 264) (hr : 62 * k + 62 ≤ b.length) (hh : headC ((readC b).take k) = h)
    (hg : gotB ((b.drop (62 * k)).take 30) = false) : k = (readC b).length ∧ errC b = 3 := by
  have e := read_off hk hr hh (fun x => by rw [hg] at x; cases x.1)
  refine ⟨e, ?_⟩
  rw [errC, ← e, if_neg (by omega), if_neg (by omega), hg]
  rfl
theorem err_tag {b : List Int} {k : Nat} {h : List Int} (hk : k ≤ (readC b).length) (h264 : k < 264) (hr : 62 * k + 62 ≤ b.length) (hh : headC ((readC b).take k) = h)
    (hg : gotB ((b.drop (62 * k)).take 30) = true) (hx : ¬ linkP h (getE ((b.drop (62 * k)).take 30)) = (b.drop (62 * k + 30)).take 32) : k = (readC b).length ∧ errC b = 7 := by
  have e := read_off hk hr hh (fun x => hx x.2)
  refine ⟨e, ?_⟩
  rw [errC, ← e, if_neg (by omega), if_neg (by omega), hg]
  rfl
theorem err_end {b : List Int} {k : Nat} (hk : k ≤ (readC b).length) (hN : k = min (b.length / 62) 264) : k = (readC b).length ∧ errC b = if 62 * k = b.length then 0 else 4 := by
  have e := read_end hk (by omega)
  refine ⟨e, ?_⟩
  rw [errC, ← e]
  split
  · rfl
  · rw [if_pos (by omega)]
/-- two lists that go back together -/
def Back (a b : List En) (i k : Nat) : Prop := i ≤ a.length ∧ k ≤ b.length ∧ a.drop i = b.drop k ∧ clashIx a b a.length b.length = clashIx a b i k
theorem back_start (a b : List En) : Back a b a.length b.length := ⟨Nat.le_refl _, Nat.le_refl _, by rw [List.drop_length, List.drop_length], rfl⟩
theorem back_same {a b : List En} {i k : Nat} (h : Back a b i k) (e : a = b) : i = k := by
  obtain ⟨h1, h2, h3, -⟩ := h
  have := congrArg List.length h3
  rw [List.length_drop, List.length_drop, e] at this
  rw [e] at h1
  omega
theorem back_off {a b : List En} {i k : Nat} (h : Back a b i k) (hP : putC a = true) (hQ : putC b = true) (hh : headC a = headC b) (ht : ¬ textC (a.take i) = textC (b.take k)) :
    clashB a b = true ∧ clashP a b = (textC (a.take i), textC (b.take k)) := by
  have hne : ¬ a = b := by
    intro e
    have := back_same h e
    subst this
    exact ht (by rw [e])
  have hc : clashB a b = true := by rw [clashB, hP, hQ, decide_eq_true hh, decide_eq_false hne]; rfl
  obtain ⟨-, -, -, h4⟩ := h
  have e2 : clashIx a b i k = (i, k) := by
    cases i with
    | zero => cases k <;> rfl
    | succ i =>
      cases k with
      | zero => rfl
      | succ k => rw [clashIx, if_neg ht]
  refine ⟨hc, ?_⟩
  rw [clashP, if_pos hc, h4, e2]
theorem text_long {l : List En} {i : Nat} (hi : i < l.length) : (textC (l.take (i + 1))).length = 63 := by
  rw [(text_take (List.getElem?_eq_getElem hi)).1, linkT, List.length_cons, List.length_append, headC_len, put_len]
theorem back_none {a b : List En} {k : Nat} (h : Back a b 0 k) (ht : textC (a.take 0) = textC (b.take k)) : clashB a b = false ∧ clashP a b = ([], []) := by
  obtain ⟨h1, h2, h3, -⟩ := h
  have hk : k = 0 := by
    cases k with
    | zero => rfl
    | succ k =>
      have := text_long (l := b) h2
      rw [← ht] at this
      cases this
  subst hk
  rw [List.drop_zero, List.drop_zero] at h3
  have hc : clashB a b = false := by simp [clashB, h3]
  exact ⟨hc, by rw [clashP, hc]; rfl⟩
theorem back_on {a b : List En} {i k : Nat} (h : Back a b (i + 1) k) (ha : mayC a = true) (hb : mayC b = true) (oa : ∀ u ∈ a, u.ok) (ob : ∀ u ∈ b, u.ok) (ht : textC (a.take (i + 1)) = textC (b.take k)) :
    ∃ j, k = j + 1 ∧ Back a b i j := by
  obtain ⟨h1, h2, h3, h4⟩ := h
  cases k with
  | zero =>
    have := text_long (l := a) h1
    rw [ht] at this
    cases this
  | succ j =>
    refine ⟨j, rfl, by omega, by omega, ?_, ?_⟩
    · have e := ht
      rw [(text_take (List.getElem?_eq_getElem h1)).1, (text_take (List.getElem?_eq_getElem h2)).1] at e
      obtain ⟨e1, e2⟩ := linkT_inj (headC_len _) (headC_len _) e
      have mu : mayE a[i] = true := List.all_eq_true.1 ha _ (List.getElem_mem h1)
      have mv : mayE b[j] = true := List.all_eq_true.1 hb _ (List.getElem_mem h2)
      have euv := eput_inj mu (oa _ (List.getElem_mem h1)) mv (ob _ (List.getElem_mem h2)) e2
      rw [List.drop_eq_getElem_cons h1, List.drop_eq_getElem_cons h2, euv, h3]
    · rw [h4, clashIx, if_pos ht]
theorem putC_may {l : List En} (h : putC l = true) : mayC l = true ∧ l.length ≤ 264 := by
  rw [putC, Bool.and_eq_true, decide_eq_true_eq] at h
  exact ⟨h.2, h.1⟩
end Go.Proofs.YtafmompplcaadaaGreatDoor

/- A log, plainly: entries in a chain, in a store; which may be; room, an entry more, a crash meanwhile, a store opened. -/
namespace Go.Proofs.YtafmompplcaadaaGreatDoor
set_option maxRecDepth 100000
set_option linter.unusedVariables false
set_option linter.unusedSimpArgs false
open Go

def nought32 : List Int := noughtsC
structure Lg where
  st : Sp
  l : List En
  head : List Int
/-- what its memory can hold -/
structure Lg.ok (g : Lg) : Prop where
  each : ∀ u ∈ g.l, u.ok
  len : g.head.length = 32
  byte : ∀ j, 0 ≤ g.head.getD j 0 ∧ g.head.getD j 0 < 256
def zeroG : Lg := ⟨⟨0, [], 0⟩, [], noughtsC⟩
def mayG (g : Lg) : Bool := mayP g.st && (putC g.l && (decide (g.st.sure = g.st.data.length) && (decide (recsC g.l = g.st.data) && decide (headC g.l = g.head))))
def sameG (a b : Lg) : Bool := sameP a.st b.st && (sameE a.l b.l && decide (a.head = b.head))
def slotsG (g : Lg) : Int := g.st.cap.tdiv 62
def roomG (g : Lg) : Int := if mayG g then max (slotsG g - 4 - g.l.length) 0 else 0
def recG (g : Lg) (e : En) : List Int := (if mayE e then putE e else []) ++ linkP g.head e
def fullG (g : Lg) (u : Bool) : Bool := decide (slotsG g ≤ g.l.length) || (!u && decide (roomG g = 0))
def addG (g : Lg) (e : En) (u : Bool) : Lg × Int :=
  if mayG g && mayE e then if fullG g u then (g, 12) else (⟨(syncP (writeP g.st (recG g e)).1).1, g.l ++ [e], linkP g.head e⟩, 0) else (g, 1)
def tornG (g : Lg) (e : En) (keep : Int) : Sp := if mayG g && (mayE e && decide ((g.l.length : Int) < slotsG g)) then crashP (writeP g.st (recG g e)).1 keep else g.st
def openG (s : Sp) : Lg × Int := if mayP s then (⟨(cutP s (62 * (readC s.data).length)).1, readC s.data, headC (readC s.data)⟩, 0) else (zeroG, 1)
def newG (room : Int) : Lg × Bool := if 0 ≤ room ∧ room ≤ 16384 then (⟨⟨room, [], 0⟩, [], startC⟩, true) else (zeroG, false)

theorem sameG_self (a : Lg) : sameG a a = true := by simp [sameG, sameP_self, sameE]
theorem sameG_iff {a b : Lg} : sameG a b = true ↔ a = b := by
  obtain ⟨s, l, h⟩ := a
  obtain ⟨s', l', h'⟩ := b
  simp only [sameG, sameE, Bool.and_eq_true, sameP_iff, decide_eq_true_eq, Lg.mk.injEq]
theorem sameG_eq (a b : Lg) : sameG a b = true ∨ sameG a b = false := by cases sameG a b <;> simp
theorem mayG_iff {g : Lg} : mayG g = true ↔ mayP g.st = true ∧ putC g.l = true ∧ g.st.sure = g.st.data.length ∧ recsC g.l = g.st.data ∧ headC g.l = g.head := by
  simp only [mayG, Bool.and_eq_true, decide_eq_true_eq]
theorem mayG_len {g : Lg} (h : mayG g = true) : g.st.data.length = 62 * g.l.length ∧ g.l.length ≤ 264 := by
  obtain ⟨-, h2, -, h4, -⟩ := mayG_iff.1 h
  rw [putC, Bool.and_eq_true, decide_eq_true_eq] at h2
  rw [← h4, recsC, recsF_len]
  exact ⟨rfl, h2.1⟩
/-- a store and its chain, with the numbers as they are -/
theorem log_eta {g : Lg} (h : mayG g = true) : g = ⟨⟨g.st.cap, recsC g.l, 62 * g.l.length⟩, g.l, headC g.l⟩ := by
  obtain ⟨h1, h2, h3, h4, h5⟩ := mayG_iff.1 h
  obtain ⟨hl, -⟩ := mayG_len h
  obtain ⟨⟨c, d, s⟩, l, hd⟩ := g
  simp only at h3 h4 h5 hl ⊢
  rw [h4, h5, h3, hl]
  simp
theorem slots_room {g : Lg} (hc : 0 ≤ g.st.cap) {k : Int} (hk : 0 ≤ k) : k < slotsG g ↔ 62 * (k + 1) ≤ g.st.cap := by
  unfold slotsG
  rw [Int.tdiv_eq_ediv_of_nonneg hc]
  omega
theorem slots_most {g : Lg} (hm : mayP g.st = true) : 0 ≤ slotsG g ∧ slotsG g ≤ 264 := by
  have := may_data hm
  unfold slotsG
  rw [Int.tdiv_eq_ediv_of_nonneg this.1]
  omega
/-- the log with an entry more -/
def moreG (g : Lg) (e : En) : Lg := ⟨⟨g.st.cap, recsC (g.l ++ [e]), 62 * (g.l.length + 1)⟩, g.l ++ [e], headC (g.l ++ [e])⟩
theorem recG_eq {g : Lg} {e : En} (h : mayG g = true) (he : mayE e = true) : g.st.data ++ recG g e = recsC (g.l ++ [e]) ∧ linkP g.head e = headC (g.l ++ [e]) ∧ (recG g e).length = 62 := by
  obtain ⟨-, -, -, h4, h5⟩ := mayG_iff.1 h
  rw [recG, if_pos he, linkP, if_pos he, recsC_snoc, headC_snoc, h4, h5]
  exact ⟨rfl, rfl, by rw [List.length_append, put_len, linkC, csum_len]⟩
theorem write_rec {g : Lg} {e : En} (h : mayG g = true) (he : mayE e = true) (hr : (g.l.length : Int) < slotsG g) : writeP g.st (recG g e) = (⟨g.st.cap, recsC (g.l ++ [e]), 62 * g.l.length⟩, 0) := by
  obtain ⟨h1, h2, h3, h4, h5⟩ := mayG_iff.1 h
  obtain ⟨hl, -⟩ := mayG_len h
  obtain ⟨r1, r2, r3⟩ := recG_eq h he
  have hc := may_data h1
  have hs := (slots_room (g := g) hc.1 (k := g.l.length) (by omega)).1 hr
  rcases write_cases (b := recG g e) h1 with ⟨-, h⟩ | ⟨h, -⟩
  · rw [r3, hl] at h
    omega
  · rw [h, r1, h3, hl]
    simp
theorem more_len (g : Lg) (e : En) : (recsC (g.l ++ [e])).length = 62 * (g.l.length + 1) := by rw [recsC, recsF_len, List.length_append]; rfl
theorem more_may {g : Lg} {e : En} (h : mayG g = true) (he : mayE e = true) (hr : (g.l.length : Int) < slotsG g) : mayG (moreG g e) = true := by
  obtain ⟨h1, h2, h3, h4, h5⟩ := mayG_iff.1 h
  have hc := may_data h1
  have hs := (slots_room (g := g) hc.1 (k := g.l.length) (by omega)).1 hr
  have hml := more_len g e
  rw [putC, Bool.and_eq_true, decide_eq_true_eq] at h2
  rw [mayG_iff]
  refine ⟨may_of ⟨hc.1, hc.2.1, ?_, ?_, ?_⟩, ?_, ?_, rfl, rfl⟩
  · show ((recsC (g.l ++ [e])).length : Int) ≤ g.st.cap
    rw [hml]; omega
  · show (0 : Int) ≤ 62 * (g.l.length + 1)
    omega
  · show (62 * (g.l.length + 1) : Int) ≤ ((recsC (g.l ++ [e])).length : Int)
    rw [hml]; omega
  · show putC (g.l ++ [e]) = true
    rw [putC, mayC_snoc, h2.2, he, Bool.and_self, Bool.and_true, decide_eq_true_eq, List.length_append]
    simp only [List.length_cons, List.length_nil]
    omega
  · show (62 * (g.l.length + 1) : Int) = ((recsC (g.l ++ [e])).length : Int)
    rw [hml]; omega
theorem add_ok {g : Lg} {e : En} {u : Bool} (h : mayG g = true) (he : mayE e = true) (hf : fullG g u = false) : addG g e u = (moreG g e, 0) := by
  have hr : (g.l.length : Int) < slotsG g := by
    rw [fullG, Bool.or_eq_false_iff, decide_eq_false_iff_not] at hf
    omega
  obtain ⟨r1, r2, r3⟩ := recG_eq h he
  have hm := more_may h he hr
  have hw := write_rec h he hr
  have hwm := (write_may (mayG_iff.1 h).1 hw).1
  rw [addG, h, he, hf, hw, sync_ok hwm, r2]
  simp only [Bool.and_self, if_true, moreG, Bool.false_eq_true, if_false]
  rw [more_len]
  simp
theorem add_full {g : Lg} {e : En} {u : Bool} (h : mayG g = true) (he : mayE e = true) (hf : fullG g u = true) : addG g e u = (g, 12) := by rw [addG, h, he, hf]; rfl
theorem add_bad {g : Lg} {e : En} {u : Bool} (h : mayG g = false ∨ mayE e = false) : addG g e u = (g, 1) := by
  rw [addG]
  rcases h with h | h <;> simp [h]
theorem open_log {g : Lg} (h : mayG g = true) (ho : ∀ u ∈ g.l, u.ok) : openG g.st = (g, 0) := by
  obtain ⟨h1, h2, h3, h4, h5⟩ := mayG_iff.1 h
  obtain ⟨hl, hl2⟩ := mayG_len h
  have hr : readC g.st.data = g.l := by
    rw [← h4]
    rw [putC, Bool.and_eq_true] at h2
    exact put_read h2.2 ho hl2
  rw [openG, if_pos h1, hr]
  rcases cut_cases (k := 62 * (g.l.length : Int)) h1 with ⟨-, h⟩ | ⟨j, hj, hjl, hc⟩
  · omega
  · rw [hc]
    have : j = g.st.data.length := by omega
    subst this
    rw [List.take_length, ← h3, h5]
/-- behind a crash in the midst -/
theorem torn_cases {g : Lg} {e : En} (keep : Int) (h : mayG g = true) (he : mayE e = true) (hr : (g.l.length : Int) < slotsG g) :
    ∃ j : Nat, tornG g e keep = ⟨g.st.cap, (recsC (g.l ++ [e])).take j, j⟩ ∧ 62 * g.l.length ≤ j ∧ j ≤ 62 * (g.l.length + 1) ∧ (keep < 62 → j < 62 * (g.l.length + 1)) ∧ (62 ≤ keep → j = 62 * (g.l.length + 1)) := by
  have hw := write_rec h he hr
  have hwm := (write_may (mayG_iff.1 h).1 hw).1
  have hml := more_len g e
  obtain ⟨j, hj, h1, h2, h3⟩ := kept_at (keep := keep) hwm
  rw [tornG, h, he, decide_eq_true hr, Bool.and_self, Bool.and_self, if_pos rfl, hw]
  rw [keptP] at hj
  simp only at hj h1 h2
  rw [hml] at hj h2
  refine ⟨j, h3, by omega, by omega, fun hk => ?_, fun hk => ?_⟩
  · omega
  · omega
theorem open_torn {g : Lg} {e : En} {j : Nat} (h : mayG g = true) (he : mayE e = true) (hr : (g.l.length : Int) < slotsG g) (ho : ∀ u ∈ g.l, u.ok) (hoe : e.ok) (h1 : 62 * g.l.length ≤ j) (h2 : j < 62 * (g.l.length + 1)) :
    openG ⟨g.st.cap, (recsC (g.l ++ [e])).take j, j⟩ = (g, 0) := by
  obtain ⟨m1, m2, m3, m4, m5⟩ := mayG_iff.1 h
  obtain ⟨hl, hl2⟩ := mayG_len h
  have hc := may_data m1
  have hs := (slots_room (g := g) hc.1 (k := g.l.length) (by omega)).1 hr
  have hml := more_len g e
  have hmm := more_may h he hr
  have hpm := (mayG_iff.1 hmm).2.1
  have hpm : putC (g.l ++ [e]) = true := hpm
  rw [putC, Bool.and_eq_true, decide_eq_true_eq] at hpm
  have hoa : ∀ v ∈ g.l ++ [e], v.ok := fun v hv => by
    rcases List.mem_append.1 hv with hv | hv
    · exact ho v hv
    · rw [List.mem_singleton] at hv; rw [hv]; exact hoe
  have hlen : (g.l ++ [e]).length = g.l.length + 1 := by rw [List.length_append]; rfl
  have hrd := torn_read hpm.2 hoa hpm.1 j (by rw [hlen]; omega)
  have hq : j / 62 = g.l.length := by omega
  rw [hq, List.take_left' rfl] at hrd
  have hjl : ((recsC (g.l ++ [e])).take j).length = j := by rw [List.length_take, hml]; omega
  have hmay : mayP ⟨g.st.cap, (recsC (g.l ++ [e])).take j, j⟩ = true := may_of ⟨hc.1, hc.2.1, by simp only [hjl]; omega, by simp, by simp only [hjl]; omega⟩
  rw [openG, if_pos hmay, hrd]
  rcases cut_cases (k := 62 * (g.l.length : Int)) hmay with ⟨-, h⟩ | ⟨i, hi, hil, hcu⟩
  · simp only [hjl] at h
    omega
  · have hi2 : i = 62 * g.l.length := by omega
    have e1 : ((recsC (g.l ++ [e])).take j).take (62 * g.l.length) = recsC g.l := by
      rw [List.take_take, Nat.min_eq_left h1, recsC_snoc]
      exact List.take_left' (by rw [recsC, recsF_len])
    rw [hcu, hi2]
    simp only [e1]
    conv => rhs; rw [log_eta h]
    simp
/-- what is opened of any store -/
theorem open_any {s : Sp} (hm : mayP s = true) (hb : ∀ x ∈ s.data, 0 ≤ x ∧ x < 256) :
    openG s = (⟨⟨s.cap, s.data.take (62 * (readC s.data).length), 62 * (readC s.data).length⟩, readC s.data, headC (readC s.data)⟩, 0) ∧ mayG (openG s).1 = true ∧ ∀ u ∈ (openG s).1.l, u.ok := by
  obtain ⟨r1, r2, r3, r4⟩ := reads_all hb
  have hd := may_data hm
  have e : openG s = (⟨⟨s.cap, s.data.take (62 * (readC s.data).length), 62 * (readC s.data).length⟩, readC s.data, headC (readC s.data)⟩, 0) := by
    rw [openG, if_pos hm]
    rcases cut_cases (k := 62 * ((readC s.data).length : Int)) hm with ⟨-, h⟩ | ⟨i, hi, hil, hcu⟩
    · omega
    · have hi2 : i = 62 * (readC s.data).length := by omega
      rw [hcu, hi2]
      simp
  have hl : (s.data.take (62 * (readC s.data).length)).length = 62 * (readC s.data).length := by rw [List.length_take]; omega
  refine ⟨e, ?_, ?_⟩
  · rw [e, mayG_iff]
    refine ⟨may_of ⟨hd.1, hd.2.1, ?_, ?_, ?_⟩, r1, ?_, r2, rfl⟩
    · show ((s.data.take (62 * (readC s.data).length)).length : Int) ≤ s.cap
      rw [hl]; omega
    · show (0 : Int) ≤ 62 * ((readC s.data).length : Int)
      omega
    · show (62 * ((readC s.data).length : Int)) ≤ ((s.data.take (62 * (readC s.data).length)).length : Int)
      rw [hl]; omega
    · show (62 * ((readC s.data).length : Int)) = ((s.data.take (62 * (readC s.data).length)).length : Int)
      rw [hl]; omega
  · rw [e]
    exact r4
end Go.Proofs.YtafmompplcaadaaGreatDoor

/- What the laws on a log ask, plainly. -/
namespace Go.Proofs.YtafmompplcaadaaGreatDoor
set_option maxRecDepth 100000
set_option linter.unusedVariables false
set_option linter.unusedSimpArgs false
open Go

theorem add_cases {g : Lg} {e : En} {u : Bool} (h : mayG g = true) :
    (mayE e = false ∧ addG g e u = (g, 1)) ∨ (mayE e = true ∧ fullG g u = true ∧ addG g e u = (g, 12)) ∨ (mayE e = true ∧ fullG g u = false ∧ (g.l.length : Int) < slotsG g ∧ addG g e u = (moreG g e, 0)) := by
  cases he : mayE e with
  | false => exact .inl ⟨rfl, add_bad (.inr he)⟩
  | true =>
    cases hf : fullG g u with
    | true => exact .inr (.inl ⟨rfl, rfl, add_full h he hf⟩)
    | false =>
      refine .inr (.inr ⟨rfl, rfl, ?_, add_ok h he hf⟩)
      rw [fullG, Bool.or_eq_false_iff, decide_eq_false_iff_not] at hf
      omega
theorem more_ok {g : Lg} {e : En} (ho : ∀ u ∈ g.l, u.ok) (hoe : e.ok) : ∀ u ∈ (moreG g e).l, u.ok := fun v hv => by
  rcases List.mem_append.1 hv with hv | hv
  · exact ho v hv
  · rw [List.mem_singleton] at hv; rw [hv]; exact hoe
theorem moreG_parts (g : Lg) (e : En) : (moreG g e).l.length = g.l.length + 1 ∧ (moreG g e).l[g.l.length]? = some e ∧ (moreG g e).l.take g.l.length = g.l ∧ (moreG g e).st.sure = ((moreG g e).st.data.length : Int) ∧ (moreG g e).st.data.length = 62 * (g.l.length + 1) ∧ (moreG g e).st.cap = g.st.cap := by
  have hml := more_len g e
  refine ⟨by show (g.l ++ [e]).length = _; rw [List.length_append]; rfl, by show (g.l ++ [e])[g.l.length]? = _; rw [List.getElem?_append_right (Nat.le_refl _), Nat.sub_self]; rfl, List.take_left' rfl, ?_, hml, rfl⟩
  show (62 * (g.l.length + 1) : Int) = ((recsC (g.l ++ [e])).length : Int)
  rw [hml]; omega
/-- what is added -/
theorem adds_all {g : Lg} {e : En} {u : Bool} (h : mayG g = true) (ho : ∀ u ∈ g.l, u.ok) (hoe : e.ok) :
    ((addG g e u).2 ≠ 0 ∧ (addG g e u).1 = g) ∨ (addG g e u = (moreG g e, 0) ∧ openG (moreG g e).st = (moreG g e, 0) ∧ mayG (moreG g e) = true) := by
  rcases add_cases (e := e) (u := u) h with ⟨-, h2⟩ | ⟨-, -, h2⟩ | ⟨he, -, hr, h2⟩
  · rw [h2]; exact .inl ⟨by simp, rfl⟩
  · rw [h2]; exact .inl ⟨by simp, rfl⟩
  · have hm := more_may h he hr
    exact .inr ⟨h2, open_log hm (more_ok ho hoe), hm⟩
/-- a crash in the midst of adding -/
theorem torn_all_g {g : Lg} {e : En} {keep : Int} (h : mayG g = true) (ho : ∀ u ∈ g.l, u.ok) (hoe : e.ok) :
    ((addG g e true).2 ≠ 0 ∨ keep < 62 → openG (tornG g e keep) = (g, 0)) ∧ ((addG g e true).2 = 0 → 62 ≤ keep → openG (tornG g e keep) = ((addG g e true).1, 0)) := by
  rcases add_cases (e := e) (u := true) h with ⟨he, h2⟩ | ⟨he, hf, h2⟩ | ⟨he, -, hr, h2⟩
  · have ht : tornG g e keep = g.st := by rw [tornG, he]; simp
    rw [h2, ht]
    exact ⟨fun _ => open_log h ho, fun h3 => by simp at h3⟩
  · have hr : ¬ (g.l.length : Int) < slotsG g := by
      rw [fullG, Bool.not_true, Bool.false_and, Bool.or_false, decide_eq_true_eq] at hf
      omega
    have ht : tornG g e keep = g.st := by rw [tornG, he, decide_eq_false hr]; simp
    rw [h2, ht]
    exact ⟨fun _ => open_log h ho, fun h3 => by simp at h3⟩
  · obtain ⟨j, hj, h1, h3, h4, h5⟩ := torn_cases keep h he hr
    rw [h2, hj]
    refine ⟨fun hk => ?_, fun _ hk => ?_⟩
    · have hk : keep < 62 := by
        rcases hk with hk | hk
        · exact absurd rfl hk
        · exact hk
      exact open_torn h he hr ho hoe h1 (h4 hk)
    · have hj2 := h5 hk
      have hm := more_may h he hr
      have := open_log hm (more_ok ho hoe)
      rw [hj2, List.take_of_length_le (by rw [more_len]; exact Nat.le_refl _)]
      have e1 : (moreG g e).st = ⟨g.st.cap, recsC (g.l ++ [e]), ((62 * (g.l.length + 1) : Nat) : Int)⟩ := by
        show (⟨g.st.cap, recsC (g.l ++ [e]), 62 * ((g.l.length : Int) + 1)⟩ : Sp) = _
        congr 1
      rw [e1] at this
      exact this
/-- what is opened -/
theorem opens_all {s : Sp} (hb : ∀ x ∈ s.data, 0 ≤ x ∧ x < 256) :
    (mayP s = false ∧ openG s = (zeroG, 1)) ∨ (mayP s = true ∧ (openG s).2 = 0 ∧ mayG (openG s).1 = true ∧ openG (openG s).1.st = ((openG s).1, 0) ∧ (openG s).1.l = readC s.data ∧ (openG s).1.head = headC (readC s.data) ∧
      (openG s).1.st.data = s.data.take (62 * (readC s.data).length) ∧ (openG s).1.st.cap = s.cap) := by
  cases hm : mayP s with
  | false => exact .inl ⟨rfl, by rw [openG, hm]; rfl⟩
  | true =>
    obtain ⟨h1, h2, h3⟩ := open_any hm hb
    refine .inr ⟨rfl, by rw [h1], h2, open_log h2 h3, ?_, ?_, ?_, ?_⟩ <;> rw [h1]
theorem room_in {g : Lg} (h : mayG g = true) : roomG g = max (slotsG g - 4 - g.l.length) 0 := by rw [roomG, h]; rfl
theorem more_slots (g : Lg) (e : En) : slotsG (moreG g e) = slotsG g := rfl
theorem more_room {g : Lg} {e : En} (h : mayG g = true) (he : mayE e = true) (hr : (g.l.length : Int) < slotsG g) : roomG (moreG g e) = max (slotsG g - 4 - g.l.length - 1) 0 := by
  rw [room_in (more_may h he hr), more_slots, (moreG_parts g e).1]
  congr 1
  omega
/-- as long as there is room -/
theorem full_all {g : Lg} {e : En} (h : mayG g = true) (he : mayE e = true) :
    ((addG g e false).2 = 0 ↔ 0 < roomG g) ∧ ((addG g e true).2 = 0 ↔ (g.l.length : Int) < slotsG g) ∧ ((addG g e false).2 = 0 ∨ (addG g e false).2 = 12) ∧ ((addG g e true).2 = 0 ∨ (addG g e true).2 = 12) ∧
    ((addG g e false).2 = 0 → (addG g e false).1 = (addG g e true).1 ∧ roomG (addG g e false).1 = roomG g - 1) ∧ 0 ≤ roomG g ∧ roomG g ≤ 264 ∧ (roomG g = 0 ∨ roomG g = slotsG g - 4 - g.l.length) := by
  have hs := slots_most (mayG_iff.1 h).1
  have hrm := room_in h
  have key : 0 < roomG g → (g.l.length : Int) < slotsG g := fun h => by rw [hrm] at h; omega
  have hF : fullG g false = (decide (roomG g = 0) || decide (slotsG g ≤ g.l.length)) := by rw [fullG, Bool.not_false, Bool.true_and, Bool.or_comm]
  have hT : fullG g true = decide (slotsG g ≤ g.l.length) := by rw [fullG, Bool.not_true, Bool.false_and, Bool.or_false]
  have hnn : 0 ≤ roomG g := by rw [hrm]; omega
  have a1 : (addG g e false).2 = 0 ↔ 0 < roomG g := by
    rcases add_cases (e := e) (u := false) h with ⟨h1, -⟩ | ⟨-, h1, h2⟩ | ⟨-, h1, h2, h3⟩
    · rw [he] at h1; cases h1
    · rw [h2]
      rw [hF, Bool.or_eq_true, decide_eq_true_eq, decide_eq_true_eq] at h1
      simp only [show (12 : Int) ≠ 0 by decide, false_iff]
      omega
    · rw [h3]
      rw [hF, Bool.or_eq_false_iff, decide_eq_false_iff_not, decide_eq_false_iff_not] at h1
      simp only [true_iff]
      omega
  have a2 : (addG g e true).2 = 0 ↔ (g.l.length : Int) < slotsG g := by
    rcases add_cases (e := e) (u := true) h with ⟨h1, -⟩ | ⟨-, h1, h2⟩ | ⟨-, h1, h2, h3⟩
    · rw [he] at h1; cases h1
    · rw [h2]
      rw [hT, decide_eq_true_eq] at h1
      simp only [show (12 : Int) ≠ 0 by decide, false_iff]
      omega
    · rw [h3]
      simp only [true_iff]
      exact h2
  refine ⟨a1, a2, ?_, ?_, ?_, hnn, by rw [hrm]; omega, by rw [hrm]; omega⟩
  · rcases add_cases (e := e) (u := false) h with ⟨h1, -⟩ | ⟨-, h1, h2⟩ | ⟨-, h1, h2, h3⟩
    · rw [he] at h1; cases h1
    · rw [h2]; exact .inr rfl
    · rw [h3]; exact .inl rfl
  · rcases add_cases (e := e) (u := true) h with ⟨h1, -⟩ | ⟨-, h1, h2⟩ | ⟨-, h1, h2, h3⟩
    · rw [he] at h1; cases h1
    · rw [h2]; exact .inr rfl
    · rw [h3]; exact .inl rfl
  · intro h0
    have hpos := a1.1 h0
    have hlt := key hpos
    have e1 : addG g e false = (moreG g e, 0) := by
      rcases add_cases (e := e) (u := false) h with ⟨h1, h2⟩ | ⟨-, h1, h2⟩ | ⟨-, h1, h2, h3⟩
      · rw [h2] at h0; simp at h0
      · rw [h2] at h0; simp at h0
      · exact h3
    have e2 : addG g e true = (moreG g e, 0) := add_ok h he (by rw [hT, decide_eq_false_iff_not]; omega)
    rw [e1, e2]
    exact ⟨rfl, by rw [more_room h he hlt, hrm]; rw [hrm] at hpos; omega⟩
/-- urgent ones, one behind the other -/
def waitG (g : Lg) (e : En) : Nat → Lg
  | 0 => g
  | i + 1 => (addG (waitG g e i) e true).1
theorem wait_at {g : Lg} {e : En} (h : mayG g = true) (he : mayE e = true) (hr : roomG g = 0) (ho : ∀ u ∈ g.l, u.ok) (hoe : e.ok) (i : Nat) :
    mayG (waitG g e i) = true ∧ slotsG (waitG g e i) = slotsG g ∧ ((waitG g e i).l.length : Int) = g.l.length + min (i : Int) (max (slotsG g - g.l.length) 0) ∧ (∀ u ∈ (waitG g e i).l, u.ok) := by
  induction i with
  | zero => exact ⟨h, rfl, by show (g.l.length : Int) = _; simp only [Int.natCast_zero]; omega, ho⟩
  | succ i ih =>
    obtain ⟨i1, i2, i3, i4⟩ := ih
    rcases add_cases (e := e) (u := true) i1 with ⟨h1, -⟩ | ⟨-, h1, h2⟩ | ⟨-, h1, h2, h3⟩
    · rw [he] at h1; cases h1
    · have hT : slotsG (waitG g e i) ≤ (waitG g e i).l.length := by
        rw [fullG, Bool.not_true, Bool.false_and, Bool.or_false, decide_eq_true_eq] at h1
        exact h1
      rw [waitG, h2]
      refine ⟨i1, i2, ?_, i4⟩
      show ((waitG g e i).l.length : Int) = _
      rw [i2] at hT
      push_cast
      omega
    · rw [waitG, h3]
      refine ⟨more_may i1 he h2, by rw [more_slots]; exact i2, ?_, more_ok i4 hoe⟩
      show ((moreG (waitG g e i) e).l.length : Int) = _
      rw [(moreG_parts _ _).1]
      rw [i2] at h2
      push_cast
      omega
theorem wait_all {g : Lg} {e : En} (h : mayG g = true) (he : mayE e = true) (hr : roomG g = 0) (ho : ∀ u ∈ g.l, u.ok) (hoe : e.ok) (i : Nat) :
    ((addG (waitG g e i) e true).2 = 0 ↔ (i : Int) < slotsG g - g.l.length) ∧ roomG (waitG g e (i + 1)) = 0 ∧ slotsG g - g.l.length ≤ 4 := by
  obtain ⟨i1, i2, i3, -⟩ := wait_at h he hr ho hoe i
  obtain ⟨j1, j2, j3, -⟩ := wait_at h he hr ho hoe (i + 1)
  have hrm := room_in h
  rw [hr] at hrm
  refine ⟨?_, ?_, by omega⟩
  · rw [(full_all i1 he).2.1, i2]
    omega
  · rw [room_in j1, j2]
    push_cast at j3
    omega
end Go.Proofs.YtafmompplcaadaaGreatDoor

/- append(v[:n:n], s...) of bytes, whoever's v is; v[:n:n]. -/
namespace Go.Proofs.YtafmompplcaadaaGreatDoor
set_option maxRecDepth 100000
set_option linter.unusedVariables false
set_option linter.unusedSimpArgs false
open Go.RowKit

/-- the whole of it, without room behind -/
theorem run_full {w0 : World} {A : Option Addr} {n cap : Nat} {l : List Int} (hb : Bts w0 A n cap l) :
    (∀ w : World, (Instr.slice 22 (.slice A n cap) none (some (.int .i64 n)) (some (.int .i64 n))).run Tryz.prog w = .ok (.slice A n n) w) ∧ Bts w0 A n n l := by
  have hle := hb.le
  refine ⟨fun w => ?_, hb.len, Nat.le_refl _, Nat.le_trans hb.le hb.max, hb.ok, fun h => ?_, hb.at_⟩
  · rw [run_slice_hm (P := Tryz.prog) w 22 A n cap (by kernel_rfl) .i64 .i64 n n (by omega) (by omega) (by omega), size_u8]
    simp only [Result.andThen_ok, sliced, Int.toNat_natCast, Nat.zero_mul, Nat.sub_zero]
    have e : A.map (fun x => x.add 0) = A := by
      cases A with
      | none => rfl
      | some a => simp [Addr.add]
    rw [e]
    simp
  · have := hb.bare h
    omega
theorem run_append_zero (ty : TypeId) (A B : Option Addr) (n c : Nat) (w : World) : (Builtin.append_ #[22, 22] ty #[.slice A n n, .slice B 0 c]).run Tryz.prog w = .ok (.slice A n n) w := by
  obtain ⟨i, hi, hz, h1, h2⟩ := info_parts info_u8
  cases B with
  | none => cases A <;> simp [Builtin.append_, run_underlying Tryz.underlying22, sizeOf, typeInfo, hi, h1, Builtin.lenOf, run_firstCells_none, storeCells, Addr.add]
  | some b =>
    have hf := fun w => run_firstCells_some (P := Tryz.prog) w 1 0 b 0 c [] rfl (fun j v h => by simp at h)
    cases A <;> simp [Builtin.append_, run_underlying Tryz.underlying22, sizeOf, typeInfo, hi, h1, Builtin.lenOf, hf, storeCells, Addr.add]
/-- append(v, s...): v whoever's, without room behind -/
theorem wpList_append_full {w : World} {ops : Array Oper} {rest : List Oper} {o : Oper} {a : Act} {Q : Exit → Act → World → Prop} (hgd : o.guard = none) (s x : Operand)
    (ho : o.op = .call { callee := .builtin .append, args := #[s, x], argTypes := #[22, 22] })
    (A : Option Addr) (n : Nat) (l : List Int) (hs : a.eval s = .slice A n n) (hb : Bts w A n n l) (B : Option Addr) (m c : Nat) (l2 : List Int) (hx : a.eval x = .slice B m c) (hr : Bts w B m c l2)
    (hsmall : n + m ≤ 140737488355328)
    (h : ∀ A' k c' w', k = n + m → Bts w' A' k c' (l ++ l2) → ((A' = A ∧ k = n) ∨ ∀ a, A' = some a → w.heap.size ≤ a.block) → Below w.heap.size w w' → wpList Tryz.prog ops Q rest (a.put o.dst (.slice A' k c')) w') : wpList Tryz.prog ops Q (o :: rest) a w := by
  obtain ⟨i, hi, hz, h1, h2⟩ := info_parts info_u8
  by_cases hm : m = 0
  · subst hm
    obtain rfl : l2 = [] := List.eq_nil_of_length_eq_zero hr.len
    have hrun := run_append_zero o.type A B n c w
    refine wpList_plain hgd fun K hK => ?_
    unfold Oper.wp
    simp [execOp, ho, resolve, invoke, builtin, hs, hx, hrun, Result.andThen]
    exact hK _ _ (h A n n w rfl (by rw [List.append_nil]; exact hb) (.inl ⟨rfl, rfl⟩) (Below.refl _ _))
  · have hl2 : (byv l2).length = m * 1 := by rw [byv_length, hr.len, Nat.mul_one]
    have hl1 : (byv l).length = n * 1 := by rw [byv_length, hb.len, Nat.mul_one]
    obtain ⟨b, off, rfl, hc⟩ := hr.at_ (by omega)
    refine wpList_append_grows (P := Tryz.prog) w hgd s x 22 ho 5 i (.int .u8 0) 1 1 Tryz.underlying22 hi hz h1 h2 rfl (by omega) A n n (byv l) hs (fun e => by have := hb.bare e; omega) hl1 ?_ ⟨b, off, none⟩ m c (byv l2) hx hl2 ?_ (byv_one l2) (by omega) (by unfold maxLen; omega) (by omega) ?_
    · intro ad had j u hu
      have hj : j < l.length := by
        have := (List.getElem?_eq_some_iff.1 hu).1
        rwa [byv_length] at this
      rw [byv_get l j hj] at hu
      obtain ⟨b2, off2, hA, hc2⟩ := hb.at_ (by have := hb.len; omega)
      rw [hA] at had
      injection had with had
      subst had
      rw [add_addr, hc2 j (by have := hb.len; omega), hu]
    · intro j u hu
      have hj : j < l2.length := by
        have := (List.getElem?_eq_some_iff.1 hu).1
        rwa [byv_length] at this
      rw [byv_get l2 j hj] at hu
      rw [add_addr, hc j (by have := hr.len; omega), hu]
    · intro v' w' hown hg
      have ho2 : Own w' w.heap.size v' (l ++ l2) := by
        unfold Own
        rw [byv_append, List.length_append, hr.len, hb.len]
        exact hown
      obtain ⟨A', c', rfl, hb'⟩ := ho2.bts (ok_append hb.ok hr.ok)
      have e : (l ++ l2).length = n + m := by rw [List.length_append, hr.len, hb.len]
      rw [e] at hb'
      rw [show Value.slice A' (l ++ l2).length c' = .slice A' (n + m) c' from by rw [e]]
      exact h A' (n + m) c' w' rfl hb' (.inr fun a ha => by subst ha; exact (ho2.size _ rfl).1) ((Below.refl _ _).grown hg (Nat.le_refl _) (fun k hk => by cases hk))
/-- the bytes lie in none of these blocks -/
def Far (A : Option Addr) (n lo hi : Nat) : Prop := ∀ a, A = some a → 0 < n → a.block < lo ∨ hi ≤ a.block
theorem Bts.far {w : World} {A : Option Addr} {n c : Nat} {l : List Int} (h : Bts w A n c l) (hi : Nat) : Far A n w.heap.size hi := fun a ha hn => by
  obtain ⟨b, off, hA, hc⟩ := h.at_ hn
  rw [ha] at hA
  injection hA with hA
  subst hA
  exact .inl (block_lt_of_cell (hc 0 hn))
theorem Far.part {A : Option Addr} {n k lo hi : Nat} (h : Far A n lo hi) (hk : k ≤ n) : Far A k lo hi := fun a ha hn => h a ha (by omega)
theorem far_full {w : World} {A A' : Option Addr} {n k c hi : Nat} {l : List Int} (hb : Bts w A n c l) (h : (A' = A ∧ k = n) ∨ ∀ a, A' = some a → hi ≤ a.block) : Far A' k w.heap.size hi := fun a ha hn => by
  rcases h with ⟨rfl, rfl⟩ | h
  · exact hb.far hi a ha hn
  · exact .inr (h a ha)
theorem Bts.set {w : World} {A : Option Addr} {n c : Nat} {l : List Int} (h : Bts w A n c l) {lo hi g i : Nat} (hf : Far A n lo hi) (h1 : lo ≤ g) (h2 : g < hi) (v : Value) : Bts (w.setCell ⟨g, i, none⟩ v) A n c l :=
  ⟨h.len, h.le, h.max, h.ok, h.bare, fun hn => by
    obtain ⟨b, off, hA, hc⟩ := h.at_ hn
    refine ⟨b, off, hA, fun j hj => ?_⟩
    have hne : b ≠ g := by have := hf _ hA hn; simp only at this; omega
    rw [World.cell?_setCell_far _ _ _ _ (fun e => hne e.symm)]
    exact hc j hj⟩
theorem Far.two {w : World} {o1 o2 : Obj} {A : Option Addr} {n lo : Nat} (h : Far A n lo ((w.alloc o1).alloc o2).heap.size) : Far A n lo (w.heap.size + 2) := by
  have e : ((w.alloc o1).alloc o2).heap.size = w.heap.size + 2 := by simp
  rw [e] at h
  exact h
/-- three cells, overwritten -/
theorem set3_heap {w : World} {g : Nat} {t : TypeId} {a b c : Value} (x y z : Value) (h : w.heap[g]? = some (.cells #[a, b, c] t (0, 0))) :
    (((w.setCell ⟨g, 0, none⟩ x).setCell ⟨g, 1, none⟩ y).setCell ⟨g, 2, none⟩ z).heap[g]? = some (.cells #[x, y, z] t (0, 0)) :=
  heap_setCell_same _ _ _ _ _ _ (heap_setCell_same _ _ _ _ _ _ (heap_setCell_same _ _ _ _ _ _ h))
theorem set3_below {B : Nat} {w0 w : World} (h : Below B w0 w) {g : Nat} (hg : B ≤ g) (x y z : Value) : Below B w0 (((w.setCell ⟨g, 0, none⟩ x).setCell ⟨g, 1, none⟩ y).setCell ⟨g, 2, none⟩ z) := ((h.setCell hg x).setCell hg y).setCell hg z
theorem Bts.set3 {w : World} {A : Option Addr} {n c : Nat} {l : List Int} (h : Bts w A n c l) {lo hi g : Nat} (hf : Far A n lo hi) (h1 : lo ≤ g) (h2 : g < hi) (x y z : Value) : Bts (((w.setCell ⟨g, 0, none⟩ x).setCell ⟨g, 1, none⟩ y).setCell ⟨g, 2, none⟩ z) A n c l :=
  ((h.set hf h1 h2 x).set hf h1 h2 y).set hf h1 h2 z
end Go.Proofs.YtafmompplcaadaaGreatDoor

/- A region that draws its order, walked by hand: one operation after another, taken first. -/
namespace Go.Proofs.YtafmompplcaadaaGreatDoor
open Go.RowKit

section
variable {P : Program} {l : List Oper} {Q : Exit → Act → World → Prop} {md : Region.Mode} {S : World → Prop} {oi : Oper} {fuel : Nat} {listed : Array Bool} {a : Act} {w : World}
/-- one operation of a region that draws its order, taken first: what it yields hangs on no world -/
theorem take_run (i : Nat) (v : Value) (hi : l[i]? = some oi) (hs : Region.noSelect l.toArray = true) (hf : Region.free md l.toArray listed i = true) (hr : (Region.ready md l.toArray listed).contains i = true)
    (hQ : ∀ c a w, Q (.panic c) (a.put oi.dst v) w → Q (.panic c) a w) (hw : Region.wanted oi (yielded l.toArray a.tmps) = true) (hS : S w) (hrun : ∀ w, (execOp a.eval oi).run P w = .ok (.value v) w)
    (h : wpAnyH P md l.toArray Q S fuel (listed.setIfInBounds i true) (a.put oi.dst v) w) : wpAnyH P md l.toArray Q S (fuel + 1) listed a w :=
  wpAnyH_take (by simpa using hi) hs hf hr hQ (.inl ⟨hw, fun w _ => hrun w⟩) hS h
theorem take_move (i : Nat) (x : Operand) (v : Value) (hi : l[i]? = some oi) (ho : oi.op = .move x) (hv : a.eval x = v) (hs : Region.noSelect l.toArray = true) (hf : Region.free md l.toArray listed i = true) (hr : (Region.ready md l.toArray listed).contains i = true)
    (hQ : ∀ c a w, Q (.panic c) (a.put oi.dst v) w → Q (.panic c) a w) (hw : Region.wanted oi (yielded l.toArray a.tmps) = true) (hS : S w)
    (h : wpAnyH P md l.toArray Q S fuel (listed.setIfInBounds i true) (a.put oi.dst v) w) : wpAnyH P md l.toArray Q S (fuel + 1) listed a w :=
  take_run i v hi hs hf hr hQ hw hS (fun w => by unfold execOp; simp [ho, hv]) h
/-- one that a guard leaves out -/
theorem take_off (i : Nat) (hi : l[i]? = some oi) (hs : Region.noSelect l.toArray = true) (hf : Region.free md l.toArray listed i = true) (hr : (Region.ready md l.toArray listed).contains i = true)
    (hQ : ∀ c a w, Q (.panic c) (a.put oi.dst undef) w → Q (.panic c) a w) (hw : Region.wanted oi (yielded l.toArray a.tmps) = false) (hS : S w)
    (h : wpAnyH P md l.toArray Q S fuel (listed.setIfInBounds i true) (a.put oi.dst undef) w) : wpAnyH P md l.toArray Q S (fuel + 1) listed a w :=
  wpAnyH_take (by simpa using hi) hs hf hr hQ (.inr ⟨hw, rfl⟩) hS h
/-- a load of a long array -/
theorem take_long (i : Nat) (ty : TypeId) (x : Operand) (g : Nat) (cs : List Value) (d : TypeDesc) (hi : l[i]? = some oi) (ho : oi.op = .load ty x) (hx : a.eval x = .pointer (some ⟨g, 0, none⟩)) (hs : Region.noSelect l.toArray = true) (hf : Region.free md l.toArray listed i = true) (hr : (Region.ready md l.toArray listed).contains i = true)
    (hQ : ∀ c a w, Q (.panic c) (a.put oi.dst (.agg cs.toArray)) w → Q (.panic c) a w) (hw : Region.wanted oi (yielded l.toArray a.tmps) = true) (hS : S w) (hat : ∀ w, S w → w.rangeAt g 0 cs)
    (hu : P.underlying ty = some d) (hd : d.isRow = true) (hsz : (P.info? ty).map (·.size) = some cs.length)
    (h : wpAnyH P md l.toArray Q S fuel (listed.setIfInBounds i true) (a.put oi.dst (.agg cs.toArray)) w) : wpAnyH P md l.toArray Q S (fuel + 1) listed a w :=
  wpAnyH_take (by simpa using hi) hs hf hr hQ (yieldsIf_load_mid hw ty x ho g 0 hx cs d hat hu hd hsz) hS h
/-- the only one that may come up -/
theorem one_step (i : Nat) (hr : Region.ready md l.toArray listed = [i]) (hi : l[i]? = some oi)
    (h : ∀ K' : Act → World → Prop, Shut (∀ a w, S w → (S w → wpAnyH P md l.toArray Q S fuel (listed.setIfInBounds i true) a w) → K' a w) → if Region.wanted oi (yielded l.toArray a.tmps) = true then Oper.wp P oi a w K' Q else K' (a.put oi.dst undef) w) :
    wpAnyH P md l.toArray Q S (fuel + 1) listed a w :=
  wpAnyH_ready hr (by simp) (AllReadyH.cons (by simpa using hi) h AllReadyH.nil)
end
section
variable {P : Program} {l : List Oper} {Q : Exit → Act → World → Prop} {md : Region.Mode} {S S' : World → Prop} {oi : Oper} {fuel : Nat} {listed : Array Bool} {a : Act} {w : World}
theorem take_if (i : Nat) (v : Value) (hi : l[i]? = some oi) (hs : Region.noSelect l.toArray = true) (hf : Region.free md l.toArray listed i = true) (hr : (Region.ready md l.toArray listed).contains i = true)
    (hQ : ∀ c a w, Q (.panic c) (a.put oi.dst v) w → Q (.panic c) a w) (hw : Region.wanted oi (yielded l.toArray a.tmps) = true) (hS : S w) (hrun : ∀ w, S w → (execOp a.eval oi).run P w = .ok (.value v) w)
    (h : wpAnyH P md l.toArray Q S fuel (listed.setIfInBounds i true) (a.put oi.dst v) w) : wpAnyH P md l.toArray Q S (fuel + 1) listed a w :=
  wpAnyH_take (by simpa using hi) hs hf hr hQ (.inl ⟨hw, hrun⟩) hS h
theorem wpAnyH_mono {ops : Array Oper} (hSS : ∀ w, S' w → S w) : ∀ (fuel : Nat) {listed : Array Bool} {a : Act} {w : World}, wpAnyH P md ops Q S' fuel listed a w → wpAnyH P md ops Q S fuel listed a w
  | 0, _, _, _, h => h
  | fuel + 1, _, _, _, h => ⟨h.1, fun i hi => wpOp_mono (fun _ _ h' => ⟨hSS _ h'.1, wpAnyH_mono hSS fuel h'.2⟩) (h.2 i hi)⟩
end
section
variable {P : Program} {l : List Oper} {Q : Exit → Act → World → Prop} {md : Region.Mode} {S : World → Prop} {oi oj ok : Oper} {fuel : Nat} {listed : Array Bool} {a : Act} {w : World}
/-- two, or three, that may come up -/
theorem two_steps (i j : Nat) (hr : Region.ready md l.toArray listed = [i, j]) (hi : l[i]? = some oi) (hj : l[j]? = some oj)
    (h1 : ∀ K' : Act → World → Prop, Shut (∀ a w, S w → (S w → wpAnyH P md l.toArray Q S fuel (listed.setIfInBounds i true) a w) → K' a w) → if Region.wanted oi (yielded l.toArray a.tmps) = true then Oper.wp P oi a w K' Q else K' (a.put oi.dst undef) w)
    (h2 : ∀ K' : Act → World → Prop, Shut (∀ a w, S w → (S w → wpAnyH P md l.toArray Q S fuel (listed.setIfInBounds j true) a w) → K' a w) → if Region.wanted oj (yielded l.toArray a.tmps) = true then Oper.wp P oj a w K' Q else K' (a.put oj.dst undef) w) :
    wpAnyH P md l.toArray Q S (fuel + 1) listed a w :=
  wpAnyH_ready hr (by simp) (AllReadyH.cons (by simpa using hi) h1 (AllReadyH.cons (by simpa using hj) h2 AllReadyH.nil))
theorem three_steps (i j k : Nat) (hr : Region.ready md l.toArray listed = [i, j, k]) (hi : l[i]? = some oi) (hj : l[j]? = some oj) (hk : l[k]? = some ok)
    (h1 : ∀ K' : Act → World → Prop, Shut (∀ a w, S w → (S w → wpAnyH P md l.toArray Q S fuel (listed.setIfInBounds i true) a w) → K' a w) → if Region.wanted oi (yielded l.toArray a.tmps) = true then Oper.wp P oi a w K' Q else K' (a.put oi.dst undef) w)
    (h2 : ∀ K' : Act → World → Prop, Shut (∀ a w, S w → (S w → wpAnyH P md l.toArray Q S fuel (listed.setIfInBounds j true) a w) → K' a w) → if Region.wanted oj (yielded l.toArray a.tmps) = true then Oper.wp P oj a w K' Q else K' (a.put oj.dst undef) w)
    (h3 : ∀ K' : Act → World → Prop, Shut (∀ a w, S w → (S w → wpAnyH P md l.toArray Q S fuel (listed.setIfInBounds k true) a w) → K' a w) → if Region.wanted ok (yielded l.toArray a.tmps) = true then Oper.wp P ok a w K' Q else K' (a.put ok.dst undef) w) :
    wpAnyH P md l.toArray Q S (fuel + 1) listed a w :=
  wpAnyH_ready hr (by simp) (AllReadyH.cons (by simpa using hi) h1 (AllReadyH.cons (by simpa using hj) h2 (AllReadyH.cons (by simpa using hk) h3 AllReadyH.nil)))
end
end Go.Proofs.YtafmompplcaadaaGreatDoor

/- '==' between two entries; a load out of a slice of entries. -/
namespace Go.Proofs.YtafmompplcaadaaGreatDoor
set_option maxRecDepth 100000
set_option linter.unusedVariables false
set_option linter.unusedSimpArgs false
open Go.RowKit

theorem ent_part {P : Program} (t : TypeId) (k : IntKind) (cs : Array Value) (off : Nat) (v : Value) (h : P.underlying t = some (.int k)) (hv : cs[off]? = some v) (w : World) : (part t cs off).run P w = .ok v w := by
  simp [part, isAgg, run_underlying h, hv, go_sem]
theorem ent_fields {P : Program} {d : Nat} {xs ys : Array Value} {f : Field} {fs : List Field} {a b : Value} {r : Bool} {w : World} (hn : f.name ≠ "_") (ha : (part f.type xs f.offset).run P w = .ok a w) (hb : (part f.type ys f.offset).run P w = .ok b w) (he : (Op.equalIn d f.type a b).run P w = .ok r w) :
    (Op.eqFields d xs ys (f :: fs)).run P w = if r then (Op.eqFields d xs ys fs).run P w else .ok false w := by
  simp only [Op.eqFields, if_pos hn, Sem.run_bind, ha, hb, he, Result.andThen_ok]
  cases r <;> simp
theorem ent_if (r s : Bool) (w : World) : (if r then (Result.ok s w : Result Bool) else .ok false w) = .ok (r && s) w := by cases r <;> rfl
set_option maxHeartbeats 2000000 in
theorem eq_ens (f g : En) (w : World) : (Op.equalIn 10000 33 (.agg (enA f)) (.agg (enA g))).run Tryz.prog w = .ok (decide (f = g)) w := by
  rw [run_equalIn_struct w 9999 33 _ _ (by kernel_rfl) (by kernel_rfl)]
  unfold Program.fieldsOf
  rw [Tryz.underlying33]
  have p := hasE f
  have q := hasE g
  have i3 := Tryz.underlying3
  have i22 := Tryz.underlying30
  have i23 := Tryz.underlying31
  dsimp only
  have hd : decide (f = g) = (f.kind == g.kind && (f.tick == g.tick && (f.epoch == g.epoch && (f.user == g.user && (f.sess == g.sess && (f.count == g.count && (f.cmd == g.cmd && (f.arg == g.arg && f.code == g.code)))))))) := by
    rcases f with ⟨a0, a1, a2, a3, a4, a5, a6, a7, a8⟩
    rcases g with ⟨b0, b1, b2, b3, b4, b5, b6, b7, b8⟩
    rw [Bool.eq_iff_iff]
    simp
  rw [hd]
  obtain ⟨X, hX⟩ : ∃ X, X = enA f := ⟨_, rfl⟩
  obtain ⟨Y, hY⟩ : ∃ Y, Y = enA g := ⟨_, rfl⟩
  rw [← hX] at p ⊢
  rw [← hY] at q ⊢
  rw [ent_fields (by decide) (ent_part _ _ _ _ _ i3 p.d0 w) (ent_part _ _ _ _ _ i3 q.d0 w) (run_equalIn_int w 9998 _ _ _ _ _ i3),
    ent_fields (by decide) (ent_part _ _ _ _ _ i3 p.d1 w) (ent_part _ _ _ _ _ i3 q.d1 w) (run_equalIn_int w 9998 _ _ _ _ _ i3),
    ent_fields (by decide) (ent_part _ _ _ _ _ i3 p.d2 w) (ent_part _ _ _ _ _ i3 q.d2 w) (run_equalIn_int w 9998 _ _ _ _ _ i3),
    ent_fields (by decide) (ent_part _ _ _ _ _ i3 p.d3 w) (ent_part _ _ _ _ _ i3 q.d3 w) (run_equalIn_int w 9998 _ _ _ _ _ i3),
    ent_fields (by decide) (ent_part _ _ _ _ _ i22 p.d4 w) (ent_part _ _ _ _ _ i22 q.d4 w) (run_equalIn_int w 9998 _ _ _ _ _ i22),
    ent_fields (by decide) (ent_part _ _ _ _ _ i22 p.d5 w) (ent_part _ _ _ _ _ i22 q.d5 w) (run_equalIn_int w 9998 _ _ _ _ _ i22),
    ent_fields (by decide) (ent_part _ _ _ _ _ i3 p.d6 w) (ent_part _ _ _ _ _ i3 q.d6 w) (run_equalIn_int w 9998 _ _ _ _ _ i3),
    ent_fields (by decide) (ent_part _ _ _ _ _ i3 p.d7 w) (ent_part _ _ _ _ _ i3 q.d7 w) (run_equalIn_int w 9998 _ _ _ _ _ i3),
    ent_fields (by decide) (ent_part _ _ _ _ _ i23 p.d8 w) (ent_part _ _ _ _ _ i23 q.d8 w) (run_equalIn_int w 9998 _ _ _ _ _ i23)]
  simp only [Op.eqFields, Sem.run_pure, ent_if, Bool.and_true]
theorem run_eq_en {op : BinOp} {ρ : Operand → Value} {o : Oper} {x y : Operand} {xs ys : Array Value} {E r : Bool} {w : World} (ho : o.op = .binOp op 33 x y 33) (hx : ρ x = .agg xs) (hy : ρ y = .agg ys) (hr : op = .eql ∧ r = E ∨ op = .neq ∧ r = !E)
    (h : (Op.equalIn 10000 33 (.agg xs) (.agg ys)).run Tryz.prog w = .ok E w) : (execOp ρ o).run Tryz.prog w = .ok (.value (.bool r)) w := by
  unfold execOp
  rw [ho]
  have hm : Tryz.prog.eqGuardType Tryz.prog.depth 33 = false := by kernel_rfl
  rcases hr with ⟨rfl, rfl⟩ | ⟨rfl, rfl⟩
  · simp only [hx, hy, Sem.run_bind, run_eqGuard_agg (hm := hm), run_eql_struct, h, Result.andThen_ok, Sem.run_pure, Sem.run_map]
  · simp only [hx, hy, Sem.run_bind, run_eqGuard_agg (hm := hm), run_neq_struct, h, Result.andThen_ok, Sem.run_pure, Sem.run_map]
theorem wpList_eq_en {ops : Array Oper} {rest : List Oper} {o : Oper} {a : Act} {w : World} {Q : Exit → Act → World → Prop} (op : BinOp) (x y : Operand) (ho : o.op = .binOp op 33 x y 33) (xs ys : Array Value) (hx : a.eval x = .agg xs) (hy : a.eval y = .agg ys) (E r : Bool) (hr : op = .eql ∧ r = E ∨ op = .neq ∧ r = !E)
    (hE : ∀ w, (Op.equalIn 10000 33 (.agg xs) (.agg ys)).run Tryz.prog w = .ok E w) (h : wpList Tryz.prog ops Q rest (a.put o.dst (.bool r)) w) (hw : Region.wanted o (yielded ops a.tmps) = true) : wpList Tryz.prog ops Q (o :: rest) a w :=
  wpList_step fun K hK => by
    rw [if_pos hw]
    unfold Oper.wp
    rw [run_eq_en ho hx hy hr (hE w)]
    exact hK _ _ h
theorem run_load_en {ρ : Operand → Value} {o : Oper} {x : Operand} {b off : Nat} {u : En} {w : World} (ho : o.op = .load 33 x) (hx : ρ x = .pointer (some ⟨b, off, none⟩)) (hc : w.rangeAt b off u.row) : (execOp ρ o).run Tryz.prog w = .ok (.value (.agg (enA u))) w := by
  unfold execOp
  have hi : (Tryz.prog.info? 33).map (·.size) = some u.row.length := by rw [erow_len]; kernel_rfl
  simp only [ho, hx, Instr.loadAt, Instr.sureAddr, Sem.run_bind, Sem.run_pure, Result.andThen_ok, run_loadVar_mid w b off 33 u.row _ hc Tryz.underlying33 rfl hi]
  rfl
theorem rangeAt_below {w w' : World} {b o : Nat} {cs : List Value} (h : w.rangeAt b o cs) (hb : Below w.heap.size w w') : w'.rangeAt b o cs := fun j v hv => (hb.cell (p := ⟨b, o + j, none⟩) (block_lt_of_cell (h j v hv))).trans (h j v hv)
/-- one of them, as it lies -/
theorem Ens.range {w : World} {A : Option Addr} {n c : Nat} {l : List En} (h : Ens w A n c l) (j : Nat) (hj : j < n) : ∃ b off u, A = some ⟨b, off, none⟩ ∧ l[j]? = some u ∧ w.rangeAt b (off + j * 9) u.row := by
  obtain ⟨b, off, hA, hc⟩ := h.rws.at_ (by omega)
  have hl : j < l.length := by rw [h.len]; exact hj
  have hr : (l.map En.row).getD j [] = l[j].row := by simp [List.getD_eq_getElem?_getD, hl]
  refine ⟨b, off, l[j], hA, by simp [hl], fun i v hv => ?_⟩
  have hi : i < 9 := (List.getElem?_eq_some_iff.1 hv).1
  have := hc j hj i hi
  rw [hr, List.getD_eq_getElem?_getD, hv] at this
  exact this
end Go.Proofs.YtafmompplcaadaaGreatDoor

/- A log as it lies in memory: its cells, what is loaded of it, how one is built. -/
namespace Go.Proofs.YtafmompplcaadaaGreatDoor
set_option maxRecDepth 100000
set_option linter.unusedVariables false
set_option linter.unusedSimpArgs false
open Go.RowKit

/-- where a log lies, by its parts -/
structure Lp where
  cap : Int
  A : Option Addr
  n : Nat
  c : Nat
  sure : Int
  B : Option Addr
  m : Nat
  d : Nat
  H : List Int
def Lp.cells (p : Lp) : List Value := .int .i64 p.cap :: .slice p.A p.n p.c :: .int .i64 p.sure :: .slice p.B p.m p.d :: byv p.H
def Lp.arr (p : Lp) : Array Value := p.cells.toArray
def Lp.zero : Lp := ⟨0, none, 0, 0, 0, none, 0, 0, noughtsC⟩
theorem lp_size {p : Lp} (h : p.H.length = 32) : p.arr.size = 36 := by simp [Lp.arr, Lp.cells, byv, h]
theorem lp_one (p : Lp) : p.arr.all (·.oneCell') = true := by
  refine all_oneCell_toArray fun v hv => ?_
  simp only [Lp.cells, List.mem_cons] at hv
  rcases hv with rfl | rfl | rfl | rfl | hv
  · rfl
  · rfl
  · rfl
  · rfl
  · exact byv_one _ v hv
theorem info_log {C : Array Value} (h : C.size = 36) : (Tryz.prog.info? 29).map (·.size) = some C.size := by rw [h]; kernel_rfl
/-- a log that reads so -/
structure LgAt (w : World) (p : Lp) (g : Lg) : Prop where
  cap : p.cap = g.st.cap
  sure : p.sure = g.st.sure
  head : p.H = g.head
  data : Bts w p.A p.n p.c g.st.data
  ents : Ens w p.B p.m p.d g.l
  ok : g.ok
  fits : -9223372036854775808 ≤ p.cap ∧ p.cap ≤ 9223372036854775807
theorem LgAt.below {w w' : World} {p : Lp} {g : Lg} (h : LgAt w p g) (hb : Below w.heap.size w w') : LgAt w' p g := ⟨h.cap, h.sure, h.head, h.data.below hb, h.ents.below hb, h.ok, h.fits⟩
theorem LgAt.hlen {w : World} {p : Lp} {g : Lg} (h : LgAt w p g) : p.H.length = 32 := by rw [h.head]; exact h.ok.len
theorem LgAt.hbyte {w : World} {p : Lp} {g : Lg} (h : LgAt w p g) : ∀ j, 0 ≤ p.H.getD j 0 ∧ p.H.getD j 0 < 256 := by rw [h.head]; exact h.ok.byte
theorem LgAt.may {w : World} {p : Lp} {g : Lg} (h : LgAt w p g) : mayT p.cap p.n p.sure = mayP g.st := by rw [mayP, h.cap, h.sure, h.data.len]
theorem LgAt.val {w : World} {p : Lp} {g : Lg} (h : LgAt w p g) : g.st.val p.A p.n p.c = .agg #[.int .i64 p.cap, .slice p.A p.n p.c, .int .i64 p.sure] := by rw [Sp.val, h.cap, h.sure]
theorem LgAt.info {w : World} {p : Lp} {g : Lg} (h : LgAt w p g) : (Tryz.prog.info? 27).map (·.size) = some (byv p.H).length := by rw [byv_length, h.hlen]; kernel_rfl
theorem LgAt.whole {w : World} {p : Lp} {g : Lg} (h : LgAt w p g) : (Tryz.prog.info? 29).map (·.size) = some p.arr.size := info_log (lp_size h.hlen)
theorem zero_at (w : World) : LgAt w Lp.zero zeroG := ⟨rfl, rfl, rfl, Bts.nil w, Ens.nil w, ⟨fun u hu => (by cases hu), rfl, noughts_ok⟩, by decide⟩
section
variable {w : World} {b : Nat} {p : Lp}
theorem lg_cells (h : w.heap[b]? = some (.cells p.arr 29 (0, 0))) : w.cell? ⟨b, 0, none⟩ = some (.int .i64 p.cap) ∧ w.cell? ⟨b, 1, none⟩ = some (.slice p.A p.n p.c) ∧ w.cell? ⟨b, 2, none⟩ = some (.int .i64 p.sure) ∧ w.cell? ⟨b, 3, none⟩ = some (.slice p.B p.m p.d) :=
  ⟨by rw [cell_of_row _ _ _ _ _ _ h]; rfl, by rw [cell_of_row _ _ _ _ _ _ h]; rfl, by rw [cell_of_row _ _ _ _ _ _ h]; rfl, by rw [cell_of_row _ _ _ _ _ _ h]; rfl⟩
theorem lg_head (h : w.heap[b]? = some (.cells p.arr 29 (0, 0))) : w.rangeAt b 4 (byv p.H) := fun j v hv => by
  rw [cell_of_row _ _ _ _ _ _ h, Lp.arr, List.getElem?_toArray, Nat.add_comm]
  exact hv
end
theorem lg_st {w : World} {b : Nat} {p : Lp} (h : w.heap[b]? = some (.cells p.arr 29 (0, 0))) : w.rangeAt b 0 [.int .i64 p.cap, .slice p.A p.n p.c, .int .i64 p.sure] := fun j v hv => by
  obtain ⟨c0, c1, c2, -⟩ := lg_cells h
  match j, hv with
  | 0, hv => rw [← (Option.some.inj hv)]; exact c0
  | 1, hv => rw [← (Option.some.inj hv)]; exact c1
  | 2, hv => rw [← (Option.some.inj hv)]; exact c2
theorem lp_get (p : Lp) : p.arr[0]? = some (.int .i64 p.cap) ∧ p.arr[1]? = some (.slice p.A p.n p.c) ∧ p.arr[2]? = some (.int .i64 p.sure) ∧ p.arr[3]? = some (.slice p.B p.m p.d) := ⟨rfl, rfl, rfl, rfl⟩
theorem list32c {α : Type} (S : List α) (h : S.length = 32) : ∃ a0 a1 a2 a3 a4 a5 a6 a7 a8 a9 b0 b1 b2 b3 b4 b5 b6 b7 b8 b9 c0 c1 c2 c3 c4 c5 c6 c7 c8 c9 d0 d1, S = [a0, a1, a2, a3, a4, a5, a6, a7, a8, a9, b0, b1, b2, b3, b4, b5, b6, b7, b8, b9, c0, c1, c2, c3, c4, c5, c6, c7, c8, c9, d0, d1] := by
  match S, h with
  | [a0, a1, a2, a3, a4, a5, a6, a7, a8, a9, b0, b1, b2, b3, b4, b5, b6, b7, b8, b9, c0, c1, c2, c3, c4, c5, c6, c7, c8, c9, d0, d1], _ => exact ⟨_, _, _, _, _, _, _, _, _, _, _, _, _, _, _, _, _, _, _, _, _, _, _, _, _, _, _, _, _, _, _, _, rfl⟩
theorem fill_log (p : Lp) (h : p.H.length = 32) : Instr.fill (([(0, 3), (3, 1), (4, 32)] : List (Nat × Nat)).toArray[·]?) Lp.zero.arr [(0, .agg #[.int .i64 p.cap, .slice p.A p.n p.c, .int .i64 p.sure]), (1, .slice p.B p.m p.d), (2, .agg (idv p.H))] = some p.arr := by
  rcases p with ⟨cap, A, n, c, sure, B, m, d, H⟩
  obtain ⟨a0, a1, a2, a3, a4, a5, a6, a7, a8, a9, b0, b1, b2, b3, b4, b5, b6, b7, b8, b9, c0, c1, c2, c3, c4, c5, c6, c7, c8, c9, d0, d1, rfl⟩ := list32c H h
  kernel_rfl
theorem fill_new (p : Lp) (h : p.H.length = 32) : Instr.fill (([(0, 3), (3, 1), (4, 32)] : List (Nat × Nat)).toArray[·]?) Lp.zero.arr [(0, .agg #[.int .i64 p.cap, .slice p.A p.n p.c, .int .i64 p.sure]), (2, .agg (idv p.H))] = some (Lp.arr ⟨p.cap, p.A, p.n, p.c, p.sure, none, 0, 0, p.H⟩) := by
  rcases p with ⟨cap, A, n, c, sure, B, m, d, H⟩
  obtain ⟨a0, a1, a2, a3, a4, a5, a6, a7, a8, a9, b0, b1, b2, b3, b4, b5, b6, b7, b8, b9, c0, c1, c2, c3, c4, c5, c6, c7, c8, c9, d0, d1, rfl⟩ := list32c H h
  kernel_rfl
theorem built_log (p : Lp) (h : p.H.length = 32) : Tryz.prog.built 29 [(0, .agg #[.int .i64 p.cap, .slice p.A p.n p.c, .int .i64 p.sure]), (1, .slice p.B p.m p.d), (2, .agg (idv p.H))] = some p.arr :=
  built_of (z := .agg Lp.zero.arr) (places := [(0, 3), (3, 1), (4, 32)]) Tryz.underlying29 (by kernel_rfl) (by kernel_rfl) (fill_log p h)
theorem built_new (p : Lp) (h : p.H.length = 32) : Tryz.prog.built 29 [(0, .agg #[.int .i64 p.cap, .slice p.A p.n p.c, .int .i64 p.sure]), (2, .agg (idv p.H))] = some (Lp.arr ⟨p.cap, p.A, p.n, p.c, p.sure, none, 0, 0, p.H⟩) :=
  built_of (z := .agg Lp.zero.arr) (places := [(0, 3), (3, 1), (4, 32)]) Tryz.underlying29 (by kernel_rfl) (by kernel_rfl) (fill_new p h)
theorem built_zero_g : Tryz.prog.built 29 [] = some Lp.zero.arr :=
  built_of (z := .agg Lp.zero.arr) (places := [(0, 3), (3, 1), (4, 32)]) Tryz.underlying29 (by kernel_rfl) (by kernel_rfl) rfl
/-- gives a log, and an error, or a bool; gives a store -/
def GLE (r : Lg × Int) (w : World) (e : Ending) (w' : World) : Prop := ∃ p : Lp, e = .returned (.tuple #[.agg p.arr, .int .i64 r.2]) ∧ LgAt w' p r.1 ∧ Below w.heap.size w w'
def GLB (r : Lg × Bool) (w : World) (e : Ending) (w' : World) : Prop := ∃ p : Lp, e = .returned (.tuple #[.agg p.arr, .bool r.2]) ∧ LgAt w' p r.1 ∧ Below w.heap.size w w'
def GSt (s : Sp) (w : World) (e : Ending) (w' : World) : Prop := ∃ A n c, e = .returned (.agg #[.int .i64 s.cap, .slice A n c, .int .i64 s.sure]) ∧ Bts w' A n c s.data ∧ Below w.heap.size w w'
/-- what lies in none of the blocks between two stays where one of them is written -/
theorem Bts.kept {w w' : World} {A : Option Addr} {n c : Nat} {l : List Int} {lo hi g : Nat} (h : Bts w A n c l) (hf : Far A n lo hi) (hg : w.grownBy w' (some g)) (h1 : lo ≤ g) (h2 : g < hi) : Bts w' A n c l :=
  ⟨h.len, h.le, h.max, h.ok, h.bare, fun hn => by
    obtain ⟨b, off, hA, hc⟩ := h.at_ hn
    refine ⟨b, off, hA, fun j hj => ?_⟩
    have hne : b ≠ g := by have := hf _ hA hn; simp only at this; omega
    exact hg.cell (hc j hj) (fun e => by injection e with e; exact hne e)⟩
theorem ens_kept {w w' : World} {A : Option Addr} {n c : Nat} {l : List En} {lo hi g : Nat} (h : Ens w A n c l) (hf : Far A n lo hi) (hg : w.grownBy w' (some g)) (h1 : lo ≤ g) (h2 : g < hi) : Ens w' A n c l := by
  by_cases hn : 0 < n
  · refine ⟨h.rws.grown hg fun b off hA e => ?_⟩
    injection e with e
    have := hf _ hA hn
    simp only at this
    omega
  · exact ⟨⟨h.rws.len, h.rws.wid, h.rws.one, h.rws.le, h.rws.max, h.rws.bare, fun h0 => absurd h0 hn⟩⟩
theorem Ens.far {w : World} {A : Option Addr} {n c : Nat} {l : List En} (h : Ens w A n c l) (hi : Nat) : Far A n w.heap.size hi := fun a ha hn => by
  obtain ⟨b, off, u, hA, -, hb, -⟩ := h.at_ 0 hn
  rw [ha] at hA
  injection hA with hA
  subst hA
  exact .inl hb
theorem own_ens_far {w : World} {B lo hi : Nat} {A : Option Addr} {n c : Nat} {rows : List (List Value)} (h : OwnR 33 9 w B (.slice A n c) rows) (hB : hi ≤ B) : Far A n lo hi := fun a ha hn => by
  subst ha
  exact .inr (Nat.le_trans hB (h.size a.block rfl).1)
end Go.Proofs.YtafmompplcaadaaGreatDoor

/- The walk over the document's Head of entries. -/
namespace Go.Proofs.YtafmompplcaadaaGreatDoor
set_option maxRecDepth 100000
set_option linter.unusedVariables false
set_option linter.unusedSimpArgs false
open Go.RowKit

theorem head_take {l : List En} {k : Nat} {u : En} (h : l[k]? = some u) : headC (l.take (k + 1)) = linkC (headC (l.take k)) u := by rw [etake_more h, headC_snoc]
theorem may_mem {l : List En} (hm : mayC l = true) {k : Nat} {u : En} (h : l[k]? = some u) : mayE u = true := List.all_eq_true.1 hm _ (List.mem_of_getElem? h)
theorem rowb_grown {w w' : World} {g g' : Nat} {t : TypeId} {l : List Int} (h : RowB w g t l) (hg : w.grownBy w' (some g')) (hne : g ≠ g') : RowB w' g t l := h.grown hg (fun e => hne (by injection e))
set_option maxRecDepth 100000 in
set_option maxHeartbeats 4000000 in
theorem rheadc_any (A : Option Addr) (n c : Nat) (l : List En) (w : World) (hl : Ens w A n c l) (hm : mayC l = true) (ho : ∀ u ∈ l, u.ok) :
    Calls Tryz.prog 37 #[.slice A n c] w fun e w' => e = .returned (.agg (idv (headC l))) ∧ Below w.heap.size w w' := by
  have hn := hl.small
  have HL := Lib.hid hl
  have HLL := Lib.hid hl.len
  have HM := Lib.hid hm
  have HO := Lib.hid ho
  have hal := run_all32
  have HS0 := Lib.hid (show ∀ (W : World) (g : Nat), W.heap.size = g → Calls Tryz.prog 61 #[.slice (some ⟨g, 0, none⟩) 1 1] (W.alloc (.cells #[.int .u8 0] 5)) (fun e w' => e = .returned (.agg (idv startC)) ∧ Below W.heap.size W w') from fun W g hg => by
    subst hg
    refine (rsum_yes _ 1 1 [0] _ (by omega) (lit_bts W _ [0] 1 rfl rfl (by unfold maxLen; omega) (by intro j; match j with | 0 => simp | j + 1 => simp))).mono ?_
    rintro e w' ⟨rfl, hb⟩
    exact ⟨rfl, (after_one hb).1⟩)
  have HSL := Lib.hid (show startC.length = 32 from csum_len [0])
  obtain ⟨Z, hZ⟩ : ∃ Z, headC l = Z := ⟨_, rfl⟩
  have HZL := Lib.hid (show Z.length = 32 by rw [← hZ]; exact headC_len _)
  have HZ := Lib.hid hZ
  rw [hZ]
  clear hl hm ho hZ
  go_enter Tryz.func37, Tryz.ntmps37
  go_wp2_with (first
    | (go_at_call 61; (with_reducible refine (HS0.out _ _ (by simp)).mono ?_); rintro e w1 ⟨rfl, hb1⟩
       obtain ⟨hb0, -, hz1⟩ := after_one hb1
       have hz1 : RowB w1 w.heap.size 27 noughtsC := hz1
       have HB1 := Lib.hid hb0
       clear hb1 hb0)
    | ((with_reducible refine wpList_store_blk rfl 27 _ _ rfl w1.heap.size (idv startC) ?hx2 ?hy2 27 _ (heap_alloc_new w1 _) (info32 HSL.out) ?hs2 (idv_one _) ?_); (case hx2 => rfl); (case hy2 => rfl); (case hs2 => rw [idv_size, HSL.out]; rfl)
       intro w2 hg2 hX2 hs2
       have hb2 : Below w1.heap.size w1 w2 := Below.grows (one_alloc w1 _) hg2 (size_le_alloc _ _) (Nat.le_refl _)
       have hz2 := hz1.keep hb2
       have hX2 : RowB w2 w1.heap.size 27 startC := hX2
       have HB2 := Lib.hid (HB1.out.trans (hb2.mono HB1.out.size))
       clear hb2 hg2 hs2))
  have hg3 : w.heap.size < w1.heap.size := hz1.lt
  clear hz1
  go_loopw [4, 5, 6, 7] (fun i x y z wr => ∃ k : Nat, k ≤ n ∧ i = .int .i64 k ∧ RowB wr w1.heap.size 27 (headC (l.take k)) ∧ RowB wr w.heap.size 27 noughtsC ∧ Below w.heap.size w wr) (fun i _ _ _ _ => n - (intOf i).toNat)
  case atStart => exact ⟨0, by omega, rfl, hX2, hz2, HB2.out⟩
  case round =>
    clear hX2 hz2
    obtain ⟨k, hk, rfl, hX, hz, hB⟩ := hrel
    by_cases hlt : k < n
    · obtain ⟨b, off, u, rfl, hu, hr⟩ := (HL.out.below hB).range k hlt
      have hmu := may_mem HM.out hu
      have hou := HO.out u (List.mem_of_getElem? hu)
      have HPE := Lib.hid (fun W => rput_yes' u W hmu hou)
      have HNX := Lib.hid (head_take hu)
      obtain ⟨h, hh⟩ : ∃ h, headC (l.take k) = h := ⟨_, rfl⟩
      have hhl : h.length = 32 := by rw [← hh]; exact headC_len _
      have hhb : ∀ j, 0 ≤ h.getD j 0 ∧ h.getD j 0 < 256 := by rw [← hh]; exact headC_byte _
      rw [hh] at hX
      have HNX := Lib.hid (show headC (l.take (k + 1)) = linkC h u by rw [HNX.out, hh])
      have HOK := Lib.hid (ok_linkT (u := u) hhb)
      have HHB := Lib.hid hhb
      have HHL := Lib.hid hhl
      obtain ⟨Y, hY⟩ : ∃ Y, linkC h u = Y := ⟨_, rfl⟩
      have HYL := Lib.hid (show Y.length = 32 by rw [← hY]; exact csum_len _)
      have HSM := Lib.hid (show ∀ (A : Option Addr) (m d : Nat) (W : World), m ≤ 1048576 → Bts W A m d (linkT h u) → Calls Tryz.prog 61 #[.slice A m d] W (fun e w' => e = .returned (.agg (idv Y)) ∧ Below W.heap.size W w') from fun A m d W h1 h2 => by rw [← hY]; exact rsum_yes A m d _ W h1 h2)
      have HNX := Lib.hid (HNX.out.trans hY)
      unfold enV at HPE
      have q0 : 0 ≤ (k : Int) := by omega
      have q1 : (k : Int) < n := by omega
      have HBr := Lib.hid hB
      have HLT1 := Lib.hid hX.lt
      clear hu hmu hou hh hhl hhb hY hB
      go_wp2_with (first
        | ((with_reducible refine wpList_load_on 33 _ rfl b (off + k * 9) ?hx1 u.row (enA u) ?ht1 _ hr Tryz.underlying33 ?hd1 ?hi1 ?_ ?hw1); (case hx1 => rfl); (case ht1 => rfl); (case hd1 => rfl); (case hi1 => exact info_en (enA_size u)); (case hw1 => rfl))
        | (go_at_call 55; (with_reducible refine (HPE.out _).mono ?_); rintro e w3 ⟨A1, m1, c1, rfl, hbt1, hb1⟩
           have hX1 := hX.keep hb1
           have hz1 := hz.keep hb1
           have HB1 := Lib.hid (HBr.out.trans (hb1.mono HBr.out.size))
           have HLT := Lib.hid hX1.lt
           clear hb1 hX hz hr)
        | (at_builtin
           refine wpList_append_b rfl _ _ rfl w3.heap.size _ [1] rfl (one_own w3 1) (some ⟨w1.heap.size, 0, none⟩) 32 32 h rfl ((hX1.more _).btsAt HHL.out (by unfold maxLen; omega) HHB.out) (by simp) (by simp) ?_
           intro v2 w4 hown2 hg2
           have hb2 : Below w3.heap.size w3 w4 := (one_alloc w3 (.cells #[.int .u8 1] 5)).grown hg2 (size_le_alloc _ _) (fun g e => ((one_own w3 1).size g e).1)
           have hown2 : Own w4 w3.heap.size v2 ([1] ++ h) := hown2
           have hX2 := hX1.keep hb2
           have hz2 := hz1.keep hb2
           have hbt2 := hbt1.below hb2
           have HB2 := Lib.hid (HB1.out.trans (hb2.mono HB1.out.size))
           have HS2 := Lib.hid hb2.size
           clear hg2 hb2 hX1 hz1 hbt1)
        | (at_builtin
           refine wpList_append_b rfl _ _ rfl w3.heap.size v2 ([1] ++ h) rfl hown2 A1 m1 c1 (putE u) rfl hbt2 (by have := hbt2.len; rw [put_len] at this; have := HHL.out; simp; omega) HS2.out ?_
           intro v3 w5 hown3 hg4
           have hb3 : Below w3.heap.size w4 w5 := (Below.refl w3.heap.size w4).grown hg4 HS2.out (fun g e => (hown2.size g e).1)
           obtain ⟨A3, m3, c3, rfl, hbt3⟩ := (show Own w5 w3.heap.size v3 (linkT h u) from hown3).slice HOK.out
           have hX3 := hX2.below hb3 HLT.out
           have hz3 := hz2.below hb3 (Nat.lt_trans hg3 HLT.out)
           have hm3 : m3 ≤ 1048576 := by
             have h1 := hbt3.len
             have h2 := HHL.out
             rw [linkT, List.length_cons, List.length_append, put_len] at h1
             omega
           have HB3 := Lib.hid (HB2.out.trans (hb3.mono HB1.out.size))
           clear hg4 hb3 hX2 hz2 hbt2 hown2 hown3)
        | (go_at_call 61; (with_reducible refine (HSM.out _ _ _ _ hm3 hbt3).mono ?_); rintro e w6 ⟨rfl, hb4⟩
           have hX4 := hX3.keep hb4
           have hz4 := hz3.keep hb4
           have HB4 := Lib.hid (HB3.out.trans (hb4.mono HB3.out.size))
           clear hb4 hX3 hz3)
        | ((with_reducible refine wpList_store_blk rfl 27 _ _ rfl w1.heap.size (idv Y) ?hx7 ?hy7 27 _ hX4.is (info32 HYL.out) ?hs7 (idv_one _) ?_); (case hx7 => rfl); (case hy7 => rfl); (case hs7 => rw [idv_size, idv_size, HYL.out, HHL.out])
           intro w7 hg7 hX7 hs7
           have hX7 : RowB w7 w1.heap.size 27 Y := hX7
           have hz7 := rowb_grown hz4 hg7 (by omega)
           have HB7 := Lib.hid (HB4.out.grown hg7 HB4.out.size (fun k e => by cases e; omega))
           clear hX4 hz4 hg7 hs7))
      go_roundw
      case rel => exact ⟨k + 1, by omega, by go_num, by rw [HNX.out]; exact hX7, hz7, HB7.out⟩
      case measure => simp [intOf]; omega
    · have hkn : k = n := by omega
      rw [hkn, List.take_of_length_le (by rw [HLL.out]; exact Nat.le_refl _)] at hX
      rw [HZ.out] at hX
      have HHL := HZL
      have HBr := Lib.hid hB
      clear hB
      go_wp2_with (first
        | ((with_reducible refine wpList_load_blk 27 _ rfl w1.heap.size ?hx8 27 (idv Z) (0, 0) _ hX.is Tryz.underlying27 ?hd8 (info32 HHL.out) ?_ ?hw8); (case hx8 => rfl); (case hd8 => rfl); (case hw8 => rfl))
        | ((with_reducible refine wpList_store_blk rfl 27 _ _ rfl w.heap.size (idv Z) ?hx9 ?hy9 27 _ hz.is (info32 HHL.out) ?hs9 (idv_one _) ?_); (case hx9 => rfl); (case hy9 => rfl); (case hs9 => rw [idv_size, idv_size, HHL.out]; rfl)
           intro w7 hg7 hX7 hs7
           clear hz))
      refine bodyPost_ret (v := .agg (idv Z)) ?_ rfl ⟨rfl, ?_⟩
      · exact results_cell_row Tryz.results37 _ _ w.heap.size 27 _ (0, 0) _ rfl hX7 Tryz.underlying27 rfl (info32 HHL.out)
      · exact HBr.out.grown hg7 HBr.out.size (fun k e => by cases e; exact Nat.le_refl _)
end Go.Proofs.YtafmompplcaadaaGreatDoor
