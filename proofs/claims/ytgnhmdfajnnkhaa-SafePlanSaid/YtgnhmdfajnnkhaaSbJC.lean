/- Joined texts: The walk over the document's Errs: are two lists of errors the same? A literal of rows. What package safe does: contracts that its own walks must bring; the chapter's example over them. Amber, and all red, tick by tick. What is asked of a machine, plainly: what may be stays so, and what lamps show. The laws' arguments, opened: a slice of numbers. The laws' arguments, opened: a plan, a slice of plans. The laws' arguments, opened: a machine. The laws' arguments, opened: a slice of asks. slices.Equal of numbers and of stages. A range over a function whose values are known ahead, in order; a round goes on, or leaves the function; between two rounds the iterator turns new blocks, and one of its own. A range over a function whose values are known ahead, in order, where the iterator may itself range over another one: what it turns is no cells, and lies beyond all that lay when it was called. A region that draws its order, inside a fence, walked by hand; what a call that makes new memory alone leaves to an iterator's invariants. append onto a slice of numbers of the call's own, inside a fence. -/
import Derived.Test.YtgnhmdfajnnkhaaSbJA
import Derived.Test.YtgnhmdfajnnkhaaSbJB
import Derived.ProofKit
import Derived.OpenShut
import Derived.Deep.DeepHandedRow
import Derived.Deep.Slices
import Derived.Deep.SlicePairs
import Derived.RangeFuncNested
import Derived.RangeFuncBound
import Derived.RangeFuncCalls
import Derived.RangeFuncLeaves
import Derived.RangeFuncBox
import Derived.Shelf.Abstract
import Derived.OwnWalkIn
import Derived.TacticsInMore
import Derived.LoopNIn
import Derived.LoopIn
import Derived.Shelf.RegionOpen
import Derived.Deep.RegionHeld
/- The walk over the document's Errs: are two lists of errors the same? -/
namespace Go.Proofs.Ytgnhmdfajnnkhaa
set_option maxRecDepth 100000
set_option linter.unusedVariables false
set_option linter.unusedSimpArgs false
open Go.RowKit

end Go.Proofs.Ytgnhmdfajnnkhaa


/- A literal of rows. -/
namespace Go.Proofs.Ytgnhmdfajnnkhaa
set_option maxRecDepth 100000
set_option linter.unusedVariables false
set_option linter.unusedSimpArgs false
open Go.RowKit

/-- a literal of rows -/
theorem lit_rws (k : Nat) (e : TypeId) (w : World) (cs : Array Value) (rows : List (List Value)) (n : Nat) (hcs : cs = rows.flatten.toArray) (hn : rows.length = n) (hw : ∀ r ∈ rows, r.length = k) (h1 : ∀ r ∈ rows, ∀ u ∈ r, u.oneCell' = true) (hm : n ≤ maxLen) :
    Rws k (w.alloc (.cells cs e)) (some ⟨w.heap.size, 0, none⟩) n n rows := by
  subst hcs
  refine ⟨hn, hw, h1, Nat.le_refl _, hm, (fun e => by cases e), fun _ => ⟨w.heap.size, 0, rfl, fun j hj i hi => ?_⟩⟩
  rw [Nat.zero_add, cell_of_row _ _ _ _ _ _ (heap_alloc_new w _), List.getElem?_toArray, flat_get hw j i (by omega) hi]
end Go.Proofs.Ytgnhmdfajnnkhaa


/- What package safe does: contracts that its own walks must bring; the chapter's example over them. -/
namespace Go.Proofs.Ytgnhmdfajnnkhaa
set_option maxRecDepth 100000
set_option linter.unusedVariables false
set_option linter.unusedSimpArgs false
open Go.RowKit

/-- gives a machine and rows, in memory of its own -/
def GivesGLo (s : Sg) (L : List (List Int)) (X : World) : Ending → World → Prop := fun e w' => ∃ A n c r, e = .returned (.tuple #[sgV s, .slice A n c]) ∧ Lns w' A n c r ∧ r.map Rw.l = L ∧ Below X.heap.size X w' ∧ (∀ b o, A = some ⟨b, o, none⟩ → X.heap.size ≤ b) ∧ (∀ x ∈ r, ∀ b o, x.A = some ⟨b, o, none⟩ → X.heap.size ≤ b)
theorem GivesGLo.gives {s : Sg} {L : List (List Int)} {X : World} {e : Ending} {w' : World} (h : GivesGLo s L X e w') : GivesGL s L X e w' := by
  obtain ⟨A, n, c, r, h1, h2, h3, h4, -, -⟩ := h
  exact ⟨A, n, c, r, h1, h2, h3, h4⟩
theorem Lns.low {w w' : World} {A : Option Addr} {n c g : Nat} {l : List Rw} {base : Nat} (h : Lns w A n c l) (hA : ∀ b o, A = some ⟨b, o, none⟩ → base ≤ b) (hr : ∀ x ∈ l, ∀ b o, x.A = some ⟨b, o, none⟩ → base ≤ b) (hg : w.grownBy w' (some g)) (hlt : g < base) : Lns w' A n c l :=
  ⟨h.rws.grown hg (fun b o e => ne_some (by have := hA b o e; omega)), fun x hx => (h.its x hx).grown hg (fun b o e => ne_some (by have := hr x hx b o e; omega))⟩
structure SafOk : Prop where
  ask : ∀ (A : Option Addr) (n c : Nat) (l : List Pl) (s : Sg) (k a : Int) (X : World), Pls X A n c l → SmG s → n ≤ 1000 → (∀ p ∈ l, p.n ≤ 1000 ∧ p.k ≤ 1000) → Calls Try.prog 12 #[.slice A n c, sgV s, .int .i64 k, .int .i64 a] X (GivesGE (doS l s k a) X)
  asks : ∀ (A : Option Addr) (n c : Nat) (l : List Pl) (s : Sg) (B : Option Addr) (m d : Nat) (q : List Ak) (X : World), Pls X A n c l → SmG s → n ≤ 1000 → (∀ p ∈ l, p.n ≤ 1000 ∧ p.k ≤ 1000) → Aks X B m d q → m ≤ 1000 → Calls Try.prog 14 #[.slice A n c, sgV s, .slice B m d] X (GivesGEs (allG l s q m) (allE l s q m) X)
  play : ∀ (A : Option Addr) (n c : Nat) (l : List Pl) (s : Sg) (B : Option Addr) (m d : Nat) (q : List Ak) (X : World), Pls X A n c l → SmG s → n ≤ 1000 → (∀ p ∈ l, p.n ≤ 1000 ∧ p.k ≤ 1000) → Aks X B m d q → m ≤ 1000 → Calls Try.prog 16 #[.slice A n c, sgV s, .slice B m d] X (GivesGLo (playG l s q m) (playL l s q m) X)
theorem SafOk.plays (HO : SafOk) (A : Option Addr) (n c : Nat) (l : List Pl) (s : Sg) (B : Option Addr) (m d : Nat) (q : List Ak) (X : World) (h1 : Pls X A n c l) (h2 : SmG s) (h3 : n ≤ 1000) (h4 : ∀ p ∈ l, p.n ≤ 1000 ∧ p.k ≤ 1000) (h5 : Aks X B m d q) (h6 : m ≤ 1000) : Calls Try.prog 16 #[.slice A n c, sgV s, .slice B m d] X (GivesGL (playG l s q m) (playL l s q m) X) :=
  (HO.play A n c l s B m d q X h1 h2 h3 h4 h5 h6).mono fun _ _ h => h.gives
/-- what it takes of package role -/
structure TurnsOk : Prop where
  turns : ∀ (k : Int) (X : World), Calls Try.prog 21 #[.int .i64 k] X fun e w' => e = .returned (.bool (turnsB k)) ∧ Below X.heap.size X w'
def endS : Sg := ⟨0, 0, 0, 0, 1, 3, 1, (-1), (-1), false⟩
def letS : Sg := ⟨0, 0, 0, 0, 1, 0, 1, (-1), (-1), false⟩
def redS : Sg := ⟨0, 0, 0, 0, 1, 0, 1, (-1), (-1), true⟩
theorem ask_one (p : Ak) : ∀ u ∈ p.row, u.oneCell' = true := fun u hu => by
  simp only [Ak.row, List.mem_cons, List.not_mem_nil, or_false] at hu
  rcases hu with rfl | rfl <;> rfl
def fourA : List Ak := [⟨-1, 0⟩, ⟨-1, 0⟩, ⟨1, 4⟩, ⟨-1, 0⟩]
def twoA : List Ak := [⟨5, 0⟩, ⟨6, 0⟩]
theorem two_play (A : Option Addr) (c : Nat) (B : Option Addr) (d : Nat) : playG [oneTwo A c B d] newG fourA 4 = endS := by kernel_rfl
theorem two_played (A : Option Addr) (c : Nat) (B : Option Addr) (d : Nat) : playL [oneTwo A c B d] newG fourA 4 = [[0, 0], [2, 0], [2, 0]] := by kernel_rfl
theorem two_hold (A : Option Addr) (c : Nat) (B : Option Addr) (d : Nat) : doS [oneTwo A c B d] endS 1 4 = (endS, 11) := by kernel_rfl
theorem two_free (A : Option Addr) (c : Nat) (B : Option Addr) (d : Nat) : doS [oneTwo A c B d] endS 2 0 = (letS, 0) := by kernel_rfl
theorem two_allG (A : Option Addr) (c : Nat) (B : Option Addr) (d : Nat) : allG [oneTwo A c B d] endS twoA 2 = redS := by kernel_rfl
theorem two_allE (A : Option Addr) (c : Nat) (B : Option Addr) (d : Nat) : allE [oneTwo A c B d] endS twoA 2 = [0, 11] := by kernel_rfl
theorem four_asks (w : World) : Aks (w.alloc (.cells #[.int .i64 (-1), .int .i64 0, .int .i64 (-1), .int .i64 0, .int .i64 1, .int .i64 4, .int .i64 (-1), .int .i64 0] 52)) (some ⟨w.heap.size, 0, none⟩) 4 4 fourA :=
  lit_rws 2 _ w _ _ 4 rfl rfl (fun r hr => by obtain ⟨p, _, rfl⟩ := List.mem_map.1 hr; rfl) (fun r hr u hu => by obtain ⟨p, _, rfl⟩ := List.mem_map.1 hr; exact ask_one p u hu) (by unfold maxLen; omega)
theorem two_asks (w : World) : Aks (w.alloc (.cells #[.int .i64 5, .int .i64 0, .int .i64 6, .int .i64 0] 52)) (some ⟨w.heap.size, 0, none⟩) 2 2 twoA :=
  lit_rws 2 _ w _ _ 2 rfl rfl (fun r hr => by obtain ⟨p, _, rfl⟩ := List.mem_map.1 hr; rfl) (fun r hr u hu => by obtain ⟨p, _, rfl⟩ := List.mem_map.1 hr; exact ask_one p u hu) (by unfold maxLen; omega)
set_option maxHeartbeats 8000000 in
theorem sawake17_any (HO : SafOk) (HN : StgOk) (HL : LmpText) (w : World) : Calls Try.prog 10 #[] w fun e w' => e = .returned (.bool true) ∧ Below w.heap.size w w' := by
  have HT1 := Lib.hid (fun A n c X (hI : Its .i64 X A n c [2, 0]) => HL.text A n c [2, 0] X hI (by rw [← hI.len]; decide))
  rw [sg_text_gr] at HT1
  have HNW := Lib.hid HN.new
  simp only [GivesG, sgV, newG] at HNW
  go_enter Try.func10, Try.ntmps10
  go_wp2_with (first
    | (go_at_call 25
       (with_reducible refine (two_any _).mono ?_)
       rintro e w1 ⟨p, rfl, ht, hp, hb⟩
       obtain ⟨W, hW⟩ : ∃ W, w1.alloc (.cells #[.slice p.A p.n p.c, .slice p.B p.k p.d, .int .i64 p.am, .int .i64 p.rd, .int .i64 p.hd] 47) = W := ⟨_, rfl⟩
       have hB1 : Below w1.heap.size w1 W := by rw [← hW]; exact one_alloc w1 _
       have hpl : Pls W (some ⟨w1.heap.size, 0, none⟩) 1 1 [p] := by rw [← hW]; exact pls_one w1 p hp
       have hmem : ∀ q ∈ [p], q.n ≤ 1000 ∧ q.k ≤ 1000 := fun q hq => by rw [List.mem_singleton.1 hq, ht.n, ht.k]; omega
       have HPY := Lib.hid (fun X (hX : Below W.heap.size W X) B (hq : Aks X B 4 4 fourA) => HO.plays (some ⟨w1.heap.size, 0, none⟩) 1 1 [p] newG B 4 4 fourA X (hpl.below hX) (by decide) (by omega) hmem hq (by omega))
       have HD1 := Lib.hid (fun X (hX : Below W.heap.size W X) => HO.ask (some ⟨w1.heap.size, 0, none⟩) 1 1 [p] endS 1 4 X (hpl.below hX) (by decide) (by omega) hmem)
       have HD2 := Lib.hid (fun X (hX : Below W.heap.size W X) => HO.ask (some ⟨w1.heap.size, 0, none⟩) 1 1 [p] endS 2 0 X (hpl.below hX) (by decide) (by omega) hmem)
       have HAL := Lib.hid (fun X (hX : Below W.heap.size W X) B (hq : Aks X B 2 2 twoA) => HO.asks (some ⟨w1.heap.size, 0, none⟩) 1 1 [p] endS B 2 2 twoA X (hpl.below hX) (by decide) (by omega) hmem hq (by omega))
       rw [is_two ht, two_play, two_played] at HPY
       rw [is_two ht, two_hold] at HD1
       rw [is_two ht, two_free] at HD2
       rw [is_two ht, two_allG, two_allE] at HAL
       have HB1 := Lib.hid (hb.trans (hB1.mono hb.size))
       have HW := Lib.hid hW
       clear hb hW hB1 hpl hmem hp ht
       simp only [GivesGL, GivesGE, GivesGEs, sgV, newG, endS, letS, redS] at HPY HD1 HD2 HAL
       simp only [plV])
    | (go_at_call 26
       rw [HW.out]
       (with_reducible refine (HNW.out _).mono ?_)
       rintro e w2 ⟨rfl, hbx⟩
       have HX2 := Lib.hid (hbx.trans ((one_alloc w2 (.cells #[.int .i64 (-1), .int .i64 0, .int .i64 (-1), .int .i64 0, .int .i64 1, .int .i64 4, .int .i64 (-1), .int .i64 0] 52)).mono hbx.size))
       have HQ2 := Lib.hid (four_asks w2)
       clear hbx
       try simp only [sgV])
    | (go_at_call 16
       (with_reducible refine (HPY.out _ HX2.out _ HQ2.out).mono ?_)
       rintro e w3 ⟨A3, n3, c3, r3, rfl, hl3, hr3, hbx⟩
       have HX3 := Lib.hid (HX2.out.trans (hbx.mono HX2.out.size))
       obtain rfl : n3 = 3 := by rw [← hl3.len, ← List.length_map (f := Rw.l), hr3]; rfl
       obtain ⟨b3, o3, q2, rfl, e2, hq2⟩ := row_of hl3 hr3 (j := 2) (x := [2, 0]) rfl
       have hbw := one_alloc w3 (.cells #[.int .i64 0, .int .i64 0, .int .i64 0, .int .i64 0, .int .i64 1, .int .i64 3, .int .i64 1, .int .i64 (-1), .int .i64 (-1), .bool false] 24)
       have hbg : BoxG (w3.alloc (.cells #[.int .i64 0, .int .i64 0, .int .i64 0, .int .i64 0, .int .i64 1, .int .i64 3, .int .i64 1, .int .i64 (-1), .int .i64 (-1), .bool false] 24)) w3.heap.size endS := heap_alloc_new w3 _
       have HX4 := Lib.hid (HX3.out.trans (hbw.mono HX3.out.size))
       have HS := Lib.hid (show ∀ X, Below (w3.alloc (.cells #[.int .i64 0, .int .i64 0, .int .i64 0, .int .i64 0, .int .i64 1, .int .i64 3, .int .i64 1, .int .i64 (-1), .int .i64 (-1), .bool false] 24)).heap.size (w3.alloc (.cells #[.int .i64 0, .int .i64 0, .int .i64 0, .int .i64 0, .int .i64 1, .int .i64 3, .int .i64 1, .int .i64 (-1), .int .i64 (-1), .bool false] 24)) X → BoxG X w3.heap.size endS ∧ Its .i64 X q2.A q2.n q2.c [2, 0] ∧ X.cell? ⟨b3, o3 + 2, none⟩ = some (.slice q2.A q2.n q2.c) from fun X hX => ⟨hbg.below hX, (hq2 X (hbw.trans (hX.mono hbw.size))).1, (hq2 X (hbw.trans (hX.mono hbw.size))).2⟩)
       clear hbx hl3 hr3 e2 hq2 hbg hbw
       try simp only [sgV, endS])
    | (go_at_call 12
       (with_reducible refine (HD1.out _ HX4.out).mono ?_)
       rintro e w5 ⟨rfl, hbx⟩
       have hbw := one_alloc w5 (.cells #[.int .i64 0, .int .i64 0, .int .i64 0, .int .i64 0, .int .i64 1, .int .i64 3, .int .i64 1, .int .i64 (-1), .int .i64 (-1), .bool false] 24)
       have HX5 := Lib.hid (HX4.out.trans ((hbx.trans (hbw.mono hbx.size)).mono HX4.out.size))
       have HY5 := Lib.hid (hbx.trans (hbw.mono hbx.size))
       obtain ⟨c0, c1, c2, c3, c4, c5, c6, c7, c8, c9⟩ := ((HS.out _ HY5.out).1).cells
       simp only [endS] at c0 c1 c2 c3 c4 c5 c6 c7 c8 c9
       clear hbx hbw
       try simp only [sgV, endS])
    | (go_at_call 12
       (with_reducible refine (HD2.out _ HX5.out).mono ?_)
       rintro e w6 ⟨rfl, hbx⟩
       have hbw := one_alloc w6 (.cells #[.int .i64 0, .int .i64 0, .int .i64 0, .int .i64 0, .int .i64 1, .int .i64 0, .int .i64 1, .int .i64 (-1), .int .i64 (-1), .bool false] 24)
       have hbg : BoxG (w6.alloc (.cells #[.int .i64 0, .int .i64 0, .int .i64 0, .int .i64 0, .int .i64 1, .int .i64 0, .int .i64 1, .int .i64 (-1), .int .i64 (-1), .bool false] 24)) w6.heap.size letS := heap_alloc_new w6 _
       have hb2 := (one_alloc (w6.alloc (.cells #[.int .i64 0, .int .i64 0, .int .i64 0, .int .i64 0, .int .i64 1, .int .i64 0, .int .i64 1, .int .i64 (-1), .int .i64 (-1), .bool false] 24)) (.cells #[.int .i64 5, .int .i64 0, .int .i64 6, .int .i64 0] 52))
       have HX6 := Lib.hid (HX5.out.trans ((hbx.trans (hbw.mono hbx.size)).mono HX5.out.size))
       have HX7 := Lib.hid (HX6.out.trans (hb2.mono HX6.out.size))
       have HY6 := Lib.hid (HY5.out.trans ((hbx.trans (hbw.mono hbx.size)).mono HY5.out.size))
       have HY7 := Lib.hid (HY6.out.trans (hb2.mono HY6.out.size))
       have HG := Lib.hid (show ∀ X, Below ((w6.alloc (.cells #[.int .i64 0, .int .i64 0, .int .i64 0, .int .i64 0, .int .i64 1, .int .i64 0, .int .i64 1, .int .i64 (-1), .int .i64 (-1), .bool false] 24)).alloc (.cells #[.int .i64 5, .int .i64 0, .int .i64 6, .int .i64 0] 52)).heap.size ((w6.alloc (.cells #[.int .i64 0, .int .i64 0, .int .i64 0, .int .i64 0, .int .i64 1, .int .i64 0, .int .i64 1, .int .i64 (-1), .int .i64 (-1), .bool false] 24)).alloc (.cells #[.int .i64 5, .int .i64 0, .int .i64 6, .int .i64 0] 52)) X → BoxG X w6.heap.size letS from fun X hX => hbg.below (hb2.trans (hX.mono hb2.size)))
       have HQ7 := Lib.hid (show Aks ((w6.alloc (.cells #[.int .i64 0, .int .i64 0, .int .i64 0, .int .i64 0, .int .i64 1, .int .i64 0, .int .i64 1, .int .i64 (-1), .int .i64 (-1), .bool false] 24)).alloc (.cells #[.int .i64 5, .int .i64 0, .int .i64 6, .int .i64 0] 52)) (some ⟨w6.heap.size + 1, 0, none⟩) 2 2 twoA by have h := two_asks (w6.alloc (.cells #[.int .i64 0, .int .i64 0, .int .i64 0, .int .i64 0, .int .i64 1, .int .i64 0, .int .i64 1, .int .i64 (-1), .int .i64 (-1), .bool false] 24)); rwa [show (w6.alloc (.cells #[.int .i64 0, .int .i64 0, .int .i64 0, .int .i64 0, .int .i64 1, .int .i64 0, .int .i64 1, .int .i64 (-1), .int .i64 (-1), .bool false] 24)).heap.size = w6.heap.size + 1 by simp] at h)
       obtain ⟨d0, d1, d2, d3, d4, d5, d6, d7, d8, d9⟩ := ((HS.out _ HY6.out).1).cells
       simp only [endS] at d0 d1 d2 d3 d4 d5 d6 d7 d8 d9
       clear hbx hbw hbg hb2
       try simp only [sgV, letS])
    | (go_at_call 14
       (with_reducible refine (HAL.out _ HX7.out _ HQ7.out).mono ?_)
       rintro e w8 ⟨A8, n8, c8, rfl, hi8, hbx⟩
       obtain rfl : n8 = 2 := by rw [← hi8.len]; rfl
       obtain ⟨b8, o8, rfl, -⟩ := hi8.at_ (by omega)
       have hbw := one_alloc w8 (.cells #[.int .i64 0, .int .i64 0, .int .i64 0, .int .i64 0, .int .i64 1, .int .i64 0, .int .i64 1, .int .i64 (-1), .int .i64 (-1), .bool true] 24)
       have HX9 := Lib.hid (HX7.out.trans ((hbx.trans (hbw.mono hbx.size)).mono HX7.out.size))
       have HY9 := Lib.hid (HY7.out.trans ((hbx.trans (hbw.mono hbx.size)).mono HY7.out.size))
       have HZ9 := Lib.hid (hbx.trans (hbw.mono hbx.size))
       have HE := Lib.hid (show ∀ X, Below (w8.alloc (.cells #[.int .i64 0, .int .i64 0, .int .i64 0, .int .i64 0, .int .i64 1, .int .i64 0, .int .i64 1, .int .i64 (-1), .int .i64 (-1), .bool true] 24)).heap.size (w8.alloc (.cells #[.int .i64 0, .int .i64 0, .int .i64 0, .int .i64 0, .int .i64 1, .int .i64 0, .int .i64 1, .int .i64 (-1), .int .i64 (-1), .bool true] 24)) X → X.cell? ⟨b8, o8, none⟩ = some (.int .i64 0) ∧ X.cell? ⟨b8, o8 + 1, none⟩ = some (.int .i64 11) from fun X hX => by
         obtain ⟨b', o', e', hc⟩ := ((hi8.below hbw).below hX).at_ (by omega)
         cases e'
         exact ⟨hc 0 (by omega), hc 1 (by omega)⟩)
       have r2 := (HS.out _ HY9.out).2.2
       clear hbx hi8 hbw
       try simp only [sgV, redS])
    | (go_at_call 27
       (with_reducible refine (HT1.out q2.A q2.n q2.c _ (HS.out _ HY9.out).2.1).mono ?_)
       rintro e w10 ⟨rfl, hbx⟩
       have HX10 := Lib.hid (HX9.out.trans (hbx.mono HX9.out.size))
       obtain ⟨f0, f1, f2, f3, f4, f5, f6, f7, f8, f9⟩ := ((HS.out _ (HY9.out.trans (hbx.mono HY9.out.size))).1).cells
       obtain ⟨g0, g1, g2, g3, g4, g5, g6, g7, g8, g9⟩ := (HG.out _ (HZ9.out.trans (hbx.mono HZ9.out.size))).cells
       obtain ⟨h0, h1⟩ := HE.out _ hbx
       simp only [endS] at f5 f6
       simp only [letS] at g5
       clear hbx))
  go_ret
  exact ⟨rfl, HB1.out.trans (HX10.out.mono HB1.out.size)⟩
end Go.Proofs.Ytgnhmdfajnnkhaa


/- Amber, and all red, tick by tick. -/
namespace Go.Proofs.Ytgnhmdfajnnkhaa
set_option maxRecDepth 100000
set_option linter.unusedVariables false
set_option linter.unusedSimpArgs false
open Go.RowKit

end Go.Proofs.Ytgnhmdfajnnkhaa


/- What is asked of a machine, plainly: what may be stays so, and what lamps show. -/
namespace Go.Proofs.Ytgnhmdfajnnkhaa
set_option maxRecDepth 100000
set_option linter.unusedVariables false
set_option linter.unusedSimpArgs false
open Go.RowKit

/-- what is asked changes neither the phase, the time, the plan, the stage, nor what was held -/
structure SameG (t s : Sg) : Prop where
  ph : t.ph = s.ph
  tt : t.t = s.t
  pl : t.pl = s.pl
  st : t.st = s.st
  hl : t.hl = s.hl
def Ways (l : List Pl) (s : Sg) (r : Sg × Int) : Prop := (∃ e, e ≠ 0 ∧ r = (s, e)) ∨ (∃ t, r = (t, 0) ∧ MayS l t ∧ SameG t s)
theorem may_hd {l : List Pl} {s : Sg} (h : MayS l s) (x : Int) (h0 : 0 ≤ x) (h1 : x ≤ (planAt l s.pl).hd - s.hl) (h2 : s.ph ≠ 0 → x = 0) (h3 : s.sp = true → x = 0) : MayS l { s with hd := x } :=
  ⟨h.all, h.p0, h.p1, ⟨h.range.s0, h.range.s1, h.range.n0, h.range.n1, h.range.p0, h.range.p1, h.range.a0, h.range.a1, h.range.w0, h.range.w1⟩, ⟨h0, h.held.h1, h.held.h2, h1⟩,
    fun hp => ⟨(h.green hp).t0, (h.green hp).t1, h3⟩, fun hp => ⟨h2 hp, (h.other hp).l, (h.other hp).a, (h.other hp).t, (h.other hp).am, (h.other hp).rd⟩⟩
theorem may_ak {l : List Pl} {s : Sg} (h : MayS l s) (x : Int) (h0 : 0 ≤ x) (h1 : x < (planAt l s.pl).s.length) (hp0 : s.ph = 0) : MayS l { s with ak := x } :=
  ⟨h.all, h.p0, h.p1, ⟨h.range.s0, h.range.s1, h.range.n0, h.range.n1, h.range.p0, h.range.p1, by show -1 ≤ x; omega, h1, h.range.w0, h.range.w1⟩, ⟨h.held.h0, h.held.h1, h.held.h2, h.held.h3⟩,
    fun hp => ⟨(h.green hp).t0, (h.green hp).t1, (h.green hp).t2⟩, fun hp => (hp hp0).elim⟩
theorem may_wt {l : List Pl} {s : Sg} (h : MayS l s) (x : Int) (h0 : 0 ≤ x) (h1 : x < l.length) : MayS l { s with wt := x } :=
  ⟨h.all, h.p0, h.p1, ⟨h.range.s0, h.range.s1, h.range.n0, h.range.n1, h.range.p0, h.range.p1, h.range.a0, h.range.a1, by show -1 ≤ x; omega, h1⟩, ⟨h.held.h0, h.held.h1, h.held.h2, h.held.h3⟩,
    fun hp => ⟨(h.green hp).t0, (h.green hp).t1, (h.green hp).t2⟩, fun hp => ⟨(h.other hp).d, (h.other hp).l, (h.other hp).a, (h.other hp).t, (h.other hp).am, (h.other hp).rd⟩⟩
theorem may_stop {l : List Pl} {s : Sg} (h : MayS l s) : MayS l { s with sp := true, hd := 0 } :=
  ⟨h.all, h.p0, h.p1, ⟨h.range.s0, h.range.s1, h.range.n0, h.range.n1, h.range.p0, h.range.p1, h.range.a0, h.range.a1, h.range.w0, h.range.w1⟩, ⟨by show (0 : Int) ≤ 0; omega, h.held.h1, h.held.h2, by show (0 : Int) ≤ (planAt l s.pl).hd - s.hl; have := h.held.h0; have := h.held.h3; omega⟩,
    fun hp => ⟨(h.green hp).t0, (h.green hp).t1, fun _ => rfl⟩, fun hp => ⟨rfl, (h.other hp).l, (h.other hp).a, (h.other hp).t, (h.other hp).am, (h.other hp).rd⟩⟩
theorem may_clear {l : List Pl} {s : Sg} (h : MayS l s) : MayS l { s with sp := false } :=
  ⟨h.all, h.p0, h.p1, ⟨h.range.s0, h.range.s1, h.range.n0, h.range.n1, h.range.p0, h.range.p1, h.range.a0, h.range.a1, h.range.w0, h.range.w1⟩, ⟨h.held.h0, h.held.h1, h.held.h2, h.held.h3⟩,
    fun hp => ⟨(h.green hp).t0, (h.green hp).t1, fun hx => by cases hx⟩, fun hp => ⟨(h.other hp).d, (h.other hp).l, (h.other hp).a, (h.other hp).t, (h.other hp).am, (h.other hp).rd⟩⟩
theorem err1 {l : List Pl} {s : Sg} : Ways l s (s, 1) := .inl ⟨1, by decide, rfl⟩
theorem err11 {l : List Pl} {s : Sg} : Ways l s (s, 11) := .inl ⟨11, by decide, rfl⟩
theorem bare_ways {l : List Pl} {s : Sg} (h : MayS l s) (c a : Int) : Ways l s (bareS s c a) := by
  unfold bareS
  by_cases ha : a ≠ 0
  · rw [if_pos ha]; exact err1
  rw [if_neg ha]
  by_cases h2 : c = 2
  · rw [if_pos h2]
    by_cases hd : s.hd = 0
    · rw [if_pos hd]; exact err11
    · rw [if_neg hd]
      exact .inr ⟨_, rfl, may_hd h 0 (by omega) (by have := h.held.h0; have := h.held.h3; omega) (fun _ => rfl) (fun _ => rfl), ⟨rfl, rfl, rfl, rfl, rfl⟩⟩
  rw [if_neg h2]
  by_cases h5 : c = 5
  · rw [if_pos h5]
    exact .inr ⟨_, rfl, may_stop h, ⟨rfl, rfl, rfl, rfl, rfl⟩⟩
  rw [if_neg h5]
  by_cases hs : s.sp = false ∨ s.ph ≠ 2
  · rw [if_pos hs]; exact err11
  · rw [if_neg hs]
    exact .inr ⟨_, rfl, may_clear h, ⟨rfl, rfl, rfl, rfl, rfl⟩⟩
theorem ask_ways {l : List Pl} {s : Sg} (h : MayS l s) (c a : Int) : Ways l s (askS l s c a) := by
  unfold askS
  by_cases h1 : c = 1
  · rw [if_pos h1]
    by_cases ha : a < 1
    · rw [if_pos ha]; exact err1
    rw [if_neg ha]
    by_cases hf : ¬ freeG s ∨ (planAt l s.pl).hd - s.hl < a
    · rw [if_pos hf]; exact err11
    rw [if_neg hf]
    have hg : freeG s := Classical.not_not.1 fun x => hf (.inl x)
    have hx : ¬ (planAt l s.pl).hd - s.hl < a := fun x => hf (.inr x)
    exact .inr ⟨_, rfl, may_hd h a (by omega) (by omega) (fun x => (x hg.1).elim) (fun x => by rw [hg.2] at x; cases x), ⟨rfl, rfl, rfl, rfl, rfl⟩⟩
  rw [if_neg h1]
  by_cases h3 : c = 3
  · rw [if_pos h3]
    by_cases ha : a < 0 ∨ (planAt l s.pl).s.length ≤ a
    · rw [if_pos ha]; exact err1
    rw [if_neg ha]
    by_cases hf : ¬ freeG s ∨ s.wt ≠ -1 ∨ a = s.st
    · rw [if_pos hf]; exact err11
    rw [if_neg hf]
    have hg : freeG s := Classical.not_not.1 fun x => hf (.inl x)
    exact .inr ⟨_, rfl, may_ak h a (by omega) (by omega) hg.1, ⟨rfl, rfl, rfl, rfl, rfl⟩⟩
  rw [if_neg h3]
  by_cases h4 : c = 4
  · rw [if_pos h4]
    by_cases ha : a < 0 ∨ l.length ≤ a
    · rw [if_pos ha]; exact err1
    rw [if_neg ha]
    by_cases hf : s.sp = true ∨ a = s.pl
    · rw [if_pos hf]; exact err11
    rw [if_neg hf]
    exact .inr ⟨_, rfl, may_wt h a (by omega) (by omega), ⟨rfl, rfl, rfl, rfl, rfl⟩⟩
  rw [if_neg h4]
  exact bare_ways h c a
/-- what is asked: an error, and nothing changes; or no error -/
theorem do_ways (l : List Pl) (s : Sg) (c a : Int) : (∃ e, e ≠ 0 ∧ doS l s c a = (s, e)) ∨ (∃ t, doS l s c a = (t, 0) ∧ turnsB c = true ∧ MayS l s ∧ MayS l t ∧ SameG t s) := by
  by_cases h : mayS l s = true ∧ turnsB c = true
  · have hm := mayS_iff.1 h.1
    rw [doS, if_pos h]
    rcases ask_ways hm c a with ⟨e, h1, h2⟩ | ⟨t, h1, h2, h3⟩
    · exact .inl ⟨e, h1, h2⟩
    · exact .inr ⟨t, h1, h.2, hm, h2, h3⟩
  · rw [doS, if_neg h]
    exact .inl ⟨1, by decide, rfl⟩
theorem same_lamps {l : List Pl} {s t : Sg} (hs : MayS l s) (ht : MayS l t) (h : SameG t s) : lampsS l t = lampsS l s := by
  rw [lampsS, if_pos (mayS_iff.2 ht), lampsS, if_pos (mayS_iff.2 hs), h.pl, h.st, h.ph]
theorem do_may {l : List Pl} {s : Sg} (h : MayS l s) (c a : Int) : MayS l (doS l s c a).1 := by
  rcases do_ways l s c a with ⟨e, -, h2⟩ | ⟨t, h2, -, -, h3, -⟩
  · rw [h2]; exact h
  · rw [h2]; exact h3
theorem play_may {l : List Pl} {s : Sg} (h : MayS l s) (q : List Ak) : ∀ k, MayS l (playG l s q k)
  | 0 => h
  | k + 1 => by
    rw [playG, stepS]
    split
    · exact may_tick (play_may h q k)
    · exact do_may (play_may h q k) _ _
/-- all red can be asked for -/
theorem red_ok {l : List Pl} {s : Sg} (h : MayS l s) : doS l s 5 0 = ({ s with sp := true, hd := 0 }, 0) := by
  rw [doS, if_pos ⟨mayS_iff.2 h, rfl⟩, askS, if_neg (by decide), if_neg (by decide), if_neg (by decide), bareS, if_neg (by simp), if_neg (by decide), if_pos rfl]
theorem stop_hold {l : List Pl} {s : Sg} (hs : s.sp = true) (c a : Int) (hc : c = 1 ∨ c = 3 ∨ c = 4) : ∃ e, e ≠ 0 ∧ doS l s c a = (s, e) := by
  rw [doS]
  split
  · rw [askS]
    have hf : ¬ freeG s := fun x => by have := x.2; rw [hs] at this; cases this
    rcases hc with rfl | rfl | rfl
    · rw [if_pos rfl]
      split
      · exact ⟨1, by decide, rfl⟩
      · rw [if_pos (.inl hf)]; exact ⟨11, by decide, rfl⟩
    · rw [if_neg (by decide), if_pos rfl]
      split
      · exact ⟨1, by decide, rfl⟩
      · rw [if_pos (.inl hf)]; exact ⟨11, by decide, rfl⟩
    · rw [if_neg (by decide), if_neg (by decide), if_pos rfl]
      split
      · exact ⟨1, by decide, rfl⟩
      · rw [if_pos (.inl hs)]; exact ⟨11, by decide, rfl⟩
  · exact ⟨1, by decide, rfl⟩
theorem clear_ok {l : List Pl} {s : Sg} (h : MayS l s) (hs : s.sp = true) : doS l s 6 0 = if s.ph = 2 then ({ s with sp := false }, 0) else (s, 11) := by
  rw [doS, if_pos ⟨mayS_iff.2 h, rfl⟩, askS, if_neg (by decide), if_neg (by decide), if_neg (by decide), bareS, if_neg (by simp), if_neg (by decide), if_neg (by decide)]
  by_cases hp : s.ph = 2
  · rw [if_neg (by rw [hs]; simp [hp]), if_pos hp]
  · rw [if_pos (.inr hp), if_neg hp]
/-- a stage that is asked for -/
theorem next_ok {l : List Pl} {s : Sg} {a : Int} (h : (doS l s 3 a).2 = 0) : (doS l s 3 a).1 = { s with ak := a } ∧ 0 ≤ a ∧ s.ph = 0 ∧ MayS l (doS l s 3 a).1 := by
  have hw := do_ways l s 3 a
  have hm : MayS l (doS l s 3 a).1 := by
    rcases hw with ⟨e, h1, h2⟩ | ⟨t, h2, -, -, h3, -⟩
    · rw [h2] at h; exact (h1 h).elim
    · rw [h2]; exact h3
  refine ⟨?_, ?_⟩ <;> clear hw
  · revert h
    rw [doS]
    split
    · rw [askS, if_neg (by decide), if_pos rfl]
      split
      · intro h; exact (by cases h)
      · split
        · intro h; exact (by cases h)
        · intro _; rfl
    · intro h; exact (by cases h)
  · refine ⟨?_, ?_, hm⟩
    · revert h
      rw [doS]
      split
      · rw [askS, if_neg (by decide), if_pos rfl]
        split
        · intro h; exact (by cases h)
        · rename_i hx
          intro _
          omega
      · intro h; exact (by cases h)
    · revert h
      rw [doS]
      split
      · rw [askS, if_neg (by decide), if_pos rfl]
        split
        · intro h; exact (by cases h)
        · split
          · intro h; exact (by cases h)
          · rename_i hx
            intro _
            exact (Classical.not_not.1 fun x => hx (.inl x)).1
      · intro h; exact (by cases h)
theorem next_tick {l : List Pl} {y : Sg} (h : MayS l y) (hp : y.ph = 0) (ha : 0 ≤ y.ak) : ((tickS l y).ph = 0 ∧ (tickS l y).ak = y.ak) ∨ ((tickS l y).ph = 1 ∧ (tickS l y).nx = y.ak ∧ (tickS l y).ak = -1) := by
  rw [tickS, if_pos (mayS_iff.2 h), if_pos hp, greenT]
  split
  · exact .inl ⟨hp, rfl⟩
  · split
    · right
      refine ⟨rfl, ?_, rfl⟩
      show (if y.ak = -1 then _ else _) = _
      rw [if_neg (by omega)]
    · exact .inl ⟨hp, rfl⟩
/-- a plan that is asked for -/
theorem plan_ok {l : List Pl} {s : Sg} {k : Int} (h : (doS l s 4 k).2 = 0) : (doS l s 4 k).1 = { s with wt := k } ∧ 0 ≤ k ∧ s.sp = false ∧ k ≠ s.pl ∧ MayS l (doS l s 4 k).1 := by
  have hm : MayS l (doS l s 4 k).1 := by
    rcases do_ways l s 4 k with ⟨e, h1, h2⟩ | ⟨t, h2, -, -, h3, -⟩
    · rw [h2] at h; exact (h1 h).elim
    · rw [h2]; exact h3
  have key : (doS l s 4 k).1 = { s with wt := k } ∧ 0 ≤ k ∧ s.sp = false ∧ k ≠ s.pl := by
    revert h
    rw [doS]
    split
    · rw [askS, if_neg (by decide), if_neg (by decide), if_pos rfl]
      split
      · intro h; exact (by cases h)
      · rename_i h1
        split
        · intro h; exact (by cases h)
        · rename_i h2
          intro _
          refine ⟨rfl, by omega, ?_, fun x => h2 (.inr x)⟩
          cases hs : s.sp
          · rfl
          · exact (h2 (.inl hs)).elim
    · intro h; exact (by cases h)
  exact ⟨key.1, key.2.1, key.2.2.1, key.2.2.2, hm⟩
/-- a tick of a machine that wants another plan -/
theorem plan_tick {l : List Pl} {t : Sg} {k : Int} (h : MayS l t) (hs : t.sp = false) (hw : t.wt = k) (hk : 0 ≤ k) (hp : k ≠ t.pl) :
    (t.ph = 2 ∧ (tickS l t).pl = k ∧ (tickS l t).st = 0 ∧ (tickS l t).ph = 0 ∧ (tickS l t).t = 0 ∧ (tickS l t).wt = -1) ∨
    ((tickS l t).pl = t.pl ∧ (tickS l t).wt = k ∧ (tickS l t).sp = false ∧ MayS l (tickS l t) ∧ (t.ph = 2 → (tickS l t).ph = 2)) := by
  have hm := may_tick h
  by_cases h0 : t.ph = 0
  · right
    refine ⟨?_, ?_, ?_, hm, fun x => by omega⟩
    all_goals
      rw [tickS, if_pos (mayS_iff.2 h), if_pos h0, greenT]
      split
      · first | rfl | exact hw | exact hs
      · split
        · first | rfl | exact hw | exact hs
        · first | rfl | exact hw | exact hs
  by_cases h1 : t.ph = 1
  · right
    refine ⟨?_, ?_, ?_, hm, fun x => by omega⟩
    all_goals
      rw [tickS, if_pos (mayS_iff.2 h), if_neg h0, if_pos h1, amberT]
      split
      · first | rfl | exact hw | exact hs
      · first | rfl | exact hw | exact hs
  have h2 : t.ph = 2 := by have := h.range.p0; have := h.range.p1; omega
  have he : tickS l t = redT (planAt l t.pl) t := by rw [tickS, if_pos (mayS_iff.2 h), if_neg h0, if_neg h1]
  by_cases hr : redN (planAt l t.pl) t < (planAt l t.pl).rd ∨ t.sp = true
  · right
    rw [redT, if_pos hr] at he
    refine ⟨by rw [he], by rw [he]; exact hw, by rw [he]; exact hs, hm, fun _ => by rw [he]; exact h2⟩
  · left
    rw [redT, if_neg hr, if_neg (by omega)] at he
    exact ⟨h2, by rw [he]; exact hw, by rw [he], by rw [he], by rw [he], by rw [he]⟩
/-- ticks alone -/
theorem play_ticks {l : List Pl} {s : Sg} {q : List Ak} : ∀ n, (∀ j, j < n → (q.getD j Ak.zero).cmd = -1) → playG l s q n = ticksS l s n ∧ playL l s q n = rowsS l s n
  | 0, _ => ⟨rfl, rfl⟩
  | n + 1, h => by
    obtain ⟨h1, h2⟩ := play_ticks n fun j hj => h j (by omega)
    have hg : playG l s q (n + 1) = ticksS l s (n + 1) := by rw [playG, stepS, if_pos (h n (by omega)), h1, ticksS]
    exact ⟨hg, by rw [playL, if_pos (h n (by omega)), h2, hg, rowsS]⟩
theorem play_cong {l : List Pl} {s : Sg} {a b : List Ak} : ∀ n, (∀ j, j < n → a.getD j Ak.zero = b.getD j Ak.zero) → playG l s a n = playG l s b n ∧ playL l s a n = playL l s b n
  | 0, _ => ⟨rfl, rfl⟩
  | n + 1, h => by
    obtain ⟨h1, h2⟩ := play_cong n fun j hj => h j (by omega)
    have hg : playG l s a (n + 1) = playG l s b (n + 1) := by rw [playG, playG, h1, h n (by omega)]
    exact ⟨hg, by rw [playL, playL, h2, hg, h n (by omega)]⟩
/-- what is played in two parts -/
theorem play_add {l : List Pl} {s : Sg} (a b : List Ak) : ∀ k, playG l s (a ++ b) (a.length + k) = playG l (playG l s a a.length) b k ∧ playL l s (a ++ b) (a.length + k) = playL l s a a.length ++ playL l (playG l s a a.length) b k
  | 0 => by
    have h := play_cong (l := l) (s := s) (a := a ++ b) (b := a) a.length fun j hj => by simp [List.getD_eq_getElem?_getD, List.getElem?_append_left hj]
    refine ⟨h.1, ?_⟩
    rw [Nat.add_zero, h.2, playL, List.append_nil]
  | k + 1 => by
    obtain ⟨h1, h2⟩ := play_add a b k
    have hd : (a ++ b).getD (a.length + k) Ak.zero = b.getD k Ak.zero := by
      simp [List.getD_eq_getElem?_getD, List.getElem?_append_right]
    have hg : playG l s (a ++ b) (a.length + (k + 1)) = playG l (playG l s a a.length) b (k + 1) := by
      rw [show a.length + (k + 1) = (a.length + k) + 1 from rfl, playG, h1, hd, playG]
    refine ⟨hg, ?_⟩
    have hg2 := hg
    rw [show a.length + (k + 1) = (a.length + k) + 1 from rfl] at hg2 ⊢
    rw [playL, h2, hd, hg2, playL, List.append_assoc]
end Go.Proofs.Ytgnhmdfajnnkhaa


/- The laws' arguments, opened: a slice of numbers. -/
namespace Go.Proofs.Ytgnhmdfajnnkhaa
open Go.ChangeShapes Go.WideShapes Go.ChangeAt Go.RowKit

theorem own : ownKnob Try.prog.godebug = none := by kernel_rfl
theorem cellsInt : Try.prog.cellsOf 3 = 1 := by kernel_rfl
theorem laidOut : laidOutB Try.prog = true := by kernel_rfl

theorem one_of_take3 {l : List Value} {i : Nat} {v : Value} (h : (l.drop i).take 1 = [v]) : l[i]? = some v := by
  have h1 : ((l.drop i).take 1)[0]? = some v := by rw [h]; rfl
  rw [List.getElem?_take, if_pos (by omega), List.getElem?_drop, Nat.add_zero] at h1
  exact h1
section
variable {H : Type} {enc : TypeId × Value → H} {W : World} {base : Nat} {spare : Nat → Bool} {held : Bool}
/-- a slice of numbers of kind K: t the slice's type, e the element's -/
theorem open_its {t e : TypeId} {K : IntKind} {fuel : Nat} {cs : List Value} {x : DataW H × List MemPlace} (ht : Try.prog.underlying t = some (.slice e)) (he : Try.prog.underlying e = some (.int K)) (hc : Try.prog.cellsOf e = 1)
    (h : DataW.trod enc Try.prog W base spare held fuel t cs = some x) : ∃ (A : Option Addr) (n c : Nat) (l : List Int), cs = [.slice A n c] ∧ Its K W A n c l ∧ ∀ y ∈ l, (Lit.int K y).wf = true := by
  rcases open_ints ht he hc h with ⟨hcs, _⟩ | ⟨a, len, cap, zs, hcs, _, hl, hm, hz, _, hcell, hwz⟩
  · exact ⟨none, 0, 0, [], hcs, Its.nil K W, fun y hy => by cases hy⟩
  · have hlen : len ≤ zs.length := by rw [hz]; split <;> omega
    refine ⟨some a, len, cap, zs.take len, hcs, ⟨by rw [List.length_take]; omega, hl, hm, (fun e => by cases e), ?_⟩, fun y hy => hwz y (List.mem_of_mem_take hy)⟩
    intro hn
    obtain ⟨b, off, rfl, hc⟩ := ints_at hcell (by omega)
    refine ⟨b, off, rfl, fun j hj => ?_⟩
    rw [hc j (by omega)]
    simp [List.getD_eq_getElem?_getD, hj]
theorem trodAll_five {P : Program} {w : World} {t0 t1 t2 t3 t4 : TypeId} {args : Array Value} {ds : List (DataW H)} {ps : List MemPlace} (h : DataW.TrodAll enc P w base spare held [t0, t1, t2, t3, t4] args.toList ds ps) :
    ∃ v0 v1 v2 v3 v4 d0 d1 d2 d3 d4 p0 p1 p2 p3 p4, args = #[v0, v1, v2, v3, v4] ∧ ds = [d0, d1, d2, d3, d4] ∧ ps = p0 ++ p1 ++ p2 ++ p3 ++ p4 ∧ DataW.Trod enc P w base spare held t0 v0 d0 p0 ∧ DataW.Trod enc P w base spare held t1 v1 d1 p1 ∧ DataW.Trod enc P w base spare held t2 v2 d2 p2 ∧ DataW.Trod enc P w base spare held t3 v3 d3 p3 ∧ DataW.Trod enc P w base spare held t4 v4 d4 p4 := by
  obtain ⟨v0, vs0, d0, es0, p0, q0, hargs, rfl, rfl, h0, r0⟩ := trodAll_cons h
  obtain ⟨v1, vs1, d1, es1, p1, q1, rfl, rfl, rfl, h1, r1⟩ := trodAll_cons r0
  obtain ⟨v2, vs2, d2, es2, p2, q2, rfl, rfl, rfl, h2, r2⟩ := trodAll_cons r1
  obtain ⟨v3, vs3, d3, es3, p3, q3, rfl, rfl, rfl, h3, r3⟩ := trodAll_cons r2
  obtain ⟨v4, vs4, d4, es4, p4, q4, rfl, rfl, rfl, h4, r4⟩ := trodAll_cons r3
  obtain ⟨rfl, rfl, rfl⟩ := trodAll_nil r4
  exact ⟨v0, v1, v2, v3, v4, d0, d1, d2, d3, d4, p0, p1, p2, p3, p4, by cases args; simp_all, rfl, by simp, h0, h1, h2, h3, h4⟩
theorem trodAll_mk5 {P : Program} {w : World} {t0 t1 t2 t3 t4 : TypeId} {v0 v1 v2 v3 v4 : Value} {d0 d1 d2 d3 d4 : DataW H} {p0 p1 p2 p3 p4 : List MemPlace} (h0 : DataW.Trod enc P w base spare held t0 v0 d0 p0) (h1 : DataW.Trod enc P w base spare held t1 v1 d1 p1) (h2 : DataW.Trod enc P w base spare held t2 v2 d2 p2) (h3 : DataW.Trod enc P w base spare held t3 v3 d3 p3) (h4 : DataW.Trod enc P w base spare held t4 v4 d4 p4) : DataW.TrodAll enc P w base spare held [t0, t1, t2, t3, t4] [v0, v1, v2, v3, v4] [d0, d1, d2, d3, d4] (p0 ++ (p1 ++ (p2 ++ (p3 ++ (p4))))) :=
  ⟨p0, _, h0, trodAll_mk4 h1 h2 h3 h4, rfl⟩
end
end Go.Proofs.Ytgnhmdfajnnkhaa


/- The laws' arguments, opened: a plan, a slice of plans. -/
namespace Go.Proofs.Ytgnhmdfajnnkhaa
set_option maxRecDepth 100000
set_option linter.unusedVariables false
set_option linter.unusedSimpArgs false
open Go.ChangeShapes Go.WideShapes Go.ChangeAt Go.RowKit

theorem cellsStage : Try.prog.cellsOf 71 = 3 := by kernel_rfl
theorem cellsPlan : Try.prog.cellsOf 47 = 5 := by kernel_rfl
theorem cellsIntsS : Try.prog.cellsOf 40 = 1 := by kernel_rfl
theorem cellsStagesS : Try.prog.cellsOf 45 = 1 := by kernel_rfl
theorem add_two5 (b o m i : Nat) : (((⟨b, o, none⟩ : Addr).add m).add i) = ⟨b, o + m + i, none⟩ := by rw [Addr.add_mid, Addr.add_mid]
theorem stg_one (x : Stg) : ∀ u ∈ x.row, u.oneCell' = true := by
  intro u hu
  simp only [Stg.row, List.mem_cons, List.not_mem_nil, or_false] at hu
  rcases hu with rfl | rfl | rfl <;> rfl
theorem pl_one (p : Pl) : ∀ u ∈ p.row, u.oneCell' = true := by
  intro u hu
  simp only [Pl.row, List.mem_cons, List.not_mem_nil, or_false] at hu
  rcases hu with rfl | rfl | rfl | rfl | rfl <;> rfl
section
variable {H : Type} {enc : TypeId × Value → H} {W : World} {base : Nat} {spare : Nat → Bool} {held : Bool}
theorem stage_cells (fuel : Nat) (cs : List Value) (x : DataW H × List MemPlace) (hl : cs.length = 3) (h : DataW.trod enc Try.prog W base spare held fuel 71 cs = some x) : ∃ u : Stg, cs = u.row := by
  obtain ⟨xs, n, rfl, hx, _, hlen, hg⟩ := DataW.trod_struct Try.underlying71 h
  match xs, hlen with
  | [y0, y1, y2], _ =>
    have g0 : DataW.trod enc Try.prog W base spare held n 3 ((cs.drop 0).take (Try.prog.cellsOf 3)) = some y0 := hg 0 _ rfl
    have g1 : DataW.trod enc Try.prog W base spare held n 3 ((cs.drop 1).take (Try.prog.cellsOf 3)) = some y1 := hg 1 _ rfl
    have g2 : DataW.trod enc Try.prog W base spare held n 3 ((cs.drop 2).take (Try.prog.cellsOf 3)) = some y2 := hg 2 _ rfl
    rw [cellsInt] at g0 g1 g2
    obtain ⟨k0, e0, _, w0⟩ := DataW.trod_int Try.underlying3 (x := y0) g0
    obtain ⟨k1, e1, _, w1⟩ := DataW.trod_int Try.underlying3 (x := y1) g1
    obtain ⟨k2, e2, _, w2⟩ := DataW.trod_int Try.underlying3 (x := y2) g2
    have q0 := one_of_take3 e0
    have q1 := one_of_take3 e1
    have q2 := one_of_take3 e2
    refine ⟨⟨k0, k1, k2⟩, ?_⟩
    match cs, hl with
    | [u0, u1, u2], _ =>
      simp only [List.getElem?_cons_zero, List.getElem?_cons_succ, Option.some.injEq] at q0 q1 q2
      rw [q0, q1, q2]
      rfl
theorem open_stgs {fuel : Nat} {cs : List Value} {x : DataW H × List MemPlace} (h : DataW.trod enc Try.prog W base spare held fuel 45 cs = some x) : ∃ (A : Option Addr) (n c : Nat) (l : List Stg), cs = [.slice A n c] ∧ Sts W A n c l := by
  rcases Go.Deep.open_slice Try.underlying45 h with ⟨hcs, _⟩ | ⟨a, len, cap, m, n', D, Pl, hcs, _, hl, hm, hz, _, hx⟩
  · exact ⟨none, 0, 0, [], hcs, Rws.nil 3 W⟩
  · have hlm : len ≤ m := by rw [hz]; split <;> omega
    have each : ∀ i, i < len → ∃ u : Stg, ∀ j, j < 3 → W.cell? ((a.add (i * 3)).add j) = u.row[j]? := by
      intro i hi
      obtain ⟨cs', h1, h2⟩ := hx i (by omega)
      rw [cellsStage] at h1
      obtain ⟨_, h3, h4⟩ := World.cells?_some h1
      obtain ⟨u, rfl⟩ := stage_cells n' cs' _ h3 h2
      exact ⟨u, h4⟩
    haveI : Inhabited Stg := ⟨Stg.zero⟩
    obtain ⟨q, hq⟩ := Go.Deep.choose_lt each
    refine ⟨some a, len, cap, (List.range len).map q, hcs, ⟨by simp, ?_, ?_, hl, hm, (fun e => by cases e), ?_⟩⟩
    · intro r hr
      obtain ⟨u, _, rfl⟩ := List.mem_map.1 hr
      rfl
    · intro r hr v hv
      obtain ⟨u, _, rfl⟩ := List.mem_map.1 hr
      exact stg_one u v hv
    · intro hn
      obtain ⟨ab, ao, am⟩ := a
      have h0 := hq 0 hn 0 (by omega)
      have ham : am = none := by
        have h1 : (q 0).row[0]? = some (.int .i64 (q 0).g) := rfl
        rw [h1] at h0
        simpa [Addr.add] using World.cell?_spot h0
      subst ham
      refine ⟨ab, ao, rfl, fun j hj i hi => ?_⟩
      have h1 := hq j hj i hi
      rw [add_two5] at h1
      rw [h1]
      have hl3 : i < (q j).row.length := hi
      simp [List.getD_eq_getElem?_getD, List.getElem?_range hj, hl3]
theorem plan_cells (fuel : Nat) (cs : List Value) (x : DataW H × List MemPlace) (hl : cs.length = 5) (h : DataW.trod enc Try.prog W base spare held fuel 47 cs = some x) : ∃ p : Pl, cs = p.row ∧ PlIn W p := by
  obtain ⟨xs, n, rfl, hx, _, hlen, hg⟩ := DataW.trod_struct Try.underlying47 h
  match xs, hlen with
  | [y0, y1, y2, y3, y4], _ =>
    have g0 : DataW.trod enc Try.prog W base spare held n 40 ((cs.drop 0).take (Try.prog.cellsOf 40)) = some y0 := hg 0 _ rfl
    have g1 : DataW.trod enc Try.prog W base spare held n 45 ((cs.drop 1).take (Try.prog.cellsOf 45)) = some y1 := hg 1 _ rfl
    have g2 : DataW.trod enc Try.prog W base spare held n 3 ((cs.drop 2).take (Try.prog.cellsOf 3)) = some y2 := hg 2 _ rfl
    have g3 : DataW.trod enc Try.prog W base spare held n 3 ((cs.drop 3).take (Try.prog.cellsOf 3)) = some y3 := hg 3 _ rfl
    have g4 : DataW.trod enc Try.prog W base spare held n 3 ((cs.drop 4).take (Try.prog.cellsOf 3)) = some y4 := hg 4 _ rfl
    rw [cellsIntsS] at g0
    rw [cellsStagesS] at g1
    rw [cellsInt] at g2 g3 g4
    obtain ⟨A, n0, c0, m, e0, hm, -⟩ := open_its Try.underlying40 Try.underlying3 cellsInt (x := y0) g0
    obtain ⟨B, k0, d0, s, e1, hs⟩ := open_stgs (x := y1) g1
    obtain ⟨am, e2, _, w2⟩ := DataW.trod_int Try.underlying3 (x := y2) g2
    obtain ⟨rd, e3, _, w3⟩ := DataW.trod_int Try.underlying3 (x := y3) g3
    obtain ⟨hd, e4, _, w4⟩ := DataW.trod_int Try.underlying3 (x := y4) g4
    have q0 := one_of_take3 e0
    have q1 := one_of_take3 e1
    have q2 := one_of_take3 e2
    have q3 := one_of_take3 e3
    have q4 := one_of_take3 e4
    refine ⟨⟨A, n0, c0, m, B, k0, d0, s, am, rd, hd⟩, ?_, hm, hs⟩
    match cs, hl with
    | [u0, u1, u2, u3, u4], _ =>
      simp only [List.getElem?_cons_zero, List.getElem?_cons_succ, Option.some.injEq] at q0 q1 q2 q3 q4
      rw [q0, q1, q2, q3, q4]
      rfl
/-- an argument that is a slice of plans -/
theorem open_plans {v : Value} {r : Reach} {b0 : Nat} {d : DataW H} {p : List MemPlace} (hv : Value.okWide Try.prog W r b0 22 v) (h : DataW.Trod enc Try.prog W base spare held 22 v d p) :
    ∃ (A : Option Addr) (n c : Nat) (l : List Pl), v = .slice A n c ∧ Pls W A n c l := by
  obtain ⟨A, n, c, rfl⟩ := okWide_slice Try.underlying22 hv
  obtain ⟨fuel, hf⟩ := h
  rcases Go.Deep.open_slice Try.underlying22 hf with ⟨hcs, _⟩ | ⟨a, len, cap, m, n', D, Q, hcs, _, hl, hm, hz, _, hx⟩
  · simp only [Value.cells, List.cons.injEq, Value.slice.injEq, and_true] at hcs
    obtain ⟨rfl, rfl, rfl⟩ := hcs
    exact ⟨none, 0, 0, [], rfl, Pls.nil W⟩
  · simp only [Value.cells, List.cons.injEq, Value.slice.injEq, and_true] at hcs
    obtain ⟨rfl, rfl, rfl⟩ := hcs
    have hlm : n ≤ m := by rw [hz]; split <;> omega
    have each : ∀ i, i < n → ∃ u : Pl, (∀ j, j < 5 → W.cell? ((a.add (i * 5)).add j) = u.row[j]?) ∧ PlIn W u := by
      intro i hi
      obtain ⟨cs', h1, h2⟩ := hx i (by omega)
      rw [cellsPlan] at h1
      obtain ⟨_, h3, h4⟩ := World.cells?_some h1
      obtain ⟨u, rfl, hb⟩ := plan_cells n' cs' _ h3 h2
      exact ⟨u, h4, hb⟩
    haveI : Inhabited Pl := ⟨Pl.zero⟩
    obtain ⟨q, hq⟩ := Go.Deep.choose_lt each
    refine ⟨some a, n, c, (List.range n).map q, rfl, ⟨by simp, ?_, ?_, hl, hm, (fun e => by cases e), ?_⟩, ?_⟩
    · intro r hr
      obtain ⟨u, _, rfl⟩ := List.mem_map.1 hr
      rfl
    · intro r hr v hv
      obtain ⟨u, _, rfl⟩ := List.mem_map.1 hr
      exact pl_one u v hv
    · intro hn
      obtain ⟨ab, ao, am⟩ := a
      have h0 := (hq 0 hn).1 0 (by omega)
      have ham : am = none := by
        have h1 : (q 0).row[0]? = some (.slice (q 0).A (q 0).n (q 0).c) := rfl
        rw [h1] at h0
        simpa [Addr.add] using World.cell?_spot h0
      subst ham
      refine ⟨ab, ao, rfl, fun j hj i hi => ?_⟩
      have h1 := (hq j hj).1 i hi
      rw [add_two5] at h1
      rw [h1]
      have hl3 : i < (q j).row.length := hi
      simp [List.getD_eq_getElem?_getD, List.getElem?_range hj, hl3]
    · intro u hu
      obtain ⟨i, hi, rfl⟩ := List.mem_map.1 hu
      exact (hq i (List.mem_range.1 hi)).2
end
end Go.Proofs.Ytgnhmdfajnnkhaa


/- The laws' arguments, opened: a machine. -/
namespace Go.Proofs.Ytgnhmdfajnnkhaa
set_option maxRecDepth 100000
set_option linter.unusedVariables false
set_option linter.unusedSimpArgs false
open Go.ChangeShapes Go.WideShapes Go.ChangeAt Go.RowKit

theorem cellsSig : Try.prog.cellsOf 24 = 10 := by kernel_rfl
theorem cellsBoolS : Try.prog.cellsOf 4 = 1 := by kernel_rfl
section
variable {H : Type} {enc : TypeId × Value → H} {W : World} {base : Nat} {spare : Nat → Bool} {held : Bool}
theorem sig_cells (fuel : Nat) (cs : List Value) (x : DataW H × List MemPlace) (hl : cs.length = 10) (h : DataW.trod enc Try.prog W base spare held fuel 24 cs = some x) : ∃ s : Sg, cs = s.arr.toList ∧ SmG s := by
  obtain ⟨xs, n, rfl, hx, _, hlen, hg⟩ := DataW.trod_struct Try.underlying24 h
  match xs, hlen with
  | [y0, y1, y2, y3, y4, y5, y6, y7, y8, y9], _ =>
    have g0 : DataW.trod enc Try.prog W base spare held n 3 ((cs.drop 0).take (Try.prog.cellsOf 3)) = some y0 := hg 0 _ rfl
    have g1 : DataW.trod enc Try.prog W base spare held n 3 ((cs.drop 1).take (Try.prog.cellsOf 3)) = some y1 := hg 1 _ rfl
    have g2 : DataW.trod enc Try.prog W base spare held n 3 ((cs.drop 2).take (Try.prog.cellsOf 3)) = some y2 := hg 2 _ rfl
    have g3 : DataW.trod enc Try.prog W base spare held n 3 ((cs.drop 3).take (Try.prog.cellsOf 3)) = some y3 := hg 3 _ rfl
    have g4 : DataW.trod enc Try.prog W base spare held n 3 ((cs.drop 4).take (Try.prog.cellsOf 3)) = some y4 := hg 4 _ rfl
    have g5 : DataW.trod enc Try.prog W base spare held n 3 ((cs.drop 5).take (Try.prog.cellsOf 3)) = some y5 := hg 5 _ rfl
    have g6 : DataW.trod enc Try.prog W base spare held n 3 ((cs.drop 6).take (Try.prog.cellsOf 3)) = some y6 := hg 6 _ rfl
    have g7 : DataW.trod enc Try.prog W base spare held n 3 ((cs.drop 7).take (Try.prog.cellsOf 3)) = some y7 := hg 7 _ rfl
    have g8 : DataW.trod enc Try.prog W base spare held n 3 ((cs.drop 8).take (Try.prog.cellsOf 3)) = some y8 := hg 8 _ rfl
    have g9 : DataW.trod enc Try.prog W base spare held n 4 ((cs.drop 9).take (Try.prog.cellsOf 4)) = some y9 := hg 9 _ rfl
    rw [cellsInt] at g0 g1 g2 g3 g4 g5 g6 g7 g8
    rw [cellsBoolS] at g9
    obtain ⟨k0, e0, _, w0⟩ := DataW.trod_int Try.underlying3 (x := y0) g0
    obtain ⟨k1, e1, _, w1⟩ := DataW.trod_int Try.underlying3 (x := y1) g1
    obtain ⟨k2, e2, _, w2⟩ := DataW.trod_int Try.underlying3 (x := y2) g2
    obtain ⟨k3, e3, _, w3⟩ := DataW.trod_int Try.underlying3 (x := y3) g3
    obtain ⟨k4, e4, _, w4⟩ := DataW.trod_int Try.underlying3 (x := y4) g4
    obtain ⟨k5, e5, _, w5⟩ := DataW.trod_int Try.underlying3 (x := y5) g5
    obtain ⟨k6, e6, _, w6⟩ := DataW.trod_int Try.underlying3 (x := y6) g6
    obtain ⟨k7, e7, _, w7⟩ := DataW.trod_int Try.underlying3 (x := y7) g7
    obtain ⟨k8, e8, _, w8⟩ := DataW.trod_int Try.underlying3 (x := y8) g8
    obtain ⟨k9, e9, _⟩ := DataW.trod_bool Try.underlying4 (x := y9) g9
    have q0 := one_of_take3 e0
    have q1 := one_of_take3 e1
    have q2 := one_of_take3 e2
    have q3 := one_of_take3 e3
    have q4 := one_of_take3 e4
    have q5 := one_of_take3 e5
    have q6 := one_of_take3 e6
    have q7 := one_of_take3 e7
    have q8 := one_of_take3 e8
    have q9 := one_of_take3 e9
    have b4 := bounds_i64 w4
    have b6 := bounds_i64 w6
    refine ⟨⟨k0, k1, k2, k3, k4, k5, k6, k7, k8, k9⟩, ?_, ⟨by simp only; omega, by simp only; omega⟩⟩
    match cs, hl with
    | [u0, u1, u2, u3, u4, u5, u6, u7, u8, u9], _ =>
      simp only [List.getElem?_cons_zero, List.getElem?_cons_succ, Option.some.injEq] at q0 q1 q2 q3 q4 q5 q6 q7 q8 q9
      rw [q0, q1, q2, q3, q4, q5, q6, q7, q8, q9]
      rfl
/-- an argument that is a machine -/
theorem open_sig {v : Value} {r : Reach} {b0 : Nat} {d : DataW H} {p : List MemPlace} (hv : Value.okWide Try.prog W r b0 24 v) (h : DataW.Trod enc Try.prog W base spare held 24 v d p) : ∃ s : Sg, v = sgV s ∧ SmG s := by
  obtain ⟨cs, rfl, hsz⟩ := okWide_struct Try.underlying24 hv
  obtain ⟨l⟩ := cs
  obtain ⟨fuel, hf⟩ := h
  obtain ⟨u, hu, hb⟩ := sig_cells fuel l _ (hsz.trans cellsSig) hf
  refine ⟨u, ?_, hb⟩
  rw [hu, sgV_arr]
end
end Go.Proofs.Ytgnhmdfajnnkhaa


/- The laws' arguments, opened: a slice of asks. -/
namespace Go.Proofs.Ytgnhmdfajnnkhaa
set_option maxRecDepth 100000
set_option linter.unusedVariables false
set_option linter.unusedSimpArgs false
open Go.ChangeShapes Go.WideShapes Go.ChangeAt Go.RowKit

theorem cellsAsk : Try.prog.cellsOf 52 = 2 := by kernel_rfl
section
variable {H : Type} {enc : TypeId × Value → H} {W : World} {base : Nat} {spare : Nat → Bool} {held : Bool}
theorem ask_cells (fuel : Nat) (cs : List Value) (x : DataW H × List MemPlace) (hl : cs.length = 2) (h : DataW.trod enc Try.prog W base spare held fuel 52 cs = some x) : ∃ u : Ak, cs = u.row := by
  obtain ⟨xs, n, rfl, hx, _, hlen, hg⟩ := DataW.trod_struct Try.underlying52 h
  match xs, hlen with
  | [y0, y1], _ =>
    have g0 : DataW.trod enc Try.prog W base spare held n 3 ((cs.drop 0).take (Try.prog.cellsOf 3)) = some y0 := hg 0 _ rfl
    have g1 : DataW.trod enc Try.prog W base spare held n 3 ((cs.drop 1).take (Try.prog.cellsOf 3)) = some y1 := hg 1 _ rfl
    rw [cellsInt] at g0 g1
    obtain ⟨x0, e0, _, w0⟩ := DataW.trod_int Try.underlying3 (x := y0) g0
    obtain ⟨x1, e1, _, w1⟩ := DataW.trod_int Try.underlying3 (x := y1) g1
    have q0 := one_of_take3 e0
    have q1 := one_of_take3 e1
    refine ⟨⟨x0, x1⟩, ?_⟩
    match cs, hl with
    | [u0, u1], _ =>
      simp only [List.getElem?_cons_zero, List.getElem?_cons_succ, Option.some.injEq] at q0 q1
      rw [q0, q1]
      rfl
/-- an argument that is a slice of asks -/
theorem open_asks {v : Value} {r : Reach} {b0 : Nat} {d : DataW H} {p : List MemPlace} (hv : Value.okWide Try.prog W r b0 25 v) (h : DataW.Trod enc Try.prog W base spare held 25 v d p) :
    ∃ (A : Option Addr) (n c : Nat) (l : List Ak), v = .slice A n c ∧ Aks W A n c l := by
  obtain ⟨A, n, c, rfl⟩ := okWide_slice Try.underlying25 hv
  obtain ⟨fuel, hf⟩ := h
  rcases Go.Deep.open_slice Try.underlying25 hf with ⟨hcs, _⟩ | ⟨a, len, cap, m, n', D, Pl, hcs, _, hl, hm, hz, _, hx⟩
  · simp only [Value.cells, List.cons.injEq, Value.slice.injEq, and_true] at hcs
    obtain ⟨rfl, rfl, rfl⟩ := hcs
    exact ⟨none, 0, 0, [], rfl, Rws.nil 2 W⟩
  · simp only [Value.cells, List.cons.injEq, Value.slice.injEq, and_true] at hcs
    obtain ⟨rfl, rfl, rfl⟩ := hcs
    have hlm : n ≤ m := by rw [hz]; split <;> omega
    have each : ∀ i, i < n → ∃ u : Ak, ∀ j, j < 2 → W.cell? ((a.add (i * 2)).add j) = u.row[j]? := by
      intro i hi
      obtain ⟨cs', h1, h2⟩ := hx i (by omega)
      rw [cellsAsk] at h1
      obtain ⟨_, h3, h4⟩ := World.cells?_some h1
      obtain ⟨u, rfl⟩ := ask_cells n' cs' _ h3 h2
      exact ⟨u, h4⟩
    haveI : Inhabited Ak := ⟨Ak.zero⟩
    obtain ⟨q, hq⟩ := Go.Deep.choose_lt each
    refine ⟨some a, n, c, (List.range n).map q, rfl, ⟨by simp, ?_, ?_, hl, hm, (fun e => by cases e), ?_⟩⟩
    · intro r hr
      obtain ⟨u, _, rfl⟩ := List.mem_map.1 hr
      rfl
    · intro r hr v hv
      obtain ⟨u, _, rfl⟩ := List.mem_map.1 hr
      exact ask_one u v hv
    · intro hn
      obtain ⟨ab, ao, am⟩ := a
      have h0 := hq 0 hn 0 (by omega)
      have ham : am = none := by
        have h1 : (q 0).row[0]? = some (.int .i64 (q 0).cmd) := rfl
        rw [h1] at h0
        simpa [Addr.add] using World.cell?_spot h0
      subst ham
      refine ⟨ab, ao, rfl, fun j hj i hi => ?_⟩
      have h1 := hq j hj i hi
      rw [add_two5] at h1
      rw [h1]
      have hl2 : i < (q j).row.length := hi
      simp [List.getD_eq_getElem?_getD, List.getElem?_range hj, hl2]
end
end Go.Proofs.Ytgnhmdfajnnkhaa


/- slices.Equal of numbers and of stages. -/
namespace Go.Proofs.Ytgnhmdfajnnkhaa
set_option maxRecDepth 100000
set_option linter.unusedVariables false
set_option linter.unusedSimpArgs false
open Go.RowKit

end Go.Proofs.Ytgnhmdfajnnkhaa


/- A range over a function whose values are known ahead, in order; a round goes on, or leaves the function; between two rounds the iterator turns new blocks, and one of its own. -/
namespace Go.Proofs.Ytgnhmdfajnnkhaa
set_option linter.unusedVariables false
open Go.RowKit

/-- a world in which nothing has turned but the block g -/
structure But (g : Nat) (w w' : World) : Prop where
  os : w'.os = w.os
  tape : w'.tape = w.tape
  output : w'.output = w.output
  size : w.heap.size ≤ w'.heap.size
  block : ∀ b, b < w.heap.size → b ≠ g → w'.heap[b]? = w.heap[b]?
section
variable {g B : Nat} {w w1 w2 : World}
theorem But.refl (g : Nat) (w : World) : But g w w := ⟨rfl, rfl, rfl, Nat.le_refl _, fun _ _ _ => rfl⟩
theorem But.trans (h : But g w w1) (k : But g w1 w2) : But g w w2 :=
  ⟨k.os.trans h.os, k.tape.trans h.tape, k.output.trans h.output, Nat.le_trans h.size k.size, fun b hb hg => (k.block b (Nat.lt_of_lt_of_le hb h.size) hg).trans (h.block b hb hg)⟩
theorem But.of_below (h : Below w.heap.size w w1) : But g w w1 := ⟨h.os, h.tape, h.output, h.size, fun b hb _ => h.block b hb⟩
theorem But.alloc (h : But g w w1) (o : Obj) : But g w (w1.alloc o) := h.trans (But.of_below ((Below.refl _ _).alloc (Nat.le_refl _) o))
theorem But.drew (h : But g w w1) : But g w w1.drew := ⟨h.os, h.tape, h.output, h.size, h.block⟩
theorem But.set (h : But g w w1) (v : Value) : But g w (w1.setCell ⟨g, 0, none⟩ v) :=
  h.trans ⟨rfl, rfl, rfl, by simp [World.setCell], fun b _ hne => Below.heap_setCell _ _ _ _ hne⟩
theorem But.new {o : Nat} (h : But g w w1) (v : Value) (a : Addr) (ha : w.heap.size ≤ a.block) : But g w (w1.setCell a v) :=
  ⟨h.os, h.tape, h.output, by simpa [World.setCell] using h.size, fun b hb hne => (Below.heap_setCell _ _ _ _ (by omega)).trans (h.block b hb hne)⟩
theorem But.below (h : But g w w1) (hB : B ≤ g) (hw : B ≤ w.heap.size) : Below B w w1 := ⟨h.os, h.tape, h.output, h.size, fun b hb => h.block b (by omega) (by omega)⟩
end

theorem block_ne {w : World} {b l : Nat} {o o2 : Obj} (hb : w.heap[b]? = some o2) (hc : o2.isCells = true) (hl : w.heap[l]? = some o) (hn : o.isCells = false) : b ≠ l := by
  rintro rfl
  rw [hb] at hl
  cases hl
  rw [hc] at hn
  cases hn
theorem own_set {K : IntKind} {e : TypeId} {w : World} {base b : Nat} {u x : Value} {l : List Int} (h : OwnI K e w base u l) (hb : b < base) : OwnI K e (w.setCell ⟨b, 0, none⟩ x) base u l := by
  refine h.far (grownBy_setCell' w b x) ?_
  cases hu : u.ownBlock with
  | none => exact .inl rfl
  | some g => exact .inr fun e => by injection e with e; have := (h.size g hu).1; omega
theorem others_grown {K : IntKind} {e : TypeId} {w w' : World} {base : Nat} {v : Value} {b : List Int} (h : OwnI K e w base v b) (hg : w.grownBy w' v.ownBlock) : KeepsOthers w w' := by
  refine ⟨hg.size, fun i o hi ho => (hg.block i (Array.getElem?_eq_some_iff.1 hi).1 ?_).trans hi⟩
  rcases h.2 with ⟨hv, _⟩ | ⟨g, cap, cur, hv, _, hh, _⟩
  · rw [hv]; simp [Value.ownBlock]
  · rw [hv]
    intro e
    injection e with e
    exact block_ne hh rfl hi ho e.symm
end Go.Proofs.Ytgnhmdfajnnkhaa


/- A range over a function whose values are known ahead, in order, where the iterator may itself range over another one: what it turns is no cells, and lies beyond all that lay when it was called. -/
namespace Go.Proofs.Ytgnhmdfajnnkhaa
set_option linter.unusedVariables false
open Go.RowKit

theorem yield_any {m : Nat} (m' : Nat) {P : Program} {l : Nat} {args : Array Value} {W : World} {R : Ending → World → Prop} (h : YieldAt Fence.wide m P l args W R) : YieldAt Fence.wide m' P l args W R := by
  obtain ⟨fn, tmps, assign, body, hy, hR⟩ := h
  exact ⟨fn, tmps, assign, body, hy, hR.1, fun c cs _ => hR.2 c cs (room_wide _)⟩
theorem keepsFrom_lift {B B' : Nat} {W W' : World} (h : KeepsFrom B W W') (hB : B ≤ B') : KeepsFrom B' W W' := ⟨h.size, fun k o hk => h.same k o (by omega)⟩
theorem keepsFrom_put {B l : Nat} {W : World} (o : Obj) (h : l < B) : KeepsFrom B W (W.putObj l o) := KeepsFrom.of_grownBy (grownBy_putObj' W l o) (fun j e => by injection e with e; omega)
/-- what lies below n stays as it lay, and so do the blocks bs -/
def KeepB (n : Nat) (bs : List Nat) (X Y : World) : Prop := Below n X Y ∧ ∀ b ∈ bs, ∀ o : Obj, X.heap[b]? = some o → Y.heap[b]? = some o
theorem KeepB.trans {n : Nat} {bs : List Nat} {X Y Z : World} (h : KeepB n bs X Y) (k : KeepB n bs Y Z) : KeepB n bs X Z := ⟨h.1.trans k.1, fun b hb o ho => k.2 b hb o (h.2 b hb o ho)⟩
theorem KeepB.refl (n : Nat) (bs : List Nat) (X : World) : KeepB n bs X X := ⟨Below.refl _ _, fun _ _ _ h => h⟩
theorem KeepB.alloc (n : Nat) (bs : List Nat) (X : World) (o : Obj) (hn : n ≤ X.heap.size) : KeepB n bs X (X.alloc o) := ⟨(Below.refl _ X).alloc hn o, fun b _ o' ho => (Below.heap_alloc X o _ (Array.getElem?_eq_some_iff.1 ho).1).trans ho⟩
theorem KeepB.put {n l : Nat} {bs : List Nat} {X : World} {o : Obj} (o' : Obj) (hl : X.heap[l]? = some o) (hn : n ≤ l) (hb : ∀ b ∈ bs, b ≠ l) : KeepB n bs X (X.putObj l o') :=
  ⟨(Below.refl n X).grown (grownBy_putObj' X l o') (by have := (Array.getElem?_eq_some_iff.1 hl).1; omega) (fun k e => by cases e; omega), fun b hm o2 ho => (World.putObj_heap_other (hb b hm)).trans ho⟩
/-- an iterator that hands over vals 0, .., vals (N - 1), till it is told to stop; Kp: what a round that goes on must keep for it -/
def HandsC (P : Program) (gf : Nat) (lb : Array Value) (vals : Nat → Array Value) (N : Nat) (Kp : Nat → World → World → Prop) (w0 : World) : Prop :=
  ∀ (n l : Nat) (J : Nat → World → Prop) (Jx : World → Prop) (W : World), Below w0.heap.size w0 W → OwnFrom W.heap.size J → OwnFrom W.heap.size (fun (_ : Unit) X => Jx X) →
    (∀ k W1, k < N → J k W1 → YieldAt Fence.wide 0 P l (vals k) W1 fun e W' => (e = .returned (.bool true) ∧ J (k + 1) W' ∧ Kp W.heap.size W1 W' ∧ KeepsFrom W.heap.size W1 W') ∨ (e = .returned (.bool false) ∧ Jx W' ∧ KeepsFrom W.heap.size W1 W')) → J 0 W →
    CallsIn Fence.wide n P gf (#[.func (.yield l) #[] #[]] ++ lb) W fun e W' => (∃ v, e = .returned v) ∧ (J N W' ∨ Jx W')
/-- a round that goes on, or leaves the function -/
def GoesC (B : Nat) (Kp : World → World → Prop) (I : Nat → World → Prop) (Ix : World → Prop) (k : Nat) (W : World) : Exit → Act → World → Prop
  | .normal, _, W' => KeepsFrom B W W' ∧ Kp W W' ∧ I (k + 1) W'
  | .ret, _, W' => KeepsFrom B W W' ∧ Ix W'
  | _, _, _ => False
theorem range_c {n : Nat} {P : Program} {g : Operand} {ps : Array Tmp} {assign body : Code} {Q : Exit → Act → World → Prop} {a : Act} {w w0 : World}
    {gf : Nat} {lb : Array Value} (hg : a.eval g = .func (.func gf) #[] lb) (eg : ∀ args w, (callFunc gf args).run P w = .ok (.enter gf args) w)
    {vals : Nat → Array Value} {N : Nat} {Kp : Nat → World → World → Prop} (hseq : HandsC P gf lb vals N Kp w0) (hb0 : Below w0.heap.size w0 w) (hps : ∀ k, (vals k).size = ps.size)
    (hKt : ∀ {A B C : World}, Kp (w.heap.size + 1 + 1) A B → Kp (w.heap.size + 1 + 1) B C → Kp (w.heap.size + 1 + 1) A C) (hKb : ∀ (W : World) (o o' : Obj), W.heap[w.heap.size + 1]? = some o → o.isCells = false → o.isWalk = false → Kp (w.heap.size + 1 + 1) W (W.putObj (w.heap.size + 1) o'))
    (I : Nat → World → Prop) (hI : OwnFrom w.heap.size I) (Ix : World → Prop) (hIx : OwnFrom w.heap.size (fun (_ : Unit) X => Ix X)) (h0 : I 0 w)
    (Ax : Nat → Act → World → Prop) (hAx : ∀ k a', OwnFrom w.heap.size (fun (_ : Unit) X => Ax k a' X))
    (hassign : ∀ (l k : Nat) (W : World) (K : Act → World → Prop), k < N → w.heap.size + 1 + 1 ≤ W.heap.size → I k W → (∀ a' W', KeepsFrom w.heap.size W W' → Kp (w.heap.size + 1 + 1) W W' → I k W' → Ax k a' W' → K a' W') →
      assign.wpIn (Fence.wide.inRound l) (n - 1 - 1) P (Exit.then K (fun _ _ _ => False)) { tmps := (ps.zip (vals k)).foldl (fun t (p, v) => t.setIfInBounds p v) a.tmps, defers := [] } W)
    (hbody : ∀ (l k : Nat) (a' : Act) (W : World), k < N → w.heap.size + 1 + 1 ≤ W.heap.size → I k W → Ax k a' W → body.wpIn (Fence.wide.inRound l) (n - 1 - 1) P (GoesC w.heap.size (Kp (w.heap.size + 1 + 1)) I Ix k W) a' W)
    (hdone : ∀ (D : Nat) (W : World), w.heap.size ≤ D → I N W → W.heap[D]? = some (.deferred (some [])) → Q .normal { a with defers := { target := .collected D, args := #[] } :: a.defers } W)
    (hstop : ∀ (D : Nat) (W : World), w.heap.size ≤ D → Ix W → W.heap[D]? = some (.deferred (some [])) → Code.ret.wpIn Fence.wide n P Q { a with defers := { target := .collected D, args := #[] } :: a.defers } W) :
    (Code.rangeFunc g ps assign body).wpIn Fence.wide n P Q a w := by
  refine wpIn_rangeFunc fun fn hfn => ?_
  rw [show Fence.wide.round = none from rfl]
  obtain ⟨rec_, hrec⟩ : ∃ rec_ : LoopState → Option Code → Loop, rec_ = fun st pe => { state := st, pending := pe, fn := fn, tmps := a.tmps, params := ps, assign := assign, body := body, defers := w.heap.size } := ⟨_, rfl⟩
  obtain ⟨W1, hW1⟩ : ∃ W1, (w.alloc (.deferred (some []))).alloc (.loop (rec_ .ready none)) = W1 := ⟨_, rfl⟩
  have hL1 : W1.heap[w.heap.size + 1]? = some (.loop (rec_ .ready none)) := by rw [← hW1]; exact heap_alloc2_new w _ _
  have hD1 : W1.heap[w.heap.size]? = some (.deferred (some [])) := by rw [← hW1]; exact heap_alloc2_old w _ _
  have hz1 : W1.heap.size = w.heap.size + 1 + 1 := by rw [← hW1]; simp
  have hI1 : I 0 W1 := by rw [← hW1]; exact hI.alloc _ (hI.alloc _ h0)
  have hB1 : Below w0.heap.size w0 W1 := by rw [← hW1]; exact hb0.trans ((two_below w _ _).mono hb0.size)
  have keep : ∀ (A B : World) (row : Option Nat) (b : Nat) (o : Obj), A.grownBy B row → (∀ r, row = some r → W1.heap.size ≤ r ∧ ∃ o : Obj, A.heap[r]? = some o ∧ o.isCells = false) → b < w.heap.size + 1 + 1 → A.heap[b]? = some o → B.heap[b]? = some o := fun A B row b o hgr hr hlt ho => by
    refine (hgr.block b (Array.getElem?_eq_some_iff.1 ho).1 (fun e => ?_)).trans ho
    have := (hr b e.symm).1
    omega
  have low : ∀ (A : World) (row : Option Nat), (∀ r, row = some r → W1.heap.size ≤ r ∧ ∃ o : Obj, A.heap[r]? = some o ∧ o.isCells = false) → (∀ r, row = some r → w.heap.size ≤ r ∧ ∃ o : Obj, A.heap[r]? = some o ∧ o.isCells = false) := fun A row hr r e => ⟨by have := (hr r e).1; omega, (hr r e).2⟩
  refine ⟨w.heap.size + 1, [{ target := .collected w.heap.size, args := #[] }], W1, { target := .fn (.func gf) lb, args := #[.func (.yield (w.heap.size + 1)) #[] #[]] }, W1, gf, #[.func (.yield (w.heap.size + 1)) #[] #[]] ++ lb, W1, ?_, ?_, ?_, ?_, (fun h => by simp [Fence.wide] at h), ?_⟩
  · rw [← hW1, hrec]; exact run_enterLoop_outer _ _ _ _ _
  · simp only [resolve, hg]
    simp [go_sem]
  · intro f' hf'
    trivial
  · simp [invoke, go_sem, eg]
  rw [← hz1] at hKt hKb hassign hbody
  refine (hseq (n - 1) (w.heap.size + 1) (fun k W => I k W ∧ W.heap[w.heap.size + 1]? = some (.loop (rec_ .ready none)) ∧ W.heap[w.heap.size]? = some (.deferred (some []))) (fun W => Ix W ∧ W.heap[w.heap.size + 1]? = some (.loop (rec_ .done (some .ret))) ∧ W.heap[w.heap.size]? = some (.deferred (some []))) W1 hB1
    (fun k A B row hs hgr hr => ⟨hI k A B row hs.1 hgr (low A row hr), keep A B row _ _ hgr hr (by omega) hs.2.1, keep A B row _ _ hgr hr (by omega) hs.2.2⟩)
    (fun u A B row hs hgr hr => ⟨hIx u A B row hs.1 hgr (low A row hr), keep A B row _ _ hgr hr (by omega) hs.2.1, keep A B row _ _ hgr hr (by omega) hs.2.2⟩)
    (fun k W hk hs => ?_) ⟨hI1, hL1, hD1⟩).mono ?_
  · obtain ⟨hi, hl, hd⟩ := hs
    have hy := run_yield (P := P) (args := vals k) hl (by rw [hrec]; exact hps k)
    rw [hrec] at hy
    refine yield_any 0 (m := n - 1 - 1) ⟨fn, _, assign, body, hy, roundIn_of_wpIn hfn ?_⟩
    refine hassign _ k W _ hk (by have := (Array.getElem?_eq_some_iff.1 hl).1; omega) hi ?_
    intro a' Wa hka hkpa hia hax
    replace hl := hka.same _ _ (by omega) hl rfl
    replace hd := hka.same _ _ (Nat.le_refl _) hd rfl
    have hlt : w.heap.size + 1 < Wa.heap.size := (Array.getElem?_eq_some_iff.1 hl).1
    refine ⟨_, run_beginRound hl (by rw [hrec]), ?_⟩
    have hl2 : (Wa.putObj (w.heap.size + 1) (.loop { rec_ .ready none with state := .busy })).heap[w.heap.size + 1]? = some (.loop { rec_ .ready none with state := .busy }) := World.putObj_heap_same hlt
    have hd2 : (Wa.putObj (w.heap.size + 1) (.loop { rec_ .ready none with state := .busy })).heap[w.heap.size]? = some (.deferred (some [])) := (World.putObj_heap_other (by omega)).trans hd
    have hk2 : KeepsFrom W1.heap.size W (Wa.putObj (w.heap.size + 1) (.loop { rec_ .ready none with state := .busy })) := (keepsFrom_lift hka (by omega)).trans (keepsFrom_put _ (by omega))
    refine wpIn_mono (hbody _ k a' _ hk (by simp; omega) (hI.putObj _ hia (Nat.le_succ _) hl rfl) ((hAx k a').putObj (s := ()) _ hax (Nat.le_succ _) hl rfl)) ?_
    rintro e a3 W3 hp
    cases e with
    | normal =>
      obtain ⟨hk3, hkp3, hi3⟩ := hp
      have hl3 := hk3.same _ _ (by omega) hl2 rfl
      have hd3 := hk3.same _ _ (Nat.le_refl _) hd2 rfl
      have hr := run_endRound (P := P) none hl3
      rw [hrec] at hr hl3
      refine ⟨_, _, hr, .inl ⟨rfl, ⟨hI.putObj _ hi3 (by omega) hl3 rfl, ?_, ?_⟩, ?_, ?_⟩⟩
      · rw [hrec]; exact World.putObj_heap_same (Array.getElem?_eq_some_iff.1 hl3).1
      · exact (World.putObj_heap_other (by omega)).trans hd3
      · exact hKt hkpa (hKt (hKt (hKb _ _ _ hl rfl rfl) hkp3) (hKb _ _ _ hl3 rfl rfl))
      · exact (hk2.trans (keepsFrom_lift hk3 (by omega))).trans (keepsFrom_put _ (by omega))
    | ret =>
      obtain ⟨hk3, hi3⟩ := hp
      have hl3 := hk3.same _ _ (by omega) hl2 rfl
      have hd3 := hk3.same _ _ (Nat.le_refl _) hd2 rfl
      have hr := run_endRound (P := P) (some .ret) hl3
      rw [hrec] at hr hl3
      refine ⟨_, _, hr, .inr ⟨rfl, ⟨hIx.putObj (s := ()) _ hi3 (by omega) hl3 rfl, ?_, ?_⟩, ?_⟩⟩
      · rw [hrec]; exact World.putObj_heap_same (Array.getElem?_eq_some_iff.1 hl3).1
      · exact (World.putObj_heap_other (by omega)).trans hd3
      · exact (hk2.trans (keepsFrom_lift hk3 (by omega))).trans (keepsFrom_put _ (by omega))
    | exit id => exact hp.elim
    | goto t => exact hp.elim
    | panic ch => exact hp.elim
    | outgrown => exact hp.elim
  · rintro e W2 ⟨⟨v, rfl⟩, ⟨hi, hl, hd⟩ | ⟨hi, hl, hd⟩⟩
    · exact ⟨none, _, by have := run_endLoop (P := P) hl (by rw [hrec]; simp); rw [hrec] at this; exact this, hdone _ _ (Nat.le_refl _) (hI.putObj _ hi (by omega) hl rfl) ((World.putObj_heap_other (by omega)).trans hd)⟩
    · exact ⟨some .ret, _, by have := run_endLoop (P := P) hl (by rw [hrec]; simp); rw [hrec] at this; exact this, hstop _ _ (Nat.le_refl _) (hIx.putObj (s := ()) _ hi (by omega) hl rfl) ((World.putObj_heap_other (by omega)).trans hd)⟩
end Go.Proofs.Ytgnhmdfajnnkhaa


/- A region that draws its order, inside a fence, walked by hand; what a call that makes new memory alone leaves to an iterator's invariants. -/
namespace Go.Proofs.Ytgnhmdfajnnkhaa
set_option linter.unusedVariables false
open Go.RowKit

section
variable {F : Fence} {n : Nat} {P : Program} {l : List Oper} {Q : Exit → Act → World → Prop} {md : Region.Mode} {oi oj : Oper} {fuel : Nat} {listed : Array Bool} {a : Act} {w : World}
end
theorem boxed_below {w w' : World} {g : Nat} {t : TypeId} {v : Value} (h : Boxed w g t v) (hb : Below w.heap.size w w') : Boxed w' g t v := (hb.block g h.lt).trans h
end Go.Proofs.Ytgnhmdfajnnkhaa


/- append onto a slice of numbers of the call's own, inside a fence. -/
namespace Go.Proofs.Ytgnhmdfajnnkhaa
set_option linter.unusedVariables false
open Go.RowKit

theorem wpListIn_append_i {F : Fence} {n : Nat} {P : Program} {w : World} {ops : Array Oper} {rest : List Oper} {o : Oper} {a : Act} {Q : Exit → Act → World → Prop} (hgd : o.guard = none) (t e : TypeId) (K : IntKind) (B : Nat) (s x : Operand)
    (ho : o.op = Op.call { callee := Callee.builtin Builtin.append, args := #[s, x], argTypes := #[t, t] }) (hu : P.underlying t = some (.slice e)) (hinfo : (P.info? e).map (fun i => (i.zero, i.size, i.bytes)) = some (some (.int K 0), 1, B)) (hB : B ≤ 8)
    (base : Nat) (v : Value) (l : List Int) (hs : a.eval s = v) (hown : OwnI K e w base v l) (ad : Addr) (m c : Nat) (l2 : List Int) (hx : a.eval x = .slice (some ad) m c) (hr : Its K w (some ad) m c l2)
    (hsmall : l.length + m ≤ 17592186044416) (hbase : base ≤ w.heap.size)
    (h : ∀ v' w', OwnI K e w' base v' (l ++ l2) → w.grownBy w' v.ownBlock → wpListIn F n P ops Q rest (a.put o.dst v') w') : wpListIn F n P ops Q (o :: rest) a w := by
  obtain ⟨i, hi, hz, h1, h2⟩ := info_parts hinfo
  have hl2 : (inv K l2).length = m * 1 := by rw [inv_length, hr.len, Nat.mul_one]
  have hb8 : (l.length + m) * B ≤ (l.length + m) * 8 := Nat.mul_le_mul_left _ hB
  refine wpListIn_append_own (P := P) w hgd s x t ho base e i (.int K 0) 1 B hu hi hz h1 h2 rfl (by omega) v l.length (inv K l) hs hown ad m c (inv K l2) hx hl2 ?_ (inv_one K l2) (by unfold maxLen; omega) (by omega) hbase ?_
  · intro j u hu'
    have hj : j < l2.length := by
      have := (List.getElem?_eq_some_iff.1 hu').1
      rwa [inv_length] at this
    rw [inv_get K l2 j hj] at hu'
    obtain ⟨b, off, hA, hc⟩ := hr.at_ (by have := hr.len; omega)
    injection hA with hA
    subst hA
    have hadd : (⟨b, off, none⟩ : Addr).add j = ⟨b, off + j, none⟩ := by
      unfold Addr.add
      split
      · rename_i h0; subst h0; rfl
      · rfl
    rw [hadd, hc j (by have := hr.len; omega), hu']
  · intro v' w' hown' hg _
    refine h v' w' ?_ hg
    unfold OwnI
    rw [inv_append, List.length_append, hr.len]
    exact hown'
end Go.Proofs.Ytgnhmdfajnnkhaa

