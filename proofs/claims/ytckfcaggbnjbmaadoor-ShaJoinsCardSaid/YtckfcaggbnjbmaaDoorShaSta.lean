/- States that tell the bytes that went in: Add and End on them. -/
import Derived.Test.YtckfcaggbnjbmaaDoorShaPlain
import Derived.Test.YtckfcaggbnjbmaaDoorShaSame
namespace Go.Proofs.YtckfcaggbnjbmaaDoor
open Go.RowKit

/-- of any state of register x, with the bytes l behind it (its Rest and all that came later): register and Rest -/
structure Sta (w : World) (x l : List Int) (y0 y1 y2 y3 y4 y5 y6 y7 : Int) (A : Option Addr) (n c : Nat) : Prop where
  reg : byBlocks x (l.take (whole l)) = [y0, y1, y2, y3, y4, y5, y6, y7]
  rest : Bts w A n c (l.drop (whole l))
theorem Sta.below {w w' : World} {x l : List Int} {y0 y1 y2 y3 y4 y5 y6 y7 : Int} {A : Option Addr} {n c : Nat} (h : Sta w x l y0 y1 y2 y3 y4 y5 y6 y7 A n c) (hb : Below w.heap.size w w') : Sta w' x l y0 y1 y2 y3 y4 y5 y6 y7 A n c := ⟨h.reg, h.rest.below hb⟩
theorem Sta.size {w : World} {x l : List Int} {y0 y1 y2 y3 y4 y5 y6 y7 : Int} {A : Option Addr} {n c : Nat} (h : Sta w x l y0 y1 y2 y3 y4 y5 y6 y7 A n c) : n = l.length % 64 := by
  rw [← h.rest.len, whole_drop]
def StaPost (w : World) (x l : List Int) (len : Int) (e : Ending) (w' : World) : Prop :=
  ∃ y0 y1 y2 y3 y4 y5 y6 y7 A n c, e = .returned (hashV y0 y1 y2 y3 y4 y5 y6 y7 A n c len) ∧ Sta w' x l y0 y1 y2 y3 y4 y5 y6 y7 A n c ∧ Below w.heap.size w w'

theorem add_sta (x l b : List Int) (y0 y1 y2 y3 y4 y5 y6 y7 len : Int) (A B : Option Addr) (n c m d : Nat) (w : World) (hK : KTab w) (hs : Sta w x l y0 y1 y2 y3 y4 y5 y6 y7 A n c) (hb : Bts w B m d b)
    (h0 : 0 ≤ len) (hmod : len % 64 = (l.length : Int) % 64) (hroom : len + (m : Int) ≤ 1048576) :
    Calls Tryd.prog 13 #[hashV y0 y1 y2 y3 y4 y5 y6 y7 A n c len, .slice B m d] w (StaPost w x (l ++ b) (len + (m : Int))) := by
  have hn := hs.size
  have hmay : mayB n len = true := by
    unfold mayB
    rw [decide_eq_true_eq]
    omega
  refine (add_yes y0 y1 y2 y3 y4 y5 y6 y7 len A B n c m d (l.drop (whole l)) b w hK hmay (by omega) hs.rest hb).mono ?_
  rintro e w' ⟨z0, z1, z2, z3, z4, z5, z6, z7, A', n', c', he, hY, hbt, hbel⟩
  have hp := parts x l b
  rw [← hs.reg, hp.1] at hY
  rw [hp.2] at hbt
  exact ⟨z0, z1, z2, z3, z4, z5, z6, z7, A', n', c', he, ⟨hY, hbt⟩, hbel⟩
/-- the first bytes behind nothing -/
theorem new_sta (l : List Int) (B : Option Addr) (m d : Nat) (w : World) (hK : KTab w) (hm : m ≤ 1048576) (hb : Bts w B m d l) :
    Calls Tryd.prog 13 #[hashV 1779033703 3144134277 1013904242 2773480762 1359893119 2600822924 528734635 1541459225 none 0 0 0, .slice B m d] w (StaPost w iList l (m : Int)) := by
  refine (add_new B m d l w hK hm hb).mono ?_
  rintro e w' ⟨z0, z1, z2, z3, z4, z5, z6, z7, A', n', c', he, hY, hbt, hbel⟩
  exact ⟨z0, z1, z2, z3, z4, z5, z6, z7, A', n', c', he, ⟨hY, hbt⟩, hbel⟩
/-- no bytes: nothing changes -/
def NilPost (w : World) (y0 y1 y2 y3 y4 y5 y6 y7 len : Int) (rest : List Int) (e : Ending) (w' : World) : Prop :=
  ∃ A n c, e = .returned (hashV y0 y1 y2 y3 y4 y5 y6 y7 A n c len) ∧ Bts w' A n c rest ∧ Below w.heap.size w w'
theorem add_nil (y0 y1 y2 y3 y4 y5 y6 y7 len : Int) (A : Option Addr) (n c : Nat) (rest : List Int) (w : World) (hK : KTab w) (hmay : mayB n len = true) (hb : Bts w A n c rest) :
    Calls Tryd.prog 13 #[hashV y0 y1 y2 y3 y4 y5 y6 y7 A n c len, .slice none 0 0] w (NilPost w y0 y1 y2 y3 y4 y5 y6 y7 len rest) := by
  obtain ⟨g0, g1, g2⟩ := mayB_yes hmay
  refine (add_yes y0 y1 y2 y3 y4 y5 y6 y7 len A none n c 0 0 rest [] w hK hmay (by omega) hb (Bts.nil w)).mono ?_
  rintro e w' ⟨z0, z1, z2, z3, z4, z5, z6, z7, A', n', c', he, hY, hbt, hbel⟩
  have hw : whole (rest ++ []) = 0 := by rw [List.append_nil, whole, hb.len]; omega
  rw [hw] at hY hbt
  rw [List.take_zero] at hY
  rw [List.drop_zero, List.append_nil] at hbt
  have hyx : [y0, y1, y2, y3, y4, y5, y6, y7] = [z0, z1, z2, z3, z4, z5, z6, z7] := hY
  simp only [List.cons.injEq, and_true] at hyx
  obtain ⟨rfl, rfl, rfl, rfl, rfl, rfl, rfl, rfl⟩ := hyx
  exact ⟨A', n', c', by rw [he]; simp, hbt, hbel⟩
theorem end_sta (l : List Int) (y0 y1 y2 y3 y4 y5 y6 y7 len : Int) (A : Option Addr) (n c : Nat) (w : World) (hK : KTab w) (hs : Sta w iList l y0 y1 y2 y3 y4 y5 y6 y7 A n c) (hlen : len = (l.length : Int)) (hm : l.length ≤ 1048576) :
    Calls Tryd.prog 18 #[hashV y0 y1 y2 y3 y4 y5 y6 y7 A n c len] w fun e w' => e = .returned (.agg (idv (sumL l))) ∧ Below w.heap.size w w' := by
  have hn := hs.size
  have hmay : mayB n len = true := by
    unfold mayB
    rw [decide_eq_true_eq]
    omega
  refine (end_yes y0 y1 y2 y3 y4 y5 y6 y7 len A n c (l.drop (whole l)) w hK hmay hs.rest).mono ?_
  rintro e w' ⟨he, hbel⟩
  rw [← hs.reg, hlen, Int.toNat_natCast] at he
  exact ⟨he, hbel⟩
/-- a world of one new block, under a name -/
theorem named_one {w W : World} {o1 : Obj} (h : w.alloc o1 = W) : Below w.heap.size w W ∧ w.heap.size + 1 = W.heap.size ∧ W.heap[w.heap.size]? = some o1 := by
  subst h
  exact ⟨(Below.refl _ _).alloc (Nat.le_refl _) _, by simp, heap_alloc_new w _⟩
end Go.Proofs.YtckfcaggbnjbmaaDoor
