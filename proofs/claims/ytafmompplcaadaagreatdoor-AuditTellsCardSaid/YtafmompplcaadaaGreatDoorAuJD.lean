/- Joined texts: Entries, plainly: their cells and bytes, which may be; a slice of entries as it lies; those of a kind, and the epoch of the last start. Sums of bytes (SHA-256) as functions of lists: what the walks over package sha, and over the plain answers of the document, come to; and that both are the same. Entries in a chain of sums, plainly: heads, records, what is read of bytes, what is wrong with them, two texts of one sum. What follows of entries in a chain of sums: two lists of one head tell two texts of one sum; a record that is spoiled is found, or tells two. The walks over package entry's upTo and May. The walks over package entry's sizes, numbersOf and entryOf. Loads and stores of whole rows: guarded ones; a store, with the world behind it under a name; a row that is built. Arrays by value: one element. The walk over package entry's Put. -/
import Derived.Test.YtafmompplcaadaaGreatDoorAuJC
import Derived.Test.YtafmompplcaadaaGreatDoorAuJB
import GoSem.Claim
import Derived.KernelRfl
import Derived.Laws.BitsAllLaws
import Derived.WalkMore
import Derived.Test.YtafmompplcaadaaGreatDoorAuJA
/- Entries, plainly: their cells and bytes, which may be; a slice of entries as it lies; those of a kind, and the epoch of the last start. -/
namespace Go.Proofs.YtafmompplcaadaaGreatDoor
set_option linter.unusedVariables false
set_option linter.unusedSimpArgs false
open Go.RowKit

structure En where
  kind : Int
  tick : Int
  epoch : Int
  user : Int
  sess : Int
  count : Int
  cmd : Int
  arg : Int
  code : Int
deriving DecidableEq
def En.zero : En := ⟨0, 0, 0, 0, 0, 0, 0, 0, 0⟩
def En.row (u : En) : List Value := [.int .i64 u.kind, .int .i64 u.tick, .int .i64 u.epoch, .int .i64 u.user, .int .u64 u.sess, .int .u64 u.count, .int .i64 u.cmd, .int .i64 u.arg, .int .i64 u.code]
def enA (u : En) : Array Value := u.row.toArray
def enV (u : En) : Value := .agg (enA u)
theorem enA_size (u : En) : (enA u).size = 9 := rfl
theorem erow_len (u : En) : u.row.length = 9 := rfl
theorem row_one9 (u : En) : ∀ v ∈ u.row, v.oneCell' = true := by
  intro v hv
  simp only [En.row, List.mem_cons, List.not_mem_nil, or_false] at hv
  rcases hv with rfl | rfl | rfl | rfl | rfl | rfl | rfl | rfl | rfl <;> rfl
/-- its two wide numbers are -/
structure En.ok (u : En) : Prop where
  sess : 0 ≤ u.sess ∧ u.sess < 18446744073709551616
  count : 0 ≤ u.count ∧ u.count < 18446744073709551616
/-- the block g holds this entry -/
structure BoxE (w : World) (g : Nat) (u : En) : Prop where
  blk : w.heap[g]? = some (.cells (enA u) 33 (0, 0))
section
variable {w w' : World} {g : Nat} {u : En}
theorem BoxE.below (h : BoxE w g u) (hb : Below w.heap.size w w') : BoxE w' g u := ⟨(hb.block g (Array.getElem?_eq_some_iff.1 h.blk).1).trans h.blk⟩
theorem BoxE.new (w : World) (u : En) : BoxE (w.alloc (.cells (enA u) 33)) w.heap.size u := ⟨heap_alloc_new w _⟩
theorem BoxE.lt (h : BoxE w g u) : g < w.heap.size := (Array.getElem?_eq_some_iff.1 h.blk).1
theorem BoxE.draw (h : BoxE w g u) (k : Nat) : BoxE (w.drewN k) g u := ⟨h.blk⟩
theorem BoxE.c0 (h : BoxE w g u) : w.cell? ⟨g, 0, none⟩ = some (.int .i64 u.kind) := (cell_of_row _ _ _ _ _ _ h.blk).trans rfl
theorem BoxE.c1 (h : BoxE w g u) : w.cell? ⟨g, 1, none⟩ = some (.int .i64 u.tick) := (cell_of_row _ _ _ _ _ _ h.blk).trans rfl
theorem BoxE.c2 (h : BoxE w g u) : w.cell? ⟨g, 2, none⟩ = some (.int .i64 u.epoch) := (cell_of_row _ _ _ _ _ _ h.blk).trans rfl
theorem BoxE.c3 (h : BoxE w g u) : w.cell? ⟨g, 3, none⟩ = some (.int .i64 u.user) := (cell_of_row _ _ _ _ _ _ h.blk).trans rfl
theorem BoxE.c4 (h : BoxE w g u) : w.cell? ⟨g, 4, none⟩ = some (.int .u64 u.sess) := (cell_of_row _ _ _ _ _ _ h.blk).trans rfl
theorem BoxE.c5 (h : BoxE w g u) : w.cell? ⟨g, 5, none⟩ = some (.int .u64 u.count) := (cell_of_row _ _ _ _ _ _ h.blk).trans rfl
theorem BoxE.c6 (h : BoxE w g u) : w.cell? ⟨g, 6, none⟩ = some (.int .i64 u.cmd) := (cell_of_row _ _ _ _ _ _ h.blk).trans rfl
theorem BoxE.c7 (h : BoxE w g u) : w.cell? ⟨g, 7, none⟩ = some (.int .i64 u.arg) := (cell_of_row _ _ _ _ _ _ h.blk).trans rfl
theorem BoxE.c8 (h : BoxE w g u) : w.cell? ⟨g, 8, none⟩ = some (.int .i64 u.code) := (cell_of_row _ _ _ _ _ _ h.blk).trans rfl
theorem BoxE.cells (h : BoxE w g u) : w.cell? ⟨g, 0, none⟩ = some (.int .i64 u.kind) ∧ w.cell? ⟨g, 1, none⟩ = some (.int .i64 u.tick) ∧ w.cell? ⟨g, 2, none⟩ = some (.int .i64 u.epoch) ∧ w.cell? ⟨g, 3, none⟩ = some (.int .i64 u.user) ∧ w.cell? ⟨g, 4, none⟩ = some (.int .u64 u.sess) ∧ w.cell? ⟨g, 5, none⟩ = some (.int .u64 u.count) ∧ w.cell? ⟨g, 6, none⟩ = some (.int .i64 u.cmd) ∧ w.cell? ⟨g, 7, none⟩ = some (.int .i64 u.arg) ∧ w.cell? ⟨g, 8, none⟩ = some (.int .i64 u.code) :=
  ⟨h.c0, h.c1, h.c2, h.c3, h.c4, h.c5, h.c6, h.c7, h.c8⟩
end
/-- a slice of entries -/
structure Ens (w : World) (A : Option Addr) (n c : Nat) (l : List En) : Prop where
  rws : Rws 9 w A n c (l.map En.row)
section
variable {w w' : World} {A : Option Addr} {n c : Nat} {l : List En}
theorem Ens.len (h : Ens w A n c l) : l.length = n := by rw [← h.rws.len, List.length_map]
theorem Ens.small (h : Ens w A n c l) : n ≤ 9223372036854775807 := h.rws.small
theorem Ens.below (h : Ens w A n c l) (hb : Below w.heap.size w w') : Ens w' A n c l := ⟨h.rws.below hb⟩
theorem Ens.draw (h : Ens w A n c l) (k : Nat) : Ens (w.drewN k) A n c l := ⟨h.rws.draw k⟩
theorem Ens.more (h : Ens w A n c l) (o : Obj) : Ens (w.alloc o) A n c l := ⟨h.rws.more o⟩
theorem Ens.nil (w : World) : Ens w none 0 0 [] := ⟨Rws.nil 9 w⟩
/-- one of them -/
theorem Ens.at_ (h : Ens w A n c l) (j : Nat) (hj : j < n) : ∃ b off u, A = some ⟨b, off, none⟩ ∧ l[j]? = some u ∧ b < w.heap.size ∧
    (w.cell? ⟨b, off + j * 9, none⟩ = some (.int .i64 u.kind) ∧ w.cell? ⟨b, off + j * 9 + 1, none⟩ = some (.int .i64 u.tick) ∧ w.cell? ⟨b, off + j * 9 + 2, none⟩ = some (.int .i64 u.epoch) ∧ w.cell? ⟨b, off + j * 9 + 3, none⟩ = some (.int .i64 u.user) ∧ w.cell? ⟨b, off + j * 9 + 4, none⟩ = some (.int .u64 u.sess) ∧ w.cell? ⟨b, off + j * 9 + 5, none⟩ = some (.int .u64 u.count) ∧ w.cell? ⟨b, off + j * 9 + 6, none⟩ = some (.int .i64 u.cmd) ∧ w.cell? ⟨b, off + j * 9 + 7, none⟩ = some (.int .i64 u.arg) ∧ w.cell? ⟨b, off + j * 9 + 8, none⟩ = some (.int .i64 u.code)) := by
  obtain ⟨b, off, hA, hc⟩ := h.rws.at_ (by omega)
  have hl : j < l.length := by rw [h.len]; exact hj
  have hr : (l.map En.row).getD j [] = l[j].row := by simp [List.getD_eq_getElem?_getD, hl]
  have hk : ∀ i, i < 9 → w.cell? ⟨b, off + j * 9 + i, none⟩ = some (l[j].row.getD i undef) := fun i hi => by rw [← hr]; exact hc j hj i hi
  exact ⟨b, off, l[j], hA, by simp [hl], block_lt_of_cell (hk 0 (by omega)), hk 0 (by omega), hk 1 (by omega), hk 2 (by omega), hk 3 (by omega), hk 4 (by omega), hk 5 (by omega), hk 6 (by omega), hk 7 (by omega), hk 8 (by omega)⟩
end
/-- what the call made of entries -/
theorem own_ens {w : World} {B : Nat} {v : Value} {l : List En} (h : OwnR 33 9 w B v (l.map En.row)) : ∃ A n c, v = .slice A n c ∧ Ens w A n c l := by
  obtain ⟨A, n, c, rfl, hr⟩ := h.rws
  exact ⟨A, n, c, rfl, ⟨hr⟩⟩
theorem map_row (l m : List En) : (l ++ m).map En.row = l.map En.row ++ m.map En.row := List.map_append
theorem one_ens (w : World) (u : En) : Ens (w.alloc (.cells (enA u) 33)) (some ⟨w.heap.size, 0, none⟩) 1 1 [u] := ⟨one_rws 9 _ w u.row rfl (row_one9 u)⟩
theorem info_entry : (Tryz.prog.info? 33).map (fun i => (i.zero.map (·.cells.size), i.size, i.bytes)) = some (some 9, 9, 72) := by kernel_rfl
theorem info_en {C : Array Value} (h : C.size = 9) : (Tryz.prog.info? 33).map (·.size) = some C.size := by rw [h]; kernel_rfl
theorem enA_one (u : En) : (enA u).all (·.oneCell') = true := all_oneCell_toArray fun v hv => row_one9 u v hv

def upE (n most : Int) : Bool := decide (0 ≤ n) && decide (n ≤ most)
def mayE (u : En) : Bool := decide (0 ≤ u.kind) && (decide (u.kind < 5) && (decide (0 ≤ u.code) && (decide (u.code ≤ 12) && (upE u.tick 1073741824 && (upE u.epoch 1073741824 && (upE u.user 255 && (upE u.cmd 255 && upE u.arg 65535)))))))
theorem up_iff {n m : Int} : upE n m = true ↔ 0 ≤ n ∧ n ≤ m := by simp [upE]
theorem may_iff {u : En} : mayE u = true ↔ (0 ≤ u.kind ∧ u.kind < 5) ∧ (0 ≤ u.code ∧ u.code ≤ 12) ∧ (0 ≤ u.tick ∧ u.tick ≤ 1073741824) ∧ (0 ≤ u.epoch ∧ u.epoch ≤ 1073741824) ∧ (0 ≤ u.user ∧ u.user ≤ 255) ∧ (0 ≤ u.cmd ∧ u.cmd ≤ 255) ∧ (0 ≤ u.arg ∧ u.arg ≤ 65535) := by
  simp only [mayE, Bool.and_eq_true, decide_eq_true_eq, up_iff, and_assoc]
def numsE (u : En) : List Int := [u.kind, u.tick, u.epoch, u.user, u.sess, u.count, u.cmd, u.arg, u.code]
def szI : List Int := [1, 4, 4, 1, 8, 8, 1, 2, 1]
def szN : List Nat := [1, 4, 4, 1, 8, 8, 1, 2, 1]
theorem sz_ints : szI = ints szN := rfl
def rowE (u : En) : List (Int × Int) := (numsE u).zip szI
/-- its bytes -/
def putE (u : En) : List Int := catL (toN (rowE u))
def enOf (l : List Nat) : En := ⟨l.getD 0 0, l.getD 1 0, l.getD 2 0, l.getD 3 0, l.getD 4 0, l.getD 5 0, l.getD 6 0, l.getD 7 0, l.getD 8 0⟩
/-- what bytes seem to be -/
def seemsE (b : List Int) : En := enOf (cutL szN b)
def gotB (b : List Int) : Bool := decide (b.length = 30) && mayE (seemsE b)
def getE (b : List Int) : En := if gotB b then seemsE b else En.zero
theorem nat_row (u : En) : toN (rowE u) = [(u.kind.toNat, 1), (u.tick.toNat, 4), (u.epoch.toNat, 4), (u.user.toNat, 1), (u.sess.toNat, 8), (u.count.toNat, 8), (u.cmd.toNat, 1), (u.arg.toNat, 2), (u.code.toNat, 1)] := rfl
theorem fit_iff {n k : Int} : fitB n k = true ↔ 1 ≤ k ∧ k ≤ 8 ∧ n.toNat < 256 ^ k.toNat := by simp [fitB]
theorem put_fits {u : En} (h : mayE u = true) (ho : u.ok) : catB (rowE u) = true := by
  obtain ⟨h0, h8, h1, h2, h3, h6, h7⟩ := may_iff.1 h
  obtain ⟨h4, h5⟩ := ho
  simp only [catB, fitsB, rowE, numsE, szI, List.zip_cons_cons, List.zip_nil_right, List.length_cons, List.length_nil, List.all_cons, List.all_nil, Bool.and_eq_true, decide_eq_true_eq, fit_iff, Bool.and_true]
  refine ⟨by omega, ⟨by omega, by omega, ?_⟩, ⟨by omega, by omega, ?_⟩, ⟨by omega, by omega, ?_⟩, ⟨by omega, by omega, ?_⟩, ⟨by omega, by omega, ?_⟩, ⟨by omega, by omega, ?_⟩, ⟨by omega, by omega, ?_⟩, ⟨by omega, by omega, ?_⟩, by omega, by omega, ?_⟩
  all_goals
    simp only [Int.reduceToNat, Nat.reducePow]
    omega
theorem row_small {u : En} (h : mayE u = true) (ho : u.ok) : ∀ p ∈ rowE u, 0 ≤ p.1 ∧ p.1 < 18446744073709551616 ∧ -9223372036854775808 ≤ p.2 ∧ p.2 ≤ 9223372036854775807 := by
  obtain ⟨h0, h8, h1, h2, h3, h6, h7⟩ := may_iff.1 h
  obtain ⟨h4, h5⟩ := ho
  intro p hp
  simp only [rowE, numsE, szI, List.zip_cons_cons, List.zip_nil_right, List.mem_cons, List.not_mem_nil, or_false] at hp
  rcases hp with rfl | rfl | rfl | rfl | rfl | rfl | rfl | rfl | rfl <;> simp only <;> omega
theorem put_len (u : En) : (putE u).length = 30 := by rw [putE, catL_length, nat_row]; rfl
theorem put_ok (u : En) : ∀ j, 0 ≤ (putE u).getD j 0 ∧ (putE u).getD j 0 < 256 := catL_ok _
theorem fits_of {l : List (Int × Int)} (h : catB l = true) : fitsL (toN l) := by
  rw [catB, Bool.and_eq_true] at h
  intro p hp
  obtain ⟨q, hq, rfl⟩ := List.mem_map.1 hp
  have := List.all_eq_true.1 h.2 q hq
  exact (fit_iff.1 this).2.2
theorem seems_put {u : En} (h : mayE u = true) (ho : u.ok) : seemsE (putE u) = u := by
  have h1 := cut_cat _ (fits_of (put_fits h ho))
  obtain ⟨h0, h8, h2, h3, h4, h6, h7⟩ := may_iff.1 h
  obtain ⟨h9, h5⟩ := ho
  rw [nat_row] at h1
  have h2 : cutL szN (putE u) = [u.kind.toNat, u.tick.toNat, u.epoch.toNat, u.user.toNat, u.sess.toNat, u.count.toNat, u.cmd.toNat, u.arg.toNat, u.code.toNat] := by rw [putE, nat_row]; exact h1
  rw [seemsE, h2]
  rcases u with ⟨a0, a1, a2, a3, a4, a5, a6, a7, a8⟩
  simp only [enOf, List.getD_eq_getElem?_getD, List.getElem?_cons_zero, List.getElem?_cons_succ, Option.getD_some, En.mk.injEq] at *
  refine ⟨?_, ?_, ?_, ?_, ?_, ?_, ?_, ?_, ?_⟩ <;> omega
theorem got_put {u : En} (h : mayE u = true) (ho : u.ok) : gotB (putE u) = true := by rw [gotB, put_len, seems_put h ho, h]; rfl
theorem cut_nine (b : List Int) : ∃ a0 a1 a2 a3 a4 a5 a6 a7 a8, cutL szN b = [a0, a1, a2, a3, a4, a5, a6, a7, a8] := ⟨_, _, _, _, _, _, _, _, _, rfl⟩
theorem put_seems {b : List Int} (hb : ∀ x ∈ b, 0 ≤ x ∧ x < 256) (h : b.length = 30) : putE (seemsE b) = b := by
  have h1 := cat_cut szN b hb (by rw [h]; rfl)
  obtain ⟨a0, a1, a2, a3, a4, a5, a6, a7, a8, hc⟩ := cut_nine b
  rw [hc] at h1
  rw [putE, nat_row, seemsE, hc]
  exact h1
theorem seems_ok {b : List Int} (hb : ∀ x ∈ b, 0 ≤ x ∧ x < 256) (h : b.length = 30) : (seemsE b).ok := by
  have h1 := fits_cut szN b hb (by rw [h]; rfl)
  obtain ⟨a0, a1, a2, a3, a4, a5, a6, a7, a8, hc⟩ := cut_nine b
  rw [hc] at h1
  rw [seemsE, hc]
  have h4 := h1 (a4, 8) (by simp [szN])
  have h5 := h1 (a5, 8) (by simp [szN])
  simp only [Nat.reducePow] at h4 h5
  exact ⟨by simp [enOf]; omega, by simp [enOf]; omega⟩
theorem eput_inj {u v : En} (hu : mayE u = true) (ho : u.ok) (hv : mayE v = true) (hp : v.ok) (h : putE u = putE v) : u = v := by
  rw [← seems_put hu ho, ← seems_put hv hp, h]

/-- those of a kind -/
def ofE (l : List En) (k : Int) : List En := l.filter fun u => u.kind == k
/-- the last start's epoch -/
def epochE (l : List En) : Int := l.foldl (fun x u => if u.kind = 0 then u.epoch else x) 0
theorem epoch_snoc (l : List En) (u : En) : epochE (l ++ [u]) = if u.kind = 0 then u.epoch else epochE l := by simp [epochE]
theorem epoch_back (l : List En) : epochE l = ((ofE l.reverse 0).head?.map En.epoch).getD 0 := by
  have key : ∀ m : List En, epochE m.reverse = ((ofE m 0).head?.map En.epoch).getD 0 := by
    intro m
    induction m with
    | nil => rfl
    | cons u m ih =>
      rw [List.reverse_cons, epoch_snoc, ih]
      by_cases h : u.kind = 0
      · simp [h, ofE]
      · simp [h, ofE]
  have := key l.reverse
  rwa [List.reverse_reverse] at this
theorem of_snoc (l : List En) (u : En) (k : Int) : ofE (l ++ [u]) k = ofE l k ++ if u.kind == k then [u] else [] := by
  rw [ofE, List.filter_append, ofE]
  simp only [List.filter_cons, List.filter_nil]
theorem etake_more {α : Type} {l : List α} {j : Nat} {u : α} (h : l[j]? = some u) : l.take (j + 1) = l.take j ++ [u] := by
  obtain ⟨hj, rfl⟩ := List.getElem?_eq_some_iff.1 h
  exact List.take_succ_eq_append_getElem hj
theorem of_take {l : List En} {j : Nat} {u : En} (h : l[j]? = some u) (k : Int) : ofE (l.take (j + 1)) k = ofE (l.take j) k ++ if u.kind == k then [u] else [] := by rw [etake_more h, of_snoc]
theorem of_len (l : List En) (k : Int) : (ofE l k).length ≤ l.length := List.length_filter_le _ _
def sameE (l m : List En) : Bool := decide (l = m)
theorem same_len {l m : List En} (h : l.length ≠ m.length) : sameE l m = false := by
  rw [sameE, decide_eq_false_iff_not]
  rintro rfl
  exact h rfl
theorem same_take {l m : List En} {j : Nat} {u v : En} (h : l[j]? = some u) (h2 : m[j]? = some v) (h3 : l.take j = m.take j) (h4 : u = v) : l.take (j + 1) = m.take (j + 1) := by
  rw [etake_more h, etake_more h2, h3, h4]
theorem same_stop {l m : List En} {j : Nat} {u v : En} (h : l[j]? = some u) (h2 : m[j]? = some v) (h3 : u ≠ v) : sameE l m = false := by
  rw [sameE, decide_eq_false_iff_not]
  rintro rfl
  rw [h] at h2
  exact h3 (Option.some.inj h2)
/-- gives a bool, a number, an entry -/
def GBe (b : Bool) (w : World) (e : Ending) (w' : World) : Prop := e = .returned (.bool b) ∧ Below w.heap.size w w'
def GIe (i : Int) (w : World) (e : Ending) (w' : World) : Prop := e = .returned (.int .i64 i) ∧ Below w.heap.size w w'
/-- gives an entry, and a bool; gives entries -/
def GE (u : En) (b : Bool) (w : World) (e : Ending) (w' : World) : Prop := e = .returned (.tuple #[enV u, .bool b]) ∧ Below w.heap.size w w'
def GL (l : List En) (w : World) (e : Ending) (w' : World) : Prop := ∃ A n c, e = .returned (.slice A n c) ∧ Ens w' A n c l ∧ Below w.heap.size w w'
end Go.Proofs.YtafmompplcaadaaGreatDoor

/- Sums of bytes (SHA-256) as functions of lists: what the walks over package sha, and over the plain answers of the document, come to; and that both are the same. -/
namespace Go.Proofs.YtafmompplcaadaaGreatDoor
open Go

/-- a number of 32 bits, turned -/
def rot (x n : Int) : Int := bits .or .u32 (x / 2 ^ n.toNat) (x * 2 ^ (32 - n).toNat % 4294967296)
def x32 (a b : Int) : Int := bits .xor .u32 a b
def a32 (a b : Int) : Int := bits .and .u32 a b

def bigE (e : Int) : Int := x32 (x32 (rot e 6) (rot e 11)) (rot e 25)
def bigA (a : Int) : Int := x32 (x32 (rot a 2) (rot a 13)) (rot a 22)
def chE (e f g : Int) : Int := x32 (a32 e f) (a32 (x32 IntKind.u32.max e) g)
def majA (a b c : Int) : Int := x32 (x32 (a32 a b) (a32 a c)) (a32 b c)
def lowS (x : Int) : Int := x32 (x32 (rot x 7) (rot x 18)) (x / 8)
def highS (y : Int) : Int := x32 (x32 (rot y 17) (rot y 19)) (y / 1024)

/-- one round -/
def rnd (r : List Int) (n : Int) : List Int :=
  match r with
  | [a, b, c, d, e, f, g, h] => [(h + bigE e + chE e f g + n + (bigA a + majA a b c)) % 4294967296, a, b, c, (d + (h + bigE e + chE e f g + n)) % 4294967296, e, f, g]
  | _ => r

def kList : List Int := [1116352408, 1899447441, 3049323471, 3921009573, 961987163, 1508970993, 2453635748, 2870763221, 3624381080, 310598401, 607225278, 1426881987, 1925078388, 2162078206, 2614888103, 3248222580, 3835390401, 4022224774, 264347078, 604807628, 770255983, 1249150122, 1555081692, 1996064986, 2554220882, 2821834349, 2952996808, 3210313671, 3336571891, 3584528711, 113926993, 338241895, 666307205, 773529912, 1294757372, 1396182291, 1695183700, 1986661051, 2177026350, 2456956037, 2730485921, 2820302411, 3259730800, 3345764771, 3516065817, 3600352804, 4094571909, 275423344, 430227734, 506948616, 659060556, 883997877, 958139571, 1322822218, 1537002063, 1747873779, 1955562222, 2024104815, 2227730452, 2361852424, 2428436474, 2756734187, 3204031479, 3329325298]
def iList : List Int := [1779033703, 3144134277, 1013904242, 2773480762, 1359893119, 2600822924, 528734635, 1541459225]

/-- the i-th number of a block -/
def word (l : List Int) (i : Nat) : Int :=
  bits .or .u32 (bits .or .u32 (bits .or .u32 (l.getD (4 * i) 0 * 16777216 % 4294967296) (l.getD (4 * i + 1) 0 * 65536 % 4294967296)) (l.getD (4 * i + 2) 0 * 256 % 4294967296)) (l.getD (4 * i + 3) 0)
def spreadA (l : List Int) : Nat → List Int
  | 0 => List.replicate 64 0
  | k + 1 => (spreadA l k).set k (word l k)
def nextW (w : List Int) (i : Nat) : Int :=
  (w.getD (i - 16) 0 + lowS (w.getD (i - 15) 0) + w.getD (i - 7) 0 + highS (w.getD (i - 2) 0)) % 4294967296
def spreadB (l : List Int) : Nat → List Int
  | 0 => spreadA l 16
  | k + 1 => (spreadB l k).set (k + 16) (nextW (spreadB l k) (k + 16))
def spreadAll (l : List Int) : List Int := spreadB l 48

def runs (w : List Int) (r : List Int) : Nat → List Int
  | 0 => r
  | k + 1 => rnd (runs w r k) ((kList.getD k 0 + w.getD k 0) % 4294967296)
def addTo (x r : List Int) : Nat → List Int
  | 0 => x
  | k + 1 => (addTo x r k).set k (((addTo x r k).getD k 0 + r.getD k 0) % 4294967296)
/-- a register, rounded by a block -/
def roundedL (r l : List Int) : List Int := addTo (runs (spreadAll l) r 64) r 8
/-- .. by the first k blocks -/
def blocksL (r l : List Int) : Nat → List Int
  | 0 => r
  | k + 1 => roundedL (blocksL r l k) ((l.drop (64 * k)).take 64)
def byBlocks (r l : List Int) : List Int := blocksL r l (l.length / 64)

/-- how many noughts stand behind the byte 128 -/
def noughts (n : Nat) : Nat := (64 - (n + 9) % 64) % 64
def bits8 (n : Nat) (i : Nat) : Int := ((8 * n : Nat) : Int) / 2 ^ (56 - 8 * i) % 256
def endingL (n : Nat) : List Int := [128] ++ List.replicate (noughts n) 0 ++ (List.range 8).map (bits8 n)
def speltAt (r : List Int) (i : Nat) : Int := r.getD (i / 4) 0 / 2 ^ (24 - 8 * (i % 4)) % 256
def speltL (r : List Int) : List Int := (List.range 32).map (speltAt r)
def endL (r rest : List Int) (n : Nat) : List Int := speltL (byBlocks r (rest ++ endingL n))
def sumL (l : List Int) : List Int := endL (byBlocks iList (l.take (l.length / 64 * 64))) (l.drop (l.length / 64 * 64)) l.length

theorem abc_first : ((sumL [97, 98, 99]).getD 0 0, (sumL [97, 98, 99]).getD 1 0, (sumL [97, 98, 99]).getD 2 0, (sumL [97, 98, 99]).getD 3 0) = (186, 120, 22, 191) := by decide +kernel
theorem none_first : ((sumL []).getD 0 0, (sumL []).getD 3 0) = (227, 66) := by decide +kernel
end Go.Proofs.YtafmompplcaadaaGreatDoor

/- Entries in a chain of sums, plainly: heads, records, what is read of bytes, what is wrong with them, two texts of one sum. -/
namespace Go.Proofs.YtafmompplcaadaaGreatDoor
set_option linter.unusedVariables false
set_option linter.unusedSimpArgs false
open Go

theorem csum_len (l : List Int) : (sumL l).length = 32 := by simp [sumL, endL, speltL]
theorem csum_byte (l : List Int) : ∀ j, 0 ≤ (sumL l).getD j 0 ∧ (sumL l).getD j 0 < 256 := by
  intro j
  by_cases h : j < 32
  · simp only [sumL, endL, speltL, List.getD_eq_getElem?_getD, List.getElem?_map, List.getElem?_range h, Option.map_some, Option.getD_some, speltAt]
    omega
  · rw [List.getD_eq_getElem?_getD, List.getElem?_eq_none (by rw [csum_len]; omega)]
    simp
def startC : List Int := sumL [0]
def linkT (h : List Int) (u : En) : List Int := 1 :: (h ++ putE u)
def linkC (h : List Int) (u : En) : List Int := sumL (linkT h u)
def headF (h : List Int) (l : List En) : List Int := l.foldl linkC h
def headC (l : List En) : List Int := headF startC l
theorem headF_cons (h : List Int) (u : En) (l : List En) : headF h (u :: l) = headF (linkC h u) l := rfl
theorem headF_snoc (h : List Int) (l : List En) (u : En) : headF h (l ++ [u]) = linkC (headF h l) u := by simp [headF]
theorem headC_snoc (l : List En) (u : En) : headC (l ++ [u]) = linkC (headC l) u := headF_snoc _ _ _
theorem headF_len {h : List Int} (hh : h.length = 32) (l : List En) : (headF h l).length = 32 := by
  induction l generalizing h with
  | nil => exact hh
  | cons u l ih => rw [headF_cons]; exact ih (csum_len _)
theorem headC_len (l : List En) : (headC l).length = 32 := headF_len (csum_len _) l
theorem headF_byte {h : List Int} (hh : ∀ j, 0 ≤ h.getD j 0 ∧ h.getD j 0 < 256) (l : List En) : ∀ j, 0 ≤ (headF h l).getD j 0 ∧ (headF h l).getD j 0 < 256 := by
  induction l generalizing h with
  | nil => exact hh
  | cons u l ih => rw [headF_cons]; exact ih (csum_byte _)
theorem headC_byte (l : List En) : ∀ j, 0 ≤ (headC l).getD j 0 ∧ (headC l).getD j 0 < 256 := headF_byte (csum_byte _) l
/-- the text of entries -/
def textC (l : List En) : List Int := if h : l = [] then [0] else linkT (headC l.dropLast) (l.getLast h)
theorem textC_snoc (l : List En) (u : En) : textC (l ++ [u]) = linkT (headC l) u := by simp [textC]
theorem head_text (l : List En) : headC l = sumL (textC l) := by
  rcases List.eq_nil_or_concat l with rfl | ⟨m, u, rfl⟩
  · rfl
  · rw [List.concat_eq_append, headC_snoc, textC_snoc, linkC]
/-- the records -/
def recsF : List Int → List En → List Int
  | _, [] => []
  | h, u :: l => putE u ++ (linkC h u ++ recsF (linkC h u) l)
def recsC (l : List En) : List Int := recsF startC l
theorem recsF_len (l : List En) : ∀ h, (recsF h l).length = 62 * l.length := by
  induction l with
  | nil => intro h; rfl
  | cons u l ih =>
    intro h
    rw [recsF, List.length_append, List.length_append, put_len, linkC, csum_len, ih, List.length_cons]
    omega
theorem recsF_app (l m : List En) : ∀ h, recsF h (l ++ m) = recsF h l ++ recsF (headF h l) m := by
  induction l with
  | nil => intro h; rfl
  | cons u l ih => intro h; rw [List.cons_append, recsF, recsF, ih, headF_cons]; simp
theorem recsC_snoc (l : List En) (u : En) : recsC (l ++ [u]) = recsC l ++ (putE u ++ linkC (headC l) u) := by
  rw [recsC, recsF_app, recsF, recsF]
  simp [recsC, headC]
def mayC (l : List En) : Bool := l.all mayE
def putC (l : List En) : Bool := decide (l.length ≤ 264) && mayC l
theorem mayC_snoc (l : List En) (u : En) : mayC (l ++ [u]) = (mayC l && mayE u) := by simp [mayC]
theorem mayC_part {l : List En} {k : Nat} (h : mayC (l.take k) = false) : mayC l = false := by
  rw [← List.take_append_drop k l]
  unfold mayC at h ⊢
  rw [List.all_append, h, Bool.false_and]
/-- is there a whole record behind the head h? -/
def wholeC (h b : List Int) : Bool := decide (62 ≤ b.length) && (gotB (b.take 30) && linkC h (seemsE (b.take 30)) == (b.drop 30).take 32)
def readF : Nat → List Int → List Int → List En
  | 0, _, _ => []
  | f + 1, h, b => if wholeC h b then seemsE (b.take 30) :: readF f (linkC h (seemsE (b.take 30))) (b.drop 62) else []
def readC (b : List Int) : List En := readF 264 startC b
theorem readF_le (f : Nat) : ∀ h b, (readF f h b).length ≤ f := by
  induction f with
  | zero => intro h b; exact Nat.le_refl _
  | succ f ih =>
    intro h b
    rw [readF]
    split
    · rw [List.length_cons]; exact Nat.succ_le_succ (ih _ _)
    · exact Nat.zero_le _
theorem readC_le (b : List Int) : (readC b).length ≤ 264 := readF_le _ _ _
theorem readF_room (f : Nat) : ∀ h b, 62 * (readF f h b).length ≤ b.length := by
  induction f with
  | zero => intro h b; exact Nat.zero_le _
  | succ f ih =>
    intro h b
    rw [readF]
    cases hw : wholeC h b with
    | false => exact Nat.zero_le _
    | true =>
      rw [wholeC, Bool.and_eq_true, decide_eq_true_eq] at hw
      have := ih (linkC h (seemsE (b.take 30))) (b.drop 62)
      rw [List.length_drop] at this
      rw [if_pos rfl, List.length_cons]
      omega
theorem readC_room (b : List Int) : 62 * (readC b).length ≤ b.length := readF_room _ _ _
/-- a step of reading -/
theorem readF_at (f : Nat) : ∀ (h b : List Int) (k : Nat), k ≤ (readF f h b).length →
    (k < (readF f h b).length → wholeC (headF h ((readF f h b).take k)) (b.drop (62 * k)) = true ∧ (readF f h b)[k]? = some (seemsE ((b.drop (62 * k)).take 30))) ∧
    (k = (readF f h b).length → k < f → wholeC (headF h ((readF f h b).take k)) (b.drop (62 * k)) = false) := by
  induction f with
  | zero => intro h b k hk; exact ⟨fun h2 => by simp [readF] at h2, fun _ h2 => by omega⟩
  | succ f ih =>
    intro h b k hk
    cases hw : wholeC h b with
    | false =>
      have e : readF (f + 1) h b = [] := by rw [readF, hw]; rfl
      rw [e] at hk ⊢
      have : k = 0 := by simpa using hk
      subst this
      exact ⟨fun h2 => by simp at h2, fun _ _ => by simpa [headF] using hw⟩
    | true =>
      have e : readF (f + 1) h b = seemsE (b.take 30) :: readF f (linkC h (seemsE (b.take 30))) (b.drop 62) := by rw [readF, hw]; rfl
      rw [e] at hk ⊢
      cases k with
      | zero => exact ⟨fun _ => ⟨by simpa [headF] using hw, by simp⟩, fun h2 => by simp at h2⟩
      | succ k =>
        rw [List.length_cons] at hk ⊢
        obtain ⟨h1, h2⟩ := ih (linkC h (seemsE (b.take 30))) (b.drop 62) k (by omega)
        have e2 : (b.drop 62).drop (62 * k) = b.drop (62 * (k + 1)) := by rw [List.drop_drop]; congr 1; omega
        rw [e2] at h1 h2
        rw [List.take_succ_cons, headF_cons, List.getElem?_cons_succ]
        exact ⟨fun h3 => h1 (by omega), fun h3 h4 => h2 (by omega) (by omega)⟩
theorem whole_parts {h b : List Int} (hw : wholeC h b = true) : 62 ≤ b.length ∧ gotB (b.take 30) = true ∧ linkC h (seemsE (b.take 30)) = (b.drop 30).take 32 := by
  rw [wholeC, Bool.and_eq_true, Bool.and_eq_true, decide_eq_true_eq, beq_iff_eq] at hw
  exact hw
theorem ok_part {b : List Int} (hb : ∀ x ∈ b, 0 ≤ x ∧ x < 256) {c : List Int} (hc : ∀ x ∈ c, x ∈ b) : ∀ x ∈ c, 0 ≤ x ∧ x < 256 := fun x hx => hb x (hc x hx)
/-- what is read may be, and is put as what was read -/
theorem readF_put (f : Nat) : ∀ (h b : List Int), (∀ x ∈ b, 0 ≤ x ∧ x < 256) → mayC (readF f h b) = true ∧ (∀ u ∈ readF f h b, u.ok) ∧ recsF h (readF f h b) = b.take (62 * (readF f h b).length) := by
  induction f with
  | zero => intro h b _; exact ⟨rfl, fun u hu => by simp [readF] at hu, by simp [readF, recsF]⟩
  | succ f ih =>
    intro h b hb
    cases hw : wholeC h b with
    | false =>
      have e : readF (f + 1) h b = [] := by rw [readF, hw]; rfl
      rw [e]
      exact ⟨rfl, fun u hu => by simp at hu, by simp [recsF]⟩
    | true =>
      have e : readF (f + 1) h b = seemsE (b.take 30) :: readF f (linkC h (seemsE (b.take 30))) (b.drop 62) := by rw [readF, hw]; rfl
      obtain ⟨h1, h2, h3⟩ := whole_parts hw
      obtain ⟨i1, i2, i3⟩ := ih (linkC h (seemsE (b.take 30))) (b.drop 62) (ok_part hb fun x hx => List.mem_of_mem_drop hx)
      have ht : ∀ x ∈ b.take 30, 0 ≤ x ∧ x < 256 := ok_part hb fun x hx => List.mem_of_mem_take hx
      have hl : (b.take 30).length = 30 := by rw [List.length_take]; omega
      have hg := h2
      rw [gotB, Bool.and_eq_true, decide_eq_true_eq] at hg
      rw [e]
      refine ⟨?_, ?_, ?_⟩
      · show (mayE _ && mayC _) = true
        rw [hg.2, i1]; rfl
      · intro u hu
        rcases List.mem_cons.1 hu with rfl | hu
        · exact seems_ok ht hl
        · exact i2 u hu
      · rw [recsF, put_seems ht hl, i3, h3, List.length_cons]
        have e1 : (b.drop 62).take (62 * (readF f ((b.drop 30).take 32) (b.drop 62)).length) = ((b.drop 30).drop 32).take (62 * (readF f ((b.drop 30).take 32) (b.drop 62)).length) := by rw [List.drop_drop]
        rw [e1, ← List.take_add, ← List.take_add]
        congr 1
        omega
theorem readC_put {b : List Int} (hb : ∀ x ∈ b, 0 ≤ x ∧ x < 256) : mayC (readC b) = true ∧ (∀ u ∈ readC b, u.ok) ∧ recsC (readC b) = b.take (62 * (readC b).length) := readF_put _ _ _ hb
/-- what is put is read -/
theorem read_recs (l : List En) : ∀ (f : Nat) (h c : List Int), mayC l = true → (∀ u ∈ l, u.ok) → l.length ≤ f → readF f h (recsF h l ++ c) = l ++ readF (f - l.length) (headF h l) c := by
  induction l with
  | nil => intro f h c _ _ _; simp [recsF, headF]
  | cons u l ih =>
    intro f h c hm ho hf
    obtain ⟨f, rfl⟩ : ∃ g, f = g + 1 := ⟨f - 1, by rw [List.length_cons] at hf; omega⟩
    have hm2 : mayE u = true ∧ mayC l = true := by
      have : (mayE u && mayC l) = true := hm
      rwa [Bool.and_eq_true] at this
    have hu := ho u (by simp)
    have e1 : (recsF h (u :: l) ++ c).take 30 = putE u := by rw [recsF, List.append_assoc]; exact List.take_left' (put_len u)
    have e2 : (recsF h (u :: l) ++ c).drop 30 = linkC h u ++ (recsF (linkC h u) l ++ c) := by rw [recsF, List.append_assoc, List.append_assoc]; exact List.drop_left' (put_len u)
    have e3 : ((recsF h (u :: l) ++ c).drop 30).take 32 = linkC h u := by rw [e2]; exact List.take_left' (csum_len _)
    have e4 : (recsF h (u :: l) ++ c).drop 62 = recsF (linkC h u) l ++ c := by
      have : (recsF h (u :: l) ++ c).drop 62 = ((recsF h (u :: l) ++ c).drop 30).drop 32 := by rw [List.drop_drop]
      rw [this, e2]
      exact List.drop_left' (csum_len _)
    have hw : wholeC h (recsF h (u :: l) ++ c) = true := by
      rw [wholeC, e1, e3, got_put hm2.1 hu, seems_put hm2.1 hu]
      rw [decide_eq_true (by rw [List.length_append, recsF_len, List.length_cons]; omega)]
      simp
    rw [readF, if_pos hw, e1, e4, seems_put hm2.1 hu, ih f (linkC h u) c hm2.2 (fun v hv => ho v (by simp [hv])) (by rw [List.length_cons] at hf; omega), headF_cons, List.length_cons, Nat.add_sub_add_right]
    rfl
theorem readF_short {f : Nat} {h c : List Int} (hc : c.length < 62) : readF f h c = [] := by
  cases f with
  | zero => rfl
  | succ f =>
    have : wholeC h c = false := by rw [wholeC, decide_eq_false (by omega), Bool.false_and]
    rw [readF, this]; rfl
/-- cut off anywhere the whole records are read -/
theorem torn_read {l : List En} (hm : mayC l = true) (ho : ∀ u ∈ l, u.ok) (h264 : l.length ≤ 264) (k : Nat) (hk : k ≤ 62 * l.length) : readC ((recsC l).take k) = l.take (k / 62) := by
  have hl : (l.take (k / 62)).length = k / 62 := by rw [List.length_take]; omega
  have e1 : (recsC l).take k = recsF startC (l.take (k / 62)) ++ (recsF (headF startC (l.take (k / 62))) (l.drop (k / 62))).take (k % 62) := by
    have e2 : recsC l = recsF startC (l.take (k / 62)) ++ recsF (headF startC (l.take (k / 62))) (l.drop (k / 62)) := by rw [recsC, ← recsF_app, List.take_append_drop]
    have e3 : k = (recsF startC (l.take (k / 62))).length + k % 62 := by rw [recsF_len, hl]; omega
    rw [e2]
    obtain ⟨X, hX⟩ : ∃ X, recsF startC (l.take (k / 62)) = X := ⟨_, rfl⟩
    obtain ⟨Z, hZ⟩ : ∃ Z, recsF (headF startC (l.take (k / 62))) (l.drop (k / 62)) = Z := ⟨_, rfl⟩
    rw [hX] at e3 ⊢
    rw [hZ]
    obtain ⟨r, hr⟩ : ∃ r, k % 62 = r := ⟨_, rfl⟩
    rw [hr] at e3 ⊢
    rw [e3, List.take_length_add_append]
  have hm2 : mayC (l.take (k / 62)) = true := by
    cases h : mayC (l.take (k / 62)) with
    | true => rfl
    | false => rw [mayC_part h] at hm; exact hm
  rw [readC, e1, read_recs _ 264 startC _ hm2 (fun u hu => ho u (List.mem_of_mem_take hu)) (by omega), readF_short (by rw [List.length_take]; omega), List.append_nil]
theorem put_read {l : List En} (hm : mayC l = true) (ho : ∀ u ∈ l, u.ok) (h264 : l.length ≤ 264) : readC (recsC l) = l := by
  have := torn_read hm ho h264 (62 * l.length) (Nat.le_refl _)
  rwa [List.take_of_length_le (by rw [recsC, recsF_len]; exact Nat.le_refl _), Nat.mul_div_cancel_left _ (by omega), List.take_length] at this
/-- what is wrong -/
def noughtsC : List Int := List.replicate 32 0
def errC (b : List Int) : Int :=
  if 62 * (readC b).length = b.length then 0 else if (readC b).length = 264 ∨ b.length < 62 * (readC b).length + 62 then 4 else if gotB ((b.drop (62 * (readC b).length)).take 30) = true then 7 else 3
def verC (b : List Int) : List Int := if errC b = 0 then headC (readC b) else noughtsC
theorem err_ok (b : List Int) : errC b = 0 ↔ 62 * (readC b).length = b.length := by
  unfold errC
  split
  · simp [*]
  · split
    · simp [*]
    · split <;> simp [*]
/-- two texts of one sum: where they begin, from behind -/
def clashIx (a b : List En) : Nat → Nat → Nat × Nat
  | i + 1, k + 1 => if textC (a.take (i + 1)) = textC (b.take (k + 1)) then clashIx a b i k else (i + 1, k + 1)
  | i, k => (i, k)
def clashB (a b : List En) : Bool := putC a && (putC b && (decide (headC a = headC b) && !decide (a = b)))
def clashP (a b : List En) : List Int × List Int :=
  if clashB a b then (textC (a.take (clashIx a b a.length b.length).1), textC (b.take (clashIx a b a.length b.length).2)) else ([], [])
end Go.Proofs.YtafmompplcaadaaGreatDoor

/- What follows of entries in a chain of sums: two lists of one head tell two texts of one sum; a record that is spoiled is found, or tells two. -/
namespace Go.Proofs.YtafmompplcaadaaGreatDoor
set_option linter.unusedVariables false
set_option linter.unusedSimpArgs false
open Go

theorem linkT_inj {h g : List Int} {u v : En} (hh : h.length = 32) (hg : g.length = 32) (e : linkT h u = linkT g v) : h = g ∧ putE u = putE v := by
  simp only [linkT, List.cons.injEq, true_and] at e
  exact List.append_inj e (by rw [hh, hg])
theorem text_take {a : List En} {i : Nat} {u : En} (h : a[i]? = some u) : textC (a.take (i + 1)) = linkT (headC (a.take i)) u ∧ headC (a.take (i + 1)) = linkC (headC (a.take i)) u := by
  rw [etake_more h, textC_snoc, headC_snoc]
  exact ⟨rfl, rfl⟩
theorem clash_ix {a b : List En} (ha : mayC a = true) (hb : mayC b = true) (oa : ∀ u ∈ a, u.ok) (ob : ∀ u ∈ b, u.ok) : ∀ (i k : Nat), i ≤ a.length → k ≤ b.length → headC (a.take i) = headC (b.take k) → a.drop i = b.drop k →
    headC (a.take (clashIx a b i k).1) = headC (b.take (clashIx a b i k).2) ∧ a.drop (clashIx a b i k).1 = b.drop (clashIx a b i k).2 ∧ (clashIx a b i k).1 ≤ a.length ∧ (clashIx a b i k).2 ≤ b.length ∧
    (textC (a.take (clashIx a b i k).1) ≠ textC (b.take (clashIx a b i k).2) ∨ (clashIx a b i k).1 = 0 ∨ (clashIx a b i k).2 = 0)
  | 0, k, h1, h2, h3, h4 => by
    have e : clashIx a b 0 k = (0, k) := by cases k <;> rfl
    rw [e]
    exact ⟨h3, h4, h1, h2, .inr (.inl rfl)⟩
  | i + 1, 0, h1, h2, h3, h4 => ⟨h3, h4, h1, h2, .inr (.inr rfl)⟩
  | i + 1, k + 1, h1, h2, h3, h4 => by
    by_cases e : textC (a.take (i + 1)) = textC (b.take (k + 1))
    · have er : clashIx a b (i + 1) (k + 1) = clashIx a b i k := by rw [clashIx, if_pos e]
      rw [er]
      have hu : a[i]? = some a[i] := List.getElem?_eq_getElem h1
      have hv : b[k]? = some b[k] := List.getElem?_eq_getElem h2
      rw [(text_take hu).1, (text_take hv).1] at e
      obtain ⟨e1, e2⟩ := linkT_inj (headC_len _) (headC_len _) e
      have mu : mayE a[i] = true := List.all_eq_true.1 ha _ (List.getElem_mem h1)
      have mv : mayE b[k] = true := List.all_eq_true.1 hb _ (List.getElem_mem h2)
      have euv := eput_inj mu (oa _ (List.getElem_mem h1)) mv (ob _ (List.getElem_mem h2)) e2
      have hd : a.drop i = b.drop k := by
        rw [List.drop_eq_getElem_cons h1, List.drop_eq_getElem_cons h2, euv, h4]
      exact clash_ix ha hb oa ob i k (by omega) (by omega) e1 hd
    · have er : clashIx a b (i + 1) (k + 1) = (i + 1, k + 1) := by rw [clashIx, if_neg e]
      rw [er]
      exact ⟨h3, h4, h1, h2, .inl e⟩
theorem text_nil : textC [] = [0] := rfl
theorem text_one {l : List En} (h : l ≠ []) : textC l ≠ [0] := by
  rcases List.eq_nil_or_concat l with rfl | ⟨m, u, rfl⟩
  · exact fun _ => h rfl
  · rw [List.concat_eq_append, textC_snoc, linkT]
    intro e
    injection e with e1 _
    cases e1
/-- two lists of one head that are not the same tell two texts of one sum -/
theorem clash_two {a b : List En} (h : clashB a b = true) (oa : ∀ u ∈ a, u.ok) (ob : ∀ u ∈ b, u.ok) : (clashP a b).1 ≠ (clashP a b).2 ∧ sumL (clashP a b).1 = sumL (clashP a b).2 := by
  have hc := h
  rw [clashB, Bool.and_eq_true, Bool.and_eq_true, Bool.and_eq_true, putC, putC, Bool.and_eq_true, Bool.and_eq_true, decide_eq_true_eq, decide_eq_true_eq, decide_eq_true_eq, Bool.not_eq_true', decide_eq_false_iff_not] at h
  obtain ⟨⟨-, ha⟩, ⟨-, hb⟩, hh, hne⟩ := h
  obtain ⟨c1, c2, c3, c4, c5⟩ := clash_ix ha hb oa ob a.length b.length (Nat.le_refl _) (Nat.le_refl _) (by rw [List.take_length, List.take_length]; exact hh) (by rw [List.drop_length, List.drop_length])
  rw [clashP, if_pos hc]
  refine ⟨?_, by rw [← head_text, ← head_text]; exact c1⟩
  intro e
  dsimp only at e
  rcases c5 with c5 | c5 | c5
  · exact c5 e
  · have e2 : textC (b.take (clashIx a b a.length b.length).2) = [0] := by rw [← e, c5]; rfl
    by_cases e3 : b.take (clashIx a b a.length b.length).2 = []
    · have e4 : (clashIx a b a.length b.length).2 = 0 := by
        have := congrArg List.length e3
        rw [List.length_take, List.length_nil] at this
        omega
      rw [c5, e4] at c2
      exact hne c2
    · exact text_one e3 e2
  · have e2 : textC (a.take (clashIx a b a.length b.length).1) = [0] := by rw [e, c5]; rfl
    by_cases e3 : a.take (clashIx a b a.length b.length).1 = []
    · have e4 : (clashIx a b a.length b.length).1 = 0 := by
        have := congrArg List.length e3
        rw [List.length_take, List.length_nil] at this
        omega
      rw [c5, e4] at c2
      exact hne c2
    · exact text_one e3 e2
theorem head_eq_of {a b : List En} (h : a = b) : headC a = headC b := by rw [h]
/-- the records, about one of them -/
theorem recs_about {l : List En} {i : Nat} {u : En} (h : l[i]? = some u) : recsC l = recsC (l.take i) ++ (putE u ++ (linkC (headC (l.take i)) u ++ recsF (linkC (headC (l.take i)) u) (l.drop (i + 1)))) := by
  obtain ⟨hi, rfl⟩ := List.getElem?_eq_some_iff.1 h
  have e : l = l.take i ++ l[i] :: l.drop (i + 1) := by rw [← List.drop_eq_getElem_cons hi, List.take_append_drop]
  conv => lhs; rw [e]
  rw [recsC, recsF_app, recsF]
  rfl
/-- a spoiled record -/
theorem spoil {l : List En} {i : Nat} {u e : En} (h : l[i]? = some u) (hm : mayC l = true) (ho : ∀ u ∈ l, u.ok) (h264 : l.length ≤ 264) (he : mayE e = true) (oe : e.ok) (hne : u ≠ e) :
    errC (recsC (l.take i) ++ (putE e ++ (linkC (headC (l.take i)) u ++ recsF (linkC (headC (l.take i)) u) (l.drop (i + 1))))) = 7 ∨
    (linkT (headC (l.take i)) e ≠ linkT (headC (l.take i)) u ∧ sumL (linkT (headC (l.take i)) e) = sumL (linkT (headC (l.take i)) u)) := by
  obtain ⟨hi, hu⟩ := List.getElem?_eq_some_iff.1 h
  have hul : u ∈ l := by rw [← hu]; exact List.getElem_mem hi
  have mu : mayE u = true := List.all_eq_true.1 hm _ hul
  by_cases hs : linkC (headC (l.take i)) e = linkC (headC (l.take i)) u
  · right
    refine ⟨fun e1 => ?_, hs⟩
    have := (linkT_inj (headC_len _) (headC_len _) e1).2
    exact hne (eput_inj mu (ho u hul) he oe this.symm)
  · left
    have hl : (l.take i).length = i := by rw [List.length_take]; omega
    have hm2 : mayC (l.take i) = true := by
      cases h : mayC (l.take i) with
      | true => rfl
      | false => rw [mayC_part h] at hm; exact hm
    obtain ⟨H, hH⟩ : ∃ H, headC (l.take i) = H := ⟨_, rfl⟩
    rw [hH] at hs ⊢
    obtain ⟨Z, hZ⟩ : ∃ Z, recsF (linkC H u) (l.drop (i + 1)) = Z := ⟨_, rfl⟩
    rw [hZ]
    have hw : wholeC H (putE e ++ (linkC H u ++ Z)) = false := by
      have e1 : (putE e ++ (linkC H u ++ Z)).take 30 = putE e := List.take_left' (put_len e)
      have e2 : (putE e ++ (linkC H u ++ Z)).drop 30 = linkC H u ++ Z := List.drop_left' (put_len e)
      have e3 : (linkC H u ++ Z).take 32 = linkC H u := List.take_left' (csum_len _)
      rw [wholeC, e1, e2, e3, seems_put he oe]
      have e4 : (linkC H e == linkC H u) = false := by rw [beq_eq_false_iff_ne]; exact hs
      rw [e4, Bool.and_false, Bool.and_false]
    have hr : readC (recsC (l.take i) ++ (putE e ++ (linkC H u ++ Z))) = l.take i := by
      rw [readC, recsC, read_recs (l.take i) 264 startC _ hm2 (fun v hv => ho v (List.mem_of_mem_take hv)) (by omega)]
      have e5 : headF startC (l.take i) = H := hH
      rw [e5]
      obtain ⟨f, hf⟩ : ∃ f, 264 - (l.take i).length = f + 1 := ⟨264 - i - 1, by omega⟩
      rw [hf, readF, hw]
      simp
    have hxl : (recsC (l.take i) ++ (putE e ++ (linkC H u ++ Z))).length = 62 * i + 62 + Z.length := by
      rw [List.length_append, List.length_append, List.length_append, recsC, recsF_len, hl, put_len, linkC, csum_len]
      omega
    have hd : ((recsC (l.take i) ++ (putE e ++ (linkC H u ++ Z))).drop (62 * i)).take 30 = putE e := by
      rw [List.drop_left' (by rw [recsC, recsF_len, hl]), List.take_left' (put_len e)]
    rw [errC, hr, hl, hd, hxl, if_neg (by omega), if_neg (by omega), got_put he oe, if_pos rfl]
end Go.Proofs.YtafmompplcaadaaGreatDoor

/- The walks over package entry's upTo and May. -/
namespace Go.Proofs.YtafmompplcaadaaGreatDoor
set_option linter.unusedVariables false
set_option linter.unusedSimpArgs false
open Go.RowKit

/-- an array that holds an entry's cells -/
structure HasE (C : Array Value) (u : En) : Prop where
  d0 : C[0]? = some (.int .i64 u.kind)
  d1 : C[1]? = some (.int .i64 u.tick)
  d2 : C[2]? = some (.int .i64 u.epoch)
  d3 : C[3]? = some (.int .i64 u.user)
  d4 : C[4]? = some (.int .u64 u.sess)
  d5 : C[5]? = some (.int .u64 u.count)
  d6 : C[6]? = some (.int .i64 u.cmd)
  d7 : C[7]? = some (.int .i64 u.arg)
  d8 : C[8]? = some (.int .i64 u.code)
theorem hasE (u : En) : HasE (enA u) u := ⟨rfl, rfl, rfl, rfl, rfl, rfl, rfl, rfl, rfl⟩
set_option maxHeartbeats 1000000 in
theorem eupto_any (n m : Int) (w : World) : Calls Tryz.prog 81 #[.int .i64 n, .int .i64 m] w fun e w' => e = .returned (.bool (upE n m)) ∧ w = w' := by
  have hr : upE n m = (decide (0 ≤ n) && decide (n ≤ m)) := rfl
  cases h1 : decide (0 ≤ n) with
  | false =>
    rw [h1, Bool.false_and] at hr
    rw [hr]
    clear hr
    go_enter Tryz.func81, Tryz.ntmps81
    go_wp2
    go_ret
    exact ⟨rfl, rfl⟩
  | true =>
    rw [h1, Bool.true_and] at hr
    rw [hr]
    clear hr
    go_enter Tryz.func81, Tryz.ntmps81
    go_wp2
    go_ret
    exact ⟨rfl, rfl⟩
set_option maxHeartbeats 4000000 in
theorem emay_any (u : En) (w : World) : Calls Tryz.prog 64 #[enV u] w (GBe (mayE u) w) := by
  have hh := hasE u
  unfold enV
  obtain ⟨C, hC⟩ : ∃ C, C = enA u := ⟨_, rfl⟩
  rw [← hC] at hh ⊢
  obtain ⟨d0, d1, d2, d3, d4, d5, d6, d7, d8⟩ := hh
  rcases u with ⟨kind, tick, epoch, user, sess, count, cmd, arg, code⟩
  simp only at *
  clear hC
  have hr : mayE ⟨kind, tick, epoch, user, sess, count, cmd, arg, code⟩ = (decide (0 ≤ kind) && (decide (kind < 5) && (decide (0 ≤ code) && (decide (code ≤ 12) && (upE tick 1073741824 && (upE epoch 1073741824 && (upE user 255 && (upE cmd 255 && upE arg 65535)))))))) := rfl
  obtain ⟨M, hM⟩ : ∃ M, mayE ⟨kind, tick, epoch, user, sess, count, cmd, arg, code⟩ = M := ⟨_, rfl⟩
  rw [hM] at hr ⊢
  clear hM
  obtain ⟨u1, hu1⟩ : ∃ b, upE tick 1073741824 = b := ⟨_, rfl⟩
  rw [hu1] at hr
  have H1 := Lib.hid hu1
  clear hu1
  obtain ⟨u2, hu2⟩ : ∃ b, upE epoch 1073741824 = b := ⟨_, rfl⟩
  rw [hu2] at hr
  have H2 := Lib.hid hu2
  clear hu2
  obtain ⟨u3, hu3⟩ : ∃ b, upE user 255 = b := ⟨_, rfl⟩
  rw [hu3] at hr
  have H3 := Lib.hid hu3
  clear hu3
  obtain ⟨u4, hu4⟩ : ∃ b, upE cmd 255 = b := ⟨_, rfl⟩
  rw [hu4] at hr
  have H4 := Lib.hid hu4
  clear hu4
  obtain ⟨u5, hu5⟩ : ∃ b, upE arg 65535 = b := ⟨_, rfl⟩
  rw [hu5] at hr
  have H5 := Lib.hid hu5
  clear hu5
  have hb := one_alloc w (.cells C 33)
  have HB := Lib.hid hb
  clear hb
  obtain ⟨p1, hp1⟩ : ∃ b, decide (0 ≤ kind) = b := ⟨_, rfl⟩
  obtain ⟨p2, hp2⟩ : ∃ b, decide (kind < 5) = b := ⟨_, rfl⟩
  obtain ⟨p3, hp3⟩ : ∃ b, decide (0 ≤ code) = b := ⟨_, rfl⟩
  obtain ⟨p4, hp4⟩ : ∃ b, decide (code ≤ 12) = b := ⟨_, rfl⟩
  have e1 : decide (kind < 0) = !p1 := by rw [← hp1, Bool.eq_iff_iff]; simp
  have e2 : decide (5 ≤ kind) = !p2 := by rw [← hp2, Bool.eq_iff_iff]; simp
  have e3 : decide (code < 0) = !p3 := by rw [← hp3, Bool.eq_iff_iff]; simp
  have e4 : decide (12 < code) = !p4 := by rw [← hp4, Bool.eq_iff_iff]; simp
  rw [hp1, hp2, hp3, hp4] at hr
  clear hp1 hp2 hp3 hp4
  cases p1
  case' true =>
    cases p2
    case' true =>
      cases p3
      case' true =>
        cases p4
        case' true =>
          cases u1
          case' true =>
            cases u2
            case' true =>
              cases u3
              case' true =>
                cases u4
  all_goals
    simp only [Bool.not_true, Bool.not_false] at e1 e2 e3 e4
    simp only [Bool.true_and, Bool.false_and, Bool.and_true, Bool.and_false] at hr
    subst hr
    go_enter Tryz.func64, Tryz.ntmps64
    go_wp2_with (first
      | (go_at_call 81; (with_reducible refine (eupto_any tick 1073741824 _).mono ?_); rintro e w1 ⟨he, rfl⟩; rw [H1.out] at he; subst he)
      | (go_at_call 81; (with_reducible refine (eupto_any epoch 1073741824 _).mono ?_); rintro e w2 ⟨he, rfl⟩; rw [H2.out] at he; subst he)
      | (go_at_call 81; (with_reducible refine (eupto_any user 255 _).mono ?_); rintro e w3 ⟨he, rfl⟩; rw [H3.out] at he; subst he)
      | (go_at_call 81; (with_reducible refine (eupto_any cmd 255 _).mono ?_); rintro e w4 ⟨he, rfl⟩; rw [H4.out] at he; subst he)
      | (go_at_call 81; (with_reducible refine (eupto_any arg 65535 _).mono ?_); rintro e w5 ⟨he, rfl⟩; rw [H5.out] at he; subst he))
    go_ret
    exact ⟨rfl, HB.out⟩
end Go.Proofs.YtafmompplcaadaaGreatDoor

/- The walks over package entry's sizes, numbersOf and entryOf. -/
namespace Go.Proofs.YtafmompplcaadaaGreatDoor
set_option linter.unusedVariables false
set_option linter.unusedSimpArgs false
open Go.RowKit

def szV : Value := .agg #[.int .i64 1, .int .i64 4, .int .i64 4, .int .i64 1, .int .i64 8, .int .i64 8, .int .i64 1, .int .i64 2, .int .i64 1]
theorem esizes_any (w : World) : Calls Tryz.prog 65 #[] w fun e w' => e = .returned szV ∧ Below w.heap.size w w' := by
  go_enter Tryz.func65, Tryz.ntmps65
  go_wp2
  refine bodyPost_ret (v := szV) (by simp [results, Tryz.results65, go_sem]; rfl) rfl ⟨rfl, ?_⟩
  exact one_alloc w _
def numA (u : En) : Array Value := ((numsE u).map (Value.int .u64)).toArray
def enumV (u : En) : Value := .agg (numA u)
set_option maxHeartbeats 2000000 in
theorem nums_of (u : En) (w : World) (hm : mayE u = true) (ho : u.ok) :
    Calls Tryz.prog 66 #[enV u] w fun e w' => e = .returned (enumV u) ∧ Below w.heap.size w w' := by
  have hh := hasE u
  obtain ⟨⟨p0, a0⟩, ⟨p8, a8⟩, ⟨p1, a1⟩, ⟨p2, a2⟩, ⟨p3, a3⟩, ⟨p6, a6⟩, ⟨p7, a7⟩⟩ := may_iff.1 hm
  obtain ⟨⟨b4, a4⟩, ⟨b5, a5⟩⟩ := ho
  unfold enV
  obtain ⟨C, hC⟩ : ∃ C, C = enA u := ⟨_, rfl⟩
  rw [← hC] at hh ⊢
  obtain ⟨d0, d1, d2, d3, d4, d5, d6, d7, d8⟩ := hh
  rcases u with ⟨kind, tick, epoch, user, sess, count, cmd, arg, code⟩
  simp only at *
  clear hC hm
  go_enter Tryz.func66, Tryz.ntmps66
  go_wp2
  refine bodyPost_ret (v := .agg #[.int .u64 kind, .int .u64 tick, .int .u64 epoch, .int .u64 user, .int .u64 sess, .int .u64 count, .int .u64 cmd, .int .u64 arg, .int .u64 code]) (by simp [results, Tryz.results66, go_sem]) rfl ⟨rfl, two_below _ _ _⟩
set_option maxHeartbeats 2000000 in
theorem entry_of (n0 n1 n2 n3 n4 n5 n6 n7 n8 : Nat) (w : World) (h0 : n0 < 9223372036854775808) (h1 : n1 < 9223372036854775808) (h2 : n2 < 9223372036854775808) (h3 : n3 < 9223372036854775808) (h6 : n6 < 9223372036854775808) (h7 : n7 < 9223372036854775808) (h8 : n8 < 9223372036854775808)
    (h4 : n4 < 18446744073709551616) (h5 : n5 < 18446744073709551616) :
    Calls Tryz.prog 86 #[.agg #[.int .u64 n0, .int .u64 n1, .int .u64 n2, .int .u64 n3, .int .u64 n4, .int .u64 n5, .int .u64 n6, .int .u64 n7, .int .u64 n8]] w fun e w' => e = .returned (enV (enOf [n0, n1, n2, n3, n4, n5, n6, n7, n8])) ∧ Below w.heap.size w w' := by
  have g0 : (n0 : Int) ≤ 9223372036854775807 := by omega
  have g1 : (n1 : Int) ≤ 9223372036854775807 := by omega
  have g2 : (n2 : Int) ≤ 9223372036854775807 := by omega
  have g3 : (n3 : Int) ≤ 9223372036854775807 := by omega
  have g6 : (n6 : Int) ≤ 9223372036854775807 := by omega
  have g7 : (n7 : Int) ≤ 9223372036854775807 := by omega
  have g8 : (n8 : Int) ≤ 9223372036854775807 := by omega
  have g4 : (n4 : Int) < 18446744073709551616 := by omega
  have g5 : (n5 : Int) < 18446744073709551616 := by omega
  clear h0 h1 h2 h3 h4 h5 h6 h7 h8
  go_enter Tryz.func86, Tryz.ntmps86
  go_wp2
  refine bodyPost_ret (v := .agg #[.int .i64 n0, .int .i64 n1, .int .i64 n2, .int .i64 n3, .int .u64 n4, .int .u64 n5, .int .i64 n6, .int .i64 n7, .int .i64 n8]) (by simp [results, Tryz.results86, go_sem]) rfl ⟨rfl, two_below _ _ _⟩
end Go.Proofs.YtafmompplcaadaaGreatDoor

/- Loads and stores of whole rows: guarded ones; a store, with the world behind it under a name; a row that is built. -/
namespace Go.Proofs.YtafmompplcaadaaGreatDoor
open Go.RowKit

section
variable {P : Program} {ops : Array Oper} {rest : List Oper} {o : Oper} {a : Act} {w : World} {Q : Exit → Act → World → Prop}
/-- a load out of the middle of a block, guarded or not -/
theorem wpList_load_on (ty : TypeId) (x : Operand) (ho : o.op = .load ty x) (b off : Nat) (hx : a.eval x = .pointer (some ⟨b, off, none⟩)) (cs : List Value) (T : Array Value) (hT : cs.toArray = T) (d : TypeDesc) (hc : w.rangeAt b off cs)
    (hu : P.underlying ty = some d) (hd : d.isRow = true) (hi : (P.info? ty).map (·.size) = some cs.length)
    (h : wpList P ops Q rest (a.put o.dst (.agg T)) w) (hw : Region.wanted o (yielded ops a.tmps) = true) : wpList P ops Q (o :: rest) a w := by
  subst hT
  exact wpList_step fun K hK => by rw [if_pos hw]; exact wp_load_mid ty x ho b off hx cs d hc hu hd hi (hK _ _ h)
/-- a load of a whole block, guarded or not -/
theorem wpList_load_blk (ty : TypeId) (x : Operand) (ho : o.op = .load ty x) (g : Nat) (hx : a.eval x = .pointer (some ⟨g, 0, none⟩)) (t : TypeId) (cs : Array Value) (fr : Nat × Nat) (d : TypeDesc) (hg : w.heap[g]? = some (.cells cs t fr))
    (hu : P.underlying ty = some d) (hd : (match d with | .struct _ | .array _ _ => true | _ => false) = true) (hi : (P.info? ty).map (·.size) = some cs.size)
    (h : wpList P ops Q rest (a.put o.dst (.agg cs)) w) (hw : Region.wanted o (yielded ops a.tmps) = true) : wpList P ops Q (o :: rest) a w :=
  wpList_step fun K hK => by rw [if_pos hw]; exact wp_load_row ty x ho g hx t cs fr d hg hu hd hi (hK _ _ h)
/-- a store of a whole block; the world behind it under a name -/
theorem wpList_store_blk (hgd : o.guard = none) (ty : TypeId) (x y : Operand) (ho : o.op = .store ty x y)
    (g : Nat) (cells : Array Value) (hx : a.eval x = .pointer (some ⟨g, 0, none⟩)) (hy : a.eval y = .agg cells) (t : TypeId) (old : Array Value) (hg : w.heap[g]? = some (.cells old t (0, 0))) (hi : (P.info? ty).map (·.size) = some cells.size) (hold : old.size = cells.size) (h1 : cells.all (·.oneCell') = true)
    (h : ∀ w', w.grownBy w' (some g) → w'.heap[g]? = some (.cells cells t (0, 0)) → w'.heap.size = w.heap.size → wpList P ops Q rest (a.put o.dst undef) w') : wpList P ops Q (o :: rest) a w :=
  wpList_store_row hgd ty x y ho g cells hx hy t old hg hi hold h1 (h _ (grown_setRow _ _ _) (setRow_heap _ _ _ _ _ _ hg) (by simp))
/-- a row that is built of its parts -/
theorem wpList_build_to (hg : o.guard = none) (t : TypeId) (parts : Array (Nat × Operand)) (ho : o.op = .build t parts)
    (l : List (Nat × Value)) (Y : Array Value) (hl' : parts.toList.map (fun (i, x) => (i, a.eval x)) = l) (hb : P.built t l = some Y) (h : wpList P ops Q rest (a.put o.dst (.agg Y)) w) : wpList P ops Q (o :: rest) a w := by
  have hl : (parts.map fun (i, x) => (i, a.eval x)).toList = l := by rw [Array.toList_map]; exact hl'
  refine wpList_build hg t parts ho ?_ ?_
  · rw [hl, hb]; rfl
  · rw [hl, hb]; exact h
/-- the same, guarded or not -/
theorem wpList_build_on (t : TypeId) (parts : Array (Nat × Operand)) (ho : o.op = .build t parts)
    (l : List (Nat × Value)) (Y : Array Value) (hl' : parts.toList.map (fun (i, x) => (i, a.eval x)) = l) (hb : P.built t l = some Y) (h : wpList P ops Q rest (a.put o.dst (.agg Y)) w) (hw : Region.wanted o (yielded ops a.tmps) = true) : wpList P ops Q (o :: rest) a w := by
  have hl : (parts.map fun (i, x) => (i, a.eval x)).toList = l := by rw [Array.toList_map]; exact hl'
  refine wpList_step fun K hK => ?_
  rw [if_pos hw]
  refine wp_build t parts ho ?_ ?_
  · rw [hl, hb]; rfl
  · rw [hl, hb]; exact hK _ _ h
end
/-- a whole block and a value, handed back -/
theorem results_blk_tmp {fn : Func} {p u : Tmp} {ty : TypeId} (h : fn.results = #[.cell p ty, .tmp u]) (tmps : Array Value) (P : Program) (w : World) (g : Nat) (t : TypeId) (cs : Array Value) (fr : Nat × Nat) (d : TypeDesc)
    (hp : tmps.getD p undef = .pointer (some ⟨g, 0, none⟩)) (hg : w.heap[g]? = some (.cells cs t fr))
    (hu : P.underlying ty = some d) (hd : d.isRow = true) (hi : (P.info? ty).map (·.size) = some cs.size) (v : Value) (hv : tmps.getD u undef = v) :
    (results fn tmps).run P w = .ok (.tuple #[.agg cs, v]) w := by
  rw [results_cell_tmp h, hp, hv]
  simp [asAddr, run_loadVar_row w g t ty cs fr d hg hu (by cases d <;> simp_all) hi]
theorem built_of {P : Program} {t : TypeId} {fs : Array Field} {z : Value} {places : List (Nat × Nat)} {parts : List (Nat × Value)} {cells : Array Value} (hu : P.underlying t = some (.struct fs)) (hz : (P.info? t).bind (·.zero) = some z)
    (hp : fs.toList.mapM (fun f => (P.info? f.type).map fun i => (f.offset, i.size)) = some places) (hf : Instr.fill (places.toArray[·]?) z.cells parts = some cells) : P.built t parts = some cells := by
  unfold Program.built
  cases hi : P.info? t with
  | none => simp [hi] at hz
  | some i =>
    simp only [hi, Option.bind_some] at hz
    simp only [hu, hz, hp, hf]
/-- of no parts: the zero one -/
theorem built_none {P : Program} {t e : TypeId} {n : Nat} {z : Value} (hu : P.underlying t = some (.array n e)) (hz : (P.info? t).bind (·.zero) = some z) (he : (P.info? e).isSome = true) : P.built t [] = some z.cells := by
  unfold Program.built
  cases hi : P.info? t with
  | none => simp [hi] at hz
  | some i =>
    simp only [hi, Option.bind_some] at hz
    obtain ⟨j, hj⟩ := Option.isSome_iff_exists.1 he
    simp only [hu, hz, hj, Instr.fill]
end Go.Proofs.YtafmompplcaadaaGreatDoor

/- Arrays by value: one element. -/
namespace Go.Proofs.YtafmompplcaadaaGreatDoor
open Go.RowKit

/-- 'a[i]' of an array by value, its elements numbers -/
theorem run_index_arr {P : Program} (t e : TypeId) (n : Nat) (K : IntKind) (cs : Array Value) (i : Nat) (j : Int) (v : Value) (ht : P.underlying t = some (.array n e)) (he : P.underlying e = some (.int K)) (hs : (P.info? e).map (·.size) = some 1)
    (hj : j = i) (hi : i < n) (hv : cs[i]? = some v) (w : World) : (Instr.index t (.agg cs) (.int .i64 j)).run P w = .ok v w := by
  subst hj
  have hb : 0 ≤ (i : Int) ∧ (i : Int) < (n : Int) := by omega
  cases hinfo : P.info? e with
  | none => simp [hinfo] at hs
  | some inf =>
    simp [hinfo] at hs
    simp [Instr.index, run_underlying ht, run_underlying he, asIntOf, hb, part, isAgg, sizeOf, typeInfo, hinfo, hs, hv, go_sem]
    intro h
    omega
end Go.Proofs.YtafmompplcaadaaGreatDoor

/- The walk over package entry's Put. -/
namespace Go.Proofs.YtafmompplcaadaaGreatDoor
set_option maxRecDepth 100000
set_option linter.unusedVariables false
set_option linter.unusedSimpArgs false
open Go.RowKit

theorem in_alloc {w1 : World} {g : Nat} {o1 : Obj} (h1 : w1.heap[g]? = some o1) (o : Obj) : (w1.alloc o).heap[g]? = some o1 := (Below.heap_alloc w1 o _ (Array.getElem?_eq_some_iff.1 h1).1).trans h1
theorem enumR_one (p : Int × Int) : ∀ u ∈ numR p, u.oneCell' = true := by
  intro u hu
  simp only [numR, List.mem_cons, List.not_mem_nil, or_false] at hu
  rcases hu with rfl | rfl <;> rfl
theorem enum_index {u : En} {cs : Array Value} (hc : numA u = cs) (k : Nat) (hk : k < 9) (w : World) :
    (Instr.index 89 (.agg cs) (.int .i64 k)).run Tryz.prog w = .ok (.int .u64 ((numsE u).getD k 0)) w := by
  refine run_index_arr 89 30 9 .u64 _ k k _ Tryz.underlying89 Tryz.underlying30 (by kernel_rfl) rfl hk ?_ w
  have hl : k < (numsE u).length := hk
  rw [← hc]
  simp only [numA, List.getElem?_toArray, List.getElem?_map, List.getD_eq_getElem?_getD, List.getElem?_eq_getElem hl, Option.map_some, Option.getD_some]
abbrev szC : Array Value := #[.int .i64 1, .int .i64 4, .int .i64 4, .int .i64 1, .int .i64 8, .int .i64 8, .int .i64 1, .int .i64 2, .int .i64 1]
/-- the block g holds the sizes -/
structure RowZ (w : World) (g : Nat) : Prop where
  blk : w.heap[g]? = some (.cells szC 86 (0, 0))
theorem RowZ.below {w w' : World} {g : Nat} (h : RowZ w g) (hb : Below w.heap.size w w') : RowZ w' g := ⟨(hb.block g (Array.getElem?_eq_some_iff.1 h.blk).1).trans h.blk⟩
theorem RowZ.lt {w : World} {g : Nat} (h : RowZ w g) : g < w.heap.size := (Array.getElem?_eq_some_iff.1 h.blk).1
theorem RowZ.at_ {w : World} {g : Nat} (h : RowZ w g) (k : Nat) (hk : k < 9) : w.cell? ⟨g, k, none⟩ = some (.int .i64 (szI.getD k 0)) := by
  rw [cell_of_row _ _ _ _ _ _ h.blk]
  match k, hk with
  | 0, _ | 1, _ | 2, _ | 3, _ | 4, _ | 5, _ | 6, _ | 7, _ | 8, _ => rfl
theorem row_take {u : En} (k : Nat) (hk : k < 9) : (rowE u).take (k + 1) = (rowE u).take k ++ [((numsE u).getD k 0, szI.getD k 0)] := by
  have hl : k < (rowE u).length := hk
  rw [List.take_succ_eq_append_getElem hl]
  congr 2
  match k, hk with
  | 0, _ | 1, _ | 2, _ | 3, _ | 4, _ | 5, _ | 6, _ | 7, _ | 8, _ => rfl

theorem eput_no (u : En) (w : World) (hm : mayE u = false) :
    Calls Tryz.prog 50 #[enV u] w fun e w' => e = .returned (.tuple #[.slice none 0 0, .bool false]) ∧ Below w.heap.size w w' := by
  have hmc := fun w => emay_any u w
  rw [hm] at hmc
  unfold enV at hmc ⊢
  obtain ⟨C, hC⟩ : ∃ C, C = enA u := ⟨_, rfl⟩
  rw [← hC] at hmc ⊢
  have hCs : C.size = 9 := by rw [hC]; rfl
  have HCS := Lib.hid hCs
  have HMC := Lib.hid hmc
  clear hmc hC hCs
  go_enter Tryz.func50, Tryz.ntmps50
  go_wp2_with (first
    | ((with_reducible refine wpList_load_blk 33 _ rfl w.heap.size ?hx2 33 C (0, 0) _ (heap_alloc_new w _) Tryz.underlying33 ?hd2 (info_en HCS.out) ?_ ?hw2); (case hx2 => rfl); (case hd2 => rfl); (case hw2 => rfl))
    | (go_at_call 64; (with_reducible refine (HMC.out _).mono ?_); rintro e w1 ⟨rfl, hb1⟩))
  go_ret2
  exact ⟨rfl, (after_one hb1).1⟩
set_option maxRecDepth 100000 in
set_option maxHeartbeats 2000000 in
theorem eput_yes (u : En) (w : World) (hm : mayE u = true) (ho : u.ok) :
    Calls Tryz.prog 50 #[enV u] w fun e w' => ∃ v, e = .returned (.tuple #[v, .bool true]) ∧ Own w' w.heap.size v (putE u) ∧ Below w.heap.size w w' := by
  have hmc := fun w => emay_any u w
  rw [hm] at hmc
  have hnc := fun w => nums_of u w hm ho
  have hcat := put_fits hm ho
  have hsm := row_small hm ho
  have hnum : ∀ k, k < 9 → 0 ≤ (numsE u).getD k 0 ∧ (numsE u).getD k 0 < 18446744073709551616 := fun k hk => by
    have h1 : ((rowE u).getD k (0, 0)) ∈ rowE u := by
      have hl : k < (rowE u).length := hk
      rw [List.getD_eq_getElem?_getD, List.getElem?_eq_getElem hl]
      exact List.getElem_mem hl
    have h2 := hsm _ h1
    match k, hk with
    | 0, _ | 1, _ | 2, _ | 3, _ | 4, _ | 5, _ | 6, _ | 7, _ | 8, _ => exact ⟨h2.1, h2.2.1⟩
  unfold enV at hmc hnc ⊢
  obtain ⟨C, hC⟩ : ∃ C, C = enA u := ⟨_, rfl⟩
  rw [← hC] at hmc hnc ⊢
  have hCs : C.size = 9 := by rw [hC]; rfl
  obtain ⟨M, hM⟩ : ∃ M, numA u = M := ⟨_, rfl⟩
  have hnv : enumV u = .agg M := by rw [← hM]; rfl
  rw [hnv] at hnc
  have HCS := Lib.hid hCs
  have HMC := Lib.hid hmc
  have HNC := Lib.hid hnc
  have HM := Lib.hid hM
  have HCAT := Lib.hid hcat
  have HSM := Lib.hid hsm
  have HNUM := Lib.hid hnum
  have HC := Lib.hid hC
  have HSZ := Lib.hid esizes_any
  clear hmc hnc hC hCs hM hnv hcat hsm hnum
  go_enter Tryz.func50, Tryz.ntmps50
  go_wp2_with (first
    | ((with_reducible refine wpList_load_blk 33 _ rfl w.heap.size ?hx2 33 C (0, 0) _ (heap_alloc_new w _) Tryz.underlying33 ?hd2 (info_en HCS.out) ?_ ?hw2); (case hx2 => rfl); (case hd2 => rfl); (case hw2 => rfl))
    | (go_at_call 64; (with_reducible refine (HMC.out _).mono ?_); rintro e w1 ⟨rfl, hb1⟩
       have hE1 := after_alloc hb1
       have hB1 := (after_one hb1).1
       clear hb1)
    | (go_at_call 65; (with_reducible refine (HSZ.out _).mono ?_); rintro e w2 ⟨rfl, hb2⟩
       unfold szV
       have hE2 := (hb2.block _ (Array.getElem?_eq_some_iff.1 hE1).1).trans hE1
       have hB2 := hB1.trans (hb2.mono hB1.size)
       clear hb2 hE1 hB1)
    | ((with_reducible refine wpList_load_blk 33 _ rfl w.heap.size ?hx3 33 C (0, 0) _ (in_alloc hE2 _) Tryz.underlying33 ?hd3 (info_en HCS.out) ?_ ?hw3); (case hx3 => rfl); (case hd3 => rfl); (case hw3 => rfl))
    | (go_at_call 66; (with_reducible refine (HNC.out _).mono ?_); rintro e w3 ⟨rfl, hb3⟩
       have hZ3 : RowZ w3 w2.heap.size := ⟨after_alloc hb3⟩
       have hB3 := hB2.trans ((after_one hb3).1.mono hB2.size)
       clear hb3 hE2 hB2))
  have HZ3 := Lib.hid hZ3
  have HB3 := Lib.hid hB3
  have hlt3 := hZ3.lt
  clear hZ3 hB3
  go_loopw [5, 6, 7, 14] (fun v y z i wr => ∃ k : Nat, k ≤ 9 ∧ i = .int .i64 k ∧ OwnR 92 2 wr w3.heap.size v (((rowE u).take k).map numR) ∧ Below w3.heap.size w3 wr) (fun _ _ _ i _ => 9 - (intOf i).toNat)
  case atStart => exact ⟨0, by omega, rfl, OwnR.nil _ _ _ _, Below.refl _ _⟩
  case round =>
    obtain ⟨k, hk9, rfl, hown, hB⟩ := hrel
    have HO := Lib.hid hown
    clear hown
    by_cases hlt : k < 9
    · have hix := enum_index HM.out k hlt
      have hcell := (hB.cell (p := ⟨w2.heap.size, k, none⟩) hlt3).trans (HZ3.out.at_ k hlt)
      obtain ⟨y0, y1⟩ := HNUM.out k hlt
      have hsn : ((rowE u).take (k + 1)).map numR = ((rowE u).take k).map numR ++ [numR ((numsE u).getD k 0, szI.getD k 0)] := by rw [row_take k hlt, List.map_append]; rfl
      obtain ⟨y, hy⟩ : ∃ y, (numsE u).getD k 0 = y := ⟨_, rfl⟩
      obtain ⟨x, hx⟩ : ∃ x, szI.getD k 0 = x := ⟨_, rfl⟩
      rw [hy] at hix y0 y1 hsn
      rw [hx] at hcell hsn
      obtain ⟨L, hL⟩ : ∃ L, L = ((rowE u).take k).map numR := ⟨_, rfl⟩
      have hLl : L.length ≤ 9 := by rw [hL, List.length_map, List.length_take]; omega
      rw [← hL] at hsn
      have hown := HO.out
      rw [← hL] at hown
      have HNX := Lib.hid hsn
      have HLL := Lib.hid hLl
      clear hx hy hsn hL HO hLl
      go_wp2_with (at_builtin
                   refine wpList_append_r rfl 88 92 2 16 _ _ rfl Tryz.underlying88 (by kernel_rfl) (by omega) w3.heap.size u5 L rfl (hown.more _) _ 1 1 [numR (y, x)] rfl (one_rws 2 92 _ _ rfl (enumR_one (y, x))) (by have := HLL.out; omega) (by have := HLL.out; omega) (Nat.le_trans hB.size (size_le_alloc _ _)) ?_
                   intro v5 w5 hown5 hg5
                   have hB5 : Below w3.heap.size w3 w5 := (hB.alloc hB.size _).grown hg5 (Nat.le_trans hB.size (size_le_alloc _ _)) (fun k hk => (hown.size k hk).1)
                   rw [← HNX.out] at hown5
                   clear hg5)
      go_roundw
      case rel => exact ⟨k + 1, by omega, by go_num, hown5, hB5⟩
      case measure => simp [intOf]; omega
    · have hkn : k = 9 := by omega
      have htk : (rowE u).take k = rowE u := by rw [hkn]; rfl
      have hown := HO.out
      rw [htk] at hown
      obtain ⟨A, n, cap, rfl, hrw⟩ := hown.rws
      have hnms : Nms wr A n cap (rowE u) := ⟨hrw, HSM.out⟩
      have hca := (cat_any A n cap (rowE u) wr hnms).mono (R' := fun e w' => ∃ v, e = .returned (.tuple #[v, .bool true]) ∧ Own w' wr.heap.size v (putE u) ∧ Below wr.heap.size wr w') fun e w' h => by
        obtain ⟨v, he, ho⟩ := h.1 HCAT.out
        exact ⟨v, he, ho, h.2.2⟩
      have HCA := Lib.hid hca
      have hB3 := HB3.out
      have HB9 := Lib.hid (hB3.trans (hB.mono hB3.size))
      clear htk hkn hown hrw hnms hca hB HO hB3
      go_wp2_with (go_at_call 67; (with_reducible refine HCA.out.mono ?_); rintro e w6 ⟨v6, rfl, hown6, hb6⟩; have HO6 := Lib.hid hown6; have HB6 := Lib.hid hb6; clear hown6 hb6)
      go_ret2
      exact ⟨v6, rfl, HO6.out.mono HB9.out.size, HB9.out.trans (HB6.out.mono HB9.out.size)⟩
theorem eput_any (u : En) (w : World) (ho : u.ok) :
    Calls Tryz.prog 50 #[enV u] w (GivesB (if mayE u then putE u else []) (mayE u) w) := by
  cases hm : mayE u with
  | false => exact (eput_no u w hm).mono fun e w' ⟨he, hb⟩ => ⟨none, 0, 0, he, Bts.nil w', hb⟩
  | true =>
    refine (eput_yes u w hm ho).mono ?_
    rintro e w' ⟨v, rfl, hv, hb⟩
    exact hv.gives (put_ok u) hb
end Go.Proofs.YtafmompplcaadaaGreatDoor
