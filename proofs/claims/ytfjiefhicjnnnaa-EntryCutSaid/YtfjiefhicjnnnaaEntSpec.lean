/- Entries, plainly: their cells and bytes, which may be; a slice of entries as it lies; those of a kind, and the epoch of the last start. -/
import Derived.Test.YtfjiefhicjnnnaaNumGives
import Derived.Test.YtfjiefhicjnnnaaBasRows
namespace Go.Proofs.Ytfjiefhicjnnnaa
set_option linter.unusedVariables false
set_option linter.unusedSimpArgs false
open Go.RowKit

structure En where
  kind : Int
  tick : Int
  epoch : Int
  user : Int
  sess : Int
  count : Int
  cmd : Int
  arg : Int
  code : Int
deriving DecidableEq
def En.zero : En := ⟨0, 0, 0, 0, 0, 0, 0, 0, 0⟩
def En.row (u : En) : List Value := [.int .i64 u.kind, .int .i64 u.tick, .int .i64 u.epoch, .int .i64 u.user, .int .u64 u.sess, .int .u64 u.count, .int .i64 u.cmd, .int .i64 u.arg, .int .i64 u.code]
def enA (u : En) : Array Value := u.row.toArray
def enV (u : En) : Value := .agg (enA u)
theorem enA_size (u : En) : (enA u).size = 9 := rfl
theorem row_len (u : En) : u.row.length = 9 := rfl
theorem row_one9 (u : En) : ∀ v ∈ u.row, v.oneCell' = true := by
  intro v hv
  simp only [En.row, List.mem_cons, List.not_mem_nil, or_false] at hv
  rcases hv with rfl | rfl | rfl | rfl | rfl | rfl | rfl | rfl | rfl <;> rfl
/-- its two wide numbers are -/
structure En.ok (u : En) : Prop where
  sess : 0 ≤ u.sess ∧ u.sess < 18446744073709551616
  count : 0 ≤ u.count ∧ u.count < 18446744073709551616
/-- the block g holds this entry -/
structure BoxE (w : World) (g : Nat) (u : En) : Prop where
  blk : w.heap[g]? = some (.cells (enA u) 25 (0, 0))
section
variable {w w' : World} {g : Nat} {u : En}
theorem BoxE.below (h : BoxE w g u) (hb : Below w.heap.size w w') : BoxE w' g u := ⟨(hb.block g (Array.getElem?_eq_some_iff.1 h.blk).1).trans h.blk⟩
theorem BoxE.new (w : World) (u : En) : BoxE (w.alloc (.cells (enA u) 25)) w.heap.size u := ⟨heap_alloc_new w _⟩
theorem BoxE.lt (h : BoxE w g u) : g < w.heap.size := (Array.getElem?_eq_some_iff.1 h.blk).1
theorem BoxE.draw (h : BoxE w g u) (k : Nat) : BoxE (w.drewN k) g u := ⟨h.blk⟩
theorem BoxE.c0 (h : BoxE w g u) : w.cell? ⟨g, 0, none⟩ = some (.int .i64 u.kind) := (cell_of_row _ _ _ _ _ _ h.blk).trans rfl
theorem BoxE.c1 (h : BoxE w g u) : w.cell? ⟨g, 1, none⟩ = some (.int .i64 u.tick) := (cell_of_row _ _ _ _ _ _ h.blk).trans rfl
theorem BoxE.c2 (h : BoxE w g u) : w.cell? ⟨g, 2, none⟩ = some (.int .i64 u.epoch) := (cell_of_row _ _ _ _ _ _ h.blk).trans rfl
theorem BoxE.c3 (h : BoxE w g u) : w.cell? ⟨g, 3, none⟩ = some (.int .i64 u.user) := (cell_of_row _ _ _ _ _ _ h.blk).trans rfl
theorem BoxE.c4 (h : BoxE w g u) : w.cell? ⟨g, 4, none⟩ = some (.int .u64 u.sess) := (cell_of_row _ _ _ _ _ _ h.blk).trans rfl
theorem BoxE.c5 (h : BoxE w g u) : w.cell? ⟨g, 5, none⟩ = some (.int .u64 u.count) := (cell_of_row _ _ _ _ _ _ h.blk).trans rfl
theorem BoxE.c6 (h : BoxE w g u) : w.cell? ⟨g, 6, none⟩ = some (.int .i64 u.cmd) := (cell_of_row _ _ _ _ _ _ h.blk).trans rfl
theorem BoxE.c7 (h : BoxE w g u) : w.cell? ⟨g, 7, none⟩ = some (.int .i64 u.arg) := (cell_of_row _ _ _ _ _ _ h.blk).trans rfl
theorem BoxE.c8 (h : BoxE w g u) : w.cell? ⟨g, 8, none⟩ = some (.int .i64 u.code) := (cell_of_row _ _ _ _ _ _ h.blk).trans rfl
theorem BoxE.cells (h : BoxE w g u) : w.cell? ⟨g, 0, none⟩ = some (.int .i64 u.kind) ∧ w.cell? ⟨g, 1, none⟩ = some (.int .i64 u.tick) ∧ w.cell? ⟨g, 2, none⟩ = some (.int .i64 u.epoch) ∧ w.cell? ⟨g, 3, none⟩ = some (.int .i64 u.user) ∧ w.cell? ⟨g, 4, none⟩ = some (.int .u64 u.sess) ∧ w.cell? ⟨g, 5, none⟩ = some (.int .u64 u.count) ∧ w.cell? ⟨g, 6, none⟩ = some (.int .i64 u.cmd) ∧ w.cell? ⟨g, 7, none⟩ = some (.int .i64 u.arg) ∧ w.cell? ⟨g, 8, none⟩ = some (.int .i64 u.code) :=
  ⟨h.c0, h.c1, h.c2, h.c3, h.c4, h.c5, h.c6, h.c7, h.c8⟩
end
/-- a slice of entries -/
structure Ens (w : World) (A : Option Addr) (n c : Nat) (l : List En) : Prop where
  rws : Rws 9 w A n c (l.map En.row)
section
variable {w w' : World} {A : Option Addr} {n c : Nat} {l : List En}
theorem Ens.len (h : Ens w A n c l) : l.length = n := by rw [← h.rws.len, List.length_map]
theorem Ens.small (h : Ens w A n c l) : n ≤ 9223372036854775807 := h.rws.small
theorem Ens.below (h : Ens w A n c l) (hb : Below w.heap.size w w') : Ens w' A n c l := ⟨h.rws.below hb⟩
theorem Ens.draw (h : Ens w A n c l) (k : Nat) : Ens (w.drewN k) A n c l := ⟨h.rws.draw k⟩
theorem Ens.more (h : Ens w A n c l) (o : Obj) : Ens (w.alloc o) A n c l := ⟨h.rws.more o⟩
theorem Ens.nil (w : World) : Ens w none 0 0 [] := ⟨Rws.nil 9 w⟩
/-- one of them -/
theorem Ens.at_ (h : Ens w A n c l) (j : Nat) (hj : j < n) : ∃ b off u, A = some ⟨b, off, none⟩ ∧ l[j]? = some u ∧ b < w.heap.size ∧
    (w.cell? ⟨b, off + j * 9, none⟩ = some (.int .i64 u.kind) ∧ w.cell? ⟨b, off + j * 9 + 1, none⟩ = some (.int .i64 u.tick) ∧ w.cell? ⟨b, off + j * 9 + 2, none⟩ = some (.int .i64 u.epoch) ∧ w.cell? ⟨b, off + j * 9 + 3, none⟩ = some (.int .i64 u.user) ∧ w.cell? ⟨b, off + j * 9 + 4, none⟩ = some (.int .u64 u.sess) ∧ w.cell? ⟨b, off + j * 9 + 5, none⟩ = some (.int .u64 u.count) ∧ w.cell? ⟨b, off + j * 9 + 6, none⟩ = some (.int .i64 u.cmd) ∧ w.cell? ⟨b, off + j * 9 + 7, none⟩ = some (.int .i64 u.arg) ∧ w.cell? ⟨b, off + j * 9 + 8, none⟩ = some (.int .i64 u.code)) := by
  obtain ⟨b, off, hA, hc⟩ := h.rws.at_ (by omega)
  have hl : j < l.length := by rw [h.len]; exact hj
  have hr : (l.map En.row).getD j [] = l[j].row := by simp [List.getD_eq_getElem?_getD, hl]
  have hk : ∀ i, i < 9 → w.cell? ⟨b, off + j * 9 + i, none⟩ = some (l[j].row.getD i undef) := fun i hi => by rw [← hr]; exact hc j hj i hi
  exact ⟨b, off, l[j], hA, by simp [hl], block_lt_of_cell (hk 0 (by omega)), hk 0 (by omega), hk 1 (by omega), hk 2 (by omega), hk 3 (by omega), hk 4 (by omega), hk 5 (by omega), hk 6 (by omega), hk 7 (by omega), hk 8 (by omega)⟩
end
/-- what the call made of entries -/
theorem own_ens {w : World} {B : Nat} {v : Value} {l : List En} (h : OwnR 25 9 w B v (l.map En.row)) : ∃ A n c, v = .slice A n c ∧ Ens w A n c l := by
  obtain ⟨A, n, c, rfl, hr⟩ := h.rws
  exact ⟨A, n, c, rfl, ⟨hr⟩⟩
theorem map_row (l m : List En) : (l ++ m).map En.row = l.map En.row ++ m.map En.row := List.map_append
theorem one_ens (w : World) (u : En) : Ens (w.alloc (.cells (enA u) 25)) (some ⟨w.heap.size, 0, none⟩) 1 1 [u] := ⟨one_rws 9 _ w u.row rfl (row_one9 u)⟩
theorem info_entry : (Try.prog.info? 25).map (fun i => (i.zero.map (·.cells.size), i.size, i.bytes)) = some (some 9, 9, 72) := by kernel_rfl
theorem info_en {C : Array Value} (h : C.size = 9) : (Try.prog.info? 25).map (·.size) = some C.size := by rw [h]; kernel_rfl
theorem enA_one (u : En) : (enA u).all (·.oneCell') = true := all_oneCell_toArray fun v hv => row_one9 u v hv

def upB (n most : Int) : Bool := decide (0 ≤ n) && decide (n ≤ most)
def mayE (u : En) : Bool := decide (0 ≤ u.kind) && (decide (u.kind < 5) && (decide (0 ≤ u.code) && (decide (u.code ≤ 12) && (upB u.tick 1073741824 && (upB u.epoch 1073741824 && (upB u.user 255 && (upB u.cmd 255 && upB u.arg 65535)))))))
theorem up_iff {n m : Int} : upB n m = true ↔ 0 ≤ n ∧ n ≤ m := by simp [upB]
theorem may_iff {u : En} : mayE u = true ↔ (0 ≤ u.kind ∧ u.kind < 5) ∧ (0 ≤ u.code ∧ u.code ≤ 12) ∧ (0 ≤ u.tick ∧ u.tick ≤ 1073741824) ∧ (0 ≤ u.epoch ∧ u.epoch ≤ 1073741824) ∧ (0 ≤ u.user ∧ u.user ≤ 255) ∧ (0 ≤ u.cmd ∧ u.cmd ≤ 255) ∧ (0 ≤ u.arg ∧ u.arg ≤ 65535) := by
  simp only [mayE, Bool.and_eq_true, decide_eq_true_eq, up_iff, and_assoc]
def numsE (u : En) : List Int := [u.kind, u.tick, u.epoch, u.user, u.sess, u.count, u.cmd, u.arg, u.code]
def szI : List Int := [1, 4, 4, 1, 8, 8, 1, 2, 1]
def szN : List Nat := [1, 4, 4, 1, 8, 8, 1, 2, 1]
theorem sz_ints : szI = ints szN := rfl
def rowE (u : En) : List (Int × Int) := (numsE u).zip szI
/-- its bytes -/
def putE (u : En) : List Int := catL (toN (rowE u))
def enOf (l : List Nat) : En := ⟨l.getD 0 0, l.getD 1 0, l.getD 2 0, l.getD 3 0, l.getD 4 0, l.getD 5 0, l.getD 6 0, l.getD 7 0, l.getD 8 0⟩
/-- what bytes seem to be -/
def seemsE (b : List Int) : En := enOf (cutL szN b)
def gotB (b : List Int) : Bool := decide (b.length = 30) && mayE (seemsE b)
def getE (b : List Int) : En := if gotB b then seemsE b else En.zero
theorem nat_row (u : En) : toN (rowE u) = [(u.kind.toNat, 1), (u.tick.toNat, 4), (u.epoch.toNat, 4), (u.user.toNat, 1), (u.sess.toNat, 8), (u.count.toNat, 8), (u.cmd.toNat, 1), (u.arg.toNat, 2), (u.code.toNat, 1)] := rfl
theorem fit_iff {n k : Int} : fitB n k = true ↔ 1 ≤ k ∧ k ≤ 8 ∧ n.toNat < 256 ^ k.toNat := by simp [fitB]
theorem put_fits {u : En} (h : mayE u = true) (ho : u.ok) : catB (rowE u) = true := by
  obtain ⟨h0, h8, h1, h2, h3, h6, h7⟩ := may_iff.1 h
  obtain ⟨h4, h5⟩ := ho
  simp only [catB, fitsB, rowE, numsE, szI, List.zip_cons_cons, List.zip_nil_right, List.length_cons, List.length_nil, List.all_cons, List.all_nil, Bool.and_eq_true, decide_eq_true_eq, fit_iff, Bool.and_true]
  refine ⟨by omega, ⟨by omega, by omega, ?_⟩, ⟨by omega, by omega, ?_⟩, ⟨by omega, by omega, ?_⟩, ⟨by omega, by omega, ?_⟩, ⟨by omega, by omega, ?_⟩, ⟨by omega, by omega, ?_⟩, ⟨by omega, by omega, ?_⟩, ⟨by omega, by omega, ?_⟩, by omega, by omega, ?_⟩
  all_goals
    simp only [Int.reduceToNat, Nat.reducePow]
    omega
theorem row_small {u : En} (h : mayE u = true) (ho : u.ok) : ∀ p ∈ rowE u, 0 ≤ p.1 ∧ p.1 < 18446744073709551616 ∧ -9223372036854775808 ≤ p.2 ∧ p.2 ≤ 9223372036854775807 := by
  obtain ⟨h0, h8, h1, h2, h3, h6, h7⟩ := may_iff.1 h
  obtain ⟨h4, h5⟩ := ho
  intro p hp
  simp only [rowE, numsE, szI, List.zip_cons_cons, List.zip_nil_right, List.mem_cons, List.not_mem_nil, or_false] at hp
  rcases hp with rfl | rfl | rfl | rfl | rfl | rfl | rfl | rfl | rfl <;> simp only <;> omega
theorem put_len (u : En) : (putE u).length = 30 := by rw [putE, catL_length, nat_row]; rfl
theorem put_ok (u : En) : ∀ j, 0 ≤ (putE u).getD j 0 ∧ (putE u).getD j 0 < 256 := catL_ok _
theorem fits_of {l : List (Int × Int)} (h : catB l = true) : fitsL (toN l) := by
  rw [catB, Bool.and_eq_true] at h
  intro p hp
  obtain ⟨q, hq, rfl⟩ := List.mem_map.1 hp
  have := List.all_eq_true.1 h.2 q hq
  exact (fit_iff.1 this).2.2
theorem seems_put {u : En} (h : mayE u = true) (ho : u.ok) : seemsE (putE u) = u := by
  have h1 := cut_cat _ (fits_of (put_fits h ho))
  obtain ⟨h0, h8, h2, h3, h4, h6, h7⟩ := may_iff.1 h
  obtain ⟨h9, h5⟩ := ho
  rw [nat_row] at h1
  have h2 : cutL szN (putE u) = [u.kind.toNat, u.tick.toNat, u.epoch.toNat, u.user.toNat, u.sess.toNat, u.count.toNat, u.cmd.toNat, u.arg.toNat, u.code.toNat] := by rw [putE, nat_row]; exact h1
  rw [seemsE, h2]
  rcases u with ⟨a0, a1, a2, a3, a4, a5, a6, a7, a8⟩
  simp only [enOf, List.getD_eq_getElem?_getD, List.getElem?_cons_zero, List.getElem?_cons_succ, Option.getD_some, En.mk.injEq] at *
  refine ⟨?_, ?_, ?_, ?_, ?_, ?_, ?_, ?_, ?_⟩ <;> omega
theorem got_put {u : En} (h : mayE u = true) (ho : u.ok) : gotB (putE u) = true := by rw [gotB, put_len, seems_put h ho, h]; rfl
theorem cut_nine (b : List Int) : ∃ a0 a1 a2 a3 a4 a5 a6 a7 a8, cutL szN b = [a0, a1, a2, a3, a4, a5, a6, a7, a8] := ⟨_, _, _, _, _, _, _, _, _, rfl⟩
theorem put_seems {b : List Int} (hb : ∀ x ∈ b, 0 ≤ x ∧ x < 256) (h : b.length = 30) : putE (seemsE b) = b := by
  have h1 := cat_cut szN b hb (by rw [h]; rfl)
  obtain ⟨a0, a1, a2, a3, a4, a5, a6, a7, a8, hc⟩ := cut_nine b
  rw [hc] at h1
  rw [putE, nat_row, seemsE, hc]
  exact h1
theorem seems_ok {b : List Int} (hb : ∀ x ∈ b, 0 ≤ x ∧ x < 256) (h : b.length = 30) : (seemsE b).ok := by
  have h1 := fits_cut szN b hb (by rw [h]; rfl)
  obtain ⟨a0, a1, a2, a3, a4, a5, a6, a7, a8, hc⟩ := cut_nine b
  rw [hc] at h1
  rw [seemsE, hc]
  have h4 := h1 (a4, 8) (by simp [szN])
  have h5 := h1 (a5, 8) (by simp [szN])
  simp only [Nat.reducePow] at h4 h5
  exact ⟨by simp [enOf]; omega, by simp [enOf]; omega⟩
theorem put_inj {u v : En} (hu : mayE u = true) (ho : u.ok) (hv : mayE v = true) (hp : v.ok) (h : putE u = putE v) : u = v := by
  rw [← seems_put hu ho, ← seems_put hv hp, h]

/-- those of a kind -/
def ofE (l : List En) (k : Int) : List En := l.filter fun u => u.kind == k
/-- the last start's epoch -/
def epochE (l : List En) : Int := l.foldl (fun x u => if u.kind = 0 then u.epoch else x) 0
theorem epoch_snoc (l : List En) (u : En) : epochE (l ++ [u]) = if u.kind = 0 then u.epoch else epochE l := by simp [epochE]
theorem epoch_back (l : List En) : epochE l = ((ofE l.reverse 0).head?.map En.epoch).getD 0 := by
  have key : ∀ m : List En, epochE m.reverse = ((ofE m 0).head?.map En.epoch).getD 0 := by
    intro m
    induction m with
    | nil => rfl
    | cons u m ih =>
      rw [List.reverse_cons, epoch_snoc, ih]
      by_cases h : u.kind = 0
      · simp [h, ofE]
      · simp [h, ofE]
  have := key l.reverse
  rwa [List.reverse_reverse] at this
theorem of_snoc (l : List En) (u : En) (k : Int) : ofE (l ++ [u]) k = ofE l k ++ if u.kind == k then [u] else [] := by
  rw [ofE, List.filter_append, ofE]
  simp only [List.filter_cons, List.filter_nil]
theorem take_more {α : Type} {l : List α} {j : Nat} {u : α} (h : l[j]? = some u) : l.take (j + 1) = l.take j ++ [u] := by
  obtain ⟨hj, rfl⟩ := List.getElem?_eq_some_iff.1 h
  exact List.take_succ_eq_append_getElem hj
theorem of_take {l : List En} {j : Nat} {u : En} (h : l[j]? = some u) (k : Int) : ofE (l.take (j + 1)) k = ofE (l.take j) k ++ if u.kind == k then [u] else [] := by rw [take_more h, of_snoc]
theorem of_len (l : List En) (k : Int) : (ofE l k).length ≤ l.length := List.length_filter_le _ _
def sameE (l m : List En) : Bool := decide (l = m)
theorem same_len {l m : List En} (h : l.length ≠ m.length) : sameE l m = false := by
  rw [sameE, decide_eq_false_iff_not]
  rintro rfl
  exact h rfl
theorem same_take {l m : List En} {j : Nat} {u v : En} (h : l[j]? = some u) (h2 : m[j]? = some v) (h3 : l.take j = m.take j) (h4 : u = v) : l.take (j + 1) = m.take (j + 1) := by
  rw [take_more h, take_more h2, h3, h4]
theorem same_stop {l m : List En} {j : Nat} {u v : En} (h : l[j]? = some u) (h2 : m[j]? = some v) (h3 : u ≠ v) : sameE l m = false := by
  rw [sameE, decide_eq_false_iff_not]
  rintro rfl
  rw [h] at h2
  exact h3 (Option.some.inj h2)
/-- gives a bool, a number, an entry -/
def GB (b : Bool) (w : World) (e : Ending) (w' : World) : Prop := e = .returned (.bool b) ∧ Below w.heap.size w w'
def GI (i : Int) (w : World) (e : Ending) (w' : World) : Prop := e = .returned (.int .i64 i) ∧ Below w.heap.size w w'
/-- gives an entry, and a bool; gives entries -/
def GE (u : En) (b : Bool) (w : World) (e : Ending) (w' : World) : Prop := e = .returned (.tuple #[enV u, .bool b]) ∧ Below w.heap.size w w'
def GL (l : List En) (w : World) (e : Ending) (w' : World) : Prop := ∃ A n c, e = .returned (.slice A n c) ∧ Ens w' A n c l ∧ Below w.heap.size w w'
end Go.Proofs.Ytfjiefhicjnnnaa
