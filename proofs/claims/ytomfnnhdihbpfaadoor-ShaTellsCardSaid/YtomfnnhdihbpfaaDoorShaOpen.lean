/- The laws' arguments, opened: a state by value, and a slice of bytes; the table of the constants, as the row lists it. -/
import Derived.Test.YtomfnnhdihbpfaaDoorShaAwake
import Derived.Test.YtomfnnhdihbpfaaDoorCards
import Derived.Test.YtomfnnhdihbpfaaDoorTie
import Derived.ProofKit
import Derived.OpenShut
import Derived.Deep.DeepHandedRow
import Derived.Lib.LaidTab
namespace Go.Proofs.YtomfnnhdihbpfaaDoor
open Go.ChangeShapes Go.WideShapes Go.ChangeAt Go.RowKit

theorem own : ownKnob Tryd.prog.godebug = none := by kernel_rfl
theorem gK : Tryd.prog.globalNamed "pelican/sha.constants" = some 0 := by kernel_rfl
theorem gKType : (Tryd.prog.globals[0]?).map (·.type) = some 60 := by kernel_rfl
theorem cells64 : Tryd.prog.cellsOf 60 = 64 := by kernel_rfl
theorem cells8 : Tryd.prog.cellsOf 23 = 8 := by kernel_rfl
theorem cellsU32 : Tryd.prog.cellsOf 22 = 1 := by kernel_rfl
theorem cellsU8 : Tryd.prog.cellsOf 5 = 1 := by kernel_rfl
theorem cellsBytes : Tryd.prog.cellsOf 24 = 1 := by kernel_rfl
theorem cellsInt : Tryd.prog.cellsOf 3 = 1 := by kernel_rfl
theorem cellsHash : Tryd.prog.cellsOf 26 = 10 := by kernel_rfl
theorem laidOut : laidOutB Tryd.prog = true := by kernel_rfl

section
variable {H : Type} {enc : TypeId × Value → H} {W : World} {base : Nat} {spare : Nat → Bool} {held : Bool}
theorem open_bytes {fuel : Nat} {cs : List Value} {x : DataW H × List MemPlace} (h : DataW.trod enc Tryd.prog W base spare held fuel 24 cs = some x) :
    ∃ (A : Option Addr) (n c : Nat) (l : List Int), cs = [.slice A n c] ∧ Bts W A n c l := by
  rcases open_ints Tryd.underlying24 Tryd.underlying5 cellsU8 h with ⟨hcs, _⟩ | ⟨a, len, cap, zs, hcs, _, hl, hm, hz, _, hcell, hwz⟩
  · exact ⟨none, 0, 0, [], hcs, Bts.nil W⟩
  · have hlen : len ≤ zs.length := by rw [hz]; split <;> omega
    refine ⟨some a, len, cap, zs.take len, hcs, by rw [List.length_take]; omega, hl, hm, ?_, (fun e => by cases e), ?_⟩
    · intro j
      simp only [List.getD_eq_getElem?_getD, List.getElem?_take]
      split
      · cases hj : zs[j]? with
        | none => simp
        | some y =>
          have := bounds_u8 (hwz y (List.mem_of_getElem? hj))
          simp only [Option.getD_some]
          omega
      · simp
    · intro hn
      obtain ⟨b, off, rfl, hc⟩ := ints_at hcell (by omega)
      refine ⟨b, off, rfl, fun j hj => ?_⟩
      rw [hc j (by omega)]
      simp [List.getD_eq_getElem?_getD, hj]
theorem open_u32 {fuel : Nat} {c : Value} {x : Option (DataW H × List MemPlace)} (h : DataW.trod enc Tryd.prog W base spare held fuel 22 [c] = x) (hx : x.isSome = true) : ∃ n, c = .int .u32 n := by
  obtain ⟨y, rfl⟩ := Option.isSome_iff_exists.1 hx
  obtain ⟨n, hc, _⟩ := DataW.trod_int Tryd.underlying22 h
  exact ⟨n, by simpa using hc⟩
theorem open_hash {r : Reach} {b0 : Nat} {v : Value} {d : DataW H} {p : List MemPlace} (hv : Value.okWide Tryd.prog W r b0 26 v) (h : DataW.Trod enc Tryd.prog W base spare held 26 v d p) :
    ∃ (x0 x1 x2 x3 x4 x5 x6 x7 : Int) (A : Option Addr) (n c : Nat) (len : Int) (l : List Int), v = hashV x0 x1 x2 x3 x4 x5 x6 x7 A n c len ∧ Bts W A n c l := by
  obtain ⟨cs, rfl, hsz⟩ := okWide_struct Tryd.underlying26 hv
  obtain ⟨l⟩ := cs
  match l, hsz.trans cellsHash with
  | [c0, c1, c2, c3, c4, c5, c6, c7, c8, c9], _ =>
    obtain ⟨fuel, hf⟩ := h
    obtain ⟨xs, n, _, hx, _, hlen, hg⟩ := DataW.trod_struct Tryd.underlying26 hf
    match xs, hlen with
    | [y0, y1, y2], _ =>
      have g0 := hg 0 _ rfl
      have g1 := hg 1 _ rfl
      have g2 := hg 2 _ rfl
      simp only [Value.cells] at g0 g1 g2
      obtain ⟨zs, m, _, _, _, hzl, hz⟩ := DataW.trod_array Tryd.underlying23 g0
      match zs, hzl with
      | [z0, z1, z2, z3, z4, z5, z6, z7], _ =>
        have e0 := hz 0 (by omega)
        have e1 := hz 1 (by omega)
        have e2 := hz 2 (by omega)
        have e3 := hz 3 (by omega)
        have e4 := hz 4 (by omega)
        have e5 := hz 5 (by omega)
        have e6 := hz 6 (by omega)
        have e7 := hz 7 (by omega)
        rw [cellsU32] at e0 e1 e2 e3 e4 e5 e6 e7
        obtain ⟨x0, rfl⟩ := open_u32 e0 rfl
        obtain ⟨x1, rfl⟩ := open_u32 e1 rfl
        obtain ⟨x2, rfl⟩ := open_u32 e2 rfl
        obtain ⟨x3, rfl⟩ := open_u32 e3 rfl
        obtain ⟨x4, rfl⟩ := open_u32 e4 rfl
        obtain ⟨x5, rfl⟩ := open_u32 e5 rfl
        obtain ⟨x6, rfl⟩ := open_u32 e6 rfl
        obtain ⟨x7, rfl⟩ := open_u32 e7 rfl
        obtain ⟨A, k, c, bs, hcs, hb⟩ := open_bytes (x := y1) g1
        obtain ⟨len, hli, _⟩ := DataW.trod_int (x := y2) Tryd.underlying3 g2
        have h8 : c8 = .slice A k c := by simpa [cellsBytes] using hcs
        have h9 : c9 = .int .i64 len := by simpa [cellsInt] using hli
        subst h8 h9
        exact ⟨x0, x1, x2, x3, x4, x5, x6, x7, A, k, c, len, bs, rfl, hb⟩
end

/-- what the row's list gives -/
theorem table {W : World} (h : laidMetH Tryd.prog Rows.shaStaysRow.laid W) : Lib.TabIs Tryd.prog W "pelican/sha.constants" .u32 kList :=
  Lib.tabIs_of_head (rest := []) gK gKType Tryd.underlying60 Tryd.underlying22 cellsU32 cells64 h
theorem ktab {W : World} (h : laidMetH Tryd.prog Rows.shaStaysRow.laid W) : KTab W := by
  have hc : ∀ j, j < 64 → W.cell? ⟨0, j, none⟩ = some (.int .u32 (kList.getD j 0)) := fun j hj => (table h).cell gK j (by simpa [kList] using hj)
  exact ⟨block_lt_of_cell (hc 0 (by omega)), hc⟩
end Go.Proofs.YtomfnnhdihbpfaaDoor
