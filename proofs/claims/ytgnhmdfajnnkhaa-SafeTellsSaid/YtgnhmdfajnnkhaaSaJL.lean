/- Joined texts: A range over a function inside an ordinary loop: each time it is come to, it lays one mark more among the deferred calls; how a function leaves with all of them. The walk over package group's May: a matrix, row by row; each row's groups by the range over a function. slices.Collect of what is handed on, one by one. The walk over the document's Sets: the greatest free ones. What package group does: six contracts that its own walks must bring; the chapter's example over them. Package group's calls: Against, Free, List, Of, Sets; with May they are all that the laws stand on. Package plan's small calls: isSpan, timed, sized, takes, served. Package plan's Fit. Pure facts of plans, for the laws. -/
import Derived.Test.YtgnhmdfajnnkhaaSaJK
import Derived.Test.YtgnhmdfajnnkhaaSaJF
import Derived.Deep.LoopGhost
import Derived.Test.YtgnhmdfajnnkhaaSaJE
/- A range over a function inside an ordinary loop: each time it is come to, it lays one mark more among the deferred calls; how a function leaves with all of them. -/
namespace Go.Proofs.Ytgnhmdfajnnkhaa
set_option linter.unusedVariables false
open Go.RowKit

/-- the marks that those ranges have laid -/
def marksOf (bs : List Nat) : List Deferred := bs.map fun D => { target := .collected D, args := #[] }
/-- their blocks, open, none twice, from B on -/
def MarksAt (B : Nat) (bs : List Nat) (W : World) : Prop := bs.Nodup ∧ ∀ D ∈ bs, B ≤ D ∧ W.heap[D]? = some (.deferred (some []))
theorem MarksAt.nil (B : Nat) (W : World) : MarksAt B [] W := ⟨List.nodup_nil, fun D h => by cases h⟩
theorem MarksAt.below {B : Nat} {bs : List Nat} {W W' : World} (h : MarksAt B bs W) (hb : Below W.heap.size W W') : MarksAt B bs W' :=
  ⟨h.1, fun D hD => ⟨(h.2 D hD).1, (hb.block D (Array.getElem?_eq_some_iff.1 (h.2 D hD).2).1).trans (h.2 D hD).2⟩⟩
theorem MarksAt.keeps {B : Nat} {bs : List Nat} {W W' : World} (h : MarksAt B bs W) (hk : KeepsOthers W W') : MarksAt B bs W' :=
  ⟨h.1, fun D hD => ⟨(h.2 D hD).1, hk.same D _ (h.2 D hD).2 rfl⟩⟩
theorem MarksAt.turn {B : Nat} {bs : List Nat} {W W' : World} {row : Option Nat} (h : MarksAt B bs W) (hg : W.grownBy W' row) (hr : ∀ r, row = some r → ∀ D ∈ bs, D ≠ r) : MarksAt B bs W' :=
  ⟨h.1, fun D hD => ⟨(h.2 D hD).1, (hg.block D (Array.getElem?_eq_some_iff.1 (h.2 D hD).2).1 (fun e => hr D e.symm D hD rfl)).trans (h.2 D hD).2⟩⟩
theorem MarksAt.lt {B : Nat} {bs : List Nat} {W : World} (h : MarksAt B bs W) : ∀ D ∈ bs, D < W.heap.size := fun D hD => (Array.getElem?_eq_some_iff.1 (h.2 D hD).2).1
theorem MarksAt.more {B D : Nat} {bs : List Nat} {W : World} (h : MarksAt B bs W) (hB : B ≤ D) (hD : W.heap[D]? = some (.deferred (some []))) (hn : ∀ E ∈ bs, E ≠ D) : MarksAt B (D :: bs) W :=
  ⟨List.nodup_cons.2 ⟨fun hm => hn D hm rfl, h.1⟩, fun E hE => by
    rcases List.mem_cons.1 hE with rfl | hE
    · exact ⟨hB, hD⟩
    · exact h.2 E hE⟩
theorem leaves_marks {P : Program} {fn : Func} {tmps : Array Value} {R : Ending → World → Prop} {n B : Nat} (I : World → Prop) (hI : OwnFrom B (fun (_ : Unit) X => I X)) (hend : ∀ X, I X → ∃ v, (results fn tmps).run P X = .ok v X ∧ R (.returned v) X) :
    ∀ (bs : List Nat) (W : World), MarksAt B bs W → I W → LeavesInM Fence.wide n P fn tmps R (marksOf bs) .returning W
  | [], W, _, hi => hend W hi
  | D :: bs, W, hm, hi => by
    obtain ⟨hB, hD⟩ := hm.2 D (List.mem_cons_self ..)
    have hnd := List.nodup_cons.1 hm.1
    refine ⟨by simp, .inl ⟨_, _, rfl, run_takeDeferred hD, ?_⟩⟩
    refine leaves_marks I hI hend bs _ ⟨hnd.2, fun E hE => ?_⟩ (hI.putObj (s := ()) _ hi hB hD rfl)
    have hne : E ≠ D := fun e => hnd.1 (e ▸ hE)
    obtain ⟨h1, h2⟩ := hm.2 E (List.mem_cons_of_mem _ hE)
    exact ⟨h1, (World.putObj_heap_other hne).trans h2⟩
end Go.Proofs.Ytgnhmdfajnnkhaa


/- The walk over package group's May: a matrix, row by row; each row's groups by the range over a function. -/
namespace Go.Proofs.Ytgnhmdfajnnkhaa
set_option maxRecDepth 100000
set_option linter.unusedVariables false
set_option linter.unusedSimpArgs false
open Go.RowKit Go.Shelf
attribute [local go_sem] Oper.semAt_some

/-- row i is a set of the groups that there are, without i; all that it has have i -/
def fineRow (m : List Int) (n i : Nat) : Prop := (0 ≤ m.getD i 0 ∧ m.getD i 0 < ((2 ^ n : Nat) : Int)) ∧ bitI (m.getD i 0) i = false ∧ ∀ g, g < n → bitI (m.getD i 0) g = true → bitI (m.getD g 0) i = true
theorem may_of_rows {m : List Int} {n : Nat} (hn : m.length = n) (h : 1 ≤ n ∧ n ≤ 8) (hr : ∀ i, i < n → fineRow m n i) : mayM m = true := by
  refine may_of_all hn h (fun k hk => (hr k hk).1) fun i hi k hk => ⟨?_, ?_⟩
  · unfold meetM
    have h1 := (hr i hi).2.2 k hk
    have h2 := (hr k hk).2.2 i hi
    cases e1 : bitI (m.getD i 0) k <;> cases e2 : bitI (m.getD k 0) i
    · rfl
    · rw [h2 e2] at e1; cases e1
    · rw [h1 e1] at e2; cases e2
    · rfl
  · rintro ⟨h1, rfl⟩
    unfold meetM at h1
    rw [(hr i hi).2.1] at h1
    cases h1
theorem may_self {m : List Int} {n i : Nat} (hn : m.length = n) (hi : i < n) (h : bitI (m.getD i 0) i = true) : mayM m = false :=
  may_not hn hi hi fun hf => hf.2 ⟨h, rfl⟩
theorem may_one {m : List Int} {n i g : Nat} (hn : m.length = n) (hi : i < n) (hg : g < n) (h1 : bitI (m.getD i 0) g = true) (h2 : bitI (m.getD g 0) i = false) : mayM m = false :=
  may_not hn hi hg fun hf => by
    have e := hf.1
    unfold meetM at e
    rw [h1, h2] at e
    cases e
theorem may_result (b : Bool) (B : Nat) (tmps : Array Value) (X : World) (hp : tmps.getD 2 undef = .pointer (some ⟨B, 0, none⟩)) (hc : X.cell? ⟨B, 0, none⟩ = some (.bool b)) : (results Try.f101 tmps).run Try.prog X = .ok (.bool b) X := by
  have hp2 : tmps[2]?.getD undef = .pointer (some ⟨B, 0, none⟩) := by simpa using hp
  simp [results, Try.results101, go_sem, hp2, hc]
theorem may_leaves {b : Bool} {w W : World} {tmps : Array Value} {R : Ending → World → Prop} (bs : List Nat) (hp : tmps.getD 2 undef = .pointer (some ⟨w.heap.size + 1, 0, none⟩)) (hm : MarksAt w.heap.size bs W) (hb : Boxed W (w.heap.size + 1) 4 (.bool b)) (hB : Below w.heap.size w W)
    (hR : ∀ X, Below w.heap.size w X → R (.returned (.bool b)) X) : LeavesInM Fence.wide 9 Try.prog Try.f101 tmps R (marksOf bs) .returning W := by
  refine leaves_marks (fun X => Boxed X (w.heap.size + 1) 4 (.bool b) ∧ Below w.heap.size w X) ?_ (fun X hX => ⟨_, may_result b _ tmps X hp hX.1.cell, hR X hX.2⟩) bs W hm ⟨hb, hB⟩
  rintro u X Y row ⟨p1, p2⟩ hg hr
  exact ⟨boxed_turn p1 hg (fun r e => (hr r e).2), p2.grown hg p2.size (fun r e => (hr r e).1)⟩
/-- ahead of row k: those ahead are fine -/
def MayInv (A : Option Addr) (n c : Nat) (m : List Int) (w : World) (ds : List Deferred) (v : Value) (X : World) : Prop :=
  ∃ (k : Nat) (bs : List Nat), k ≤ n ∧ v = .int .i64 k ∧ ds = marksOf bs ∧ MarksAt w.heap.size bs X ∧ (∀ i, i < k → fineRow m n i) ∧ Boxed X w.heap.size 40 (.slice A n c) ∧ Boxed X (w.heap.size + 1) 4 (.bool false) ∧ Below w.heap.size w X
set_option maxHeartbeats 4000000 in
theorem gmay_any (A : Option Addr) (n c : Nat) (m : List Int) (w : World) (hit : Its .i64 w A n c m) :
    Calls Try.prog 101 #[.slice A n c] w fun e w' => e = .returned (.bool (mayM m)) ∧ Below w.heap.size w w' := by
  have hn := hit.small
  have HL := Lib.hid hit.len
  have o1 := (Boxed.new w 40 (.slice A n c)).alloc (.cells #[.bool false] 4)
  have o2 := Boxed.new (w.alloc (.cells #[.slice A n c] 40)) 4 (.bool false)
  rw [World.size_alloc] at o2
  have hB0 : Below w.heap.size w ((w.alloc (.cells #[.slice A n c] 40)).alloc (.cells #[.bool false] 4)) := (one_alloc w _).alloc (by simp) _
  refine (callsIn_wide (n := 9)).1 ?_
  refine callsIn_of_wp_marks Try.func101 rfl trivial ?_ rfl
  simp only [Try.ntmps101, List.size_toArray, List.length_cons, List.length_nil, Nat.reduceAdd, Nat.reduceSub, Array.replicate_succ, Array.replicate_zero, List.push_toArray, List.append_toArray, List.nil_append, List.cons_append]
  by_cases h1 : n < 1 ∨ 8 < n
  · have HR := Lib.hid (may_short HL.out h1)
    rcases h1 with h1 | h1
    all_goals
      gi_wp2
      refine may_leaves (w := w) [] rfl (MarksAt.nil _ _) o2 hB0 (fun X hX => ⟨?_, hX⟩)
      rw [HR.out]
  · have h1a : ¬ ((n : Int) < 1) := by omega
    have h1b : ¬ (8 < (n : Int)) := by omega
    have hn1 : 1 ≤ n ∧ n ≤ 8 := by omega
    have hsz : ((w.alloc (.cells #[.slice A n c] 40)).alloc (.cells #[.bool false] 4)).heap.size = w.heap.size + 2 := by simp
    have HMY := Lib.hid (may_of_rows (m := m) HL.out hn1)
    have HIT := Lib.hid hit
    have HO1 := Lib.hid o1
    have HO2 := Lib.hid o2
    have HB0 := Lib.hid hB0
    clear hit h1 o1 o2 hB0
    gi_wp2
    obtain ⟨W0, hW0⟩ : ∃ W0, (w.alloc (.cells #[.slice A n c] 40)).alloc (.cells #[.bool false] 4) = W0 := ⟨_, rfl⟩
    rw [hW0] at HO1 HO2 HB0 hsz ⊢
    clear hW0
    refine wpIn_loop (fun a' wr => ∃ (ds : List Deferred) (u3 u4 u16 u17 u18 u19 u20 u21 u22 u23 u24 u25 u26 u27 u28 u29 u30 u31 u32 u41 : Value), MayInv A n c m w ds u16 wr ∧ a' = { tmps := #[.slice A n c, .pointer (some ⟨w.heap.size, 0, none⟩), .pointer (some ⟨w.heap.size + 1, 0, none⟩), u3, u4, undef, .slice A n c, .int .i64 n, .bool false, .bool false, .slice A n c, .int .i64 n, .bool false, .bool false, .slice A n c, .int .i64 n, u16, u17, u18, u19, u20, u21, u22, u23, u24, u25, u26, u27, u28, u29, u30, u31, u32, undef, undef, undef, undef, undef, undef, undef, undef, u41], defers := ds }) (fun a' _ => n - (intOf (a'.tmps.getD 16 undef)).toNat) ⟨_, _, _, _, _, _, _, _, _, _, _, _, _, _, _, _, _, _, _, _, _, ⟨0, [], by omega, rfl, rfl, MarksAt.nil _ _, fun i hi => by omega, HO1.out, HO2.out, HB0.out⟩, rfl⟩ ?_
    rintro a' wr ⟨ds, u3, u4, u16, u17, u18, u19, u20, u21, u22, u23, u24, u25, u26, u27, u28, u29, u30, u31, u32, u41, ⟨k, bs, hk, rfl, rfl, hm, hf, p1, p2, p3⟩, rfl⟩
    try dsimp only
    by_cases hlt : k < n
    · obtain ⟨b, off, rfl, hc⟩ := HIT.out.at_ (by omega)
      have HC := Lib.hid (fun (i : Nat) (hi : i < n) (X : World) (hX : Below w.heap.size w X) => (hX.cell (p := ⟨b, off + i, none⟩) (block_lt_of_cell (hc i hi))).trans (hc i hi))
      have z := HC.out k hlt wr p3
      obtain ⟨x, hx⟩ : ∃ x, m.getD k 0 = x := ⟨_, rfl⟩
      rw [hx] at z
      have q0 : 0 ≤ (k : Int) := by omega
      have q1 : (k : Int) < n := by omega
      have o3 := Boxed.new wr 3 (.int .i64 (k : Int))
      have y1 := p1.cell
      have e1 := (p1.alloc (.cells #[.int .i64 (k : Int)] 3)).cell
      have e2 := (p2.alloc (.cells #[.int .i64 (k : Int)] 3)).cell
      have e3 := (p2.alloc (.cells #[.int .i64 (k : Int)] 3)).frozen
      have HM := Lib.hid hm
      have HF := Lib.hid hf
      have P1 := Lib.hid p1
      have P2 := Lib.hid p2
      have P3 := Lib.hid p3
      have HO3 := Lib.hid o3
      have HSI := Lib.hid (fun X => callsIn_wide (n := 9 - 1).2 (isSet_any x n hn1.2 X))
      have HHI := Lib.hid (fun X => callsIn_wide (n := 9 - 1).2 (has_int x k (by omega) X))
      have HEND := Lib.hid (show ∀ (hmay : mayM m = false) (tmps : Array Value) (hp : tmps.getD 2 undef = .pointer (some ⟨w.heap.size + 1, 0, none⟩)), LeavesInM Fence.wide 9 Try.prog Try.f101 tmps (fun e w' => e = .returned (.bool (mayM m)) ∧ Below w.heap.size w w') (marksOf bs) .returning ((wr.alloc (.cells #[.int .i64 (k : Int)] 3)).setCell ⟨w.heap.size + 1, 0, none⟩ (.bool false)) from
        fun hmay tmps hp => may_leaves bs hp ((hm.below (one_alloc wr _)).keeps (KeepsOthers.setCell _ _ _)) ((p2.alloc _).set _) ((p3.alloc p3.size _).setCell (p := ⟨w.heap.size + 1, 0, none⟩) (Nat.le_succ _) _) (fun X hX => ⟨by rw [hmay], hX⟩))
      clear hm hf p1 p2 p3 o3 hc
      by_cases hs : 0 ≤ x ∧ x < ((2 ^ n : Nat) : Int)
      · rw [decide_eq_true hs] at HSI
        obtain ⟨t, rfl⟩ := Int.eq_ofNat_of_zero_le hs.1
        have h8 := pow_le hn1.2
        have ht : t < 2 ^ n := by omega
        cases hbk : bitI (t : Int) k
        · rw [hbk] at HHI
          have HX := Lib.hid hx
          have HS := Lib.hid hs
          have HBK := Lib.hid hbk
          clear hx hs hbk
          gi_wp2_with (first
            | (refine ⟨trivial, ?_⟩; gi_at_call 84; refine (HSI.out _).mono ?_; rintro e w1 ⟨rfl, rfl⟩)
            | (refine ⟨trivial, ?_⟩; gi_at_call 100; refine (HHI.out _).mono ?_; rintro e w1 ⟨rfl, rfl⟩)
            | (refine ⟨trivial, ?_⟩; gi_at_call 86; refine (callsIn_wide.2 (groups_any _ _)).mono ?_; rintro e w1 ⟨rfl, rfl⟩))
          obtain ⟨W1, hW1⟩ : ∃ W1, wr.alloc (.cells #[.int .i64 (k : Int)] 3) = W1 := ⟨_, rfl⟩
          have s1 : W1.heap.size = wr.heap.size + 1 := by rw [← hW1]; simp
          have o4 := Boxed.new W1 3 (.int .i64 (t : Int))
          have hB1 : Below wr.heap.size wr W1 := by rw [← hW1]; exact one_alloc wr _
          have o3 := HO3.out
          have p1 := P1.out.alloc (.cells #[.int .i64 (k : Int)] 3)
          have p2 := P2.out.alloc (.cells #[.int .i64 (k : Int)] 3)
          rw [hW1] at o3 p1 p2 ⊢
          rw [s1] at o4
          obtain ⟨W2, hW2⟩ : ∃ W2, W1.alloc (.cells #[.int .i64 (t : Int)] 3) = W2 := ⟨_, rfl⟩
          have s2 : W2.heap.size = wr.heap.size + 1 + 1 := by rw [← hW2]; simp [s1]
          have o3 := o3.alloc (.cells #[.int .i64 (t : Int)] 3)
          have p1 := p1.alloc (.cells #[.int .i64 (t : Int)] 3)
          have p2 := p2.alloc (.cells #[.int .i64 (t : Int)] 3)
          have hB2 : Below wr.heap.size wr W2 := by rw [← hW2]; exact hB1.alloc hB1.size _
          rw [hW2] at o3 o4 p1 p2 ⊢
          have p3 : Below w.heap.size w W2 := P3.out.trans (hB2.mono P3.out.size)
          have hm2 : MarksAt w.heap.size bs W2 := HM.out.below hB2
          have hlt2 := HM.out.lt
          have hin := groups_hands t (by omega) (wr.heap.size + 1) w.heap.size W2 o4
          obtain ⟨L, hL⟩ : ∃ L, listTo t 8 = L := ⟨_, rfl⟩
          have hget : ∀ j, j < L.length → ∃ i : Nat, L.getD j 0 = (i : Int) ∧ i < n ∧ bitI (t : Int) i = true := fun j hj => by
            rw [← hL] at hj ⊢
            obtain ⟨i, h1, h2, h3⟩ := list_get hj
            exact ⟨i, h1, bit_lt ht h3, by rw [bit_nat]; exact h3⟩
          have hall : ∀ g, g < n → bitI (t : Int) g = true → ∃ j, j < L.length ∧ L.getD j 0 = (g : Int) := fun g hg hbg => by
            rw [bit_nat] at hbg
            obtain ⟨h1, h2, -⟩ := list_at (by omega : g < 8) hbg
            rw [← hL]
            exact ⟨_, h1, h2⟩
          rw [hL] at hin
          clear hL hW1 hW2 hB1 s1 HHI HSI HEND
          refine range_c (w0 := W2) (gf := 99) (lb := #[.pointer (some ⟨wr.heap.size + 1, 0, none⟩)]) rfl (enters_of Try.func99 (by kernel_rfl) rfl) hin (Below.refl _ _) (fun _ => rfl) (fun h k => h.trans k)
            (fun X o o' hx hc hw => KeepB.put o' hx (by have := p3.size; omega) (fun b hb => by simp only [List.mem_cons, List.not_mem_nil, or_false] at hb; omega))
            (fun j X => (∀ j', j' < j → bitI (m.getD (L.getD j' 0).toNat 0) k = true) ∧ Below W2.heap.size W2 X) ?hI
            (fun X => mayM m = false ∧ MarksAt w.heap.size bs X ∧ Boxed X (w.heap.size + 1) 4 (.bool false) ∧ Below w.heap.size w X) ?hIx ⟨fun j' hj => by omega, Below.refl _ _⟩
            (fun j a' X => a' = { tmps := #[.slice (some ⟨b, off, none⟩) n c, .pointer (some ⟨w.heap.size, 0, none⟩), .pointer (some ⟨w.heap.size + 1, 0, none⟩), .pointer (some ⟨wr.heap.size, 0, none⟩), .int .i64 (t : Int), .int .i64 (L.getD j 0), .slice (some ⟨b, off, none⟩) n c, .int .i64 n, .bool false, .bool false, .slice (some ⟨b, off, none⟩) n c, .int .i64 n, .bool false, .bool false, .slice (some ⟨b, off, none⟩) n c, .int .i64 n, .int .i64 k, .bool true, .int .i64 k, .pointer (some ⟨b, off + k, none⟩), .int .i64 (t : Int), .int .i64 (t : Int), .slice (some ⟨b, off, none⟩) n c, .int .i64 n, .bool true, .bool false, .bool false, .int .i64 (t : Int), .int .i64 k, .bool false, .bool false, .int .i64 (t : Int), .func (.func 99) #[] #[.pointer (some ⟨wr.heap.size + 1, 0, none⟩)], .int .i64 (L.getD j 0), undef, undef, undef, undef, undef, undef, undef, u41], defers := [] }) (fun _ _ _ _ _ _ h _ _ => h) ?assign ?body ?done ?stop
          case hI =>
            rintro j X Y row ⟨h1, h2⟩ hg hr
            exact ⟨h1, h2.grown hg h2.size (fun r e => (hr r e).1)⟩
          case hIx =>
            rintro u X Y row ⟨h1, h2, h3, h4⟩ hg hr
            exact ⟨h1, h2.turn hg (fun r e D hD => by have := (hr r e).1; have := hlt2 D hD; omega), boxed_turn h3 hg (fun r e => (hr r e).2), h4.grown hg h4.size (fun r e => by have := (hr r e).1; have := p3.size; omega)⟩
          case assign =>
            rintro l j X K hj hsx p hK
            have hK2 := hK _ X (KeepsFrom.refl _ _) (KeepB.refl _ _ _) p rfl
            have HK2 := Lib.hid hK2
            obtain ⟨v, hv⟩ : ∃ v, L.getD j 0 = v := ⟨_, rfl⟩
            rw [hv] at HK2 ⊢
            clear hK2 hK hv
            gi_wp2
            exact HK2.out
          case body =>
            rintro l j a' X hj hsx ⟨h1, h2⟩ rfl
            obtain ⟨g, hg, hgn, hgb⟩ := hget j hj
            have hBX : Below w.heap.size w X := p3.trans (h2.mono p3.size)
            have z2 := HC.out g hgn X hBX
            obtain ⟨y, hy⟩ : ∃ y, m.getD g 0 = y := ⟨_, rfl⟩
            rw [hy] at z2
            have b1 := boxed_below p1 h2
            have b2 := boxed_below p2 h2
            have b3 := boxed_below o3 h2
            have hmx := hm2.below h2
            have q2 : 0 ≤ (g : Int) := by omega
            have q3 : (g : Int) < n := by omega
            have y4 := b1.cell
            have y5 := b3.cell
            have y6 := b2.cell
            have y7 := b2.frozen
            have HHI := Lib.hid (fun X => callsIn_wide (n := 9 - 1 - 1 - 1).2 (has_int y k (by omega) X))
            rw [hg]
            have hmo : Try.prog.follows .mixedOrders = true := by kernel_rfl
            cases hby : bitI y k
            · have HP := Lib.hid (show KeepsFrom W2.heap.size X ((X.drew).setCell ⟨w.heap.size + 1, 0, none⟩ (.bool false)) ∧ mayM m = false ∧ MarksAt w.heap.size bs ((X.drew).setCell ⟨w.heap.size + 1, 0, none⟩ (.bool false)) ∧ Boxed ((X.drew).setCell ⟨w.heap.size + 1, 0, none⟩ (.bool false)) (w.heap.size + 1) 4 (.bool false) ∧ Below w.heap.size w ((X.drew).setCell ⟨w.heap.size + 1, 0, none⟩ (.bool false)) from
                ⟨((KeepsOthers.drew _).trans (KeepsOthers.setCell _ _ _)).from _, may_one HL.out hlt hgn (by rw [HX.out]; exact hgb) (by rw [hy]; exact hby), hmx.keeps ((KeepsOthers.drew _).trans (KeepsOthers.setCell _ _ _)), b2.set _, hBX.drew.setCell (p := ⟨w.heap.size + 1, 0, none⟩) (Nat.le_succ _) _⟩)
              rw [hby] at HHI
              clear hg hy hgb hby h1 h2 hBX b1 b2 b3 hmx hget hall hin hm2 hlt2 o3 o4 p1 p2 hj hsx
              gi_wp2
              gi_region_with_o (refine ⟨trivial, ?_⟩; gi_at_call 100; refine (CallsIn.inRound l (HHI.out _)).mono ?_; rintro e w' ⟨rfl, rfl⟩)
              all_goals gi_wp2
              all_goals exact HP.out
            · have HP := Lib.hid (show KeepsFrom W2.heap.size X (X.drew) ∧ KeepB w.heap.size [wr.heap.size + 1] X (X.drew) ∧ (∀ j', j' < j + 1 → bitI (m.getD (L.getD j' 0).toNat 0) k = true) ∧ Below W2.heap.size W2 (X.drew) from
                ⟨(KeepsOthers.drew _).from _, ⟨(Below.refl _ X).drew, fun b _ o ho => ho⟩, fun j' hj' => by
                  by_cases e : j' = j
                  · rw [e, hg, Int.toNat_natCast, hy]; exact hby
                  · exact h1 j' (by omega), h2.drew⟩)
              rw [hby] at HHI
              clear hg hy hgb hby h1 h2 hBX b1 b2 b3 hmx hget hall hin hm2 hlt2 o3 o4 p1 p2 hj hsx
              gi_wp2
              gi_region_with_o (refine ⟨trivial, ?_⟩; gi_at_call 100; refine (CallsIn.inRound l (HHI.out _)).mono ?_; rintro e w' ⟨rfl, rfl⟩)
              all_goals gi_wp2
              all_goals exact HP.out
          case done =>
            rintro D X hD ⟨h1, h2⟩ hDD
            have HI := Lib.hid (show MayInv (some ⟨b, off, none⟩) n c m w (marksOf (D :: bs)) (.int .i64 ((k : Int) + 1)) X from
              ⟨k + 1, D :: bs, by omega, by go_num, rfl, (hm2.below h2).more (by have := p3.size; omega) hDD (fun E hE => by have := hlt2 E hE; omega), fun i hi => by
                by_cases e : i = k
                · subst e
                  refine ⟨by rw [HX.out]; exact HS.out, by rw [HX.out]; exact HBK.out, fun g hg hbg => ?_⟩
                  rw [HX.out] at hbg
                  obtain ⟨j, hj, hjg⟩ := hall g hg hbg
                  have := h1 j hj
                  rw [hjg, Int.toNat_natCast] at this
                  exact this
                · exact HF.out i (by omega), boxed_below p1 h2, boxed_below p2 h2, p3.trans (h2.mono p3.size)⟩)
            clear h1 h2 hget hall hin hm2 hlt2 o3 o4 p1 p2 hDD
            gi_wp2
            refine ⟨?_, ?measure⟩
            (repeat apply Exists.intro)
            refine ⟨?rel, rfl⟩
            case rel => exact HI.out
            case measure => simp [intOf]; omega
          case stop =>
            rintro D X hD ⟨h1, h2, h3, h4⟩ hDD
            have HP := Lib.hid (show ∀ (tmps : Array Value) (hp : tmps.getD 2 undef = .pointer (some ⟨w.heap.size + 1, 0, none⟩)), LeavesInM Fence.wide 9 Try.prog Try.f101 tmps (fun e w' => e = .returned (.bool (mayM m)) ∧ Below w.heap.size w w') (marksOf (D :: bs)) .returning X from
              fun tmps hp => may_leaves (D :: bs) hp (h2.more (by have := p3.size; omega) hDD (fun E hE => by have := hlt2 E hE; omega)) h3 h4 (fun X hX => ⟨by rw [h1], hX⟩))
            clear h1 h2 h3 h4 hget hall hin hm2 hlt2 o3 o4 p1 p2 hDD
            gi_wp2
            refine HP.out _ ?_
            rfl
        · rw [hbk] at HHI
          have HMF := Lib.hid (may_self HL.out hlt (by rw [hx]; exact hbk))
          clear hx hs hbk
          gi_wp2_with (first
            | (refine ⟨trivial, ?_⟩; gi_at_call 84; refine (HSI.out _).mono ?_; rintro e w1 ⟨rfl, rfl⟩)
            | (refine ⟨trivial, ?_⟩; gi_at_call 100; refine (HHI.out _).mono ?_; rintro e w1 ⟨rfl, rfl⟩))
          refine HEND.out HMF.out _ ?_
          rfl
      · rw [decide_eq_false hs] at HSI
        have HMF := Lib.hid (may_row HL.out hlt (by rw [hx]; omega))
        clear hx hs
        gi_wp2_with (refine ⟨trivial, ?_⟩; gi_at_call 84; refine (HSI.out _).mono ?_; rintro e w1 ⟨rfl, rfl⟩)
        refine ⟨trivial, ?_⟩
        gi_wp2
        refine HEND.out HMF.out _ ?_
        rfl
    · obtain rfl : k = n := by omega
      have HMT := Lib.hid (HMY.out hf)
      have y2 := p2.cell
      have y3 := p2.frozen
      have HM := Lib.hid hm
      have P2 := Lib.hid p2
      have P3 := Lib.hid p3
      clear hf hm p1 p2 p3
      gi_wp2
      exact may_leaves bs rfl (HM.out.keeps (KeepsOthers.setCell _ _ _)) (P2.out.set _) (P3.out.setCell (p := ⟨w.heap.size + 1, 0, none⟩) (Nat.le_succ _) _) (fun X hX => ⟨by rw [HMT.out], hX⟩)
end Go.Proofs.Ytgnhmdfajnnkhaa


/- slices.Collect of what is handed on, one by one. -/
namespace Go.Proofs.Ytgnhmdfajnnkhaa
set_option maxRecDepth 100000
set_option linter.unusedVariables false
set_option linter.unusedSimpArgs false
open Go.RowKit Go.Shelf
attribute [local go_sem] Oper.semAt_some

theorem ownI_turn {K : IntKind} {e : TypeId} {X Y : World} {base : Nat} {v : Value} {l : List Int} {row : Option Nat} (h : OwnI K e X base v l) (hg : X.grownBy Y row) (hr : ∀ r, row = some r → ∃ o : Obj, X.heap[r]? = some o ∧ o.isCells = false) : OwnI K e Y base v l := by
  refine h.far hg ?_
  rcases h.2 with ⟨hv, _⟩ | ⟨g, cap, cur, hv, _, hh, _⟩
  · left; rw [hv]; rfl
  · right
    rw [hv]
    intro e2
    obtain ⟨o, ho, hc⟩ := hr g e2.symm
    exact block_ne hh rfl ho hc rfl
def GathInv (L : List Int) (w : World) (base : Nat) (k : Nat) (X : World) : Prop :=
  (∃ v, Boxed X w.heap.size 40 v ∧ OwnI .i64 3 X base v (L.take k)) ∧ Below w.heap.size w X
set_option maxHeartbeats 2000000 in
theorem gather_own (gf : Nat) (lb : Array Value) (L : List Int) (n0 : Nat) (bs : List Nat) (w : World) (hLl : L.length ≤ 1000000) (hn0 : n0 ≤ w.heap.size) (hbs : ∀ b ∈ bs, b < w.heap.size) (eg : ∀ args w, (callFunc gf args).run Try.prog w = .ok (.enter gf args) w)
    (hin : HandsC Try.prog gf lb (fun k => #[.int .i64 (L.getD k 0)]) L.length (fun _ => KeepB n0 bs) w) :
    Calls Try.prog 98 #[.slice none 0 0, .func (.func gf) #[] lb] w (GivesO L w) := by
  refine (callsIn_wide (n := 9)).1 ?_
  refine callsIn_of_wp_marks Try.func98 rfl trivial ?_ rfl
  simp only [Try.ntmps98, List.size_toArray, List.length_cons, List.length_nil, Nat.reduceAdd, Nat.reduceSub, Array.replicate_succ, Array.replicate_zero, List.push_toArray, List.append_toArray, List.nil_append, List.cons_append]
  gi_wp2
  have o1 := Boxed.new w 40 (.slice none 0 0)
  obtain ⟨W0, hW0⟩ : ∃ W0, w.alloc (.cells #[.slice none 0 0] 40) = W0 := ⟨_, rfl⟩
  have s1 : W0.heap.size = w.heap.size + 1 := by rw [← hW0]; simp
  have hB0 : Below w.heap.size w W0 := by rw [← hW0]; exact one_alloc w _
  rw [hW0] at o1 ⊢
  clear hW0
  refine range_c (w0 := w) (gf := gf) (lb := lb) rfl eg hin hB0 (fun _ => rfl) (fun h k => h.trans k)
    (fun X o o' hx hc hw => KeepB.put o' hx (by omega) (fun b hb => by have := hbs b hb; omega))
    (GathInv L w (W0.heap.size + 1 + 1 + 1)) ?hI (fun _ => False) (fun _ _ _ _ h _ _ => h) ⟨⟨_, o1, by rw [List.take_zero]; exact OwnI.nil _ _ _ _⟩, hB0⟩
    (fun k a' X => a' = { tmps := #[.slice none 0 0, .func (.func gf) #[] lb, .pointer (some ⟨w.heap.size, 0, none⟩), undef, .slice none 0 0, .int .i64 (L.getD k 0), .func (.func gf) #[] lb, .int .i64 (L.getD k 0), undef, undef, undef, undef, undef], defers := [] }) (fun _ _ _ _ _ _ h _ _ => h) ?assign ?body ?done (fun _ _ _ h _ => h.elim)
  case hI =>
    rintro k X Y row ⟨⟨v, p1, p2⟩, p3⟩ hg hr
    exact ⟨⟨v, boxed_turn p1 hg (fun r e => (hr r e).2), ownI_turn p2 hg (fun r e => (hr r e).2)⟩, p3.grown hg p3.size (fun r e => by have := (hr r e).1; omega)⟩
  case assign =>
    rintro x k X K hk hsx p hK
    have hK2 := hK _ X (KeepsFrom.refl _ _) (KeepB.refl _ _ _) p rfl
    have HK2 := Lib.hid hK2
    obtain ⟨v, hv⟩ : ∃ v, L.getD k 0 = v := ⟨_, rfl⟩
    rw [hv] at HK2 ⊢
    clear hK2 hK hv
    gi_wp2
    exact HK2.out
  case body =>
    rintro x k a' X hk hsx ⟨⟨v, p1, p2⟩, p3⟩ rfl
    have htk : L.take (k + 1) = L.take k ++ [L.getD k 0] := by
      rw [List.take_succ_eq_append_getElem hk]
      simp [List.getD_eq_getElem?_getD, hk]
    have hkl : (L.take k).length ≤ 1000000 := by rw [List.length_take]; omega
    obtain ⟨R, hR⟩ : ∃ R, L.take k = R := ⟨_, rfl⟩
    obtain ⟨y, hy⟩ : ∃ y, L.getD k 0 = y := ⟨_, rfl⟩
    rw [hR, hy] at htk
    rw [hR] at hkl p2
    rw [hy]
    have y1 := p1.cell
    have y2 := p1.frozen
    have HT := Lib.hid htk
    have P1 := Lib.hid p1
    have P2 := Lib.hid p2
    have P3 := Lib.hid p3
    have hwX : w.heap.size < X.heap.size := p1.lt
    clear htk hR hy p1 p2 p3
    gi_wp2_with (gi_at_builtin
                 refine wpListIn_append_i rfl 40 3 .i64 8 _ _ rfl Try.underlying40 (by kernel_rfl) (by omega) (W0.heap.size + 1 + 1 + 1) v R rfl (P2.out.more _) ⟨X.heap.size, 0, none⟩ 1 1 [y] rfl (one_its .i64 3 X y) (by omega) (Nat.le_trans (Nat.succ_le_succ hsx) (by simp)) ?_
                 intro v5 X5 hown5 hg5
                 rw [← HT.out] at hown5
                 obtain ⟨A5, n5, c5, rfl, -⟩ := hown5.its
                 have b5 : Boxed X5 w.heap.size 40 v := (P1.out.alloc (.cells #[.int .i64 y] 3)).kept hg5 (fun e => by have := (P2.out.size _ e.symm).1; omega)
                 have y5 := b5.cell
                 have f5 := b5.frozen
                 have B5 := Lib.hid b5
                 have HO5 := Lib.hid hown5
                 have HG5 := Lib.hid hg5
                 clear hown5 hg5 b5)
    have hk5 : KeepsOthers X X5 := (KeepsOthers.alloc X (.cells #[.int .i64 y] 3)).trans (others_grown (P2.out.more _) HG5.out)
    have hb5 : Below w.heap.size X X5 := ((Below.refl w.heap.size X).alloc (by omega) (.cells #[.int .i64 y] 3)).grown HG5.out (by simp; omega) (fun g e => by have := (P2.out.size g e).1; omega)
    have hx5 : ∀ b, b < W0.heap.size + 1 + 1 + 1 → b < X.heap.size → X5.heap[b]? = X.heap[b]? := fun b h1 h2 =>
      (HG5.out.block b (by simp; omega) (fun e => by have := (P2.out.size b e.symm).1; omega)).trans (Below.heap_alloc X _ b h2)
    have hb0 : Below n0 X X5 := hb5.mono hn0
    refine ⟨(hk5.trans (KeepsOthers.setCell _ _ _)).from _, ⟨hb0.setCell (p := ⟨w.heap.size, 0, none⟩) hn0 _, fun b hb o ho => ?_⟩, ⟨_, B5.out.set _, own_set HO5.out (by omega)⟩, P3.out.trans (hb5.setCell (p := ⟨w.heap.size, 0, none⟩) (Nat.le_refl _) _)⟩
    have hbl := (Array.getElem?_eq_some_iff.1 ho).1
    have hbw := hbs b hb
    exact (Below.heap_setCell _ _ _ _ (by simp only; omega)).trans ((hx5 b (by omega) hbl).trans ho)
  case done =>
    rintro D X hD ⟨⟨v, p1, p2⟩, p3⟩ hDD
    have y1 := p1.cell
    rw [List.take_length] at p2
    have ho5 := ownI_turn p2 (grownBy_putObj' X D (.deferred none)) (fun r e => by cases e; exact ⟨_, hDD, rfl⟩)
    obtain ⟨A5, n5, c5, rfl, -⟩ := ho5.its
    have hen := ho5.mono (show w.heap.size ≤ W0.heap.size + 1 + 1 + 1 by omega)
    clear ho5
    have hbl := p3.grown (grownBy_putObj' X D (.deferred none)) p3.size (fun r e => by cases e; omega)
    gi_wp2
    refine ⟨by simp, .inl ⟨_, _, rfl, run_takeDeferred hDD, ?_⟩⟩
    exact ⟨_, results_tmp rfl _ _ _, A5, n5, c5, rfl, hen, hbl⟩
end Go.Proofs.Ytgnhmdfajnnkhaa


/- The walk over the document's Sets: the greatest free ones. -/
namespace Go.Proofs.Ytgnhmdfajnnkhaa
set_option maxRecDepth 100000
set_option linter.unusedVariables false
set_option linter.unusedSimpArgs false
open Go.RowKit

end Go.Proofs.Ytgnhmdfajnnkhaa


/- What package group does: six contracts that its own walks must bring; the chapter's example over them. -/
namespace Go.Proofs.Ytgnhmdfajnnkhaa
set_option maxRecDepth 100000
set_option linter.unusedVariables false
set_option linter.unusedSimpArgs false
open Go.RowKit

end Go.Proofs.Ytgnhmdfajnnkhaa


/- Package group's calls: Against, Free, List, Of, Sets; with May they are all that the laws stand on. -/
namespace Go.Proofs.Ytgnhmdfajnnkhaa
set_option maxRecDepth 100000
set_option linter.unusedVariables false
set_option linter.unusedSimpArgs false
open Go.RowKit Go.Shelf

set_option maxHeartbeats 2000000 in
theorem gagainst_any (A : Option Addr) (n c : Nat) (m : List Int) (s : Int) (w : World) (hit : Its .i64 w A n c m) :
    Calls Try.prog 104 #[.slice A n c, .int .i64 s] w fun e w' => e = .returned (.int .i64 (againstM m s)) ∧ Below w.heap.size w w' := by
  have HL := Lib.hid hit.len
  have HMY := Lib.hid (gmay_any A n c m w hit)
  cases hm : mayM m with
  | false =>
    rw [hm] at HMY
    have HR := Lib.hid (against_bad (s := s) (.inl hm))
    clear hm hit
    go_enter Try.func104, Try.ntmps104
    go_wp2_with (go_at_call 101; (with_reducible refine (HMY.out).mono ?_); rintro e w1 ⟨rfl, hb1⟩; have HB1 := Lib.hid hb1; clear hb1)
    go_ret
    exact ⟨by rw [HR.out]; rfl, HB1.out⟩
  | true =>
    rw [hm] at HMY
    obtain ⟨hn8, hrow⟩ := may_rows hit.len hm
    have h8 := pow_le hn8
    have HIS := Lib.hid (fun X => isSet_any s n hn8 X)
    by_cases hs : 0 ≤ s ∧ s < ((2 ^ n : Nat) : Int)
    · obtain ⟨t, rfl⟩ := Int.eq_ofNat_of_zero_le hs.1
      have ht : t < 2 ^ n := by omega
      rw [decide_eq_true hs] at HIS
      have HR := Lib.hid (show againstM m (t : Int) = ((orN m (listTo t 8) : Nat) : Int) by
        rw [against_some hm (by rw [HL.out]; exact ht), over_is hm (by rw [HL.out]; exact ht)])
      have HOV := Lib.hid (fun (X : World) (hX : Below w.heap.size w X) => over_any A n c m t X (hit.below hX) (fun i hi => ⟨(hrow i hi).1, by have := (hrow i hi).2; omega⟩) (by omega) ht)
      obtain ⟨O, hO⟩ : ∃ O : Int, ((orN m (listTo t 8) : Nat) : Int) = O := ⟨_, rfl⟩
      rw [hO] at HR HOV
      clear hm hit hrow hs ht hO
      go_enter Try.func104, Try.ntmps104
      go_wp2_with (first
        | (go_at_call 101; (with_reducible refine (HMY.out).mono ?_); rintro e w1 ⟨rfl, hb1⟩; have HB1 := Lib.hid hb1; clear hb1)
        | (go_at_call 84; (with_reducible refine (HIS.out _).mono ?_); rintro e w2 ⟨rfl, rfl⟩)
        | (go_at_call 105; (with_reducible refine (HOV.out _ HB1.out).mono ?_); rintro e w3 ⟨rfl, hb3⟩; have HB3 := Lib.hid (HB1.out.trans (hb3.mono HB1.out.size)); clear hb3))
      go_ret
      exact ⟨by rw [HR.out]; rfl, HB3.out⟩
    · rw [decide_eq_false hs] at HIS
      have HR := Lib.hid (against_bad (m := m) (s := s) (.inr (by rw [HL.out]; omega)))
      clear hm hit hrow hs
      go_enter Try.func104, Try.ntmps104
      go_wp2_with (first
        | (go_at_call 101; (with_reducible refine (HMY.out).mono ?_); rintro e w1 ⟨rfl, hb1⟩; have HB1 := Lib.hid hb1; clear hb1)
        | (go_at_call 84; (with_reducible refine (HIS.out _).mono ?_); rintro e w2 ⟨rfl, rfl⟩))
      go_ret
      exact ⟨by rw [HR.out]; rfl, HB1.out⟩
theorem against_cases (m : List Int) (s : Int) : (againstM m s = -1 ∧ freeM m s = false) ∨ ∃ f t : Nat, againstM m s = f ∧ s = t ∧ f < 256 ∧ t < 256 ∧ freeM m s = decide (t &&& f = 0) := by
  by_cases h : mayM m = true ∧ setM m s
  · obtain ⟨hm, hs⟩ := h
    obtain ⟨t, rfl, ht⟩ := set_nat hs
    obtain ⟨⟨-, h8⟩, -, -⟩ := may_all hm
    have h256 := pow_le h8
    refine .inr ⟨_, t, against_some hm ht, rfl, Nat.lt_of_lt_of_le (sumN_lt _ _) h256, by omega, ?_⟩
    rw [free_against hm ht, Nat.and_comm]
  · refine .inl ⟨if_neg h, decide_eq_false fun hh => h ⟨hh.1, hh.2.1⟩⟩
set_option maxHeartbeats 2000000 in
theorem gfree_any (A : Option Addr) (n c : Nat) (m : List Int) (s : Int) (w : World) (hit : Its .i64 w A n c m) :
    Calls Try.prog 103 #[.slice A n c, .int .i64 s] w fun e w' => e = .returned (.bool (freeM m s)) ∧ Below w.heap.size w w' := by
  have HAG := Lib.hid (gagainst_any A n c m s w hit)
  clear hit
  rcases against_cases m s with ⟨h1, h2⟩ | ⟨f, t, h1, rfl, hf, ht, h2⟩
  · rw [h1] at HAG
    rw [h2]
    clear h1 h2
    go_enter Try.func103, Try.ntmps103
    go_wp2_with (go_at_call 104; (with_reducible refine (HAG.out).mono ?_); rintro e w1 ⟨rfl, hb1⟩; have HB1 := Lib.hid hb1; clear hb1)
    go_ret
    exact ⟨rfl, HB1.out⟩
  · rw [h1] at HAG
    have hand := and_set t f (by omega) (by omega)
    have h0 : (0 : Int) ≤ (f : Int) := by omega
    obtain ⟨g, hg⟩ : ∃ g : Nat, t &&& f = g := ⟨_, rfl⟩
    rw [hg] at hand h2
    rw [h2]
    clear h1 h2 hg
    go_enter Try.func103, Try.ntmps103
    go_wp2_with (go_at_call 104; (with_reducible refine (HAG.out).mono ?_); rintro e w1 ⟨rfl, hb1⟩; have HB1 := Lib.hid hb1; clear hb1)
    go_ret
    refine ⟨?_, HB1.out⟩
    have e : ((g : Int) == 0) = decide (g = 0) := by rw [Bool.eq_iff_iff, beq_iff_eq, decide_eq_true_iff]; omega
    rw [← e]
    rfl
set_option maxHeartbeats 2000000 in
theorem glist_own (s : Int) (w : World) : Calls Try.prog 74 #[.int .i64 s] w (GivesO (listM s) w) := by
  have HIS := Lib.hid (show ∀ X : World, Calls Try.prog 84 #[.int .i64 s, .int .i64 8] X fun e w' => e = .returned (.bool (decide (0 ≤ s ∧ s < ((2 ^ 8 : Nat) : Int)))) ∧ X = w' from fun X => isSet_any s 8 (by omega) X)
  by_cases hs : 0 ≤ s ∧ s < ((2 ^ 8 : Nat) : Int)
  · rw [decide_eq_true hs] at HIS
    obtain ⟨t, rfl⟩ := Int.eq_ofNat_of_zero_le hs.1
    have ht : t < 256 := by omega
    have hla := list_all ht
    have hll := list_len t 8
    have HCO := Lib.hid (show ∀ X : World, Calls Try.prog 85 #[.func (.func 99) #[] #[.pointer (some ⟨X.heap.size, 0, none⟩)]] (X.alloc (.cells #[.int .i64 (t : Int)] 3)) (GivesO (listM (t : Int)) (X.alloc (.cells #[.int .i64 (t : Int)] 3))) from fun X => by
      have hg := gather_own 99 #[.pointer (some ⟨X.heap.size, 0, none⟩)] (listTo t 8) X.heap.size [X.heap.size] (X.alloc (.cells #[.int .i64 (t : Int)] 3)) (by omega) (by simp) (fun b hb => by simp only [List.mem_cons, List.not_mem_nil, or_false] at hb; simp; omega) (enters_of Try.func99 (by kernel_rfl) rfl)
        (groups_hands t ht X.heap.size X.heap.size _ (Boxed.new X 3 (.int .i64 (t : Int))))
      rw [hla] at hg
      obtain ⟨Y, hY⟩ : ∃ Y, X.alloc (.cells #[.int .i64 (t : Int)] 3) = Y := ⟨_, rfl⟩
      rw [hY] at hg ⊢
      have HG := Lib.hid hg
      clear hg hla hll hY hs
      go_enter Try.func85, Try.ntmps85
      go_wp2_with (go_at_call 98; (with_reducible refine (HG.out).mono ?_); rintro e w1 ⟨A1, n1, c1, rfl, hit1, hb1⟩; have HB1 := Lib.hid hb1; have HI1 := Lib.hid hit1; clear hb1 hit1)
      go_ret
      exact ⟨_, _, _, rfl, HI1.out, HB1.out⟩)
    clear hs hla hll ht
    go_enter Try.func74, Try.ntmps74
    go_wp2_with (first
      | (go_at_call 84; (with_reducible refine (HIS.out _).mono ?_); rintro e w2 ⟨rfl, rfl⟩)
      | (go_at_call 86; (with_reducible refine (groups_any _ _).mono ?_); rintro e w2 ⟨rfl, rfl⟩)
      | (go_at_call 85; (with_reducible refine (HCO.out _).mono ?_); rintro e w1 ⟨A1, n1, c1, rfl, hit1, hb1⟩; have HB1 := Lib.hid hb1; have HI1 := Lib.hid hit1; clear hb1 hit1))
    go_ret
    exact ⟨_, _, _, rfl, HI1.out.mono (size_le_alloc _ _), (one_alloc w _).trans (HB1.out.mono (size_le_alloc _ _))⟩
  · rw [decide_eq_false hs] at HIS
    have HR := Lib.hid (show listM s = [] by rw [listM, if_neg (by omega)])
    clear hs
    go_enter Try.func74, Try.ntmps74
    go_wp2_with (go_at_call 84; (with_reducible refine (HIS.out _).mono ?_); rintro e w2 ⟨rfl, rfl⟩)
    go_ret
    exact ⟨none, 0, 0, rfl, by rw [HR.out]; exact OwnI.nil _ _ _ _, Below.refl _ _⟩
end Go.Proofs.Ytgnhmdfajnnkhaa


/- Package plan's small calls: isSpan, timed, sized, takes, served. -/
namespace Go.Proofs.Ytgnhmdfajnnkhaa
set_option maxRecDepth 100000
set_option linter.unusedVariables false
set_option linter.unusedSimpArgs false
open Go.RowKit

def isSpanB (x : Int) : Bool := decide (1 ≤ x) && decide (x ≤ 200)
theorem isSpan_any (x : Int) (w : World) : Calls Try.prog 102 #[.int .i64 x] w fun e w' => e = .returned (.bool (isSpanB x)) ∧ w = w' := by
  rw [isSpanB]
  by_cases h1 : 1 ≤ x
  · rw [decide_eq_true h1]
    go_enter Try.func102, Try.ntmps102
    go_wp2
    go_ret
    exact ⟨rfl, rfl⟩
  · rw [decide_eq_false h1]
    go_enter Try.func102, Try.ntmps102
    go_wp2
    go_ret
    exact ⟨rfl, rfl⟩
/-- the cells of a draft's block -/
theorem draft_new (w : World) (p : Pl) (X : World) (hX : Below (w.heap.size + 1) (w.alloc (.cells #[.slice p.A p.n p.c, .slice p.B p.k p.d, .int .i64 p.am, .int .i64 p.rd, .int .i64 p.hd] 97)) X) :
    X.cell? ⟨w.heap.size, 0, none⟩ = some (.slice p.A p.n p.c) ∧ X.cell? ⟨w.heap.size, 1, none⟩ = some (.slice p.B p.k p.d) ∧ X.cell? ⟨w.heap.size, 2, none⟩ = some (.int .i64 p.am) ∧ X.cell? ⟨w.heap.size, 3, none⟩ = some (.int .i64 p.rd) ∧ X.cell? ⟨w.heap.size, 4, none⟩ = some (.int .i64 p.hd) := by
  have h := (hX.block w.heap.size (by omega)).trans (heap_alloc_new w (.cells #[.slice p.A p.n p.c, .slice p.B p.k p.d, .int .i64 p.am, .int .i64 p.rd, .int .i64 p.hd] 97))
  exact ⟨(cell_of_row _ _ _ _ _ _ h).trans rfl, (cell_of_row _ _ _ _ _ _ h).trans rfl, (cell_of_row _ _ _ _ _ _ h).trans rfl, (cell_of_row _ _ _ _ _ _ h).trans rfl, (cell_of_row _ _ _ _ _ _ h).trans rfl⟩
set_option maxHeartbeats 4000000 in
theorem sized_any (p : Pl) (w : World) (hp : PlIn w p) : Calls Try.prog 87 #[plV p] w fun e w' => e = .returned (.bool (mayM p.m && decide (2 ≤ p.s.length ∧ p.s.length ≤ 6))) ∧ Below w.heap.size w w' := by
  have hsk := hp.s.small
  have hSL := hp.s.len
  have hD := draft_new w p
  simp only [plV]
  obtain ⟨W0, hW0⟩ : ∃ W0, w.alloc (.cells #[.slice p.A p.n p.c, .slice p.B p.k p.d, .int .i64 p.am, .int .i64 p.rd, .int .i64 p.hd] 97) = W0 := ⟨_, rfl⟩
  have hB0 : Below w.heap.size w W0 := by rw [← hW0]; exact one_alloc w _
  have hs0 : W0.heap.size = w.heap.size + 1 := by rw [← hW0]; simp
  rw [hW0, ← hs0] at hD
  have HD := Lib.hid hD
  have HW := Lib.hid hW0
  have HB0 := Lib.hid hB0
  have HMY := Lib.hid (gmay_any p.A p.n p.c p.m W0 (hp.m.below hB0))
  rw [hSL]
  clear hD hW0 hB0 hs0 hp hSL
  obtain ⟨A, n, c, m, B, k, d, s, am, rd, hd⟩ := p
  simp only at *
  cases hm : mayM m with
  | false =>
    rw [hm] at HMY
    clear hm
    go_enter Try.func87, Try.ntmps87
    go_wp2_with (go_at_call 101; rw [HW.out]; (with_reducible refine (HMY.out).mono ?_); rintro e w1 ⟨rfl, hb1⟩; have HB1 := Lib.hid (HB0.out.trans (hb1.mono HB0.out.size)); clear hb1)
    go_ret
    exact ⟨rfl, HB1.out⟩
  | true =>
    rw [hm] at HMY
    clear hm
    by_cases h2 : 2 ≤ k
    · by_cases h6 : k ≤ 6
      · have q2 : (2 : Int) ≤ k := by omega
        have q6 : (k : Int) ≤ 6 := by omega
        have HR := Lib.hid (show decide (2 ≤ k ∧ k ≤ 6) = true from decide_eq_true ⟨h2, h6⟩)
        go_enter Try.func87, Try.ntmps87
        go_wp2_with (go_at_call 101; rw [HW.out]; (with_reducible refine (HMY.out).mono ?_); rintro e w1 ⟨rfl, hb1⟩; obtain ⟨a0, a1, a2, a3, a4⟩ := HD.out w1 hb1; have HB1 := Lib.hid (HB0.out.trans (hb1.mono HB0.out.size)); clear hb1)
        go_ret
        exact ⟨by first | rfl | (rw [HR.out]; rfl) | (rw [HR.out, decide_eq_true q6]; rfl) | (rw [HR.out, show decide ((k : Int) ≤ 6) = false from decide_eq_false (by omega)]; rfl), HB1.out⟩
      · have q2 : (2 : Int) ≤ k := by omega
        have q6 : ¬ ((k : Int) ≤ 6) := by omega
        have HR := Lib.hid (show decide (2 ≤ k ∧ k ≤ 6) = false from decide_eq_false (fun h => h6 h.2))
        go_enter Try.func87, Try.ntmps87
        go_wp2_with (go_at_call 101; rw [HW.out]; (with_reducible refine (HMY.out).mono ?_); rintro e w1 ⟨rfl, hb1⟩; obtain ⟨a0, a1, a2, a3, a4⟩ := HD.out w1 hb1; have HB1 := Lib.hid (HB0.out.trans (hb1.mono HB0.out.size)); clear hb1)
        go_ret
        exact ⟨by first | rfl | (rw [HR.out]; rfl) | (rw [HR.out, decide_eq_true q6]; rfl) | (rw [HR.out, show decide ((k : Int) ≤ 6) = false from decide_eq_false (by omega)]; rfl), HB1.out⟩
    · have q2 : ¬ ((2 : Int) ≤ k) := by omega
      have HR := Lib.hid (show decide (2 ≤ k ∧ k ≤ 6) = false from decide_eq_false (fun h => h2 h.1))
      go_enter Try.func87, Try.ntmps87
      go_wp2_with (go_at_call 101; rw [HW.out]; (with_reducible refine (HMY.out).mono ?_); rintro e w1 ⟨rfl, hb1⟩; obtain ⟨a0, a1, a2, a3, a4⟩ := HD.out w1 hb1; have HB1 := Lib.hid (HB0.out.trans (hb1.mono HB0.out.size)); clear hb1)
      go_ret
      exact ⟨by first | rfl | (rw [HR.out]; rfl), HB1.out⟩
theorem span_two (p : Pl) : spanB p = (isSpanB p.am && (isSpanB p.rd && (decide (0 ≤ p.hd) && decide (p.hd ≤ 300)))) := by
  simp only [spanB, isSpanB, Bool.and_assoc]
set_option maxHeartbeats 4000000 in
theorem timed_any (p : Pl) (w : World) : Calls Try.prog 88 #[plV p] w fun e w' => e = .returned (.bool (spanB p)) ∧ Below w.heap.size w w' := by
  have HB0 := Lib.hid (one_alloc w (.cells #[.slice p.A p.n p.c, .slice p.B p.k p.d, .int .i64 p.am, .int .i64 p.rd, .int .i64 p.hd] 97))
  have HS1 := Lib.hid (fun X => isSpan_any p.am X)
  have HS2 := Lib.hid (fun X => isSpan_any p.rd X)
  rw [span_two]
  simp only [plV]
  obtain ⟨A, n, c, m, B, k, d, s, am, rd, hd⟩ := p
  simp only at *
  obtain ⟨b1, h1⟩ : ∃ b, isSpanB am = b := ⟨_, rfl⟩
  obtain ⟨b2, h2⟩ : ∃ b, isSpanB rd = b := ⟨_, rfl⟩
  rw [h1] at HS1 ⊢
  rw [h2] at HS2 ⊢
  clear h1 h2
  cases b1
  · go_enter Try.func88, Try.ntmps88
    go_wp2_with (go_at_call 102; (with_reducible refine (HS1.out _).mono ?_); rintro e w1 ⟨rfl, rfl⟩)
    go_ret
    exact ⟨rfl, HB0.out⟩
  · cases b2
    · go_enter Try.func88, Try.ntmps88
      go_wp2_with (go_at_call 102; first | ((with_reducible refine (HS1.out _).mono ?_); rintro e w1 ⟨rfl, rfl⟩; clear HS1) | ((with_reducible refine (HS2.out _).mono ?_); rintro e w1 ⟨rfl, rfl⟩))
      go_ret
      exact ⟨rfl, HB0.out⟩
    · by_cases h0 : 0 ≤ hd
      · rw [decide_eq_true h0]
        go_enter Try.func88, Try.ntmps88
        go_wp2_with (go_at_call 102; first | ((with_reducible refine (HS1.out _).mono ?_); rintro e w1 ⟨rfl, rfl⟩; clear HS1) | ((with_reducible refine (HS2.out _).mono ?_); rintro e w1 ⟨rfl, rfl⟩))
        go_ret
        exact ⟨rfl, HB0.out⟩
      · rw [decide_eq_false h0]
        go_enter Try.func88, Try.ntmps88
        go_wp2_with (go_at_call 102; first | ((with_reducible refine (HS1.out _).mono ?_); rintro e w1 ⟨rfl, rfl⟩; clear HS1) | ((with_reducible refine (HS2.out _).mono ?_); rintro e w1 ⟨rfl, rfl⟩))
        go_ret
        exact ⟨rfl, HB0.out⟩
theorem stage_order (m : List Int) (x : Stg) : stageB m x = (decide (x.g ≠ 0) && (freeM m x.g && (isSpanB x.mn && (decide (x.mn ≤ x.mx) && decide (x.mx ≤ 200))))) := by
  simp only [stageB, isSpanB, Bool.and_assoc]
  cases freeM m x.g <;> simp
theorem stg_new (w : World) (x : Stg) (X : World) (hX : Below (w.heap.size + 1) (w.alloc (.cells #[.int .i64 x.g, .int .i64 x.mn, .int .i64 x.mx] 71)) X) :
    X.cell? ⟨w.heap.size, 0, none⟩ = some (.int .i64 x.g) ∧ X.cell? ⟨w.heap.size, 1, none⟩ = some (.int .i64 x.mn) ∧ X.cell? ⟨w.heap.size, 2, none⟩ = some (.int .i64 x.mx) := by
  have h := (hX.block w.heap.size (by omega)).trans (heap_alloc_new w (.cells #[.int .i64 x.g, .int .i64 x.mn, .int .i64 x.mx] 71))
  exact ⟨(cell_of_row _ _ _ _ _ _ h).trans rfl, (cell_of_row _ _ _ _ _ _ h).trans rfl, (cell_of_row _ _ _ _ _ _ h).trans rfl⟩
set_option maxHeartbeats 4000000 in
theorem takes_any (p : Pl) (x : Stg) (w : World) (hp : PlIn w p) : Calls Try.prog 90 #[plV p, .agg #[.int .i64 x.g, .int .i64 x.mn, .int .i64 x.mx]] w fun e w' => e = .returned (.bool (stageB p.m x)) ∧ Below w.heap.size w w' := by
  rw [stage_order]
  simp only [plV]
  obtain ⟨V, hV⟩ : ∃ V, w.alloc (.cells #[.slice p.A p.n p.c, .slice p.B p.k p.d, .int .i64 p.am, .int .i64 p.rd, .int .i64 p.hd] 97) = V := ⟨_, rfl⟩
  have hBV : Below w.heap.size w V := by rw [← hV]; exact one_alloc w _
  have hsV : V.heap.size = w.heap.size + 1 := by rw [← hV]; simp
  have hD := stg_new V x
  obtain ⟨W0, hW0⟩ : ∃ W0, V.alloc (.cells #[.int .i64 x.g, .int .i64 x.mn, .int .i64 x.mx] 71) = W0 := ⟨_, rfl⟩
  have hB0 : Below w.heap.size w W0 := hBV.trans (by rw [← hW0]; exact (one_alloc V _).mono (by omega))
  have hs0 : W0.heap.size = V.heap.size + 1 := by rw [← hW0]; simp
  rw [hW0, ← hs0, hsV] at hD
  rw [← hV] at hW0
  have HD := Lib.hid hD
  have HW := Lib.hid hW0
  have HB0 := Lib.hid hB0
  have HFR := Lib.hid (gfree_any p.A p.n p.c p.m x.g W0 (hp.m.below hB0))
  have HS1 := Lib.hid (fun X => isSpan_any x.mn X)
  clear hD hW0 hV hBV hsV hB0 hs0 hp
  obtain ⟨A, n, c, m, B, k, d, s, am, rd, hd⟩ := p
  obtain ⟨g, mn, mx⟩ := x
  simp only at *
  obtain ⟨F, hF⟩ : ∃ F, freeM m g = F := ⟨_, rfl⟩
  obtain ⟨b1, h1⟩ : ∃ b, isSpanB mn = b := ⟨_, rfl⟩
  rw [hF] at HFR ⊢
  rw [h1] at HS1 ⊢
  clear hF h1 V
  by_cases h0 : g = 0
  · subst h0
    go_enter Try.func90, Try.ntmps90
    go_wp2
    go_ret
    exact ⟨by first | rfl | simp, by have := HW.out; first | (rw [this]; exact HB0.out) | exact HB0.out⟩
  · have hne : (g != 0) = true := by rw [bne_iff_ne]; exact h0
    have hdc : decide (g ≠ 0) = true := decide_eq_true h0
    rw [hdc]
    cases F
    · go_enter Try.func90, Try.ntmps90
      go_wp2_with (first
        | (go_at_call 103; rw [HW.out]; (with_reducible refine (HFR.out).mono ?_); rintro e w1 ⟨rfl, hb1⟩; obtain ⟨a0, a1, a2⟩ := HD.out w1 hb1; have HB1 := Lib.hid (HB0.out.trans (hb1.mono HB0.out.size)); clear hb1)
        | (go_at_call 102; (with_reducible refine (HS1.out _).mono ?_); rintro e w2 ⟨rfl, rfl⟩))
      go_ret
      exact ⟨rfl, HB1.out⟩
    · cases b1
      · go_enter Try.func90, Try.ntmps90
        go_wp2_with (first
        | (go_at_call 103; rw [HW.out]; (with_reducible refine (HFR.out).mono ?_); rintro e w1 ⟨rfl, hb1⟩; obtain ⟨a0, a1, a2⟩ := HD.out w1 hb1; have HB1 := Lib.hid (HB0.out.trans (hb1.mono HB0.out.size)); clear hb1)
        | (go_at_call 102; (with_reducible refine (HS1.out _).mono ?_); rintro e w2 ⟨rfl, rfl⟩))
        go_ret
        exact ⟨rfl, HB1.out⟩
      · by_cases h3 : mn ≤ mx
        · rw [decide_eq_true h3]
          go_enter Try.func90, Try.ntmps90
          go_wp2_with (first
        | (go_at_call 103; rw [HW.out]; (with_reducible refine (HFR.out).mono ?_); rintro e w1 ⟨rfl, hb1⟩; obtain ⟨a0, a1, a2⟩ := HD.out w1 hb1; have HB1 := Lib.hid (HB0.out.trans (hb1.mono HB0.out.size)); clear hb1)
        | (go_at_call 102; (with_reducible refine (HS1.out _).mono ?_); rintro e w2 ⟨rfl, rfl⟩))
          go_ret
          exact ⟨rfl, HB1.out⟩
        · rw [decide_eq_false h3]
          go_enter Try.func90, Try.ntmps90
          go_wp2_with (first
        | (go_at_call 103; rw [HW.out]; (with_reducible refine (HFR.out).mono ?_); rintro e w1 ⟨rfl, hb1⟩; obtain ⟨a0, a1, a2⟩ := HD.out w1 hb1; have HB1 := Lib.hid (HB0.out.trans (hb1.mono HB0.out.size)); clear hb1)
        | (go_at_call 102; (with_reducible refine (HS1.out _).mono ?_); rintro e w2 ⟨rfl, rfl⟩))
          go_ret
          exact ⟨rfl, HB1.out⟩
def OrTo (s : List Stg) (n k : Nat) (o : Int) : Prop := (∀ x ∈ s, 0 ≤ x.g ∧ x.g < ((2 ^ n : Nat) : Int)) → ∃ t : Nat, o = (t : Int) ∧ t < 2 ^ n ∧ ∀ i, t.testBit i = someTo s i k
theorem orTo_zero (s : List Stg) (n : Nat) : OrTo s n 0 0 := fun _ => ⟨0, rfl, Nat.pow_pos (by omega), fun i => by rw [some_zero, Nat.zero_testBit]⟩
theorem orTo_next {s : List Stg} {n k : Nat} {o : Int} (hn : n ≤ 8) (hk : k < s.length) (h : OrTo s n k o) : OrTo s n (k + 1) (bits .or .i64 o (s.getD k Stg.zero).g) := fun hq => by
  obtain ⟨t, rfl, ht, hb⟩ := h hq
  have hmem : s.getD k Stg.zero ∈ s := by rw [List.getD_eq_getElem?_getD, List.getElem?_eq_getElem hk]; exact List.getElem_mem hk
  obtain ⟨g0, g1⟩ := hq _ hmem
  have hnx := fun i => some_next (s := s) i hk
  obtain ⟨x, hx⟩ : ∃ x, (s.getD k Stg.zero).g = x := ⟨_, rfl⟩
  rw [hx] at g0 g1 ⊢
  simp only [hx] at hnx
  obtain ⟨u, rfl⟩ := Int.eq_ofNat_of_zero_le g0
  have hu : u < 2 ^ n := by omega
  have h8 := pow_le hn
  refine ⟨t ||| u, or_set t u (by omega) (by omega), Nat.or_lt_two_pow ht hu, fun i => ?_⟩
  rw [Nat.testBit_or, hb, hnx, bit_nat]
theorem orTo_end {s : List Stg} {n : Nat} {o : Int} (h : OrTo s n s.length o) (hq : ∀ x ∈ s, 0 ≤ x.g ∧ x.g < ((2 ^ n : Nat) : Int)) : (o == ((2 ^ n : Nat) : Int) - 1) = (List.range n).all (someB s) := by
  obtain ⟨t, rfl, ht, hb⟩ := h hq
  simp only [some_all] at hb
  rw [Bool.eq_iff_iff, beq_iff_eq, List.all_eq_true]
  constructor
  · intro e i hi
    have e2 : t = 2 ^ n - 1 := by omega
    rw [← hb, e2, Nat.testBit_two_pow_sub_one]
    exact decide_eq_true (List.mem_range.1 hi)
  · intro hall
    have e2 : t = 2 ^ n - 1 := Nat.eq_of_testBit_eq fun i => by
      rw [Nat.testBit_two_pow_sub_one]
      by_cases hi : i < n
      · rw [decide_eq_true hi, hb]
        exact hall i (List.mem_range.2 hi)
      · rw [decide_eq_false hi]
        exact Nat.testBit_lt_two_pow (Nat.lt_of_lt_of_le ht (Nat.pow_le_pow_right (by omega) (by omega)))
    omega
def orAt (s : List Stg) : Nat → Int
  | 0 => 0
  | k + 1 => bits .or .i64 (orAt s k) (s.getD k Stg.zero).g
theorem orAt_to (s : List Stg) (n : Nat) (hn : n ≤ 8) : ∀ k, k ≤ s.length → OrTo s n k (orAt s k)
  | 0, _ => orTo_zero s n
  | k + 1, h => orTo_next hn (by omega) (orAt_to s n hn k (by omega))
def servedB (s : List Stg) (n : Nat) : Bool := orAt s s.length == ((2 ^ n : Nat) : Int) - 1
theorem served_all {s : List Stg} {n : Nat} (hn : n ≤ 8) (hq : ∀ x ∈ s, 0 ≤ x.g ∧ x.g < ((2 ^ n : Nat) : Int)) : servedB s n = (List.range n).all (someB s) := orTo_end (orAt_to s n hn _ (Nat.le_refl _)) hq
set_option maxHeartbeats 4000000 in
theorem served_any (p : Pl) (w : World) (hp : PlIn w p) (hn8 : p.n ≤ 8) : Calls Try.prog 89 #[plV p] w fun e w' => e = .returned (.bool (servedB p.s p.n)) ∧ Below w.heap.size w w' := by
  have hsk := hp.s.small
  have HSL := Lib.hid hp.s.len
  have h8 := pow_le hn8
  have hD := draft_new w p
  simp only [plV]
  obtain ⟨W0, hW0⟩ : ∃ W0, w.alloc (.cells #[.slice p.A p.n p.c, .slice p.B p.k p.d, .int .i64 p.am, .int .i64 p.rd, .int .i64 p.hd] 97) = W0 := ⟨_, rfl⟩
  have hB0 : Below w.heap.size w W0 := by rw [← hW0]; exact one_alloc w _
  have hs0 : W0.heap.size = w.heap.size + 1 := by rw [← hW0]; simp
  rw [hW0, ← hs0] at hD
  have HD := Lib.hid hD
  have HW := Lib.hid hW0
  have HB0 := Lib.hid hB0
  have HST := Lib.hid (hp.s.below hB0)
  obtain ⟨a0, a1, a2, a3, a4⟩ := hD W0 (Below.refl _ _)
  clear hD hW0 hB0 hs0 hp
  obtain ⟨A, n, c, m, B, k, d, s, am, rd, hd⟩ := p
  simp only at *
  obtain ⟨P, hP⟩ : ∃ P : Nat, 2 ^ n = P := ⟨_, rfl⟩
  have hPi : (2 : Int) ^ n = (P : Int) := by rw [pow_int, hP]
  have hpos : 0 < P := by rw [← hP]; exact Nat.pow_pos (by omega)
  have hw : IntKind.i64.wrap (1 * (2 : Int) ^ n) = (P : Int) := by rw [hPi, IntKind.wrap_i64]; rw [hP] at h8; omega
  go_enter Try.func89, Try.ntmps89
  go_wp2
  rw [HW.out]
  go_loopw [3, 5, 10] (fun o y v wr => ∃ j : Nat, ∃ x : Int, j ≤ k ∧ v = .int .i64 j ∧ o = .int .i64 x ∧ orAt s j = x ∧ Below W0.heap.size W0 wr) (fun _ _ v _ => k - (intOf v).toNat)
  case atStart => exact ⟨0, 0, by omega, rfl, rfl, rfl, Below.refl _ _⟩
  case round =>
    obtain ⟨j, o, hj, rfl, rfl, hor, hbw⟩ := hrel
    have HBW := Lib.hid hbw
    have HOR := Lib.hid hor
    by_cases hlt : j < k
    · have q1 : (j : Int) < k := by omega
      have q0 : 0 ≤ (j : Int) := by omega
      obtain ⟨b, off, x, rfl, hx, -, -, z0, z1, z2⟩ := (HST.out.below hbw).at_ j hlt
      have HN := Lib.hid (show orAt s (j + 1) = bits .or .i64 o x.g by rw [orAt, hor, hx])
      obtain ⟨g, mn, mx⟩ := x
      simp only at z0 z1 z2 HN
      have HB1 := Lib.hid (hbw.trans ((one_alloc wr (.cells #[.int .i64 g, .int .i64 mn, .int .i64 mx] 71)).mono hbw.size))
      clear hbw hor hx
      go_wp2
      go_roundw
      case rel => exact ⟨j + 1, _, by omega, by go_num, rfl, HN.out, HB1.out⟩
      case measure => simp [intOf]; omega
    · obtain rfl : j = k := by omega
      have hge : ¬ ((j : Int) < j) := by omega
      obtain ⟨a0, a1, a2, a3, a4⟩ := HD.out wr hbw
      have HE := Lib.hid (show servedB s n = (o == (P : Int) - 1) by rw [servedB, HSL.out, hor, hP])
      clear hbw hor
      go_wp2
      go_ret
      exact ⟨by rw [HE.out]; rfl, HB0.out.trans (HBW.out.mono HB0.out.size)⟩
end Go.Proofs.Ytgnhmdfajnnkhaa


/- Package plan's Fit. -/
namespace Go.Proofs.Ytgnhmdfajnnkhaa
set_option maxRecDepth 100000
set_option linter.unusedVariables false
set_option linter.unusedSimpArgs false
open Go.RowKit

theorem fit_sized {p : Pl} (h : (mayM p.m && decide (2 ≤ p.s.length ∧ p.s.length ≤ 6)) = false) : fitP p = false := by
  rw [fitP, ← Bool.and_assoc, h, Bool.false_and]
theorem fit_span {p : Pl} (h : spanB p = false) : fitP p = false := by
  rw [fitP, h]; simp
theorem stages_in {p : Pl} (hs : ∀ x ∈ p.s, stageB p.m x = true) : ∀ x ∈ p.s, 0 ≤ x.g ∧ x.g < ((2 ^ p.m.length : Nat) : Int) := fun x hx => by
  obtain ⟨-, ⟨g0, g1⟩, -⟩ := free_iff.1 (stage_iff.1 (hs x hx)).1
  rw [pow_int] at g1
  exact ⟨g0, g1⟩
theorem fit_served {p : Pl} (h : servedB p.s p.m.length = false) : fitP p = false := not_fit fun hf => by
  obtain ⟨⟨-, h8⟩, -, -⟩ := may_all hf.may
  rw [served_all h8 (stages_in fun x hx => stage_iff.2 (hf.stage x hx))] at h
  rw [List.all_eq_false] at h
  obtain ⟨i, hi, hno⟩ := h
  exact hno (some_iff.2 (hf.some i (List.mem_range.1 hi)))
theorem fit_yes {p : Pl} (h1 : (mayM p.m && decide (2 ≤ p.s.length ∧ p.s.length ≤ 6)) = true) (h2 : spanB p = true) (h3 : servedB p.s p.m.length = true) (hs : ∀ j, j < p.s.length → stageB p.m (p.s.getD j Stg.zero) = true) : fitP p = true := by
  rw [Bool.and_eq_true, decide_eq_true_eq] at h1
  obtain ⟨hm, h4, h6⟩ := h1
  obtain ⟨⟨-, h8⟩, -, -⟩ := may_all hm
  have hall : ∀ x ∈ p.s, stageB p.m x = true := fun x hx => by
    obtain ⟨j, hj, rfl⟩ := List.getElem_of_mem hx
    have := hs j hj
    rwa [List.getD_eq_getElem?_getD, List.getElem?_eq_getElem hj] at this
  rw [served_all h8 (stages_in hall)] at h3
  rw [fit_rest hm h4 h6 hs (fun i hi => List.all_eq_true.1 h3 i (List.mem_range.2 hi)), h2]
set_option maxHeartbeats 8000000 in
theorem fits_any (p : Pl) (w : World) (hp : PlIn w p) : Calls Try.prog 75 #[plV p] w fun e w' => e = .returned (.bool (fitP p)) ∧ Below w.heap.size w w' := by
  have hsk := hp.s.small
  have hML := hp.m.len
  have HSL := Lib.hid hp.s.len
  have hD := draft_new w p
  obtain ⟨W0, hW0⟩ : ∃ W0, w.alloc (.cells #[.slice p.A p.n p.c, .slice p.B p.k p.d, .int .i64 p.am, .int .i64 p.rd, .int .i64 p.hd] 97) = W0 := ⟨_, rfl⟩
  have hB0 : Below w.heap.size w W0 := by rw [← hW0]; exact one_alloc w _
  have hs0 : W0.heap.size = w.heap.size + 1 := by rw [← hW0]; simp
  rw [hW0, ← hs0] at hD
  have hp0 : PlIn W0 p := hp.below hB0
  have HD := Lib.hid hD
  have HW := Lib.hid hW0
  have HB0 := Lib.hid hB0
  have HSZ := Lib.hid (sized_any p W0 hp0)
  have HTM := Lib.hid (fun X => timed_any p X)
  have HTK := Lib.hid (fun (x : Stg) (X : World) (hX : Below W0.heap.size W0 X) => takes_any p x X (hp0.below hX))
  have HST := Lib.hid (hp0.s)
  have HFS := Lib.hid (fun j => fit_stage (p := p) (j := j))
  obtain ⟨b1, h1⟩ : ∃ b, (mayM p.m && decide (2 ≤ p.s.length ∧ p.s.length ≤ 6)) = b := ⟨_, rfl⟩
  obtain ⟨b2, h2⟩ : ∃ b, spanB p = b := ⟨_, rfl⟩
  have HSV := Lib.hid (show b1 = true → ∀ X, Below W0.heap.size W0 X → Calls Try.prog 89 #[plV p] X fun e w' => e = .returned (.bool (servedB p.s p.m.length)) ∧ Below X.heap.size X w' from fun hb X hX => by
    rw [hML]
    refine served_any p X (hp0.below hX) ?_
    rw [hb, Bool.and_eq_true] at h1
    obtain ⟨⟨-, h8⟩, -, -⟩ := may_all h1.1
    omega)
  obtain ⟨b3, h3⟩ : ∃ b, servedB p.s p.m.length = b := ⟨_, rfl⟩
  have HZ := Lib.hid (fit_sized (p := p))
  have HS := Lib.hid (fit_span (p := p))
  have HV := Lib.hid (fit_served (p := p))
  have HY := Lib.hid (fit_yes (p := p))
  obtain ⟨F, hF⟩ : ∃ F, fitP p = F := ⟨_, rfl⟩
  rw [h1] at HZ HY HSZ
  rw [h2] at HS HY HTM
  rw [h3] at HV HY HSV
  rw [hF] at HZ HS HV HY HFS ⊢
  obtain ⟨a0, a1, a2, a3, a4⟩ := hD W0 (Below.refl _ _)
  simp only [plV] at HSZ HTM HTK HSV ⊢
  clear hD hW0 hB0 hp hp0 h1 h2 h3 hs0 hML hF
  obtain ⟨A, n, c, m, B, k, d, s, am, rd, hd⟩ := p
  simp only at *
  cases b1
  · have HR := Lib.hid (HZ.out rfl)
    clear HZ
    go_enter Try.func75, Try.ntmps75
    go_wp2
    rw [HW.out]
    go_step3
    go_wp2
    go_step3
    go_wp2_with (go_at_call 87; (with_reducible refine (HSZ.out).mono ?_); rintro e w1 ⟨rfl, hb1⟩; have HB1 := Lib.hid (HB0.out.trans (hb1.mono HB0.out.size)); clear hb1)
    try rw [Exit.noGoto_ret]
    go_ret
    exact ⟨by rw [HR.out]; rfl, HB1.out⟩
  · cases b2
    · have HR := Lib.hid (HS.out rfl)
      clear HS
      go_enter Try.func75, Try.ntmps75
      go_wp2
      rw [HW.out]
      go_step3
      go_wp2
      go_step3
      go_wp2_with (first
        | (go_at_call 87; (with_reducible refine (HSZ.out).mono ?_); rintro e w1 ⟨rfl, hb1⟩; obtain ⟨a0, a1, a2, a3, a4⟩ := HD.out w1 hb1; have HB1 := Lib.hid hb1; clear hb1)
        | (go_at_call 88; (with_reducible refine (HTM.out _).mono ?_); rintro e w2 ⟨rfl, hb2⟩; have HB2 := Lib.hid (HB1.out.trans (hb2.mono HB1.out.size)); clear hb2))
      try rw [Exit.noGoto_ret]
      go_ret
      exact ⟨by rw [HR.out]; rfl, HB0.out.trans (HB2.out.mono HB0.out.size)⟩
    · have HSV2 := Lib.hid (HSV.out rfl)
      clear HSV
      cases b3
      · have HR := Lib.hid (HV.out rfl)
        clear HV
        go_enter Try.func75, Try.ntmps75
        go_wp2
        rw [HW.out]
        go_step3
        go_wp2
        go_step3
        go_wp2_with (first
          | (go_at_call 87; (with_reducible refine (HSZ.out).mono ?_); rintro e w1 ⟨rfl, hb1⟩; obtain ⟨a0, a1, a2, a3, a4⟩ := HD.out w1 hb1; have HB1 := Lib.hid hb1; clear hb1)
          | (go_at_call 88; (with_reducible refine (HTM.out _).mono ?_); rintro e w2 ⟨rfl, hb2⟩; have HB2 := Lib.hid (HB1.out.trans (hb2.mono HB1.out.size)); clear hb2; obtain ⟨c0, c1, c2, c3, c4⟩ := HD.out w2 HB2.out)
          | (go_at_call 89; (with_reducible refine (HSV2.out _ HB2.out).mono ?_); rintro e w3 ⟨rfl, hb3⟩; have HB3 := Lib.hid (HB2.out.trans (hb3.mono HB2.out.size)); clear hb3))
        try rw [Exit.noGoto_ret]
        go_ret
        exact ⟨by rw [HR.out]; rfl, HB0.out.trans (HB3.out.mono HB0.out.size)⟩
      · have HY2 := Lib.hid (HY.out rfl rfl rfl)
        clear HY HV HS HZ
        go_enter Try.func75, Try.ntmps75
        go_wp2
        rw [HW.out]
        go_step3
        go_wp2
        go_step3
        go_wp2_with (first
          | (go_at_call 87; (with_reducible refine (HSZ.out).mono ?_); rintro e w1 ⟨rfl, hb1⟩; obtain ⟨a0, a1, a2, a3, a4⟩ := HD.out w1 hb1; have HB1 := Lib.hid hb1; clear hb1)
          | (go_at_call 88; (with_reducible refine (HTM.out _).mono ?_); rintro e w2 ⟨rfl, hb2⟩; have HB2 := Lib.hid (HB1.out.trans (hb2.mono HB1.out.size)); clear hb2; obtain ⟨c0, c1, c2, c3, c4⟩ := HD.out w2 HB2.out)
          | (go_at_call 89; (with_reducible refine (HSV2.out _ HB2.out).mono ?_); rintro e w3 ⟨rfl, hb3⟩; have HB3 := Lib.hid (HB2.out.trans (hb3.mono HB2.out.size)); clear hb3; obtain ⟨d0, d1, d2, d3, d4⟩ := HD.out w3 HB3.out))
        clear a0 a1 a2 a3 a4 c0 c1 c2 c3 c4 d0 d1 d2 d3 d4
        go_loopw [4, 9] (fun y v wr => ∃ j : Nat, j ≤ k ∧ v = .int .i64 j ∧ (∀ i, i < j → stageB m (s.getD i Stg.zero) = true) ∧ Below W0.heap.size W0 wr) (fun _ v _ => k - (intOf v).toNat)
        case atStart => exact ⟨0, by omega, rfl, fun i hi => by omega, HB3.out⟩
        case round =>
          obtain ⟨j, hj, rfl, hall, hbw⟩ := hrel
          have HBW := Lib.hid hbw
          have HAL := Lib.hid hall
          clear hall
          by_cases hlt : j < k
          · have q1 : (j : Int) < k := by omega
            have q0 : 0 ≤ (j : Int) := by omega
            obtain ⟨b, off, x, rfl, hx, -, -, z0, z1, z2⟩ := (HST.out.below hbw).at_ j hlt
            have HFJ := Lib.hid (HFS.out j (by rw [HSL.out]; exact hlt))
            rw [hx] at HFJ
            have HX := Lib.hid hx
            have HTX := Lib.hid (HTK.out x)
            have hone := one_alloc wr (.cells #[.int .i64 x.g, .int .i64 x.mn, .int .i64 x.mx] 71)
            have HB4 := Lib.hid (hbw.trans (hone.mono hbw.size))
            obtain ⟨e0, e1, e2, e3, e4⟩ := HD.out _ HB4.out
            clear hbw hx hone
            cases hs : stageB m x
            · rw [hs] at HTX
              have HR := Lib.hid (HFJ.out hs)
              clear hs
              go_wp2_with (go_at_call 90; (with_reducible refine (HTX.out _ HB4.out).mono ?_); rintro e w5 ⟨rfl, hb5⟩; have HB5 := Lib.hid (HB4.out.trans (hb5.mono HB4.out.size)); clear hb5)
              try rw [Exit.noGoto_ret]
              go_ret
              exact ⟨by rw [HR.out]; rfl, HB0.out.trans (HB5.out.mono HB0.out.size)⟩
            · rw [hs] at HTX
              have HN := Lib.hid (show ∀ i, i < j + 1 → stageB m (s.getD i Stg.zero) = true from fun i hi => by
                by_cases e : i = j
                · rw [e, HX.out]; exact hs
                · exact HAL.out i (by omega))
              clear hs
              go_wp2_with (go_at_call 90; (with_reducible refine (HTX.out _ HB4.out).mono ?_); rintro e w5 ⟨rfl, hb5⟩; have HB5 := Lib.hid (HB4.out.trans (hb5.mono HB4.out.size)); clear hb5)
              go_roundw
              case rel => exact ⟨j + 1, by omega, by go_num, HN.out, HB5.out⟩
              case measure => simp [intOf]; omega
          · obtain rfl : j = k := by omega
            have hge : ¬ ((j : Int) < j) := by omega
            have HR := Lib.hid (HY2.out (fun i hi => HAL.out i (by rw [HSL.out] at hi; exact hi)))
            go_wp2
            try rw [Exit.noGoto_ret]
            go_ret
            exact ⟨by rw [HR.out]; rfl, HB0.out.trans (HBW.out.mono HB0.out.size)⟩
theorem fit_any (p : Pl) (X : World) (h : PlIn X p) : Calls Try.prog 59 #[plV p] X fun e w' => e = .returned (.bool (fitP p)) ∧ Below X.heap.size X w' := by
  have HR := Lib.hid (fun X' (hX : Below X.heap.size X X') => fits_any p X' (h.below hX))
  simp only [plV] at HR ⊢
  go_enter Try.func59, Try.ntmps59
  go_wp2_with (go_at_call 75; (with_reducible refine (HR.out _ (one_alloc _ _)).mono ?_); rintro e w1 ⟨rfl, hb⟩)
  go_ret
  exact ⟨rfl, (show Below X.heap.size X _ from (one_alloc _ _)).trans (hb.mono (by simp <;> omega))⟩
end Go.Proofs.Ytgnhmdfajnnkhaa


/- Pure facts of plans, for the laws. -/
namespace Go.Proofs.Ytgnhmdfajnnkhaa
set_option maxRecDepth 100000
set_option linter.unusedVariables false
set_option linter.unusedSimpArgs false
open Go.RowKit

end Go.Proofs.Ytgnhmdfajnnkhaa

