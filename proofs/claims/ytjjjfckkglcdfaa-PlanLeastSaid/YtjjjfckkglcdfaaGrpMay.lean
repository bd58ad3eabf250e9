/- The walk over package group's May: a matrix, row by row; each row's groups by the range over a function. -/
import Derived.Test.YtjjjfckkglcdfaaGrpOver
import Derived.Test.YtjjjfckkglcdfaaBasMarks
import Derived.Test.YtjjjfckkglcdfaaBasFenceR
namespace Go.Proofs.Ytjjjfckkglcdfaa
set_option maxRecDepth 100000
set_option linter.unusedVariables false
set_option linter.unusedSimpArgs false
open Go.RowKit Go.Shelf
attribute [local go_sem] Oper.semAt_some

/-- row i is a set of the groups that there are, without i; all that it has have i -/
def fineRow (m : List Int) (n i : Nat) : Prop := (0 ≤ m.getD i 0 ∧ m.getD i 0 < ((2 ^ n : Nat) : Int)) ∧ bitI (m.getD i 0) i = false ∧ ∀ g, g < n → bitI (m.getD i 0) g = true → bitI (m.getD g 0) i = true
theorem may_of_rows {m : List Int} {n : Nat} (hn : m.length = n) (h : 1 ≤ n ∧ n ≤ 8) (hr : ∀ i, i < n → fineRow m n i) : mayM m = true := by
  refine may_of_all hn h (fun k hk => (hr k hk).1) fun i hi k hk => ⟨?_, ?_⟩
  · unfold meetM
    have h1 := (hr i hi).2.2 k hk
    have h2 := (hr k hk).2.2 i hi
    cases e1 : bitI (m.getD i 0) k <;> cases e2 : bitI (m.getD k 0) i
    · rfl
    · rw [h2 e2] at e1; cases e1
    · rw [h1 e1] at e2; cases e2
    · rfl
  · rintro ⟨h1, rfl⟩
    unfold meetM at h1
    rw [(hr i hi).2.1] at h1
    cases h1
theorem may_self {m : List Int} {n i : Nat} (hn : m.length = n) (hi : i < n) (h : bitI (m.getD i 0) i = true) : mayM m = false :=
  may_not hn hi hi fun hf => hf.2 ⟨h, rfl⟩
theorem may_one {m : List Int} {n i g : Nat} (hn : m.length = n) (hi : i < n) (hg : g < n) (h1 : bitI (m.getD i 0) g = true) (h2 : bitI (m.getD g 0) i = false) : mayM m = false :=
  may_not hn hi hg fun hf => by
    have e := hf.1
    unfold meetM at e
    rw [h1, h2] at e
    cases e
theorem may_result (b : Bool) (B : Nat) (tmps : Array Value) (X : World) (hp : tmps.getD 2 undef = .pointer (some ⟨B, 0, none⟩)) (hc : X.cell? ⟨B, 0, none⟩ = some (.bool b)) : (results Try.f34 tmps).run Try.prog X = .ok (.bool b) X := by
  have hp2 : tmps[2]?.getD undef = .pointer (some ⟨B, 0, none⟩) := by simpa using hp
  simp [results, Try.results34, go_sem, hp2, hc]
theorem may_leaves {b : Bool} {w W : World} {tmps : Array Value} {R : Ending → World → Prop} (bs : List Nat) (hp : tmps.getD 2 undef = .pointer (some ⟨w.heap.size + 1, 0, none⟩)) (hm : MarksAt w.heap.size bs W) (hb : Boxed W (w.heap.size + 1) 4 (.bool b)) (hB : Below w.heap.size w W)
    (hR : ∀ X, Below w.heap.size w X → R (.returned (.bool b)) X) : LeavesInM Fence.wide 9 Try.prog Try.f34 tmps R (marksOf bs) .returning W := by
  refine leaves_marks (fun X => Boxed X (w.heap.size + 1) 4 (.bool b) ∧ Below w.heap.size w X) ?_ (fun X hX => ⟨_, may_result b _ tmps X hp hX.1.cell, hR X hX.2⟩) bs W hm ⟨hb, hB⟩
  rintro u X Y row ⟨p1, p2⟩ hg hr
  exact ⟨boxed_turn p1 hg (fun r e => (hr r e).2), p2.grown hg p2.size (fun r e => (hr r e).1)⟩
/-- ahead of row k: those ahead are fine -/
def MayInv (A : Option Addr) (n c : Nat) (m : List Int) (w : World) (ds : List Deferred) (v : Value) (X : World) : Prop :=
  ∃ (k : Nat) (bs : List Nat), k ≤ n ∧ v = .int .i64 k ∧ ds = marksOf bs ∧ MarksAt w.heap.size bs X ∧ (∀ i, i < k → fineRow m n i) ∧ Boxed X w.heap.size 22 (.slice A n c) ∧ Boxed X (w.heap.size + 1) 4 (.bool false) ∧ Below w.heap.size w X
set_option maxHeartbeats 4000000 in
theorem gmay_any (A : Option Addr) (n c : Nat) (m : List Int) (w : World) (hit : Its .i64 w A n c m) :
    Calls Try.prog 34 #[.slice A n c] w fun e w' => e = .returned (.bool (mayM m)) ∧ Below w.heap.size w w' := by
  have hn := hit.small
  have HL := Lib.hid hit.len
  have o1 := (Boxed.new w 22 (.slice A n c)).alloc (.cells #[.bool false] 4)
  have o2 := Boxed.new (w.alloc (.cells #[.slice A n c] 22)) 4 (.bool false)
  rw [World.size_alloc] at o2
  have hB0 : Below w.heap.size w ((w.alloc (.cells #[.slice A n c] 22)).alloc (.cells #[.bool false] 4)) := (one_alloc w _).alloc (by simp) _
  refine (callsIn_wide (n := 9)).1 ?_
  refine callsIn_of_wp_marks Try.func34 rfl trivial ?_ rfl
  simp only [Try.ntmps34, List.size_toArray, List.length_cons, List.length_nil, Nat.reduceAdd, Nat.reduceSub, Array.replicate_succ, Array.replicate_zero, List.push_toArray, List.append_toArray, List.nil_append, List.cons_append]
  by_cases h1 : n < 1 ∨ 8 < n
  · have HR := Lib.hid (may_short HL.out h1)
    rcases h1 with h1 | h1
    all_goals
      gi_wp2
      refine may_leaves (w := w) [] rfl (MarksAt.nil _ _) o2 hB0 (fun X hX => ⟨?_, hX⟩)
      rw [HR.out]
  · have h1a : ¬ ((n : Int) < 1) := by omega
    have h1b : ¬ (8 < (n : Int)) := by omega
    have hn1 : 1 ≤ n ∧ n ≤ 8 := by omega
    have hsz : ((w.alloc (.cells #[.slice A n c] 22)).alloc (.cells #[.bool false] 4)).heap.size = w.heap.size + 2 := by simp
    have HMY := Lib.hid (may_of_rows (m := m) HL.out hn1)
    have HIT := Lib.hid hit
    have HO1 := Lib.hid o1
    have HO2 := Lib.hid o2
    have HB0 := Lib.hid hB0
    clear hit h1 o1 o2 hB0
    gi_wp2
    obtain ⟨W0, hW0⟩ : ∃ W0, (w.alloc (.cells #[.slice A n c] 22)).alloc (.cells #[.bool false] 4) = W0 := ⟨_, rfl⟩
    rw [hW0] at HO1 HO2 HB0 hsz ⊢
    clear hW0
    refine wpIn_loop (fun a' wr => ∃ (ds : List Deferred) (u3 u4 u16 u17 u18 u19 u20 u21 u22 u23 u24 u25 u26 u27 u28 u29 u30 u31 u32 u41 : Value), MayInv A n c m w ds u16 wr ∧ a' = { tmps := #[.slice A n c, .pointer (some ⟨w.heap.size, 0, none⟩), .pointer (some ⟨w.heap.size + 1, 0, none⟩), u3, u4, undef, .slice A n c, .int .i64 n, .bool false, .bool false, .slice A n c, .int .i64 n, .bool false, .bool false, .slice A n c, .int .i64 n, u16, u17, u18, u19, u20, u21, u22, u23, u24, u25, u26, u27, u28, u29, u30, u31, u32, undef, undef, undef, undef, undef, undef, undef, undef, u41], defers := ds }) (fun a' _ => n - (intOf (a'.tmps.getD 16 undef)).toNat) ⟨_, _, _, _, _, _, _, _, _, _, _, _, _, _, _, _, _, _, _, _, _, ⟨0, [], by omega, rfl, rfl, MarksAt.nil _ _, fun i hi => by omega, HO1.out, HO2.out, HB0.out⟩, rfl⟩ ?_
    rintro a' wr ⟨ds, u3, u4, u16, u17, u18, u19, u20, u21, u22, u23, u24, u25, u26, u27, u28, u29, u30, u31, u32, u41, ⟨k, bs, hk, rfl, rfl, hm, hf, p1, p2, p3⟩, rfl⟩
    try dsimp only
    by_cases hlt : k < n
    · obtain ⟨b, off, rfl, hc⟩ := HIT.out.at_ (by omega)
      have HC := Lib.hid (fun (i : Nat) (hi : i < n) (X : World) (hX : Below w.heap.size w X) => (hX.cell (p := ⟨b, off + i, none⟩) (block_lt_of_cell (hc i hi))).trans (hc i hi))
      have z := HC.out k hlt wr p3
      obtain ⟨x, hx⟩ : ∃ x, m.getD k 0 = x := ⟨_, rfl⟩
      rw [hx] at z
      have q0 : 0 ≤ (k : Int) := by omega
      have q1 : (k : Int) < n := by omega
      have o3 := Boxed.new wr 3 (.int .i64 (k : Int))
      have y1 := p1.cell
      have e1 := (p1.alloc (.cells #[.int .i64 (k : Int)] 3)).cell
      have e2 := (p2.alloc (.cells #[.int .i64 (k : Int)] 3)).cell
      have e3 := (p2.alloc (.cells #[.int .i64 (k : Int)] 3)).frozen
      have HM := Lib.hid hm
      have HF := Lib.hid hf
      have P1 := Lib.hid p1
      have P2 := Lib.hid p2
      have P3 := Lib.hid p3
      have HO3 := Lib.hid o3
      have HSI := Lib.hid (fun X => callsIn_wide (n := 9 - 1).2 (isSet_any x n hn1.2 X))
      have HHI := Lib.hid (fun X => callsIn_wide (n := 9 - 1).2 (has_int x k (by omega) X))
      have HEND := Lib.hid (show ∀ (hmay : mayM m = false) (tmps : Array Value) (hp : tmps.getD 2 undef = .pointer (some ⟨w.heap.size + 1, 0, none⟩)), LeavesInM Fence.wide 9 Try.prog Try.f34 tmps (fun e w' => e = .returned (.bool (mayM m)) ∧ Below w.heap.size w w') (marksOf bs) .returning ((wr.alloc (.cells #[.int .i64 (k : Int)] 3)).setCell ⟨w.heap.size + 1, 0, none⟩ (.bool false)) from
        fun hmay tmps hp => may_leaves bs hp ((hm.below (one_alloc wr _)).keeps (KeepsOthers.setCell _ _ _)) ((p2.alloc _).set _) ((p3.alloc p3.size _).setCell (p := ⟨w.heap.size + 1, 0, none⟩) (Nat.le_succ _) _) (fun X hX => ⟨by rw [hmay], hX⟩))
      clear hm hf p1 p2 p3 o3 hc
      by_cases hs : 0 ≤ x ∧ x < ((2 ^ n : Nat) : Int)
      · rw [decide_eq_true hs] at HSI
        obtain ⟨t, rfl⟩ := Int.eq_ofNat_of_zero_le hs.1
        have h8 := pow_le hn1.2
        have ht : t < 2 ^ n := by omega
        cases hbk : bitI (t : Int) k
        · rw [hbk] at HHI
          have HX := Lib.hid hx
          have HS := Lib.hid hs
          have HBK := Lib.hid hbk
          clear hx hs hbk
          gi_wp2_with (first
            | (refine ⟨trivial, ?_⟩; gi_at_call 35; refine (HSI.out _).mono ?_; rintro e w1 ⟨rfl, rfl⟩)
            | (refine ⟨trivial, ?_⟩; gi_at_call 44; refine (HHI.out _).mono ?_; rintro e w1 ⟨rfl, rfl⟩)
            | (refine ⟨trivial, ?_⟩; gi_at_call 45; refine (callsIn_wide.2 (groups_any _ _)).mono ?_; rintro e w1 ⟨rfl, rfl⟩))
          obtain ⟨W1, hW1⟩ : ∃ W1, wr.alloc (.cells #[.int .i64 (k : Int)] 3) = W1 := ⟨_, rfl⟩
          have s1 : W1.heap.size = wr.heap.size + 1 := by rw [← hW1]; simp
          have o4 := Boxed.new W1 3 (.int .i64 (t : Int))
          have hB1 : Below wr.heap.size wr W1 := by rw [← hW1]; exact one_alloc wr _
          have o3 := HO3.out
          have p1 := P1.out.alloc (.cells #[.int .i64 (k : Int)] 3)
          have p2 := P2.out.alloc (.cells #[.int .i64 (k : Int)] 3)
          rw [hW1] at o3 p1 p2 ⊢
          rw [s1] at o4
          obtain ⟨W2, hW2⟩ : ∃ W2, W1.alloc (.cells #[.int .i64 (t : Int)] 3) = W2 := ⟨_, rfl⟩
          have s2 : W2.heap.size = wr.heap.size + 1 + 1 := by rw [← hW2]; simp [s1]
          have o3 := o3.alloc (.cells #[.int .i64 (t : Int)] 3)
          have p1 := p1.alloc (.cells #[.int .i64 (t : Int)] 3)
          have p2 := p2.alloc (.cells #[.int .i64 (t : Int)] 3)
          have hB2 : Below wr.heap.size wr W2 := by rw [← hW2]; exact hB1.alloc hB1.size _
          rw [hW2] at o3 o4 p1 p2 ⊢
          have p3 : Below w.heap.size w W2 := P3.out.trans (hB2.mono P3.out.size)
          have hm2 : MarksAt w.heap.size bs W2 := HM.out.below hB2
          have hlt2 := HM.out.lt
          have hin := groups_hands t (by omega) (wr.heap.size + 1) w.heap.size W2 o4
          obtain ⟨L, hL⟩ : ∃ L, listTo t 8 = L := ⟨_, rfl⟩
          have hget : ∀ j, j < L.length → ∃ i : Nat, L.getD j 0 = (i : Int) ∧ i < n ∧ bitI (t : Int) i = true := fun j hj => by
            rw [← hL] at hj ⊢
            obtain ⟨i, h1, h2, h3⟩ := list_get hj
            exact ⟨i, h1, bit_lt ht h3, by rw [bit_nat]; exact h3⟩
          have hall : ∀ g, g < n → bitI (t : Int) g = true → ∃ j, j < L.length ∧ L.getD j 0 = (g : Int) := fun g hg hbg => by
            rw [bit_nat] at hbg
            obtain ⟨h1, h2, -⟩ := list_at (by omega : g < 8) hbg
            rw [← hL]
            exact ⟨_, h1, h2⟩
          rw [hL] at hin
          clear hL hW1 hW2 hB1 s1 HHI HSI HEND
          refine range_c (w0 := W2) (gf := 47) (lb := #[.pointer (some ⟨wr.heap.size + 1, 0, none⟩)]) rfl (enters_of Try.func47 (by kernel_rfl) rfl) hin (Below.refl _ _) (fun _ => rfl) (fun h k => h.trans k)
            (fun X o o' hx hc hw => KeepB.put o' hx (by have := p3.size; omega) (fun b hb => by simp only [List.mem_cons, List.not_mem_nil, or_false] at hb; omega))
            (fun j X => (∀ j', j' < j → bitI (m.getD (L.getD j' 0).toNat 0) k = true) ∧ Below W2.heap.size W2 X) ?hI
            (fun X => mayM m = false ∧ MarksAt w.heap.size bs X ∧ Boxed X (w.heap.size + 1) 4 (.bool false) ∧ Below w.heap.size w X) ?hIx ⟨fun j' hj => by omega, Below.refl _ _⟩
            (fun j a' X => a' = { tmps := #[.slice (some ⟨b, off, none⟩) n c, .pointer (some ⟨w.heap.size, 0, none⟩), .pointer (some ⟨w.heap.size + 1, 0, none⟩), .pointer (some ⟨wr.heap.size, 0, none⟩), .int .i64 (t : Int), .int .i64 (L.getD j 0), .slice (some ⟨b, off, none⟩) n c, .int .i64 n, .bool false, .bool false, .slice (some ⟨b, off, none⟩) n c, .int .i64 n, .bool false, .bool false, .slice (some ⟨b, off, none⟩) n c, .int .i64 n, .int .i64 k, .bool true, .int .i64 k, .pointer (some ⟨b, off + k, none⟩), .int .i64 (t : Int), .int .i64 (t : Int), .slice (some ⟨b, off, none⟩) n c, .int .i64 n, .bool true, .bool false, .bool false, .int .i64 (t : Int), .int .i64 k, .bool false, .bool false, .int .i64 (t : Int), .func (.func 47) #[] #[.pointer (some ⟨wr.heap.size + 1, 0, none⟩)], .int .i64 (L.getD j 0), undef, undef, undef, undef, undef, undef, undef, u41], defers := [] }) (fun _ _ _ _ _ _ h _ _ => h) ?assign ?body ?done ?stop
          case hI =>
            rintro j X Y row ⟨h1, h2⟩ hg hr
            exact ⟨h1, h2.grown hg h2.size (fun r e => (hr r e).1)⟩
          case hIx =>
            rintro u X Y row ⟨h1, h2, h3, h4⟩ hg hr
            exact ⟨h1, h2.turn hg (fun r e D hD => by have := (hr r e).1; have := hlt2 D hD; omega), boxed_turn h3 hg (fun r e => (hr r e).2), h4.grown hg h4.size (fun r e => by have := (hr r e).1; have := p3.size; omega)⟩
          case assign =>
            rintro l j X K hj hsx p hK
            have hK2 := hK _ X (KeepsFrom.refl _ _) (KeepB.refl _ _ _) p rfl
            have HK2 := Lib.hid hK2
            obtain ⟨v, hv⟩ : ∃ v, L.getD j 0 = v := ⟨_, rfl⟩
            rw [hv] at HK2 ⊢
            clear hK2 hK hv
            gi_wp2
            exact HK2.out
          case body =>
            rintro l j a' X hj hsx ⟨h1, h2⟩ rfl
            obtain ⟨g, hg, hgn, hgb⟩ := hget j hj
            have hBX : Below w.heap.size w X := p3.trans (h2.mono p3.size)
            have z2 := HC.out g hgn X hBX
            obtain ⟨y, hy⟩ : ∃ y, m.getD g 0 = y := ⟨_, rfl⟩
            rw [hy] at z2
            have b1 := boxed_below p1 h2
            have b2 := boxed_below p2 h2
            have b3 := boxed_below o3 h2
            have hmx := hm2.below h2
            have q2 : 0 ≤ (g : Int) := by omega
            have q3 : (g : Int) < n := by omega
            have y4 := b1.cell
            have y5 := b3.cell
            have y6 := b2.cell
            have y7 := b2.frozen
            have HHI := Lib.hid (fun X => callsIn_wide (n := 9 - 1 - 1 - 1).2 (has_int y k (by omega) X))
            rw [hg]
            have hmo : Try.prog.follows .mixedOrders = true := by kernel_rfl
            cases hby : bitI y k
            · have HP := Lib.hid (show KeepsFrom W2.heap.size X ((X.drew).setCell ⟨w.heap.size + 1, 0, none⟩ (.bool false)) ∧ mayM m = false ∧ MarksAt w.heap.size bs ((X.drew).setCell ⟨w.heap.size + 1, 0, none⟩ (.bool false)) ∧ Boxed ((X.drew).setCell ⟨w.heap.size + 1, 0, none⟩ (.bool false)) (w.heap.size + 1) 4 (.bool false) ∧ Below w.heap.size w ((X.drew).setCell ⟨w.heap.size + 1, 0, none⟩ (.bool false)) from
                ⟨((KeepsOthers.drew _).trans (KeepsOthers.setCell _ _ _)).from _, may_one HL.out hlt hgn (by rw [HX.out]; exact hgb) (by rw [hy]; exact hby), hmx.keeps ((KeepsOthers.drew _).trans (KeepsOthers.setCell _ _ _)), b2.set _, hBX.drew.setCell (p := ⟨w.heap.size + 1, 0, none⟩) (Nat.le_succ _) _⟩)
              rw [hby] at HHI
              clear hg hy hgb hby h1 h2 hBX b1 b2 b3 hmx hget hall hin hm2 hlt2 o3 o4 p1 p2 hj hsx
              gi_wp2
              gi_region_with_o (refine ⟨trivial, ?_⟩; gi_at_call 44; refine (CallsIn.inRound l (HHI.out _)).mono ?_; rintro e w' ⟨rfl, rfl⟩)
              all_goals gi_wp2
              all_goals exact HP.out
            · have HP := Lib.hid (show KeepsFrom W2.heap.size X (X.drew) ∧ KeepB w.heap.size [wr.heap.size + 1] X (X.drew) ∧ (∀ j', j' < j + 1 → bitI (m.getD (L.getD j' 0).toNat 0) k = true) ∧ Below W2.heap.size W2 (X.drew) from
                ⟨(KeepsOthers.drew _).from _, ⟨(Below.refl _ X).drew, fun b _ o ho => ho⟩, fun j' hj' => by
                  by_cases e : j' = j
                  · rw [e, hg, Int.toNat_natCast, hy]; exact hby
                  · exact h1 j' (by omega), h2.drew⟩)
              rw [hby] at HHI
              clear hg hy hgb hby h1 h2 hBX b1 b2 b3 hmx hget hall hin hm2 hlt2 o3 o4 p1 p2 hj hsx
              gi_wp2
              gi_region_with_o (refine ⟨trivial, ?_⟩; gi_at_call 44; refine (CallsIn.inRound l (HHI.out _)).mono ?_; rintro e w' ⟨rfl, rfl⟩)
              all_goals gi_wp2
              all_goals exact HP.out
          case done =>
            rintro D X hD ⟨h1, h2⟩ hDD
            have HI := Lib.hid (show MayInv (some ⟨b, off, none⟩) n c m w (marksOf (D :: bs)) (.int .i64 ((k : Int) + 1)) X from
              ⟨k + 1, D :: bs, by omega, by go_num, rfl, (hm2.below h2).more (by have := p3.size; omega) hDD (fun E hE => by have := hlt2 E hE; omega), fun i hi => by
                by_cases e : i = k
                · subst e
                  refine ⟨by rw [HX.out]; exact HS.out, by rw [HX.out]; exact HBK.out, fun g hg hbg => ?_⟩
                  rw [HX.out] at hbg
                  obtain ⟨j, hj, hjg⟩ := hall g hg hbg
                  have := h1 j hj
                  rw [hjg, Int.toNat_natCast] at this
                  exact this
                · exact HF.out i (by omega), boxed_below p1 h2, boxed_below p2 h2, p3.trans (h2.mono p3.size)⟩)
            clear h1 h2 hget hall hin hm2 hlt2 o3 o4 p1 p2 hDD
            gi_wp2
            refine ⟨?_, ?measure⟩
            (repeat apply Exists.intro)
            refine ⟨?rel, rfl⟩
            case rel => exact HI.out
            case measure => simp [intOf]; omega
          case stop =>
            rintro D X hD ⟨h1, h2, h3, h4⟩ hDD
            have HP := Lib.hid (show ∀ (tmps : Array Value) (hp : tmps.getD 2 undef = .pointer (some ⟨w.heap.size + 1, 0, none⟩)), LeavesInM Fence.wide 9 Try.prog Try.f34 tmps (fun e w' => e = .returned (.bool (mayM m)) ∧ Below w.heap.size w w') (marksOf (D :: bs)) .returning X from
              fun tmps hp => may_leaves (D :: bs) hp (h2.more (by have := p3.size; omega) hDD (fun E hE => by have := hlt2 E hE; omega)) h3 h4 (fun X hX => ⟨by rw [h1], hX⟩))
            clear h1 h2 h3 h4 hget hall hin hm2 hlt2 o3 o4 p1 p2 hDD
            gi_wp2
            refine HP.out _ ?_
            rfl
        · rw [hbk] at HHI
          have HMF := Lib.hid (may_self HL.out hlt (by rw [hx]; exact hbk))
          clear hx hs hbk
          gi_wp2_with (first
            | (refine ⟨trivial, ?_⟩; gi_at_call 35; refine (HSI.out _).mono ?_; rintro e w1 ⟨rfl, rfl⟩)
            | (refine ⟨trivial, ?_⟩; gi_at_call 44; refine (HHI.out _).mono ?_; rintro e w1 ⟨rfl, rfl⟩))
          refine HEND.out HMF.out _ ?_
          rfl
      · rw [decide_eq_false hs] at HSI
        have HMF := Lib.hid (may_row HL.out hlt (by rw [hx]; omega))
        clear hx hs
        gi_wp2_with (refine ⟨trivial, ?_⟩; gi_at_call 35; refine (HSI.out _).mono ?_; rintro e w1 ⟨rfl, rfl⟩)
        refine ⟨trivial, ?_⟩
        gi_wp2
        refine HEND.out HMF.out _ ?_
        rfl
    · obtain rfl : k = n := by omega
      have HMT := Lib.hid (HMY.out hf)
      have y2 := p2.cell
      have y3 := p2.frozen
      have HM := Lib.hid hm
      have P2 := Lib.hid p2
      have P3 := Lib.hid p3
      clear hf hm p1 p2 p3
      gi_wp2
      exact may_leaves bs rfl (HM.out.keeps (KeepsOthers.setCell _ _ _)) (P2.out.set _) (P3.out.setCell (p := ⟨w.heap.size + 1, 0, none⟩) (Nat.le_succ _) _) (fun X hX => ⟨by rw [HMT.out], hX⟩)
end Go.Proofs.Ytjjjfckkglcdfaa
