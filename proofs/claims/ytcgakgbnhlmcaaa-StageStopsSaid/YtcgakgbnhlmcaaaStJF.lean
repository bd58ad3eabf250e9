/- Joined texts: The walks over the document's May and Text of a row of lamps. The walk over the document's Read of a text. The walks over the document's List and Of of groups, and Sets. The walks over the document's Show of a plan, and Clash. The walks over the document's Lamps and New. Rows that a call gathers, one behind the other. The walk over the document's Run. The walk over the document's Rows. The walk over the document's Clash of a plan and a row. -/
import Derived.Test.YtcgakgbnhlmcaaaStJB
import Derived.Test.YtcgakgbnhlmcaaaStJE
/- The walks over the document's May and Text of a row of lamps. -/
namespace Go.Proofs.Ytcgakgbnhlmcaaa
set_option maxRecDepth 100000
set_option linter.unusedVariables false
set_option linter.unusedSimpArgs false
open Go.RowKit

theorem mem_getD {l : List Int} {x : Int} (h : x ∈ l) : ∃ j, j < l.length ∧ l.getD j 0 = x := by
  obtain ⟨j, hj, rfl⟩ := List.getElem_of_mem h
  exact ⟨j, hj, by simp [List.getD_eq_getElem?_getD, hj]⟩
theorem getD_mem {l : List Int} {j : Nat} (h : j < l.length) : l.getD j 0 ∈ l := by
  rw [List.getD_eq_getElem?_getD, List.getElem?_eq_getElem h]
  exact List.getElem_mem h
theorem row_bad {l : List Int} {j : Nat} (h : j < l.length) (hx : l.getD j 0 < 0 ∨ 3 ≤ l.getD j 0) : mayR l = false := by
  rw [← Bool.not_eq_true, may_iff]
  rintro ⟨-, ha⟩
  have := ha _ (getD_mem h)
  omega
end Go.Proofs.Ytcgakgbnhlmcaaa


/- The walk over the document's Read of a text. -/
namespace Go.Proofs.Ytcgakgbnhlmcaaa
set_option maxRecDepth 100000
set_option linter.unusedVariables false
set_option linter.unusedSimpArgs false
open Go.RowKit

end Go.Proofs.Ytcgakgbnhlmcaaa


/- The walks over the document's List and Of of groups, and Sets. -/
namespace Go.Proofs.Ytcgakgbnhlmcaaa
set_option maxRecDepth 100000
set_option linter.unusedVariables false
set_option linter.unusedSimpArgs false
open Go.RowKit

def listTo (t k : Nat) : List Int := ((List.range k).filter fun j => t.testBit j).map Int.ofNat
theorem list_next (t k : Nat) : listTo t (k + 1) = listTo t k ++ (if t.testBit k = true then [(k : Int)] else []) := by
  rw [listTo, List.range_succ, List.filter_append, List.map_append]
  congr 1
  by_cases h : t.testBit k = true
  · rw [if_pos h]; simp [h]
  · rw [if_neg h]; simp [h]
theorem list_len (t k : Nat) : (listTo t k).length ≤ k := by
  rw [listTo, List.length_map]
  exact Nat.le_trans (List.length_filter_le _ _) (by rw [List.length_range]; exact Nat.le_refl _)
theorem list_all {t : Nat} (h : t < 256) : listTo t 8 = listM (t : Int) := by
  rw [listM, if_pos (by omega), listTo]
  congr 1
  refine List.filter_congr fun j _ => ?_
  rw [bit_nat]
/-- gives a list of numbers -/
def GivesL (L : List Int) (w : World) (e : Ending) (w' : World) : Prop := ∃ A n c, e = .returned (.slice A n c) ∧ Its .i64 w' A n c L ∧ Below w.heap.size w w'
/-- gives a list of numbers in memory of its own -/
def GivesO (L : List Int) (w : World) (e : Ending) (w' : World) : Prop := ∃ A n c, e = .returned (.slice A n c) ∧ OwnI .i64 3 w' w.heap.size (.slice A n c) L ∧ Below w.heap.size w w'
theorem GivesO.gives {L : List Int} {w : World} {e : Ending} {w' : World} (h : GivesO L w e w') : GivesL L w e w' := by
  obtain ⟨A, n, c, rfl, ho, hb⟩ := h
  obtain ⟨B, k, d, e, hi⟩ := ho.its
  rw [e]
  exact ⟨B, k, d, rfl, hi, hb⟩
theorem of_next {l : List Int} {j : Nat} {x o : Int} (hj : j < l.length) (hx : l.getD j 0 = x) : ofF (l.drop j) o = if x < 0 ∨ 7 < x then -1 else if bitI o x.toNat = true then -1 else ofF (l.drop (j + 1)) (o + 2 ^ x.toNat) := by
  rw [List.drop_eq_getElem_cons hj, ofF]
  have e : l[j] = x := by rw [← hx]; simp [List.getD_eq_getElem?_getD, hj]
  rw [e]
end Go.Proofs.Ytcgakgbnhlmcaaa


/- The walks over the document's Show of a plan, and Clash. -/
namespace Go.Proofs.Ytcgakgbnhlmcaaa
set_option maxRecDepth 100000
set_option linter.unusedVariables false
set_option linter.unusedSimpArgs false
open Go.RowKit

def showTo (t : Int) (ph : Int) (k : Nat) : List Int := (List.range k).map (lampP t ph)
theorem show_next (t ph : Int) (k : Nat) : showTo t ph (k + 1) = showTo t ph k ++ [lampP t ph k] := by rw [showTo, List.range_succ, List.map_append]; rfl
theorem show_len (t ph : Int) (k : Nat) : (showTo t ph k).length = k := by simp [showTo]
set_option maxHeartbeats 8000000 in
theorem rlshow_own (p : Pl) (x y : Int) (w : World) (hp : PlIn w p) : Calls Try.prog 31 #[plV p, .int .i64 x, .int .i64 y] w (GivesO (showR p x y) w) := by
  have hsk := hp.s.small
  have hsm := hp.m.small
  have hSL := hp.s.len
  have hML := hp.m.len
  obtain ⟨W0, hW0⟩ : ∃ W0, w.alloc (.cells #[.slice p.A p.n p.c, .slice p.B p.k p.d, .int .i64 p.am, .int .i64 p.rd, .int .i64 p.hd] 39) = W0 := ⟨_, rfl⟩
  have hB0 : Below w.heap.size w W0 := by rw [← hW0]; exact one_alloc w _
  have hp0 : PlIn W0 p := hp.below hB0
  have hbp : BoxP W0 w.heap.size p := by rw [← hW0]; exact BoxP.new w p
  have HFT := Lib.hid (rfit_any p W0 hp0)
  simp only [plV] at HFT ⊢
  have HW := Lib.hid hW0
  have HB0 := Lib.hid hB0
  have HAC := Lib.hid (show ∀ X, Below W0.heap.size W0 X → X.cell? ⟨w.heap.size, 0, none⟩ = some (.slice p.A p.n p.c) ∧ X.cell? ⟨w.heap.size, 1, none⟩ = some (.slice p.B p.k p.d) ∧ X.cell? ⟨w.heap.size, 2, none⟩ = some (.int .i64 p.am) ∧ X.cell? ⟨w.heap.size, 3, none⟩ = some (.int .i64 p.rd) ∧ X.cell? ⟨w.heap.size, 4, none⟩ = some (.int .i64 p.hd) from fun X hX => (hbp.below hX).cells)
  have HSL := Lib.hid hSL
  have HML := Lib.hid hML
  have HP := Lib.hid (show ∀ X, Below W0.heap.size W0 X → PlIn X p from fun X hX => hp0.below hX)
  obtain ⟨a0, a1, a2, a3, a4⟩ := HAC.out W0 (Below.refl _ _)
  clear hW0 hB0 hbp hp hp0
  cases hf : fitP p with
  | false =>
    rw [hf] at HFT
    have HR := Lib.hid (show showR p x y = [] from if_neg fun h => by rw [hf] at h; cases h.1)
    clear hf
    clear a0 a1 a2 a3 a4 hSL hML
    go_enter Try.func31, Try.ntmps31
    go_wp2_with (go_at_call 41; rw [HW.out]; (with_reducible refine (HFT.out).mono ?_); rintro e w1 ⟨rfl, hb1⟩; obtain ⟨c0, c1, c2, c3, c4⟩ := HAC.out _ hb1; have HB1 := Lib.hid hb1; clear hb1)
    go_ret
    exact ⟨none, 0, 0, rfl, by rw [HR.out]; exact OwnI.nil _ _ _ _, HB0.out.trans (HB1.out.mono HB0.out.size)⟩
  | true =>
    rw [hf] at HFT
    by_cases h1 : x < 0
    · have HR := Lib.hid (show showR p x y = [] from if_neg fun h => by omega)
      clear hf
      clear a0 a1 a2 a3 a4 hSL hML
      go_enter Try.func31, Try.ntmps31
      go_wp2_with (go_at_call 41; rw [HW.out]; (with_reducible refine (HFT.out).mono ?_); rintro e w1 ⟨rfl, hb1⟩; obtain ⟨c0, c1, c2, c3, c4⟩ := HAC.out _ hb1; have HB1 := Lib.hid hb1; clear hb1)
      go_ret
      exact ⟨none, 0, 0, rfl, by rw [HR.out]; exact OwnI.nil _ _ _ _, HB0.out.trans (HB1.out.mono HB0.out.size)⟩
    by_cases h2 : (p.k : Int) ≤ x
    · have HR := Lib.hid (show showR p x y = [] from if_neg fun h => by have := HSL.out; omega)
      clear hf
      clear a0 a1 a2 a3 a4 hSL hML
      go_enter Try.func31, Try.ntmps31
      go_wp2_with (go_at_call 41; rw [HW.out]; (with_reducible refine (HFT.out).mono ?_); rintro e w1 ⟨rfl, hb1⟩; obtain ⟨c0, c1, c2, c3, c4⟩ := HAC.out _ hb1; have HB1 := Lib.hid hb1; clear hb1)
      go_ret
      exact ⟨none, 0, 0, rfl, by rw [HR.out]; exact OwnI.nil _ _ _ _, HB0.out.trans (HB1.out.mono HB0.out.size)⟩
    by_cases h3 : y < 0
    · have HR := Lib.hid (show showR p x y = [] from if_neg fun h => by omega)
      clear hf
      clear a0 a1 a2 a3 a4 hSL hML
      go_enter Try.func31, Try.ntmps31
      go_wp2_with (go_at_call 41; rw [HW.out]; (with_reducible refine (HFT.out).mono ?_); rintro e w1 ⟨rfl, hb1⟩; obtain ⟨c0, c1, c2, c3, c4⟩ := HAC.out _ hb1; have HB1 := Lib.hid hb1; clear hb1)
      go_ret
      exact ⟨none, 0, 0, rfl, by rw [HR.out]; exact OwnI.nil _ _ _ _, HB0.out.trans (HB1.out.mono HB0.out.size)⟩
    by_cases h4 : 3 ≤ y
    · have HR := Lib.hid (show showR p x y = [] from if_neg fun h => by omega)
      clear hf
      clear a0 a1 a2 a3 a4 hSL hML
      go_enter Try.func31, Try.ntmps31
      go_wp2_with (go_at_call 41; rw [HW.out]; (with_reducible refine (HFT.out).mono ?_); rintro e w1 ⟨rfl, hb1⟩; obtain ⟨c0, c1, c2, c3, c4⟩ := HAC.out _ hb1; have HB1 := Lib.hid hb1; clear hb1)
      go_ret
      exact ⟨none, 0, 0, rfl, by rw [HR.out]; exact OwnI.nil _ _ _ _, HB0.out.trans (HB1.out.mono HB0.out.size)⟩
    obtain ⟨st, rfl⟩ := Int.eq_ofNat_of_zero_le (show 0 ≤ x by omega)
    have hff := fit_iff.1 hf
    have lst : st < p.s.length := by have := HSL.out; omega
    have HR := Lib.hid (show showTo (p.s.getD st Stg.zero).g y p.m.length = showR p (st : Int) y by rw [showR, if_pos ⟨hf, ⟨by omega, by omega⟩, by omega, by omega⟩, Int.toNat_natCast, showTo])
    obtain ⟨R, hR⟩ : ∃ R, showR p (st : Int) y = R := ⟨_, rfl⟩
    rw [hR] at HR ⊢
    have hmem : p.s.getD st Stg.zero ∈ p.s := by rw [List.getD_eq_getElem?_getD, List.getElem?_eq_getElem lst]; exact List.getElem_mem lst
    obtain ⟨hfr, -⟩ := hff.stage _ hmem
    obtain ⟨t, ht, ht2⟩ := set_nat (free_iff.1 hfr).2.1
    obtain ⟨hn8, -⟩ := may_rows HML.out hff.may
    have h8 := pow_le hn8
    have ht3 : t < 256 := by rw [HML.out] at ht2; omega
    have HHS0 := Lib.hid (fun (i : Nat) (hi : i < p.n) X hX => rhas_any p st i t X (HP.out X hX) (by have := HSL.out; omega) ht (by omega) (by omega))
    simp only [plV] at HHS0
    rw [ht, HML.out] at HR
    have est : ¬ (p.k ≤ st) := by have := HSL.out; omega
    have dst : decide (p.k ≤ st) = false := decide_eq_false est
    have fst : decide ((st : Int) < 0) = false := by simp
    have g3 : decide (y < 0) = false := decide_eq_false h3
    have g4 : decide (3 ≤ y) = false := decide_eq_false h4
    clear hf hff hR hmem hfr ht ht2 h1 h2 a0 a1 a2 a3 a4 hSL hML
    go_enter Try.func31, Try.ntmps31
    go_wp2_with (go_at_call 41; rw [HW.out]; (with_reducible refine (HFT.out).mono ?_); rintro e w1 ⟨rfl, hb1⟩; obtain ⟨c0, c1, c2, c3, c4⟩ := HAC.out _ hb1; have HB1 := Lib.hid hb1; clear hb1)
    clear c0 c1 c2 c3 c4
    go_loopw [8, 9] (fun v i wr => ∃ (g : Nat) (L : List Int), g ≤ p.n ∧ i = .int .i64 g ∧ L = showTo t y g ∧ OwnI .i64 3 wr W0.heap.size v L ∧ Below W0.heap.size W0 wr) (fun _ i _ => p.n - (intOf i).toNat)
    case atStart => exact ⟨0, [], by omega, rfl, rfl, OwnI.nil _ _ _ _, HB1.out⟩
    case round =>
      obtain ⟨g, L, hg, rfl, hL, hown, hbw⟩ := hrel
      have HO := Lib.hid hown
      have HBW := Lib.hid hbw
      have HL := Lib.hid hL
      have hLl : L.length ≤ 8 := by rw [hL, show_len]; omega
      obtain ⟨a0, a1, a2, a3, a4⟩ := HAC.out wr hbw
      clear hown hbw hL
      by_cases hlt : g < p.n
      · have hlt2 : (g : Int) < p.n := by omega
        have HHS := Lib.hid (HHS0.out g hlt)
        have hnx := show_next (t : Int) y g
        rw [← HL.out, lampP, bit_nat] at hnx
        obtain ⟨T, hT⟩ : ∃ T, t.testBit g = T := ⟨_, rfl⟩
        rw [hT] at HHS hnx
        clear hT
        cases T
        · have HN := Lib.hid (show L ++ [(0 : Int)] = showTo (t : Int) y (g + 1) by rw [hnx]; simp)
          clear hnx
          go_wp2_with (first
            | (go_at_call 47
               (with_reducible refine (HHS.out _ HBW.out).mono ?_)
               rintro e w3 ⟨rfl, hb3⟩
               have HB3 := Lib.hid (HBW.out.trans (hb3.mono HBW.out.size))
               have HO3 := Lib.hid (HO.out.below hb3)
               clear hb3)
            | (at_builtin
               refine wpList_append_i rfl 32 3 .i64 8 _ _ rfl Try.underlying32 (by kernel_rfl) (by omega) W0.heap.size u8 L rfl (HO3.out.more _) _ 1 1 [(0 : Int)] rfl (one_its .i64 3 _ (0)) (by omega) (Nat.le_trans HB3.out.size (size_le_alloc _ _)) ?_
               intro v5 w6 hown5 hg5
               have hB5 : Below W0.heap.size W0 w6 := (HB3.out.alloc HB3.out.size _).grown hg5 (Nat.le_trans HB3.out.size (size_le_alloc _ _)) (fun k hk => (HO3.out.size k hk).1)
               clear hg5))
          go_roundw
          case rel => exact ⟨g + 1, L ++ [(0 : Int)], by omega, by go_num, HN.out, hown5, hB5⟩
          case measure => simp [intOf]; omega
        · by_cases y0 : y = 0
          · subst y0
            have HN := Lib.hid (show L ++ [(2 : Int)] = showTo (t : Int) 0 (g + 1) by rw [hnx]; simp)
            clear hnx
            go_wp2_with (first
              | (go_at_call 47
                 (with_reducible refine (HHS.out _ HBW.out).mono ?_)
                 rintro e w3 ⟨rfl, hb3⟩
                 have HB3 := Lib.hid (HBW.out.trans (hb3.mono HBW.out.size))
                 have HO3 := Lib.hid (HO.out.below hb3)
                 clear hb3)
              | (at_builtin
                 refine wpList_append_i rfl 32 3 .i64 8 _ _ rfl Try.underlying32 (by kernel_rfl) (by omega) W0.heap.size u8 L rfl (HO3.out.more _) _ 1 1 [(2 : Int)] rfl (one_its .i64 3 _ (2)) (by omega) (Nat.le_trans HB3.out.size (size_le_alloc _ _)) ?_
                 intro v5 w6 hown5 hg5
                 have hB5 : Below W0.heap.size W0 w6 := (HB3.out.alloc HB3.out.size _).grown hg5 (Nat.le_trans HB3.out.size (size_le_alloc _ _)) (fun k hk => (HO3.out.size k hk).1)
                 clear hg5))
            go_roundw
            case rel => exact ⟨g + 1, L ++ [(2 : Int)], by omega, by go_num, HN.out, hown5, hB5⟩
            case measure => simp [intOf]; omega
          · have e0 : (y == 0) = false := by rw [beq_eq_false_iff_ne]; exact y0
            by_cases y1 : y = 1
            · subst y1
              have HN := Lib.hid (show L ++ [(1 : Int)] = showTo (t : Int) 1 (g + 1) by rw [hnx]; simp)
              clear hnx
              go_wp2_with (first
                | (go_at_call 47
                   (with_reducible refine (HHS.out _ HBW.out).mono ?_)
                   rintro e w3 ⟨rfl, hb3⟩
                   have HB3 := Lib.hid (HBW.out.trans (hb3.mono HBW.out.size))
                   have HO3 := Lib.hid (HO.out.below hb3)
                   clear hb3)
                | (at_builtin
                   refine wpList_append_i rfl 32 3 .i64 8 _ _ rfl Try.underlying32 (by kernel_rfl) (by omega) W0.heap.size u8 L rfl (HO3.out.more _) _ 1 1 [(1 : Int)] rfl (one_its .i64 3 _ (1)) (by omega) (Nat.le_trans HB3.out.size (size_le_alloc _ _)) ?_
                   intro v5 w6 hown5 hg5
                   have hB5 : Below W0.heap.size W0 w6 := (HB3.out.alloc HB3.out.size _).grown hg5 (Nat.le_trans HB3.out.size (size_le_alloc _ _)) (fun k hk => (HO3.out.size k hk).1)
                   clear hg5))
              go_roundw
              case rel => exact ⟨g + 1, L ++ [(1 : Int)], by omega, by go_num, HN.out, hown5, hB5⟩
              case measure => simp [intOf]; omega
            · have e1 : (y == 1) = false := by rw [beq_eq_false_iff_ne]; exact y1
              have HN := Lib.hid (show L ++ [(0 : Int)] = showTo (t : Int) y (g + 1) by rw [hnx]; simp [y0, y1])
              clear hnx
              go_wp2_with (first
                | (go_at_call 47
                   (with_reducible refine (HHS.out _ HBW.out).mono ?_)
                   rintro e w3 ⟨rfl, hb3⟩
                   have HB3 := Lib.hid (HBW.out.trans (hb3.mono HBW.out.size))
                   have HO3 := Lib.hid (HO.out.below hb3)
                   clear hb3)
                | (at_builtin
                   refine wpList_append_i rfl 32 3 .i64 8 _ _ rfl Try.underlying32 (by kernel_rfl) (by omega) W0.heap.size u8 L rfl (HO3.out.more _) _ 1 1 [(0 : Int)] rfl (one_its .i64 3 _ (0)) (by omega) (Nat.le_trans HB3.out.size (size_le_alloc _ _)) ?_
                   intro v5 w6 hown5 hg5
                   have hB5 : Below W0.heap.size W0 w6 := (HB3.out.alloc HB3.out.size _).grown hg5 (Nat.le_trans HB3.out.size (size_le_alloc _ _)) (fun k hk => (HO3.out.size k hk).1)
                   clear hg5))
              go_roundw
              case rel => exact ⟨g + 1, L ++ [(0 : Int)], by omega, by go_num, HN.out, hown5, hB5⟩
              case measure => simp [intOf]; omega
      · obtain rfl : g = p.n := by omega
        have hge : ¬ ((p.n : Int) < p.n) := by omega
        have htk : L = R := by rw [HL.out, HR.out]
        have hown := HO.out
        rw [htk] at hown
        obtain ⟨B, k, d, rfl, -⟩ := hown.its
        have hq := HB0.out.trans (HBW.out.mono HB0.out.size)
        clear htk HL HO hLl
        go_wp2
        go_ret
        exact ⟨_, _, _, rfl, hown.mono HB0.out.size, hq⟩
end Go.Proofs.Ytcgakgbnhlmcaaa


/- The walks over the document's Lamps and New. -/
namespace Go.Proofs.Ytcgakgbnhlmcaaa
set_option maxRecDepth 100000
set_option linter.unusedVariables false
set_option linter.unusedSimpArgs false
open Go.RowKit

set_option maxHeartbeats 8000000 in
theorem rlamps_own (A : Option Addr) (n c : Nat) (l : List Pl) (s : Sg) (w : World) (hl : Pls w A n c l) (hts : SmG s) : Calls Try.prog 16 #[.slice A n c, sgV s] w (GivesO (lampsS l s) w) := by
  have hsm := hl.small
  have HMY := Lib.hid (fun X (hX : Below w.heap.size w X) => rsmay_any A n c l s X (hl.below hX) hts)
  cases hm : mayS l s with
  | false =>
    rw [hm] at HMY
    have HR := Lib.hid (show lampsS l s = [] from if_neg (by rw [hm]; simp))
    simp only [sgV] at HMY ⊢
    clear hm hl
    obtain ⟨pl, st, nx, ph, t, hd, hh', ak, wt, sp⟩ := s
    simp only at *
    go_enter Try.func16, Try.ntmps16
    go_wp2_with (first
    | (go_at_call 11
       (with_reducible refine (HMY.out _ (one_alloc _ _)).mono ?_)
       rintro e w1 ⟨rfl, hb1⟩
       have hs1 := (hb1.block w.heap.size (by simp)).trans (heap_alloc_new w (.cells #[.int .i64 pl, .int .i64 st, .int .i64 nx, .int .i64 ph, .int .i64 t, .int .i64 hd, .int .i64 hh', .int .i64 ak, .int .i64 wt, .bool sp] 24))
       have HB1 := Lib.hid ((one_alloc w (.cells #[.int .i64 pl, .int .i64 st, .int .i64 nx, .int .i64 ph, .int .i64 t, .int .i64 hd, .int .i64 hh', .int .i64 ak, .int .i64 wt, .bool sp] 24)).trans (hb1.mono (size_le_alloc _ _)))
       clear hb1))
    go_ret
    exact ⟨none, 0, 0, rfl, by rw [HR.out]; exact OwnI.nil _ _ _ _, HB1.out⟩
  | true =>
    rw [hm] at HMY
    have hms := mayS_iff.1 hm
    have hpl0 := hms.p0
    have hpl1 : s.pl < n := by have := hms.p1; rw [hl.len] at this; exact this
    obtain ⟨j, hj⟩ := Int.eq_ofNat_of_zero_le hpl0
    have hjn : j < n := by omega
    obtain ⟨b, off, q, rfl, hq, hmem, -, -, -⟩ := hl.at_ j hjn
    have hqa : planAt l s.pl = q := by rw [hj, planAt, Int.toNat_natCast, hq]
    have HPC := Lib.hid (show ∀ X, Below w.heap.size w X → X.cell? ⟨b, off + j * 5, none⟩ = some (.slice q.A q.n q.c) ∧ X.cell? ⟨b, off + j * 5 + 1, none⟩ = some (.slice q.B q.k q.d) ∧ X.cell? ⟨b, off + j * 5 + 2, none⟩ = some (.int .i64 q.am) ∧ X.cell? ⟨b, off + j * 5 + 3, none⟩ = some (.int .i64 q.rd) ∧ X.cell? ⟨b, off + j * 5 + 4, none⟩ = some (.int .i64 q.hd) from fun X hX => by
      obtain ⟨b2, off2, p2, hA2, hp2, -, -, -, z0, z1, z2, z3, z4⟩ := (hl.below hX).at_ j hjn
      cases hA2
      obtain rfl := hq.symm.trans hp2
      exact ⟨z0, z1, z2, z3, z4⟩)
    have HQI := Lib.hid (show ∀ X, Below w.heap.size w X → PlIn X q from fun X hX => (hl.below hX).pl q hmem)
    have HSH := Lib.hid (fun X (hX : Below w.heap.size w X) => rlshow_own q s.st s.ph X (HQI.out X hX))
    have HR := Lib.hid (show lampsS l s = showR q s.st s.ph by rw [lampsS, if_pos hm, hqa])
    obtain ⟨G, hG⟩ : ∃ G, showR q s.st s.ph = G := ⟨_, rfl⟩
    rw [HR.out, hG]
    rw [hG] at HSH
    simp only [sgV] at HMY ⊢
    simp only [plV] at HSH
    have hj0 : 0 ≤ (j : Int) := by omega
    clear hG hm hl hms hqa hmem hq HR
    obtain ⟨pl, st, nx, ph, t, hd, hh', ak, wt, sp⟩ := s
    simp only at *
    subst hj
    go_enter Try.func16, Try.ntmps16
    go_wp2_with (first
    | (go_at_call 11
       (with_reducible refine (HMY.out _ (one_alloc _ _)).mono ?_)
       rintro e w1 ⟨rfl, hb1⟩
       have hs1 := (hb1.block w.heap.size (by simp)).trans (heap_alloc_new w (.cells #[.int .i64 (j : Int), .int .i64 st, .int .i64 nx, .int .i64 ph, .int .i64 t, .int .i64 hd, .int .i64 hh', .int .i64 ak, .int .i64 wt, .bool sp] 24))
       have HB1 := Lib.hid ((one_alloc w (.cells #[.int .i64 (j : Int), .int .i64 st, .int .i64 nx, .int .i64 ph, .int .i64 t, .int .i64 hd, .int .i64 hh', .int .i64 ak, .int .i64 wt, .bool sp] 24)).trans (hb1.mono (size_le_alloc _ _)))
       clear hb1))
    have HF := Lib.hid (show ∀ X, Below w1.heap.size w1 X → X.cell? ⟨w.heap.size, 0, none⟩ = some (.int .i64 (j : Int)) ∧ X.cell? ⟨w.heap.size, 1, none⟩ = some (.int .i64 st) ∧ X.cell? ⟨w.heap.size, 3, none⟩ = some (.int .i64 ph) ∧ X.cell? ⟨b, off + j * 5, none⟩ = some (.slice q.A q.n q.c) ∧ X.cell? ⟨b, off + j * 5 + 1, none⟩ = some (.slice q.B q.k q.d) ∧ X.cell? ⟨b, off + j * 5 + 2, none⟩ = some (.int .i64 q.am) ∧ X.cell? ⟨b, off + j * 5 + 3, none⟩ = some (.int .i64 q.rd) ∧ X.cell? ⟨b, off + j * 5 + 4, none⟩ = some (.int .i64 q.hd) from fun X hX => by
      obtain ⟨y0, y1, y2, y3, y4, y5, y6, y7, y8, y9⟩ := (show BoxG X w.heap.size ⟨(j : Int), st, nx, ph, t, hd, hh', ak, wt, sp⟩ from (hX.block w.heap.size (Array.getElem?_eq_some_iff.1 hs1).1).trans hs1).cells
      exact ⟨y0, y1, y3, HPC.out X (HB1.out.trans (hX.mono HB1.out.size))⟩)
    clear hs1
    have hSd : Below w1.heap.size w1 w1.drew := (Below.refl _ w1).drew
    refine wp_region_held_drew (S := fun X => Below w1.heap.size w1 X) (by kernel_rfl) hSd (fun hHeld => ?_)
    refine tk 0 (.slice (some ⟨b, off, none⟩) n c) hHeld (fun w => ?_) ?_
    · go_simp
    simp only [PT]
    refine tk 1 (.pointer (some ⟨w.heap.size, 0, none⟩)) hHeld (fun w => ?_) ?_
    · go_simp
    simp only [PT]
    refine tkS 2 (.int .i64 (j : Int)) hHeld (fun w hq => ?_) ?_
    · obtain ⟨z0, z1, z2, z3, z4, z5, z6, z7⟩ := HF.out w hq
      go_simp
    simp only [PT]
    refine tk 3 (.pointer (some ⟨b, off + j * 5, none⟩)) hHeld (fun w => ?_) ?_
    · go_simp
    simp only [PT]
    refine tkS 4 (.agg #[.slice q.A q.n q.c, .slice q.B q.k q.d, .int .i64 q.am, .int .i64 q.rd, .int .i64 q.hd]) hHeld (fun w hq => ?_) ?_
    · obtain ⟨z0, z1, z2, z3, z4, z5, z6, z7⟩ := HF.out w hq
      go_simp
    simp only [PT]
    refine tk 5 (.pointer (some ⟨w.heap.size, 1, none⟩)) hHeld (fun w => ?_) ?_
    · go_simp
    simp only [PT]
    refine tkS 6 (.int .i64 st) hHeld (fun w hq => ?_) ?_
    · obtain ⟨z0, z1, z2, z3, z4, z5, z6, z7⟩ := HF.out w hq
      go_simp
    simp only [PT]
    refine tk 7 (.pointer (some ⟨w.heap.size, 3, none⟩)) hHeld (fun w => ?_) ?_
    · go_simp
    simp only [PT]
    refine tkS 8 (.int .i64 ph) hHeld (fun w hq => ?_) ?_
    · obtain ⟨z0, z1, z2, z3, z4, z5, z6, z7⟩ := HF.out w hq
      go_simp
    simp only [PT]
    refine one_step 9 (by kernel_rfl) rfl (fun Kq hKq => ?_)
    go_simp
    go_at_call 31
    (with_reducible refine (HSH.out _ (HB1.out.trans (hSd.mono HB1.out.size))).mono ?_)
    rintro e y1 ⟨A1, n1, c1, rfl, ho1, hbx⟩
    have HO1 := Lib.hid ho1
    clear ho1
    have hS1 : Below w1.heap.size w1 y1 := hSd.trans (hbx.mono hSd.size)
    clear hbx
    refine hKq.out _ _ hS1 (fun hHeld0 => ?_)
    clear hKq Kq hHeld
    have hHeld := hHeld0
    clear hHeld0
    try simp only [PT]
    refine tk 10 (.slice A1 n1 c1) hHeld (fun w => ?_) ?_
    · go_simp
    simp only [PT]
    refine wpAnyH_done (by kernel_rfl) ?_ _
    clear hHeld
    go_wp2
    go_ret
    exact ⟨A1, n1, c1, rfl, HO1.out.mono (Nat.le_trans HB1.out.size (by simp)), HB1.out.trans (hS1.mono HB1.out.size)⟩
set_option maxHeartbeats 2000000 in
theorem rnew_any (w : World) : Calls Try.prog 21 #[] w (GivesG newG w) := by
  go_enter Try.func21, Try.ntmps21
  go_wp2
  refine bodyPost_ret (v := sgV newG) ?_ rfl ⟨rfl, one_alloc _ _⟩
  exact results_cell_row Try.results21 _ _ w.heap.size 24 newG.arr (0, 0) _ rfl (heap_alloc_new _ _) Try.underlying24 rfl info_sig
end Go.Proofs.Ytcgakgbnhlmcaaa


/- Rows that a call gathers, one behind the other. -/
namespace Go.Proofs.Ytcgakgbnhlmcaaa
set_option maxRecDepth 100000
set_option linter.unusedVariables false
set_option linter.unusedSimpArgs false
open Go.RowKit

/-- rows that lie in memory beyond a base, none of them in the block of the slice that holds them -/
structure RowsAt (w : World) (base : Nat) (v : Value) (rows : List Rw) : Prop where
  its : ∀ r ∈ rows, Its .i64 w r.A r.n r.c r.l
  off : ∀ r ∈ rows, ∀ b o, r.A = some ⟨b, o, none⟩ → base ≤ b ∧ b < w.heap.size ∧ v.ownBlock ≠ some b
section
variable {w w' : World} {base : Nat} {v v' : Value} {rows : List Rw}
theorem RowsAt.nil (w : World) (base : Nat) (v : Value) : RowsAt w base v [] := ⟨fun r hr => (by cases hr), fun r hr => (by cases hr)⟩
theorem RowsAt.below (h : RowsAt w base v rows) (hb : Below w.heap.size w w') : RowsAt w' base v rows :=
  ⟨fun r hr => (h.its r hr).below hb, fun r hr b o e => ⟨(h.off r hr b o e).1, Nat.lt_of_lt_of_le (h.off r hr b o e).2.1 hb.size, (h.off r hr b o e).2.2⟩⟩
/-- a store below the base -/
theorem RowsAt.low {g : Nat} (h : RowsAt w base v rows) (hg : w.grownBy w' (some g)) (hlt : g < base) (hz : w'.heap.size = w.heap.size) : RowsAt w' base v rows :=
  ⟨fun r hr => (h.its r hr).grown hg (fun b o e => ne_some (by have := (h.off r hr b o e).1; omega)), fun r hr b o e => by rw [hz]; exact h.off r hr b o e⟩
/-- the slice grows -/
theorem RowsAt.turn (h : RowsAt w base v rows) (hg : w.grownBy w' v.ownBlock) (hv : v'.ownBlock = v.ownBlock ∨ v'.ownBlock = some w.heap.size) (hs : w.heap.size ≤ w'.heap.size) : RowsAt w' base v' rows :=
  ⟨fun r hr => (h.its r hr).grown hg (fun b o e => fun e2 => (h.off r hr b o e).2.2 e2.symm), fun r hr b o e => by
    obtain ⟨h1, h2, h3⟩ := h.off r hr b o e
    refine ⟨h1, by omega, ?_⟩
    rcases hv with hv | hv
    · rw [hv]; exact h3
    · rw [hv]; exact ne_some (by omega)⟩
theorem RowsAt.snoc (h : RowsAt w base v rows) {r : Rw} (hi : Its .i64 w r.A r.n r.c r.l) (ho : ∀ b o, r.A = some ⟨b, o, none⟩ → base ≤ b ∧ b < w.heap.size ∧ v.ownBlock ≠ some b) : RowsAt w base v (rows ++ [r]) := by
  refine ⟨fun x hx => ?_, fun x hx => ?_⟩
  · rcases List.mem_append.1 hx with hx | hx
    · exact h.its x hx
    · rw [List.mem_singleton.1 hx]; exact hi
  · rcases List.mem_append.1 hx with hx | hx
    · exact h.off x hx
    · rw [List.mem_singleton.1 hx]; exact ho
end
/-- a row in memory of a call's own lies beyond its base -/
theorem own_at {w : World} {base : Nat} {A : Option Addr} {n c : Nat} {l : List Int} (h : OwnI .i64 3 w base (.slice A n c) l) : Its .i64 w A n c l ∧ ∀ b o, A = some ⟨b, o, none⟩ → base ≤ b ∧ b < w.heap.size := by
  obtain ⟨B, m, d, e, hi⟩ := h.its
  cases e
  exact ⟨hi, fun b o e => h.size b (by rw [e]; rfl)⟩
theorem other_blocks {e : TypeId} {k i base : Nat} {w w' : World} {v : Value} {rows : List (List Value)} (hg : w.grownBy w' v.ownBlock) (ho : OwnR e k w base v rows) (hi : i < base) (hlt : i < w.heap.size) : w'.heap[i]? = w.heap[i]? := hg.block i hlt (fun e => by have := (ho.size i e.symm).1; omega)
theorem info_rows : (Try.prog.info? 32).map (fun i => (i.zero.map (·.cells.size), i.size, i.bytes)) = some (some 1, 1, 24) := by kernel_rfl
theorem results_blk_val {fn : Func} {p u : Tmp} {ty : TypeId} (h : fn.results = #[.cell p ty, .tmp u]) (tmps : Array Value) (P : Program) (w : World) (g : Nat) (t : TypeId) (cs : Array Value) (fr : Nat × Nat) (d : TypeDesc)
    (hp : tmps.getD p undef = .pointer (some ⟨g, 0, none⟩)) (hg : w.heap[g]? = some (.cells cs t fr))
    (hu : P.underlying ty = some d) (hd : d.isRow = true) (hi : (P.info? ty).map (·.size) = some cs.size) (v : Value) (hv : tmps.getD u undef = v) :
    (results fn tmps).run P w = .ok (.tuple #[.agg cs, v]) w := by
  rw [results_cell_tmp h, hp, hv]
  simp [asAddr, run_loadVar_row w g t ty cs fr d hg hu (by cases d <;> simp_all) hi]
end Go.Proofs.Ytcgakgbnhlmcaaa


/- The walk over the document's Run. -/
namespace Go.Proofs.Ytcgakgbnhlmcaaa
set_option maxRecDepth 100000
set_option linter.unusedVariables false
set_option linter.unusedSimpArgs false
open Go.RowKit

set_option maxHeartbeats 8000000 in
theorem rrun_no (A : Option Addr) (n c : Nat) (l : List Pl) (s : Sg) (x : Int) (w : World) (hl : Pls w A n c l) (hts : SmG s) (hno : runOk l s x = false) : Calls Try.prog 13 #[.slice A n c, sgV s, .int .i64 x] w (GivesGL (runG l s x) (runL l s x) w) := by
  have HMY := Lib.hid (fun X (hX : Below w.heap.size w X) => rsmay_any A n c l s X (hl.below hX) hts)
  have HR1 := Lib.hid (show runG l s x = s from if_neg (by rw [hno]; simp))
  have HR2 := Lib.hid (show runL l s x = [] from if_neg (by rw [hno]; simp))
  rw [HR1.out, HR2.out]
  have hcase : mayS l s = false ∨ x < 0 ∨ 2000 < x := by
    rw [runOk, Bool.and_eq_false_iff, decide_eq_false_iff_not] at hno
    rcases hno with h | h
    · exact .inl h
    · right; omega
  obtain ⟨m, hm⟩ : ∃ m, mayS l s = m := ⟨_, rfl⟩
  rw [hm] at HMY hcase
  have hsv : sgV s = .agg #[.int .i64 s.pl, .int .i64 s.st, .int .i64 s.nx, .int .i64 s.ph, .int .i64 s.t, .int .i64 s.hd, .int .i64 s.hl, .int .i64 s.ak, .int .i64 s.wt, .bool s.sp] := rfl
  simp only [sgV] at HMY ⊢
  clear hno hl hm hsv HR1 HR2
  obtain ⟨pl, st, nx, ph, t, hd, hh', ak, wt, sp⟩ := s
  simp only at *
  have hthree : m = false ∨ (m = true ∧ x < 0) ∨ (m = true ∧ 0 ≤ x ∧ 2000 < x) := by
    cases m
    · exact .inl rfl
    · rcases hcase with h | h | h
      · cases h
      · exact .inr (.inl ⟨rfl, h⟩)
      · exact .inr (.inr ⟨rfl, by omega, h⟩)
  clear hcase
  rcases hthree with rfl | ⟨rfl, h1⟩ | ⟨rfl, h1, h2⟩
  all_goals
    go_enter Try.func13, Try.ntmps13
    go_wp2_with (first
    | (go_at_call 11
       (with_reducible refine (HMY.out _ (below_alloc2 _ _ _)).mono ?_)
       rintro e w1 ⟨rfl, hb1⟩
       have hs1 := (hb1.block w.heap.size (by simp; omega)).trans (alloc2_old w (.cells #[.int .i64 pl, .int .i64 st, .int .i64 nx, .int .i64 ph, .int .i64 t, .int .i64 hd, .int .i64 hh', .int .i64 ak, .int .i64 wt, .bool sp] 24) (.cells #[.int .i64 0, .int .i64 0, .int .i64 0, .int .i64 0, .int .i64 0, .int .i64 0, .int .i64 0, .int .i64 0, .int .i64 0, .bool false] 24))
       have hr1 := (hb1.block (w.heap.size + 1) (by simp)).trans (alloc2_new w (.cells #[.int .i64 pl, .int .i64 st, .int .i64 nx, .int .i64 ph, .int .i64 t, .int .i64 hd, .int .i64 hh', .int .i64 ak, .int .i64 wt, .bool sp] 24) (.cells #[.int .i64 0, .int .i64 0, .int .i64 0, .int .i64 0, .int .i64 0, .int .i64 0, .int .i64 0, .int .i64 0, .int .i64 0, .bool false] 24))
       have hn1 : w.heap.size + 1 < w1.heap.size := Nat.lt_of_lt_of_le (by simp) hb1.size
       have HB1 := Lib.hid ((below_alloc2 w (.cells #[.int .i64 pl, .int .i64 st, .int .i64 nx, .int .i64 ph, .int .i64 t, .int .i64 hd, .int .i64 hh', .int .i64 ak, .int .i64 wt, .bool sp] 24) (.cells #[.int .i64 0, .int .i64 0, .int .i64 0, .int .i64 0, .int .i64 0, .int .i64 0, .int .i64 0, .int .i64 0, .int .i64 0, .bool false] 24)).trans (hb1.mono (by simp; omega)))
       obtain ⟨c0, c1, c2, c3, c4, c5, c6, c7, c8, c9⟩ := (show BoxG w1 w.heap.size ⟨pl, st, nx, ph, t, hd, hh', ak, wt, sp⟩ from hs1).cells
       simp only at c0 c1 c2 c3 c4 c5 c6 c7 c8 c9
       clear hb1)
    | ((with_reducible refine wpList_store_part rfl 24 _ _ rfl (w.heap.size + 1) 0 (.agg #[.int .i64 pl, .int .i64 st, .int .i64 nx, .int .i64 ph, .int .i64 t, .int .i64 hd, .int .i64 hh', .int .i64 ak, .int .i64 wt, .bool sp]) #[.int .i64 pl, .int .i64 st, .int .i64 nx, .int .i64 ph, .int .i64 t, .int .i64 hd, .int .i64 hh', .int .i64 ak, .int .i64 wt, .bool sp] ?hx9 ?hy9 ?hv9 24 #[.int .i64 0, .int .i64 0, .int .i64 0, .int .i64 0, .int .i64 0, .int .i64 0, .int .i64 0, .int .i64 0, .int .i64 0, .bool false] #[.int .i64 pl, .int .i64 st, .int .i64 nx, .int .i64 ph, .int .i64 t, .int .i64 hd, .int .i64 hh', .int .i64 ak, .int .i64 wt, .bool sp] hr1 ?hi9 ?hl9 ?ho9 ?hn9 ?_); (case hx9 => rfl); (case hy9 => rfl); (case hv9 => rfl); (case hi9 => exact info_sig); (case hl9 => simp); (case ho9 => exact one_sig _ _ _ _ _ _ _ _ _ _); (case hn9 => rfl)
       intro w9 hg9 hr9 hz9
       have HB9 := Lib.hid (Below.grows HB1.out hg9 HB1.out.size (by omega))
       clear hg9))
    refine bodyPost_ret (v := .tuple #[.agg #[.int .i64 pl, .int .i64 st, .int .i64 nx, .int .i64 ph, .int .i64 t, .int .i64 hd, .int .i64 hh', .int .i64 ak, .int .i64 wt, .bool sp], .slice none 0 0]) ?_ rfl ⟨none, 0, 0, [], rfl, Lns.nil _, rfl, HB9.out⟩
    exact results_blk_val Try.results13 _ _ _ (w.heap.size + 1) 24 #[.int .i64 pl, .int .i64 st, .int .i64 nx, .int .i64 ph, .int .i64 t, .int .i64 hd, .int .i64 hh', .int .i64 ak, .int .i64 wt, .bool sp] (0, 0) _ rfl hr9 Try.underlying24 rfl info_sig _ rfl
set_option maxHeartbeats 8000000 in
theorem rrun_yes (A : Option Addr) (n c : Nat) (l : List Pl) (s : Sg) (N : Nat) (w : World) (hl : Pls w A n c l) (hm : MayS l s) (hN : N ≤ 2000) : Calls Try.prog 13 #[.slice A n c, sgV s, .int .i64 (N : Int)] w (GivesGL (ticksS l s N) (rowsS l s N) w) := by
  have hts : SmG s := small_may hm
  have HMY := Lib.hid (fun X (hX : Below w.heap.size w X) => rsmay_any A n c l s X (hl.below hX) hts)
  rw [mayS_iff.2 hm] at HMY
  have HTK := Lib.hid (fun (k : Nat) X (hX : Below w.heap.size w X) => rtick_any A n c l (ticksS l s k) X (hl.below hX) (small_may (may_ticks hm k)))
  have HLP := Lib.hid (fun (k : Nat) X (hX : Below w.heap.size w X) => rlamps_own A n c l (ticksS l s k) X (hl.below hX) (small_may (may_ticks hm k)))
  have HT0 := Lib.hid (show ticksS l s 0 = s from rfl)
  have HTS := Lib.hid (fun k => (show ticksS l s (k + 1) = tickS l (ticksS l s k) from rfl))
  have HRS := Lib.hid (fun k => (show rowsS l s (k + 1) = rowsS l s k ++ [lampsS l (ticksS l s (k + 1))] from rfl))
  have HRL := Lib.hid (rows_len l s)
  have hN0 : 0 ≤ (N : Int) := by omega
  have hN2 : (N : Int) ≤ 2000 := by omega
  obtain ⟨T, hT⟩ : ∃ T, ticksS l s = T := ⟨_, rfl⟩
  obtain ⟨R, hR⟩ : ∃ R, rowsS l s = R := ⟨_, rfl⟩
  have HR0 := Lib.hid (show R 0 = [] by rw [← hR]; rfl)
  rw [hT] at HTK HLP HT0 HTS HRS ⊢
  rw [hR] at HRS HRL ⊢
  simp only [sgV] at HMY HTK HLP ⊢
  clear hT hR hm
  obtain ⟨pl, st, nx, ph, t, hd, hh', ak, wt, sp⟩ := s
  simp only at *
  go_enter Try.func13, Try.ntmps13
  go_wp2_with (first
    | (go_at_call 11
       (with_reducible refine (HMY.out _ (below_alloc2 _ _ _)).mono ?_)
       rintro e w1 ⟨rfl, hb1⟩
       have hs1 := (hb1.block w.heap.size (by simp; omega)).trans (alloc2_old w (.cells #[.int .i64 pl, .int .i64 st, .int .i64 nx, .int .i64 ph, .int .i64 t, .int .i64 hd, .int .i64 hh', .int .i64 ak, .int .i64 wt, .bool sp] 24) (.cells #[.int .i64 0, .int .i64 0, .int .i64 0, .int .i64 0, .int .i64 0, .int .i64 0, .int .i64 0, .int .i64 0, .int .i64 0, .bool false] 24))
       have hr1 := (hb1.block (w.heap.size + 1) (by simp)).trans (alloc2_new w (.cells #[.int .i64 pl, .int .i64 st, .int .i64 nx, .int .i64 ph, .int .i64 t, .int .i64 hd, .int .i64 hh', .int .i64 ak, .int .i64 wt, .bool sp] 24) (.cells #[.int .i64 0, .int .i64 0, .int .i64 0, .int .i64 0, .int .i64 0, .int .i64 0, .int .i64 0, .int .i64 0, .int .i64 0, .bool false] 24))
       have hn1 : w.heap.size + 1 < w1.heap.size := Nat.lt_of_lt_of_le (by simp) hb1.size
       have HB1 := Lib.hid ((below_alloc2 w (.cells #[.int .i64 pl, .int .i64 st, .int .i64 nx, .int .i64 ph, .int .i64 t, .int .i64 hd, .int .i64 hh', .int .i64 ak, .int .i64 wt, .bool sp] 24) (.cells #[.int .i64 0, .int .i64 0, .int .i64 0, .int .i64 0, .int .i64 0, .int .i64 0, .int .i64 0, .int .i64 0, .int .i64 0, .bool false] 24)).trans (hb1.mono (by simp; omega)))
       clear hb1))
  go_loopw [9, 10] (fun v i wr => ∃ (j : Nat) (rows : List Rw), j ≤ N ∧ i = .int .i64 j ∧ OwnR 32 1 wr (w.heap.size + 2) v (rows.map Rw.row) ∧ RowsAt wr (w.heap.size + 2) v rows ∧ rows.map Rw.l = R j ∧ BoxG wr w.heap.size (T j) ∧ wr.heap[w.heap.size + 1]? = some (.cells #[.int .i64 0, .int .i64 0, .int .i64 0, .int .i64 0, .int .i64 0, .int .i64 0, .int .i64 0, .int .i64 0, .int .i64 0, .bool false] 24 (0, 0)) ∧ Below w.heap.size w wr) (fun _ i _ => N - (intOf i).toNat)
  case atStart => exact ⟨0, [], by omega, rfl, OwnR.nil _ _ _ _, RowsAt.nil _ _ _, by rw [HR0.out]; rfl, by rw [HT0.out]; exact hs1, hr1, HB1.out⟩
  case round =>
    obtain ⟨j, rows, hj, rfl, hown, hat, hrw, hbx, hr0, hbw⟩ := hrel
    have HBW := Lib.hid hbw
    have HAT := Lib.hid hat
    have HRW := Lib.hid hrw
    have HO := Lib.hid hown
    have HBX := Lib.hid hbx
    have hlen : rows.length = j := by have := congrArg List.length hrw; rw [List.length_map, HRL.out] at this; exact this
    have hn2 : w.heap.size + 1 < wr.heap.size := (Array.getElem?_eq_some_iff.1 hr0).1
    obtain ⟨c0, c1, c2, c3, c4, c5, c6, c7, c8, c9⟩ := hbx.cells
    by_cases hlt : j < N
    · have hlt2 : (j : Int) < N := by omega
      have HTJ := Lib.hid (HTK.out j)
      have HLJ := Lib.hid (HLP.out (j + 1))
      have HTE := Lib.hid (HTS.out j)
      rw [← HTE.out] at HTJ
      have HRJ := Lib.hid (HRS.out j)
      obtain ⟨u, hu⟩ : ∃ u, T j = u := ⟨_, rfl⟩
      obtain ⟨g, hg⟩ : ∃ g, T (j + 1) = g := ⟨_, rfl⟩
      rw [hu] at c0 c1 c2 c3 c4 c5 c6 c7 c8 c9 hbx HTJ
      rw [hg] at HTJ HLJ
      have HG := Lib.hid hg
      clear hown hat hrw hbw hu hg HTE
      go_wp2_with (first
        | (go_at_call 19
           (with_reducible refine (HTJ.out _ HBW.out).mono ?_)
           rintro e w3 ⟨rfl, hb3⟩
           have hs3 := (hb3.block w.heap.size (by omega)).trans hbx
           have hr3 := (hb3.block (w.heap.size + 1) (by omega)).trans hr0
           have hn3 : w.heap.size + 1 < w3.heap.size := Nat.lt_of_lt_of_le hn2 hb3.size
           have HO3 := Lib.hid (HO.out.below hb3)
           have HA3 := Lib.hid (HAT.out.below hb3)
           have HB3 := Lib.hid (HBW.out.trans (hb3.mono HBW.out.size))
           clear hb3)
        | ((with_reducible refine wpList_store_part rfl 24 _ _ rfl w.heap.size 0 (.agg #[.int .i64 g.pl, .int .i64 g.st, .int .i64 g.nx, .int .i64 g.ph, .int .i64 g.t, .int .i64 g.hd, .int .i64 g.hl, .int .i64 g.ak, .int .i64 g.wt, .bool g.sp]) #[.int .i64 g.pl, .int .i64 g.st, .int .i64 g.nx, .int .i64 g.ph, .int .i64 g.t, .int .i64 g.hd, .int .i64 g.hl, .int .i64 g.ak, .int .i64 g.wt, .bool g.sp] ?hx4 ?hy4 ?hv4 24 #[.int .i64 u.pl, .int .i64 u.st, .int .i64 u.nx, .int .i64 u.ph, .int .i64 u.t, .int .i64 u.hd, .int .i64 u.hl, .int .i64 u.ak, .int .i64 u.wt, .bool u.sp] #[.int .i64 g.pl, .int .i64 g.st, .int .i64 g.nx, .int .i64 g.ph, .int .i64 g.t, .int .i64 g.hd, .int .i64 g.hl, .int .i64 g.ak, .int .i64 g.wt, .bool g.sp] hs3 ?hi4 ?hl4 ?ho4 ?hn4 ?_); (case hx4 => rfl); (case hy4 => rfl); (case hv4 => rfl); (case hi4 => exact info_sig); (case hl4 => simp); (case ho4 => exact one_sig _ _ _ _ _ _ _ _ _ _); (case hn4 => rfl)
           intro w4 hg4 hs4 hz4
           have hr4 := (other_block hg4 (show w.heap.size + 1 ≠ w.heap.size by omega) (by omega)).trans hr3
           have hn4 : w.heap.size + 1 < w4.heap.size := by omega
           have HO4 := Lib.hid (HO3.out.far hg4 (by
             rcases hq : Value.ownBlock _ with _ | k
             · exact .inl rfl
             · exact .inr (ne_some (by have := (HO3.out.size k hq).1; omega))))
           have HA4 := Lib.hid (HA3.out.low hg4 (by omega) hz4)
           have HB4 := Lib.hid (Below.grows HB3.out hg4 HB3.out.size (Nat.le_refl _))
           obtain ⟨d0, d1, d2, d3, d4, d5, d6, d7, d8, d9⟩ := (show BoxG w4 w.heap.size g from hs4).cells
           clear hg4)
        | (go_at_call 16
           (with_reducible refine (HLJ.out _ HB4.out).mono ?_)
           rintro e w5 ⟨A1, n1, c1', rfl, ho5, hb5⟩
           have hs5 := (hb5.block w.heap.size (by omega)).trans hs4
           have hr5 := (hb5.block (w.heap.size + 1) (by omega)).trans hr4
           have hn5 : w.heap.size + 1 < w5.heap.size := Nat.lt_of_lt_of_le hn4 hb5.size
           obtain ⟨hi5, hat5⟩ := own_at ho5
           have HI5 := Lib.hid hi5
           have HT5 := Lib.hid (show ∀ b o, A1 = some ⟨b, o, none⟩ → w.heap.size + 2 ≤ b ∧ b < w5.heap.size ∧ Value.ownBlock _ ≠ some b from fun b o e => ⟨by have := (hat5 b o e).1; omega, (hat5 b o e).2, fun e2 => by have := (HO4.out.size b e2).2; have := (hat5 b o e).1; omega⟩)
           have HO5 := Lib.hid (HO4.out.below hb5)
           have HA5 := Lib.hid (HA4.out.below hb5)
           have HB5 := Lib.hid (HB4.out.trans (hb5.mono HB4.out.size))
           clear hb5 hi5 hat5 ho5)
        | (at_builtin
           have hbb := one_alloc w5 (.cells #[.slice A1 n1 c1'] 32)
           refine wpList_append_r_at rfl 28 32 1 24 _ _ rfl Try.underlying28 info_rows (by omega) (w.heap.size + 2) _ _ rfl (HO5.out.below hbb) (some ⟨w5.heap.size, 0, none⟩) 1 1 [[.slice A1 n1 c1']] rfl (one_rws 1 32 w5 [.slice A1 n1 c1'] rfl (fun v hv => by rw [List.mem_singleton.1 hv]; rfl)) (by rw [List.length_map]; omega) (by rw [List.length_map]; omega) (by simp; omega) ?_
           intro v6 w6 hown6 hg6 hv6
           have HA6 := Lib.hid ((((HA5.out.below hbb).snoc (r := ⟨A1, n1, c1', _⟩) (HI5.out.below hbb) (fun b o e => ⟨(HT5.out b o e).1, Nat.lt_of_lt_of_le (HT5.out b o e).2.1 hbb.size, (HT5.out b o e).2.2⟩))).turn hg6 hv6 hg6.size)
           have hs6 := (other_blocks hg6 (HO5.out.below hbb) (show w.heap.size < w.heap.size + 2 by omega) (by simp; omega)).trans ((hbb.block w.heap.size (by omega)).trans hs5)
           have hr6 := (other_blocks hg6 (HO5.out.below hbb) (show w.heap.size + 1 < w.heap.size + 2 by omega) (by simp; omega)).trans ((hbb.block (w.heap.size + 1) (by omega)).trans hr5)
           have HB6 := Lib.hid ((HB5.out.trans (hbb.mono HB5.out.size)).grown hg6 (Nat.le_trans HB5.out.size hbb.size) (fun k hk => by have := ((HO5.out.below hbb).size k hk).1; omega))
           clear hbb hg6 hv6))
      go_roundw
      case rel => exact ⟨j + 1, rows ++ [⟨A1, n1, c1', _⟩], by omega, by go_num, by rw [List.map_append]; exact hown6, HA6.out, by rw [List.map_append, HRW.out, HRJ.out, HG.out]; rfl, by rw [HG.out]; exact hs6, hr6, HB6.out⟩
      case measure => simp [intOf]; omega
    · obtain rfl : j = N := by omega
      have hge : ¬ ((j : Int) < j) := by omega
      obtain ⟨u, hu⟩ : ∃ u, T j = u := ⟨_, rfl⟩
      rw [hu] at c0 c1 c2 c3 c4 c5 c6 c7 c8 c9 hbx
      have HU := Lib.hid hu
      obtain ⟨A2, n2, d2, rfl, hrs⟩ := hown.rws
      clear hown hat hrw hu
      have hr1 := hr0
      have HB1 := Lib.hid hbw
      clear hbw
      go_wp2_with (first
    | ((with_reducible refine wpList_store_part rfl 24 _ _ rfl (w.heap.size + 1) 0 (.agg #[.int .i64 u.pl, .int .i64 u.st, .int .i64 u.nx, .int .i64 u.ph, .int .i64 u.t, .int .i64 u.hd, .int .i64 u.hl, .int .i64 u.ak, .int .i64 u.wt, .bool u.sp]) #[.int .i64 u.pl, .int .i64 u.st, .int .i64 u.nx, .int .i64 u.ph, .int .i64 u.t, .int .i64 u.hd, .int .i64 u.hl, .int .i64 u.ak, .int .i64 u.wt, .bool u.sp] ?hx9 ?hy9 ?hv9 24 #[.int .i64 0, .int .i64 0, .int .i64 0, .int .i64 0, .int .i64 0, .int .i64 0, .int .i64 0, .int .i64 0, .int .i64 0, .bool false] #[.int .i64 u.pl, .int .i64 u.st, .int .i64 u.nx, .int .i64 u.ph, .int .i64 u.t, .int .i64 u.hd, .int .i64 u.hl, .int .i64 u.ak, .int .i64 u.wt, .bool u.sp] hr1 ?hi9 ?hl9 ?ho9 ?hn9 ?_); (case hx9 => rfl); (case hy9 => rfl); (case hv9 => rfl); (case hi9 => exact info_sig); (case hl9 => simp); (case ho9 => exact one_sig _ _ _ _ _ _ _ _ _ _); (case hn9 => rfl)
       intro w9 hg9 hr9 hz9
       have HB9 := Lib.hid (Below.grows HB1.out hg9 HB1.out.size (by omega))
       have HR9 := Lib.hid (hrs.grown hg9 (fun b o e => ne_some (by have := (HO.out.size b (by rw [e]; rfl)).1; omega)))
       have HA9 := Lib.hid (HAT.out.low hg9 (by omega) hz9)
       clear hg9))
      refine bodyPost_ret (v := .tuple #[.agg #[.int .i64 u.pl, .int .i64 u.st, .int .i64 u.nx, .int .i64 u.ph, .int .i64 u.t, .int .i64 u.hd, .int .i64 u.hl, .int .i64 u.ak, .int .i64 u.wt, .bool u.sp], .slice A2 n2 d2]) ?_ rfl ⟨A2, n2, d2, rows, by rw [HU.out]; rfl, ⟨HR9.out, HA9.out.its⟩, HRW.out, HB9.out⟩
      exact results_blk_val Try.results13 _ _ _ (w.heap.size + 1) 24 #[.int .i64 u.pl, .int .i64 u.st, .int .i64 u.nx, .int .i64 u.ph, .int .i64 u.t, .int .i64 u.hd, .int .i64 u.hl, .int .i64 u.ak, .int .i64 u.wt, .bool u.sp] (0, 0) _ rfl hr9 Try.underlying24 rfl info_sig _ rfl
theorem rrun_any (A : Option Addr) (n c : Nat) (l : List Pl) (s : Sg) (x : Int) (w : World) (hl : Pls w A n c l) (hts : SmG s) : Calls Try.prog 13 #[.slice A n c, sgV s, .int .i64 x] w (GivesGL (runG l s x) (runL l s x) w) := by
  cases hr : runOk l s x
  · exact rrun_no A n c l s x w hl hts hr
  · have h := hr
    rw [runOk, Bool.and_eq_true, decide_eq_true_eq] at h
    obtain ⟨hm, h0, h2⟩ := h
    obtain ⟨N, rfl⟩ := Int.eq_ofNat_of_zero_le h0
    rw [runG, runL, if_pos hr, if_pos hr, Int.toNat_natCast]
    exact rrun_yes A n c l s N w hl (mayS_iff.1 hm) (by omega)
end Go.Proofs.Ytcgakgbnhlmcaaa


/- The walk over the document's Rows. -/
namespace Go.Proofs.Ytcgakgbnhlmcaaa
set_option maxRecDepth 100000
set_option linter.unusedVariables false
set_option linter.unusedSimpArgs false
open Go.RowKit

theorem rows_take {a b : List Rw} {j : Nat} (hj : j < a.length) (hk : j < b.length) (h : (a.map Rw.l).take j = (b.map Rw.l).take j) (he : (a.getD j Rw.zero).l = (b.getD j Rw.zero).l) : (a.map Rw.l).take (j + 1) = (b.map Rw.l).take (j + 1) := by
  rw [List.take_succ_eq_append_getElem (by rw [List.length_map]; exact hj), List.take_succ_eq_append_getElem (by rw [List.length_map]; exact hk), h]
  rw [List.getD_eq_getElem?_getD, List.getD_eq_getElem?_getD, List.getElem?_eq_getElem hj, List.getElem?_eq_getElem hk] at he
  simp only [Option.getD_some] at he
  simp [he]
theorem rows_differ {a b : List Rw} {j : Nat} (hj : j < a.length) (hk : j < b.length) (he : (a.getD j Rw.zero).l ≠ (b.getD j Rw.zero).l) : a.map Rw.l ≠ b.map Rw.l := fun h => he (by
  have h1 : (a.map Rw.l)[j]? = (b.map Rw.l)[j]? := by rw [h]
  rw [List.getElem?_map, List.getElem?_map, List.getElem?_eq_getElem hj, List.getElem?_eq_getElem hk] at h1
  simp only [Option.map_some, Option.some.injEq] at h1
  rw [List.getD_eq_getElem?_getD, List.getD_eq_getElem?_getD, List.getElem?_eq_getElem hj, List.getElem?_eq_getElem hk]
  exact h1)
theorem list_same {a b : List Int} {k : Nat} (ha : a.length = k) (hb : b.length = k) (h : ∀ j, j < k → a.getD j 0 = b.getD j 0) : a = b := by
  refine List.ext_getElem (by omega) fun j h1 h2 => ?_
  have := h j (by omega)
  simpa [List.getD_eq_getElem?_getD, h1, h2] using this
set_option maxHeartbeats 8000000 in
theorem rrows_any (A B : Option Addr) (n c m d : Nat) (ra rb : List Rw) (w : World) (ha : Lns w A n c ra) (hb : Lns w B m d rb) :
    Calls Try.prog 14 #[.slice A n c, .slice B m d] w fun e w' => e = .returned (.bool (decide (ra.map Rw.l = rb.map Rw.l))) ∧ Below w.heap.size w w' := by
  have hna := ha.small
  have hmb := hb.small
  have HAL := Lib.hid ha.len
  have HBL := Lib.hid hb.len
  by_cases hnm : n = m
  · subst hnm
    have hne0 : ((n : Int) != (n : Int)) = false := by simp
    have HA := Lib.hid ha
    have HB := Lib.hid hb
    clear ha hb
    go_enter Try.func14, Try.ntmps14
    go_wp2
    go_loopw [5, 6] (fun i k wr => ∃ j : Nat, j ≤ n ∧ i = .int .i64 j ∧ (ra.map Rw.l).take j = (rb.map Rw.l).take j ∧ Below w.heap.size w wr) (fun i _ _ => n - (intOf i).toNat)
    case atStart => exact ⟨0, by omega, rfl, rfl, Below.refl _ _⟩
    case round =>
      obtain ⟨j, hj, rfl, htk, hbw⟩ := hrel
      have HBW := Lib.hid hbw
      have HTK := Lib.hid htk
      clear htk hbw
      by_cases hlt : j < n
      · have hlt2 : (j : Int) < n := by omega
        have q0 : 0 ≤ (j : Int) := by omega
        obtain ⟨b, off, x, hA, hx, hmx, -, hix, hzx⟩ := HA.out.at_ j hlt
        obtain ⟨b', off', y, hB, hy, hmy, -, hiy, hzy⟩ := HB.out.at_ j hlt
        subst hA
        subst hB
        have hxl := hix.len
        have hyl := hiy.len
        have hxs := hix.small
        have hys := hiy.small
        have HIX := Lib.hid (show ∀ X, Below w.heap.size w X → X.cell? ⟨b, off + j, none⟩ = some (.slice x.A x.n x.c) ∧ X.cell? ⟨b', off' + j, none⟩ = some (.slice y.A y.n y.c) from fun X hX => by
          obtain ⟨b2, off2, x2, hA2, hx2, -, -, -, z0⟩ := (HA.out.below hX).at_ j hlt
          obtain ⟨b3, off3, y2, hB2, hy2, -, -, -, z1⟩ := (HB.out.below hX).at_ j hlt
          cases hA2
          cases hB2
          obtain rfl := hx.symm.trans hx2
          obtain rfl := hy.symm.trans hy2
          exact ⟨z0, z1⟩)
        have HF := Lib.hid (show ∀ X, Below wr.heap.size wr X → X.cell? ⟨b, off + j, none⟩ = some (.slice x.A x.n x.c) ∧ X.cell? ⟨b', off' + j, none⟩ = some (.slice y.A y.n y.c) from fun X hX => HIX.out X (HBW.out.trans (hX.mono HBW.out.size)))
        have HX := Lib.hid hx
        have HY := Lib.hid hy
        have HJX := Lib.hid hix
        have HJY := Lib.hid hiy
        clear hx hy hmx hmy hzx hzy hix hiy
        by_cases hnn0 : x.n = y.n
        · have hnn : ((x.n : Int) != (y.n : Int)) = false := by rw [hnn0]; simp
          go_wp2
          have hSd : Below wr.heap.size wr wr.drew := (Below.refl _ wr).drew
          refine wp_region_held_drew (S := fun X => Below wr.heap.size wr X) (by kernel_rfl) hSd (fun hHeld => ?_)
          refine tk 0 (.slice (some ⟨b, off, none⟩) n c) hHeld (fun w => ?_) ?_
          · go_simp
          simp only [PT]
          refine tk 1 (.int .i64 j) hHeld (fun w => ?_) ?_
          · go_simp
          simp only [PT]
          refine tk 2 (.pointer (some ⟨b, off + j, none⟩)) hHeld (fun w => ?_) ?_
          · go_simp
          simp only [PT]
          refine tkS 3 (.slice x.A x.n x.c) hHeld (fun w hq => ?_) ?_
          · obtain ⟨z0, z1⟩ := HF.out w hq
            go_simp
          simp only [PT]
          refine tk 4 (.int .i64 (x.n : Int)) hHeld (fun w => ?_) ?_
          · go_simp
          simp only [PT]
          refine tk 5 (.slice (some ⟨b', off', none⟩) n d) hHeld (fun w => ?_) ?_
          · go_simp
          simp only [PT]
          refine tk 6 (.int .i64 j) hHeld (fun w => ?_) ?_
          · go_simp
          simp only [PT]
          refine tk 7 (.pointer (some ⟨b', off' + j, none⟩)) hHeld (fun w => ?_) ?_
          · go_simp
          simp only [PT]
          refine tkS 8 (.slice y.A y.n y.c) hHeld (fun w hq => ?_) ?_
          · obtain ⟨z0, z1⟩ := HF.out w hq
            go_simp
          simp only [PT]
          refine tk 9 (.int .i64 (y.n : Int)) hHeld (fun w => ?_) ?_
          · go_simp
          simp only [PT]
          refine tk 10 (.bool false) hHeld (fun w => ?_) ?_
          · (go_simp; try exact hnn)
          simp only [PT]
          refine wpAnyH_done (by kernel_rfl) ?_ _
          clear hHeld
          obtain ⟨xA, xn, xc, xl⟩ := x
          obtain ⟨yA, yn, yc, yl⟩ := y
          simp only at *
          subst hnn0
          go_wp2
          go_loopw [6] (fun k wq => ∃ q : Nat, q ≤ xn ∧ k = .int .i64 q ∧ (∀ i, i < q → xl.getD i 0 = yl.getD i 0) ∧ Below w.heap.size w wq) (fun k _ => xn - (intOf k).toNat)
          case atStart => exact ⟨0, by omega, rfl, fun i hi => by omega, HBW.out.trans (hSd.mono HBW.out.size)⟩
          case round =>
            rename_i wr0
            obtain ⟨q, hq, rfl, hsm, hbq⟩ := hrel
            have HBQ := Lib.hid hbq
            have HSM := Lib.hid hsm
            obtain ⟨z0, z1⟩ := HIX.out wr hbq
            clear hsm
            by_cases hql : q < xn
            · have hql2 : (q : Int) < xn := by omega
              have q1 : 0 ≤ (q : Int) := by omega
              obtain ⟨xb, xo, rfl, hcx⟩ := HJX.out.at_ (by omega)
              obtain ⟨yb, yo, rfl, hcy⟩ := HJY.out.at_ (by omega)
              obtain ⟨xx, hxx⟩ : ∃ v, xl.getD q 0 = v := ⟨_, rfl⟩
              obtain ⟨yy, hyy⟩ : ∃ v, yl.getD q 0 = v := ⟨_, rfl⟩
              have HF2 := Lib.hid (show ∀ X, Below wr.heap.size wr X → X.cell? ⟨b, off + j, none⟩ = some (.slice (some ⟨xb, xo, none⟩) xn xc) ∧ X.cell? ⟨b', off' + j, none⟩ = some (.slice (some ⟨yb, yo, none⟩) xn yc) ∧ X.cell? ⟨xb, xo + q, none⟩ = some (.int .i64 xx) ∧ X.cell? ⟨yb, yo + q, none⟩ = some (.int .i64 yy) from fun X hX => by
                have hX0 := HBQ.out.trans (hX.mono HBQ.out.size)
                obtain ⟨v0, v1⟩ := HIX.out X hX0
                obtain ⟨xb2, xo2, e1, hc1⟩ := (HJX.out.below hX0).at_ (by omega)
                obtain ⟨yb2, yo2, e2, hc2⟩ := (HJY.out.below hX0).at_ (by omega)
                cases e1
                cases e2
                have h1 := hc1 q hql
                have h2 := hc2 q hql
                rw [hxx] at h1
                rw [hyy] at h2
                exact ⟨v0, v1, h1, h2⟩)
              clear hcx hcy
              by_cases hxy : xx = yy
              · have hne : (xx != yy) = false := by rw [hxy]; simp
                have HN := Lib.hid (show ∀ i, i < q + 1 → xl.getD i 0 = yl.getD i 0 from fun i hi => by
                  by_cases e : i = q
                  · rw [e, hxx, hyy]; exact hxy
                  · exact HSM.out i (by omega))
                clear hxx hyy hxy
                go_wp2
                clear z0 z1
                have hSd : Below wr.heap.size wr wr.drew := (Below.refl _ wr).drew
                refine wp_region_held_drew (S := fun X => Below wr.heap.size wr X) (by kernel_rfl) hSd (fun hHeld => ?_)
                refine tk 0 (.slice (some ⟨b, off, none⟩) n c) hHeld (fun w => ?_) ?_
                · go_simp
                simp only [PT]
                refine tk 1 (.int .i64 j) hHeld (fun w => ?_) ?_
                · go_simp
                simp only [PT]
                refine tk 2 (.pointer (some ⟨b, off + j, none⟩)) hHeld (fun w => ?_) ?_
                · go_simp
                simp only [PT]
                refine tkS 3 (.slice (some ⟨xb, xo, none⟩) xn xc) hHeld (fun w hq => ?_) ?_
                · obtain ⟨z0, z1, z2, z3⟩ := HF2.out w hq
                  go_simp
                simp only [PT]
                refine tk 4 (.int .i64 q) hHeld (fun w => ?_) ?_
                · go_simp
                simp only [PT]
                refine tk 5 (.pointer (some ⟨xb, xo + q, none⟩)) hHeld (fun w => ?_) ?_
                · go_simp
                simp only [PT]
                refine tkS 6 (.int .i64 xx) hHeld (fun w hq => ?_) ?_
                · obtain ⟨z0, z1, z2, z3⟩ := HF2.out w hq
                  go_simp
                simp only [PT]
                refine tk 7 (.slice (some ⟨b', off', none⟩) n d) hHeld (fun w => ?_) ?_
                · go_simp
                simp only [PT]
                refine tk 8 (.int .i64 j) hHeld (fun w => ?_) ?_
                · go_simp
                simp only [PT]
                refine tk 9 (.pointer (some ⟨b', off' + j, none⟩)) hHeld (fun w => ?_) ?_
                · go_simp
                simp only [PT]
                refine tkS 10 (.slice (some ⟨yb, yo, none⟩) xn yc) hHeld (fun w hq => ?_) ?_
                · obtain ⟨z0, z1, z2, z3⟩ := HF2.out w hq
                  go_simp
                simp only [PT]
                refine tk 11 (.int .i64 q) hHeld (fun w => ?_) ?_
                · go_simp
                simp only [PT]
                refine tk 12 (.pointer (some ⟨yb, yo + q, none⟩)) hHeld (fun w => ?_) ?_
                · go_simp
                simp only [PT]
                refine tkS 13 (.int .i64 yy) hHeld (fun w hq => ?_) ?_
                · obtain ⟨z0, z1, z2, z3⟩ := HF2.out w hq
                  go_simp
                simp only [PT]
                refine tk 14 (.bool false) hHeld (fun w => ?_) ?_
                · (go_simp; try exact hne)
                simp only [PT]
                refine wpAnyH_done (by kernel_rfl) ?_ _
                clear hHeld
                go_wp2
                go_roundw
                case rel => exact ⟨q + 1, by omega, by go_num, HN.out, HBQ.out.trans (hSd.mono HBQ.out.size)⟩
                case measure => simp [intOf]; omega
              · have hne : (xx != yy) = true := by rw [bne_iff_ne]; exact hxy
                have HR := Lib.hid (show decide (ra.map Rw.l = rb.map Rw.l) = false from decide_eq_false (rows_differ (j := j) (by rw [HAL.out]; exact hlt) (by rw [HBL.out]; exact hlt) (by
                  rw [HX.out, HY.out]
                  intro e
                  simp only at e
                  exact hxy (by rw [← hxx, ← hyy, e]))))
                clear hxx hyy hxy
                go_wp2
                clear z0 z1
                have hSd : Below wr.heap.size wr wr.drew := (Below.refl _ wr).drew
                refine wp_region_held_drew (S := fun X => Below wr.heap.size wr X) (by kernel_rfl) hSd (fun hHeld => ?_)
                refine tk 0 (.slice (some ⟨b, off, none⟩) n c) hHeld (fun w => ?_) ?_
                · go_simp
                simp only [PT]
                refine tk 1 (.int .i64 j) hHeld (fun w => ?_) ?_
                · go_simp
                simp only [PT]
                refine tk 2 (.pointer (some ⟨b, off + j, none⟩)) hHeld (fun w => ?_) ?_
                · go_simp
                simp only [PT]
                refine tkS 3 (.slice (some ⟨xb, xo, none⟩) xn xc) hHeld (fun w hq => ?_) ?_
                · obtain ⟨z0, z1, z2, z3⟩ := HF2.out w hq
                  go_simp
                simp only [PT]
                refine tk 4 (.int .i64 q) hHeld (fun w => ?_) ?_
                · go_simp
                simp only [PT]
                refine tk 5 (.pointer (some ⟨xb, xo + q, none⟩)) hHeld (fun w => ?_) ?_
                · go_simp
                simp only [PT]
                refine tkS 6 (.int .i64 xx) hHeld (fun w hq => ?_) ?_
                · obtain ⟨z0, z1, z2, z3⟩ := HF2.out w hq
                  go_simp
                simp only [PT]
                refine tk 7 (.slice (some ⟨b', off', none⟩) n d) hHeld (fun w => ?_) ?_
                · go_simp
                simp only [PT]
                refine tk 8 (.int .i64 j) hHeld (fun w => ?_) ?_
                · go_simp
                simp only [PT]
                refine tk 9 (.pointer (some ⟨b', off' + j, none⟩)) hHeld (fun w => ?_) ?_
                · go_simp
                simp only [PT]
                refine tkS 10 (.slice (some ⟨yb, yo, none⟩) xn yc) hHeld (fun w hq => ?_) ?_
                · obtain ⟨z0, z1, z2, z3⟩ := HF2.out w hq
                  go_simp
                simp only [PT]
                refine tk 11 (.int .i64 q) hHeld (fun w => ?_) ?_
                · go_simp
                simp only [PT]
                refine tk 12 (.pointer (some ⟨yb, yo + q, none⟩)) hHeld (fun w => ?_) ?_
                · go_simp
                simp only [PT]
                refine tkS 13 (.int .i64 yy) hHeld (fun w hq => ?_) ?_
                · obtain ⟨z0, z1, z2, z3⟩ := HF2.out w hq
                  go_simp
                simp only [PT]
                refine tk 14 (.bool true) hHeld (fun w => ?_) ?_
                · (go_simp; try exact hne)
                simp only [PT]
                refine wpAnyH_done (by kernel_rfl) ?_ _
                clear hHeld
                go_wp2
                go_ret
                exact ⟨by rw [HR.out]; rfl, HBQ.out.trans (hSd.mono HBQ.out.size)⟩
            · obtain rfl : q = xn := by omega
              have hge : ¬ ((q : Int) < q) := by omega
              have HN := Lib.hid (rows_take (a := ra) (b := rb) (j := j) (by rw [HAL.out]; exact hlt) (by rw [HBL.out]; exact hlt) HTK.out (by
                rw [HX.out, HY.out]
                exact list_same hxl hyl HSM.out))
              go_wp2
              go_roundw
              case rel => exact ⟨j + 1, by omega, by go_num, HN.out, HBQ.out⟩
              case measure => simp [intOf]; omega
        · have hnn : ((x.n : Int) != (y.n : Int)) = true := by rw [bne_iff_ne]; omega
          have HR := Lib.hid (show decide (ra.map Rw.l = rb.map Rw.l) = false from decide_eq_false (rows_differ (j := j) (by rw [HAL.out]; exact hlt) (by rw [HBL.out]; exact hlt) (by
            rw [HX.out, HY.out]
            intro e
            exact hnn0 (by rw [← hxl, ← hyl, e]))))
          go_wp2
          have hSd : Below wr.heap.size wr wr.drew := (Below.refl _ wr).drew
          refine wp_region_held_drew (S := fun X => Below wr.heap.size wr X) (by kernel_rfl) hSd (fun hHeld => ?_)
          refine tk 0 (.slice (some ⟨b, off, none⟩) n c) hHeld (fun w => ?_) ?_
          · go_simp
          simp only [PT]
          refine tk 1 (.int .i64 j) hHeld (fun w => ?_) ?_
          · go_simp
          simp only [PT]
          refine tk 2 (.pointer (some ⟨b, off + j, none⟩)) hHeld (fun w => ?_) ?_
          · go_simp
          simp only [PT]
          refine tkS 3 (.slice x.A x.n x.c) hHeld (fun w hq => ?_) ?_
          · obtain ⟨z0, z1⟩ := HF.out w hq
            go_simp
          simp only [PT]
          refine tk 4 (.int .i64 (x.n : Int)) hHeld (fun w => ?_) ?_
          · go_simp
          simp only [PT]
          refine tk 5 (.slice (some ⟨b', off', none⟩) n d) hHeld (fun w => ?_) ?_
          · go_simp
          simp only [PT]
          refine tk 6 (.int .i64 j) hHeld (fun w => ?_) ?_
          · go_simp
          simp only [PT]
          refine tk 7 (.pointer (some ⟨b', off' + j, none⟩)) hHeld (fun w => ?_) ?_
          · go_simp
          simp only [PT]
          refine tkS 8 (.slice y.A y.n y.c) hHeld (fun w hq => ?_) ?_
          · obtain ⟨z0, z1⟩ := HF.out w hq
            go_simp
          simp only [PT]
          refine tk 9 (.int .i64 (y.n : Int)) hHeld (fun w => ?_) ?_
          · go_simp
          simp only [PT]
          refine tk 10 (.bool true) hHeld (fun w => ?_) ?_
          · (go_simp; try exact hnn)
          simp only [PT]
          refine wpAnyH_done (by kernel_rfl) ?_ _
          clear hHeld
          go_wp2
          go_ret
          exact ⟨by rw [HR.out]; rfl, HBW.out.trans (hSd.mono HBW.out.size)⟩
      · obtain rfl : j = n := by omega
        have hge : ¬ ((j : Int) < j) := by omega
        have HR := Lib.hid (show decide (ra.map Rw.l = rb.map Rw.l) = true from decide_eq_true (by
          have h := HTK.out
          rw [List.take_of_length_le (by rw [List.length_map, HAL.out]; exact Nat.le_refl _), List.take_of_length_le (by rw [List.length_map, HBL.out]; exact Nat.le_refl _)] at h
          exact h))
        go_wp2
        go_ret
        exact ⟨by rw [HR.out]; rfl, HBW.out⟩
  · have hne0 : ((n : Int) != (m : Int)) = true := by rw [bne_iff_ne]; omega
    have HR := Lib.hid (show decide (ra.map Rw.l = rb.map Rw.l) = false from decide_eq_false (fun e => hnm (by
      have h := congrArg List.length e
      rw [List.length_map, List.length_map, HAL.out, HBL.out] at h
      exact h)))
    clear ha hb hnm
    go_enter Try.func14, Try.ntmps14
    go_wp2
    go_ret
    exact ⟨by rw [HR.out]; rfl, Below.refl _ _⟩
end Go.Proofs.Ytcgakgbnhlmcaaa


/- The walk over the document's Clash of a plan and a row. -/
namespace Go.Proofs.Ytcgakgbnhlmcaaa
set_option maxRecDepth 100000
set_option linter.unusedVariables false
set_option linter.unusedSimpArgs false
open Go.RowKit

theorem clash_not {p : Pl} {l : List Int} (h : ¬ (fitP p = true ∧ mayR l = true ∧ l.length = p.m.length ∧ ∃ g, g < l.length ∧ ∃ h, h < l.length ∧ hitR p.m l g h)) : clashR p l = false := by
  rw [← Bool.not_eq_true]; exact fun e => h (clash_iff.1 e)
end Go.Proofs.Ytcgakgbnhlmcaaa

