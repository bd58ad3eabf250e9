/- Joined texts: The walks over the document's List and Of of groups, and Sets. The walks over the document's Show of a plan, and Clash. The walks over the document's Lamps and New. Rows that a call gathers, one behind the other. The walk over the document's Run. The walk over the document's Rows. The walk over the document's Clash of a plan and a row. What package stage does: contracts that its own walks must bring; the chapter's example over them. '==' between two machines. What package lamp does: contracts that its own walks must bring; the chapter's example over them. Pure facts of lamps, for the laws. Ticks, and more ticks. What package role answers, plainly; the tables as cells; Is, May, Turns, Name, and the document's own answers to them. Turns, Name, and the document's own Is, May, Turns, Name; two lists of numbers held against one another. What is asked of a machine, plainly: one ask, several, and with ticks between. The walk over the document's bare. -/
import Derived.Test.YtgnhmdfajnnkhaaSaJB
import Derived.Test.YtgnhmdfajnnkhaaSaJE
import Derived.Test.YtgnhmdfajnnkhaaSaJA
/- The walks over the document's List and Of of groups, and Sets. -/
namespace Go.Proofs.Ytgnhmdfajnnkhaa
set_option maxRecDepth 100000
set_option linter.unusedVariables false
set_option linter.unusedSimpArgs false
open Go.RowKit

def listTo (t k : Nat) : List Int := ((List.range k).filter fun j => t.testBit j).map Int.ofNat
theorem list_next (t k : Nat) : listTo t (k + 1) = listTo t k ++ (if t.testBit k = true then [(k : Int)] else []) := by
  rw [listTo, List.range_succ, List.filter_append, List.map_append]
  congr 1
  by_cases h : t.testBit k = true
  · rw [if_pos h]; simp [h]
  · rw [if_neg h]; simp [h]
theorem list_len (t k : Nat) : (listTo t k).length ≤ k := by
  rw [listTo, List.length_map]
  exact Nat.le_trans (List.length_filter_le _ _) (by rw [List.length_range]; exact Nat.le_refl _)
theorem list_all {t : Nat} (h : t < 256) : listTo t 8 = listM (t : Int) := by
  rw [listM, if_pos (by omega), listTo]
  congr 1
  refine List.filter_congr fun j _ => ?_
  rw [bit_nat]
/-- gives a list of numbers -/
def GivesL (L : List Int) (w : World) (e : Ending) (w' : World) : Prop := ∃ A n c, e = .returned (.slice A n c) ∧ Its .i64 w' A n c L ∧ Below w.heap.size w w'
/-- gives a list of numbers in memory of its own -/
def GivesO (L : List Int) (w : World) (e : Ending) (w' : World) : Prop := ∃ A n c, e = .returned (.slice A n c) ∧ OwnI .i64 3 w' w.heap.size (.slice A n c) L ∧ Below w.heap.size w w'
theorem GivesO.gives {L : List Int} {w : World} {e : Ending} {w' : World} (h : GivesO L w e w') : GivesL L w e w' := by
  obtain ⟨A, n, c, rfl, ho, hb⟩ := h
  obtain ⟨B, k, d, e, hi⟩ := ho.its
  rw [e]
  exact ⟨B, k, d, rfl, hi, hb⟩
end Go.Proofs.Ytgnhmdfajnnkhaa


/- The walks over the document's Show of a plan, and Clash. -/
namespace Go.Proofs.Ytgnhmdfajnnkhaa
set_option maxRecDepth 100000
set_option linter.unusedVariables false
set_option linter.unusedSimpArgs false
open Go.RowKit

def showTo (t : Int) (ph : Int) (k : Nat) : List Int := (List.range k).map (lampP t ph)
theorem show_next (t ph : Int) (k : Nat) : showTo t ph (k + 1) = showTo t ph k ++ [lampP t ph k] := by rw [showTo, List.range_succ, List.map_append]; rfl
theorem show_len (t ph : Int) (k : Nat) : (showTo t ph k).length = k := by simp [showTo]
set_option maxHeartbeats 8000000 in
theorem rlshow_own (p : Pl) (x y : Int) (w : World) (hp : PlIn w p) : Calls Try.prog 56 #[plV p, .int .i64 x, .int .i64 y] w (GivesO (showR p x y) w) := by
  have hsk := hp.s.small
  have hsm := hp.m.small
  have hSL := hp.s.len
  have hML := hp.m.len
  obtain ⟨W0, hW0⟩ : ∃ W0, w.alloc (.cells #[.slice p.A p.n p.c, .slice p.B p.k p.d, .int .i64 p.am, .int .i64 p.rd, .int .i64 p.hd] 47) = W0 := ⟨_, rfl⟩
  have hB0 : Below w.heap.size w W0 := by rw [← hW0]; exact one_alloc w _
  have hp0 : PlIn W0 p := hp.below hB0
  have hbp : BoxP W0 w.heap.size p := by rw [← hW0]; exact BoxP.new w p
  have HFT := Lib.hid (rfit_any p W0 hp0)
  simp only [plV] at HFT ⊢
  have HW := Lib.hid hW0
  have HB0 := Lib.hid hB0
  have HAC := Lib.hid (show ∀ X, Below W0.heap.size W0 X → X.cell? ⟨w.heap.size, 0, none⟩ = some (.slice p.A p.n p.c) ∧ X.cell? ⟨w.heap.size, 1, none⟩ = some (.slice p.B p.k p.d) ∧ X.cell? ⟨w.heap.size, 2, none⟩ = some (.int .i64 p.am) ∧ X.cell? ⟨w.heap.size, 3, none⟩ = some (.int .i64 p.rd) ∧ X.cell? ⟨w.heap.size, 4, none⟩ = some (.int .i64 p.hd) from fun X hX => (hbp.below hX).cells)
  have HSL := Lib.hid hSL
  have HML := Lib.hid hML
  have HP := Lib.hid (show ∀ X, Below W0.heap.size W0 X → PlIn X p from fun X hX => hp0.below hX)
  obtain ⟨a0, a1, a2, a3, a4⟩ := HAC.out W0 (Below.refl _ _)
  clear hW0 hB0 hbp hp hp0
  cases hf : fitP p with
  | false =>
    rw [hf] at HFT
    have HR := Lib.hid (show showR p x y = [] from if_neg fun h => by rw [hf] at h; cases h.1)
    clear hf
    clear a0 a1 a2 a3 a4 hSL hML
    go_enter Try.func56, Try.ntmps56
    go_wp2_with (go_at_call 69; rw [HW.out]; (with_reducible refine (HFT.out).mono ?_); rintro e w1 ⟨rfl, hb1⟩; obtain ⟨c0, c1, c2, c3, c4⟩ := HAC.out _ hb1; have HB1 := Lib.hid hb1; clear hb1)
    go_ret
    exact ⟨none, 0, 0, rfl, by rw [HR.out]; exact OwnI.nil _ _ _ _, HB0.out.trans (HB1.out.mono HB0.out.size)⟩
  | true =>
    rw [hf] at HFT
    by_cases h1 : x < 0
    · have HR := Lib.hid (show showR p x y = [] from if_neg fun h => by omega)
      clear hf
      clear a0 a1 a2 a3 a4 hSL hML
      go_enter Try.func56, Try.ntmps56
      go_wp2_with (go_at_call 69; rw [HW.out]; (with_reducible refine (HFT.out).mono ?_); rintro e w1 ⟨rfl, hb1⟩; obtain ⟨c0, c1, c2, c3, c4⟩ := HAC.out _ hb1; have HB1 := Lib.hid hb1; clear hb1)
      go_ret
      exact ⟨none, 0, 0, rfl, by rw [HR.out]; exact OwnI.nil _ _ _ _, HB0.out.trans (HB1.out.mono HB0.out.size)⟩
    by_cases h2 : (p.k : Int) ≤ x
    · have HR := Lib.hid (show showR p x y = [] from if_neg fun h => by have := HSL.out; omega)
      clear hf
      clear a0 a1 a2 a3 a4 hSL hML
      go_enter Try.func56, Try.ntmps56
      go_wp2_with (go_at_call 69; rw [HW.out]; (with_reducible refine (HFT.out).mono ?_); rintro e w1 ⟨rfl, hb1⟩; obtain ⟨c0, c1, c2, c3, c4⟩ := HAC.out _ hb1; have HB1 := Lib.hid hb1; clear hb1)
      go_ret
      exact ⟨none, 0, 0, rfl, by rw [HR.out]; exact OwnI.nil _ _ _ _, HB0.out.trans (HB1.out.mono HB0.out.size)⟩
    by_cases h3 : y < 0
    · have HR := Lib.hid (show showR p x y = [] from if_neg fun h => by omega)
      clear hf
      clear a0 a1 a2 a3 a4 hSL hML
      go_enter Try.func56, Try.ntmps56
      go_wp2_with (go_at_call 69; rw [HW.out]; (with_reducible refine (HFT.out).mono ?_); rintro e w1 ⟨rfl, hb1⟩; obtain ⟨c0, c1, c2, c3, c4⟩ := HAC.out _ hb1; have HB1 := Lib.hid hb1; clear hb1)
      go_ret
      exact ⟨none, 0, 0, rfl, by rw [HR.out]; exact OwnI.nil _ _ _ _, HB0.out.trans (HB1.out.mono HB0.out.size)⟩
    by_cases h4 : 3 ≤ y
    · have HR := Lib.hid (show showR p x y = [] from if_neg fun h => by omega)
      clear hf
      clear a0 a1 a2 a3 a4 hSL hML
      go_enter Try.func56, Try.ntmps56
      go_wp2_with (go_at_call 69; rw [HW.out]; (with_reducible refine (HFT.out).mono ?_); rintro e w1 ⟨rfl, hb1⟩; obtain ⟨c0, c1, c2, c3, c4⟩ := HAC.out _ hb1; have HB1 := Lib.hid hb1; clear hb1)
      go_ret
      exact ⟨none, 0, 0, rfl, by rw [HR.out]; exact OwnI.nil _ _ _ _, HB0.out.trans (HB1.out.mono HB0.out.size)⟩
    obtain ⟨st, rfl⟩ := Int.eq_ofNat_of_zero_le (show 0 ≤ x by omega)
    have hff := fit_iff.1 hf
    have lst : st < p.s.length := by have := HSL.out; omega
    have HR := Lib.hid (show showTo (p.s.getD st Stg.zero).g y p.m.length = showR p (st : Int) y by rw [showR, if_pos ⟨hf, ⟨by omega, by omega⟩, by omega, by omega⟩, Int.toNat_natCast, showTo])
    obtain ⟨R, hR⟩ : ∃ R, showR p (st : Int) y = R := ⟨_, rfl⟩
    rw [hR] at HR ⊢
    have hmem : p.s.getD st Stg.zero ∈ p.s := by rw [List.getD_eq_getElem?_getD, List.getElem?_eq_getElem lst]; exact List.getElem_mem lst
    obtain ⟨hfr, -⟩ := hff.stage _ hmem
    obtain ⟨t, ht, ht2⟩ := set_nat (free_iff.1 hfr).2.1
    obtain ⟨hn8, -⟩ := may_rows HML.out hff.may
    have h8 := pow_le hn8
    have ht3 : t < 256 := by rw [HML.out] at ht2; omega
    have HHS0 := Lib.hid (fun (i : Nat) (hi : i < p.n) X hX => rhas_any p st i t X (HP.out X hX) (by have := HSL.out; omega) ht (by omega) (by omega))
    simp only [plV] at HHS0
    rw [ht, HML.out] at HR
    have est : ¬ (p.k ≤ st) := by have := HSL.out; omega
    have dst : decide (p.k ≤ st) = false := decide_eq_false est
    have fst : decide ((st : Int) < 0) = false := by simp
    have g3 : decide (y < 0) = false := decide_eq_false h3
    have g4 : decide (3 ≤ y) = false := decide_eq_false h4
    clear hf hff hR hmem hfr ht ht2 h1 h2 a0 a1 a2 a3 a4 hSL hML
    go_enter Try.func56, Try.ntmps56
    go_wp2_with (go_at_call 69; rw [HW.out]; (with_reducible refine (HFT.out).mono ?_); rintro e w1 ⟨rfl, hb1⟩; obtain ⟨c0, c1, c2, c3, c4⟩ := HAC.out _ hb1; have HB1 := Lib.hid hb1; clear hb1)
    clear c0 c1 c2 c3 c4
    go_loopw [8, 9] (fun v i wr => ∃ (g : Nat) (L : List Int), g ≤ p.n ∧ i = .int .i64 g ∧ L = showTo t y g ∧ OwnI .i64 3 wr W0.heap.size v L ∧ Below W0.heap.size W0 wr) (fun _ i _ => p.n - (intOf i).toNat)
    case atStart => exact ⟨0, [], by omega, rfl, rfl, OwnI.nil _ _ _ _, HB1.out⟩
    case round =>
      obtain ⟨g, L, hg, rfl, hL, hown, hbw⟩ := hrel
      have HO := Lib.hid hown
      have HBW := Lib.hid hbw
      have HL := Lib.hid hL
      have hLl : L.length ≤ 8 := by rw [hL, show_len]; omega
      obtain ⟨a0, a1, a2, a3, a4⟩ := HAC.out wr hbw
      clear hown hbw hL
      by_cases hlt : g < p.n
      · have hlt2 : (g : Int) < p.n := by omega
        have HHS := Lib.hid (HHS0.out g hlt)
        have hnx := show_next (t : Int) y g
        rw [← HL.out, lampP, bit_nat] at hnx
        obtain ⟨T, hT⟩ : ∃ T, t.testBit g = T := ⟨_, rfl⟩
        rw [hT] at HHS hnx
        clear hT
        cases T
        · have HN := Lib.hid (show L ++ [(0 : Int)] = showTo (t : Int) y (g + 1) by rw [hnx]; simp)
          clear hnx
          go_wp2_with (first
            | (go_at_call 71
               (with_reducible refine (HHS.out _ HBW.out).mono ?_)
               rintro e w3 ⟨rfl, hb3⟩
               have HB3 := Lib.hid (HBW.out.trans (hb3.mono HBW.out.size))
               have HO3 := Lib.hid (HO.out.below hb3)
               clear hb3)
            | (at_builtin
               refine wpList_append_i rfl 40 3 .i64 8 _ _ rfl Try.underlying40 (by kernel_rfl) (by omega) W0.heap.size u8 L rfl (HO3.out.more _) _ 1 1 [(0 : Int)] rfl (one_its .i64 3 _ (0)) (by omega) (Nat.le_trans HB3.out.size (size_le_alloc _ _)) ?_
               intro v5 w6 hown5 hg5
               have hB5 : Below W0.heap.size W0 w6 := (HB3.out.alloc HB3.out.size _).grown hg5 (Nat.le_trans HB3.out.size (size_le_alloc _ _)) (fun k hk => (HO3.out.size k hk).1)
               clear hg5))
          go_roundw
          case rel => exact ⟨g + 1, L ++ [(0 : Int)], by omega, by go_num, HN.out, hown5, hB5⟩
          case measure => simp [intOf]; omega
        · by_cases y0 : y = 0
          · subst y0
            have HN := Lib.hid (show L ++ [(2 : Int)] = showTo (t : Int) 0 (g + 1) by rw [hnx]; simp)
            clear hnx
            go_wp2_with (first
              | (go_at_call 71
                 (with_reducible refine (HHS.out _ HBW.out).mono ?_)
                 rintro e w3 ⟨rfl, hb3⟩
                 have HB3 := Lib.hid (HBW.out.trans (hb3.mono HBW.out.size))
                 have HO3 := Lib.hid (HO.out.below hb3)
                 clear hb3)
              | (at_builtin
                 refine wpList_append_i rfl 40 3 .i64 8 _ _ rfl Try.underlying40 (by kernel_rfl) (by omega) W0.heap.size u8 L rfl (HO3.out.more _) _ 1 1 [(2 : Int)] rfl (one_its .i64 3 _ (2)) (by omega) (Nat.le_trans HB3.out.size (size_le_alloc _ _)) ?_
                 intro v5 w6 hown5 hg5
                 have hB5 : Below W0.heap.size W0 w6 := (HB3.out.alloc HB3.out.size _).grown hg5 (Nat.le_trans HB3.out.size (size_le_alloc _ _)) (fun k hk => (HO3.out.size k hk).1)
                 clear hg5))
            go_roundw
            case rel => exact ⟨g + 1, L ++ [(2 : Int)], by omega, by go_num, HN.out, hown5, hB5⟩
            case measure => simp [intOf]; omega
          · have e0 : (y == 0) = false := by rw [beq_eq_false_iff_ne]; exact y0
            by_cases y1 : y = 1
            · subst y1
              have HN := Lib.hid (show L ++ [(1 : Int)] = showTo (t : Int) 1 (g + 1) by rw [hnx]; simp)
              clear hnx
              go_wp2_with (first
                | (go_at_call 71
                   (with_reducible refine (HHS.out _ HBW.out).mono ?_)
                   rintro e w3 ⟨rfl, hb3⟩
                   have HB3 := Lib.hid (HBW.out.trans (hb3.mono HBW.out.size))
                   have HO3 := Lib.hid (HO.out.below hb3)
                   clear hb3)
                | (at_builtin
                   refine wpList_append_i rfl 40 3 .i64 8 _ _ rfl Try.underlying40 (by kernel_rfl) (by omega) W0.heap.size u8 L rfl (HO3.out.more _) _ 1 1 [(1 : Int)] rfl (one_its .i64 3 _ (1)) (by omega) (Nat.le_trans HB3.out.size (size_le_alloc _ _)) ?_
                   intro v5 w6 hown5 hg5
                   have hB5 : Below W0.heap.size W0 w6 := (HB3.out.alloc HB3.out.size _).grown hg5 (Nat.le_trans HB3.out.size (size_le_alloc _ _)) (fun k hk => (HO3.out.size k hk).1)
                   clear hg5))
              go_roundw
              case rel => exact ⟨g + 1, L ++ [(1 : Int)], by omega, by go_num, HN.out, hown5, hB5⟩
              case measure => simp [intOf]; omega
            · have e1 : (y == 1) = false := by rw [beq_eq_false_iff_ne]; exact y1
              have HN := Lib.hid (show L ++ [(0 : Int)] = showTo (t : Int) y (g + 1) by rw [hnx]; simp [y0, y1])
              clear hnx
              go_wp2_with (first
                | (go_at_call 71
                   (with_reducible refine (HHS.out _ HBW.out).mono ?_)
                   rintro e w3 ⟨rfl, hb3⟩
                   have HB3 := Lib.hid (HBW.out.trans (hb3.mono HBW.out.size))
                   have HO3 := Lib.hid (HO.out.below hb3)
                   clear hb3)
                | (at_builtin
                   refine wpList_append_i rfl 40 3 .i64 8 _ _ rfl Try.underlying40 (by kernel_rfl) (by omega) W0.heap.size u8 L rfl (HO3.out.more _) _ 1 1 [(0 : Int)] rfl (one_its .i64 3 _ (0)) (by omega) (Nat.le_trans HB3.out.size (size_le_alloc _ _)) ?_
                   intro v5 w6 hown5 hg5
                   have hB5 : Below W0.heap.size W0 w6 := (HB3.out.alloc HB3.out.size _).grown hg5 (Nat.le_trans HB3.out.size (size_le_alloc _ _)) (fun k hk => (HO3.out.size k hk).1)
                   clear hg5))
              go_roundw
              case rel => exact ⟨g + 1, L ++ [(0 : Int)], by omega, by go_num, HN.out, hown5, hB5⟩
              case measure => simp [intOf]; omega
      · obtain rfl : g = p.n := by omega
        have hge : ¬ ((p.n : Int) < p.n) := by omega
        have htk : L = R := by rw [HL.out, HR.out]
        have hown := HO.out
        rw [htk] at hown
        obtain ⟨B, k, d, rfl, -⟩ := hown.its
        have hq := HB0.out.trans (HBW.out.mono HB0.out.size)
        clear htk HL HO hLl
        go_wp2
        go_ret
        exact ⟨_, _, _, rfl, hown.mono HB0.out.size, hq⟩
end Go.Proofs.Ytgnhmdfajnnkhaa


/- The walks over the document's Lamps and New. -/
namespace Go.Proofs.Ytgnhmdfajnnkhaa
set_option maxRecDepth 100000
set_option linter.unusedVariables false
set_option linter.unusedSimpArgs false
open Go.RowKit

set_option maxHeartbeats 8000000 in
theorem rlamps_own (A : Option Addr) (n c : Nat) (l : List Pl) (s : Sg) (w : World) (hl : Pls w A n c l) (hts : SmG s) : Calls Try.prog 40 #[.slice A n c, sgV s] w (GivesO (lampsS l s) w) := by
  have hsm := hl.small
  have HMY := Lib.hid (fun X (hX : Below w.heap.size w X) => rsmay_any A n c l s X (hl.below hX) hts)
  cases hm : mayS l s with
  | false =>
    rw [hm] at HMY
    have HR := Lib.hid (show lampsS l s = [] from if_neg (by rw [hm]; simp))
    simp only [sgV] at HMY ⊢
    clear hm hl
    obtain ⟨pl, st, nx, ph, t, hd, hh', ak, wt, sp⟩ := s
    simp only at *
    go_enter Try.func40, Try.ntmps40
    go_wp2_with (first
    | (go_at_call 36
       (with_reducible refine (HMY.out _ (one_alloc _ _)).mono ?_)
       rintro e w1 ⟨rfl, hb1⟩
       have hs1 := (hb1.block w.heap.size (by simp)).trans (heap_alloc_new w (.cells #[.int .i64 pl, .int .i64 st, .int .i64 nx, .int .i64 ph, .int .i64 t, .int .i64 hd, .int .i64 hh', .int .i64 ak, .int .i64 wt, .bool sp] 24))
       have HB1 := Lib.hid ((one_alloc w (.cells #[.int .i64 pl, .int .i64 st, .int .i64 nx, .int .i64 ph, .int .i64 t, .int .i64 hd, .int .i64 hh', .int .i64 ak, .int .i64 wt, .bool sp] 24)).trans (hb1.mono (size_le_alloc _ _)))
       clear hb1))
    go_ret
    exact ⟨none, 0, 0, rfl, by rw [HR.out]; exact OwnI.nil _ _ _ _, HB1.out⟩
  | true =>
    rw [hm] at HMY
    have hms := mayS_iff.1 hm
    have hpl0 := hms.p0
    have hpl1 : s.pl < n := by have := hms.p1; rw [hl.len] at this; exact this
    obtain ⟨j, hj⟩ := Int.eq_ofNat_of_zero_le hpl0
    have hjn : j < n := by omega
    obtain ⟨b, off, q, rfl, hq, hmem, -, -, -⟩ := hl.at_ j hjn
    have hqa : planAt l s.pl = q := by rw [hj, planAt, Int.toNat_natCast, hq]
    have HPC := Lib.hid (show ∀ X, Below w.heap.size w X → X.cell? ⟨b, off + j * 5, none⟩ = some (.slice q.A q.n q.c) ∧ X.cell? ⟨b, off + j * 5 + 1, none⟩ = some (.slice q.B q.k q.d) ∧ X.cell? ⟨b, off + j * 5 + 2, none⟩ = some (.int .i64 q.am) ∧ X.cell? ⟨b, off + j * 5 + 3, none⟩ = some (.int .i64 q.rd) ∧ X.cell? ⟨b, off + j * 5 + 4, none⟩ = some (.int .i64 q.hd) from fun X hX => by
      obtain ⟨b2, off2, p2, hA2, hp2, -, -, -, z0, z1, z2, z3, z4⟩ := (hl.below hX).at_ j hjn
      cases hA2
      obtain rfl := hq.symm.trans hp2
      exact ⟨z0, z1, z2, z3, z4⟩)
    have HQI := Lib.hid (show ∀ X, Below w.heap.size w X → PlIn X q from fun X hX => (hl.below hX).pl q hmem)
    have HSH := Lib.hid (fun X (hX : Below w.heap.size w X) => rlshow_own q s.st s.ph X (HQI.out X hX))
    have HR := Lib.hid (show lampsS l s = showR q s.st s.ph by rw [lampsS, if_pos hm, hqa])
    obtain ⟨G, hG⟩ : ∃ G, showR q s.st s.ph = G := ⟨_, rfl⟩
    rw [HR.out, hG]
    rw [hG] at HSH
    simp only [sgV] at HMY ⊢
    simp only [plV] at HSH
    have hj0 : 0 ≤ (j : Int) := by omega
    clear hG hm hl hms hqa hmem hq HR
    obtain ⟨pl, st, nx, ph, t, hd, hh', ak, wt, sp⟩ := s
    simp only at *
    subst hj
    go_enter Try.func40, Try.ntmps40
    go_wp2_with (first
    | (go_at_call 36
       (with_reducible refine (HMY.out _ (one_alloc _ _)).mono ?_)
       rintro e w1 ⟨rfl, hb1⟩
       have hs1 := (hb1.block w.heap.size (by simp)).trans (heap_alloc_new w (.cells #[.int .i64 (j : Int), .int .i64 st, .int .i64 nx, .int .i64 ph, .int .i64 t, .int .i64 hd, .int .i64 hh', .int .i64 ak, .int .i64 wt, .bool sp] 24))
       have HB1 := Lib.hid ((one_alloc w (.cells #[.int .i64 (j : Int), .int .i64 st, .int .i64 nx, .int .i64 ph, .int .i64 t, .int .i64 hd, .int .i64 hh', .int .i64 ak, .int .i64 wt, .bool sp] 24)).trans (hb1.mono (size_le_alloc _ _)))
       clear hb1))
    have HF := Lib.hid (show ∀ X, Below w1.heap.size w1 X → X.cell? ⟨w.heap.size, 0, none⟩ = some (.int .i64 (j : Int)) ∧ X.cell? ⟨w.heap.size, 1, none⟩ = some (.int .i64 st) ∧ X.cell? ⟨w.heap.size, 3, none⟩ = some (.int .i64 ph) ∧ X.cell? ⟨b, off + j * 5, none⟩ = some (.slice q.A q.n q.c) ∧ X.cell? ⟨b, off + j * 5 + 1, none⟩ = some (.slice q.B q.k q.d) ∧ X.cell? ⟨b, off + j * 5 + 2, none⟩ = some (.int .i64 q.am) ∧ X.cell? ⟨b, off + j * 5 + 3, none⟩ = some (.int .i64 q.rd) ∧ X.cell? ⟨b, off + j * 5 + 4, none⟩ = some (.int .i64 q.hd) from fun X hX => by
      obtain ⟨y0, y1, y2, y3, y4, y5, y6, y7, y8, y9⟩ := (show BoxG X w.heap.size ⟨(j : Int), st, nx, ph, t, hd, hh', ak, wt, sp⟩ from (hX.block w.heap.size (Array.getElem?_eq_some_iff.1 hs1).1).trans hs1).cells
      exact ⟨y0, y1, y3, HPC.out X (HB1.out.trans (hX.mono HB1.out.size))⟩)
    clear hs1
    have hSd : Below w1.heap.size w1 w1.drew := (Below.refl _ w1).drew
    refine wp_region_held_drew (S := fun X => Below w1.heap.size w1 X) (by kernel_rfl) hSd (fun hHeld => ?_)
    refine tk 0 (.slice (some ⟨b, off, none⟩) n c) hHeld (fun w => ?_) ?_
    · go_simp
    simp only [PT]
    refine tk 1 (.pointer (some ⟨w.heap.size, 0, none⟩)) hHeld (fun w => ?_) ?_
    · go_simp
    simp only [PT]
    refine tkS 2 (.int .i64 (j : Int)) hHeld (fun w hq => ?_) ?_
    · obtain ⟨z0, z1, z2, z3, z4, z5, z6, z7⟩ := HF.out w hq
      go_simp
    simp only [PT]
    refine tk 3 (.pointer (some ⟨b, off + j * 5, none⟩)) hHeld (fun w => ?_) ?_
    · go_simp
    simp only [PT]
    refine tkS 4 (.agg #[.slice q.A q.n q.c, .slice q.B q.k q.d, .int .i64 q.am, .int .i64 q.rd, .int .i64 q.hd]) hHeld (fun w hq => ?_) ?_
    · obtain ⟨z0, z1, z2, z3, z4, z5, z6, z7⟩ := HF.out w hq
      go_simp
    simp only [PT]
    refine tk 5 (.pointer (some ⟨w.heap.size, 1, none⟩)) hHeld (fun w => ?_) ?_
    · go_simp
    simp only [PT]
    refine tkS 6 (.int .i64 st) hHeld (fun w hq => ?_) ?_
    · obtain ⟨z0, z1, z2, z3, z4, z5, z6, z7⟩ := HF.out w hq
      go_simp
    simp only [PT]
    refine tk 7 (.pointer (some ⟨w.heap.size, 3, none⟩)) hHeld (fun w => ?_) ?_
    · go_simp
    simp only [PT]
    refine tkS 8 (.int .i64 ph) hHeld (fun w hq => ?_) ?_
    · obtain ⟨z0, z1, z2, z3, z4, z5, z6, z7⟩ := HF.out w hq
      go_simp
    simp only [PT]
    refine one_step 9 (by kernel_rfl) rfl (fun Kq hKq => ?_)
    go_simp
    go_at_call 56
    (with_reducible refine (HSH.out _ (HB1.out.trans (hSd.mono HB1.out.size))).mono ?_)
    rintro e y1 ⟨A1, n1, c1, rfl, ho1, hbx⟩
    have HO1 := Lib.hid ho1
    clear ho1
    have hS1 : Below w1.heap.size w1 y1 := hSd.trans (hbx.mono hSd.size)
    clear hbx
    refine hKq.out _ _ hS1 (fun hHeld0 => ?_)
    clear hKq Kq hHeld
    have hHeld := hHeld0
    clear hHeld0
    try simp only [PT]
    refine tk 10 (.slice A1 n1 c1) hHeld (fun w => ?_) ?_
    · go_simp
    simp only [PT]
    refine wpAnyH_done (by kernel_rfl) ?_ _
    clear hHeld
    go_wp2
    go_ret
    exact ⟨A1, n1, c1, rfl, HO1.out.mono (Nat.le_trans HB1.out.size (by simp)), HB1.out.trans (hS1.mono HB1.out.size)⟩
end Go.Proofs.Ytgnhmdfajnnkhaa


/- Rows that a call gathers, one behind the other. -/
namespace Go.Proofs.Ytgnhmdfajnnkhaa
set_option maxRecDepth 100000
set_option linter.unusedVariables false
set_option linter.unusedSimpArgs false
open Go.RowKit

/-- rows that lie in memory beyond a base, none of them in the block of the slice that holds them -/
structure RowsAt (w : World) (base : Nat) (v : Value) (rows : List Rw) : Prop where
  its : ∀ r ∈ rows, Its .i64 w r.A r.n r.c r.l
  off : ∀ r ∈ rows, ∀ b o, r.A = some ⟨b, o, none⟩ → base ≤ b ∧ b < w.heap.size ∧ v.ownBlock ≠ some b
section
variable {w w' : World} {base : Nat} {v v' : Value} {rows : List Rw}
theorem RowsAt.nil (w : World) (base : Nat) (v : Value) : RowsAt w base v [] := ⟨fun r hr => (by cases hr), fun r hr => (by cases hr)⟩
theorem RowsAt.below (h : RowsAt w base v rows) (hb : Below w.heap.size w w') : RowsAt w' base v rows :=
  ⟨fun r hr => (h.its r hr).below hb, fun r hr b o e => ⟨(h.off r hr b o e).1, Nat.lt_of_lt_of_le (h.off r hr b o e).2.1 hb.size, (h.off r hr b o e).2.2⟩⟩
/-- a store below the base -/
theorem RowsAt.low {g : Nat} (h : RowsAt w base v rows) (hg : w.grownBy w' (some g)) (hlt : g < base) (hz : w'.heap.size = w.heap.size) : RowsAt w' base v rows :=
  ⟨fun r hr => (h.its r hr).grown hg (fun b o e => ne_some (by have := (h.off r hr b o e).1; omega)), fun r hr b o e => by rw [hz]; exact h.off r hr b o e⟩
/-- the slice grows -/
theorem RowsAt.turn (h : RowsAt w base v rows) (hg : w.grownBy w' v.ownBlock) (hv : v'.ownBlock = v.ownBlock ∨ v'.ownBlock = some w.heap.size) (hs : w.heap.size ≤ w'.heap.size) : RowsAt w' base v' rows :=
  ⟨fun r hr => (h.its r hr).grown hg (fun b o e => fun e2 => (h.off r hr b o e).2.2 e2.symm), fun r hr b o e => by
    obtain ⟨h1, h2, h3⟩ := h.off r hr b o e
    refine ⟨h1, by omega, ?_⟩
    rcases hv with hv | hv
    · rw [hv]; exact h3
    · rw [hv]; exact ne_some (by omega)⟩
theorem RowsAt.snoc (h : RowsAt w base v rows) {r : Rw} (hi : Its .i64 w r.A r.n r.c r.l) (ho : ∀ b o, r.A = some ⟨b, o, none⟩ → base ≤ b ∧ b < w.heap.size ∧ v.ownBlock ≠ some b) : RowsAt w base v (rows ++ [r]) := by
  refine ⟨fun x hx => ?_, fun x hx => ?_⟩
  · rcases List.mem_append.1 hx with hx | hx
    · exact h.its x hx
    · rw [List.mem_singleton.1 hx]; exact hi
  · rcases List.mem_append.1 hx with hx | hx
    · exact h.off x hx
    · rw [List.mem_singleton.1 hx]; exact ho
end
/-- a row in memory of a call's own lies beyond its base -/
theorem own_at {w : World} {base : Nat} {A : Option Addr} {n c : Nat} {l : List Int} (h : OwnI .i64 3 w base (.slice A n c) l) : Its .i64 w A n c l ∧ ∀ b o, A = some ⟨b, o, none⟩ → base ≤ b ∧ b < w.heap.size := by
  obtain ⟨B, m, d, e, hi⟩ := h.its
  cases e
  exact ⟨hi, fun b o e => h.size b (by rw [e]; rfl)⟩
theorem other_blocks {e : TypeId} {k i base : Nat} {w w' : World} {v : Value} {rows : List (List Value)} (hg : w.grownBy w' v.ownBlock) (ho : OwnR e k w base v rows) (hi : i < base) (hlt : i < w.heap.size) : w'.heap[i]? = w.heap[i]? := hg.block i hlt (fun e => by have := (ho.size i e.symm).1; omega)
theorem info_rows : (Try.prog.info? 40).map (fun i => (i.zero.map (·.cells.size), i.size, i.bytes)) = some (some 1, 1, 24) := by kernel_rfl
theorem results_blk_val {fn : Func} {p u : Tmp} {ty : TypeId} (h : fn.results = #[.cell p ty, .tmp u]) (tmps : Array Value) (P : Program) (w : World) (g : Nat) (t : TypeId) (cs : Array Value) (fr : Nat × Nat) (d : TypeDesc)
    (hp : tmps.getD p undef = .pointer (some ⟨g, 0, none⟩)) (hg : w.heap[g]? = some (.cells cs t fr))
    (hu : P.underlying ty = some d) (hd : d.isRow = true) (hi : (P.info? ty).map (·.size) = some cs.size) (v : Value) (hv : tmps.getD u undef = v) :
    (results fn tmps).run P w = .ok (.tuple #[.agg cs, v]) w := by
  rw [results_cell_tmp h, hp, hv]
  simp [asAddr, run_loadVar_row w g t ty cs fr d hg hu (by cases d <;> simp_all) hi]
end Go.Proofs.Ytgnhmdfajnnkhaa


/- The walk over the document's Run. -/
namespace Go.Proofs.Ytgnhmdfajnnkhaa
set_option maxRecDepth 100000
set_option linter.unusedVariables false
set_option linter.unusedSimpArgs false
open Go.RowKit

end Go.Proofs.Ytgnhmdfajnnkhaa


/- The walk over the document's Rows. -/
namespace Go.Proofs.Ytgnhmdfajnnkhaa
set_option maxRecDepth 100000
set_option linter.unusedVariables false
set_option linter.unusedSimpArgs false
open Go.RowKit

theorem rows_take {a b : List Rw} {j : Nat} (hj : j < a.length) (hk : j < b.length) (h : (a.map Rw.l).take j = (b.map Rw.l).take j) (he : (a.getD j Rw.zero).l = (b.getD j Rw.zero).l) : (a.map Rw.l).take (j + 1) = (b.map Rw.l).take (j + 1) := by
  rw [List.take_succ_eq_append_getElem (by rw [List.length_map]; exact hj), List.take_succ_eq_append_getElem (by rw [List.length_map]; exact hk), h]
  rw [List.getD_eq_getElem?_getD, List.getD_eq_getElem?_getD, List.getElem?_eq_getElem hj, List.getElem?_eq_getElem hk] at he
  simp only [Option.getD_some] at he
  simp [he]
theorem rows_differ {a b : List Rw} {j : Nat} (hj : j < a.length) (hk : j < b.length) (he : (a.getD j Rw.zero).l ≠ (b.getD j Rw.zero).l) : a.map Rw.l ≠ b.map Rw.l := fun h => he (by
  have h1 : (a.map Rw.l)[j]? = (b.map Rw.l)[j]? := by rw [h]
  rw [List.getElem?_map, List.getElem?_map, List.getElem?_eq_getElem hj, List.getElem?_eq_getElem hk] at h1
  simp only [Option.map_some, Option.some.injEq] at h1
  rw [List.getD_eq_getElem?_getD, List.getD_eq_getElem?_getD, List.getElem?_eq_getElem hj, List.getElem?_eq_getElem hk]
  exact h1)
theorem list_same {a b : List Int} {k : Nat} (ha : a.length = k) (hb : b.length = k) (h : ∀ j, j < k → a.getD j 0 = b.getD j 0) : a = b := by
  refine List.ext_getElem (by omega) fun j h1 h2 => ?_
  have := h j (by omega)
  simpa [List.getD_eq_getElem?_getD, h1, h2] using this
set_option maxHeartbeats 8000000 in
theorem rrows_any (A B : Option Addr) (n c m d : Nat) (ra rb : List Rw) (w : World) (ha : Lns w A n c ra) (hb : Lns w B m d rb) :
    Calls Try.prog 19 #[.slice A n c, .slice B m d] w fun e w' => e = .returned (.bool (decide (ra.map Rw.l = rb.map Rw.l))) ∧ Below w.heap.size w w' := by
  have hna := ha.small
  have hmb := hb.small
  have HAL := Lib.hid ha.len
  have HBL := Lib.hid hb.len
  by_cases hnm : n = m
  · subst hnm
    have hne0 : ((n : Int) != (n : Int)) = false := by simp
    have HA := Lib.hid ha
    have HB := Lib.hid hb
    clear ha hb
    go_enter Try.func19, Try.ntmps19
    go_wp2
    go_loopw [5, 6] (fun i k wr => ∃ j : Nat, j ≤ n ∧ i = .int .i64 j ∧ (ra.map Rw.l).take j = (rb.map Rw.l).take j ∧ Below w.heap.size w wr) (fun i _ _ => n - (intOf i).toNat)
    case atStart => exact ⟨0, by omega, rfl, rfl, Below.refl _ _⟩
    case round =>
      obtain ⟨j, hj, rfl, htk, hbw⟩ := hrel
      have HBW := Lib.hid hbw
      have HTK := Lib.hid htk
      clear htk hbw
      by_cases hlt : j < n
      · have hlt2 : (j : Int) < n := by omega
        have q0 : 0 ≤ (j : Int) := by omega
        obtain ⟨b, off, x, hA, hx, hmx, -, hix, hzx⟩ := HA.out.at_ j hlt
        obtain ⟨b', off', y, hB, hy, hmy, -, hiy, hzy⟩ := HB.out.at_ j hlt
        subst hA
        subst hB
        have hxl := hix.len
        have hyl := hiy.len
        have hxs := hix.small
        have hys := hiy.small
        have HIX := Lib.hid (show ∀ X, Below w.heap.size w X → X.cell? ⟨b, off + j, none⟩ = some (.slice x.A x.n x.c) ∧ X.cell? ⟨b', off' + j, none⟩ = some (.slice y.A y.n y.c) from fun X hX => by
          obtain ⟨b2, off2, x2, hA2, hx2, -, -, -, z0⟩ := (HA.out.below hX).at_ j hlt
          obtain ⟨b3, off3, y2, hB2, hy2, -, -, -, z1⟩ := (HB.out.below hX).at_ j hlt
          cases hA2
          cases hB2
          obtain rfl := hx.symm.trans hx2
          obtain rfl := hy.symm.trans hy2
          exact ⟨z0, z1⟩)
        have HF := Lib.hid (show ∀ X, Below wr.heap.size wr X → X.cell? ⟨b, off + j, none⟩ = some (.slice x.A x.n x.c) ∧ X.cell? ⟨b', off' + j, none⟩ = some (.slice y.A y.n y.c) from fun X hX => HIX.out X (HBW.out.trans (hX.mono HBW.out.size)))
        have HX := Lib.hid hx
        have HY := Lib.hid hy
        have HJX := Lib.hid hix
        have HJY := Lib.hid hiy
        clear hx hy hmx hmy hzx hzy hix hiy
        by_cases hnn0 : x.n = y.n
        · have hnn : ((x.n : Int) != (y.n : Int)) = false := by rw [hnn0]; simp
          go_wp2
          have hSd : Below wr.heap.size wr wr.drew := (Below.refl _ wr).drew
          refine wp_region_held_drew (S := fun X => Below wr.heap.size wr X) (by kernel_rfl) hSd (fun hHeld => ?_)
          refine tk 0 (.slice (some ⟨b, off, none⟩) n c) hHeld (fun w => ?_) ?_
          · go_simp
          simp only [PT]
          refine tk 1 (.int .i64 j) hHeld (fun w => ?_) ?_
          · go_simp
          simp only [PT]
          refine tk 2 (.pointer (some ⟨b, off + j, none⟩)) hHeld (fun w => ?_) ?_
          · go_simp
          simp only [PT]
          refine tkS 3 (.slice x.A x.n x.c) hHeld (fun w hq => ?_) ?_
          · obtain ⟨z0, z1⟩ := HF.out w hq
            go_simp
          simp only [PT]
          refine tk 4 (.int .i64 (x.n : Int)) hHeld (fun w => ?_) ?_
          · go_simp
          simp only [PT]
          refine tk 5 (.slice (some ⟨b', off', none⟩) n d) hHeld (fun w => ?_) ?_
          · go_simp
          simp only [PT]
          refine tk 6 (.int .i64 j) hHeld (fun w => ?_) ?_
          · go_simp
          simp only [PT]
          refine tk 7 (.pointer (some ⟨b', off' + j, none⟩)) hHeld (fun w => ?_) ?_
          · go_simp
          simp only [PT]
          refine tkS 8 (.slice y.A y.n y.c) hHeld (fun w hq => ?_) ?_
          · obtain ⟨z0, z1⟩ := HF.out w hq
            go_simp
          simp only [PT]
          refine tk 9 (.int .i64 (y.n : Int)) hHeld (fun w => ?_) ?_
          · go_simp
          simp only [PT]
          refine tk 10 (.bool false) hHeld (fun w => ?_) ?_
          · (go_simp; try exact hnn)
          simp only [PT]
          refine wpAnyH_done (by kernel_rfl) ?_ _
          clear hHeld
          obtain ⟨xA, xn, xc, xl⟩ := x
          obtain ⟨yA, yn, yc, yl⟩ := y
          simp only at *
          subst hnn0
          go_wp2
          go_loopw [6] (fun k wq => ∃ q : Nat, q ≤ xn ∧ k = .int .i64 q ∧ (∀ i, i < q → xl.getD i 0 = yl.getD i 0) ∧ Below w.heap.size w wq) (fun k _ => xn - (intOf k).toNat)
          case atStart => exact ⟨0, by omega, rfl, fun i hi => by omega, HBW.out.trans (hSd.mono HBW.out.size)⟩
          case round =>
            rename_i wr0
            obtain ⟨q, hq, rfl, hsm, hbq⟩ := hrel
            have HBQ := Lib.hid hbq
            have HSM := Lib.hid hsm
            obtain ⟨z0, z1⟩ := HIX.out wr hbq
            clear hsm
            by_cases hql : q < xn
            · have hql2 : (q : Int) < xn := by omega
              have q1 : 0 ≤ (q : Int) := by omega
              obtain ⟨xb, xo, rfl, hcx⟩ := HJX.out.at_ (by omega)
              obtain ⟨yb, yo, rfl, hcy⟩ := HJY.out.at_ (by omega)
              obtain ⟨xx, hxx⟩ : ∃ v, xl.getD q 0 = v := ⟨_, rfl⟩
              obtain ⟨yy, hyy⟩ : ∃ v, yl.getD q 0 = v := ⟨_, rfl⟩
              have HF2 := Lib.hid (show ∀ X, Below wr.heap.size wr X → X.cell? ⟨b, off + j, none⟩ = some (.slice (some ⟨xb, xo, none⟩) xn xc) ∧ X.cell? ⟨b', off' + j, none⟩ = some (.slice (some ⟨yb, yo, none⟩) xn yc) ∧ X.cell? ⟨xb, xo + q, none⟩ = some (.int .i64 xx) ∧ X.cell? ⟨yb, yo + q, none⟩ = some (.int .i64 yy) from fun X hX => by
                have hX0 := HBQ.out.trans (hX.mono HBQ.out.size)
                obtain ⟨v0, v1⟩ := HIX.out X hX0
                obtain ⟨xb2, xo2, e1, hc1⟩ := (HJX.out.below hX0).at_ (by omega)
                obtain ⟨yb2, yo2, e2, hc2⟩ := (HJY.out.below hX0).at_ (by omega)
                cases e1
                cases e2
                have h1 := hc1 q hql
                have h2 := hc2 q hql
                rw [hxx] at h1
                rw [hyy] at h2
                exact ⟨v0, v1, h1, h2⟩)
              clear hcx hcy
              by_cases hxy : xx = yy
              · have hne : (xx != yy) = false := by rw [hxy]; simp
                have HN := Lib.hid (show ∀ i, i < q + 1 → xl.getD i 0 = yl.getD i 0 from fun i hi => by
                  by_cases e : i = q
                  · rw [e, hxx, hyy]; exact hxy
                  · exact HSM.out i (by omega))
                clear hxx hyy hxy
                go_wp2
                clear z0 z1
                have hSd : Below wr.heap.size wr wr.drew := (Below.refl _ wr).drew
                refine wp_region_held_drew (S := fun X => Below wr.heap.size wr X) (by kernel_rfl) hSd (fun hHeld => ?_)
                refine tk 0 (.slice (some ⟨b, off, none⟩) n c) hHeld (fun w => ?_) ?_
                · go_simp
                simp only [PT]
                refine tk 1 (.int .i64 j) hHeld (fun w => ?_) ?_
                · go_simp
                simp only [PT]
                refine tk 2 (.pointer (some ⟨b, off + j, none⟩)) hHeld (fun w => ?_) ?_
                · go_simp
                simp only [PT]
                refine tkS 3 (.slice (some ⟨xb, xo, none⟩) xn xc) hHeld (fun w hq => ?_) ?_
                · obtain ⟨z0, z1, z2, z3⟩ := HF2.out w hq
                  go_simp
                simp only [PT]
                refine tk 4 (.int .i64 q) hHeld (fun w => ?_) ?_
                · go_simp
                simp only [PT]
                refine tk 5 (.pointer (some ⟨xb, xo + q, none⟩)) hHeld (fun w => ?_) ?_
                · go_simp
                simp only [PT]
                refine tkS 6 (.int .i64 xx) hHeld (fun w hq => ?_) ?_
                · obtain ⟨z0, z1, z2, z3⟩ := HF2.out w hq
                  go_simp
                simp only [PT]
                refine tk 7 (.slice (some ⟨b', off', none⟩) n d) hHeld (fun w => ?_) ?_
                · go_simp
                simp only [PT]
                refine tk 8 (.int .i64 j) hHeld (fun w => ?_) ?_
                · go_simp
                simp only [PT]
                refine tk 9 (.pointer (some ⟨b', off' + j, none⟩)) hHeld (fun w => ?_) ?_
                · go_simp
                simp only [PT]
                refine tkS 10 (.slice (some ⟨yb, yo, none⟩) xn yc) hHeld (fun w hq => ?_) ?_
                · obtain ⟨z0, z1, z2, z3⟩ := HF2.out w hq
                  go_simp
                simp only [PT]
                refine tk 11 (.int .i64 q) hHeld (fun w => ?_) ?_
                · go_simp
                simp only [PT]
                refine tk 12 (.pointer (some ⟨yb, yo + q, none⟩)) hHeld (fun w => ?_) ?_
                · go_simp
                simp only [PT]
                refine tkS 13 (.int .i64 yy) hHeld (fun w hq => ?_) ?_
                · obtain ⟨z0, z1, z2, z3⟩ := HF2.out w hq
                  go_simp
                simp only [PT]
                refine tk 14 (.bool false) hHeld (fun w => ?_) ?_
                · (go_simp; try exact hne)
                simp only [PT]
                refine wpAnyH_done (by kernel_rfl) ?_ _
                clear hHeld
                go_wp2
                go_roundw
                case rel => exact ⟨q + 1, by omega, by go_num, HN.out, HBQ.out.trans (hSd.mono HBQ.out.size)⟩
                case measure => simp [intOf]; omega
              · have hne : (xx != yy) = true := by rw [bne_iff_ne]; exact hxy
                have HR := Lib.hid (show decide (ra.map Rw.l = rb.map Rw.l) = false from decide_eq_false (rows_differ (j := j) (by rw [HAL.out]; exact hlt) (by rw [HBL.out]; exact hlt) (by
                  rw [HX.out, HY.out]
                  intro e
                  simp only at e
                  exact hxy (by rw [← hxx, ← hyy, e]))))
                clear hxx hyy hxy
                go_wp2
                clear z0 z1
                have hSd : Below wr.heap.size wr wr.drew := (Below.refl _ wr).drew
                refine wp_region_held_drew (S := fun X => Below wr.heap.size wr X) (by kernel_rfl) hSd (fun hHeld => ?_)
                refine tk 0 (.slice (some ⟨b, off, none⟩) n c) hHeld (fun w => ?_) ?_
                · go_simp
                simp only [PT]
                refine tk 1 (.int .i64 j) hHeld (fun w => ?_) ?_
                · go_simp
                simp only [PT]
                refine tk 2 (.pointer (some ⟨b, off + j, none⟩)) hHeld (fun w => ?_) ?_
                · go_simp
                simp only [PT]
                refine tkS 3 (.slice (some ⟨xb, xo, none⟩) xn xc) hHeld (fun w hq => ?_) ?_
                · obtain ⟨z0, z1, z2, z3⟩ := HF2.out w hq
                  go_simp
                simp only [PT]
                refine tk 4 (.int .i64 q) hHeld (fun w => ?_) ?_
                · go_simp
                simp only [PT]
                refine tk 5 (.pointer (some ⟨xb, xo + q, none⟩)) hHeld (fun w => ?_) ?_
                · go_simp
                simp only [PT]
                refine tkS 6 (.int .i64 xx) hHeld (fun w hq => ?_) ?_
                · obtain ⟨z0, z1, z2, z3⟩ := HF2.out w hq
                  go_simp
                simp only [PT]
                refine tk 7 (.slice (some ⟨b', off', none⟩) n d) hHeld (fun w => ?_) ?_
                · go_simp
                simp only [PT]
                refine tk 8 (.int .i64 j) hHeld (fun w => ?_) ?_
                · go_simp
                simp only [PT]
                refine tk 9 (.pointer (some ⟨b', off' + j, none⟩)) hHeld (fun w => ?_) ?_
                · go_simp
                simp only [PT]
                refine tkS 10 (.slice (some ⟨yb, yo, none⟩) xn yc) hHeld (fun w hq => ?_) ?_
                · obtain ⟨z0, z1, z2, z3⟩ := HF2.out w hq
                  go_simp
                simp only [PT]
                refine tk 11 (.int .i64 q) hHeld (fun w => ?_) ?_
                · go_simp
                simp only [PT]
                refine tk 12 (.pointer (some ⟨yb, yo + q, none⟩)) hHeld (fun w => ?_) ?_
                · go_simp
                simp only [PT]
                refine tkS 13 (.int .i64 yy) hHeld (fun w hq => ?_) ?_
                · obtain ⟨z0, z1, z2, z3⟩ := HF2.out w hq
                  go_simp
                simp only [PT]
                refine tk 14 (.bool true) hHeld (fun w => ?_) ?_
                · (go_simp; try exact hne)
                simp only [PT]
                refine wpAnyH_done (by kernel_rfl) ?_ _
                clear hHeld
                go_wp2
                go_ret
                exact ⟨by rw [HR.out]; rfl, HBQ.out.trans (hSd.mono HBQ.out.size)⟩
            · obtain rfl : q = xn := by omega
              have hge : ¬ ((q : Int) < q) := by omega
              have HN := Lib.hid (rows_take (a := ra) (b := rb) (j := j) (by rw [HAL.out]; exact hlt) (by rw [HBL.out]; exact hlt) HTK.out (by
                rw [HX.out, HY.out]
                exact list_same hxl hyl HSM.out))
              go_wp2
              go_roundw
              case rel => exact ⟨j + 1, by omega, by go_num, HN.out, HBQ.out⟩
              case measure => simp [intOf]; omega
        · have hnn : ((x.n : Int) != (y.n : Int)) = true := by rw [bne_iff_ne]; omega
          have HR := Lib.hid (show decide (ra.map Rw.l = rb.map Rw.l) = false from decide_eq_false (rows_differ (j := j) (by rw [HAL.out]; exact hlt) (by rw [HBL.out]; exact hlt) (by
            rw [HX.out, HY.out]
            intro e
            exact hnn0 (by rw [← hxl, ← hyl, e]))))
          go_wp2
          have hSd : Below wr.heap.size wr wr.drew := (Below.refl _ wr).drew
          refine wp_region_held_drew (S := fun X => Below wr.heap.size wr X) (by kernel_rfl) hSd (fun hHeld => ?_)
          refine tk 0 (.slice (some ⟨b, off, none⟩) n c) hHeld (fun w => ?_) ?_
          · go_simp
          simp only [PT]
          refine tk 1 (.int .i64 j) hHeld (fun w => ?_) ?_
          · go_simp
          simp only [PT]
          refine tk 2 (.pointer (some ⟨b, off + j, none⟩)) hHeld (fun w => ?_) ?_
          · go_simp
          simp only [PT]
          refine tkS 3 (.slice x.A x.n x.c) hHeld (fun w hq => ?_) ?_
          · obtain ⟨z0, z1⟩ := HF.out w hq
            go_simp
          simp only [PT]
          refine tk 4 (.int .i64 (x.n : Int)) hHeld (fun w => ?_) ?_
          · go_simp
          simp only [PT]
          refine tk 5 (.slice (some ⟨b', off', none⟩) n d) hHeld (fun w => ?_) ?_
          · go_simp
          simp only [PT]
          refine tk 6 (.int .i64 j) hHeld (fun w => ?_) ?_
          · go_simp
          simp only [PT]
          refine tk 7 (.pointer (some ⟨b', off' + j, none⟩)) hHeld (fun w => ?_) ?_
          · go_simp
          simp only [PT]
          refine tkS 8 (.slice y.A y.n y.c) hHeld (fun w hq => ?_) ?_
          · obtain ⟨z0, z1⟩ := HF.out w hq
            go_simp
          simp only [PT]
          refine tk 9 (.int .i64 (y.n : Int)) hHeld (fun w => ?_) ?_
          · go_simp
          simp only [PT]
          refine tk 10 (.bool true) hHeld (fun w => ?_) ?_
          · (go_simp; try exact hnn)
          simp only [PT]
          refine wpAnyH_done (by kernel_rfl) ?_ _
          clear hHeld
          go_wp2
          go_ret
          exact ⟨by rw [HR.out]; rfl, HBW.out.trans (hSd.mono HBW.out.size)⟩
      · obtain rfl : j = n := by omega
        have hge : ¬ ((j : Int) < j) := by omega
        have HR := Lib.hid (show decide (ra.map Rw.l = rb.map Rw.l) = true from decide_eq_true (by
          have h := HTK.out
          rw [List.take_of_length_le (by rw [List.length_map, HAL.out]; exact Nat.le_refl _), List.take_of_length_le (by rw [List.length_map, HBL.out]; exact Nat.le_refl _)] at h
          exact h))
        go_wp2
        go_ret
        exact ⟨by rw [HR.out]; rfl, HBW.out⟩
  · have hne0 : ((n : Int) != (m : Int)) = true := by rw [bne_iff_ne]; omega
    have HR := Lib.hid (show decide (ra.map Rw.l = rb.map Rw.l) = false from decide_eq_false (fun e => hnm (by
      have h := congrArg List.length e
      rw [List.length_map, List.length_map, HAL.out, HBL.out] at h
      exact h)))
    clear ha hb hnm
    go_enter Try.func19, Try.ntmps19
    go_wp2
    go_ret
    exact ⟨by rw [HR.out]; rfl, Below.refl _ _⟩
end Go.Proofs.Ytgnhmdfajnnkhaa


/- The walk over the document's Clash of a plan and a row. -/
namespace Go.Proofs.Ytgnhmdfajnnkhaa
set_option maxRecDepth 100000
set_option linter.unusedVariables false
set_option linter.unusedSimpArgs false
open Go.RowKit

end Go.Proofs.Ytgnhmdfajnnkhaa


/- What package stage does: contracts that its own walks must bring; the chapter's example over them. -/
namespace Go.Proofs.Ytgnhmdfajnnkhaa
set_option maxRecDepth 100000
set_option linter.unusedVariables false
set_option linter.unusedSimpArgs false
open Go.RowKit

structure StgOk : Prop where
  new : ∀ (X : World), Calls Try.prog 26 #[] X (GivesG newG X)
  may : ∀ (A : Option Addr) (n c : Nat) (l : List Pl) (s : Sg) (X : World), Pls X A n c l → SmG s → n ≤ 1000 → (∀ p ∈ l, p.n ≤ 1000 ∧ p.k ≤ 1000) → Calls Try.prog 22 #[.slice A n c, sgV s] X fun e w' => e = .returned (.bool (mayS l s)) ∧ Below X.heap.size X w'
  tick : ∀ (A : Option Addr) (n c : Nat) (l : List Pl) (s : Sg) (X : World), Pls X A n c l → SmG s → n ≤ 1000 → (∀ p ∈ l, p.n ≤ 1000 ∧ p.k ≤ 1000) → Calls Try.prog 23 #[.slice A n c, sgV s] X (GivesG (tickS l s) X)
  lamps : ∀ (A : Option Addr) (n c : Nat) (l : List Pl) (s : Sg) (X : World), Pls X A n c l → SmG s → n ≤ 1000 → (∀ p ∈ l, p.n ≤ 1000 ∧ p.k ≤ 1000) → Calls Try.prog 20 #[.slice A n c, sgV s] X (GivesL (lampsS l s) X)
  run : ∀ (A : Option Addr) (n c : Nat) (l : List Pl) (s : Sg) (x : Int) (X : World), Pls X A n c l → SmG s → n ≤ 1000 → (∀ p ∈ l, p.n ≤ 1000 ∧ p.k ≤ 1000) → Calls Try.prog 24 #[.slice A n c, sgV s, .int .i64 x] X (GivesGL (runG l s x) (runL l s x) X)
/-- what it takes of package lamp -/
structure LmpText : Prop where
  text : ∀ (A : Option Addr) (n c : Nat) (l : List Int) (X : World), Its .i64 X A n c l → n ≤ 1000 → Calls Try.prog 27 #[.slice A n c] X fun e w' => e = .returned (.string (textR l)) ∧ Below X.heap.size X w'
theorem sg_text_gr : textR [2, 0] = ⟨#[103, 114]⟩ := by decide +kernel
theorem row_of {w : World} {A : Option Addr} {n c : Nat} {r : List Rw} {L : List (List Int)} (h : Lns w A n c r) (hL : r.map Rw.l = L) {j : Nat} {x : List Int} (hx : L[j]? = some x) : ∃ (b off : Nat) (q : Rw), A = some ⟨b, off, none⟩ ∧ q.l = x ∧ (∀ X, Below w.heap.size w X → Its .i64 X q.A q.n q.c x ∧ X.cell? ⟨b, off + j, none⟩ = some (.slice q.A q.n q.c)) := by
  have hj : j < n := by
    rw [← h.len, ← List.length_map (f := Rw.l), hL]
    exact (List.getElem?_eq_some_iff.1 hx).1
  obtain ⟨b, off, q, hA, hq, hm, hg, hi, hz⟩ := h.at_ j hj
  have hl : q.l = x := by
    have h1 : (r.map Rw.l)[j]? = some q.l := by rw [List.getElem?_map, hg]; rfl
    rw [hL, hx] at h1
    exact (Option.some.inj h1).symm
  refine ⟨b, off, q, hA, hl, fun X hX => ?_⟩
  obtain ⟨b2, off2, q2, hA2, hq2, -, -, hi2, hz2⟩ := (h.below hX).at_ j hj
  rw [hA] at hA2
  cases hA2
  obtain rfl := hq.symm.trans hq2
  exact ⟨by rw [← hl]; exact hi2, hz2⟩
end Go.Proofs.Ytgnhmdfajnnkhaa


/- '==' between two machines. -/
namespace Go.Proofs.Ytgnhmdfajnnkhaa
set_option maxRecDepth 100000
set_option linter.unusedVariables false
set_option linter.unusedSimpArgs false
open Go.RowKit

theorem sig_part_bool {P : Program} (t : TypeId) (cs : Array Value) (off : Nat) (v : Value) (h : P.underlying t = some .bool) (hv : cs[off]? = some v) (w : World) : (part t cs off).run P w = .ok v w := by
  simp [part, isAgg, run_underlying h, hv, go_sem]
set_option maxHeartbeats 4000000 in
theorem eq_sigs (f g : Sg) (w : World) : (Op.equalIn 10000 24 (sgV f) (sgV g)).run Try.prog w = .ok (decide (f = g)) w := by
  simp only [sgV]
  rw [run_equalIn_struct w 9999 24 _ _ (by kernel_rfl) (by kernel_rfl)]
  unfold Program.fieldsOf
  rw [Try.underlying24]
  have i3 := Try.underlying3
  have i4 := Try.underlying4
  dsimp only
  have hd : decide (f = g) = (f.pl == g.pl && (f.st == g.st && (f.nx == g.nx && (f.ph == g.ph && (f.t == g.t && (f.hd == g.hd && (f.hl == g.hl && (f.ak == g.ak && (f.wt == g.wt && (f.sp == g.sp)))))))))) := by
    rcases f with ⟨a0, a1, a2, a3, a4, a5, a6, a7, a8, a9⟩
    rcases g with ⟨b0, b1, b2, b3, b4, b5, b6, b7, b8, b9⟩
    rw [Bool.eq_iff_iff]
    simp
  rw [hd]
  rw [stg_fields (by decide) (stg_part _ _ _ _ (.int .i64 f.pl) i3 rfl w) (stg_part _ _ _ _ (.int .i64 g.pl) i3 rfl w) (run_equalIn_int w 9998 _ _ _ _ _ i3),
    stg_fields (by decide) (stg_part _ _ _ _ (.int .i64 f.st) i3 rfl w) (stg_part _ _ _ _ (.int .i64 g.st) i3 rfl w) (run_equalIn_int w 9998 _ _ _ _ _ i3),
    stg_fields (by decide) (stg_part _ _ _ _ (.int .i64 f.nx) i3 rfl w) (stg_part _ _ _ _ (.int .i64 g.nx) i3 rfl w) (run_equalIn_int w 9998 _ _ _ _ _ i3),
    stg_fields (by decide) (stg_part _ _ _ _ (.int .i64 f.ph) i3 rfl w) (stg_part _ _ _ _ (.int .i64 g.ph) i3 rfl w) (run_equalIn_int w 9998 _ _ _ _ _ i3),
    stg_fields (by decide) (stg_part _ _ _ _ (.int .i64 f.t) i3 rfl w) (stg_part _ _ _ _ (.int .i64 g.t) i3 rfl w) (run_equalIn_int w 9998 _ _ _ _ _ i3),
    stg_fields (by decide) (stg_part _ _ _ _ (.int .i64 f.hd) i3 rfl w) (stg_part _ _ _ _ (.int .i64 g.hd) i3 rfl w) (run_equalIn_int w 9998 _ _ _ _ _ i3),
    stg_fields (by decide) (stg_part _ _ _ _ (.int .i64 f.hl) i3 rfl w) (stg_part _ _ _ _ (.int .i64 g.hl) i3 rfl w) (run_equalIn_int w 9998 _ _ _ _ _ i3),
    stg_fields (by decide) (stg_part _ _ _ _ (.int .i64 f.ak) i3 rfl w) (stg_part _ _ _ _ (.int .i64 g.ak) i3 rfl w) (run_equalIn_int w 9998 _ _ _ _ _ i3),
    stg_fields (by decide) (stg_part _ _ _ _ (.int .i64 f.wt) i3 rfl w) (stg_part _ _ _ _ (.int .i64 g.wt) i3 rfl w) (run_equalIn_int w 9998 _ _ _ _ _ i3),
    stg_fields (by decide) (sig_part_bool _ _ _ (.bool f.sp) i4 rfl w) (sig_part_bool _ _ _ (.bool g.sp) i4 rfl w) (run_equalIn_bool w 9998 _ _ _ i4)]
  simp only [Op.eqFields, Sem.run_pure, stg_if, Bool.and_true]
theorem run_eq_sig {ρ : Operand → Value} {o : Oper} {x y : Operand} {f g : Sg} {w : World} (ho : o.op = .binOp .eql 24 x y 24) (hx : ρ x = sgV f) (hy : ρ y = sgV g) :
    (execOp ρ o).run Try.prog w = .ok (.value (.bool (decide (f = g)))) w := by
  unfold execOp
  rw [ho]
  have hm : Try.prog.eqGuardType Try.prog.depth 24 = false := by kernel_rfl
  have hE := eq_sigs f g w
  simp only [sgV] at hx hy hE
  simp only [hx, hy, Sem.run_bind, run_eqGuard_agg (hm := hm), run_eql_struct, hE, Result.andThen_ok, Sem.run_pure, Sem.run_map]
theorem wpList_eq_sig {ops : Array Oper} {rest : List Oper} {o : Oper} {a : Act} {w : World} {Q : Exit → Act → World → Prop} (x y : Operand) (ho : o.op = .binOp .eql 24 x y 24) (f g : Sg) (hx : a.eval x = sgV f) (hy : a.eval y = sgV g)
    (h : wpList Try.prog ops Q rest (a.put o.dst (.bool (decide (f = g)))) w) (hw : Region.wanted o (yielded ops a.tmps) = true) : wpList Try.prog ops Q (o :: rest) a w :=
  wpList_step fun K hK => by
    rw [if_pos hw]
    unfold Oper.wp
    rw [run_eq_sig ho hx hy]
    exact hK _ _ h
end Go.Proofs.Ytgnhmdfajnnkhaa


/- What package lamp does: contracts that its own walks must bring; the chapter's example over them. -/
namespace Go.Proofs.Ytgnhmdfajnnkhaa
set_option maxRecDepth 100000
set_option linter.unusedVariables false
set_option linter.unusedSimpArgs false
open Go.RowKit

end Go.Proofs.Ytgnhmdfajnnkhaa


/- Pure facts of lamps, for the laws. -/
namespace Go.Proofs.Ytgnhmdfajnnkhaa
set_option maxRecDepth 100000
set_option linter.unusedVariables false
set_option linter.unusedSimpArgs false
open Go.RowKit

end Go.Proofs.Ytgnhmdfajnnkhaa


/- Ticks, and more ticks. -/
namespace Go.Proofs.Ytgnhmdfajnnkhaa
set_option maxRecDepth 100000
set_option linter.unusedVariables false
set_option linter.unusedSimpArgs false
open Go.RowKit

theorem tick_small {l : List Pl} {s : Sg} (h : SmG s) : SmG (tickS l s) := by
  by_cases hm : mayS l s = true
  · exact small_may (may_tick (mayS_iff.1 hm))
  · rw [tickS, if_neg hm]; exact h
end Go.Proofs.Ytgnhmdfajnnkhaa


/- What package role answers, plainly; the tables as cells; Is, May, Turns, Name, and the document's own answers to them. -/
namespace Go.Proofs.Ytgnhmdfajnnkhaa
set_option linter.unusedVariables false
set_option linter.unusedSimpArgs false
open Go.RowKit

def cmdB (c : Int) : Bool := decide (0 ≤ c) && decide (c < 8)
def turnsB (c : Int) : Bool := decide (1 ≤ c) && decide (c ≤ 6)
end Go.Proofs.Ytgnhmdfajnnkhaa


/- Turns, Name, and the document's own Is, May, Turns, Name; two lists of numbers held against one another. -/
namespace Go.Proofs.Ytgnhmdfajnnkhaa
set_option linter.unusedVariables false
set_option linter.unusedSimpArgs false
open Go.RowKit

theorem eight_of {c : Int} (h : cmdB c = true) : c = 0 ∨ c = 1 ∨ c = 2 ∨ c = 3 ∨ c = 4 ∨ c = 5 ∨ c = 6 ∨ c = 7 := by
  have h2 : 0 ≤ c ∧ c < 8 := by simpa [cmdB] using h
  omega
theorem no_cmd {c : Int} (h : cmdB c = false) : (c == 0) = false ∧ (c == 1) = false ∧ (c == 2) = false ∧ (c == 3) = false ∧ (c == 4) = false ∧ (c == 5) = false ∧ (c == 6) = false ∧ (c == 7) = false := by
  have h2 : ¬ (0 ≤ c ∧ c < 8) := by
    intro h3
    simp [cmdB, h3.1, h3.2] at h
  simp only [beq_eq_false_iff_ne, ne_eq]
  omega
theorem turns_any (c : Int) (w : World) : Calls Try.prog 21 #[.int .i64 c] w fun e w' => e = .returned (.bool (turnsB c)) ∧ w' = w := by
  cases hc : cmdB c
  · have hb : turnsB c = false := by
      have h2 : ¬ (0 ≤ c ∧ c < 8) := by
        intro h3
        simp [cmdB, h3.1, h3.2] at hc
      simp [turnsB]
      omega
    obtain ⟨n0, n1, n2, n3, n4, n5, n6, n7⟩ := no_cmd hc
    rw [hb]
    by_cases h0 : 1 ≤ c
    · have h6 : ¬ c ≤ 6 := by simpa [turnsB, h0] using hb
      clear hb hc
      go_enter Try.func21, Try.ntmps21
      go_wp2
      go_ret
      exact ⟨rfl, rfl⟩
    · clear hb hc
      go_enter Try.func21, Try.ntmps21
      go_wp2
      go_ret
      exact ⟨rfl, rfl⟩
  · rcases eight_of hc with rfl | rfl | rfl | rfl | rfl | rfl | rfl | rfl
    all_goals
      clear hc
      go_enter Try.func21, Try.ntmps21
      go_wp2
      go_ret
      exact ⟨rfl, rfl⟩
theorem rturns_any (c : Int) (w : World) : Calls Try.prog 37 #[.int .i64 c] w fun e w' => e = .returned (.bool (turnsB c)) ∧ w' = w := by
  cases hc : cmdB c
  · have hb : turnsB c = false := by
      have h2 : ¬ (0 ≤ c ∧ c < 8) := by
        intro h3
        simp [cmdB, h3.1, h3.2] at hc
      simp [turnsB]
      omega
    obtain ⟨n0, n1, n2, n3, n4, n5, n6, n7⟩ := no_cmd hc
    rw [hb]
    by_cases h0 : 1 ≤ c
    · have h6 : ¬ c ≤ 6 := by simpa [turnsB, h0] using hb
      clear hb hc
      go_enter Try.func37, Try.ntmps37
      go_wp2
      go_ret
      exact ⟨rfl, rfl⟩
    · clear hb hc
      go_enter Try.func37, Try.ntmps37
      go_wp2
      go_ret
      exact ⟨rfl, rfl⟩
  · rcases eight_of hc with rfl | rfl | rfl | rfl | rfl | rfl | rfl | rfl
    all_goals
      clear hc
      go_enter Try.func37, Try.ntmps37
      go_wp2
      go_ret
      exact ⟨rfl, rfl⟩
end Go.Proofs.Ytgnhmdfajnnkhaa


/- What is asked of a machine, plainly: one ask, several, and with ticks between. -/
namespace Go.Proofs.Ytgnhmdfajnnkhaa
set_option maxRecDepth 100000
set_option linter.unusedVariables false
set_option linter.unusedSimpArgs false
open Go.RowKit

structure Ak where
  cmd : Int
  arg : Int
deriving DecidableEq
def Ak.row (a : Ak) : List Value := [.int .i64 a.cmd, .int .i64 a.arg]
def Ak.zero : Ak := ⟨0, 0⟩
/-- a slice of asks -/
def Aks (w : World) (A : Option Addr) (n c : Nat) (l : List Ak) : Prop := Rws 2 w A n c (l.map Ak.row)
section
variable {w w' : World} {A : Option Addr} {n c : Nat} {l : List Ak}
theorem Aks.len (h : Aks w A n c l) : l.length = n := by rw [← Rws.len h, List.length_map]
theorem Aks.small (h : Aks w A n c l) : n ≤ 9223372036854775807 := Rws.small h
theorem Aks.below (h : Aks w A n c l) (hb : Below w.heap.size w w') : Aks w' A n c l := Rws.below h hb
theorem Aks.at_ (h : Aks w A n c l) (j : Nat) (hj : j < n) : ∃ b off x, A = some ⟨b, off, none⟩ ∧ l.getD j Ak.zero = x ∧ w.cell? ⟨b, off + j * 2, none⟩ = some (.int .i64 x.cmd) ∧ w.cell? ⟨b, off + j * 2 + 1, none⟩ = some (.int .i64 x.arg) := by
  obtain ⟨b, off, hA, hc⟩ := Rws.at_ h (by omega)
  have hl : j < l.length := by rw [h.len]; exact hj
  have hr : (l.map Ak.row).getD j [] = l[j].row := by simp [List.getD_eq_getElem?_getD, hl]
  refine ⟨b, off, l[j], hA, by simp [List.getD_eq_getElem?_getD, hl], ?_, ?_⟩
  · have := hc j hj 0 (by omega)
    rw [hr] at this
    exact this
  · have := hc j hj 1 (by omega)
    rw [hr] at this
    exact this
end
/-- what is asked without an argument -/
def bareS (s : Sg) (c a : Int) : Sg × Int :=
  if a ≠ 0 then (s, 1)
  else if c = 2 then (if s.hd = 0 then (s, 11) else ({ s with hd := 0 }, 0))
  else if c = 5 then ({ s with sp := true, hd := 0 }, 0)
  else if s.sp = false ∨ s.ph ≠ 2 then (s, 11) else ({ s with sp := false }, 0)
def freeG (s : Sg) : Prop := s.ph = 0 ∧ s.sp = false
instance (s : Sg) : Decidable (freeG s) := by unfold freeG; infer_instance
/-- one ask -/
def askS (l : List Pl) (s : Sg) (c a : Int) : Sg × Int :=
  if c = 1 then (if a < 1 then (s, 1) else if ¬ freeG s ∨ (planAt l s.pl).hd - s.hl < a then (s, 11) else ({ s with hd := a }, 0))
  else if c = 3 then (if a < 0 ∨ (planAt l s.pl).s.length ≤ a then (s, 1) else if ¬ freeG s ∨ s.wt ≠ -1 ∨ a = s.st then (s, 11) else ({ s with ak := a }, 0))
  else if c = 4 then (if a < 0 ∨ l.length ≤ a then (s, 1) else if s.sp = true ∨ a = s.pl then (s, 11) else ({ s with wt := a }, 0))
  else bareS s c a
def doS (l : List Pl) (s : Sg) (c a : Int) : Sg × Int := if mayS l s = true ∧ turnsB c = true then askS l s c a else (s, 1)
/-- one of what is played -/
def stepS (l : List Pl) (s : Sg) (a : Ak) : Sg := if a.cmd = -1 then tickS l s else (doS l s a.cmd a.arg).1
def allG (l : List Pl) (s : Sg) (q : List Ak) : Nat → Sg
  | 0 => s
  | k + 1 => (doS l (allG l s q k) (q.getD k Ak.zero).cmd (q.getD k Ak.zero).arg).1
def allE (l : List Pl) (s : Sg) (q : List Ak) : Nat → List Int
  | 0 => []
  | k + 1 => allE l s q k ++ [(doS l (allG l s q k) (q.getD k Ak.zero).cmd (q.getD k Ak.zero).arg).2]
def playG (l : List Pl) (s : Sg) (q : List Ak) : Nat → Sg
  | 0 => s
  | k + 1 => stepS l (playG l s q k) (q.getD k Ak.zero)
def playL (l : List Pl) (s : Sg) (q : List Ak) : Nat → List (List Int)
  | 0 => []
  | k + 1 => playL l s q k ++ (if (q.getD k Ak.zero).cmd = -1 then [lampsS l (playG l s q (k + 1))] else [])
/-- gives a machine and an error -/
def GivesGE (r : Sg × Int) (X : World) : Ending → World → Prop := fun e w' => e = .returned (.tuple #[sgV r.1, .int .i64 r.2]) ∧ Below X.heap.size X w'
/-- gives a machine and errors -/
def GivesGEs (s : Sg) (E : List Int) (X : World) : Ending → World → Prop := fun e w' => ∃ A n c, e = .returned (.tuple #[sgV s, .slice A n c]) ∧ Its .i64 w' A n c E ∧ Below X.heap.size X w'
theorem ask_t (l : List Pl) (s : Sg) (c a : Int) : (askS l s c a).1.t = s.t := by
  unfold askS bareS
  repeat' split
  all_goals rfl
theorem do_t (l : List Pl) (s : Sg) (c a : Int) : (doS l s c a).1.t = s.t := by
  unfold doS
  split
  · exact ask_t l s c a
  · rfl
theorem ask_hl (l : List Pl) (s : Sg) (c a : Int) : (askS l s c a).1.hl = s.hl := by
  unfold askS bareS
  repeat' split
  all_goals rfl
theorem do_hl (l : List Pl) (s : Sg) (c a : Int) : (doS l s c a).1.hl = s.hl := by
  unfold doS
  split
  · exact ask_hl l s c a
  · rfl
theorem do_small {l : List Pl} {s : Sg} {c a : Int} (h : SmG s) : SmG (doS l s c a).1 := by unfold SmG; rw [do_t, do_hl]; exact h
theorem step_small {l : List Pl} {s : Sg} {a : Ak} (h : SmG s) : SmG (stepS l s a) := by
  unfold stepS
  split
  · exact tick_small h
  · exact do_small h
theorem allG_small {l : List Pl} {s : Sg} {q : List Ak} (h : SmG s) : ∀ k, SmG (allG l s q k)
  | 0 => h
  | k + 1 => do_small (allG_small h k)
theorem playG_small {l : List Pl} {s : Sg} {q : List Ak} (h : SmG s) : ∀ k, SmG (playG l s q k)
  | 0 => h
  | k + 1 => step_small (playG_small h k)
theorem allE_len (l : List Pl) (s : Sg) (q : List Ak) : ∀ k, (allE l s q k).length = k
  | 0 => rfl
  | k + 1 => by rw [allE, List.length_append, allE_len]; rfl
theorem playL_len (l : List Pl) (s : Sg) (q : List Ak) : ∀ k, (playL l s q k).length ≤ k
  | 0 => Nat.le_refl _
  | k + 1 => by
    rw [playL, List.length_append]
    have := playL_len l s q k
    split
    · simp; omega
    · simp; omega
end Go.Proofs.Ytgnhmdfajnnkhaa


/- The walk over the document's bare. -/
namespace Go.Proofs.Ytgnhmdfajnnkhaa
set_option maxRecDepth 100000
set_option linter.unusedVariables false
set_option linter.unusedSimpArgs false
open Go.RowKit

theorem alloc3_second (w : World) (a b c : Obj) : (((w.alloc a).alloc b).alloc c).heap[w.heap.size + 1]? = some b := ((one_alloc ((w.alloc a).alloc b) c).block (w.heap.size + 1) (by simp)).trans (alloc2_new w a b)
set_option maxHeartbeats 8000000 in
theorem rbare_a (s : Sg) (c a : Int) (w : World) (ha : a ≠ 0) : Calls Try.prog 38 #[sgV s, .int .i64 c, .int .i64 a] w (GivesGE (bareS s c a) w) := by
  have e1 : (a != 0) = true := by rw [bne_iff_ne]; exact ha
  have HR := Lib.hid (show bareS s c a = (s, 1) from by rw [bareS, if_pos ha])
  obtain ⟨G, hG⟩ : ∃ G, bareS s c a = G := ⟨_, rfl⟩
  rw [hG] at HR ⊢
  clear hG ha
  obtain ⟨pl, st, nx, ph, t, hd, hh', ak, wt, sp⟩ := s
  try simp only at *
  simp only [sgV]
  go_enter Try.func38, Try.ntmps38
  go_wp2
  refine bodyPost_ret (v := .tuple #[.agg #[.int .i64 pl, .int .i64 st, .int .i64 nx, .int .i64 ph, .int .i64 t, .int .i64 hd, .int .i64 hh', .int .i64 ak, .int .i64 wt, .bool sp], .int .i64 1]) ?_ rfl ⟨by rw [HR.out]; rfl, below_alloc3 _ _ _ _⟩
  exact results_blk_val Try.results38 _ _ _ (w.heap.size + 1) 24 #[.int .i64 pl, .int .i64 st, .int .i64 nx, .int .i64 ph, .int .i64 t, .int .i64 hd, .int .i64 hh', .int .i64 ak, .int .i64 wt, .bool sp] (0, 0) _ rfl (alloc3_second _ _ _ _) Try.underlying24 rfl info_sig _ rfl
set_option maxHeartbeats 8000000 in
theorem rbare_b (s : Sg) (c a : Int) (w : World) (ha : a = 0) (hc : c = 2) (hh : s.hd = 0) : Calls Try.prog 38 #[sgV s, .int .i64 c, .int .i64 a] w (GivesGE (bareS s c a) w) := by
  subst ha hc
  have e2 : (s.hd == 0) = true := by rw [hh]; rfl
  have HR := Lib.hid (show bareS s 2 0 = (s, 11) from by rw [bareS, if_neg (by simp), if_pos rfl, if_pos hh])
  obtain ⟨G, hG⟩ : ∃ G, bareS s 2 0 = G := ⟨_, rfl⟩
  rw [hG] at HR ⊢
  clear hG hh
  obtain ⟨pl, st, nx, ph, t, hd, hh', ak, wt, sp⟩ := s
  try simp only at *
  simp only [sgV]
  go_enter Try.func38, Try.ntmps38
  go_wp2
  refine bodyPost_ret (v := .tuple #[.agg #[.int .i64 pl, .int .i64 st, .int .i64 nx, .int .i64 ph, .int .i64 t, .int .i64 hd, .int .i64 hh', .int .i64 ak, .int .i64 wt, .bool sp], .int .i64 11]) ?_ rfl ⟨by rw [HR.out]; rfl, below_alloc3 _ _ _ _⟩
  exact results_blk_val Try.results38 _ _ _ (w.heap.size + 1) 24 #[.int .i64 pl, .int .i64 st, .int .i64 nx, .int .i64 ph, .int .i64 t, .int .i64 hd, .int .i64 hh', .int .i64 ak, .int .i64 wt, .bool sp] (0, 0) _ rfl (alloc3_second _ _ _ _) Try.underlying24 rfl info_sig _ rfl
set_option maxHeartbeats 8000000 in
theorem rbare_c (s : Sg) (c a : Int) (w : World) (ha : a = 0) (hc : c = 2) (hh : s.hd ≠ 0) : Calls Try.prog 38 #[sgV s, .int .i64 c, .int .i64 a] w (GivesGE (bareS s c a) w) := by
  subst ha hc
  have e2 : (s.hd == 0) = false := by rw [beq_eq_false_iff_ne]; exact hh
  have HR := Lib.hid (show bareS s 2 0 = ({ s with hd := 0 }, 0) from by rw [bareS, if_neg (by simp), if_pos rfl, if_neg hh])
  obtain ⟨G, hG⟩ : ∃ G, bareS s 2 0 = G := ⟨_, rfl⟩
  rw [hG] at HR ⊢
  clear hG hh
  obtain ⟨pl, st, nx, ph, t, hd, hh', ak, wt, sp⟩ := s
  try simp only at *
  simp only [sgV]
  go_enter Try.func38, Try.ntmps38
  go_wp2
  refine bodyPost_ret (v := .tuple #[.agg #[.int .i64 pl, .int .i64 st, .int .i64 nx, .int .i64 ph, .int .i64 t, .int .i64 0, .int .i64 hh', .int .i64 ak, .int .i64 wt, .bool sp], .int .i64 0]) ?_ rfl ⟨by rw [HR.out]; rfl, below_alloc3 _ _ _ _⟩
  exact results_blk_val Try.results38 _ _ _ (w.heap.size + 1) 24 #[.int .i64 pl, .int .i64 st, .int .i64 nx, .int .i64 ph, .int .i64 t, .int .i64 0, .int .i64 hh', .int .i64 ak, .int .i64 wt, .bool sp] (0, 0) _ rfl (alloc3_second _ _ _ _) Try.underlying24 rfl info_sig _ rfl
set_option maxHeartbeats 8000000 in
theorem rbare_d (s : Sg) (c a : Int) (w : World) (ha : a = 0) (hc : c = 5) : Calls Try.prog 38 #[sgV s, .int .i64 c, .int .i64 a] w (GivesGE (bareS s c a) w) := by
  subst ha hc
  have HR := Lib.hid (show bareS s 5 0 = ({ s with sp := true, hd := 0 }, 0) from by rw [bareS, if_neg (by simp), if_neg (by decide), if_pos rfl])
  obtain ⟨G, hG⟩ : ∃ G, bareS s 5 0 = G := ⟨_, rfl⟩
  rw [hG] at HR ⊢
  clear hG 
  obtain ⟨pl, st, nx, ph, t, hd, hh', ak, wt, sp⟩ := s
  try simp only at *
  simp only [sgV]
  go_enter Try.func38, Try.ntmps38
  go_wp2
  refine bodyPost_ret (v := .tuple #[.agg #[.int .i64 pl, .int .i64 st, .int .i64 nx, .int .i64 ph, .int .i64 t, .int .i64 0, .int .i64 hh', .int .i64 ak, .int .i64 wt, .bool true], .int .i64 0]) ?_ rfl ⟨by rw [HR.out]; rfl, below_alloc3 _ _ _ _⟩
  exact results_blk_val Try.results38 _ _ _ (w.heap.size + 1) 24 #[.int .i64 pl, .int .i64 st, .int .i64 nx, .int .i64 ph, .int .i64 t, .int .i64 0, .int .i64 hh', .int .i64 ak, .int .i64 wt, .bool true] (0, 0) _ rfl (alloc3_second _ _ _ _) Try.underlying24 rfl info_sig _ rfl
set_option maxHeartbeats 8000000 in
theorem rbare_e (s : Sg) (c a : Int) (w : World) (ha : a = 0) (h2 : c ≠ 2) (h5 : c ≠ 5) (hs : s.sp = false) : Calls Try.prog 38 #[sgV s, .int .i64 c, .int .i64 a] w (GivesGE (bareS s c a) w) := by
  subst ha
  have e2 : (c == 2) = false := by rw [beq_eq_false_iff_ne]; exact h2
  have e5 : (c == 5) = false := by rw [beq_eq_false_iff_ne]; exact h5
  have HR := Lib.hid (show bareS s c 0 = (s, 11) from by rw [bareS, if_neg (by simp), if_neg h2, if_neg h5, if_pos (.inl hs)])
  obtain ⟨G, hG⟩ : ∃ G, bareS s c 0 = G := ⟨_, rfl⟩
  rw [hG] at HR ⊢
  clear hG h2 h5
  obtain ⟨pl, st, nx, ph, t, hd, hh', ak, wt, sp⟩ := s
  try simp only at *
  subst hs
  simp only [sgV]
  go_enter Try.func38, Try.ntmps38
  go_wp2
  refine bodyPost_ret (v := .tuple #[.agg #[.int .i64 pl, .int .i64 st, .int .i64 nx, .int .i64 ph, .int .i64 t, .int .i64 hd, .int .i64 hh', .int .i64 ak, .int .i64 wt, .bool false], .int .i64 11]) ?_ rfl ⟨by rw [HR.out]; rfl, below_alloc3 _ _ _ _⟩
  exact results_blk_val Try.results38 _ _ _ (w.heap.size + 1) 24 #[.int .i64 pl, .int .i64 st, .int .i64 nx, .int .i64 ph, .int .i64 t, .int .i64 hd, .int .i64 hh', .int .i64 ak, .int .i64 wt, .bool false] (0, 0) _ rfl (alloc3_second _ _ _ _) Try.underlying24 rfl info_sig _ rfl
set_option maxHeartbeats 8000000 in
theorem rbare_f (s : Sg) (c a : Int) (w : World) (ha : a = 0) (h2 : c ≠ 2) (h5 : c ≠ 5) (hs : s.sp = true) (hp : s.ph ≠ 2) : Calls Try.prog 38 #[sgV s, .int .i64 c, .int .i64 a] w (GivesGE (bareS s c a) w) := by
  subst ha
  have e2 : (c == 2) = false := by rw [beq_eq_false_iff_ne]; exact h2
  have e5 : (c == 5) = false := by rw [beq_eq_false_iff_ne]; exact h5
  have e6 : (s.ph != 2) = true := by rw [bne_iff_ne]; exact hp
  have HR := Lib.hid (show bareS s c 0 = (s, 11) from by rw [bareS, if_neg (by simp), if_neg h2, if_neg h5, if_pos (.inr hp)])
  obtain ⟨G, hG⟩ : ∃ G, bareS s c 0 = G := ⟨_, rfl⟩
  rw [hG] at HR ⊢
  clear hG h2 h5 hp
  obtain ⟨pl, st, nx, ph, t, hd, hh', ak, wt, sp⟩ := s
  try simp only at *
  subst hs
  simp only [sgV]
  go_enter Try.func38, Try.ntmps38
  go_wp2
  refine bodyPost_ret (v := .tuple #[.agg #[.int .i64 pl, .int .i64 st, .int .i64 nx, .int .i64 ph, .int .i64 t, .int .i64 hd, .int .i64 hh', .int .i64 ak, .int .i64 wt, .bool true], .int .i64 11]) ?_ rfl ⟨by rw [HR.out]; rfl, below_alloc3 _ _ _ _⟩
  exact results_blk_val Try.results38 _ _ _ (w.heap.size + 1) 24 #[.int .i64 pl, .int .i64 st, .int .i64 nx, .int .i64 ph, .int .i64 t, .int .i64 hd, .int .i64 hh', .int .i64 ak, .int .i64 wt, .bool true] (0, 0) _ rfl (alloc3_second _ _ _ _) Try.underlying24 rfl info_sig _ rfl
set_option maxHeartbeats 8000000 in
theorem rbare_g (s : Sg) (c a : Int) (w : World) (ha : a = 0) (h2 : c ≠ 2) (h5 : c ≠ 5) (hs : s.sp = true) (hp : s.ph = 2) : Calls Try.prog 38 #[sgV s, .int .i64 c, .int .i64 a] w (GivesGE (bareS s c a) w) := by
  subst ha
  have e2 : (c == 2) = false := by rw [beq_eq_false_iff_ne]; exact h2
  have e5 : (c == 5) = false := by rw [beq_eq_false_iff_ne]; exact h5
  have e6 : (s.ph != 2) = false := by rw [hp]; rfl
  have HR := Lib.hid (show bareS s c 0 = ({ s with sp := false }, 0) from by rw [bareS, if_neg (by simp), if_neg h2, if_neg h5, if_neg (by rw [hs, hp]; simp)])
  obtain ⟨G, hG⟩ : ∃ G, bareS s c 0 = G := ⟨_, rfl⟩
  rw [hG] at HR ⊢
  clear hG h2 h5 hp
  obtain ⟨pl, st, nx, ph, t, hd, hh', ak, wt, sp⟩ := s
  try simp only at *
  subst hs
  simp only [sgV]
  go_enter Try.func38, Try.ntmps38
  go_wp2
  refine bodyPost_ret (v := .tuple #[.agg #[.int .i64 pl, .int .i64 st, .int .i64 nx, .int .i64 ph, .int .i64 t, .int .i64 hd, .int .i64 hh', .int .i64 ak, .int .i64 wt, .bool false], .int .i64 0]) ?_ rfl ⟨by rw [HR.out]; rfl, below_alloc3 _ _ _ _⟩
  exact results_blk_val Try.results38 _ _ _ (w.heap.size + 1) 24 #[.int .i64 pl, .int .i64 st, .int .i64 nx, .int .i64 ph, .int .i64 t, .int .i64 hd, .int .i64 hh', .int .i64 ak, .int .i64 wt, .bool false] (0, 0) _ rfl (alloc3_second _ _ _ _) Try.underlying24 rfl info_sig _ rfl
theorem rbare_any (s : Sg) (c a : Int) (w : World) : Calls Try.prog 38 #[sgV s, .int .i64 c, .int .i64 a] w (GivesGE (bareS s c a) w) := by
  by_cases ha : a = 0
  rotate_left
  · exact rbare_a s c a w ha
  by_cases h2 : c = 2
  · by_cases hh : s.hd = 0
    · exact rbare_b s c a w ha h2 hh
    · exact rbare_c s c a w ha h2 hh
  by_cases h5 : c = 5
  · exact rbare_d s c a w ha h5
  cases hs : s.sp
  · exact rbare_e s c a w ha h2 h5 hs
  · by_cases hp : s.ph = 2
    · exact rbare_g s c a w ha h2 h5 hs hp
    · exact rbare_f s c a w ha h2 h5 hs hp
end Go.Proofs.Ytgnhmdfajnnkhaa

