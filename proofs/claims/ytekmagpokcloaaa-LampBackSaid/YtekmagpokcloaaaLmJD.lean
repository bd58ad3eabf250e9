/- Joined texts: The walks over the document's Show of a plan, and Clash. The walk over the document's Clash of a plan and a row. What package plan does: contracts that its own walks must bring; the chapter's example over them; Few, FewAll. What package lamp does: contracts that its own walks must bring; the chapter's example over them. Pure facts of lamps, for the laws. Pure facts of plans, for the laws. The laws' arguments, opened: a slice of numbers. -/
import Derived.Test.YtekmagpokcloaaaLmJC
import Derived.Test.YtekmagpokcloaaaLmJA
import Derived.ProofKit
import Derived.OpenShut
import Derived.Deep.DeepHandedRow
/- The walks over the document's Show of a plan, and Clash. -/
namespace Go.Proofs.Ytekmagpokcloaaa
set_option maxRecDepth 100000
set_option linter.unusedVariables false
set_option linter.unusedSimpArgs false
open Go.RowKit

def showTo (t : Int) (ph : Int) (k : Nat) : List Int := (List.range k).map (lampP t ph)
theorem show_next (t ph : Int) (k : Nat) : showTo t ph (k + 1) = showTo t ph k ++ [lampP t ph k] := by rw [showTo, List.range_succ, List.map_append]; rfl
theorem show_len (t ph : Int) (k : Nat) : (showTo t ph k).length = k := by simp [showTo]
set_option maxHeartbeats 8000000 in
theorem rlshow_own (p : Pl) (x y : Int) (w : World) (hp : PlIn w p) : Calls Try.prog 14 #[plV p, .int .i64 x, .int .i64 y] w (GivesO (showR p x y) w) := by
  have hsk := hp.s.small
  have hsm := hp.m.small
  have hSL := hp.s.len
  have hML := hp.m.len
  obtain ⟨W0, hW0⟩ : ∃ W0, w.alloc (.cells #[.slice p.A p.n p.c, .slice p.B p.k p.d, .int .i64 p.am, .int .i64 p.rd, .int .i64 p.hd] 25) = W0 := ⟨_, rfl⟩
  have hB0 : Below w.heap.size w W0 := by rw [← hW0]; exact one_alloc w _
  have hp0 : PlIn W0 p := hp.below hB0
  have hbp : BoxP W0 w.heap.size p := by rw [← hW0]; exact BoxP.new w p
  have HFT := Lib.hid (rfit_any p W0 hp0)
  simp only [plV] at HFT ⊢
  have HW := Lib.hid hW0
  have HB0 := Lib.hid hB0
  have HAC := Lib.hid (show ∀ X, Below W0.heap.size W0 X → X.cell? ⟨w.heap.size, 0, none⟩ = some (.slice p.A p.n p.c) ∧ X.cell? ⟨w.heap.size, 1, none⟩ = some (.slice p.B p.k p.d) ∧ X.cell? ⟨w.heap.size, 2, none⟩ = some (.int .i64 p.am) ∧ X.cell? ⟨w.heap.size, 3, none⟩ = some (.int .i64 p.rd) ∧ X.cell? ⟨w.heap.size, 4, none⟩ = some (.int .i64 p.hd) from fun X hX => (hbp.below hX).cells)
  have HSL := Lib.hid hSL
  have HML := Lib.hid hML
  have HP := Lib.hid (show ∀ X, Below W0.heap.size W0 X → PlIn X p from fun X hX => hp0.below hX)
  obtain ⟨a0, a1, a2, a3, a4⟩ := HAC.out W0 (Below.refl _ _)
  clear hW0 hB0 hbp hp hp0
  cases hf : fitP p with
  | false =>
    rw [hf] at HFT
    have HR := Lib.hid (show showR p x y = [] from if_neg fun h => by rw [hf] at h; cases h.1)
    clear hf
    clear a0 a1 a2 a3 a4 hSL hML
    go_enter Try.func14, Try.ntmps14
    go_wp2_with (go_at_call 27; rw [HW.out]; (with_reducible refine (HFT.out).mono ?_); rintro e w1 ⟨rfl, hb1⟩; obtain ⟨c0, c1, c2, c3, c4⟩ := HAC.out _ hb1; have HB1 := Lib.hid hb1; clear hb1)
    go_ret
    exact ⟨none, 0, 0, rfl, by rw [HR.out]; exact OwnI.nil _ _ _ _, HB0.out.trans (HB1.out.mono HB0.out.size)⟩
  | true =>
    rw [hf] at HFT
    by_cases h1 : x < 0
    · have HR := Lib.hid (show showR p x y = [] from if_neg fun h => by omega)
      clear hf
      clear a0 a1 a2 a3 a4 hSL hML
      go_enter Try.func14, Try.ntmps14
      go_wp2_with (go_at_call 27; rw [HW.out]; (with_reducible refine (HFT.out).mono ?_); rintro e w1 ⟨rfl, hb1⟩; obtain ⟨c0, c1, c2, c3, c4⟩ := HAC.out _ hb1; have HB1 := Lib.hid hb1; clear hb1)
      go_ret
      exact ⟨none, 0, 0, rfl, by rw [HR.out]; exact OwnI.nil _ _ _ _, HB0.out.trans (HB1.out.mono HB0.out.size)⟩
    by_cases h2 : (p.k : Int) ≤ x
    · have HR := Lib.hid (show showR p x y = [] from if_neg fun h => by have := HSL.out; omega)
      clear hf
      clear a0 a1 a2 a3 a4 hSL hML
      go_enter Try.func14, Try.ntmps14
      go_wp2_with (go_at_call 27; rw [HW.out]; (with_reducible refine (HFT.out).mono ?_); rintro e w1 ⟨rfl, hb1⟩; obtain ⟨c0, c1, c2, c3, c4⟩ := HAC.out _ hb1; have HB1 := Lib.hid hb1; clear hb1)
      go_ret
      exact ⟨none, 0, 0, rfl, by rw [HR.out]; exact OwnI.nil _ _ _ _, HB0.out.trans (HB1.out.mono HB0.out.size)⟩
    by_cases h3 : y < 0
    · have HR := Lib.hid (show showR p x y = [] from if_neg fun h => by omega)
      clear hf
      clear a0 a1 a2 a3 a4 hSL hML
      go_enter Try.func14, Try.ntmps14
      go_wp2_with (go_at_call 27; rw [HW.out]; (with_reducible refine (HFT.out).mono ?_); rintro e w1 ⟨rfl, hb1⟩; obtain ⟨c0, c1, c2, c3, c4⟩ := HAC.out _ hb1; have HB1 := Lib.hid hb1; clear hb1)
      go_ret
      exact ⟨none, 0, 0, rfl, by rw [HR.out]; exact OwnI.nil _ _ _ _, HB0.out.trans (HB1.out.mono HB0.out.size)⟩
    by_cases h4 : 3 ≤ y
    · have HR := Lib.hid (show showR p x y = [] from if_neg fun h => by omega)
      clear hf
      clear a0 a1 a2 a3 a4 hSL hML
      go_enter Try.func14, Try.ntmps14
      go_wp2_with (go_at_call 27; rw [HW.out]; (with_reducible refine (HFT.out).mono ?_); rintro e w1 ⟨rfl, hb1⟩; obtain ⟨c0, c1, c2, c3, c4⟩ := HAC.out _ hb1; have HB1 := Lib.hid hb1; clear hb1)
      go_ret
      exact ⟨none, 0, 0, rfl, by rw [HR.out]; exact OwnI.nil _ _ _ _, HB0.out.trans (HB1.out.mono HB0.out.size)⟩
    obtain ⟨st, rfl⟩ := Int.eq_ofNat_of_zero_le (show 0 ≤ x by omega)
    have hff := fit_iff.1 hf
    have lst : st < p.s.length := by have := HSL.out; omega
    have HR := Lib.hid (show showTo (p.s.getD st Stg.zero).g y p.m.length = showR p (st : Int) y by rw [showR, if_pos ⟨hf, ⟨by omega, by omega⟩, by omega, by omega⟩, Int.toNat_natCast, showTo])
    obtain ⟨R, hR⟩ : ∃ R, showR p (st : Int) y = R := ⟨_, rfl⟩
    rw [hR] at HR ⊢
    have hmem : p.s.getD st Stg.zero ∈ p.s := by rw [List.getD_eq_getElem?_getD, List.getElem?_eq_getElem lst]; exact List.getElem_mem lst
    obtain ⟨hfr, -⟩ := hff.stage _ hmem
    obtain ⟨t, ht, ht2⟩ := set_nat (free_iff.1 hfr).2.1
    obtain ⟨hn8, -⟩ := may_rows HML.out hff.may
    have h8 := pow_le hn8
    have ht3 : t < 256 := by rw [HML.out] at ht2; omega
    have HHS0 := Lib.hid (fun (i : Nat) (hi : i < p.n) X hX => rhas_any p st i t X (HP.out X hX) (by have := HSL.out; omega) ht (by omega) (by omega))
    simp only [plV] at HHS0
    rw [ht, HML.out] at HR
    have est : ¬ (p.k ≤ st) := by have := HSL.out; omega
    have dst : decide (p.k ≤ st) = false := decide_eq_false est
    have fst : decide ((st : Int) < 0) = false := by simp
    have g3 : decide (y < 0) = false := decide_eq_false h3
    have g4 : decide (3 ≤ y) = false := decide_eq_false h4
    clear hf hff hR hmem hfr ht ht2 h1 h2 a0 a1 a2 a3 a4 hSL hML
    go_enter Try.func14, Try.ntmps14
    go_wp2_with (go_at_call 27; rw [HW.out]; (with_reducible refine (HFT.out).mono ?_); rintro e w1 ⟨rfl, hb1⟩; obtain ⟨c0, c1, c2, c3, c4⟩ := HAC.out _ hb1; have HB1 := Lib.hid hb1; clear hb1)
    clear c0 c1 c2 c3 c4
    go_loopw [8, 9] (fun v i wr => ∃ (g : Nat) (L : List Int), g ≤ p.n ∧ i = .int .i64 g ∧ L = showTo t y g ∧ OwnI .i64 3 wr W0.heap.size v L ∧ Below W0.heap.size W0 wr) (fun _ i _ => p.n - (intOf i).toNat)
    case atStart => exact ⟨0, [], by omega, rfl, rfl, OwnI.nil _ _ _ _, HB1.out⟩
    case round =>
      obtain ⟨g, L, hg, rfl, hL, hown, hbw⟩ := hrel
      have HO := Lib.hid hown
      have HBW := Lib.hid hbw
      have HL := Lib.hid hL
      have hLl : L.length ≤ 8 := by rw [hL, show_len]; omega
      obtain ⟨a0, a1, a2, a3, a4⟩ := HAC.out wr hbw
      clear hown hbw hL
      by_cases hlt : g < p.n
      · have hlt2 : (g : Int) < p.n := by omega
        have HHS := Lib.hid (HHS0.out g hlt)
        have hnx := show_next (t : Int) y g
        rw [← HL.out, lampP, bit_nat] at hnx
        obtain ⟨T, hT⟩ : ∃ T, t.testBit g = T := ⟨_, rfl⟩
        rw [hT] at HHS hnx
        clear hT
        cases T
        · have HN := Lib.hid (show L ++ [(0 : Int)] = showTo (t : Int) y (g + 1) by rw [hnx]; simp)
          clear hnx
          go_wp2_with (first
            | (go_at_call 28
               (with_reducible refine (HHS.out _ HBW.out).mono ?_)
               rintro e w3 ⟨rfl, hb3⟩
               have HB3 := Lib.hid (HBW.out.trans (hb3.mono HBW.out.size))
               have HO3 := Lib.hid (HO.out.below hb3)
               clear hb3)
            | (at_builtin
               refine wpList_append_i rfl 22 3 .i64 8 _ _ rfl Try.underlying22 (by kernel_rfl) (by omega) W0.heap.size u8 L rfl (HO3.out.more _) _ 1 1 [(0 : Int)] rfl (one_its .i64 3 _ (0)) (by omega) (Nat.le_trans HB3.out.size (size_le_alloc _ _)) ?_
               intro v5 w6 hown5 hg5
               have hB5 : Below W0.heap.size W0 w6 := (HB3.out.alloc HB3.out.size _).grown hg5 (Nat.le_trans HB3.out.size (size_le_alloc _ _)) (fun k hk => (HO3.out.size k hk).1)
               clear hg5))
          go_roundw
          case rel => exact ⟨g + 1, L ++ [(0 : Int)], by omega, by go_num, HN.out, hown5, hB5⟩
          case measure => simp [intOf]; omega
        · by_cases y0 : y = 0
          · subst y0
            have HN := Lib.hid (show L ++ [(2 : Int)] = showTo (t : Int) 0 (g + 1) by rw [hnx]; simp)
            clear hnx
            go_wp2_with (first
              | (go_at_call 28
                 (with_reducible refine (HHS.out _ HBW.out).mono ?_)
                 rintro e w3 ⟨rfl, hb3⟩
                 have HB3 := Lib.hid (HBW.out.trans (hb3.mono HBW.out.size))
                 have HO3 := Lib.hid (HO.out.below hb3)
                 clear hb3)
              | (at_builtin
                 refine wpList_append_i rfl 22 3 .i64 8 _ _ rfl Try.underlying22 (by kernel_rfl) (by omega) W0.heap.size u8 L rfl (HO3.out.more _) _ 1 1 [(2 : Int)] rfl (one_its .i64 3 _ (2)) (by omega) (Nat.le_trans HB3.out.size (size_le_alloc _ _)) ?_
                 intro v5 w6 hown5 hg5
                 have hB5 : Below W0.heap.size W0 w6 := (HB3.out.alloc HB3.out.size _).grown hg5 (Nat.le_trans HB3.out.size (size_le_alloc _ _)) (fun k hk => (HO3.out.size k hk).1)
                 clear hg5))
            go_roundw
            case rel => exact ⟨g + 1, L ++ [(2 : Int)], by omega, by go_num, HN.out, hown5, hB5⟩
            case measure => simp [intOf]; omega
          · have e0 : (y == 0) = false := by rw [beq_eq_false_iff_ne]; exact y0
            by_cases y1 : y = 1
            · subst y1
              have HN := Lib.hid (show L ++ [(1 : Int)] = showTo (t : Int) 1 (g + 1) by rw [hnx]; simp)
              clear hnx
              go_wp2_with (first
                | (go_at_call 28
                   (with_reducible refine (HHS.out _ HBW.out).mono ?_)
                   rintro e w3 ⟨rfl, hb3⟩
                   have HB3 := Lib.hid (HBW.out.trans (hb3.mono HBW.out.size))
                   have HO3 := Lib.hid (HO.out.below hb3)
                   clear hb3)
                | (at_builtin
                   refine wpList_append_i rfl 22 3 .i64 8 _ _ rfl Try.underlying22 (by kernel_rfl) (by omega) W0.heap.size u8 L rfl (HO3.out.more _) _ 1 1 [(1 : Int)] rfl (one_its .i64 3 _ (1)) (by omega) (Nat.le_trans HB3.out.size (size_le_alloc _ _)) ?_
                   intro v5 w6 hown5 hg5
                   have hB5 : Below W0.heap.size W0 w6 := (HB3.out.alloc HB3.out.size _).grown hg5 (Nat.le_trans HB3.out.size (size_le_alloc _ _)) (fun k hk => (HO3.out.size k hk).1)
                   clear hg5))
              go_roundw
              case rel => exact ⟨g + 1, L ++ [(1 : Int)], by omega, by go_num, HN.out, hown5, hB5⟩
              case measure => simp [intOf]; omega
            · have e1 : (y == 1) = false := by rw [beq_eq_false_iff_ne]; exact y1
              have HN := Lib.hid (show L ++ [(0 : Int)] = showTo (t : Int) y (g + 1) by rw [hnx]; simp [y0, y1])
              clear hnx
              go_wp2_with (first
                | (go_at_call 28
                   (with_reducible refine (HHS.out _ HBW.out).mono ?_)
                   rintro e w3 ⟨rfl, hb3⟩
                   have HB3 := Lib.hid (HBW.out.trans (hb3.mono HBW.out.size))
                   have HO3 := Lib.hid (HO.out.below hb3)
                   clear hb3)
                | (at_builtin
                   refine wpList_append_i rfl 22 3 .i64 8 _ _ rfl Try.underlying22 (by kernel_rfl) (by omega) W0.heap.size u8 L rfl (HO3.out.more _) _ 1 1 [(0 : Int)] rfl (one_its .i64 3 _ (0)) (by omega) (Nat.le_trans HB3.out.size (size_le_alloc _ _)) ?_
                   intro v5 w6 hown5 hg5
                   have hB5 : Below W0.heap.size W0 w6 := (HB3.out.alloc HB3.out.size _).grown hg5 (Nat.le_trans HB3.out.size (size_le_alloc _ _)) (fun k hk => (HO3.out.size k hk).1)
                   clear hg5))
              go_roundw
              case rel => exact ⟨g + 1, L ++ [(0 : Int)], by omega, by go_num, HN.out, hown5, hB5⟩
              case measure => simp [intOf]; omega
      · obtain rfl : g = p.n := by omega
        have hge : ¬ ((p.n : Int) < p.n) := by omega
        have htk : L = R := by rw [HL.out, HR.out]
        have hown := HO.out
        rw [htk] at hown
        obtain ⟨B, k, d, rfl, -⟩ := hown.its
        have hq := HB0.out.trans (HBW.out.mono HB0.out.size)
        clear htk HL HO hLl
        go_wp2
        go_ret
        exact ⟨_, _, _, rfl, hown.mono HB0.out.size, hq⟩
theorem rlshow_any (p : Pl) (x y : Int) (w : World) (hp : PlIn w p) : Calls Try.prog 14 #[plV p, .int .i64 x, .int .i64 y] w (GivesL (showR p x y) w) := (rlshow_own p x y w hp).mono fun _ _ h => h.gives
end Go.Proofs.Ytekmagpokcloaaa

/- The walk over the document's Clash of a plan and a row. -/
namespace Go.Proofs.Ytekmagpokcloaaa
set_option maxRecDepth 100000
set_option linter.unusedVariables false
set_option linter.unusedSimpArgs false
open Go.RowKit

theorem clash_not {p : Pl} {l : List Int} (h : ¬ (fitP p = true ∧ mayR l = true ∧ l.length = p.m.length ∧ ∃ g, g < l.length ∧ ∃ h, h < l.length ∧ hitR p.m l g h)) : clashR p l = false := by
  rw [← Bool.not_eq_true]; exact fun e => h (clash_iff.1 e)
theorem ne_facts {x : Int} (h : x ≠ 0) : (x == 0) = false ∧ (x != 0) = true ∧ decide (x = 0) = false ∧ decide (x ≠ 0) = true := by
  refine ⟨by rw [beq_eq_false_iff_ne]; exact h, by rw [bne_iff_ne]; exact h, decide_eq_false h, decide_eq_true h⟩
set_option maxHeartbeats 8000000 in
theorem rlclash_any (p : Pl) (A : Option Addr) (n c : Nat) (l : List Int) (w : World) (hp : PlIn w p) (hl : Its .i64 w A n c l) : Calls Try.prog 16 #[plV p, .slice A n c] w fun e w' => e = .returned (.bool (clashR p l)) ∧ Below w.heap.size w w' := by
  have hsk := hp.s.small
  have hsm := hp.m.small
  have hSL := hp.s.len
  have hML := hp.m.len
  obtain ⟨W0, hW0⟩ : ∃ W0, w.alloc (.cells #[.slice p.A p.n p.c, .slice p.B p.k p.d, .int .i64 p.am, .int .i64 p.rd, .int .i64 p.hd] 25) = W0 := ⟨_, rfl⟩
  have hB0 : Below w.heap.size w W0 := by rw [← hW0]; exact one_alloc w _
  have hp0 : PlIn W0 p := hp.below hB0
  have hbp : BoxP W0 w.heap.size p := by rw [← hW0]; exact BoxP.new w p
  have hsn := hl.small
  have HLL := Lib.hid hl.len
  have HMY := Lib.hid (fun X (hX : Below w.heap.size w X) => rlmay_any A n c l X (hl.below hX))
  have HFT := Lib.hid (rfit_any p W0 hp0)
  simp only [plV] at HFT ⊢
  have HW := Lib.hid hW0
  have HB0 := Lib.hid hB0
  have HAC := Lib.hid (show ∀ X, Below W0.heap.size W0 X → X.cell? ⟨w.heap.size, 0, none⟩ = some (.slice p.A p.n p.c) ∧ X.cell? ⟨w.heap.size, 1, none⟩ = some (.slice p.B p.k p.d) ∧ X.cell? ⟨w.heap.size, 2, none⟩ = some (.int .i64 p.am) ∧ X.cell? ⟨w.heap.size, 3, none⟩ = some (.int .i64 p.rd) ∧ X.cell? ⟨w.heap.size, 4, none⟩ = some (.int .i64 p.hd) from fun X hX => (hbp.below hX).cells)
  have HSL := Lib.hid hSL
  have HML := Lib.hid hML
  have HP := Lib.hid (show ∀ X, Below W0.heap.size W0 X → PlIn X p from fun X hX => hp0.below hX)
  obtain ⟨a0, a1, a2, a3, a4⟩ := HAC.out W0 (Below.refl _ _)
  obtain ⟨M, hM⟩ : ∃ x, mayR l = x := ⟨_, rfl⟩
  rw [hM] at HMY
  cases hf : fitP p with
  | false =>
    rw [hf] at HFT
    have HR := Lib.hid (show clashR p l = false from clash_not fun h => by rw [hf] at h; cases h.1)
    clear hf hM hW0 hB0 hbp hp hp0 hl
    clear a0 a1 a2 a3 a4
    go_enter Try.func16, Try.ntmps16
    go_wp2_with (first
      | (go_at_call 27; rw [HW.out]; (with_reducible refine (HFT.out).mono ?_); rintro e w1 ⟨rfl, hb1⟩; obtain ⟨c0, c1, c2, c3, c4⟩ := HAC.out _ hb1; have HB1 := Lib.hid hb1; clear hb1; have HBA := Lib.hid (HB0.out.trans (HB1.out.mono HB0.out.size)))
      | (go_at_call 15; (with_reducible refine (HMY.out _ HBA.out).mono ?_); rintro e w2 ⟨rfl, rfl⟩))
    go_ret
    exact ⟨by rw [HR.out]; rfl, HBA.out⟩
  | true =>
    rw [hf] at HFT
    cases M
    · have HR := Lib.hid (show clashR p l = false from clash_not fun h => by rw [hM] at h; cases h.2.1)
      clear hf hM hW0 hB0 hbp hp hp0 hl
      clear a0 a1 a2 a3 a4
      go_enter Try.func16, Try.ntmps16
      go_wp2_with (first
        | (go_at_call 27; rw [HW.out]; (with_reducible refine (HFT.out).mono ?_); rintro e w1 ⟨rfl, hb1⟩; obtain ⟨c0, c1, c2, c3, c4⟩ := HAC.out _ hb1; have HB1 := Lib.hid hb1; clear hb1; have HBA := Lib.hid (HB0.out.trans (HB1.out.mono HB0.out.size)))
        | (go_at_call 15; (with_reducible refine (HMY.out _ HBA.out).mono ?_); rintro e w2 ⟨rfl, rfl⟩))
      go_ret
      exact ⟨by rw [HR.out]; rfl, HBA.out⟩
    · by_cases hn : n = p.n
      · subst hn
        have hff := fit_iff.1 hf
        obtain ⟨hn8, hrw⟩ := may_rows HML.out hff.may
        have hn1 : 1 ≤ p.n := by have := (may_all hff.may).1.1; rw [HML.out] at this; exact this
        obtain ⟨b, off, hA, hc⟩ := hp0.m.at_ (by omega)
        obtain ⟨bl, ol, rfl, hcl⟩ := (hl.below hB0).at_ (by omega)
        have HF := Lib.hid hf
        have HM := Lib.hid hM
        have HRW := Lib.hid hrw
        have HC := Lib.hid (show ∀ X, Below W0.heap.size W0 X → ∀ j, j < p.n → X.cell? ⟨b, off + j, none⟩ = some (.int .i64 (p.m.getD j 0)) from fun X hX j hj => (hX.cell (p := ⟨b, off + j, none⟩) (block_lt_of_cell (hc j hj))).trans (hc j hj))
        have HCL := Lib.hid (show ∀ X, Below W0.heap.size W0 X → ∀ j, j < p.n → X.cell? ⟨bl, ol + j, none⟩ = some (.int .i64 (l.getD j 0)) from fun X hX j hj => (hX.cell (p := ⟨bl, ol + j, none⟩) (block_lt_of_cell (hcl j hj))).trans (hcl j hj))
        have HC0 := Lib.hid (show ∀ X, Below W0.heap.size W0 X → X.cell? ⟨w.heap.size, 0, none⟩ = some (.slice (some ⟨b, off, none⟩) p.n p.c) from fun X hX => hA ▸ (HAC.out X hX).1)
        clear hf hff hM hrw hc hcl hA hW0 hB0 hbp hp hp0 hl a0 a1 a2 a3 a4 hSL hML
        go_enter Try.func16, Try.ntmps16
        go_wp2_with (first
          | (go_at_call 27; rw [HW.out]; (with_reducible refine (HFT.out).mono ?_); rintro e w1 ⟨rfl, hb1⟩; obtain ⟨c0, c1, c2, c3, c4⟩ := HAC.out _ hb1; have HB1 := Lib.hid hb1; clear hb1; have HBA := Lib.hid (HB0.out.trans (HB1.out.mono HB0.out.size)))
          | (go_at_call 15; (with_reducible refine (HMY.out _ HBA.out).mono ?_); rintro e w2 ⟨rfl, rfl⟩))
        clear c0 c1 c2 c3 c4
        go_loopw [7] (fun i wr => ∃ g : Nat, g ≤ p.n ∧ i = .int .i64 g ∧ (∀ g', g' < g → ∀ h', h' < p.n → ¬ hitR p.m l g' h') ∧ Below W0.heap.size W0 wr) (fun i _ => p.n - (intOf i).toNat)
        case atStart => exact ⟨0, by omega, rfl, fun g' h => by omega, HB1.out⟩
        case round =>
          obtain ⟨g, hg, rfl, hout, hbw⟩ := hrel
          have HO := Lib.hid hout
          have HBW := Lib.hid hbw
          clear hout hbw
          by_cases hgl : g < p.n
          · have q2 : 0 ≤ (g : Int) := by omega
            have q3 : (g : Int) < p.n := by omega
            go_wp2
            go_loopw [8] (fun i wr => ∃ h : Nat, h ≤ p.n ∧ i = .int .i64 h ∧ (∀ h', h' < h → ¬ hitR p.m l g h') ∧ Below W0.heap.size W0 wr) (fun i _ => p.n - (intOf i).toNat)
            case atStart => exact ⟨0, by omega, rfl, fun h' h => by omega, HBW.out⟩
            case round =>
              obtain ⟨h, hh, rfl, hin, hbw3⟩ := hrel
              have HI := Lib.hid hin
              have HB3 := Lib.hid hbw3
              clear hin
              by_cases hhl : h < p.n
              · have q0 : 0 ≤ (h : Int) := by omega
                have q1 : (h : Int) < p.n := by omega
                obtain ⟨u, hu, hu8⟩ := row_nat HRW.out hn8 hgl
                have x0 := HC0.out wr hbw3
                have x1 := HC.out wr hbw3 g hgl
                rw [hu] at x1
                have y1 := HCL.out wr hbw3 g hgl
                have y2 := HCL.out wr hbw3 h hhl
                have HN1 := Lib.hid (fun X => rin_any u h (by omega) (by omega) X)
                have hme : meetM p.m g h = u.testBit h := by rw [meetM, hu, bit_nat]
                have HHIT := Lib.hid (show hitR p.m l g h ↔ u.testBit h = true ∧ l.getD g 0 ≠ 0 ∧ l.getD h 0 ≠ 0 by rw [hitR, hme])
                obtain ⟨T, hT⟩ : ∃ T, u.testBit h = T := ⟨_, rfl⟩
                obtain ⟨X, hX⟩ : ∃ x, l.getD g 0 = x := ⟨_, rfl⟩
                obtain ⟨Y, hY⟩ : ∃ x, l.getD h 0 = x := ⟨_, rfl⟩
                rw [hX] at y1
                rw [hY] at y2
                rw [hX, hY, hT] at HHIT
                simp only [hT] at HN1
                have HNX := Lib.hid (fun (hz : ¬ (T = true ∧ X ≠ 0 ∧ Y ≠ 0)) => show ∀ h', h' < h + 1 → ¬ hitR p.m l g h' from fun h' hh' => by
                  by_cases e : h' = h
                  · subst e; rw [HHIT.out]; exact hz
                  · exact HI.out h' (by omega))
                have HYES := Lib.hid (fun (hz : T = true ∧ X ≠ 0 ∧ Y ≠ 0) => show clashR p l = true from clash_iff.2 ⟨HF.out, HM.out, by rw [HLL.out, HML.out], g, by rw [HLL.out]; exact hgl, h, by rw [HLL.out]; exact hhl, HHIT.out.2 hz⟩)
                clear hu hme hT hX hY hbw3
                cases T
                · have HZ := Lib.hid (HNX.out (fun hz => by cases hz.1))
                  go_wp2_with (go_at_call 29; (with_reducible refine (HN1.out _).mono ?_); rintro e w3 ⟨rfl, rfl⟩)
                  go_roundw
                  case rel => exact ⟨h + 1, by omega, by go_num, HZ.out, HB3.out⟩
                  case measure => simp [intOf]; omega
                · by_cases hx0 : X = 0
                  · subst hx0
                    have HZ := Lib.hid (HNX.out (fun hz => hz.2.1 rfl))
                    go_wp2_with (go_at_call 29; (with_reducible refine (HN1.out _).mono ?_); rintro e w3 ⟨rfl, rfl⟩)
                    go_roundw
                    case rel => exact ⟨h + 1, by omega, by go_num, HZ.out, HB3.out⟩
                    case measure => simp [intOf]; omega
                  · obtain ⟨f1, f2, f3, f4⟩ := ne_facts hx0
                    by_cases hy0 : Y = 0
                    · subst hy0
                      have HZ := Lib.hid (HNX.out (fun hz => hz.2.2 rfl))
                      go_wp2_with (go_at_call 29; (with_reducible refine (HN1.out _).mono ?_); rintro e w3 ⟨rfl, rfl⟩)
                      go_roundw
                      case rel => exact ⟨h + 1, by omega, by go_num, HZ.out, HB3.out⟩
                      case measure => simp [intOf]; omega
                    · obtain ⟨g1, g2, g3, g4⟩ := ne_facts hy0
                      have HR := Lib.hid (HYES.out ⟨rfl, hx0, hy0⟩)
                      go_wp2_with (go_at_call 29; (with_reducible refine (HN1.out _).mono ?_); rintro e w3 ⟨rfl, rfl⟩)
                      go_ret
                      exact ⟨by rw [HR.out]; rfl, HB0.out.trans (HB3.out.mono HB0.out.size)⟩
              · obtain rfl : h = p.n := by omega
                have HZ := Lib.hid (show ∀ g', g' < g + 1 → ∀ h', h' < p.n → ¬ hitR p.m l g' h' from fun g' hg' h' hh' => by
                  by_cases e : g' = g
                  · subst e; exact HI.out h' hh'
                  · exact HO.out g' (by omega) h' hh')
                go_wp2
                go_roundw
                case rel => exact ⟨g + 1, by omega, by go_num, HZ.out, HB3.out⟩
                case measure => simp [intOf]; omega
          · obtain rfl : g = p.n := by omega
            have HR := Lib.hid (show clashR p l = false from clash_not fun hz => by
              obtain ⟨-, -, -, g', hg', h', hh', hz⟩ := hz
              rw [HLL.out] at hg' hh'
              exact HO.out g' hg' h' hh' hz)
            go_wp2
            go_ret
            exact ⟨by rw [HR.out]; rfl, HB0.out.trans (HBW.out.mono HB0.out.size)⟩
      · have HR := Lib.hid (show clashR p l = false from clash_not fun h => hn (by rw [← HLL.out, ← HML.out]; exact h.2.2.1))
        have hni : ((n : Int) = (p.n : Int)) = False := by rw [eq_iff_iff, iff_false]; omega
        obtain ⟨N, hN⟩ : ∃ x : Int, (n : Int) = x := ⟨_, rfl⟩
        have e1 : ((n : Int) != (p.n : Int)) = true := by rw [bne_iff_ne]; omega
        have e2 : ((n : Int) == (p.n : Int)) = false := by rw [beq_eq_false_iff_ne]; omega
        clear hf hM hW0 hB0 hbp hp hp0 hl hN
        clear a0 a1 a2 a3 a4
        go_enter Try.func16, Try.ntmps16
        go_wp2_with (first
          | (go_at_call 27; rw [HW.out]; (with_reducible refine (HFT.out).mono ?_); rintro e w1 ⟨rfl, hb1⟩; obtain ⟨c0, c1, c2, c3, c4⟩ := HAC.out _ hb1; have HB1 := Lib.hid hb1; clear hb1; have HBA := Lib.hid (HB0.out.trans (HB1.out.mono HB0.out.size)))
          | (go_at_call 15; (with_reducible refine (HMY.out _ HBA.out).mono ?_); rintro e w2 ⟨rfl, rfl⟩))
        go_ret
        exact ⟨by rw [HR.out]; rfl, HBA.out⟩
end Go.Proofs.Ytekmagpokcloaaa

/- What package plan does: contracts that its own walks must bring; the chapter's example over them; Few, FewAll. -/
namespace Go.Proofs.Ytekmagpokcloaaa
set_option maxRecDepth 100000
set_option linter.unusedVariables false
set_option linter.unusedSimpArgs false
open Go.RowKit

/-- what it takes of package group -/
structure GrpTwo : Prop where
  free : ∀ (A : Option Addr) (n c : Nat) (m : List Int) (s : Int) (X : World), Its .i64 X A n c m → n ≤ 1000 → Calls Try.prog 32 #[.slice A n c, .int .i64 s] X fun e w' => e = .returned (.bool (freeM m s)) ∧ Below X.heap.size X w'
  against : ∀ (A : Option Addr) (n c : Nat) (m : List Int) (s : Int) (X : World), Its .i64 X A n c m → n ≤ 1000 → Calls Try.prog 44 #[.slice A n c, .int .i64 s] X fun e w' => e = .returned (.int .i64 (againstM m s)) ∧ Below X.heap.size X w'
/-- the example -/
structure IsTwo (p : Pl) : Prop where
  m : p.m = [2, 1]
  s : p.s = [⟨1, 5, 9⟩, ⟨2, 7, 8⟩]
  am : p.am = 3
  rd : p.rd = 2
  hd : p.hd = 4
  n : p.n = 2
  k : p.k = 2
def plTwo : Pl := ⟨none, 2, 2, [2, 1], none, 2, 2, [⟨1, 5, 9⟩, ⟨2, 7, 8⟩], 3, 2, 4⟩
theorem two_fit {p : Pl} (h : IsTwo p) : fitP p = true := by
  have : fitP plTwo = true := by decide +kernel
  rw [← this]
  unfold fitP spanB
  rw [h.m, h.s, h.am, h.rd, h.hd]
  rfl
theorem two_next0 {p : Pl} (h : IsTwo p) : nextP p 0 = 1 := by
  rw [nextP, two_fit h, h.s]
  decide +kernel
theorem two_next1 {p : Pl} (h : IsTwo p) : nextP p 1 = 0 := by
  rw [nextP, two_fit h, h.s]
  decide +kernel
theorem two_least {p : Pl} (h : IsTwo p) : leastP p 1 = 7 := by
  rw [leastP, two_fit h, h.s, h.m]
  decide +kernel
theorem two_cycle {p : Pl} (h : IsTwo p) : cycP p = 22 := by
  rw [cycP, two_fit h, h.s, h.am, h.rd]
  decide +kernel
theorem two_all {p : Pl} (h : IsTwo p) : allP [p, p] = true := by
  rw [all_iff]
  refine ⟨by simp, fun q hq => ?_⟩
  have e : q = p := by simpa using hq
  rw [e]
  exact ⟨two_fit h, rfl⟩
theorem lit_pair (W : World) (x y : Int) : Its .i64 (W.alloc (.cells #[.int .i64 x, .int .i64 y] 3 (0, 0))) (some ⟨W.heap.size, 0, none⟩) 2 2 [x, y] := by
  refine ⟨rfl, Nat.le_refl _, by unfold maxLen; omega, (fun h => by cases h), fun _ => ⟨_, 0, rfl, fun j hj => ?_⟩⟩
  rw [cell_of_row _ _ _ _ _ _ (heap_alloc_new W _)]
  match j, hj with
  | 0, _ => rfl
  | 1, _ => rfl
theorem sts_two (W : World) (x y : Stg) : Sts (W.alloc (.cells #[.int .i64 x.g, .int .i64 x.mn, .int .i64 x.mx, .int .i64 y.g, .int .i64 y.mn, .int .i64 y.mx] 39 (0, 0))) (some ⟨W.heap.size, 0, none⟩) 2 2 [x, y] := by
  refine ⟨rfl, fun r hr => ?_, fun r hr u hu => ?_, Nat.le_refl _, by unfold maxLen; omega, (fun h => by cases h), fun _ => ⟨_, 0, rfl, fun j hj i hi => ?_⟩⟩
  · simp only [List.map_cons, List.map_nil, List.mem_cons, List.not_mem_nil, or_false] at hr
    rcases hr with rfl | rfl <;> rfl
  · simp only [List.map_cons, List.map_nil, List.mem_cons, List.not_mem_nil, or_false] at hr
    rcases hr with rfl | rfl
    all_goals
      simp only [Stg.row, List.mem_cons, List.not_mem_nil, or_false] at hu
      rcases hu with rfl | rfl | rfl <;> rfl
  · rw [cell_of_row _ _ _ _ _ _ (heap_alloc_new W _)]
    match j, hj, i, hi with
    | 0, _, 0, _ => rfl
    | 0, _, 1, _ => rfl
    | 0, _, 2, _ => rfl
    | 1, _, 0, _ => rfl
    | 1, _, 1, _ => rfl
    | 1, _, 2, _ => rfl
theorem two_mem {p : Pl} (h1 : p.n ≤ 1000) (h2 : p.k ≤ 1000) : ∀ q ∈ [p, p], q.n ≤ 1000 ∧ q.k ≤ 1000 := fun q hq => by
  have e : q = p := by simpa using hq
  rw [e]
  exact ⟨h1, h2⟩
theorem same_self (p : Pl) : samePl p p = true := same_iff.2 ⟨rfl, rfl, rfl, rfl, rfl⟩
set_option maxHeartbeats 2000000 in
theorem two_any (w : World) : Calls Try.prog 22 #[] w fun e w' => ∃ p, e = .returned (plV p) ∧ IsTwo p ∧ PlIn w' p ∧ Below w.heap.size w w' := by
  go_enter Try.func22, Try.ntmps22
  go_wp2
  obtain ⟨W1, hW1⟩ : ∃ W1, w.alloc (.cells #[.slice (some ⟨w.heap.size + 1, 0, none⟩) 2 2, .slice (some ⟨w.heap.size + 1 + 1, 0, none⟩) 2 2, .int .i64 3, .int .i64 2, .int .i64 4] 25) = W1 := ⟨_, rfl⟩
  have s1 : W1.heap.size = w.heap.size + 1 := by rw [← hW1]; simp
  have b1 : W1.heap[w.heap.size]? = some (.cells #[.slice (some ⟨w.heap.size + 1, 0, none⟩) 2 2, .slice (some ⟨w.heap.size + 1 + 1, 0, none⟩) 2 2, .int .i64 3, .int .i64 2, .int .i64 4] 25 (0, 0)) := by rw [← hW1]; exact heap_alloc_new w _
  have hB1 : Below w.heap.size w W1 := by rw [← hW1]; exact one_alloc w _
  rw [hW1]
  obtain ⟨W2, hW2⟩ : ∃ W2, W1.alloc (.cells #[.int .i64 2, .int .i64 1] 3) = W2 := ⟨_, rfl⟩
  have s2 : W2.heap.size = w.heap.size + 1 + 1 := by rw [← hW2]; simp [s1]
  have i2 : Its .i64 W2 (some ⟨w.heap.size + 1, 0, none⟩) 2 2 [2, 1] := by rw [← hW2, ← s1]; exact lit_pair W1 2 1
  have hB2 : Below W1.heap.size W1 W2 := by rw [← hW2]; exact one_alloc W1 _
  rw [hW2]
  obtain ⟨W3, hW3⟩ : ∃ W3, W2.alloc (.cells #[.int .i64 1, .int .i64 5, .int .i64 9, .int .i64 2, .int .i64 7, .int .i64 8] 39) = W3 := ⟨_, rfl⟩
  have i3 : Sts W3 (some ⟨w.heap.size + 1 + 1, 0, none⟩) 2 2 [⟨1, 5, 9⟩, ⟨2, 7, 8⟩] := by rw [← hW3, ← s2]; exact sts_two W2 ⟨1, 5, 9⟩ ⟨2, 7, 8⟩
  have hB3 : Below W2.heap.size W2 W3 := by rw [← hW3]; exact one_alloc W2 _
  rw [hW3]
  have b3 := (hB3.block _ (by omega)).trans ((hB2.block _ (by omega)).trans b1)
  have hbx : BoxP W3 w.heap.size ⟨some ⟨w.heap.size + 1, 0, none⟩, 2, 2, [2, 1], some ⟨w.heap.size + 1 + 1, 0, none⟩, 2, 2, [⟨1, 5, 9⟩, ⟨2, 7, 8⟩], 3, 2, 4⟩ := b3
  obtain ⟨c0, c1, c2, c3, c4⟩ := hbx.cells
  simp only at c0 c1 c2 c3 c4
  refine bodyPost_ret (v := plV ⟨some ⟨w.heap.size + 1, 0, none⟩, 2, 2, [2, 1], some ⟨w.heap.size + 1 + 1, 0, none⟩, 2, 2, [⟨1, 5, 9⟩, ⟨2, 7, 8⟩], 3, 2, 4⟩) ?_ rfl ⟨_, rfl, ⟨rfl, rfl, rfl, rfl, rfl, rfl, rfl⟩, ⟨i2.below hB3, i3⟩, hB1.trans ((hB2.trans (hB3.mono hB2.size)).mono hB1.size)⟩
  simp [results, Try.results22, plV, go_sem, c0, c1, c2, c3, c4]
theorem pls_one (W : World) (p : Pl) (hp : PlIn W p) : Pls (W.alloc (.cells #[.slice p.A p.n p.c, .slice p.B p.k p.d, .int .i64 p.am, .int .i64 p.rd, .int .i64 p.hd] 25 (0, 0))) (some ⟨W.heap.size, 0, none⟩) 1 1 [p] := by
  have hb := one_alloc W (.cells #[.slice p.A p.n p.c, .slice p.B p.k p.d, .int .i64 p.am, .int .i64 p.rd, .int .i64 p.hd] 25 (0, 0))
  refine ⟨⟨rfl, fun r hr => ?_, fun r hr u hu => ?_, Nat.le_refl _, by unfold maxLen; omega, (fun h => by cases h), fun _ => ⟨_, 0, rfl, fun j hj i hi => ?_⟩⟩, fun x hx => ?_⟩
  · simp only [List.map_cons, List.map_nil, List.mem_cons, List.not_mem_nil, or_false] at hr
    rcases hr with rfl; rfl
  · simp only [List.map_cons, List.map_nil, List.mem_cons, List.not_mem_nil, or_false] at hr
    rcases hr with rfl
    all_goals
      simp only [Pl.row, List.mem_cons, List.not_mem_nil, or_false] at hu
      rcases hu with rfl | rfl | rfl | rfl | rfl <;> rfl
  · rw [cell_of_row _ _ _ _ _ _ (heap_alloc_new W _)]
    match j, hj, i, hi with
    | 0, _, 0, _ => rfl
    | 0, _, 1, _ => rfl
    | 0, _, 2, _ => rfl
    | 0, _, 3, _ => rfl
    | 0, _, 4, _ => rfl
  · simp only [List.mem_cons, List.not_mem_nil, or_false] at hx
    rcases hx with rfl
    · exact hp.below hb
theorem pls_two (W : World) (p q : Pl) (hp : PlIn W p) (hq : PlIn W q) : Pls (W.alloc (.cells #[.slice p.A p.n p.c, .slice p.B p.k p.d, .int .i64 p.am, .int .i64 p.rd, .int .i64 p.hd, .slice q.A q.n q.c, .slice q.B q.k q.d, .int .i64 q.am, .int .i64 q.rd, .int .i64 q.hd] 25 (0, 0))) (some ⟨W.heap.size, 0, none⟩) 2 2 [p, q] := by
  have hb := one_alloc W (.cells #[.slice p.A p.n p.c, .slice p.B p.k p.d, .int .i64 p.am, .int .i64 p.rd, .int .i64 p.hd, .slice q.A q.n q.c, .slice q.B q.k q.d, .int .i64 q.am, .int .i64 q.rd, .int .i64 q.hd] 25 (0, 0))
  refine ⟨⟨rfl, fun r hr => ?_, fun r hr u hu => ?_, Nat.le_refl _, by unfold maxLen; omega, (fun h => by cases h), fun _ => ⟨_, 0, rfl, fun j hj i hi => ?_⟩⟩, fun x hx => ?_⟩
  · simp only [List.map_cons, List.map_nil, List.mem_cons, List.not_mem_nil, or_false] at hr
    rcases hr with rfl | rfl <;> rfl
  · simp only [List.map_cons, List.map_nil, List.mem_cons, List.not_mem_nil, or_false] at hr
    rcases hr with rfl | rfl
    all_goals
      simp only [Pl.row, List.mem_cons, List.not_mem_nil, or_false] at hu
      rcases hu with rfl | rfl | rfl | rfl | rfl <;> rfl
  · rw [cell_of_row _ _ _ _ _ _ (heap_alloc_new W _)]
    match j, hj, i, hi with
    | 0, _, 0, _ => rfl
    | 0, _, 1, _ => rfl
    | 0, _, 2, _ => rfl
    | 0, _, 3, _ => rfl
    | 0, _, 4, _ => rfl
    | 1, _, 0, _ => rfl
    | 1, _, 1, _ => rfl
    | 1, _, 2, _ => rfl
    | 1, _, 3, _ => rfl
    | 1, _, 4, _ => rfl
  · simp only [List.mem_cons, List.not_mem_nil, or_false] at hx
    rcases hx with rfl | rfl
    · exact hp.below hb
    · exact hq.below hb
theorem pls_three (W : World) (p q r : Pl) (hp : PlIn W p) (hq : PlIn W q) (hr : PlIn W r) : Pls (W.alloc (.cells #[.slice p.A p.n p.c, .slice p.B p.k p.d, .int .i64 p.am, .int .i64 p.rd, .int .i64 p.hd, .slice q.A q.n q.c, .slice q.B q.k q.d, .int .i64 q.am, .int .i64 q.rd, .int .i64 q.hd, .slice r.A r.n r.c, .slice r.B r.k r.d, .int .i64 r.am, .int .i64 r.rd, .int .i64 r.hd] 25 (0, 0))) (some ⟨W.heap.size, 0, none⟩) 3 3 [p, q, r] := by
  have hb := one_alloc W (.cells #[.slice p.A p.n p.c, .slice p.B p.k p.d, .int .i64 p.am, .int .i64 p.rd, .int .i64 p.hd, .slice q.A q.n q.c, .slice q.B q.k q.d, .int .i64 q.am, .int .i64 q.rd, .int .i64 q.hd, .slice r.A r.n r.c, .slice r.B r.k r.d, .int .i64 r.am, .int .i64 r.rd, .int .i64 r.hd] 25 (0, 0))
  refine ⟨⟨rfl, fun r hr => ?_, fun r hr u hu => ?_, Nat.le_refl _, by unfold maxLen; omega, (fun h => by cases h), fun _ => ⟨_, 0, rfl, fun j hj i hi => ?_⟩⟩, fun x hx => ?_⟩
  · simp only [List.map_cons, List.map_nil, List.mem_cons, List.not_mem_nil, or_false] at hr
    rcases hr with rfl | rfl | rfl <;> rfl
  · simp only [List.map_cons, List.map_nil, List.mem_cons, List.not_mem_nil, or_false] at hr
    rcases hr with rfl | rfl | rfl
    all_goals
      simp only [Pl.row, List.mem_cons, List.not_mem_nil, or_false] at hu
      rcases hu with rfl | rfl | rfl | rfl | rfl <;> rfl
  · rw [cell_of_row _ _ _ _ _ _ (heap_alloc_new W _)]
    match j, hj, i, hi with
    | 0, _, 0, _ => rfl
    | 0, _, 1, _ => rfl
    | 0, _, 2, _ => rfl
    | 0, _, 3, _ => rfl
    | 0, _, 4, _ => rfl
    | 1, _, 0, _ => rfl
    | 1, _, 1, _ => rfl
    | 1, _, 2, _ => rfl
    | 1, _, 3, _ => rfl
    | 1, _, 4, _ => rfl
    | 2, _, 0, _ => rfl
    | 2, _, 1, _ => rfl
    | 2, _, 2, _ => rfl
    | 2, _, 3, _ => rfl
    | 2, _, 4, _ => rfl
  · simp only [List.mem_cons, List.not_mem_nil, or_false] at hx
    rcases hx with rfl | rfl | rfl
    · exact hp.below hb
    · exact hq.below hb
    · exact hr.below hb
theorem pls_four (W : World) (p q r s : Pl) (hp : PlIn W p) (hq : PlIn W q) (hr : PlIn W r) (hs : PlIn W s) : Pls (W.alloc (.cells #[.slice p.A p.n p.c, .slice p.B p.k p.d, .int .i64 p.am, .int .i64 p.rd, .int .i64 p.hd, .slice q.A q.n q.c, .slice q.B q.k q.d, .int .i64 q.am, .int .i64 q.rd, .int .i64 q.hd, .slice r.A r.n r.c, .slice r.B r.k r.d, .int .i64 r.am, .int .i64 r.rd, .int .i64 r.hd, .slice s.A s.n s.c, .slice s.B s.k s.d, .int .i64 s.am, .int .i64 s.rd, .int .i64 s.hd] 25 (0, 0))) (some ⟨W.heap.size, 0, none⟩) 4 4 [p, q, r, s] := by
  have hb := one_alloc W (.cells #[.slice p.A p.n p.c, .slice p.B p.k p.d, .int .i64 p.am, .int .i64 p.rd, .int .i64 p.hd, .slice q.A q.n q.c, .slice q.B q.k q.d, .int .i64 q.am, .int .i64 q.rd, .int .i64 q.hd, .slice r.A r.n r.c, .slice r.B r.k r.d, .int .i64 r.am, .int .i64 r.rd, .int .i64 r.hd, .slice s.A s.n s.c, .slice s.B s.k s.d, .int .i64 s.am, .int .i64 s.rd, .int .i64 s.hd] 25 (0, 0))
  refine ⟨⟨rfl, fun r hr => ?_, fun r hr u hu => ?_, Nat.le_refl _, by unfold maxLen; omega, (fun h => by cases h), fun _ => ⟨_, 0, rfl, fun j hj i hi => ?_⟩⟩, fun x hx => ?_⟩
  · simp only [List.map_cons, List.map_nil, List.mem_cons, List.not_mem_nil, or_false] at hr
    rcases hr with rfl | rfl | rfl | rfl <;> rfl
  · simp only [List.map_cons, List.map_nil, List.mem_cons, List.not_mem_nil, or_false] at hr
    rcases hr with rfl | rfl | rfl | rfl
    all_goals
      simp only [Pl.row, List.mem_cons, List.not_mem_nil, or_false] at hu
      rcases hu with rfl | rfl | rfl | rfl | rfl <;> rfl
  · rw [cell_of_row _ _ _ _ _ _ (heap_alloc_new W _)]
    match j, hj, i, hi with
    | 0, _, 0, _ => rfl
    | 0, _, 1, _ => rfl
    | 0, _, 2, _ => rfl
    | 0, _, 3, _ => rfl
    | 0, _, 4, _ => rfl
    | 1, _, 0, _ => rfl
    | 1, _, 1, _ => rfl
    | 1, _, 2, _ => rfl
    | 1, _, 3, _ => rfl
    | 1, _, 4, _ => rfl
    | 2, _, 0, _ => rfl
    | 2, _, 1, _ => rfl
    | 2, _, 2, _ => rfl
    | 2, _, 3, _ => rfl
    | 2, _, 4, _ => rfl
    | 3, _, 0, _ => rfl
    | 3, _, 1, _ => rfl
    | 3, _, 2, _ => rfl
    | 3, _, 3, _ => rfl
    | 3, _, 4, _ => rfl
  · simp only [List.mem_cons, List.not_mem_nil, or_false] at hx
    rcases hx with rfl | rfl | rfl | rfl
    · exact hp.below hb
    · exact hq.below hb
    · exact hr.below hb
    · exact hs.below hb
def fewB (p : Pl) : Bool := decide (p.n ≤ 10) && decide (p.k ≤ 10)
theorem few_iff {p : Pl} : fewB p = true ↔ p.n ≤ 10 ∧ p.k ≤ 10 := by simp [fewB]
set_option maxHeartbeats 2000000 in
theorem pfew_any (p : Pl) (w : World) (hp : PlIn w p) : Calls Try.prog 9 #[plV p] w fun e w' => e = .returned (.bool (fewB p)) ∧ Below w.heap.size w w' := by
  have hsm := hp.m.small
  have hsk := hp.s.small
  have HB := Lib.hid (one_alloc w (.cells #[.slice p.A p.n p.c, .slice p.B p.k p.d, .int .i64 p.am, .int .i64 p.rd, .int .i64 p.hd] 25))
  have hr : fewB p = (decide (p.n ≤ 10) && decide (p.k ≤ 10)) := rfl
  simp only [plV]
  obtain ⟨A, n, c, m, B, k, d, s, am, rd, hd⟩ := p
  simp only at *
  rw [hr]
  clear hr hp
  by_cases h1 : n ≤ 10
  · by_cases h2 : k ≤ 10
    · have h1' : decide (n ≤ 10) = true := decide_eq_true h1
      have h2' : decide (k ≤ 10) = true := decide_eq_true h2
      rw [h1', h2']
      go_enter Try.func9, Try.ntmps9
      go_wp2
      go_ret
      exact ⟨by first | (simp [h1, h2]; omega) | simp [h1, h2], HB.out⟩
    · have h1' : decide (n ≤ 10) = true := decide_eq_true h1
      have h2' : decide (k ≤ 10) = false := decide_eq_false h2
      rw [h1', h2']
      go_enter Try.func9, Try.ntmps9
      go_wp2
      go_ret
      exact ⟨by first | (simp [h1, h2]; omega) | simp [h1, h2], HB.out⟩
  · have h1' : decide (n ≤ 10) = false := decide_eq_false h1
    rw [h1']
    go_enter Try.func9, Try.ntmps9
    go_wp2
    go_ret
    exact ⟨by first | (simp [h1]; omega) | simp [h1], HB.out⟩
def fewAllB (l : List Pl) : Bool := (l.take 6).all fewB && decide (l.length ≤ 5)
theorem fewall_iff {l : List Pl} : fewAllB l = true ↔ l.length ≤ 5 ∧ ∀ p ∈ l, p.n ≤ 10 ∧ p.k ≤ 10 := by
  simp only [fewAllB, Bool.and_eq_true, decide_eq_true_eq, List.all_eq_true, few_iff]
  constructor
  · rintro ⟨h1, h2⟩
    rw [List.take_of_length_le (by omega)] at h1
    exact ⟨h2, h1⟩
  · rintro ⟨h1, h2⟩
    rw [List.take_of_length_le (by omega)]
    exact ⟨h2, h1⟩
end Go.Proofs.Ytekmagpokcloaaa

/- What package lamp does: contracts that its own walks must bring; the chapter's example over them. -/
namespace Go.Proofs.Ytekmagpokcloaaa
set_option maxRecDepth 100000
set_option linter.unusedVariables false
set_option linter.unusedSimpArgs false
open Go.RowKit

structure LmpOk : Prop where
  shows : ∀ (p : Pl) (x y : Int) (X : World), PlIn X p → p.n ≤ 1000 → p.k ≤ 1000 → Calls Try.prog 13 #[plV p, .int .i64 x, .int .i64 y] X (GivesL (showR p x y) X)
  may : ∀ (A : Option Addr) (n c : Nat) (l : List Int) (X : World), Its .i64 X A n c l → n ≤ 1000 → Calls Try.prog 17 #[.slice A n c] X fun e w' => e = .returned (.bool (mayR l)) ∧ Below X.heap.size X w'
  text : ∀ (A : Option Addr) (n c : Nat) (l : List Int) (X : World), Its .i64 X A n c l → n ≤ 1000 → Calls Try.prog 18 #[.slice A n c] X fun e w' => e = .returned (.string (textR l)) ∧ Below X.heap.size X w'
  read : ∀ (s : ByteArray) (X : World), s.size ≤ 1000 → Calls Try.prog 10 #[.string s] X (GivesLB (readR s) X)
  clash : ∀ (p : Pl) (A : Option Addr) (n c : Nat) (l : List Int) (X : World), PlIn X p → Its .i64 X A n c l → p.n ≤ 1000 → p.k ≤ 1000 → n ≤ 1000 → Calls Try.prog 20 #[plV p, .slice A n c] X fun e w' => e = .returned (.bool (clashR p l)) ∧ Below X.heap.size X w'
/-- what it takes of package plan -/
structure FitOk : Prop where
  fit : ∀ (p : Pl) (X : World), PlIn X p → p.n ≤ 1000 → p.k ≤ 1000 → Calls Try.prog 21 #[plV p] X fun e w' => e = .returned (.bool (fitP p)) ∧ Below X.heap.size X w'
theorem two_show0 {p : Pl} (h : IsTwo p) : showR p 0 0 = [2, 0] := by
  rw [showR, two_fit h, h.s, h.m]; decide +kernel
theorem two_show1 {p : Pl} (h : IsTwo p) : showR p 0 1 = [1, 0] := by
  rw [showR, two_fit h, h.s, h.m]; decide +kernel
theorem two_show2 {p : Pl} (h : IsTwo p) : showR p 0 2 = [0, 0] := by
  rw [showR, two_fit h, h.s, h.m]; decide +kernel
theorem text_gr : textR [2, 0] = ⟨#[103, 114]⟩ := by decide +kernel
theorem text_ar : textR [1, 0] = ⟨#[97, 114]⟩ := by decide +kernel
theorem text_rr : textR [0, 0] = ⟨#[114, 114]⟩ := by decide +kernel
theorem read_ar : readR ⟨#[97, 114]⟩ = ([1, 0], true) := by decide +kernel
theorem may_ar : mayR [1, 0] = true := by decide +kernel
theorem two_clash0 {p : Pl} (h : IsTwo p) : clashR p [1, 0] = false := clash_not fun hz => by
  obtain ⟨-, -, -, g, hg, k, hk, hm, h1, h2⟩ := hz
  have e : ∀ j : Nat, j < 2 → ([1, 0] : List Int).getD j 0 ≠ 0 → j = 0 := by decide
  have eg := e g hg h1
  have ek := e k hk h2
  subst eg ek
  rw [h.m] at hm
  exact absurd hm (by decide)
theorem two_clash1 {p : Pl} (h : IsTwo p) : clashR p [1, 2] = true := clash_iff.2 ⟨two_fit h, by decide +kernel, by rw [h.m]; rfl, 0, by decide, 1, by decide, by rw [h.m]; decide, by decide, by decide⟩
set_option maxHeartbeats 8000000 in
theorem lawake_any (HO : LmpOk) (w : World) : Calls Try.prog 8 #[] w fun e w' => e = .returned (.bool true) ∧ Below w.heap.size w w' := by
  have HRD := Lib.hid (fun X => HO.read ⟨#[97, 114]⟩ X (by decide))
  rw [read_ar] at HRD
  have HT0 := Lib.hid (fun A c X hI => HO.text A 2 c [2, 0] X hI (by omega))
  have HT1 := Lib.hid (fun A c X hI => HO.text A 2 c [1, 0] X hI (by omega))
  have HT2 := Lib.hid (fun A c X hI => HO.text A 2 c [0, 0] X hI (by omega))
  have HMY := Lib.hid (fun A c X hI => HO.may A 2 c [1, 0] X hI (by omega))
  rw [text_gr] at HT0
  rw [text_ar] at HT1
  rw [text_rr] at HT2
  rw [may_ar] at HMY
  go_enter Try.func8, Try.ntmps8
  go_wp2_with (first
    | (go_at_call 22
       (with_reducible refine (two_any _).mono ?_)
       rintro e w1 ⟨p, rfl, ht, hp, hb⟩
       obtain ⟨W, hW⟩ : ∃ W, w1.alloc (.cells #[.slice p.A p.n p.c, .slice p.B p.k p.d, .int .i64 p.am, .int .i64 p.rd, .int .i64 p.hd] 25) = W := ⟨_, rfl⟩
       have hB1 : Below w1.heap.size w1 W := by rw [← hW]; exact one_alloc w1 _
       have hbx : BoxP W w1.heap.size p := by rw [← hW]; exact BoxP.new w1 p
       have hpi : PlIn W p := hp.below hB1
       have hno : p.n ≤ 1000 := by rw [ht.n]; omega
       have hko : p.k ≤ 1000 := by rw [ht.k]; omega
       have HBC := Lib.hid (show ∀ X, Below W.heap.size W X → X.cell? ⟨w1.heap.size, 0, none⟩ = some (.slice p.A p.n p.c) ∧ X.cell? ⟨w1.heap.size, 1, none⟩ = some (.slice p.B p.k p.d) ∧ X.cell? ⟨w1.heap.size, 2, none⟩ = some (.int .i64 p.am) ∧ X.cell? ⟨w1.heap.size, 3, none⟩ = some (.int .i64 p.rd) ∧ X.cell? ⟨w1.heap.size, 4, none⟩ = some (.int .i64 p.hd) from fun X hX => (hbx.below hX).cells)
       have HPI := Lib.hid (show ∀ X, Below W.heap.size W X → PlIn X p from fun X hX => hpi.below hX)
       have HS0 := Lib.hid (fun X hX => HO.shows p 0 0 X (HPI.out X hX) hno hko)
       have HS1 := Lib.hid (fun X hX => HO.shows p 0 1 X (HPI.out X hX) hno hko)
       have HS2 := Lib.hid (fun X hX => HO.shows p 0 2 X (HPI.out X hX) hno hko)
       have HC0 := Lib.hid (fun A c X hX hI => HO.clash p A 2 c [1, 0] X (HPI.out X hX) hI hno hko (by omega))
       have HC1 := Lib.hid (fun A c X hX hI => HO.clash p A 2 c [1, 2] X (HPI.out X hX) hI hno hko (by omega))
       rw [two_show0 ht] at HS0
       rw [two_show1 ht] at HS1
       rw [two_show2 ht] at HS2
       rw [two_clash0 ht] at HC0
       rw [two_clash1 ht] at HC1
       have HB1 := Lib.hid (hb.trans (hB1.mono hb.size))
       have HW := Lib.hid hW
       have HX1 := Lib.hid (Below.refl W.heap.size W)
       clear hb hW hB1 hbx hpi hp ht
       simp only [plV] at HS0 HS1 HS2 HC0 HC1 ⊢)
    | (go_at_call 10
       rw [HW.out]
       (with_reducible refine (HRD.out _).mono ?_)
       rintro e w2 ⟨A2, n2, c2, rfl, hi2, hbx⟩
       have HX2 := Lib.hid (HX1.out.trans (hbx.mono HX1.out.size))
       have HY2 := Lib.hid (Below.refl w2.heap.size w2)
       obtain ⟨z0, z1, z2, z3, z4⟩ := HBC.out w2 HX2.out
       obtain rfl : n2 = 2 := hi2.len.symm
       have HI2 := Lib.hid hi2
       clear hi2
       clear hbx)
    | (go_at_call 13
       (with_reducible refine (HS0.out _ HX2.out).mono ?_)
       rintro e w3 ⟨A3, n3, c3, rfl, hi3, hbx⟩
       have HX3 := Lib.hid (HX2.out.trans (hbx.mono HX2.out.size))
       have HY3 := Lib.hid (HY2.out.trans (hbx.mono HY2.out.size))
       obtain ⟨z0, z1, z2, z3, z4⟩ := HBC.out w3 HX3.out
       obtain rfl : n3 = 2 := hi3.len.symm
       have HI3 := Lib.hid hi3
       clear hi3
       clear hbx)
    | (go_at_call 18
       (with_reducible refine (HT0.out A3 c3 _ HI3.out).mono ?_)
       rintro e w4 ⟨rfl, hbx⟩
       have HX4 := Lib.hid (HX3.out.trans (hbx.mono HX3.out.size))
       have HY4 := Lib.hid (HY3.out.trans (hbx.mono HY3.out.size))
       obtain ⟨z0, z1, z2, z3, z4⟩ := HBC.out w4 HX4.out
       clear hbx)
    | (go_at_call 13
       (with_reducible refine (HS1.out _ HX4.out).mono ?_)
       rintro e w5 ⟨A5, n5, c5, rfl, hi5, hbx⟩
       have HX5 := Lib.hid (HX4.out.trans (hbx.mono HX4.out.size))
       have HY5 := Lib.hid (HY4.out.trans (hbx.mono HY4.out.size))
       obtain ⟨z0, z1, z2, z3, z4⟩ := HBC.out w5 HX5.out
       obtain rfl : n5 = 2 := hi5.len.symm
       have HI5 := Lib.hid hi5
       clear hi5
       clear hbx)
    | (go_at_call 18
       (with_reducible refine (HT1.out A5 c5 _ HI5.out).mono ?_)
       rintro e w6 ⟨rfl, hbx⟩
       have HX6 := Lib.hid (HX5.out.trans (hbx.mono HX5.out.size))
       have HY6 := Lib.hid (HY5.out.trans (hbx.mono HY5.out.size))
       obtain ⟨z0, z1, z2, z3, z4⟩ := HBC.out w6 HX6.out
       clear hbx)
    | (go_at_call 13
       (with_reducible refine (HS2.out _ HX6.out).mono ?_)
       rintro e w7 ⟨A7, n7, c7, rfl, hi7, hbx⟩
       have HX7 := Lib.hid (HX6.out.trans (hbx.mono HX6.out.size))
       have HY7 := Lib.hid (HY6.out.trans (hbx.mono HY6.out.size))
       obtain ⟨z0, z1, z2, z3, z4⟩ := HBC.out w7 HX7.out
       obtain rfl : n7 = 2 := hi7.len.symm
       have HI7 := Lib.hid hi7
       clear hi7
       clear hbx)
    | (go_at_call 18
       (with_reducible refine (HT2.out A7 c7 _ HI7.out).mono ?_)
       rintro e w8 ⟨rfl, hbx⟩
       have HX8 := Lib.hid (HX7.out.trans (hbx.mono HX7.out.size))
       have HY8 := Lib.hid (HY7.out.trans (hbx.mono HY7.out.size))
       obtain ⟨z0, z1, z2, z3, z4⟩ := HBC.out w8 HX8.out
       clear hbx)
    | (go_at_call 17
       (with_reducible refine (HMY.out A2 c2 _ (HI2.out.below HY8.out)).mono ?_)
       rintro e w9 ⟨rfl, hbx⟩
       have HX9 := Lib.hid (HX8.out.trans (hbx.mono HX8.out.size))
       have HY9 := Lib.hid (HY8.out.trans (hbx.mono HY8.out.size))
       obtain ⟨z0, z1, z2, z3, z4⟩ := HBC.out w9 HX9.out
       clear hbx)
    | (go_at_call 20
       (with_reducible refine (HC0.out A2 c2 _ HX9.out (HI2.out.below HY9.out)).mono ?_)
       rintro e w10 ⟨rfl, hbx⟩
       have HX10 := Lib.hid (HX9.out.trans (hbx.mono HX9.out.size))
       have HY10 := Lib.hid (HY9.out.trans (hbx.mono HY9.out.size))
       obtain ⟨z0, z1, z2, z3, z4⟩ := HBC.out w10 HX10.out
       clear hbx)
    | (go_at_call 20
       (with_reducible refine (HC1.out _ 2 _ (HX10.out.alloc HX10.out.size _) (lit_pair w10 1 2)).mono ?_)
       rintro e w11 ⟨rfl, hbx⟩
       have HX11 := Lib.hid ((HX10.out.alloc HX10.out.size _).trans (hbx.mono (HX10.out.alloc HX10.out.size _).size))
       clear hbx))
  go_ret
  exact ⟨rfl, HB1.out.trans (HX11.out.mono HB1.out.size)⟩
end Go.Proofs.Ytekmagpokcloaaa

/- Pure facts of lamps, for the laws. -/
namespace Go.Proofs.Ytekmagpokcloaaa
set_option maxRecDepth 100000
set_option linter.unusedVariables false
set_option linter.unusedSimpArgs false
open Go.RowKit

theorem show_not {p : Pl} {st ph : Int} (h : ¬ (fitP p = true ∧ (0 ≤ st ∧ st < p.s.length) ∧ (0 ≤ ph ∧ ph < 3))) : showR p st ph = [] := if_neg h
theorem show_is {p : Pl} {k : Nat} {ph : Int} (hf : fitP p = true) (hk : k < p.s.length) (h0 : 0 ≤ ph) (h3 : ph < 3) : showR p (k : Int) ph = (List.range p.m.length).map (lampP (p.s.getD k Stg.zero).g ph) := by
  rw [showR, if_pos ⟨hf, ⟨by omega, by omega⟩, h0, h3⟩, Int.toNat_natCast]
theorem lamp_ok (t ph : Int) (g : Nat) : 0 ≤ lampP t ph g ∧ lampP t ph g < 3 := by
  unfold lampP
  split
  · omega
  · split <;> omega
theorem lamp_in {t ph : Int} {g : Nat} (h : lampP t ph g ≠ 0) : bitI t g = true := by
  unfold lampP at h
  split at h
  · rename_i h1; exact h1.1
  · split at h
    · rename_i h1; exact h1.1
    · exact absurd rfl h
theorem rows_getD (n : Nat) (f : Nat → Int) {g : Nat} (h : g < n) : ((List.range n).map f).getD g 0 = f g := by
  rw [List.getD_eq_getElem?_getD, List.getElem?_map, List.getElem?_range h]
  rfl
theorem show_may {p : Pl} {k : Nat} {ph : Int} (hf : fitP p = true) (hk : k < p.s.length) (h0 : 0 ≤ ph) (h3 : ph < 3) : mayR (showR p (k : Int) ph) = true := by
  obtain ⟨h1, -⟩ := may_all (fit_iff.1 hf).may
  rw [show_is hf hk h0 h3, may_iff]
  refine ⟨by simpa using h1, fun x hx => ?_⟩
  obtain ⟨g, -, rfl⟩ := List.mem_map.1 hx
  exact lamp_ok _ _ _
theorem show_free {p : Pl} {k : Nat} {ph : Int} (hf : fitP p = true) (hk : k < p.s.length) (h0 : 0 ≤ ph) (h3 : ph < 3) : clashR p (showR p (k : Int) ph) = false := clash_not fun hz => by
  obtain ⟨-, -, hl, g, hg, h, hh, hm, n1, n2⟩ := hz
  rw [hl] at hg hh
  rw [show_is hf hk h0 h3, rows_getD _ _ hg] at n1
  rw [show_is hf hk h0 h3, rows_getD _ _ hh] at n2
  have hmem : p.s.getD k Stg.zero ∈ p.s := by rw [List.getD_eq_getElem?_getD, List.getElem?_eq_getElem hk]; exact List.getElem_mem hk
  obtain ⟨f1, -⟩ := (fit_iff.1 hf).stage _ hmem
  exact (free_iff.1 f1).2.2 g hg h hh ⟨lamp_in n1, lamp_in n2, hm⟩
theorem show_size {p : Pl} {k : Nat} {ph : Int} (hf : fitP p = true) (hk : k < p.s.length) (h0 : 0 ≤ ph) (h3 : ph < 3) : (showR p (k : Int) ph).length = p.m.length := by
  rw [show_is hf hk h0 h3]; simp
theorem show_at {p : Pl} {k g : Nat} {ph : Int} (hf : fitP p = true) (hk : k < p.s.length) (h0 : 0 ≤ ph) (h3 : ph < 3) (hg : g < p.m.length) : (showR p (k : Int) ph).getD g 0 = lampP (p.s.getD k Stg.zero).g ph g := by
  rw [show_is hf hk h0 h3, rows_getD _ _ hg]
end Go.Proofs.Ytekmagpokcloaaa

/- Pure facts of plans, for the laws. -/
namespace Go.Proofs.Ytekmagpokcloaaa
set_option maxRecDepth 100000
set_option linter.unusedVariables false
set_option linter.unusedSimpArgs false
open Go.RowKit

def atN (n k i : Nat) : Nat := (k + i) % n
def seenN (n k : Nat) : Nat → Nat
  | 0 => 0
  | i + 1 => seenN n k i ||| 2 ^ atN n k i
theorem round7 : ∀ (n k i : Fin 7), k.val < n.val → i.val < n.val → seenN n.val k.val i.val < 64 ∧ (seenN n.val k.val i.val).testBit (atN n.val k.val i.val) = false ∧ atN n.val k.val i.val < n.val ∧ atN n.val k.val (i.val + 1) = (if atN n.val k.val i.val = n.val - 1 then 0 else atN n.val k.val i.val + 1) := by decide +kernel
theorem at_zero {n k : Nat} (h : k < n) : atN n k 0 = k := Nat.mod_eq_of_lt h
theorem at_all {n k : Nat} (h : k < n) : atN n k n = k := by rw [atN, Nat.add_mod_right]; exact Nat.mod_eq_of_lt h
theorem next_at {p : Pl} {n k i : Nat} (hf : fitP p = true) (hn : p.s.length = n) (h6 : n ≤ 6) (hk : k < n) (hi : i < n) : nextP p (atN n k i : Nat) = (atN n k (i + 1) : Nat) := by
  obtain ⟨-, -, h3, h4⟩ := round7 ⟨n, by omega⟩ ⟨k, by omega⟩ ⟨i, by omega⟩ hk hi
  simp only at h3 h4
  rw [nextP, if_pos ⟨hf, by omega, by omega⟩, h4]
  by_cases e : atN n k i = n - 1
  · rw [if_pos (by omega), if_pos e]; rfl
  · rw [if_neg (by omega), if_neg e]; simp
/-- what Least tells, of stages of one tick at least -/
theorem least_or (g : Nat) : ∀ (l a : List Stg) (o : Int), (∀ x ∈ l, 1 ≤ x.mn) → ((o = 0 ∧ ∀ x ∈ a, bitI x.g g = false) ∨ (1 ≤ o ∧ (∃ x ∈ a, bitI x.g g = true ∧ x.mn = o) ∧ ∀ x ∈ a, bitI x.g g = true → o ≤ x.mn)) →
    ((leastF g l o = 0 ∧ ∀ x ∈ a ++ l, bitI x.g g = false) ∨ (1 ≤ leastF g l o ∧ (∃ x ∈ a ++ l, bitI x.g g = true ∧ x.mn = leastF g l o) ∧ ∀ x ∈ a ++ l, bitI x.g g = true → leastF g l o ≤ x.mn))
  | [], a, o, _, h => by simpa [leastF] using h
  | x :: l, a, o, h1, h => by
    have ih := least_or g l (a ++ [x])
    rw [leastF]
    simp only [List.append_assoc, List.cons_append, List.nil_append] at ih
    have hx1 := h1 x (by simp)
    refine ih _ (fun y hy => h1 y (by simp [hy])) ?_
    simp only [List.mem_append, List.mem_cons, List.not_mem_nil, or_false]
    cases hb : bitI x.g g
    · rw [if_neg (by simp)]
      rcases h with ⟨h0, hn⟩ | ⟨ho, ⟨y, hy, hyb, hym⟩, hle⟩
      · exact .inl ⟨h0, fun z hz => hz.elim (hn z) (fun e => by rw [e]; exact hb)⟩
      · exact .inr ⟨ho, ⟨y, .inl hy, hyb, hym⟩, fun z hz hzb => hz.elim (fun h => hle z h hzb) (fun e => by rw [e, hb] at hzb; cases hzb)⟩
    · by_cases hc : o = 0 ∨ x.mn < o
      · rw [if_pos ⟨rfl, hc⟩]
        refine .inr ⟨hx1, ⟨x, .inr rfl, hb, rfl⟩, fun z hz hzb => hz.elim (fun hz => ?_) (fun e => by rw [e]; exact Int.le_refl _)⟩
        rcases h with ⟨h0, hn⟩ | ⟨ho, -, hle⟩
        · rw [hn z hz] at hzb; cases hzb
        · have := hle z hz hzb
          omega
      · rw [if_neg fun h => hc h.2]
        rcases h with ⟨h0, -⟩ | ⟨ho, ⟨y, hy, hyb, hym⟩, hle⟩
        · exact (hc (.inl h0)).elim
        · refine .inr ⟨ho, ⟨y, .inl hy, hyb, hym⟩, fun z hz hzb => hz.elim (fun h => hle z h hzb) (fun e => by rw [e]; omega)⟩
theorem least_fit {p : Pl} {g : Nat} (hf : fitP p = true) (hg : g < p.m.length) : 1 ≤ leastP p (g : Int) ∧ (∃ x ∈ p.s, bitI x.g g = true ∧ x.mn = leastP p (g : Int)) ∧ ∀ x ∈ p.s, bitI x.g g = true → leastP p (g : Int) ≤ x.mn := by
  have hff := fit_iff.1 hf
  have e : leastP p (g : Int) = leastF g p.s 0 := by rw [leastP, if_pos ⟨hf, by omega, by omega⟩, Int.toNat_natCast]
  rw [e]
  rcases least_or g p.s [] 0 (fun x hx => (hff.stage x hx).2.2.1) (.inl ⟨rfl, fun x hx => by cases hx⟩) with ⟨-, h⟩ | h
  · obtain ⟨x, hx, hb⟩ := hff.some g hg
    rw [h x (by simpa using hx)] at hb
    cases hb
  · simpa using h
/-- cycles -/
theorem cyc_sum (am rd : Int) : ∀ (l : List Stg) (o : Int), cycF am rd l o = o + cycF 0 0 l 0 + l.length * (am + rd)
  | [], o => by simp [cycF]
  | x :: l, o => by
    rw [cycF, cyc_sum am rd l, cycF, cyc_sum 0 0 l (0 + x.mn + 0 + 0)]
    have e : (((x :: l).length : Nat) : Int) = (l.length : Int) + 1 := by simp
    rw [e, Int.add_mul]
    omega
theorem mins_ge : ∀ (l : List Stg), (∀ x ∈ l, 1 ≤ x.mn) → (l.length : Int) ≤ cycF 0 0 l 0
  | [], _ => by simp [cycF]
  | x :: l, h => by
    have ih := mins_ge l (fun y hy => h y (by simp [hy]))
    have hx := h x (by simp)
    rw [cycF, cyc_sum]
    have e : (((x :: l).length : Nat) : Int) = (l.length : Int) + 1 := by simp
    rw [e]
    omega
theorem mins_one : ∀ (l : List Stg) (x : Stg), (∀ y ∈ l, 1 ≤ y.mn) → x ∈ l → x.mn + l.length - 1 ≤ cycF 0 0 l 0
  | [], x, _, hx => by cases hx
  | y :: l, x, h, hx => by
    have hy := h y (by simp)
    have hl := mins_ge l (fun z hz => h z (by simp [hz]))
    have e : (((y :: l).length : Nat) : Int) = (l.length : Int) + 1 := by simp
    rw [cycF, cyc_sum, e]
    rcases List.mem_cons.1 hx with rfl | hx
    · omega
    · have ih := mins_one l x (fun z hz => h z (by simp [hz])) hx
      omega
theorem mins_le : ∀ (l : List Stg), (∀ x ∈ l, x.mn ≤ 200) → cycF 0 0 l 0 ≤ 200 * l.length
  | [], _ => by simp [cycF]
  | x :: l, h => by
    have ih := mins_le l (fun y hy => h y (by simp [hy]))
    have hx := h x (by simp)
    have e : (((x :: l).length : Nat) : Int) = (l.length : Int) + 1 := by simp
    rw [cycF, cyc_sum, e]
    omega
end Go.Proofs.Ytekmagpokcloaaa

/- The laws' arguments, opened: a slice of numbers. -/
namespace Go.Proofs.Ytekmagpokcloaaa
open Go.ChangeShapes Go.WideShapes Go.ChangeAt Go.RowKit

theorem own : ownKnob Try.prog.godebug = none := by kernel_rfl
theorem cellsInt : Try.prog.cellsOf 3 = 1 := by kernel_rfl
theorem laidOut : laidOutB Try.prog = true := by kernel_rfl

theorem one_of_take3 {l : List Value} {i : Nat} {v : Value} (h : (l.drop i).take 1 = [v]) : l[i]? = some v := by
  have h1 : ((l.drop i).take 1)[0]? = some v := by rw [h]; rfl
  rw [List.getElem?_take, if_pos (by omega), List.getElem?_drop, Nat.add_zero] at h1
  exact h1
section
variable {H : Type} {enc : TypeId × Value → H} {W : World} {base : Nat} {spare : Nat → Bool} {held : Bool}
/-- a slice of numbers of kind K: t the slice's type, e the element's -/
theorem open_its {t e : TypeId} {K : IntKind} {fuel : Nat} {cs : List Value} {x : DataW H × List MemPlace} (ht : Try.prog.underlying t = some (.slice e)) (he : Try.prog.underlying e = some (.int K)) (hc : Try.prog.cellsOf e = 1)
    (h : DataW.trod enc Try.prog W base spare held fuel t cs = some x) : ∃ (A : Option Addr) (n c : Nat) (l : List Int), cs = [.slice A n c] ∧ Its K W A n c l ∧ ∀ y ∈ l, (Lit.int K y).wf = true := by
  rcases open_ints ht he hc h with ⟨hcs, _⟩ | ⟨a, len, cap, zs, hcs, _, hl, hm, hz, _, hcell, hwz⟩
  · exact ⟨none, 0, 0, [], hcs, Its.nil K W, fun y hy => by cases hy⟩
  · have hlen : len ≤ zs.length := by rw [hz]; split <;> omega
    refine ⟨some a, len, cap, zs.take len, hcs, ⟨by rw [List.length_take]; omega, hl, hm, (fun e => by cases e), ?_⟩, fun y hy => hwz y (List.mem_of_mem_take hy)⟩
    intro hn
    obtain ⟨b, off, rfl, hc⟩ := ints_at hcell (by omega)
    refine ⟨b, off, rfl, fun j hj => ?_⟩
    rw [hc j (by omega)]
    simp [List.getD_eq_getElem?_getD, hj]
theorem trodAll_five {P : Program} {w : World} {t0 t1 t2 t3 t4 : TypeId} {args : Array Value} {ds : List (DataW H)} {ps : List MemPlace} (h : DataW.TrodAll enc P w base spare held [t0, t1, t2, t3, t4] args.toList ds ps) :
    ∃ v0 v1 v2 v3 v4 d0 d1 d2 d3 d4 p0 p1 p2 p3 p4, args = #[v0, v1, v2, v3, v4] ∧ ds = [d0, d1, d2, d3, d4] ∧ ps = p0 ++ p1 ++ p2 ++ p3 ++ p4 ∧ DataW.Trod enc P w base spare held t0 v0 d0 p0 ∧ DataW.Trod enc P w base spare held t1 v1 d1 p1 ∧ DataW.Trod enc P w base spare held t2 v2 d2 p2 ∧ DataW.Trod enc P w base spare held t3 v3 d3 p3 ∧ DataW.Trod enc P w base spare held t4 v4 d4 p4 := by
  obtain ⟨v0, vs0, d0, es0, p0, q0, hargs, rfl, rfl, h0, r0⟩ := trodAll_cons h
  obtain ⟨v1, vs1, d1, es1, p1, q1, rfl, rfl, rfl, h1, r1⟩ := trodAll_cons r0
  obtain ⟨v2, vs2, d2, es2, p2, q2, rfl, rfl, rfl, h2, r2⟩ := trodAll_cons r1
  obtain ⟨v3, vs3, d3, es3, p3, q3, rfl, rfl, rfl, h3, r3⟩ := trodAll_cons r2
  obtain ⟨v4, vs4, d4, es4, p4, q4, rfl, rfl, rfl, h4, r4⟩ := trodAll_cons r3
  obtain ⟨rfl, rfl, rfl⟩ := trodAll_nil r4
  exact ⟨v0, v1, v2, v3, v4, d0, d1, d2, d3, d4, p0, p1, p2, p3, p4, by cases args; simp_all, rfl, by simp, h0, h1, h2, h3, h4⟩
theorem trodAll_mk5 {P : Program} {w : World} {t0 t1 t2 t3 t4 : TypeId} {v0 v1 v2 v3 v4 : Value} {d0 d1 d2 d3 d4 : DataW H} {p0 p1 p2 p3 p4 : List MemPlace} (h0 : DataW.Trod enc P w base spare held t0 v0 d0 p0) (h1 : DataW.Trod enc P w base spare held t1 v1 d1 p1) (h2 : DataW.Trod enc P w base spare held t2 v2 d2 p2) (h3 : DataW.Trod enc P w base spare held t3 v3 d3 p3) (h4 : DataW.Trod enc P w base spare held t4 v4 d4 p4) : DataW.TrodAll enc P w base spare held [t0, t1, t2, t3, t4] [v0, v1, v2, v3, v4] [d0, d1, d2, d3, d4] (p0 ++ (p1 ++ (p2 ++ (p3 ++ (p4))))) :=
  ⟨p0, _, h0, trodAll_mk4 h1 h2 h3 h4, rfl⟩
theorem trodAll_six {P : Program} {w : World} {t0 t1 t2 t3 t4 t5 : TypeId} {args : Array Value} {ds : List (DataW H)} {ps : List MemPlace} (h : DataW.TrodAll enc P w base spare held [t0, t1, t2, t3, t4, t5] args.toList ds ps) :
    ∃ v0 v1 v2 v3 v4 v5 d0 d1 d2 d3 d4 d5 p0 p1 p2 p3 p4 p5, args = #[v0, v1, v2, v3, v4, v5] ∧ ds = [d0, d1, d2, d3, d4, d5] ∧ ps = p0 ++ p1 ++ p2 ++ p3 ++ p4 ++ p5 ∧ DataW.Trod enc P w base spare held t0 v0 d0 p0 ∧ DataW.Trod enc P w base spare held t1 v1 d1 p1 ∧ DataW.Trod enc P w base spare held t2 v2 d2 p2 ∧ DataW.Trod enc P w base spare held t3 v3 d3 p3 ∧ DataW.Trod enc P w base spare held t4 v4 d4 p4 ∧ DataW.Trod enc P w base spare held t5 v5 d5 p5 := by
  obtain ⟨v0, vs0, d0, es0, p0, q0, hargs, rfl, rfl, h0, r0⟩ := trodAll_cons h
  obtain ⟨v1, vs1, d1, es1, p1, q1, rfl, rfl, rfl, h1, r1⟩ := trodAll_cons r0
  obtain ⟨v2, vs2, d2, es2, p2, q2, rfl, rfl, rfl, h2, r2⟩ := trodAll_cons r1
  obtain ⟨v3, vs3, d3, es3, p3, q3, rfl, rfl, rfl, h3, r3⟩ := trodAll_cons r2
  obtain ⟨v4, vs4, d4, es4, p4, q4, rfl, rfl, rfl, h4, r4⟩ := trodAll_cons r3
  obtain ⟨v5, vs5, d5, es5, p5, q5, rfl, rfl, rfl, h5, r5⟩ := trodAll_cons r4
  obtain ⟨rfl, rfl, rfl⟩ := trodAll_nil r5
  exact ⟨v0, v1, v2, v3, v4, v5, d0, d1, d2, d3, d4, d5, p0, p1, p2, p3, p4, p5, by cases args; simp_all, rfl, by simp, h0, h1, h2, h3, h4, h5⟩
theorem trodAll_mk6 {P : Program} {w : World} {t0 t1 t2 t3 t4 t5 : TypeId} {v0 v1 v2 v3 v4 v5 : Value} {d0 d1 d2 d3 d4 d5 : DataW H} {p0 p1 p2 p3 p4 p5 : List MemPlace} (h0 : DataW.Trod enc P w base spare held t0 v0 d0 p0) (h1 : DataW.Trod enc P w base spare held t1 v1 d1 p1) (h2 : DataW.Trod enc P w base spare held t2 v2 d2 p2) (h3 : DataW.Trod enc P w base spare held t3 v3 d3 p3) (h4 : DataW.Trod enc P w base spare held t4 v4 d4 p4) (h5 : DataW.Trod enc P w base spare held t5 v5 d5 p5) : DataW.TrodAll enc P w base spare held [t0, t1, t2, t3, t4, t5] [v0, v1, v2, v3, v4, v5] [d0, d1, d2, d3, d4, d5] (p0 ++ (p1 ++ (p2 ++ (p3 ++ (p4 ++ (p5)))))) :=
  ⟨p0, _, h0, trodAll_mk5 h1 h2 h3 h4 h5, rfl⟩
end
end Go.Proofs.Ytekmagpokcloaaa
