/- Joined texts: The walk over the document's Fit of a plan. A slice of numbers without its first ones. The walk over the document's Ints: are two lists of numbers the same? '==' between two stages. The walk over the document's Same of plans. The walks over the document's Next and Cycle of a plan. The walk over the document's Least of a plan. The walk over the document's All of plans. Lamps, plainly: rows, their texts, what a plan shows, what clashes. The walks over the document's May and Text of a row of lamps. The walk over the document's Read of a text. The walks over the document's List and Of of groups, and Sets. -/
import Derived.Test.YtekmagpokcloaaaLmJB
import Derived.Test.YtekmagpokcloaaaLmJA
import Derived.BigQuiet
import Derived.Laws.Concat
/- The walk over the document's Fit of a plan. -/
namespace Go.Proofs.Ytekmagpokcloaaa
set_option maxRecDepth 100000
set_option linter.unusedVariables false
set_option linter.unusedSimpArgs false
open Go.RowKit

theorem not_fit {p : Pl} (h : ¬ Fits p) : fitP p = false := by
  rw [← Bool.not_eq_true, fit_iff]
  exact h
theorem fit_stage {p : Pl} {j : Nat} (hj : j < p.s.length) (h : stageB p.m (p.s.getD j Stg.zero) = false) : fitP p = false := not_fit fun hf => by
  have h1 : stageB p.m (p.s.getD j Stg.zero) = true := stage_iff.2 (hf.stage _ (by rw [List.getD_eq_getElem?_getD, List.getElem?_eq_getElem hj]; exact List.getElem_mem hj))
  rw [h] at h1
  cases h1
def someTo (s : List Stg) (i k : Nat) : Bool := someB (s.take k) i
theorem some_zero (s : List Stg) (i : Nat) : someTo s i 0 = false := rfl
theorem some_next {s : List Stg} {k : Nat} (i : Nat) (hk : k < s.length) : someTo s i (k + 1) = (someTo s i k || bitI (s.getD k Stg.zero).g i) := by
  rw [someTo, List.take_succ_eq_append_getElem hk, someB, List.any_append]
  simp [List.getD_eq_getElem?_getD, hk, someTo, someB]
theorem some_all (s : List Stg) (i : Nat) : someTo s i s.length = someB s i := by rw [someTo, List.take_length]
theorem fit_some {p : Pl} {i : Nat} (hi : i < p.m.length) (h : someB p.s i = false) : fitP p = false := not_fit fun hf => by
  have h1 := some_iff.2 (hf.some i hi)
  rw [h] at h1
  cases h1
theorem fit_rest {p : Pl} (h1 : mayM p.m = true) (h2 : 2 ≤ p.s.length) (h6 : p.s.length ≤ 6) (hs : ∀ j, j < p.s.length → stageB p.m (p.s.getD j Stg.zero) = true) (hg : ∀ i, i < p.m.length → someB p.s i = true) : fitP p = spanB p := by
  unfold fitP
  have ha : p.s.all (stageB p.m) = true := List.all_eq_true.2 fun x hx => by
    obtain ⟨j, hj, rfl⟩ := List.getElem_of_mem hx
    have := hs j hj
    rwa [List.getD_eq_getElem?_getD, List.getElem?_eq_getElem hj] at this
  have hb : (List.range p.m.length).all (someB p.s) = true := List.all_eq_true.2 fun i hi => hg i (List.mem_range.1 hi)
  rw [h1, ha, hb, decide_eq_true ⟨h2, h6⟩]
  rfl
set_option maxHeartbeats 8000000 in
theorem rfit_any (p : Pl) (w : World) (hp : PlIn w p) : Calls Try.prog 27 #[plV p] w fun e w' => e = .returned (.bool (fitP p)) ∧ Below w.heap.size w w' := by
  have hsm := hp.m.small
  have hsk := hp.s.small
  have hML := hp.m.len
  have hSL := hp.s.len
  simp only [plV]
  obtain ⟨W0, hW0⟩ : ∃ W0, w.alloc (.cells #[.slice p.A p.n p.c, .slice p.B p.k p.d, .int .i64 p.am, .int .i64 p.rd, .int .i64 p.hd] 25) = W0 := ⟨_, rfl⟩
  have hB0 : Below w.heap.size w W0 := by rw [← hW0]; exact one_alloc w _
  have hp0 : PlIn W0 p := hp.below hB0
  have hbx : BoxP W0 w.heap.size p := by rw [← hW0]; exact BoxP.new w p
  have HW := Lib.hid hW0
  have HB0 := Lib.hid hB0
  have HMY := Lib.hid (rgmay_any p.A p.n p.c p.m W0 hp0.m)
  have HBC := Lib.hid (show ∀ X, Below W0.heap.size W0 X → X.cell? ⟨w.heap.size, 0, none⟩ = some (.slice p.A p.n p.c) ∧ X.cell? ⟨w.heap.size, 1, none⟩ = some (.slice p.B p.k p.d) ∧ X.cell? ⟨w.heap.size, 2, none⟩ = some (.int .i64 p.am) ∧ X.cell? ⟨w.heap.size, 3, none⟩ = some (.int .i64 p.rd) ∧ X.cell? ⟨w.heap.size, 4, none⟩ = some (.int .i64 p.hd) from fun X hX => (hbx.below hX).cells)
  have HPI := Lib.hid (show ∀ X, Below W0.heap.size W0 X → PlIn X p from fun X hX => hp0.below hX)
  clear hW0 hB0 hbx hp
  cases hm : mayM p.m with
  | false =>
    rw [hm] at HMY
    have HR := Lib.hid (not_fit (p := p) fun hf => by rw [hf.may] at hm; cases hm)
    clear hm hp0
    go_enter Try.func27, Try.ntmps27
    go_wp2_with (go_at_call 39; rw [HW.out]; (with_reducible refine (HMY.out).mono ?_); rintro e w1 ⟨rfl, hb1⟩; have HB1 := Lib.hid (HB0.out.trans (hb1.mono HB0.out.size)); clear hb1)
    go_ret
    exact ⟨by rw [HR.out]; rfl, HB1.out⟩
  | true =>
    rw [hm] at HMY
    by_cases hlen : p.k < 2 ∨ 6 < p.k
    · have HR := Lib.hid (not_fit (p := p) fun hf => by have := hf.two; have := hf.six; omega)
      rcases hlen with hlen | hlen
      all_goals
        clear hm hp0
        go_enter Try.func27, Try.ntmps27
        go_wp2_with (go_at_call 39; rw [HW.out]; (with_reducible refine (HMY.out).mono ?_); rintro e w1 ⟨rfl, hb1⟩; obtain ⟨a0, a1, a2, a3, a4⟩ := HBC.out w1 hb1; have HB1 := Lib.hid (HB0.out.trans (hb1.mono HB0.out.size)); clear hb1)
        go_ret
        exact ⟨by rw [HR.out]; rfl, HB1.out⟩
    · obtain ⟨b, off, -, hA, -⟩ := hp0.s.at_ 0 (by omega)
      obtain ⟨A, n, c, m, B, k, d, s, am, rd, hd⟩ := p
      simp only at *
      subst hA
      have hk2 : ¬ ((k : Int) < 2) := by omega
      have hk6 : ¬ (6 < (k : Int)) := by omega
      obtain ⟨hn8, hrow⟩ := may_rows hML hm
      have HSC := Lib.hid (show ∀ j, j < k → ∀ X, Below W0.heap.size W0 X → X.cell? ⟨b, off + j * 3, none⟩ = some (.int .i64 (s.getD j Stg.zero).g) ∧ X.cell? ⟨b, off + j * 3 + 1, none⟩ = some (.int .i64 (s.getD j Stg.zero).mn) ∧ X.cell? ⟨b, off + j * 3 + 2, none⟩ = some (.int .i64 (s.getD j Stg.zero).mx) from fun j hj X hX => by
        obtain ⟨b', off', x, hA', hx, -, -, z0, z1, z2⟩ := (hp0.s.below hX).at_ j hj
        cases hA'
        rw [hx]
        exact ⟨z0, z1, z2⟩)
      have HSL := Lib.hid hSL
      have HML := Lib.hid hML
      have HM := Lib.hid hm
      have HRW := Lib.hid hrow
      have hl2 : 2 ≤ k ∧ k ≤ 6 := by omega
      clear hm hp0 hML hSL hlen hrow
      go_enter Try.func27, Try.ntmps27
      go_wp2_with (go_at_call 39; rw [HW.out]; (with_reducible refine (HMY.out).mono ?_); rintro e w1 ⟨rfl, hb1⟩; obtain ⟨a0, a1, a2, a3, a4⟩ := HBC.out w1 hb1; have HB1 := Lib.hid hb1; clear hb1)
      clear a0 a1 a2 a3 a4
      go_loopw [4] (fun v wr => ∃ j : Nat, j ≤ k ∧ v = .int .i64 j ∧ (∀ i, i < j → stageB m (s.getD i Stg.zero) = true) ∧ Below W0.heap.size W0 wr) (fun v _ => k - (intOf v).toNat)
      case atStart => exact ⟨0, by omega, rfl, fun i hi => by omega, HB1.out⟩
      case round =>
        obtain ⟨j, hj, rfl, hall, hbw⟩ := hrel
        have HBW := Lib.hid hbw
        have HAL := Lib.hid hall
        obtain ⟨a0, a1, a2, a3, a4⟩ := HBC.out wr hbw
        clear hall hbw
        by_cases hlt : j < k
        · have hlt2 : (j : Int) < k := by omega
          have q0 : 0 ≤ (j : Int) := by omega
          have HF0 := HSC.out j hlt
          obtain ⟨x, hx⟩ : ∃ x, s.getD j Stg.zero = x := ⟨_, rfl⟩
          simp only [hx] at HF0
          have HF := Lib.hid (show ∀ X, Below wr.heap.size wr X → X.cell? ⟨w.heap.size, 0, none⟩ = some (.slice A n c) ∧ X.cell? ⟨w.heap.size, 1, none⟩ = some (.slice (some ⟨b, off, none⟩) k d) ∧ X.cell? ⟨w.heap.size, 2, none⟩ = some (.int .i64 am) ∧ X.cell? ⟨w.heap.size, 3, none⟩ = some (.int .i64 rd) ∧ X.cell? ⟨w.heap.size, 4, none⟩ = some (.int .i64 hd) ∧
              X.cell? ⟨b, off + j * 3, none⟩ = some (.int .i64 x.g) ∧ X.cell? ⟨b, off + j * 3 + 1, none⟩ = some (.int .i64 x.mn) ∧ X.cell? ⟨b, off + j * 3 + 2, none⟩ = some (.int .i64 x.mx) from fun X hX => by
            have hX0 := HBW.out.trans (hX.mono HBW.out.size)
            obtain ⟨a0, a1, a2, a3, a4⟩ := HBC.out X hX0
            exact ⟨a0, a1, a2, a3, a4, HF0 X hX0⟩)
          have HSB := Lib.hid (show ∀ X, Below wr.heap.size wr X → Calls Try.prog 40 #[.agg #[.slice A n c, .slice (some ⟨b, off, none⟩) k d, .int .i64 am, .int .i64 rd, .int .i64 hd], .agg #[.int .i64 x.g, .int .i64 x.mn, .int .i64 x.mx]] X fun e w' => e = .returned (.bool (stageB m x)) ∧ Below X.heap.size X w' from fun X hX => rstage_any _ x X (HPI.out X (HBW.out.trans (hX.mono HBW.out.size))))
          clear HF0
          cases hs : stageB m x
          · rw [hs] at HSB
            have HR := Lib.hid (fit_stage (p := ⟨A, n, c, m, some ⟨b, off, none⟩, k, d, s, am, rd, hd⟩) (j := j) (by simp only; rw [HSL.out]; exact hlt) (by simp only; rw [hx]; exact hs))
            clear hx hs
            go_wp2
            clear a0 a1 a2 a3 a4
            have hSd : Below wr.heap.size wr wr.drew := (Below.refl _ wr).drew
            refine wp_region_held_drew (S := fun X => Below wr.heap.size wr X) (by kernel_rfl) hSd (fun hHeld => ?_)
            refine tkS 0 (.agg #[.slice A n c, .slice (some ⟨b, off, none⟩) k d, .int .i64 am, .int .i64 rd, .int .i64 hd]) hHeld (fun w hq => ?_) ?_
            · obtain ⟨a0, a1, a2, a3, a4, z0, z1, z2⟩ := HF.out w hq
              go_simp
            simp only [PT]
            refine tk 1 (.pointer (some ⟨w.heap.size, 1, none⟩)) hHeld (fun w => ?_) ?_
            · go_simp
            simp only [PT]
            refine tkS 2 (.slice (some ⟨b, off, none⟩) k d) hHeld (fun w hq => ?_) ?_
            · obtain ⟨a0, a1, a2, a3, a4, z0, z1, z2⟩ := HF.out w hq
              go_simp
            simp only [PT]
            refine tk 3 (.int .i64 j) hHeld (fun w => ?_) ?_
            · go_simp
            simp only [PT]
            refine tk 4 (.pointer (some ⟨b, off + j * 3, none⟩)) hHeld (fun w => ?_) ?_
            · go_simp
            simp only [PT]
            refine tkS 5 (.agg #[.int .i64 x.g, .int .i64 x.mn, .int .i64 x.mx]) hHeld (fun w hq => ?_) ?_
            · obtain ⟨a0, a1, a2, a3, a4, z0, z1, z2⟩ := HF.out w hq
              go_simp
            simp only [PT]
            refine one_step 6 (by kernel_rfl) rfl (fun Kq hKq => ?_)
            go_simp
            go_at_call 40
            (with_reducible refine (HSB.out _ hSd).mono ?_)
            rintro e y1 ⟨rfl, hbx⟩
            have hS1 : Below wr.heap.size wr y1 := hSd.trans (hbx.mono hSd.size)
            clear hbx
            refine hKq.out _ _ hS1 (fun hHeld0 => ?_)
            clear hKq Kq hHeld
            have hHeld := hHeld0
            clear hHeld0
            try simp only [PT]
            refine tk 7 (.bool false) hHeld (fun w => ?_) ?_
            · go_simp
            simp only [PT]
            refine wpAnyH_done (by kernel_rfl) ?_ _
            clear hHeld
            go_wp2
            go_ret
            exact ⟨by rw [HR.out]; rfl, HB0.out.trans ((HBW.out.trans (hS1.mono HBW.out.size)).mono HB0.out.size)⟩
          · rw [hs] at HSB
            have HN := Lib.hid (show ∀ i, i < j + 1 → stageB m (s.getD i Stg.zero) = true from fun i hi => by
              by_cases e : i = j
              · subst e; rw [hx]; exact hs
              · exact HAL.out i (by omega))
            clear hx hs
            go_wp2
            clear a0 a1 a2 a3 a4
            have hSd : Below wr.heap.size wr wr.drew := (Below.refl _ wr).drew
            refine wp_region_held_drew (S := fun X => Below wr.heap.size wr X) (by kernel_rfl) hSd (fun hHeld => ?_)
            refine tkS 0 (.agg #[.slice A n c, .slice (some ⟨b, off, none⟩) k d, .int .i64 am, .int .i64 rd, .int .i64 hd]) hHeld (fun w hq => ?_) ?_
            · obtain ⟨a0, a1, a2, a3, a4, z0, z1, z2⟩ := HF.out w hq
              go_simp
            simp only [PT]
            refine tk 1 (.pointer (some ⟨w.heap.size, 1, none⟩)) hHeld (fun w => ?_) ?_
            · go_simp
            simp only [PT]
            refine tkS 2 (.slice (some ⟨b, off, none⟩) k d) hHeld (fun w hq => ?_) ?_
            · obtain ⟨a0, a1, a2, a3, a4, z0, z1, z2⟩ := HF.out w hq
              go_simp
            simp only [PT]
            refine tk 3 (.int .i64 j) hHeld (fun w => ?_) ?_
            · go_simp
            simp only [PT]
            refine tk 4 (.pointer (some ⟨b, off + j * 3, none⟩)) hHeld (fun w => ?_) ?_
            · go_simp
            simp only [PT]
            refine tkS 5 (.agg #[.int .i64 x.g, .int .i64 x.mn, .int .i64 x.mx]) hHeld (fun w hq => ?_) ?_
            · obtain ⟨a0, a1, a2, a3, a4, z0, z1, z2⟩ := HF.out w hq
              go_simp
            simp only [PT]
            refine one_step 6 (by kernel_rfl) rfl (fun Kq hKq => ?_)
            go_simp
            go_at_call 40
            (with_reducible refine (HSB.out _ hSd).mono ?_)
            rintro e y1 ⟨rfl, hbx⟩
            have hS1 : Below wr.heap.size wr y1 := hSd.trans (hbx.mono hSd.size)
            clear hbx
            refine hKq.out _ _ hS1 (fun hHeld0 => ?_)
            clear hKq Kq hHeld
            have hHeld := hHeld0
            clear hHeld0
            try simp only [PT]
            refine tk 7 (.bool true) hHeld (fun w => ?_) ?_
            · go_simp
            simp only [PT]
            refine wpAnyH_done (by kernel_rfl) ?_ _
            clear hHeld
            go_wp2
            go_roundw
            case rel => exact ⟨j + 1, by omega, by go_num, HN.out, HBW.out.trans (hS1.mono HBW.out.size)⟩
            case measure => simp [intOf]; omega
        · obtain rfl : j = k := by omega
          have hge : ¬ ((j : Int) < j) := by omega
          go_wp2
          clear a0 a1 a2 a3 a4
          go_loopw [6, 7, 8] (fun v y z wr => ∃ i : Nat, i ≤ n ∧ v = .int .i64 i ∧ (∀ l, l < i → someB s l = true) ∧ Below W0.heap.size W0 wr) (fun v _ _ _ => n - (intOf v).toNat)
          case atStart => exact ⟨0, by omega, rfl, fun l hl => by omega, HBW.out⟩
          case round =>
            rename_i wro
            obtain ⟨i, hi, rfl, hso, hbi⟩ := hrel
            have HBI := Lib.hid hbi
            have HSO := Lib.hid hso
            obtain ⟨a0, a1, a2, a3, a4⟩ := HBC.out wr hbi
            clear hso hbi
            by_cases hin : i < n
            · have hin2 : (i : Int) < n := by omega
              go_wp2
              clear a0 a1 a2 a3 a4
              go_loopw [7, 8] (fun y z wr => ∃ l : Nat, l ≤ j ∧ z = .int .i64 l ∧ y = .bool (someTo s i l) ∧ Below W0.heap.size W0 wr) (fun _ z _ => j - (intOf z).toNat)
              case atStart => exact ⟨0, by omega, rfl, rfl, HBI.out⟩
              case round =>
                rename_i wri
                obtain ⟨l, hl, rfl, rfl, hbl⟩ := hrel
                have HBL := Lib.hid hbl
                obtain ⟨a0, a1, a2, a3, a4⟩ := HBC.out wr hbl
                obtain ⟨S, hS⟩ : ∃ S, someTo s i l = S := ⟨_, rfl⟩
                rw [hS]
                clear hbl
                by_cases hll : l < j
                · have hll2 : (l : Int) < j := by omega
                  have hfr := (stage_iff.1 (HAL.out l hll)).1
                  obtain ⟨-, ⟨g0, g1⟩, -⟩ := free_iff.1 hfr
                  obtain ⟨t, ht⟩ := Int.eq_ofNat_of_zero_le g0
                  have h8 := pow_le hn8
                  have ht2 : t < 256 := by rw [ht, HML.out, pow_int] at g1; omega
                  have HHS := Lib.hid (fun X hX => rhas_any ⟨A, n, c, m, some ⟨b, off, none⟩, j, d, s, am, rd, hd⟩ l i t X (HPI.out X hX) hll ht (by omega) (by omega))
                  simp only [plV] at HHS
                  have hnx := some_next (s := s) i (by rw [HSL.out]; exact hll)
                  rw [hS, ht, bit_nat] at hnx
                  obtain ⟨T, hT⟩ : ∃ T, t.testBit i = T := ⟨_, rfl⟩
                  rw [hT] at HHS hnx
                  have HNX := Lib.hid hnx
                  clear hnx hfr g0 g1 ht hS hT
                  cases S
                  all_goals
                    go_wp2_with (go_at_call 28
                                 (with_reducible refine (HHS.out _ HBL.out).mono ?_)
                                 rintro e w3 ⟨rfl, hb3⟩
                                 have HB3 := Lib.hid (HBL.out.trans (hb3.mono HBL.out.size))
                                 clear hb3)
                    go_roundw
                    case rel => exact ⟨l + 1, by omega, by go_num, by rw [HNX.out]; rfl, HB3.out⟩
                    case measure => simp [intOf]; omega
                · obtain rfl : l = j := by omega
                  have hgl : ¬ ((l : Int) < l) := by omega
                  have hsa := some_all s i
                  rw [HSL.out, hS] at hsa
                  cases S
                  · have HR := Lib.hid (fit_some (p := ⟨A, n, c, m, some ⟨b, off, none⟩, l, d, s, am, rd, hd⟩) (i := i) (by simp only; rw [HML.out]; exact hin) hsa.symm)
                    clear hsa hS
                    go_wp2
                    go_ret
                    exact ⟨by rw [HR.out]; rfl, HB0.out.trans (HBL.out.mono HB0.out.size)⟩
                  · have HN := Lib.hid (show ∀ r, r < i + 1 → someB s r = true from fun r hr => by
                      by_cases e : r = i
                      · subst e; exact hsa.symm
                      · exact HSO.out r (by omega))
                    clear hsa hS
                    go_wp2
                    go_roundw
                    case rel => exact ⟨i + 1, by omega, by go_num, HN.out, HBL.out⟩
                    case measure => simp [intOf]; omega
            · obtain rfl : i = n := by omega
              have hgi : ¬ ((i : Int) < i) := by omega
              have hr := fit_rest (p := ⟨A, i, c, m, some ⟨b, off, none⟩, j, d, s, am, rd, hd⟩) HM.out (by simp only; rw [HSL.out]; omega) (by simp only; rw [HSL.out]; omega) (fun r hr => HAL.out r (by simp only at hr; rw [HSL.out] at hr; exact hr)) (fun r hr => HSO.out r (by simp only at hr; rw [HML.out] at hr; exact hr))
              obtain ⟨M, hM⟩ : ∃ M, fitP ⟨A, i, c, m, some ⟨b, off, none⟩, j, d, s, am, rd, hd⟩ = M := ⟨_, rfl⟩
              have HMM := Lib.hid hM
              rw [hM] at hr
              unfold spanB at hr
              simp only at hr
              clear hM
              obtain ⟨p0, hp0⟩ : ∃ b, decide (1 ≤ am) = b := ⟨_, rfl⟩
              obtain ⟨p1, hp1⟩ : ∃ b, decide (am ≤ 200) = b := ⟨_, rfl⟩
              obtain ⟨p2, hp2⟩ : ∃ b, decide (1 ≤ rd) = b := ⟨_, rfl⟩
              obtain ⟨p3, hp3⟩ : ∃ b, decide (rd ≤ 200) = b := ⟨_, rfl⟩
              obtain ⟨p4, hp4⟩ : ∃ b, decide (0 ≤ hd) = b := ⟨_, rfl⟩
              obtain ⟨p5, hp5⟩ : ∃ b, decide (hd ≤ 300) = b := ⟨_, rfl⟩
              rw [hp0, hp1, hp2, hp3, hp4, hp5] at hr
              cases p0
              case' true =>
                cases p1
                case' true =>
                  cases p2
                  case' true =>
                    cases p3
                    case' true =>
                      cases p4
              all_goals
                simp only [Bool.true_and, Bool.false_and, Bool.and_true, Bool.and_false] at hr
                subst hr
                go_wp2
                go_ret
                exact ⟨by rw [HMM.out]; rfl, HB0.out.trans (HBI.out.mono HB0.out.size)⟩
end Go.Proofs.Ytekmagpokcloaaa

/- A slice of numbers without its first ones. -/
namespace Go.Proofs.Ytekmagpokcloaaa
open Go.RowKit

theorem its_from {P : Program} {K : IntKind} {t : TypeId} (ht : P.underlying t = some (.slice (P.elem t))) (hz : ∀ w, (sizeOf (P.elem t)).run P w = .ok 1 w) {w0 : World} {A : Option Addr} {n cap lo : Nat} {l : List Int} (hb : Its K w0 A n cap l) (x : Int) (hx : x = lo) (hlo : lo ≤ n) :
    ∃ A2, (∀ w : World, (Instr.slice t (.slice A n cap) (some (.int .i64 x)) none none).run P w = .ok (.slice A2 (n - lo) (cap - lo)) w) ∧ (∀ w1, Its K w1 A n cap l → Its K w1 A2 (n - lo) (cap - lo) (l.drop lo)) := by
  subst hx
  refine ⟨if cap = lo then A else A.map (·.add lo), fun w => ?_, fun w1 hb => ?_⟩
  · rw [run_slice_l (P := P) w t A n cap ht .i64 lo (by omega) (by omega), hz]
    simp only [Result.andThen_ok, sliced, Int.toNat_natCast, Nat.mul_one]
  · have hle := hb.le
    have hmax := hb.max
    refine ⟨by rw [List.length_drop, hb.len], by omega, by omega, ?_, ?_⟩
    · intro h
      by_cases hc : cap = lo
      · omega
      · rw [if_neg hc] at h
        have : A = none := by cases A <;> simp at h ⊢
        have := hb.bare this
        omega
    · intro hn
      obtain ⟨b, off, hA, hcell⟩ := hb.at_ (by omega)
      rw [if_neg (by omega), hA]
      refine ⟨b, off + lo, ?_, fun j hj => ?_⟩
      · simp only [Option.map_some]
        congr 1
        unfold Addr.add
        split
        · rename_i h0; subst h0; rfl
        · rfl
      · have := hcell (lo + j) (by omega)
        rw [← Nat.add_assoc] at this
        rw [this]
        simp [List.getD_eq_getElem?_getD, List.getElem?_drop]
end Go.Proofs.Ytekmagpokcloaaa

/- The walk over the document's Ints: are two lists of numbers the same? -/
namespace Go.Proofs.Ytekmagpokcloaaa
set_option maxRecDepth 100000
set_option linter.unusedVariables false
set_option linter.unusedSimpArgs false
open Go.RowKit

theorem ints_differ (a b : List Int) (k : Nat) (h : a.getD k 0 ≠ b.getD k 0) : (a == b) = false := by
  rw [beq_eq_false_iff_ne]
  rintro rfl
  exact h rfl
theorem ints_same (a b : List Int) (k : Nat) (ha : a.length = k) (hb : b.length = k) (h : ∀ j, j < k → a.getD j 0 = b.getD j 0) : (a == b) = true := by
  rw [beq_iff_eq]
  refine List.ext_getElem (by omega) fun j h1 h2 => ?_
  have := h j (by omega)
  simpa [List.getD_eq_getElem?_getD, h1, h2] using this
set_option maxHeartbeats 1000000 in
/-- are two lists of numbers the same? -/
theorem ints_any (A B : Option Addr) (n c m d : Nat) (a b : List Int) (w : World) (ha : Its .i64 w A n c a) (hb : Its .i64 w B m d b) :
    Calls Try.prog 12 #[.slice A n c, .slice B m d] w fun e w' => e = .returned (.bool (a == b)) ∧ ∃ j, w' = w.drewN j := by
  have hna := ha.small
  have hmb := hb.small
  by_cases hnm : n = m
  · subst hnm
    have hne : ((n : Int) != (n : Int)) = false := by simp
    have HAL := Lib.hid ha.len
    have HBL := Lib.hid hb.len
    go_enter Try.func12, Try.ntmps12
    go_wp2
    go_loopw [5] (fun i wr => ∃ k : Nat, k ≤ n ∧ i = .int .i64 k ∧ (∀ j, j < k → a.getD j 0 = b.getD j 0) ∧ ∃ j, wr = w.drewN j) (fun i _ => n - (intOf i).toNat)
    case atStart => exact ⟨0, by omega, rfl, (fun j hj => by omega), 0, rfl⟩
    case round =>
      obtain ⟨k, hk, rfl, hsame, j, rfl⟩ := hrel
      have HS := Lib.hid hsame
      clear hsame
      by_cases hlt : k < n
      · obtain ⟨ba, oa, rfl, hca⟩ := ha.at_ (by omega)
        obtain ⟨bb, ob, rfl, hcb⟩ := hb.at_ (by omega)
        have hxa := hca k hlt
        have hxb := hcb k hlt
        obtain ⟨x, hx⟩ : ∃ x, x = a.getD k 0 := ⟨_, rfl⟩
        obtain ⟨y, hy⟩ : ∃ y, y = b.getD k 0 := ⟨_, rfl⟩
        rw [← hx] at hxa
        rw [← hy] at hxb
        have hp0 : 0 ≤ (k : Int) := by omega
        have hp1 : (k : Int) < n := by omega
        by_cases hxy : x = y
        · subst hxy
          have hne2 : (x != x) = false := by simp
          have hnext : ∀ j, j < k + 1 → a.getD j 0 = b.getD j 0 := fun j hj => by
            by_cases e : j = k
            · rw [e, ← hx, ← hy]
            · exact HS.out j (by omega)
          have HN := Lib.hid hnext
          clear hx hy hnext hca hcb
          go_wp2
          go_quiet (fail)
          go_wp2
          go_roundw
          case rel => exact ⟨k + 1, by omega, by go_num, HN.out, _, rfl⟩
          case measure => simp [intOf]; omega
        · have hne2 : (x != y) = true := by rw [bne_iff_ne]; exact hxy
          have hres : false = (a == b) := (ints_differ a b k (by rw [← hx, ← hy]; exact hxy)).symm
          have HR := Lib.hid hres
          clear hx hy hres hxy hca hcb
          go_wp2
          go_quiet (fail)
          go_wp2
          go_ret
          exact ⟨congrArg (fun b => Ending.returned (Value.bool b)) HR.out, _, World.drewN_drewN _ _ _⟩
      · have hkn : k = n := by omega
        subst hkn
        have hge : ¬ ((k : Int) < k) := by omega
        have hres : true = (a == b) := (ints_same a b k HAL.out HBL.out HS.out).symm
        have HR := Lib.hid hres
        clear hres
        go_wp2
        go_ret
        exact ⟨congrArg (fun b => Ending.returned (Value.bool b)) HR.out, _, rfl⟩
  · have hne : ((n : Int) != (m : Int)) = true := by rw [bne_iff_ne]; omega
    have hres : false = (a == b) := by
      rw [eq_comm, beq_eq_false_iff_ne]
      rintro rfl
      exact hnm (ha.len.symm.trans hb.len)
    have HR := Lib.hid hres
    clear hres hnm
    go_enter Try.func12, Try.ntmps12
    go_wp2
    go_ret
    exact ⟨congrArg (fun b => Ending.returned (Value.bool b)) HR.out, 0, rfl⟩
end Go.Proofs.Ytekmagpokcloaaa

/- '==' between two stages. -/
namespace Go.Proofs.Ytekmagpokcloaaa
set_option maxRecDepth 100000
set_option linter.unusedVariables false
set_option linter.unusedSimpArgs false
open Go.RowKit

theorem stg_part {P : Program} (t : TypeId) (k : IntKind) (cs : Array Value) (off : Nat) (v : Value) (h : P.underlying t = some (.int k)) (hv : cs[off]? = some v) (w : World) : (part t cs off).run P w = .ok v w := by
  simp [part, isAgg, run_underlying h, hv, go_sem]
theorem stg_fields {P : Program} {d : Nat} {xs ys : Array Value} {f : Field} {fs : List Field} {a b : Value} {r : Bool} {w : World} (hn : f.name ≠ "_") (ha : (part f.type xs f.offset).run P w = .ok a w) (hb : (part f.type ys f.offset).run P w = .ok b w) (he : (Op.equalIn d f.type a b).run P w = .ok r w) :
    (Op.eqFields d xs ys (f :: fs)).run P w = if r then (Op.eqFields d xs ys fs).run P w else .ok false w := by
  simp only [Op.eqFields, if_pos hn, Sem.run_bind, ha, hb, he, Result.andThen_ok]
  cases r <;> simp
theorem stg_if (r s : Bool) (w : World) : (if r then (Result.ok s w : Result Bool) else .ok false w) = .ok (r && s) w := by cases r <;> rfl
theorem eq_stgs (f g : Stg) (w : World) : (Op.equalIn 10000 39 (.agg #[.int .i64 f.g, .int .i64 f.mn, .int .i64 f.mx]) (.agg #[.int .i64 g.g, .int .i64 g.mn, .int .i64 g.mx])).run Try.prog w = .ok (decide (f = g)) w := by
  rw [run_equalIn_struct w 9999 39 _ _ (by kernel_rfl) (by kernel_rfl)]
  unfold Program.fieldsOf
  rw [Try.underlying39]
  have i3 := Try.underlying3
  dsimp only
  have hd : decide (f = g) = (f.g == g.g && (f.mn == g.mn && f.mx == g.mx)) := by
    rcases f with ⟨a0, a1, a2⟩
    rcases g with ⟨b0, b1, b2⟩
    rw [Bool.eq_iff_iff]
    simp
  rw [hd]
  rw [stg_fields (by decide) (stg_part _ _ _ _ (.int .i64 f.g) i3 rfl w) (stg_part _ _ _ _ (.int .i64 g.g) i3 rfl w) (run_equalIn_int w 9998 _ _ _ _ _ i3),
    stg_fields (by decide) (stg_part _ _ _ _ (.int .i64 f.mn) i3 rfl w) (stg_part _ _ _ _ (.int .i64 g.mn) i3 rfl w) (run_equalIn_int w 9998 _ _ _ _ _ i3),
    stg_fields (by decide) (stg_part _ _ _ _ (.int .i64 f.mx) i3 rfl w) (stg_part _ _ _ _ (.int .i64 g.mx) i3 rfl w) (run_equalIn_int w 9998 _ _ _ _ _ i3)]
  simp only [Op.eqFields, Sem.run_pure, stg_if, Bool.and_true]
theorem run_ne_stg {ρ : Operand → Value} {o : Oper} {x y : Operand} {f g : Stg} {w : World} (ho : o.op = .binOp .neq 39 x y 39) (hx : ρ x = .agg #[.int .i64 f.g, .int .i64 f.mn, .int .i64 f.mx]) (hy : ρ y = .agg #[.int .i64 g.g, .int .i64 g.mn, .int .i64 g.mx]) :
    (execOp ρ o).run Try.prog w = .ok (.value (.bool (!decide (f = g)))) w := by
  unfold execOp
  rw [ho]
  have hm : Try.prog.eqGuardType Try.prog.depth 39 = false := by kernel_rfl
  simp only [hx, hy, Sem.run_bind, run_eqGuard_agg (hm := hm), run_neq_struct, eq_stgs f g w, Result.andThen_ok, Sem.run_pure, Sem.run_map]
theorem ints_below (A B : Option Addr) (n c m d : Nat) (a b : List Int) (w : World) (ha : Its .i64 w A n c a) (hb : Its .i64 w B m d b) :
    Calls Try.prog 12 #[.slice A n c, .slice B m d] w fun e w' => e = .returned (.bool (a == b)) ∧ Below w.heap.size w w' :=
  (ints_any A B n c m d a b w ha hb).mono fun e w' ⟨h1, j, h2⟩ => ⟨h1, by rw [h2]; exact ⟨rfl, rfl, rfl, Nat.le_refl _, fun _ _ => rfl⟩⟩
end Go.Proofs.Ytekmagpokcloaaa

/- The walk over the document's Same of plans. -/
namespace Go.Proofs.Ytekmagpokcloaaa
set_option maxRecDepth 100000
set_option linter.unusedVariables false
set_option linter.unusedSimpArgs false
open Go.RowKit

theorem same_no {p q : Pl} (h : p.m ≠ q.m ∨ p.s ≠ q.s ∨ p.am ≠ q.am ∨ p.rd ≠ q.rd ∨ p.hd ≠ q.hd) : samePl p q = false := by
  rw [← Bool.not_eq_true, same_iff]
  rintro ⟨h1, h2, h3, h4, h5⟩
  rcases h with h | h | h | h | h
  · exact h h1
  · exact h h2
  · exact h h3
  · exact h h4
  · exact h h5
theorem take_same {a b : List Stg} {j : Nat} (hj : j < a.length) (hk : j < b.length) (h : a.take j = b.take j) (he : a.getD j Stg.zero = b.getD j Stg.zero) : a.take (j + 1) = b.take (j + 1) := by
  rw [List.take_succ_eq_append_getElem hj, List.take_succ_eq_append_getElem hk, h]
  rw [List.getD_eq_getElem?_getD, List.getD_eq_getElem?_getD, List.getElem?_eq_getElem hj, List.getElem?_eq_getElem hk] at he
  simp only [Option.getD_some] at he
  rw [he]
end Go.Proofs.Ytekmagpokcloaaa

/- The walks over the document's Next and Cycle of a plan. -/
namespace Go.Proofs.Ytekmagpokcloaaa
set_option maxRecDepth 100000
set_option linter.unusedVariables false
set_option linter.unusedSimpArgs false
open Go.RowKit

theorem cyc_next {am rd : Int} {s : List Stg} {j : Nat} (o : Int) (hj : j < s.length) : cycF am rd (s.drop j) o = cycF am rd (s.drop (j + 1)) (o + (s.getD j Stg.zero).mn + am + rd) := by
  rw [List.drop_eq_getElem_cons hj, cycF]
  simp [List.getD_eq_getElem?_getD, hj]
end Go.Proofs.Ytekmagpokcloaaa

/- The walk over the document's Least of a plan. -/
namespace Go.Proofs.Ytekmagpokcloaaa
set_option maxRecDepth 100000
set_option linter.unusedVariables false
set_option linter.unusedSimpArgs false
open Go.RowKit

theorem least_next {g : Nat} {s : List Stg} {j : Nat} (o : Int) (hj : j < s.length) : leastF g (s.drop j) o = leastF g (s.drop (j + 1)) (if bitI (s.getD j Stg.zero).g g = true ∧ (o = 0 ∨ (s.getD j Stg.zero).mn < o) then (s.getD j Stg.zero).mn else o) := by
  rw [List.drop_eq_getElem_cons hj, leastF]
  simp [List.getD_eq_getElem?_getD, hj]
end Go.Proofs.Ytekmagpokcloaaa

/- The walk over the document's All of plans. -/
namespace Go.Proofs.Ytekmagpokcloaaa
set_option maxRecDepth 100000
set_option linter.unusedVariables false
set_option linter.unusedSimpArgs false
open Go.RowKit

theorem all_no {l : List Pl} {j : Nat} (hj : j < l.length) (h : fitP (l.getD j Pl.zero) = false ∨ (l.getD j Pl.zero).m.length ≠ (l.getD 0 Pl.zero).m.length) : allP l = false := by
  rw [← Bool.not_eq_true, all_iff]
  rintro ⟨-, hal⟩
  have h0 : l.headD Pl.zero = l.getD 0 Pl.zero := by cases l <;> rfl
  have := hal (l.getD j Pl.zero) (by rw [List.getD_eq_getElem?_getD, List.getElem?_eq_getElem hj]; exact List.getElem_mem hj)
  rw [h0] at this
  rcases h with h | h
  · rw [this.1] at h; cases h
  · exact h this.2
theorem all_yes {l : List Pl} (h : 1 ≤ l.length ∧ l.length ≤ 3) (ha : ∀ j, j < l.length → fitP (l.getD j Pl.zero) = true ∧ (l.getD j Pl.zero).m.length = (l.getD 0 Pl.zero).m.length) : allP l = true := by
  rw [all_iff]
  have h0 : l.headD Pl.zero = l.getD 0 Pl.zero := by cases l <;> rfl
  refine ⟨h, fun p hp => ?_⟩
  obtain ⟨j, hj, rfl⟩ := List.getElem_of_mem hp
  have := ha j hj
  rw [h0]
  rwa [show l[j] = l.getD j Pl.zero by rw [List.getD_eq_getElem?_getD, List.getElem?_eq_getElem hj]; rfl]
end Go.Proofs.Ytekmagpokcloaaa

/- Lamps, plainly: rows, their texts, what a plan shows, what clashes. -/
namespace Go.Proofs.Ytekmagpokcloaaa
set_option maxRecDepth 100000
set_option linter.unusedVariables false
set_option linter.unusedSimpArgs false
open Go.RowKit

/-- a lamp's letter, a letter's lamp -/
def letU (x : Int) : UInt8 := if x = 0 then 114 else if x = 1 then 97 else 103
def unU (b : UInt8) : Int := if b = 114 then 0 else if b = 97 then 1 else if b = 103 then 2 else -1
def okL (x : Int) : Prop := 0 ≤ x ∧ x < 3
instance (x : Int) : Decidable (okL x) := by unfold okL; infer_instance
def mayR (l : List Int) : Bool := decide ((1 ≤ l.length ∧ l.length ≤ 8) ∧ ∀ x ∈ l, okL x)
def txt (l : List Int) : ByteArray := ⟨(l.map letU).toArray⟩
def textR (l : List Int) : ByteArray := if mayR l = true then txt l else ⟨#[]⟩
def lampsOf (s : ByteArray) : List Int := s.data.toList.map unU
def readR (s : ByteArray) : List Int × Bool := if mayR (lampsOf s) = true then (lampsOf s, true) else ([], false)
def lampP (t : Int) (ph : Int) (g : Nat) : Int := if bitI t g = true ∧ ph = 0 then 2 else if bitI t g = true ∧ ph = 1 then 1 else 0
def showR (p : Pl) (st ph : Int) : List Int := if fitP p = true ∧ (0 ≤ st ∧ st < p.s.length) ∧ (0 ≤ ph ∧ ph < 3) then (List.range p.m.length).map (lampP (p.s.getD st.toNat Stg.zero).g ph) else []
def hitR (m l : List Int) (g h : Nat) : Prop := meetM m g h = true ∧ l.getD g 0 ≠ 0 ∧ l.getD h 0 ≠ 0
instance (m l : List Int) (g h : Nat) : Decidable (hitR m l g h) := by unfold hitR; infer_instance
def clashR (p : Pl) (l : List Int) : Bool := decide (fitP p = true ∧ mayR l = true ∧ l.length = p.m.length ∧ ∃ g, g < l.length ∧ ∃ h, h < l.length ∧ hitR p.m l g h)
theorem may_iff {l : List Int} : mayR l = true ↔ (1 ≤ l.length ∧ l.length ≤ 8) ∧ ∀ x ∈ l, 0 ≤ x ∧ x < 3 := decide_eq_true_iff
theorem clash_iff {p : Pl} {l : List Int} : clashR p l = true ↔ fitP p = true ∧ mayR l = true ∧ l.length = p.m.length ∧ ∃ g, g < l.length ∧ ∃ h, h < l.length ∧ hitR p.m l g h := decide_eq_true_iff
theorem un_let {x : Int} (h : 0 ≤ x ∧ x < 3) : unU (letU x) = x := by
  have : x = 0 ∨ x = 1 ∨ x = 2 := by omega
  rcases this with rfl | rfl | rfl <;> decide
theorem let_un {b : UInt8} (h : 0 ≤ unU b ∧ unU b < 3) : letU (unU b) = b := by
  unfold unU at h ⊢
  by_cases h1 : b = 114
  · subst h1; decide
  · by_cases h2 : b = 97
    · subst h2; decide
    · by_cases h3 : b = 103
      · subst h3; decide
      · rw [if_neg h1, if_neg h2, if_neg h3] at h
        omega
theorem map_let_un (l : List UInt8) : (∀ x ∈ l.map unU, 0 ≤ x ∧ x < 3) → (l.map unU).map letU = l := by
  intro h
  rw [List.map_map]
  conv => rhs; rw [← List.map_id l]
  exact List.map_congr_left fun b hb => let_un (h _ (List.mem_map_of_mem hb))
theorem map_un_let (l : List Int) (h : ∀ x ∈ l, 0 ≤ x ∧ x < 3) : (l.map letU).map unU = l := by
  rw [List.map_map]
  conv => rhs; rw [← List.map_id l]
  exact List.map_congr_left fun x hx => un_let (h x hx)
/-- a row comes back from its text, a text from its row -/
theorem lamps_txt {l : List Int} (h : ∀ x ∈ l, 0 ≤ x ∧ x < 3) : lampsOf (txt l) = l := map_un_let l h
theorem txt_lamps {s : ByteArray} (h : mayR (lampsOf s) = true) : txt (lampsOf s) = s := by
  have := map_let_un s.data.toList (may_iff.1 h).2
  show (⟨((s.data.toList.map unU).map letU).toArray⟩ : ByteArray) = s
  rw [this]
theorem txt_size (l : List Int) : (txt l).size = l.length := by simp [txt, ByteArray.size]
theorem lamps_length (s : ByteArray) : (lampsOf s).length = s.size := by rw [lampsOf, List.length_map, Array.length_toList]; rfl
end Go.Proofs.Ytekmagpokcloaaa

/- The walks over the document's May and Text of a row of lamps. -/
namespace Go.Proofs.Ytekmagpokcloaaa
set_option maxRecDepth 100000
set_option linter.unusedVariables false
set_option linter.unusedSimpArgs false
open Go.RowKit

theorem mem_getD {l : List Int} {x : Int} (h : x ∈ l) : ∃ j, j < l.length ∧ l.getD j 0 = x := by
  obtain ⟨j, hj, rfl⟩ := List.getElem_of_mem h
  exact ⟨j, hj, by simp [List.getD_eq_getElem?_getD, hj]⟩
theorem getD_mem {l : List Int} {j : Nat} (h : j < l.length) : l.getD j 0 ∈ l := by
  rw [List.getD_eq_getElem?_getD, List.getElem?_eq_getElem h]
  exact List.getElem_mem h
theorem row_bad {l : List Int} {j : Nat} (h : j < l.length) (hx : l.getD j 0 < 0 ∨ 3 ≤ l.getD j 0) : mayR l = false := by
  rw [← Bool.not_eq_true, may_iff]
  rintro ⟨-, ha⟩
  have := ha _ (getD_mem h)
  omega
set_option maxHeartbeats 2000000 in
theorem rlmay_any (A : Option Addr) (n c : Nat) (l : List Int) (w : World) (hb : Its .i64 w A n c l) : Calls Try.prog 15 #[.slice A n c] w fun e w' => e = .returned (.bool (mayR l)) ∧ w = w' := by
  have hsm := hb.small
  have HL := Lib.hid hb.len
  by_cases hn : n < 1 ∨ 8 < n
  · have HR := Lib.hid (show mayR l = false by rw [← Bool.not_eq_true, may_iff]; rintro ⟨h, -⟩; have := HL.out; omega)
    rcases hn with hn | hn
    all_goals
      clear hb
      go_enter Try.func15, Try.ntmps15
      go_wp2
      go_ret
      exact ⟨by rw [HR.out]; rfl, rfl⟩
  · have hn1 : ¬ ((n : Int) < 1) := by omega
    have hn8 : ¬ (8 < (n : Int)) := by omega
    obtain ⟨b, off, rfl, hc⟩ := hb.at_ (by omega)
    have HC := Lib.hid hc
    clear hb hc
    go_enter Try.func15, Try.ntmps15
    go_wp2
    go_loop [3] (fun i => ∃ j : Nat, j ≤ n ∧ i = .int .i64 j ∧ ∀ k, k < j → 0 ≤ l.getD k 0 ∧ l.getD k 0 < 3) (fun i => n - (intOf i).toNat)
    case atStart => exact ⟨0, by omega, rfl, fun k hk => by omega⟩
    case round =>
      obtain ⟨j, hj, rfl, hall⟩ := hrel
      have HA := Lib.hid hall
      clear hall
      by_cases hlt : j < n
      · have hlt2 : (j : Int) < n := by omega
        have q0 : 0 ≤ (j : Int) := by omega
        have z := HC.out j hlt
        obtain ⟨x, hx⟩ : ∃ x, l.getD j 0 = x := ⟨_, rfl⟩
        rw [hx] at z
        by_cases h1 : x < 0
        · have HR := Lib.hid (row_bad (by rw [HL.out]; exact hlt) (.inl (by rw [hx]; exact h1)))
          clear hx
          go_wp2
          go_ret
          exact ⟨by rw [HR.out]; rfl, rfl⟩
        · by_cases h2 : 3 ≤ x
          · have HR := Lib.hid (row_bad (by rw [HL.out]; exact hlt) (.inr (by rw [hx]; exact h2)))
            clear hx
            go_wp2
            go_ret
            exact ⟨by rw [HR.out]; rfl, rfl⟩
          · have HN := Lib.hid (show ∀ k, k < j + 1 → 0 ≤ l.getD k 0 ∧ l.getD k 0 < 3 from fun k hk => by
              by_cases e : k = j
              · subst e; rw [hx]; omega
              · exact HA.out k (by omega))
            clear hx
            go_wp2
            go_round
            case rel => exact ⟨j + 1, by omega, by go_num, HN.out⟩
            case measure => simp [intOf]; omega
      · obtain rfl : j = n := by omega
        have hge : ¬ ((j : Int) < j) := by omega
        have HR := Lib.hid (show mayR l = true by
          rw [may_iff]
          refine ⟨by have := HL.out; omega, fun x hx => ?_⟩
          obtain ⟨k, hk, rfl⟩ := mem_getD hx
          exact HA.out k (by rw [HL.out] at hk; exact hk))
        go_wp2
        go_ret
        exact ⟨by rw [HR.out]; rfl, rfl⟩
theorem txt_next {l : List Int} {j : Nat} (h : j < l.length) : txt (l.take (j + 1)) = ⟨((l.take j).map letU ++ [letU (l.getD j 0)]).toArray⟩ := by
  rw [txt, List.take_succ_eq_append_getElem h, List.map_append]
  simp [List.getD_eq_getElem?_getD, h]
theorem add_one {P : Program} (l : List Int) (b : UInt8) (hl : l.length ≤ 8) (w : World) : (Op.stringOp .add (txt l) ⟨#[b]⟩).run P w = .ok (.string ⟨(l.map letU ++ [b]).toArray⟩) w :=
  run_string_add_lists w (l.map letU) [b] (by simp; omega) (by simp)
set_option maxHeartbeats 2000000 in
theorem rltext_any (A : Option Addr) (n c : Nat) (l : List Int) (w : World) (hb : Its .i64 w A n c l) : Calls Try.prog 19 #[.slice A n c] w fun e w' => e = .returned (.string (textR l)) ∧ w = w' := by
  have hsm := hb.small
  have HL := Lib.hid hb.len
  have HM := Lib.hid (rlmay_any A n c l w hb)
  cases hm : mayR l with
  | false =>
    rw [hm] at HM
    have HR := Lib.hid (show textR l = ⟨#[]⟩ by rw [textR, hm]; rfl)
    clear hm hb
    go_enter Try.func19, Try.ntmps19
    go_wp2_with (go_at_call 15; (with_reducible refine (HM.out).mono ?_); rintro e w1 ⟨rfl, rfl⟩)
    go_loop [4, 5] (fun s i => s = .string ⟨#[]⟩ ∧ i = .int .i64 0) (fun _ _ => 0)
    case atStart => exact ⟨rfl, rfl⟩
    case round =>
      obtain ⟨rfl, rfl⟩ := hrel
      go_wp2
      all_goals
        go_ret
        exact ⟨by rw [HR.out]; rfl, rfl⟩
  | true =>
    rw [hm] at HM
    obtain ⟨⟨m1, m8⟩, hall⟩ := may_iff.1 hm
    have HR := Lib.hid (show textR l = txt l by rw [textR, if_pos hm])
    have HA := Lib.hid hall
    rw [hb.len] at m1 m8
    obtain ⟨b, off, rfl, hc⟩ := hb.at_ (by omega)
    have HC := Lib.hid hc
    clear hm hb hc hall
    go_enter Try.func19, Try.ntmps19
    go_wp2_with (go_at_call 15; (with_reducible refine (HM.out).mono ?_); rintro e w1 ⟨rfl, rfl⟩)
    go_loop [4, 5] (fun s i => ∃ j : Nat, j ≤ n ∧ i = .int .i64 j ∧ s = .string (txt (l.take j))) (fun _ i => n - (intOf i).toNat)
    case atStart => exact ⟨0, by omega, rfl, rfl⟩
    case round =>
      obtain ⟨j, hj, rfl, rfl⟩ := hrel
      by_cases hlt : j < n
      · have hlt2 : (j : Int) < n := by omega
        have q0 : 0 ≤ (j : Int) := by omega
        have hjl : j < l.length := by rw [HL.out]; exact hlt
        have z := HC.out j hlt
        have ho := HA.out _ (getD_mem hjl)
        have hnx := txt_next hjl
        have hadd := fun b w => add_one (P := Try.prog) (l.take j) b (by rw [List.length_take]; omega) w
        obtain ⟨x, hx⟩ : ∃ x, l.getD j 0 = x := ⟨_, rfl⟩
        rw [hx] at z ho hnx
        obtain ⟨S, hS⟩ : ∃ S, txt (l.take j) = S := ⟨_, rfl⟩
        obtain ⟨S2, hS2⟩ : ∃ S, txt (l.take (j + 1)) = S := ⟨_, rfl⟩
        rw [hS] at hadd ⊢
        rw [hS2] at hnx
        have hx3 : x = 0 ∨ x = 1 ∨ x = 2 := by omega
        have had := hadd (letU x)
        rw [← hnx] at had
        have HS2 := Lib.hid hS2
        clear hx ho hnx hadd hS hS2 hjl
        rcases hx3 with rfl | rfl | rfl
        · have had2 : ∀ w, (Op.stringOp .add S ⟨#[114]⟩).run Try.prog w = .ok (.string S2) w := had
          clear had
          go_wp2
          go_round
          case rel => exact ⟨j + 1, by omega, by go_num, by rw [HS2.out]⟩
          case measure => simp [intOf]; omega
        · have had2 : ∀ w, (Op.stringOp .add S ⟨#[97]⟩).run Try.prog w = .ok (.string S2) w := had
          clear had
          go_wp2
          go_round
          case rel => exact ⟨j + 1, by omega, by go_num, by rw [HS2.out]⟩
          case measure => simp [intOf]; omega
        · have had2 : ∀ w, (Op.stringOp .add S ⟨#[103]⟩).run Try.prog w = .ok (.string S2) w := had
          clear had
          go_wp2
          go_round
          case rel => exact ⟨j + 1, by omega, by go_num, by rw [HS2.out]⟩
          case measure => simp [intOf]; omega
      · obtain rfl : j = n := by omega
        have hge : ¬ ((j : Int) < j) := by omega
        have HT := Lib.hid (show l.take j = l from List.take_of_length_le (by rw [HL.out]; exact Nat.le_refl _))
        go_wp2
        go_ret
        exact ⟨by rw [HR.out, HT.out]; rfl, rfl⟩
end Go.Proofs.Ytekmagpokcloaaa

/- The walk over the document's Read of a text. -/
namespace Go.Proofs.Ytekmagpokcloaaa
set_option maxRecDepth 100000
set_option linter.unusedVariables false
set_option linter.unusedSimpArgs false
open Go.RowKit

/-- gives a list of numbers, and whether it is one -/
def GivesLB (r : List Int × Bool) (w : World) (e : Ending) (w' : World) : Prop := ∃ A n c, e = .returned (.tuple #[.slice A n c, .bool r.2]) ∧ Its .i64 w' A n c r.1 ∧ Below w.heap.size w w'
def byteI (s : ByteArray) (i : Nat) : UInt8 := s.data.toList.getD i 0
theorem lamps_next {s : ByteArray} {i : Nat} (h : i < s.size) : (lampsOf s).take (i + 1) = (lampsOf s).take i ++ [unU (byteI s i)] := by
  have hl : i < (lampsOf s).length := by rw [lamps_length]; exact h
  rw [List.take_succ_eq_append_getElem hl]
  congr 2
  have hd : i < s.data.toList.length := by rw [Array.length_toList]; exact h
  simp only [lampsOf, List.getElem_map, byteI, List.getD_eq_getElem?_getD, List.getElem?_eq_getElem hd, Option.getD_some]
theorem byte_at {s : ByteArray} {i : Nat} (h : i < s.size) : s[i]'h = byteI s i := by
  have hd : i < s.data.toList.length := by rw [Array.length_toList]; exact h
  rw [byteI, List.getD_eq_getElem?_getD, List.getElem?_eq_getElem hd]
  rfl
/-- what of nine letters is told is told of all -/
theorem read_nine (s : ByteArray) : textR ((lampsOf s).take 9) = (if mayR (lampsOf s) = true then s else ⟨#[]⟩) := by
  by_cases h : (lampsOf s).length ≤ 9
  · rw [List.take_of_length_le h]
    unfold textR
    split
    · rename_i hm; exact txt_lamps hm
    · rfl
  · have h1 : mayR ((lampsOf s).take 9) = false := by
      rw [← Bool.not_eq_true, may_iff]
      rintro ⟨⟨-, h8⟩, -⟩
      rw [List.length_take] at h8
      omega
    have h2 : mayR (lampsOf s) = false := by
      rw [← Bool.not_eq_true, may_iff]
      rintro ⟨⟨-, h8⟩, -⟩
      omega
    rw [textR, h1, h2]
    rfl
theorem size_zero {s : ByteArray} (h : s.size = 0) : s = ⟨#[]⟩ := by
  obtain ⟨d⟩ := s
  have : d = #[] := Array.eq_empty_of_size_eq_zero h
  rw [this]
theorem bytes_eq (a b : ByteArray) : (a.toList == b.toList) = decide (a = b) := by
  have e : ∀ b : ByteArray, b.toList = b.data.toList := fun b => by
    rcases b with ⟨⟨d⟩⟩
    simp
  rw [e, e, Bool.eq_iff_iff, beq_iff_eq, decide_eq_true_iff]
  constructor
  · intro h
    obtain ⟨⟨x⟩⟩ := a
    obtain ⟨⟨y⟩⟩ := b
    simp only at h
    rw [h]
  · rintro rfl; rfl
theorem un_nat (b : UInt8) : unU b = if b.toNat = 114 then 0 else if b.toNat = 97 then 1 else if b.toNat = 103 then 2 else -1 := by
  have e : ∀ c : UInt8, (b = c) ↔ b.toNat = c.toNat := fun c => ⟨fun h => by rw [h], fun h => UInt8.toNat_inj.1 h⟩
  unfold unU
  simp only [e]
  rfl
theorem not_empty {s : ByteArray} (h : ¬ s.size = 0) : s.toList.isEmpty = false := by
  have e : s.toList = s.data.toList := by rcases s with ⟨⟨d⟩⟩; simp
  rw [e]
  cases hd : s.data.toList with
  | nil => exact (h (by have := congrArg List.length hd; rw [Array.length_toList] at this; exact this)).elim
  | cons x l => rfl
theorem empty_ne {s : ByteArray} (h : ¬ s.size = 0) : (({ data := #[] } : ByteArray).toList == s.toList) = false := by
  rw [bytes_eq, decide_eq_false_iff_not]
  rintro rfl
  exact h rfl
set_option maxHeartbeats 4000000 in
theorem rlread_any (s : ByteArray) (w : World) : Calls Try.prog 11 #[.string s] w (GivesLB (readR s) w) := by
  go_enter Try.func11, Try.ntmps11
  go_wp2
  go_loopw [4, 5] (fun v i wr => ∃ j : Nat, j ≤ 9 ∧ j ≤ s.size ∧ i = .int .i64 j ∧ OwnI .i64 3 wr w.heap.size v ((lampsOf s).take j) ∧ Below w.heap.size w wr) (fun _ i _ => 9 - (intOf i).toNat)
  case atStart => exact ⟨0, by omega, by omega, rfl, OwnI.nil _ _ _ _, Below.refl _ _⟩
  case round =>
    obtain ⟨j, hj, hjs, rfl, hown, hB⟩ := hrel
    have HO := Lib.hid hown
    have HB := Lib.hid hB
    clear hown hB
    by_cases hlt : j < s.size
    · have hlt2 : (j : Int) < (s.size : Int) := by omega
      have q0 : 0 ≤ (j : Int) := by omega
      by_cases h9 : j < 9
      · have h92 : (j : Int) < 9 := by omega
        have hnx := lamps_next hlt
        have hby := byte_at hlt
        obtain ⟨b, hb⟩ : ∃ b, byteI s j = b := ⟨_, rfl⟩
        rw [hb] at hnx hby
        obtain ⟨L, hL⟩ : ∃ L, (lampsOf s).take j = L := ⟨_, rfl⟩
        have hLl : L.length ≤ 9 := by rw [← hL, List.length_take]; omega
        rw [hL] at hnx HO
        obtain ⟨N, hN⟩ : ∃ N, b.toNat = N := ⟨_, rfl⟩
        have hby2 : (s[j]'hlt).toNat = N := by rw [hby, hN]
        have hun := un_nat b
        rw [hN] at hun
        by_cases h1 : N = 114
        · subst h1
          have HN := Lib.hid (show L ++ [(0 : Int)] = (lampsOf s).take (j + 1) by rw [hnx, hun]; rfl)
          clear hnx hby hb hN hun hL
          go_wp2_with (first
            | (at_builtin
               refine wpList_append_i rfl 22 3 .i64 8 _ _ rfl Try.underlying22 (by kernel_rfl) (by omega) w.heap.size u4 L rfl (HO.out.more _) _ 1 1 [0] rfl (one_its .i64 3 _ (0)) (by omega) (Nat.le_trans HB.out.size (size_le_alloc _ _)) ?_
               intro v5 w6 hown5 hg5
               have hB5 : Below w.heap.size w w6 := (HB.out.alloc HB.out.size _).grown hg5 (Nat.le_trans HB.out.size (size_le_alloc _ _)) (fun k hk => (HO.out.size k hk).1)
               clear hg5))
          go_roundw
          case rel => exact ⟨j + 1, by omega, by omega, by go_num, HN.out ▸ hown5, hB5⟩
          case measure => simp [intOf]; omega
        · have e1 : ((N : Int) == 114) = false := by rw [beq_eq_false_iff_ne]; omega
          rw [if_neg h1] at hun
          by_cases h2 : N = 97
          · subst h2
            have HN := Lib.hid (show L ++ [(1 : Int)] = (lampsOf s).take (j + 1) by rw [hnx, hun]; rfl)
            clear hnx hby hb hN hun hL
            go_wp2_with (first
              | (at_builtin
                 refine wpList_append_i rfl 22 3 .i64 8 _ _ rfl Try.underlying22 (by kernel_rfl) (by omega) w.heap.size u4 L rfl (HO.out.more _) _ 1 1 [1] rfl (one_its .i64 3 _ (1)) (by omega) (Nat.le_trans HB.out.size (size_le_alloc _ _)) ?_
                 intro v5 w6 hown5 hg5
                 have hB5 : Below w.heap.size w w6 := (HB.out.alloc HB.out.size _).grown hg5 (Nat.le_trans HB.out.size (size_le_alloc _ _)) (fun k hk => (HO.out.size k hk).1)
                 clear hg5))
            go_roundw
            case rel => exact ⟨j + 1, by omega, by omega, by go_num, HN.out ▸ hown5, hB5⟩
            case measure => simp [intOf]; omega
          · have e2 : ((N : Int) == 97) = false := by rw [beq_eq_false_iff_ne]; omega
            rw [if_neg h2] at hun
            by_cases h3 : N = 103
            · subst h3
              have HN := Lib.hid (show L ++ [(2 : Int)] = (lampsOf s).take (j + 1) by rw [hnx, hun]; rfl)
              clear hnx hby hb hN hun hL
              go_wp2_with (first
                | (at_builtin
                   refine wpList_append_i rfl 22 3 .i64 8 _ _ rfl Try.underlying22 (by kernel_rfl) (by omega) w.heap.size u4 L rfl (HO.out.more _) _ 1 1 [2] rfl (one_its .i64 3 _ (2)) (by omega) (Nat.le_trans HB.out.size (size_le_alloc _ _)) ?_
                   intro v5 w6 hown5 hg5
                   have hB5 : Below w.heap.size w w6 := (HB.out.alloc HB.out.size _).grown hg5 (Nat.le_trans HB.out.size (size_le_alloc _ _)) (fun k hk => (HO.out.size k hk).1)
                   clear hg5))
              go_roundw
              case rel => exact ⟨j + 1, by omega, by omega, by go_num, HN.out ▸ hown5, hB5⟩
              case measure => simp [intOf]; omega
            · have e3 : ((N : Int) == 103) = false := by rw [beq_eq_false_iff_ne]; omega
              rw [if_neg h3] at hun
              have HN := Lib.hid (show L ++ [(-1 : Int)] = (lampsOf s).take (j + 1) by rw [hnx, hun])
              clear hnx hby hb hN hun hL
              go_wp2_with (first
                | (at_builtin
                   refine wpList_append_i rfl 22 3 .i64 8 _ _ rfl Try.underlying22 (by kernel_rfl) (by omega) w.heap.size u4 L rfl (HO.out.more _) _ 1 1 [-1] rfl (one_its .i64 3 _ (-1)) (by omega) (Nat.le_trans HB.out.size (size_le_alloc _ _)) ?_
                   intro v5 w6 hown5 hg5
                   have hB5 : Below w.heap.size w w6 := (HB.out.alloc HB.out.size _).grown hg5 (Nat.le_trans HB.out.size (size_le_alloc _ _)) (fun k hk => (HO.out.size k hk).1)
                   clear hg5))
              go_roundw
              case rel => exact ⟨j + 1, by omega, by omega, by go_num, HN.out ▸ hown5, hB5⟩
              case measure => simp [intOf]; omega
      · have h92 : ¬ ((j : Int) < 9) := by omega
        obtain rfl : j = 9 := by omega
        obtain ⟨A, n, c, rfl, hits⟩ := HO.out.its
        have HIT := Lib.hid hits
        have HTX := Lib.hid (rltext_any A n c _ wr hits)
        rw [read_nine] at HTX
        clear hits
        by_cases hz : s.size = 0
        · obtain rfl := size_zero hz
          have HR := Lib.hid (show readR ⟨#[]⟩ = ([], false) by decide +kernel)
          clear HTX
          go_wp2
          go_ret2
          exact ⟨none, 0, 0, by rw [HR.out]; rfl, by rw [HR.out]; exact Its.nil _ _, HB.out⟩
        · have hne : s.toList.isEmpty = false := not_empty hz
          cases hm : mayR (lampsOf s)
          · rw [hm] at HTX
            simp only [Bool.false_eq_true, if_false] at HTX
            have HR := Lib.hid (show readR s = ([], false) by rw [readR, hm]; rfl)
            have hcmp : (({ data := #[] } : ByteArray).toList == s.toList) = false := empty_ne hz
            clear hm
            go_wp2_with (go_at_call 19; (with_reducible refine (HTX.out).mono ?_); rintro e w1 ⟨rfl, rfl⟩)
            go_ret2
            exact ⟨none, 0, 0, by rw [HR.out]; rfl, by rw [HR.out]; exact Its.nil _ _, HB.out⟩
          · rw [hm] at HTX
            simp only [if_true] at HTX
            have HR := Lib.hid (show readR s = (lampsOf s, true) by rw [readR, hm]; rfl)
            have hcmp : (s.toList == s.toList) = true := by simp
            have HT9 := Lib.hid (show (lampsOf s).take 9 = lampsOf s from List.take_of_length_le (by have := (may_iff.1 hm).1.2; omega))
            clear hm
            go_wp2_with (go_at_call 19; (with_reducible refine (HTX.out).mono ?_); rintro e w1 ⟨rfl, rfl⟩)
            go_ret2
            exact ⟨_, _, _, by rw [HR.out]; rfl, by rw [HR.out, ← HT9.out]; exact HIT.out, HB.out⟩
    · have hge : ¬ ((j : Int) < (s.size : Int)) := by omega
      obtain rfl : j = s.size := by omega
      have ht9 : (lampsOf s).take s.size = (lampsOf s).take 9 := by rw [List.take_of_length_le (by rw [lamps_length]; exact Nat.le_refl _), List.take_of_length_le (by rw [lamps_length]; exact hj)]
      obtain ⟨A, n, c, rfl, hits⟩ := HO.out.its
      rw [ht9] at hits
      have HIT := Lib.hid hits
      have HTX := Lib.hid (rltext_any A n c _ wr hits)
      rw [read_nine] at HTX
      clear hits
      by_cases hz : s.size = 0
      · obtain rfl := size_zero hz
        have HR := Lib.hid (show readR ⟨#[]⟩ = ([], false) by decide +kernel)
        clear HTX
        go_wp2
        go_ret2
        exact ⟨none, 0, 0, by rw [HR.out]; rfl, by rw [HR.out]; exact Its.nil _ _, HB.out⟩
      · have hne : s.toList.isEmpty = false := not_empty hz
        cases hm : mayR (lampsOf s)
        · rw [hm] at HTX
          simp only [Bool.false_eq_true, if_false] at HTX
          have HR := Lib.hid (show readR s = ([], false) by rw [readR, hm]; rfl)
          have hcmp : (({ data := #[] } : ByteArray).toList == s.toList) = false := empty_ne hz
          clear hm
          go_wp2_with (go_at_call 19; (with_reducible refine (HTX.out).mono ?_); rintro e w1 ⟨rfl, rfl⟩)
          go_ret2
          exact ⟨none, 0, 0, by rw [HR.out]; rfl, by rw [HR.out]; exact Its.nil _ _, HB.out⟩
        · rw [hm] at HTX
          simp only [if_true] at HTX
          have HR := Lib.hid (show readR s = (lampsOf s, true) by rw [readR, hm]; rfl)
          have hcmp : (s.toList == s.toList) = true := by simp
          have HT9 := Lib.hid (show (lampsOf s).take 9 = lampsOf s from List.take_of_length_le (by have := (may_iff.1 hm).1.2; omega))
          clear hm
          go_wp2_with (go_at_call 19; (with_reducible refine (HTX.out).mono ?_); rintro e w1 ⟨rfl, rfl⟩)
          go_ret2
          exact ⟨_, _, _, by rw [HR.out]; rfl, by rw [HR.out, ← HT9.out]; exact HIT.out, HB.out⟩
end Go.Proofs.Ytekmagpokcloaaa

/- The walks over the document's List and Of of groups, and Sets. -/
namespace Go.Proofs.Ytekmagpokcloaaa
set_option maxRecDepth 100000
set_option linter.unusedVariables false
set_option linter.unusedSimpArgs false
open Go.RowKit

def listTo (t k : Nat) : List Int := ((List.range k).filter fun j => t.testBit j).map Int.ofNat
theorem list_next (t k : Nat) : listTo t (k + 1) = listTo t k ++ (if t.testBit k = true then [(k : Int)] else []) := by
  rw [listTo, List.range_succ, List.filter_append, List.map_append]
  congr 1
  by_cases h : t.testBit k = true
  · rw [if_pos h]; simp [h]
  · rw [if_neg h]; simp [h]
theorem list_len (t k : Nat) : (listTo t k).length ≤ k := by
  rw [listTo, List.length_map]
  exact Nat.le_trans (List.length_filter_le _ _) (by rw [List.length_range]; exact Nat.le_refl _)
theorem list_all {t : Nat} (h : t < 256) : listTo t 8 = listM (t : Int) := by
  rw [listM, if_pos (by omega), listTo]
  congr 1
  refine List.filter_congr fun j _ => ?_
  rw [bit_nat]
/-- gives a list of numbers -/
def GivesL (L : List Int) (w : World) (e : Ending) (w' : World) : Prop := ∃ A n c, e = .returned (.slice A n c) ∧ Its .i64 w' A n c L ∧ Below w.heap.size w w'
/-- gives a list of numbers in memory of its own -/
def GivesO (L : List Int) (w : World) (e : Ending) (w' : World) : Prop := ∃ A n c, e = .returned (.slice A n c) ∧ OwnI .i64 3 w' w.heap.size (.slice A n c) L ∧ Below w.heap.size w w'
theorem GivesO.gives {L : List Int} {w : World} {e : Ending} {w' : World} (h : GivesO L w e w') : GivesL L w e w' := by
  obtain ⟨A, n, c, rfl, ho, hb⟩ := h
  obtain ⟨B, k, d, e, hi⟩ := ho.its
  rw [e]
  exact ⟨B, k, d, rfl, hi, hb⟩
theorem of_next {l : List Int} {j : Nat} {x o : Int} (hj : j < l.length) (hx : l.getD j 0 = x) : ofF (l.drop j) o = if x < 0 ∨ 7 < x then -1 else if bitI o x.toNat = true then -1 else ofF (l.drop (j + 1)) (o + 2 ^ x.toNat) := by
  rw [List.drop_eq_getElem_cons hj, ofF]
  have e : l[j] = x := by rw [← hx]; simp [List.getD_eq_getElem?_getD, hj]
  rw [e]
end Go.Proofs.Ytekmagpokcloaaa
