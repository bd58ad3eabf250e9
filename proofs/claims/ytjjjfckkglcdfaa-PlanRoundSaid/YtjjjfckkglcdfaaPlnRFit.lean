/- The walk over the document's Fit of a plan. -/
import Derived.Test.YtjjjfckkglcdfaaPlnRStage
import Derived.Test.YtjjjfckkglcdfaaBasTakeS
namespace Go.Proofs.Ytjjjfckkglcdfaa
set_option maxRecDepth 100000
set_option linter.unusedVariables false
set_option linter.unusedSimpArgs false
open Go.RowKit

theorem not_fit {p : Pl} (h : ¬ Fits p) : fitP p = false := by
  rw [← Bool.not_eq_true, fit_iff]
  exact h
theorem fit_stage {p : Pl} {j : Nat} (hj : j < p.s.length) (h : stageB p.m (p.s.getD j Stg.zero) = false) : fitP p = false := not_fit fun hf => by
  have h1 : stageB p.m (p.s.getD j Stg.zero) = true := stage_iff.2 (hf.stage _ (by rw [List.getD_eq_getElem?_getD, List.getElem?_eq_getElem hj]; exact List.getElem_mem hj))
  rw [h] at h1
  cases h1
def someTo (s : List Stg) (i k : Nat) : Bool := someB (s.take k) i
theorem some_zero (s : List Stg) (i : Nat) : someTo s i 0 = false := rfl
theorem some_next {s : List Stg} {k : Nat} (i : Nat) (hk : k < s.length) : someTo s i (k + 1) = (someTo s i k || bitI (s.getD k Stg.zero).g i) := by
  rw [someTo, List.take_succ_eq_append_getElem hk, someB, List.any_append]
  simp [List.getD_eq_getElem?_getD, hk, someTo, someB]
theorem some_all (s : List Stg) (i : Nat) : someTo s i s.length = someB s i := by rw [someTo, List.take_length]
theorem fit_some {p : Pl} {i : Nat} (hi : i < p.m.length) (h : someB p.s i = false) : fitP p = false := not_fit fun hf => by
  have h1 := some_iff.2 (hf.some i hi)
  rw [h] at h1
  cases h1
theorem fit_rest {p : Pl} (h1 : mayM p.m = true) (h2 : 2 ≤ p.s.length) (h6 : p.s.length ≤ 6) (hs : ∀ j, j < p.s.length → stageB p.m (p.s.getD j Stg.zero) = true) (hg : ∀ i, i < p.m.length → someB p.s i = true) : fitP p = spanB p := by
  unfold fitP
  have ha : p.s.all (stageB p.m) = true := List.all_eq_true.2 fun x hx => by
    obtain ⟨j, hj, rfl⟩ := List.getElem_of_mem hx
    have := hs j hj
    rwa [List.getD_eq_getElem?_getD, List.getElem?_eq_getElem hj] at this
  have hb : (List.range p.m.length).all (someB p.s) = true := List.all_eq_true.2 fun i hi => hg i (List.mem_range.1 hi)
  rw [h1, ha, hb, decide_eq_true ⟨h2, h6⟩]
  rfl
set_option maxHeartbeats 8000000 in
theorem rfit_any (p : Pl) (w : World) (hp : PlIn w p) : Calls Try.prog 12 #[plV p] w fun e w' => e = .returned (.bool (fitP p)) ∧ Below w.heap.size w w' := by
  have hsm := hp.m.small
  have hsk := hp.s.small
  have hML := hp.m.len
  have hSL := hp.s.len
  simp only [plV]
  obtain ⟨W0, hW0⟩ : ∃ W0, w.alloc (.cells #[.slice p.A p.n p.c, .slice p.B p.k p.d, .int .i64 p.am, .int .i64 p.rd, .int .i64 p.hd] 25) = W0 := ⟨_, rfl⟩
  have hB0 : Below w.heap.size w W0 := by rw [← hW0]; exact one_alloc w _
  have hp0 : PlIn W0 p := hp.below hB0
  have hbx : BoxP W0 w.heap.size p := by rw [← hW0]; exact BoxP.new w p
  have HW := Lib.hid hW0
  have HB0 := Lib.hid hB0
  have HMY := Lib.hid (rgmay_any p.A p.n p.c p.m W0 hp0.m)
  have HBC := Lib.hid (show ∀ X, Below W0.heap.size W0 X → X.cell? ⟨w.heap.size, 0, none⟩ = some (.slice p.A p.n p.c) ∧ X.cell? ⟨w.heap.size, 1, none⟩ = some (.slice p.B p.k p.d) ∧ X.cell? ⟨w.heap.size, 2, none⟩ = some (.int .i64 p.am) ∧ X.cell? ⟨w.heap.size, 3, none⟩ = some (.int .i64 p.rd) ∧ X.cell? ⟨w.heap.size, 4, none⟩ = some (.int .i64 p.hd) from fun X hX => (hbx.below hX).cells)
  have HPI := Lib.hid (show ∀ X, Below W0.heap.size W0 X → PlIn X p from fun X hX => hp0.below hX)
  clear hW0 hB0 hbx hp
  cases hm : mayM p.m with
  | false =>
    rw [hm] at HMY
    have HR := Lib.hid (not_fit (p := p) fun hf => by rw [hf.may] at hm; cases hm)
    clear hm hp0
    go_enter Try.func12, Try.ntmps12
    go_wp2_with (go_at_call 27; rw [HW.out]; (with_reducible refine (HMY.out).mono ?_); rintro e w1 ⟨rfl, hb1⟩; have HB1 := Lib.hid (HB0.out.trans (hb1.mono HB0.out.size)); clear hb1)
    go_ret
    exact ⟨by rw [HR.out]; rfl, HB1.out⟩
  | true =>
    rw [hm] at HMY
    by_cases hlen : p.k < 2 ∨ 6 < p.k
    · have HR := Lib.hid (not_fit (p := p) fun hf => by have := hf.two; have := hf.six; omega)
      rcases hlen with hlen | hlen
      all_goals
        clear hm hp0
        go_enter Try.func12, Try.ntmps12
        go_wp2_with (go_at_call 27; rw [HW.out]; (with_reducible refine (HMY.out).mono ?_); rintro e w1 ⟨rfl, hb1⟩; obtain ⟨a0, a1, a2, a3, a4⟩ := HBC.out w1 hb1; have HB1 := Lib.hid (HB0.out.trans (hb1.mono HB0.out.size)); clear hb1)
        go_ret
        exact ⟨by rw [HR.out]; rfl, HB1.out⟩
    · obtain ⟨b, off, -, hA, -⟩ := hp0.s.at_ 0 (by omega)
      obtain ⟨A, n, c, m, B, k, d, s, am, rd, hd⟩ := p
      simp only at *
      subst hA
      have hk2 : ¬ ((k : Int) < 2) := by omega
      have hk6 : ¬ (6 < (k : Int)) := by omega
      obtain ⟨hn8, hrow⟩ := may_rows hML hm
      have HSC := Lib.hid (show ∀ j, j < k → ∀ X, Below W0.heap.size W0 X → X.cell? ⟨b, off + j * 3, none⟩ = some (.int .i64 (s.getD j Stg.zero).g) ∧ X.cell? ⟨b, off + j * 3 + 1, none⟩ = some (.int .i64 (s.getD j Stg.zero).mn) ∧ X.cell? ⟨b, off + j * 3 + 2, none⟩ = some (.int .i64 (s.getD j Stg.zero).mx) from fun j hj X hX => by
        obtain ⟨b', off', x, hA', hx, -, -, z0, z1, z2⟩ := (hp0.s.below hX).at_ j hj
        cases hA'
        rw [hx]
        exact ⟨z0, z1, z2⟩)
      have HSL := Lib.hid hSL
      have HML := Lib.hid hML
      have HM := Lib.hid hm
      have HRW := Lib.hid hrow
      have hl2 : 2 ≤ k ∧ k ≤ 6 := by omega
      clear hm hp0 hML hSL hlen hrow
      go_enter Try.func12, Try.ntmps12
      go_wp2_with (go_at_call 27; rw [HW.out]; (with_reducible refine (HMY.out).mono ?_); rintro e w1 ⟨rfl, hb1⟩; obtain ⟨a0, a1, a2, a3, a4⟩ := HBC.out w1 hb1; have HB1 := Lib.hid hb1; clear hb1)
      clear a0 a1 a2 a3 a4
      go_loopw [4] (fun v wr => ∃ j : Nat, j ≤ k ∧ v = .int .i64 j ∧ (∀ i, i < j → stageB m (s.getD i Stg.zero) = true) ∧ Below W0.heap.size W0 wr) (fun v _ => k - (intOf v).toNat)
      case atStart => exact ⟨0, by omega, rfl, fun i hi => by omega, HB1.out⟩
      case round =>
        obtain ⟨j, hj, rfl, hall, hbw⟩ := hrel
        have HBW := Lib.hid hbw
        have HAL := Lib.hid hall
        obtain ⟨a0, a1, a2, a3, a4⟩ := HBC.out wr hbw
        clear hall hbw
        by_cases hlt : j < k
        · have hlt2 : (j : Int) < k := by omega
          have q0 : 0 ≤ (j : Int) := by omega
          have HF0 := HSC.out j hlt
          obtain ⟨x, hx⟩ : ∃ x, s.getD j Stg.zero = x := ⟨_, rfl⟩
          simp only [hx] at HF0
          have HF := Lib.hid (show ∀ X, Below wr.heap.size wr X → X.cell? ⟨w.heap.size, 0, none⟩ = some (.slice A n c) ∧ X.cell? ⟨w.heap.size, 1, none⟩ = some (.slice (some ⟨b, off, none⟩) k d) ∧ X.cell? ⟨w.heap.size, 2, none⟩ = some (.int .i64 am) ∧ X.cell? ⟨w.heap.size, 3, none⟩ = some (.int .i64 rd) ∧ X.cell? ⟨w.heap.size, 4, none⟩ = some (.int .i64 hd) ∧
              X.cell? ⟨b, off + j * 3, none⟩ = some (.int .i64 x.g) ∧ X.cell? ⟨b, off + j * 3 + 1, none⟩ = some (.int .i64 x.mn) ∧ X.cell? ⟨b, off + j * 3 + 2, none⟩ = some (.int .i64 x.mx) from fun X hX => by
            have hX0 := HBW.out.trans (hX.mono HBW.out.size)
            obtain ⟨a0, a1, a2, a3, a4⟩ := HBC.out X hX0
            exact ⟨a0, a1, a2, a3, a4, HF0 X hX0⟩)
          have HSB := Lib.hid (show ∀ X, Below wr.heap.size wr X → Calls Try.prog 28 #[.agg #[.slice A n c, .slice (some ⟨b, off, none⟩) k d, .int .i64 am, .int .i64 rd, .int .i64 hd], .agg #[.int .i64 x.g, .int .i64 x.mn, .int .i64 x.mx]] X fun e w' => e = .returned (.bool (stageB m x)) ∧ Below X.heap.size X w' from fun X hX => rstage_any _ x X (HPI.out X (HBW.out.trans (hX.mono HBW.out.size))))
          clear HF0
          cases hs : stageB m x
          · rw [hs] at HSB
            have HR := Lib.hid (fit_stage (p := ⟨A, n, c, m, some ⟨b, off, none⟩, k, d, s, am, rd, hd⟩) (j := j) (by simp only; rw [HSL.out]; exact hlt) (by simp only; rw [hx]; exact hs))
            clear hx hs
            go_wp2
            clear a0 a1 a2 a3 a4
            have hSd : Below wr.heap.size wr wr.drew := (Below.refl _ wr).drew
            refine wp_region_held_drew (S := fun X => Below wr.heap.size wr X) (by kernel_rfl) hSd (fun hHeld => ?_)
            refine tkS 0 (.agg #[.slice A n c, .slice (some ⟨b, off, none⟩) k d, .int .i64 am, .int .i64 rd, .int .i64 hd]) hHeld (fun w hq => ?_) ?_
            · obtain ⟨a0, a1, a2, a3, a4, z0, z1, z2⟩ := HF.out w hq
              go_simp
            simp only [PT]
            refine tk 1 (.pointer (some ⟨w.heap.size, 1, none⟩)) hHeld (fun w => ?_) ?_
            · go_simp
            simp only [PT]
            refine tkS 2 (.slice (some ⟨b, off, none⟩) k d) hHeld (fun w hq => ?_) ?_
            · obtain ⟨a0, a1, a2, a3, a4, z0, z1, z2⟩ := HF.out w hq
              go_simp
            simp only [PT]
            refine tk 3 (.int .i64 j) hHeld (fun w => ?_) ?_
            · go_simp
            simp only [PT]
            refine tk 4 (.pointer (some ⟨b, off + j * 3, none⟩)) hHeld (fun w => ?_) ?_
            · go_simp
            simp only [PT]
            refine tkS 5 (.agg #[.int .i64 x.g, .int .i64 x.mn, .int .i64 x.mx]) hHeld (fun w hq => ?_) ?_
            · obtain ⟨a0, a1, a2, a3, a4, z0, z1, z2⟩ := HF.out w hq
              go_simp
            simp only [PT]
            refine one_step 6 (by kernel_rfl) rfl (fun Kq hKq => ?_)
            go_simp
            go_at_call 28
            (with_reducible refine (HSB.out _ hSd).mono ?_)
            rintro e y1 ⟨rfl, hbx⟩
            have hS1 : Below wr.heap.size wr y1 := hSd.trans (hbx.mono hSd.size)
            clear hbx
            refine hKq.out _ _ hS1 (fun hHeld0 => ?_)
            clear hKq Kq hHeld
            have hHeld := hHeld0
            clear hHeld0
            try simp only [PT]
            refine tk 7 (.bool false) hHeld (fun w => ?_) ?_
            · go_simp
            simp only [PT]
            refine wpAnyH_done (by kernel_rfl) ?_ _
            clear hHeld
            go_wp2
            go_ret
            exact ⟨by rw [HR.out]; rfl, HB0.out.trans ((HBW.out.trans (hS1.mono HBW.out.size)).mono HB0.out.size)⟩
          · rw [hs] at HSB
            have HN := Lib.hid (show ∀ i, i < j + 1 → stageB m (s.getD i Stg.zero) = true from fun i hi => by
              by_cases e : i = j
              · subst e; rw [hx]; exact hs
              · exact HAL.out i (by omega))
            clear hx hs
            go_wp2
            clear a0 a1 a2 a3 a4
            have hSd : Below wr.heap.size wr wr.drew := (Below.refl _ wr).drew
            refine wp_region_held_drew (S := fun X => Below wr.heap.size wr X) (by kernel_rfl) hSd (fun hHeld => ?_)
            refine tkS 0 (.agg #[.slice A n c, .slice (some ⟨b, off, none⟩) k d, .int .i64 am, .int .i64 rd, .int .i64 hd]) hHeld (fun w hq => ?_) ?_
            · obtain ⟨a0, a1, a2, a3, a4, z0, z1, z2⟩ := HF.out w hq
              go_simp
            simp only [PT]
            refine tk 1 (.pointer (some ⟨w.heap.size, 1, none⟩)) hHeld (fun w => ?_) ?_
            · go_simp
            simp only [PT]
            refine tkS 2 (.slice (some ⟨b, off, none⟩) k d) hHeld (fun w hq => ?_) ?_
            · obtain ⟨a0, a1, a2, a3, a4, z0, z1, z2⟩ := HF.out w hq
              go_simp
            simp only [PT]
            refine tk 3 (.int .i64 j) hHeld (fun w => ?_) ?_
            · go_simp
            simp only [PT]
            refine tk 4 (.pointer (some ⟨b, off + j * 3, none⟩)) hHeld (fun w => ?_) ?_
            · go_simp
            simp only [PT]
            refine tkS 5 (.agg #[.int .i64 x.g, .int .i64 x.mn, .int .i64 x.mx]) hHeld (fun w hq => ?_) ?_
            · obtain ⟨a0, a1, a2, a3, a4, z0, z1, z2⟩ := HF.out w hq
              go_simp
            simp only [PT]
            refine one_step 6 (by kernel_rfl) rfl (fun Kq hKq => ?_)
            go_simp
            go_at_call 28
            (with_reducible refine (HSB.out _ hSd).mono ?_)
            rintro e y1 ⟨rfl, hbx⟩
            have hS1 : Below wr.heap.size wr y1 := hSd.trans (hbx.mono hSd.size)
            clear hbx
            refine hKq.out _ _ hS1 (fun hHeld0 => ?_)
            clear hKq Kq hHeld
            have hHeld := hHeld0
            clear hHeld0
            try simp only [PT]
            refine tk 7 (.bool true) hHeld (fun w => ?_) ?_
            · go_simp
            simp only [PT]
            refine wpAnyH_done (by kernel_rfl) ?_ _
            clear hHeld
            go_wp2
            go_roundw
            case rel => exact ⟨j + 1, by omega, by go_num, HN.out, HBW.out.trans (hS1.mono HBW.out.size)⟩
            case measure => simp [intOf]; omega
        · obtain rfl : j = k := by omega
          have hge : ¬ ((j : Int) < j) := by omega
          go_wp2
          clear a0 a1 a2 a3 a4
          go_loopw [6, 7, 8] (fun v y z wr => ∃ i : Nat, i ≤ n ∧ v = .int .i64 i ∧ (∀ l, l < i → someB s l = true) ∧ Below W0.heap.size W0 wr) (fun v _ _ _ => n - (intOf v).toNat)
          case atStart => exact ⟨0, by omega, rfl, fun l hl => by omega, HBW.out⟩
          case round =>
            rename_i wro
            obtain ⟨i, hi, rfl, hso, hbi⟩ := hrel
            have HBI := Lib.hid hbi
            have HSO := Lib.hid hso
            obtain ⟨a0, a1, a2, a3, a4⟩ := HBC.out wr hbi
            clear hso hbi
            by_cases hin : i < n
            · have hin2 : (i : Int) < n := by omega
              go_wp2
              clear a0 a1 a2 a3 a4
              go_loopw [7, 8] (fun y z wr => ∃ l : Nat, l ≤ j ∧ z = .int .i64 l ∧ y = .bool (someTo s i l) ∧ Below W0.heap.size W0 wr) (fun _ z _ => j - (intOf z).toNat)
              case atStart => exact ⟨0, by omega, rfl, rfl, HBI.out⟩
              case round =>
                rename_i wri
                obtain ⟨l, hl, rfl, rfl, hbl⟩ := hrel
                have HBL := Lib.hid hbl
                obtain ⟨a0, a1, a2, a3, a4⟩ := HBC.out wr hbl
                obtain ⟨S, hS⟩ : ∃ S, someTo s i l = S := ⟨_, rfl⟩
                rw [hS]
                clear hbl
                by_cases hll : l < j
                · have hll2 : (l : Int) < j := by omega
                  have hfr := (stage_iff.1 (HAL.out l hll)).1
                  obtain ⟨-, ⟨g0, g1⟩, -⟩ := free_iff.1 hfr
                  obtain ⟨t, ht⟩ := Int.eq_ofNat_of_zero_le g0
                  have h8 := pow_le hn8
                  have ht2 : t < 256 := by rw [ht, HML.out, pow_int] at g1; omega
                  have HHS := Lib.hid (fun X hX => rhas_any ⟨A, n, c, m, some ⟨b, off, none⟩, j, d, s, am, rd, hd⟩ l i t X (HPI.out X hX) hll ht (by omega) (by omega))
                  simp only [plV] at HHS
                  have hnx := some_next (s := s) i (by rw [HSL.out]; exact hll)
                  rw [hS, ht, bit_nat] at hnx
                  obtain ⟨T, hT⟩ : ∃ T, t.testBit i = T := ⟨_, rfl⟩
                  rw [hT] at HHS hnx
                  have HNX := Lib.hid hnx
                  clear hnx hfr g0 g1 ht hS hT
                  cases S
                  all_goals
                    go_wp2_with (go_at_call 29
                                 (with_reducible refine (HHS.out _ HBL.out).mono ?_)
                                 rintro e w3 ⟨rfl, hb3⟩
                                 have HB3 := Lib.hid (HBL.out.trans (hb3.mono HBL.out.size))
                                 clear hb3)
                    go_roundw
                    case rel => exact ⟨l + 1, by omega, by go_num, by rw [HNX.out]; rfl, HB3.out⟩
                    case measure => simp [intOf]; omega
                · obtain rfl : l = j := by omega
                  have hgl : ¬ ((l : Int) < l) := by omega
                  have hsa := some_all s i
                  rw [HSL.out, hS] at hsa
                  cases S
                  · have HR := Lib.hid (fit_some (p := ⟨A, n, c, m, some ⟨b, off, none⟩, l, d, s, am, rd, hd⟩) (i := i) (by simp only; rw [HML.out]; exact hin) hsa.symm)
                    clear hsa hS
                    go_wp2
                    go_ret
                    exact ⟨by rw [HR.out]; rfl, HB0.out.trans (HBL.out.mono HB0.out.size)⟩
                  · have HN := Lib.hid (show ∀ r, r < i + 1 → someB s r = true from fun r hr => by
                      by_cases e : r = i
                      · subst e; exact hsa.symm
                      · exact HSO.out r (by omega))
                    clear hsa hS
                    go_wp2
                    go_roundw
                    case rel => exact ⟨i + 1, by omega, by go_num, HN.out, HBL.out⟩
                    case measure => simp [intOf]; omega
            · obtain rfl : i = n := by omega
              have hgi : ¬ ((i : Int) < i) := by omega
              have hr := fit_rest (p := ⟨A, i, c, m, some ⟨b, off, none⟩, j, d, s, am, rd, hd⟩) HM.out (by simp only; rw [HSL.out]; omega) (by simp only; rw [HSL.out]; omega) (fun r hr => HAL.out r (by simp only at hr; rw [HSL.out] at hr; exact hr)) (fun r hr => HSO.out r (by simp only at hr; rw [HML.out] at hr; exact hr))
              obtain ⟨M, hM⟩ : ∃ M, fitP ⟨A, i, c, m, some ⟨b, off, none⟩, j, d, s, am, rd, hd⟩ = M := ⟨_, rfl⟩
              have HMM := Lib.hid hM
              rw [hM] at hr
              unfold spanB at hr
              simp only at hr
              clear hM
              obtain ⟨p0, hp0⟩ : ∃ b, decide (1 ≤ am) = b := ⟨_, rfl⟩
              obtain ⟨p1, hp1⟩ : ∃ b, decide (am ≤ 200) = b := ⟨_, rfl⟩
              obtain ⟨p2, hp2⟩ : ∃ b, decide (1 ≤ rd) = b := ⟨_, rfl⟩
              obtain ⟨p3, hp3⟩ : ∃ b, decide (rd ≤ 200) = b := ⟨_, rfl⟩
              obtain ⟨p4, hp4⟩ : ∃ b, decide (0 ≤ hd) = b := ⟨_, rfl⟩
              obtain ⟨p5, hp5⟩ : ∃ b, decide (hd ≤ 300) = b := ⟨_, rfl⟩
              rw [hp0, hp1, hp2, hp3, hp4, hp5] at hr
              cases p0
              case' true =>
                cases p1
                case' true =>
                  cases p2
                  case' true =>
                    cases p3
                    case' true =>
                      cases p4
              all_goals
                simp only [Bool.true_and, Bool.false_and, Bool.and_true, Bool.and_false] at hr
                subst hr
                go_wp2
                go_ret
                exact ⟨by rw [HMM.out]; rfl, HB0.out.trans (HBI.out.mono HB0.out.size)⟩
end Go.Proofs.Ytjjjfckkglcdfaa
