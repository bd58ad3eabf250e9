/- The walk over the document's answer taken: the parts of a term behind others. -/
import Derived.Test.YtcpeaeefphgbaaaKnwHad
namespace Go.Proofs.Ytcpeaeefphgbaaa
set_option linter.unusedVariables false
set_option linter.unusedSimpArgs false
open Go.RowKit

theorem adds_len2 (acc l : List Te) {N : Nat} (h : acc.length + l.length ≤ N) : (adds acc l).length ≤ N := Nat.le_trans (adds_len acc l) h
theorem adds_new2 {acc l : List Te} {n : Int} (h : isIn acc (.node 2 n l) = false) : adds acc (Te.node 2 n l).parts = adds (acc ++ [.node 2 n l]) (Te.partsL l) := by
  rw [Te.parts, if_pos rfl, adds, if_neg (by rw [h]; simp)]
theorem adds_new_no {acc l : List Te} {k n : Int} (h : isIn acc (.node k n l) = false) (hk : ¬ k = 2) : adds acc (Te.node k n l).parts = adds (acc ++ [.node k n l]) [] := by
  rw [Te.parts, if_neg hk]
  simp [adds, h]
theorem adds_old2 {acc l : List Te} {n : Int} (h : isIn acc (.node 2 n l) = true) : adds acc (Te.node 2 n l).parts = adds acc (Te.partsL l) := by
  rw [Te.parts, if_pos rfl, adds, if_pos h]
theorem adds_old_no {acc l : List Te} {k n : Int} (h : isIn acc (.node k n l) = true) (hk : ¬ k = 2) : adds acc (Te.node k n l).parts = adds acc [] := by
  rw [Te.parts, if_neg hk]
  simp [adds, h]
set_option maxHeartbeats 2000000 in
theorem rtaken_in (B : Nat) : ∀ (t : Te) (k n : Int) (A : Option Addr) (m c : Nat) (w : World) (v : Value) (rows : List (List Value)) (acc : List Te), Is (fun b => v.ownBlock ≠ some b) w t k n A m c → Had w B v rows acc → B ≤ w.heap.size → acc.length + t.size ≤ 1000000 →
    Calls Try.prog 32 #[v, .agg #[.int .i64 k, .int .i64 n, .slice A m c]] w (AddsL B v (adds acc t.parts) w) := by
  refine Te.ind fun k0 n0 l ih k n A m c w v rows acc hI hH hB hN => ?_
  obtain ⟨hl, rfl, rfl, hm⟩ := hI.len
  have IH := Lib.hid ih
  have HL := Lib.hid hl
  obtain ⟨A0, m0, c0, rfl, hS⟩ := hH.is
  obtain ⟨hlS, -, -, hmS⟩ := hS.len
  have hone := one_alloc w (.cells #[.int .i64 k, .int .i64 n, .slice A m c] 24)
  obtain ⟨W1, hW1⟩ : ∃ W1, w.alloc (.cells #[.int .i64 k, .int .i64 n, .slice A m c] 24) = W1 := ⟨_, rfl⟩
  have hcup := Cup.new w k n A m c
  have hng : (Value.slice A0 m0 c0).ownBlock ≠ some w.heap.size := hH.not_new (Nat.le_refl _)
  rw [hW1] at hone hcup
  have hIn := in_any _ _ acc (.node k n l) A0 m0 c0 k n A m c W1 (hS.later hone) (hI.later hone)
  have hH1 := hH.far hone
  have hI1 := hI.later hone
  have hT1 := Turns.below (.slice A0 m0 c0) hone
  have hB1 : B ≤ W1.heap.size := Nat.le_trans hB hone.size
  have HW := Lib.hid hW1
  have HIN := Lib.hid hIn
  have HI := Lib.hid hI1
  have HH := Lib.hid hH1
  have HT := Lib.hid hT1
  have HC := Lib.hid hcup
  have HNG := Lib.hid hng
  have hsz : acc.length + Te.sizes l + 1 ≤ 1000000 := by simp only [Te.size] at hN; omega
  have hpl := Te.partsL_len l
  obtain ⟨x0, x1, x2⟩ := hcup.cells
  have hrl : rows.length = acc.length := hH.len
  have hbs : w.heap.size < W1.heap.size := hcup.lt
  clear ih hl hW1 hIn hI1 hH1 hT1 hI hH hS hone hcup hng
  cases hi : isIn acc (.node k n l)
  all_goals
    rw [hi] at HIN
    have HII := Lib.hid hi
    clear hi
    go_enter Try.func32, Try.ntmps32
    go_wp2_with (first
      | (go_at_call 25
         rw [HW.out]
         (with_reducible refine HIN.out.mono ?_)
         rintro e w2 ⟨rfl, hb2⟩
         have HB2 := Lib.hid hb2
         obtain ⟨y0, y1, y2⟩ := (HC.out.below hb2).cells
         clear hb2)
      | (at_builtin
         refine wpList_append_r_at rfl 22 24 3 40 _ _ rfl Try.underlying22 info_term (by omega) B (.slice A0 m0 c0) rows rfl ((HH.out.far HB2.out).far (one_alloc _ _)).own _ 1 1 [[.int .i64 k, .int .i64 n, .slice A m c]] rfl (one_rws 3 24 _ [.int .i64 k, .int .i64 n, .slice A m c] rfl (row_one k n A m c)) (by omega) (by omega) (Nat.le_trans hB1 (Nat.le_trans HB2.out.size (size_le_alloc _ _))) ?_
         intro v4 w4 hown4 hg4 hat4
         obtain ⟨hH4, hT4⟩ := ((HH.out.far HB2.out).far (one_alloc w2 (.cells #[.int .i64 k, .int .i64 n, .slice A m c] 24))).step ((HI.out.later HB2.out).later (one_alloc w2 (.cells #[.int .i64 k, .int .i64 n, .slice A m c] 24))).lies hown4 hg4 hat4
         have HH4 := Lib.hid hH4
         have HT4 := Lib.hid ((Turns.below (.slice A0 m0 c0) (HB2.out.trans ((one_alloc w2 (.cells #[.int .i64 k, .int .i64 n, .slice A m c] 24)).mono HB2.out.size))).trans hT4)
         clear hH4 hT4 hown4 hg4 hat4))
  · go_loopw [0, 6] (fun v i wr => ∃ (j : Nat) (rows' : List (List Value)), j ≤ m ∧ i = .int .i64 j ∧ (k ≠ 2 → j = 0) ∧ Had wr B v rows' (adds (acc ++ [Te.node k n l]) (Te.partsL (l.take j))) ∧ Turns W1 wr (.slice A0 m0 c0) v) (fun _ i _ => m - (intOf i).toNat)
    case atStart => exact ⟨0, _, Nat.zero_le _, rfl, fun _ => rfl, HH4.out, (Turns.refl _ _).trans HT4.out⟩
    case round =>
      obtain ⟨j, rows', hj, rfl, hk2, hHr, hTr⟩ := hrel
      obtain ⟨y0, y1, y2⟩ := (HC.out.turns hTr HNG.out).cells
      by_cases hk : k = 2
      · subst hk
        by_cases hlt : j < m
        · have hjl : j < l.length := by rw [HL.out]; exact hlt
          obtain ⟨b, off, k', n', A', m', c', rfl, hPb, hbl, hI', h0, h1, h2⟩ := HI.out.arg j hlt hjl
          have hblk := hTr.block hbl hPb
          have d0 := (World.cell?_of_block (w := W1) (w' := wr) (a := ⟨b, off + j * 3, none⟩) hblk).trans h0
          have d1 := (World.cell?_of_block (w := W1) (w' := wr) (a := ⟨b, off + j * 3 + 1, none⟩) hblk).trans h1
          have d2 := (World.cell?_of_block (w := W1) (w' := wr) (a := ⟨b, off + j * 3 + 2, none⟩) hblk).trans h2
          have hln : (adds (acc ++ [Te.node 2 n l]) (Te.partsL (l.take j))).length + l[j].size ≤ 1000000 := by
            have e1 := adds_len (acc ++ [Te.node 2 n l]) (Te.partsL (l.take j))
            have e2 := Te.partsL_len (l.take j)
            have e3 := Te.size_mem hjl
            rw [List.length_append, List.length_singleton] at e1
            omega
          have HCA := Lib.hid (IH.out l[j] (List.getElem_mem hjl) k' n' A' m' c' wr u0 rows' _ (hTr.is hI') hHr (Nat.le_trans hB1 hTr.grown.size) hln)
          have HST := Lib.hid (Te.partsL_take j hjl)
          have HTR := Lib.hid hTr
          have q1 : (j : Int) < m := by omega
          clear h0 h1 h2 hblk hI' hHr hTr hln
          go_wp2_with (go_at_call 32; refine HCA.out.mono ?_; rintro e w5 ⟨v5, rows5, rfl, hH5, hT5⟩)
          go_roundw
          case rel => exact ⟨j + 1, rows5, by omega, by go_num, fun h => absurd rfl h, by rw [HST.out, adds_append]; exact hH5, HTR.out.trans hT5⟩
          case measure => simp [intOf]; omega
        · obtain rfl : j = m := by omega
          rw [List.take_of_length_le (by rw [HL.out]; exact Nat.le_refl _)] at hHr
          have HHR := Lib.hid hHr
          have HTR := Lib.hid hTr
          clear hHr hTr
          go_wp2
          go_ret
          exact ⟨_, rows', rfl, by rw [adds_new2 HII.out]; exact HHR.out, HT.out.trans HTR.out⟩
      · obtain rfl := hk2 hk
        rw [List.take_zero, Te.partsL] at hHr
        have HHR := Lib.hid hHr
        have HTR := Lib.hid hTr
        clear hHr hTr
        by_cases hm0 : 0 < m
        · have q1 : (0 : Int) < m := by omega
          go_wp2
          go_ret
          exact ⟨_, rows', rfl, by rw [adds_new_no HII.out hk]; exact HHR.out, HT.out.trans HTR.out⟩
        · obtain rfl : m = 0 := by omega
          go_wp2
          go_ret
          exact ⟨_, rows', rfl, by rw [adds_new_no HII.out hk]; exact HHR.out, HT.out.trans HTR.out⟩
  · go_loopw [0, 6] (fun v i wr => ∃ (j : Nat) (rows' : List (List Value)), j ≤ m ∧ i = .int .i64 j ∧ (k ≠ 2 → j = 0) ∧ Had wr B v rows' (adds (acc) (Te.partsL (l.take j))) ∧ Turns W1 wr (.slice A0 m0 c0) v) (fun _ i _ => m - (intOf i).toNat)
    case atStart => exact ⟨0, rows, Nat.zero_le _, rfl, fun _ => rfl, HH.out.far HB2.out, Turns.below _ HB2.out⟩
    case round =>
      obtain ⟨j, rows', hj, rfl, hk2, hHr, hTr⟩ := hrel
      obtain ⟨y0, y1, y2⟩ := (HC.out.turns hTr HNG.out).cells
      by_cases hk : k = 2
      · subst hk
        by_cases hlt : j < m
        · have hjl : j < l.length := by rw [HL.out]; exact hlt
          obtain ⟨b, off, k', n', A', m', c', rfl, hPb, hbl, hI', h0, h1, h2⟩ := HI.out.arg j hlt hjl
          have hblk := hTr.block hbl hPb
          have d0 := (World.cell?_of_block (w := W1) (w' := wr) (a := ⟨b, off + j * 3, none⟩) hblk).trans h0
          have d1 := (World.cell?_of_block (w := W1) (w' := wr) (a := ⟨b, off + j * 3 + 1, none⟩) hblk).trans h1
          have d2 := (World.cell?_of_block (w := W1) (w' := wr) (a := ⟨b, off + j * 3 + 2, none⟩) hblk).trans h2
          have hln : (adds (acc) (Te.partsL (l.take j))).length + l[j].size ≤ 1000000 := by
            have e1 := adds_len (acc) (Te.partsL (l.take j))
            have e2 := Te.partsL_len (l.take j)
            have e3 := Te.size_mem hjl
            skip
            omega
          have HCA := Lib.hid (IH.out l[j] (List.getElem_mem hjl) k' n' A' m' c' wr u0 rows' _ (hTr.is hI') hHr (Nat.le_trans hB1 hTr.grown.size) hln)
          have HST := Lib.hid (Te.partsL_take j hjl)
          have HTR := Lib.hid hTr
          have q1 : (j : Int) < m := by omega
          clear h0 h1 h2 hblk hI' hHr hTr hln
          go_wp2_with (go_at_call 32; refine HCA.out.mono ?_; rintro e w5 ⟨v5, rows5, rfl, hH5, hT5⟩)
          go_roundw
          case rel => exact ⟨j + 1, rows5, by omega, by go_num, fun h => absurd rfl h, by rw [HST.out, adds_append]; exact hH5, HTR.out.trans hT5⟩
          case measure => simp [intOf]; omega
        · obtain rfl : j = m := by omega
          rw [List.take_of_length_le (by rw [HL.out]; exact Nat.le_refl _)] at hHr
          have HHR := Lib.hid hHr
          have HTR := Lib.hid hTr
          clear hHr hTr
          go_wp2
          go_ret
          exact ⟨_, rows', rfl, by rw [adds_old2 HII.out]; exact HHR.out, HT.out.trans HTR.out⟩
      · obtain rfl := hk2 hk
        rw [List.take_zero, Te.partsL] at hHr
        have HHR := Lib.hid hHr
        have HTR := Lib.hid hTr
        clear hHr hTr
        by_cases hm0 : 0 < m
        · have q1 : (0 : Int) < m := by omega
          go_wp2
          go_ret
          exact ⟨_, rows', rfl, by rw [adds_old_no HII.out hk]; exact HHR.out, HT.out.trans HTR.out⟩
        · obtain rfl : m = 0 := by omega
          go_wp2
          go_ret
          exact ⟨_, rows', rfl, by rw [adds_old_no HII.out hk]; exact HHR.out, HT.out.trans HTR.out⟩
end Go.Proofs.Ytcpeaeefphgbaaa
