/- The walk over package frame's isPlain, where the integers are in range. -/
import Derived.Test.YtadcbikdbekmgaaFrmPlain
namespace Go.Proofs.Ytadcbikdbekmgaa
set_option linter.unusedVariables false
set_option linter.unusedSimpArgs false
open Go.RowKit

theorem plain_blank {f : Fr} {S : List Nat} {t : Bool} (h : blankB f.nums S = false) : false = plainS f S t := by rw [plainS, h]; simp
theorem plain_last {f : Fr} {S : List Nat} {t : Bool} (h : rangeB f = true) (h2 : blankB f.nums S = true) : (t || f.tag == noTag) = plainS f S t := by rw [plainS, h, h2]; simp
theorem nums_range {f : Fr} (hok : f.ok) (hp : f.pos) (k : Nat) : 0 ≤ f.nums.getD k 0 ∧ f.nums.getD k 0 < 18446744073709551616 := by
  obtain ⟨p0, p1, p2, p3, p4⟩ := hp
  obtain ⟨⟨_, a0⟩, ⟨_, a1⟩, ⟨b2, a2⟩, ⟨b3, a3⟩, ⟨_, a4⟩, ⟨b5, a5⟩, ⟨_, a6⟩, ⟨_, a7⟩, _, _⟩ := hok
  match k with
  | 0 | 1 | 2 | 3 | 4 | 5 | 6 | 7 => simp [Fr.nums, List.getD_cons_zero, List.getD_cons_succ]; omega
  | k + 8 => simp [Fr.nums]
theorem pos_of {f : Fr} (hk : 0 ≤ f.kind) (h : rangeB f = true) : f.pos := by
  unfold rangeB at h
  rw [decide_eq_true_eq] at h
  exact ⟨hk, h.1, h.2.2.1, h.2.2.2.2.1, h.2.2.2.2.2.2.1⟩

set_option maxHeartbeats 2000000 in
theorem plain_high (f : Fr) (S : List Nat) (t : Bool) (w : World) (hok : f.ok) (hk : 0 ≤ f.kind) (hS : S.length = 8) (hsm : S.sum ≤ 1000) (h : rangeB f = true) :
    Calls Try.prog 20 #[frV f, shV S t] w fun e w' => e = .returned (.bool (plainS f S t)) ∧ Below w.heap.size w w' := by
  obtain ⟨s0, s1, s2, s3, s4, s5, s6, s7, hl⟩ := list8 S hS
  have hp := pos_of hk h
  have hcs : (shC S t).toArray = #[.int .i64 s0, .int .i64 s1, .int .i64 s2, .int .i64 s3, .int .i64 s4, .int .i64 s5, .int .i64 s6, .int .i64 s7, .bool t] := by rw [hl]; rfl
  rw [shV_lit hl]
  have hr := h
  rw [rangeB_of] at h
  simp only [Bool.and_eq_true] at h
  obtain ⟨⟨⟨ha, hb⟩, hc⟩, hd⟩ := h
  have HA := Lib.hid ha
  have HB := Lib.hid hb
  have HC := Lib.hid hc
  have HD := Lib.hid hd
  have hh := hasF f
  have hTl : f.tag.length = 32 := hok.len
  have htag : ∀ w, (Op.equalIn 10000 24 (.agg (idv f.tag)) (.agg (idv noTag))).run Try.prog w = .ok (f.tag == noTag) w := eq_tag f.tag hTl
  obtain ⟨r, hrT⟩ : ∃ r, (f.tag == noTag) = r := ⟨_, rfl⟩
  obtain ⟨V, hV⟩ : ∃ V, V = plainS f S t := ⟨_, rfl⟩
  rw [← hV]
  have hno : blankB f.nums S = false → false = V := fun h => (plain_blank h).trans hV.symm
  have hyes : blankB f.nums S = true → (t || r) = V := fun h => by rw [← hrT, hV]; exact plain_last hr h
  obtain ⟨C, hC⟩ : ∃ C, C = frA f := ⟨_, rfl⟩
  have hCs : C.size = 40 := by rw [hC]; exact frA_size hTl
  have hCV : (Value.agg C) = frV f := by rw [hC]; rfl
  rw [← hCV]
  rw [← hC] at hh
  obtain ⟨d0, d1, d2, d3, d4, d5, d6, d7⟩ := hh
  obtain ⟨M, hM⟩ : ∃ M, (numC f).toArray = M := ⟨_, rfl⟩
  have hnum : numV f = .agg M := by rw [← hM]; rfl
  have hnr := nums_range hok hp
  obtain ⟨T, hT⟩ : ∃ T, T = idv f.tag := ⟨_, rfl⟩
  rw [← hT, hrT] at htag
  obtain ⟨Z, hZ⟩ : ∃ Z, Z = idv noTag := ⟨_, rfl⟩
  rw [← hZ] at htag
  have HTL := Lib.hid hTl
  have HNO := Lib.hid hno
  have HYES := Lib.hid hyes
  have HCS := Lib.hid hCs
  have HCV := Lib.hid hCV
  have HCC := Lib.hid hC
  have HM := Lib.hid hM
  have HN := Lib.hid hnum
  have HNR := Lib.hid hnr
  have hT2 : (byv f.tag).toArray = T := by rw [hT]; rfl
  have HT := Lib.hid hT2
  have hZB : Try.prog.built 24 [] = some Z := by rw [hZ]; exact built_none (z := .agg (idv noTag)) Try.underlying24 (by kernel_rfl) (by kernel_rfl)
  have HZB := Lib.hid hZB
  have HZ := Lib.hid hZ
  have HTAG := Lib.hid htag
  have HS := Lib.hid hS
  have HSM := Lib.hid hsm
  have HOK := Lib.hid hok
  have HP := Lib.hid hp
  have HSC := Lib.hid hcs
  clear hT2 hZB hTl hno hyes hCs hCV hC hM hnum hnr hT hZ htag hS hsm hok hp hcs ha hb hc hd hrT hV hl hr
  go_enter Try.func20, Try.ntmps20
  go_wp2_with (first
    | (go_at_call 35; (with_reducible refine (upto_any _ 255 _).mono ?_); rintro e w1 ⟨he, rfl⟩; (first | rw [HA.out] at he | rw [HC.out] at he); subst he)
    | (go_at_call 35; (with_reducible refine (upto_any _ 1073741824 _).mono ?_); rintro e w1 ⟨he, rfl⟩; rw [HB.out] at he; subst he)
    | (go_at_call 35; (with_reducible refine (upto_any _ 65535 _).mono ?_); rintro e w1 ⟨he, rfl⟩; rw [HD.out] at he; subst he)
    | ((with_reducible refine wpList_load_row rfl 26 _ rfl w.heap.size ?hx1 26 C (0, 0) _ (heap_alloc2_old _ _ _) Try.underlying26 ?hd1 (info_frame HCS.out) ?_); (case hx1 => rfl); (case hd1 => rfl))
    | (go_at_call 22
       rw [HCV.out]
       (with_reducible refine (nums_any f _ HOK.out HP.out).mono ?_); rintro e w2 ⟨he, hb2⟩
       rw [HN.out] at he
       subst he
       have hr2 : RowS w2 (w.heap.size + 1) S t := rowS_of HS.out (by rw [HSC.out]; exact (after_two hb2).2.2.2)
       have hf2 : RowF w2 w.heap.size f := rowF_of (by rw [← HCC.out]; exact (after_two hb2).2.2.1)
       have hB2 := (after_two hb2).1
       clear hb2))
  have HS2 := Lib.hid hr2
  have HF2 := Lib.hid hf2
  clear hr2 hf2
  go_loop [5, 6, 31] (fun u v i => ∃ k : Nat, k ≤ 8 ∧ i = .int .i64 k ∧ ∀ j, j < k → S.getD j 0 = 0 → f.nums.getD j 0 = 0) (fun _ _ i => 8 - (intOf i).toNat)
  case atStart => exact ⟨0, by omega, rfl, fun j hj => by omega⟩
  case round =>
    obtain ⟨k, hk8, rfl, hall⟩ := hrel
    have HALL := Lib.hid hall
    clear hall
    by_cases hlt : k < 8
    · have hix := num_index HM.out k hlt
      have hcell := HS2.out.at_ k hlt
      obtain ⟨y0, y1⟩ := HNR.out k
      obtain ⟨y, hy⟩ : ∃ y, f.nums.getD k 0 = y := ⟨_, rfl⟩
      obtain ⟨x, hx⟩ : ∃ x, S.getD k 0 = x := ⟨_, rfl⟩
      rw [hy] at hix y0 y1
      rw [hx] at hcell
      have HY := Lib.hid hy
      have HX := Lib.hid hx
      clear hy hx
      by_cases hx0 : x = 0
      · have ex : ((x : Int) == 0) = true := by rw [hx0]; rfl
        by_cases hy0 : y = 0
        · have ey : (y != 0) = false := by rw [hy0]; rfl
          have hnx : ∀ j, j < k + 1 → S.getD j 0 = 0 → f.nums.getD j 0 = 0 := fun j hj hs => by
            by_cases e : j = k
            · rw [e, HY.out, hy0]
            · exact HALL.out j (by omega) hs
          have HNX := Lib.hid hnx
          clear hnx hx0 hy0
          go_wp2
          go_round
          case rel => exact ⟨k + 1, by omega, by go_num, HNX.out⟩
          case measure => simp [intOf]; omega
        · have ey : (y != 0) = true := by rw [bne_iff_ne]; exact hy0
          have hb : blankB f.nums S = false := blank_at _ _ k hlt (by rw [HS.out]; exact hlt) (by rw [HX.out, hx0]) (by rw [HY.out]; exact hy0)
          have HBF := Lib.hid hb
          clear hx0 hy0 hb
          go_wp2
          go_ret
          exact ⟨ret_bool (HNO.out HBF.out), hB2⟩
      · have ex : ((x : Int) == 0) = false := by rw [beq_eq_false_iff_ne]; omega
        have hnx : ∀ j, j < k + 1 → S.getD j 0 = 0 → f.nums.getD j 0 = 0 := fun j hj hs => by
          by_cases e : j = k
          · rw [e, HX.out] at hs
            exact absurd hs hx0
          · exact HALL.out j (by omega) hs
        have HNX := Lib.hid hnx
        clear hnx hx0
        go_wp2
        go_round
        case rel => exact ⟨k + 1, by omega, by go_num, HNX.out⟩
        case measure => simp [intOf]; omega
    · have hkn : k = 8 := by omega
      have hb : blankB f.nums S = true := blank_all _ _ fun j hj hs => HALL.out j (by rw [hkn]; exact hj) hs
      have hres := HYES.out hb
      have HRES := Lib.hid hres
      have hct := HS2.out.tag
      have htg := HTAG.out w2
      clear hb hres hkn
      cases t with
      | true =>
        clear htg
        go_wp2
        go_ret
        exact ⟨ret_bool HRES.out, hB2⟩
      | false =>
        go_wp2_with (first
          | ((with_reducible refine wpList_load_on 24 _ rfl w.heap.size 8 ?hx4 (byv f.tag) T HT.out _ HF2.out.range Try.underlying24 ?hd4 ?hi4 ?_ ?hw4); (case hx4 => rfl); (case hd4 => rfl); (case hi4 => rw [byv_length, HTL.out]; kernel_rfl); (case hw4 => rfl))
          | ((with_reducible refine wpList_build_on 24 _ rfl _ Z ?hl5 HZB.out ?_ ?hw5); (case hl5 => rfl); (case hw5 => rfl)))
        go_ret
        exact ⟨ret_bool HRES.out, hB2⟩
end Go.Proofs.Ytadcbikdbekmgaa
