/- The walk over package frame's Put, where a frame is plain: its bytes. -/
import Derived.Test.YtadcbikdbekmgaaFrmPutNo
import Derived.Test.YtadcbikdbekmgaaNumOpen
namespace Go.Proofs.Ytadcbikdbekmgaa
set_option linter.unusedVariables false
set_option linter.unusedSimpArgs false
open Go.RowKit

theorem two_rows_in {w1 : World} {g : Nat} {o1 : Obj} (h1 : w1.heap[g]? = some o1) (o : Obj) : (w1.alloc o).heap[g]? = some o1 := (Below.heap_alloc w1 o _ (Array.getElem?_eq_some_iff.1 h1).1).trans h1
theorem one_ownr (e : TypeId) (k : Nat) (w : World) (r : List Value) (hr : r.length = k) (h1 : ∀ u ∈ r, u.oneCell' = true) : OwnR e k (w.alloc (.cells r.toArray e)) w.heap.size (.slice (some ⟨w.heap.size, 0, none⟩) 1 1) [r] := by
  refine ⟨⟨by simp [hr], .inr ⟨w.heap.size, 1, r.toArray, rfl, Nat.le_refl _, heap_alloc_new w _, Nat.le_refl _, by unfold maxLen; omega, by simp [hr], ?_⟩⟩, fun x hx => ?_, fun x hx => ?_⟩
  · simp only [List.flatten_cons, List.flatten_nil, List.append_nil, List.length_singleton, Nat.one_mul]
    exact List.take_of_length_le (by omega)
  · rw [List.mem_singleton.1 hx]; exact hr
  · rw [List.mem_singleton.1 hx]; exact h1
theorem numR_one (p : Int × Int) : ∀ u ∈ numR p, u.oneCell' = true := by
  intro u hu
  simp only [numR, List.mem_cons, List.not_mem_nil, or_false] at hu
  rcases hu with rfl | rfl <;> rfl
theorem RowF.bts {w : World} {g : Nat} {f : Fr} (h : RowF w g f) (hok : f.ok) : Bts w (some ⟨g, 8, none⟩) 32 32 f.tag := by
  refine ⟨hok.len, Nat.le_refl _, by unfold maxLen; omega, hok.bytes, (fun e => by cases e), fun _ => ⟨g, 8, rfl, fun j hj => ?_⟩⟩
  have := h.range j (.int .u8 (f.tag.getD j 0)) (byv_get _ _ (by rw [hok.len]; exact hj))
  exact this
theorem pick_nums {f : Fr} (hok : f.ok) (hp : f.pos) (S : List Nat) (t : Bool) (hsm : S.sum ≤ 1000) : ∀ p ∈ rowI f S t, 0 ≤ p.1 ∧ p.1 < 18446744073709551616 ∧ -9223372036854775808 ≤ p.2 ∧ p.2 ≤ 9223372036854775807 := by
  have key : ∀ (ns : List Int) (S : List Nat), (∀ n ∈ ns, 0 ≤ n ∧ n < 18446744073709551616) → S.sum ≤ 1000 → ∀ p ∈ pickI ns S, 0 ≤ p.1 ∧ p.1 < 18446744073709551616 ∧ -9223372036854775808 ≤ p.2 ∧ p.2 ≤ 9223372036854775807 := by
    intro ns
    induction ns with
    | nil => intro S _ _ p hp; simp [pickI] at hp
    | cons n ns ih =>
      intro S hn hs p hp
      cases S with
      | nil => simp [pickI] at hp
      | cons s S =>
        rw [List.sum_cons] at hs
        rw [pickI] at hp
        have h1 := ih S (fun x hx => hn x (by simp [hx])) (by omega)
        split at hp
        · rcases List.mem_cons.1 hp with rfl | hp
          · have := hn n (by simp)
            exact ⟨this.1, this.2, by simp only; omega, by simp only; omega⟩
          · exact h1 p hp
        · exact h1 p hp
  intro p hp'
  rcases List.mem_cons.1 hp' with rfl | h
  · have h1 : folL S t ≤ 1032 := by unfold folL; split <;> omega
    exact ⟨by simp only; omega, by simp only; omega, by simp only; omega, by simp only; omega⟩
  · refine key f.nums S (fun n hn => ?_) hsm p h
    obtain ⟨i, hi, rfl⟩ := List.getElem_of_mem hn
    have := nums_range hok hp i
    simpa [List.getD_eq_getElem?_getD, hi] using this
/-- what Put hands back -/
def PutPost (f : Fr) (w : World) (e : Ending) (w' : World) : Prop := ∃ v, e = .returned (.tuple #[v, .bool true]) ∧ Own w' w.heap.size v (putF f) ∧ Below w.heap.size w w'

set_option maxRecDepth 100000 in
set_option maxHeartbeats 2000000 in
theorem put_plain (f : Fr) (w : World) (hok : f.ok) (hp : plainB f = true) :
    Calls Try.prog 10 #[frV f] w (PutPost f w) := by
  obtain ⟨h, hrg, hbl, _⟩ := plain_facts hp
  have hpos := pos_of (kind_pos h) hrg
  have hps : plainS f (szK f.kind.toNat) (tagK f.kind.toNat) = true := by rw [plainB, h, Bool.true_and] at hp; exact hp
  have hcat := plain_fits hok hp
  have hh := hasF f
  have hCs : (frA f).size = 40 := frA_size hok.len
  have hS := szK_length f.kind.toNat
  have hsm := szK_small f.kind.toNat
  have hTb := folK_small f.kind.toNat
  have hsc := fun w => shape_yes f.kind w h
  have hput : putF f = catL (rowS f (szK f.kind.toNat) (tagK f.kind.toNat)) ++ if tagK f.kind.toNat then f.tag else [] := rfl
  obtain ⟨S, hSS⟩ : ∃ S, szK f.kind.toNat = S := ⟨_, rfl⟩
  obtain ⟨t, ht⟩ : ∃ t, tagK f.kind.toNat = t := ⟨_, rfl⟩
  rw [hSS] at hps hS hsm hsc hput hcat hTb
  rw [ht] at hps hsc hput hcat hTb
  have hpc := fun w => plain_any f S t w hok (kind_pos h) hS hsm
  rw [hps] at hpc
  have hfc := fun w => fol_any S t w hS hsm
  have hnc := fun w => nums_any f w hok hpos
  have hnm := pick_nums hok hpos S t hsm
  obtain ⟨s0, s1, s2, s3, s4, s5, s6, s7, hl⟩ := list8 S hS
  have hcs : (shC S t).toArray = #[.int .i64 s0, .int .i64 s1, .int .i64 s2, .int .i64 s3, .int .i64 s4, .int .i64 s5, .int .i64 s6, .int .i64 s7, .bool t] := by rw [hl]; rfl
  rw [shV_lit hl] at hsc hpc hfc
  obtain ⟨M, hM⟩ : ∃ M, (numC f).toArray = M := ⟨_, rfl⟩
  have hnum : numV f = .agg M := by rw [← hM]; rfl
  rw [hnum] at hnc
  unfold frV at hpc hnc ⊢
  obtain ⟨C, hC⟩ : ∃ C, C = frA f := ⟨_, rfl⟩
  rw [← hC] at hh hCs hpc hnc ⊢
  obtain ⟨d0, _, _, _, _, _, _, _⟩ := hh
  obtain ⟨T, hT⟩ : ∃ T, folL S t = T := ⟨_, rfl⟩
  rw [hT] at hfc hTb
  have hT' : (T : Int) ≤ 52 := by omega
  have hnr := nums_range hok hpos
  have HSC := Lib.hid hsc
  have HPC := Lib.hid hpc
  have HFC := Lib.hid hfc
  have HNC := Lib.hid hnc
  have HCS := Lib.hid hCs
  have HC := Lib.hid hC
  have HM := Lib.hid hM
  have HT := Lib.hid hT
  have HS := Lib.hid hS
  have HSM := Lib.hid hsm
  have HPUT := Lib.hid hput
  have HCAT := Lib.hid hcat
  have HNR := Lib.hid hnr
  have HNM := Lib.hid hnm
  have HOK := Lib.hid hok
  have HSHC := Lib.hid hcs
  clear hsc hpc hfc hnc hCs hC h hl hS hsm hSS ht hps hp hok hM hT hTb hput hcat hnr hnm hcs hnum hbl hrg hpos
  go_enter Try.func10, Try.ntmps10
  go_wp2_with (first
    | (go_at_call 19; (with_reducible refine (HSC.out _).mono ?_); rintro e w1 ⟨rfl, hb1⟩
       have hF1 : RowF w1 w.heap.size f := rowF_of (by rw [← HC.out]; exact after_alloc hb1)
       have hB1 := (after_one hb1).1)
    | ((with_reducible refine wpList_load_blk 26 _ rfl w.heap.size ?hx2 26 C (0, 0) _ (two_rows_of hb1 _) Try.underlying26 ?hd2 (info_frame HCS.out) ?_ ?hw2); (case hx2 => rfl); (case hd2 => rfl); (case hw2 => rfl))
    | (go_at_call 20; (with_reducible refine (HPC.out _).mono ?_); rintro e w2 ⟨rfl, hb2⟩
       have hS2 : RowS w2 w1.heap.size S t := rowS_of HS.out (by rw [HSHC.out]; exact after_alloc hb2)
       have hF2 : RowF w2 w.heap.size f := hF1.below (after_one hb2).1
       have hB2 : Below w.heap.size w w2 := hB1.trans ((after_one hb2).1.mono hB1.size)
       have hZ2 := after_alloc hb2
       clear hb2)
    | ((with_reducible refine wpList_load_blk 47 _ rfl w1.heap.size ?hx3 47 _ (0, 0) _ hZ2 Try.underlying47 ?hd3 ?hi3 ?_ ?hw3); (case hx3 => rfl); (case hd3 => rfl); (case hi3 => kernel_rfl); (case hw3 => rfl))
    | (go_at_call 21; (with_reducible refine (HFC.out _).mono ?_); rintro e w3 ⟨rfl, hb3⟩
       have hS3 := hS2.below HS.out hb3
       have hF3 := hF2.below hb3
       have hB3 : Below w.heap.size w w3 := hB2.trans (hb3.mono hB2.size)
       have hC3 : w3.heap[w.heap.size]? = some (.cells C 26 (0, 0)) := by rw [HC.out]; exact hF3.blk
       clear hb3 hZ2)
    | ((with_reducible refine wpList_load_blk 26 _ rfl w.heap.size ?hx4 26 C (0, 0) _ (two_rows_in hC3 _) Try.underlying26 ?hd4 (info_frame HCS.out) ?_ ?hw4); (case hx4 => rfl); (case hd4 => rfl); (case hw4 => rfl))
    | (go_at_call 22
       (with_reducible refine (HNC.out _).mono ?_); rintro e w4 ⟨rfl, hb4⟩
       have hb5 : Below w3.heap.size w3 w4 := (one_alloc _ _).trans (hb4.mono (by simp))
       have hown4 : OwnR 53 2 w4 w3.heap.size (.slice (some ⟨w3.heap.size, 0, none⟩) 1 1) [numR ((T : Int), 2)] := (one_ownr 53 2 w3 (numR ((T : Int), 2)) rfl (numR_one _)).below hb4
       clear hb4))
  have HS3 := Lib.hid hS3
  have HF3 := Lib.hid hF3
  have HB3 := Lib.hid hB3
  have hlt3 : w1.heap.size < w3.heap.size := hS3.lt
  clear hS3 hF3 hB3 hC3 hS2 hF2 hB2 hF1 hB1 hb1
  go_loopw [6, 7, 8, 31] (fun v u y i wr => ∃ k : Nat, k ≤ 8 ∧ i = .int .i64 k ∧ OwnR 53 2 wr w3.heap.size v ((((T : Int), 2) :: pickI (f.nums.take k) (S.take k)).map numR) ∧ Below w3.heap.size w3 wr) (fun _ _ _ i _ => 8 - (intOf i).toNat)
  case atStart => exact ⟨0, by omega, rfl, hown4, hb5⟩
  case round =>
    clear hown4 hb5
    obtain ⟨k, hk8, rfl, hown, hB⟩ := hrel
    have HO := Lib.hid hown
    clear hown
    by_cases hlt : k < 8
    · have hix := num_index HM.out k hlt
      have hcell := (hB.cell (p := ⟨w1.heap.size, k, none⟩) hlt3).trans (HS3.out.at_ k hlt)
      obtain ⟨y0, y1⟩ := HNR.out k
      have hsn := pickI_snoc f.nums S k hlt (by rw [HS.out]; exact hlt)
      have hlen : (pickI (f.nums.take k) (S.take k)).length ≤ 8 := by
        have h1 := pickI_len (f.nums.take k) (S.take k)
        have h2 := List.length_take_le k S
        omega
      obtain ⟨y, hy⟩ : ∃ y, f.nums.getD k 0 = y := ⟨_, rfl⟩
      obtain ⟨x, hx⟩ : ∃ x, S.getD k 0 = x := ⟨_, rfl⟩
      rw [hy] at hix y0 y1 hsn
      rw [hx] at hcell hsn
      by_cases hx0 : 0 < x
      · have hx0' : (0 : Int) < x := by omega
        rw [if_pos hx0] at hsn
        have hnx : ((((T : Int), 2) :: pickI (f.nums.take (k + 1)) (S.take (k + 1))).map numR) = ((((T : Int), 2) :: pickI (f.nums.take k) (S.take k)).map numR) ++ [numR (y, (x : Int))] := by
          rw [hsn]; simp
        obtain ⟨L, hL⟩ : ∃ L, L = ((((T : Int), 2) :: pickI (f.nums.take k) (S.take k)).map numR) := ⟨_, rfl⟩
        have hLl : L.length ≤ 9 := by rw [hL]; simp; exact hlen
        rw [← hL] at hnx
        have hown := HO.out
        rw [← hL] at hown
        have HNX := Lib.hid hnx
        have HLL := Lib.hid hLl
        clear hx hy hsn hnx hL hlen hx0 HO hLl
        go_wp2_with (at_builtin
                     refine wpList_append_r rfl 54 53 2 16 _ _ rfl Try.underlying54 (by kernel_rfl) (by omega) w3.heap.size u6 L rfl (hown.more _) _ 1 1 [numR (y, (x : Int))] rfl (one_rws 2 53 _ _ rfl (numR_one (y, (x : Int)))) (by have := HLL.out; omega) (by have := HLL.out; omega) (Nat.le_trans hB.size (size_le_alloc _ _)) ?_
                     intro v5 w5 hown5 hg5
                     have hB5 : Below w3.heap.size w3 w5 := (hB.alloc hB.size _).grown hg5 (Nat.le_trans hB.size (size_le_alloc _ _)) (fun k hk => (hown.size k hk).1)
                     rw [← HNX.out] at hown5
                     clear hg5)
        go_roundw
        case rel => exact ⟨k + 1, by omega, by go_num, hown5, hB5⟩
        case measure => simp [intOf]; omega
      · have hx0' : (x : Int) ≤ 0 := by omega
        rw [if_neg hx0, List.append_nil] at hsn
        have hown := HO.out
        rw [← hsn] at hown
        have HO2 := Lib.hid hown
        clear hx hy hsn hlen hown hx0 HO
        go_wp2
        go_roundw
        case rel => exact ⟨k + 1, by omega, by go_num, HO2.out, hB⟩
        case measure => simp [intOf]; omega
    · have hkn : k = 8 := by omega
      have htk : f.nums.take k = f.nums := by rw [hkn]; rfl
      have htS : S.take k = S := by rw [hkn, ← HS.out, List.take_length]
      have hown := HO.out
      rw [htk, htS, ← HT.out] at hown
      obtain ⟨A, n, cap, rfl, hrw⟩ := hown.rws
      have hnms : Nms wr A n cap (rowI f S t) := ⟨hrw, HNM.out⟩
      have hca := (cat_any A n cap (rowI f S t) wr hnms).mono (R' := fun e w' => ∃ v, e = .returned (.tuple #[v, .bool true]) ∧ Own w' wr.heap.size v (catL (rowS f S t)) ∧ Below wr.heap.size wr w') fun e w' h => by
        obtain ⟨v, he, ho⟩ := h.1 HCAT.out
        rw [rowI_toN] at ho
        exact ⟨v, he, ho, h.2.2⟩
      have HCA := Lib.hid hca
      have hB3 := HB3.out
      have hB9 : Below w.heap.size w wr := hB3.trans (hB.mono hB3.size)
      have hFr := HF3.out.below hB
      have hctag := (hB.cell (p := ⟨w1.heap.size, 8, none⟩) hlt3).trans HS3.out.tag
      have hLl : (catL (rowS f S t)).length ≤ 1002 := by rw [rowS_sum _ _ _ HS.out]; have := HSM.out; omega
      obtain ⟨L, hL⟩ : ∃ L, L = catL (rowS f S t) := ⟨_, rfl⟩
      rw [← hL] at hLl
      have HL := Lib.hid hL
      have HLL := Lib.hid hLl
      have HFR := Lib.hid hFr
      clear htk htS hkn hown hrw hnms hca hB HO hL hLl hFr
      cases t with
      | false =>
        have hput : putF f = L := by rw [HPUT.out, HL.out]; simp
        have HP := Lib.hid hput
        clear hput
        go_wp2_with (go_at_call 23; (with_reducible refine HCA.out.mono ?_); rintro e w6 ⟨v6, rfl, hown6, hb6⟩
                     have hc6 := (hb6.cell (p := ⟨w1.heap.size, 8, none⟩) (block_lt_of_cell hctag)).trans hctag)
        go_ret2
        exact ⟨v6, rfl, by rw [HP.out, HL.out]; exact hown6.mono hB9.size, hB9.trans (hb6.mono hB9.size)⟩
      | true =>
        have hput : putF f = L ++ f.tag := by rw [HPUT.out, HL.out]; simp
        have HP := Lib.hid hput
        clear hput
        go_wp2_with (first
          | (go_at_call 23; (with_reducible refine HCA.out.mono ?_); rintro e w6 ⟨v6, rfl, hown6, hb6⟩
             have hc6 := (hb6.cell (p := ⟨w1.heap.size, 8, none⟩) (block_lt_of_cell hctag)).trans hctag
             have hbt6 := (HFR.out.below hb6).bts HOK.out
             rw [← HL.out] at hown6
             have hB6 := hB9.trans (hb6.mono hB9.size)
             clear hb6)
          | (at_builtin
             refine wpList_append_b rfl _ _ rfl w.heap.size v6 L rfl (hown6.mono hB9.size) _ 32 32 f.tag rfl hbt6 (by have := HLL.out; omega) hB6.size ?_
             intro v7 w7 hown7 hg7
             have hB7 : Below w.heap.size w w7 := hB6.grown hg7 hB6.size (fun k hk => (by have := (hown6.size k hk).1; have := hB9.size; omega))
             rw [← HP.out] at hown7
             clear hg7))
        go_ret2
        exact ⟨v7, rfl, hown7, hB7⟩
theorem put_plain_b (f : Fr) (w : World) (hok : f.ok) (b : Bool) (hp : plainB f = b) :
    Calls Try.prog 10 #[frV f] w fun e w' => GivesB (if b then putF f else []) b w e w' := by
  cases b with
  | true =>
    refine (put_plain f w hok hp).mono ?_
    rintro e w' ⟨v, rfl, ho, hb⟩
    exact ho.gives (putF_ok hok) hb
  | false =>
    have h0 : Calls Try.prog 10 #[frV f] w fun e w' => e = .returned (.tuple #[.slice none 0 0, .bool false]) ∧ Below w.heap.size w w' := by
      cases hk : kindB f.kind with
      | true => exact put_plain_no f w hok hk hp
      | false => exact put_kind f w hk
    exact h0.mono fun e w' ⟨he, hb⟩ => ⟨none, 0, 0, he, Bts.nil w', hb⟩
end Go.Proofs.Ytadcbikdbekmgaa
