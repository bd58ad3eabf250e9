/- Joined texts: The walk over the document's answer Plain, where a number is out of its range. The walk over the document's answer Plain. The walks over the document's answers Put and Body. The walk over the document's answer Read, where the bytes have a frame's form and no tag is read. -/
import Derived.Test.YtncedbjbooemjaaFtJI
import Derived.Test.YtncedbjbooemjaaFtJH
/- The walk over the document's answer Plain, where a number is out of its range. -/
namespace Go.Proofs.Ytncedbjbooemjaa
set_option linter.unusedVariables false
set_option linter.unusedSimpArgs false
open Go.RowKit

theorem far_cases {f : Fr} (h : (kindB f.kind && rangeB f) = false) : f.kind < 0 ∨ (0 ≤ f.kind ∧ 7 ≤ f.kind) ∨ (0 ≤ f.kind ∧ f.kind < 7 ∧ (f.user < 0 ∨ (0 ≤ f.user ∧ 255 < f.user) ∨ (0 ≤ f.user ∧ f.user ≤ 255 ∧ (f.epoch < 0 ∨ (0 ≤ f.epoch ∧ 1073741824 < f.epoch) ∨ (0 ≤ f.epoch ∧ f.epoch ≤ 1073741824 ∧ (f.cmd < 0 ∨ (0 ≤ f.cmd ∧ 255 < f.cmd) ∨ (0 ≤ f.cmd ∧ f.cmd ≤ 255 ∧ (f.arg < 0 ∨ (0 ≤ f.arg ∧ 65535 < f.arg))))))))) := by
  unfold kindB rangeB at h
  rw [Bool.and_eq_false_iff, decide_eq_false_iff_not, decide_eq_false_iff_not] at h
  omega
theorem far_plain {f : Fr} (h : (kindB f.kind && rangeB f) = false) : false = plainB f := by
  unfold plainB plainS
  rw [← Bool.and_assoc, h, Bool.false_and]

set_option maxRecDepth 100000 in
set_option maxHeartbeats 4000000 in
theorem rplain_no (f : Fr) (w : World) (h : (kindB f.kind && rangeB f) = false) :
    Calls Try.prog 24 #[frV f] w (fun e w' => e = .returned (.bool (plainB f)) ∧ Below w.heap.size w w') := by
  rw [← far_plain h]
  have hc := far_cases h
  clear h
  have hh := hasF f
  unfold frV
  obtain ⟨C, hC⟩ : ∃ C, C = frA f := ⟨_, rfl⟩
  rw [← hC] at hh ⊢
  obtain ⟨d0, d1, d2, d3, d4, d5, d6, d7⟩ := hh
  rcases f with ⟨kind, user, sess, cn, epoch, count, cmd, arg, tag⟩
  simp only at *
  clear hC
  rcases hc with k0 | ⟨k0, k1⟩ | ⟨k0, k1, u0 | ⟨u0, u1⟩ | ⟨u0, u1, e0 | ⟨e0, e1⟩ | ⟨e0, e1, c0 | ⟨c0, c1⟩ | ⟨c0, c1, a0 | ⟨a0, a1⟩⟩⟩⟩⟩
  all_goals
    go_enter Try.func24, Try.ntmps24
    go_wp2
    go_ret
    exact ⟨rfl, one_alloc _ _⟩
end Go.Proofs.Ytncedbjbooemjaa

/- The walk over the document's answer Plain. -/
namespace Go.Proofs.Ytncedbjbooemjaa
set_option linter.unusedVariables false
set_option linter.unusedSimpArgs false
open Go.RowKit

theorem wpList_eq_frs {ops : Array Oper} {rest : List Oper} {o : Oper} {a : Act} {w : World} {Q : Exit → Act → World → Prop} (op : BinOp) (x y : Operand) (ho : o.op = .binOp op 26 x y 26) (xs ys : Array Value) (hx : a.eval x = .agg xs) (hy : a.eval y = .agg ys) (E r : Bool) (hr : op = .eql ∧ r = E ∨ op = .neq ∧ r = !E)
    (hE : ∀ w, (Op.equalIn 10000 26 (.agg xs) (.agg ys)).run Try.prog w = .ok E w) (h : wpList Try.prog ops Q rest (a.put o.dst (.bool r)) w) (hw : Region.wanted o (yielded ops a.tmps) = true) : wpList Try.prog ops Q (o :: rest) a w :=
  wpList_step fun K hK => by
    rw [if_pos hw]
    unfold Oper.wp
    rw [run_eq_fr ho hx hy hr (hE w)]
    exact hK _ _ h
theorem there_tag {w : World} {k : Nat} {t : TypeId} {C : Array Value} {n : Nat} (h : w.heap[k]? = some (.cells C t (0, 0))) (hC : C.size = 40) (hn : n = 32) : w.there k 8 n := by
  subst hn
  intro j hj
  have := there_of h hC (8 + j) (by omega)
  rwa [Nat.zero_add] at this
theorem tag_set {w : World} {g : Nat} {t : TypeId} (f : Fr) (T : List Int) (hf : f.tag.length = 32) (hT : T.length = 32) (h : w.heap[g]? = some (.cells (frA f) t (0, 0))) :
    (w.setCells g 8 (byv T)).heap[g]? = some (.cells (frA { f with tag := T }) t (0, 0)) := by
  have h1 := setCells_heap g t (byv T) 8 w (frC f) h (by rw [byv_length, hT, frC_length hf]; omega)
  rw [h1]
  have e1 : (frC f).drop (8 + (byv T).length) = [] := List.drop_eq_nil_of_le (by rw [byv_length, hT, frC_length hf]; omega)
  rw [e1, List.append_nil]
  rfl
theorem snoc_fst (l : List (Int × Int)) (k : Nat) (h : k < l.length) : (l.take (k + 1)).map (·.1) = (l.take k).map (·.1) ++ [(l.getD k (0, 0)).1] := by
  rw [List.take_succ_eq_append_getElem h, List.map_append]
  simp [List.getD_eq_getElem?_getD, h]

set_option maxRecDepth 100000 in
set_option maxHeartbeats 4000000 in
theorem rplain_yes (f : Fr) (w : World) (hok : f.ok) (h : kindB f.kind = true) (hrg : rangeB f = true) :
    Calls Try.prog 24 #[frV f] w (fun e w' => e = .returned (.bool (plainB f)) ∧ Below w.heap.size w w') := by
  have hpos := pos_of (kind_pos h) hrg
  have hfd := fun w => fields_any f w hok hpos h
  have hmd := fun A n c w => made_any f hok h hrg A n c w
  rw [← nums_ints hpos hok] at hmd
  have hpl := plain_again hok h hrg
  have hTl : f.tag.length = 32 := hok.len
  have hGl : (againF f).tag.length = 32 := by unfold againF; simp only; split; exact hTl; rfl
  have heq := fun w => eq_frames (againF f) f hGl hTl w
  rw [← hpl] at heq
  have hyt : madeF f.kind.toNat (numsF f) = { againF f with tag := noTag } := by
    unfold againF
    rw [← made_tag f.kind.toNat (numsF f)]
  have hYl : (madeF f.kind.toNat (numsF f)).tag.length = 32 := by rw [made_tag]; rfl
  have hset := fun w g => tag_set (w := w) (g := g) (t := 26) (madeF f.kind.toNat (numsF f)) f.tag hYl hTl
  have hag : againF f = { madeF f.kind.toNat (numsF f) with tag := if tagK f.kind.toNat then f.tag else noTag } := rfl
  obtain ⟨t, ht⟩ : ∃ t, tagK f.kind.toNat = t := ⟨_, rfl⟩
  rw [ht] at hfd hag
  obtain ⟨F, hF⟩ : ∃ F, fieldsF f = F := ⟨_, rfl⟩
  rw [hF] at hfd hmd
  have hFl : F.length ≤ 4 := by rw [← hF]; unfold fieldsF; split <;> simp
  obtain ⟨E, hE⟩ : ∃ E, plainB f = E := ⟨_, rfl⟩
  rw [hE] at heq ⊢
  obtain ⟨G, hG⟩ : ∃ G, madeF f.kind.toNat (numsF f) = G := ⟨_, rfl⟩
  have hGt : G.tag = noTag := by rw [← hG]; exact made_tag _ _
  rw [hG] at hmd hset hag hYl
  have hCs : (frA f).size = 40 := frA_size hTl
  have hYs : (frA G).size = 40 := frA_size hYl
  have hY1 : (frA G).all (·.oneCell') = true := frA_one _
  have hrow : ∀ (w : World) g, w.heap[g]? = some (.cells (frA f) 26 (0, 0)) → w.rangeAt g 8 (byv f.tag) := fun w g h => (rowF_of h).range
  have hV1 : (byv f.tag).toArray.all (·.oneCell') = true := all_oneCell_toArray (byv_one f.tag)
  have hVl : (byv f.tag).length = 32 := by rw [byv_length, hTl]
  have hdk : (frA f)[0]? = some (.int .i64 f.kind) := rfl
  unfold frV at hfd hmd ⊢
  obtain ⟨k0, hk0⟩ : ∃ k, f.kind = k := ⟨_, rfl⟩
  rw [hk0] at hmd hdk
  obtain ⟨C, hC⟩ : ∃ C, frA f = C := ⟨_, rfl⟩
  rw [hC] at hfd hCs heq hrow hdk ⊢
  obtain ⟨Y, hY⟩ : ∃ Y, frA G = Y := ⟨_, rfl⟩
  rw [hY] at hmd hYs hY1 hset
  obtain ⟨U, hU⟩ : ∃ U, byv f.tag = U := ⟨_, rfl⟩
  rw [hU] at hrow hV1 hVl hset
  obtain ⟨V, hV⟩ : ∃ V, U.toArray = V := ⟨_, rfl⟩
  have hVs : V.size = 32 := by rw [← hV]; simpa using hVl
  have hVL : V.toList = U := by rw [← hV]
  rw [hV] at hV1
  have hzt : frA (againF f) = if t then frA { G with tag := f.tag } else Y := by
    rw [hag, ← hY]
    cases t with
    | false => rw [if_neg Bool.false_ne_true, if_neg Bool.false_ne_true, ← hGt]
    | true => rfl
  obtain ⟨Z, hZ⟩ : ∃ Z, frA (againF f) = Z := ⟨_, rfl⟩
  have hZs : Z.size = 40 := by rw [← hZ]; exact frA_size hGl
  rw [hZ] at heq hzt
  have hui : (Try.prog.info? 24).map (·.size) = some U.length := by rw [hVl]; kernel_rfl
  have hvi : (Try.prog.info? 24).map (·.size) = some V.size := by rw [hVs]; kernel_rfl
  obtain ⟨W, hW⟩ : ∃ W, frA { G with tag := f.tag } = W := ⟨_, rfl⟩
  rw [hW] at hset hzt
  have HFD := Lib.hid hfd
  have HMD := Lib.hid hmd
  have HEQ := Lib.hid heq
  have HSET := Lib.hid hset
  have HCS := Lib.hid hCs
  have HYS := Lib.hid hYs
  have HY1 := Lib.hid hY1
  have HZS := Lib.hid hZs
  have HROW := Lib.hid hrow
  have HV1 := Lib.hid hV1
  have HVS := Lib.hid hVs
  have HVL := Lib.hid hVL
  have HV := Lib.hid hV
  have HUI := Lib.hid hui
  have HVI := Lib.hid hvi
  have HZT := Lib.hid hzt
  have HDK := Lib.hid hdk
  have HFL := Lib.hid hFl
  have hfar : ¬ (k0 < 0) ∧ k0 < 7 ∧ 0 ≤ f.user ∧ f.user ≤ 255 ∧ 0 ≤ f.epoch ∧ f.epoch ≤ 1073741824 ∧ 0 ≤ f.cmd ∧ f.cmd ≤ 255 ∧ 0 ≤ f.arg ∧ f.arg ≤ 65535 := by
    have hr2 := hrg
    unfold rangeB at hr2
    rw [decide_eq_true_eq] at hr2
    have := kind_cases h
    rw [hk0] at this
    omega
  obtain ⟨f0, f1, f2, f3, f4, f5, f6, f7, f8, f9⟩ := hfar
  have hh := hasF f
  rw [hC] at hh
  obtain ⟨d0, d1, d2, d3, d4, d5, d6, d7⟩ := hh
  rw [hk0] at d0
  clear hfd hmd heq hset hCs hYs hY1 hZs hrow hV1 hVs hVL hV hui hvi hzt hdk hFl hF hE hG hGt hC hY hU hZ hW hVl hYl hGl hag hyt hpl ht hpos hTl h hrg hok
  rcases f with ⟨kind, user, sess, cn, epoch, count, cmd, arg, tag⟩
  simp only at *
  subst hk0
  go_enter Try.func24, Try.ntmps24
  go_wp2_with (first
    | ((with_reducible refine wpList_load_blk 26 _ rfl w.heap.size ?hx2 26 C (0, 0) _ (heap_alloc_new w _) Try.underlying26 ?hd2 (info_frame HCS.out) ?_ ?hw2); (case hx2 => rfl); (case hd2 => rfl); (case hw2 => rfl))
    | (go_at_call 30; (with_reducible refine (HFD.out _).mono ?_); rintro e w1 ⟨A1, m1, c1, rfl, hn1, hb1⟩))
  obtain rfl : F.length = m1 := hn1.len
  have HN1 := Lib.hid hn1
  have HB1 := Lib.hid hb1
  clear hn1 hb1
  go_loopw [5, 6] (fun v i wr => ∃ k : Nat, k ≤ F.length ∧ i = .int .i64 k ∧ OwnI .u64 22 wr w1.heap.size v ((F.take k).map (·.1)) ∧ Below w1.heap.size w1 wr) (fun _ i _ => F.length - (intOf i).toNat)
  case atStart => exact ⟨0, by omega, rfl, OwnI.nil _ _ _ _, Below.refl _ _⟩
  case round =>
    obtain ⟨k, hk, rfl, hown, hB⟩ := hrel
    by_cases hlt : k < F.length
    · obtain ⟨b, off, rfl, hc⟩ := HN1.out.cells (by omega)
      have hcell := (hB.cell (p := ⟨b, off + k * 2, none⟩) (block_lt_of_cell (hc k hlt).1)).trans (hc k hlt).1
      have hsn := snoc_fst F k hlt
      have hx0 := (HN1.out.at_ k hlt).1
      have hx1 := (HN1.out.at_ k hlt).2.1
      obtain ⟨x, hx⟩ : ∃ x, (F.getD k (0, 0)).1 = x := ⟨_, rfl⟩
      rw [hx] at hcell hsn hx0 hx1
      obtain ⟨L, hL⟩ : ∃ L, (F.take k).map (·.1) = L := ⟨_, rfl⟩
      have hLs : L.length ≤ 4 := by rw [← hL, List.length_map, List.length_take]; have := HFL.out; omega
      rw [hL] at hown hsn
      have HSN := Lib.hid hsn
      have hF4 := HFL.out
      have hk0 : (0 : Int) ≤ k := by omega
      have hk1 : (k : Int) < F.length := by omega
      clear hc hx hL hsn
      go_wp2_with (first
        | (at_builtin
           refine wpList_append_i rfl 66 22 .u64 8 _ _ rfl Try.underlying66 (by kernel_rfl) (by omega) w1.heap.size _ L rfl (hown.more _) _ 1 1 [x] rfl (one_its .u64 22 _ x) (by omega) (Nat.le_trans hB.size (size_le_alloc _ _)) ?_
           intro v5 w5 hown5 hg5
           have hB5 : Below w1.heap.size w1 w5 := (hB.alloc hB.size _).grown hg5 (Nat.le_trans hB.size (size_le_alloc _ _)) (fun k hk => (hown.size k hk).1)
           rw [← HSN.out] at hown5
           clear hg5))
      go_roundw
      case rel => exact ⟨k + 1, by omega, by go_num, hown5, hB5⟩
      case measure => simp [intOf]; omega
    · have hkn : k = F.length := by omega
      have htk : F.take k = F := by rw [hkn, List.take_length]
      have hge : ¬ ((k : Int) < F.length) := by omega
      rw [htk] at hown
      obtain ⟨A2, n2, c2, rfl, hits⟩ := hown.its
      have hB2 : Below (w.alloc (.cells C 26)).heap.size (w.alloc (.cells C 26)) wr := HB1.out.trans (hB.mono HB1.out.size)
      have hK2 : wr.cell? ⟨w.heap.size, 0, none⟩ = some (.int .i64 kind) := by rw [cell_of_row _ _ _ _ _ _ (after_alloc hB2)]; exact HDK.out
      have HITS := Lib.hid hits
      have HB2 := Lib.hid hB2
      clear hown htk hB hits hB2
      cases t with
      | false =>
        have hzt := HZT.out
        rw [if_neg Bool.false_ne_true] at hzt
        have HZU := Lib.hid hzt
        clear hzt HZT
        go_wp2_with (first
          | (go_at_call 32; (with_reducible refine (HMD.out _ _ _ _ HITS.out).mono ?_); rintro e w9 ⟨rfl, hb9⟩
             have hB9 := HB2.out.trans (hb9.mono HB2.out.size)
             have hW9 : Below w.heap.size w w9 := (after_one hB9).1)
          | ((with_reducible refine wpList_store_blk rfl 26 _ _ rfl w9.heap.size Y ?hx5 ?hy5 26 _ (heap_alloc_new w9 _) (info_frame HYS.out) ?hs5 HY1.out ?_); (case hx5 => rfl); (case hy5 => rfl); (case hs5 => rw [HYS.out]; rfl)
             intro w10 hg10 hX10 hs10
             have hlt9 : w.heap.size < w9.heap.size := by have := hB9.size; rw [size_next] at this; omega
             have hB10 : Below (w.alloc (.cells C 26)).heap.size (w.alloc (.cells C 26)) w10 := (hB9.alloc hB9.size _).grown hg10 (Nat.le_trans hB9.size (size_le_alloc _ _)) (fun g e => by cases e; exact hB9.size)
             have hC10 := after_alloc hB10
             have hW10 : Below w.heap.size w w10 := (after_one hB10).1
             rw [← HZU.out] at hX10
             clear hg10 hs10 hb9)
          | ((with_reducible refine wpList_load_blk 26 _ rfl w.heap.size ?hx6 26 C (0, 0) _ hC10 Try.underlying26 ?hd6 (info_frame HCS.out) ?_ ?hw6); (case hx6 => rfl); (case hd6 => rfl); (case hw6 => rfl))
          | ((with_reducible refine wpList_load_blk 26 _ rfl w9.heap.size ?hx7 26 Z (0, 0) _ hX10 Try.underlying26 ?hd7 (info_frame HZS.out) ?_ ?hw7); (case hx7 => rfl); (case hd7 => rfl); (case hw7 => rfl))
          | ((with_reducible refine wpList_eq_frs .eql _ _ rfl Z C ?hx8 ?hy8 E E (.inl ⟨rfl, rfl⟩) HEQ.out ?_ ?hw8); (case hx8 => rfl); (case hy8 => rfl); (case hw8 => rfl)))
        go_ret
        exact ⟨rfl, hW10⟩
      | true =>
        have hzt := HZT.out
        rw [if_pos rfl] at hzt
        have HZU := Lib.hid hzt
        clear hzt HZT
        go_wp2_with (first
          | (go_at_call 32; (with_reducible refine (HMD.out _ _ _ _ HITS.out).mono ?_); rintro e w9 ⟨rfl, hb9⟩
             have hB9 := HB2.out.trans (hb9.mono HB2.out.size)
             have hW9 : Below w.heap.size w w9 := (after_one hB9).1)
          | ((with_reducible refine wpList_store_blk rfl 26 _ _ rfl w9.heap.size Y ?hx5 ?hy5 26 _ (heap_alloc_new w9 _) (info_frame HYS.out) ?hs5 HY1.out ?_); (case hx5 => rfl); (case hy5 => rfl); (case hs5 => rw [HYS.out]; rfl)
             intro w10 hg10 hX10 hs10
             have hlt9 : w.heap.size < w9.heap.size := by have := hB9.size; rw [size_next] at this; omega
             have hB10 : Below (w.alloc (.cells C 26)).heap.size (w.alloc (.cells C 26)) w10 := (hB9.alloc hB9.size _).grown hg10 (Nat.le_trans hB9.size (size_le_alloc _ _)) (fun g e => by cases e; exact hB9.size)
             have hC10 := after_alloc hB10
             have hW10 : Below w.heap.size w w10 := (after_one hB10).1
             clear hg10 hs10 hb9)
          | ((with_reducible refine wpList_load_on 24 _ rfl w.heap.size 8 ?hx11 U V HV.out _ (HROW.out _ _ hC10) Try.underlying24 ?hd11 HUI.out ?_ ?hw11); (case hx11 => rfl); (case hd11 => rfl); (case hw11 => rfl))
          | ((with_reducible refine wpList_store_mid rfl 24 _ _ rfl w9.heap.size 8 V ?hx12 ?hy12 (there_tag hX10 HYS.out HVS.out) HVI.out HV1.out ?_); (case hx12 => rfl); (case hy12 => rfl)
             rw [HVL.out]
             have hX12 := HSET.out _ _ hX10
             have hC12 := (setCells_off (show w.heap.size ≠ w9.heap.size by omega) U 8 w10).trans hC10
             have hW12 := setCells_below hW9.size U 8 _ hW10
             rw [← HZU.out] at hX12
             obtain ⟨w12, hw12⟩ : ∃ w12, w12 = w10.setCells w9.heap.size 8 U := ⟨_, rfl⟩
             rw [← hw12] at hX12 hC12 hW12 ⊢
             clear hX10 hC10 hB10 hW10 hw12)
          | ((with_reducible refine wpList_load_blk 26 _ rfl w.heap.size ?hx6 26 C (0, 0) _ hC12 Try.underlying26 ?hd6 (info_frame HCS.out) ?_ ?hw6); (case hx6 => rfl); (case hd6 => rfl); (case hw6 => rfl))
          | ((with_reducible refine wpList_load_blk 26 _ rfl w9.heap.size ?hx7 26 Z (0, 0) _ hX12 Try.underlying26 ?hd7 (info_frame HZS.out) ?_ ?hw7); (case hx7 => rfl); (case hd7 => rfl); (case hw7 => rfl))
          | ((with_reducible refine wpList_eq_frs .eql _ _ rfl Z C ?hx8 ?hy8 E E (.inl ⟨rfl, rfl⟩) HEQ.out ?_ ?hw8); (case hx8 => rfl); (case hy8 => rfl); (case hw8 => rfl)))
        go_ret
        exact ⟨rfl, hW12⟩
end Go.Proofs.Ytncedbjbooemjaa

/- The walks over the document's answers Put and Body. -/
namespace Go.Proofs.Ytncedbjbooemjaa
set_option linter.unusedVariables false
set_option linter.unusedSimpArgs false
open Go.RowKit

theorem rplain_any (f : Fr) (w : World) (hok : f.ok) : Calls Try.prog 24 #[frV f] w (fun e w' => e = .returned (.bool (plainB f)) ∧ Below w.heap.size w w') := by
  cases h : (kindB f.kind && rangeB f) with
  | false => exact rplain_no f w h
  | true =>
    rw [Bool.and_eq_true] at h
    exact rplain_yes f w hok h.1 h.2

set_option maxRecDepth 100000 in
set_option maxHeartbeats 2000000 in
theorem rput_frame (f : Fr) (w : World) (hok : f.ok) (b : Bool) (hp : plainB f = b) :
    Calls Try.prog 11 #[frV f] w fun e w' => GivesB (if b then putF f else []) b w e w' := by
  have hpc := fun w => rplain_any f w hok
  rw [hp] at hpc
  have hCs : (frA f).size = 40 := frA_size hok.len
  have HOK := Lib.hid hok
  have hrow : ∀ (w : World) g, w.heap[g]? = some (.cells (frA f) 26 (0, 0)) → RowF w g f := fun w g h => rowF_of h
  cases b with
  | false =>
    unfold frV at hpc ⊢
    obtain ⟨C, hC⟩ : ∃ C, frA f = C := ⟨_, rfl⟩
    rw [hC] at hpc hCs ⊢
    have HPC := Lib.hid hpc
    have HCS := Lib.hid hCs
    clear hpc hCs hC hok hp hrow
    go_enter Try.func11, Try.ntmps11
    go_wp2_with (first
      | ((with_reducible refine wpList_load_blk 26 _ rfl w.heap.size ?hx2 26 C (0, 0) _ (heap_alloc_new w _) Try.underlying26 ?hd2 (info_frame HCS.out) ?_ ?hw2); (case hx2 => rfl); (case hd2 => rfl); (case hw2 => rfl))
      | (go_at_call 24; (with_reducible refine (HPC.out _).mono ?_); rintro e w1 ⟨rfl, hb1⟩))
    go_ret2
    exact ⟨none, 0, 0, rfl, Bts.nil _, (after_one hb1).1⟩
  | true =>
    have hfc := fun w => front_any f w hok hp
    have hput : putF f = frontF f ++ if tagK f.kind.toNat then f.tag else [] := rfl
    have hPok := putF_ok hok
    have hFl : (frontF f).length ≤ 1000 := by
      have h1 := (plain_facts hp).1
      have h2 := fields_len h1
      rw [front_is h1]
      simp only [List.length_append, List.length_cons, List.length_nil]
      omega
    unfold FrontPost at hfc
    obtain ⟨t, ht⟩ : ∃ t, tagK f.kind.toNat = t := ⟨_, rfl⟩
    rw [ht] at hfc hput
    obtain ⟨P, hP⟩ : ∃ P, putF f = P := ⟨_, rfl⟩
    rw [hP] at hput hPok ⊢
    obtain ⟨L, hL⟩ : ∃ L, frontF f = L := ⟨_, rfl⟩
    rw [hL] at hfc hput hFl
    unfold frV at hpc hfc ⊢
    have hbt : ∀ (w : World) g, w.heap[g]? = some (.cells (frA f) 26 (0, 0)) → Bts w (some ⟨g, 8, none⟩) 32 32 f.tag := fun w g h => (hrow w g h).bts hok
    obtain ⟨C, hC⟩ : ∃ C, frA f = C := ⟨_, rfl⟩
    rw [hC] at hpc hCs hfc hbt ⊢
    have HPC := Lib.hid hpc
    have HFC := Lib.hid hfc
    have HCS := Lib.hid hCs
    have HBT := Lib.hid hbt
    have HPO := Lib.hid hPok
    have HPUT := Lib.hid hput
    have HFL := Lib.hid hFl
    clear hpc hCs hC hok hp hrow hfc hbt hPok hP hL ht hput hFl
    cases t with
    | false =>
      have hput := HPUT.out
      rw [if_neg Bool.false_ne_true, List.append_nil] at hput
      have HPU := Lib.hid hput
      clear hput HPUT
      go_enter Try.func11, Try.ntmps11
      go_wp2_with (first
        | (go_at_call 24; (with_reducible refine (HPC.out _).mono ?_); rintro e w1 ⟨rfl, hb1⟩
           have hC1 := after_alloc hb1)
        | (go_at_call 25; (with_reducible refine (HFC.out _).mono ?_); rintro e w2 ⟨v2, rfl, ho2, hb2⟩
           have hB2 := hb1.trans (hb2.mono hb1.size))
        | ((with_reducible refine wpList_load_blk 26 _ rfl w.heap.size ?hx3 26 C (0, 0) _ hC1 Try.underlying26 ?hd3 (info_frame HCS.out) ?_ ?hw3); (case hx3 => rfl); (case hd3 => rfl); (case hw3 => rfl))
        | ((with_reducible refine wpList_load_blk 26 _ rfl w.heap.size ?hx2 26 C (0, 0) _ (heap_alloc_new w _) Try.underlying26 ?hd2 (info_frame HCS.out) ?_ ?hw2); (case hx2 => rfl); (case hd2 => rfl); (case hw2 => rfl)))
      go_ret2
      have ho3 : Own w2 w.heap.size v2 P := by rw [HPU.out]; exact ho2.mono (after_one hb1).1.size
      exact Own.gives ho3 HPO.out (after_one hB2).1
    | true =>
      have hput := HPUT.out
      rw [if_pos rfl] at hput
      have HPU := Lib.hid hput
      clear hput HPUT
      go_enter Try.func11, Try.ntmps11
      go_wp2_with (first
        | (go_at_call 24; (with_reducible refine (HPC.out _).mono ?_); rintro e w1 ⟨rfl, hb1⟩
           have hC1 := after_alloc hb1)
        | (go_at_call 25; (with_reducible refine (HFC.out _).mono ?_); rintro e w2 ⟨v2, rfl, ho2, hb2⟩
           have hB2 := hb1.trans (hb2.mono hb1.size)
           have hT2 := HBT.out _ _ (after_alloc hB2)
           have hW2 := (after_one hB2).1
           have ho2 := ho2.mono (after_one hb1).1.size
           have hLs : L.length ≤ 1000 := HFL.out)
        | ((with_reducible refine wpList_load_blk 26 _ rfl w.heap.size ?hx3 26 C (0, 0) _ hC1 Try.underlying26 ?hd3 (info_frame HCS.out) ?_ ?hw3); (case hx3 => rfl); (case hd3 => rfl); (case hw3 => rfl))
        | ((with_reducible refine wpList_load_blk 26 _ rfl w.heap.size ?hx2 26 C (0, 0) _ (heap_alloc_new w _) Try.underlying26 ?hd2 (info_frame HCS.out) ?_ ?hw2); (case hx2 => rfl); (case hd2 => rfl); (case hw2 => rfl))
        | (at_builtin
           refine wpList_append_b rfl _ _ rfl w.heap.size v2 L rfl ho2 _ 32 32 f.tag rfl hT2 (by omega) hW2.size ?_
           intro v7 w7 hown7 hg7
           have hB7 : Below w.heap.size w w7 := hW2.grown hg7 hW2.size (fun k hk => (ho2.size k hk).1)
           rw [← HPU.out] at hown7
           clear hg7))
      go_ret2
      exact Own.gives hown7 HPO.out hB7
end Go.Proofs.Ytncedbjbooemjaa

/- The walk over the document's answer Read, where the bytes have a frame's form and no tag is read. -/
namespace Go.Proofs.Ytncedbjbooemjaa
set_option linter.unusedVariables false
set_option linter.unusedSimpArgs false
open Go.RowKit

theorem snoc_snd (l : List (Int × Int)) (k : Nat) (h : k < l.length) : (l.take (k + 1)).map (·.2) = (l.take k).map (·.2) ++ [(l.getD k (0, 0)).2] := by
  rw [List.take_succ_eq_append_getElem h, List.map_append]
  simp [List.getD_eq_getElem?_getD, h]
set_option maxRecDepth 100000 in
set_option maxHeartbeats 8000000 in
theorem rread_bare (bb off n c : Nat) (l : List Int) (w : World) (hb : Bts w (some ⟨bb, off, none⟩) n c l) (h3 : 3 ≤ n) (h64 : n ≤ 64) (k : Nat) (hk7 : k < 7) (hk : l.getD 2 0 = (k : Int))
    (hwh : Calls Try.prog 29 #[.slice (some ⟨bb, off, none⟩) n c] (w.alloc (.cells (frA Fr.zero) 26)) fun e w' => e = .returned (.int .i64 (n : Int)) ∧ ∃ j, w' = (w.alloc (.cells (frA Fr.zero) 26)).drewN j)
    (Z Ck Y V X : Array Value) (E : Int) (hZ : frA Fr.zero = Z) (hzb : Try.prog.built 26 [] = some Z) (hZs : Z.size = 40) (hZ1 : Z.all (·.oneCell') = true) (hkb : Try.prog.built 26 [(0, .int .i64 (k : Int))] = some Ck)
    (F : List (Int × Int)) (t : Bool) (hfd : ∀ w, Calls Try.prog 30 #[.agg Ck] w (GivesNums F t w)) (hFl : F.length ≤ 4) (KS : List Nat) (hks : F.map (·.2) = ints KS) (hok : okSizes KS)
    (A5 : Option Addr) (N3 C3 M : Nat) (hn3 : n = N3 + 3) (hfrom : ∀ w : World, (Instr.slice 27 (.slice (some ⟨bb, off, none⟩) n c) (some (.int .i64 3)) none none).run Try.prog w = .ok (.slice A5 N3 C3) w)
    (T R : List Int) (hmd : KS.sum = M → ∀ (A : Option Addr) (n c : Nat) (w : World), Its .u64 w A n c (ints (cutL KS R)) → Calls Try.prog 32 #[.int .i64 (k : Int), .slice A n c] w fun e w' => e = .returned (.agg Y) ∧ Below w.heap.size w w')
    (hYs : Y.size = 40) (hY1 : Y.all (·.oneCell') = true) (hset : ∀ (w : World) (g : Nat), w.heap[g]? = some (.cells Y 26 (0, 0)) → (w.setCells g 8 (byv T)).heap[g]? = some (.cells V 26 (0, 0)))
    (hVs : V.size = 40) (hV1 : V.all (·.oneCell') = true) (hTl : T.length = 32) (P : List Int) (cb : Bool) (hput : KS.sum = M → ∀ w, Calls Try.prog 11 #[.agg V] w fun e w' => GivesB P cb w e w')
    (ho : (cutB (ints KS) M = false ∧ X = Z ∧ E = 3) ∨ (KS.sum = M ∧ ((cb = false ∧ X = Z ∧ E = 3) ∨ (cb = true ∧ ((bstr P).toList == (bstr l).toList) = false ∧ X = Z ∧ E = 3) ∨ (cb = true ∧ bstr P = bstr l ∧ X = V ∧ E = 0))))
    (hbR : Bts w A5 M C3 R) (hM : M = N3) (hcase : t = false ∨ (t = true ∧ N3 < 32)) (hT : T = noTag) :
    Calls Try.prog 13 #[.slice (some ⟨bb, off, none⟩) n c] w fun e w' => e = .returned (.tuple #[.agg X, .int .i64 E]) ∧ Below w.heap.size w w' := by
  have hcell : ∀ w' : World, Below (w.alloc (.cells (frA Fr.zero) 26)).heap.size (w.alloc (.cells (frA Fr.zero) 26)) w' → w'.cell? ⟨bb, off + 2, none⟩ = some (.int .u8 (k : Int)) := fun w' h => by
    obtain ⟨b0, o0, hA, hc⟩ := hb.at_ (by omega)
    cases hA
    have h2 := hc 2 (by omega)
    rw [hk] at h2
    exact ((after_one h).1.cell (p := ⟨bb, off + 2, none⟩) (block_lt_of_cell h2)).trans h2
  have hbw : ∀ w' : World, Below (w.alloc (.cells (frA Fr.zero) 26)).heap.size (w.alloc (.cells (frA Fr.zero) 26)) w' → Bts w' (some ⟨bb, off, none⟩) n c l := fun w' h => hb.below (after_one h).1
  have hzw : ∀ w' : World, Below (w.alloc (.cells (frA Fr.zero) 26)).heap.size (w.alloc (.cells (frA Fr.zero) 26)) w' → w'.heap[w.heap.size]? = some (.cells Z 26 (0, 0)) := fun w' h => by rw [← hZ]; exact after_alloc h
  have hcv : ∀ w' : World, Below (w.alloc (.cells (frA Fr.zero) 26)).heap.size (w.alloc (.cells (frA Fr.zero) 26)) w' → (convert 27 9 (.slice (some ⟨bb, off, none⟩) n c)).run Try.prog w' = .ok (.string (bstr l)) w' := fun w' h => conv_bts (hb.below (after_one h).1)
  have hrw : ∀ w' : World, Below (w.alloc (.cells (frA Fr.zero) 26)).heap.size (w.alloc (.cells (frA Fr.zero) 26)) w' → Bts w' A5 M C3 R := fun w' h => hbR.below (after_one h).1
  have hks4 : KS.length ≤ 40 := by
    have h1 := congrArg List.length hks
    rw [List.length_map, ints_length] at h1
    omega
  have hx0 : 0 ≤ (k : Int) := by omega
  have hx1 : (k : Int) < 256 := by omega
  have hx2 : (k : Int) < 7 := by omega
  have hn64 : (n : Int) ≤ 64 := by omega
  have hn0 : ¬ (n : Int) < 0 := by omega
  have hnn3 : ¬ (n : Int) < 3 := by omega
  have hnn4 : (3 : Int) ≤ n := by omega
  have hnen : ((n : Int) != (n : Int)) = false := by simp
  have hIl : (idv T).size = 32 := by rw [idv_size, hTl]
  have hI1 : (idv T).all (·.oneCell') = true := all_oneCell_toArray (byv_one T)
  have hIT : (idv T).toList = byv T := rfl
  have hIL2 : (byv T).toArray = idv T := rfl
  have hUl : (byv T).length = 32 := by rw [byv_length, hTl]
  obtain ⟨I, hI⟩ : ∃ I, idv T = I := ⟨_, rfl⟩
  have hrow : ∀ (w : World) g, RowB w g 24 T → w.heap[g]? = some (.cells I 24 (0, 0)) := fun w g h => by rw [← hI]; exact h
  rw [hI] at hIl hI1 hIT hIL2
  obtain ⟨U, hU⟩ : ∃ U, byv T = U := ⟨_, rfl⟩
  rw [hU] at hIT hIL2 hset hUl
  obtain ⟨s1, hs1⟩ : ∃ z, bstr P = z := ⟨_, rfl⟩
  obtain ⟨s2, hs2⟩ : ∃ z, bstr l = z := ⟨_, rfl⟩
  have hcp : ∀ (w' : World) A m c, Bts w' A m c P → (convert 27 9 (.slice A m c)).run Try.prog w' = .ok (.string s1) w' := fun w' A m c h => by rw [← hs1]; exact conv_bts h
  rw [hs1, hs2] at ho
  rw [hs2] at hcv
  have HCELL := Lib.hid hcell
  have HBW := Lib.hid hbw
  have HZW := Lib.hid hzw
  have HCV := Lib.hid hcv
  have HRW := Lib.hid hrw
  have HWH := Lib.hid hwh
  have HZB := Lib.hid hzb
  have HZS := Lib.hid hZs
  have HZ1 := Lib.hid hZ1
  have HKB := Lib.hid hkb
  have HFD := Lib.hid hfd
  have HFL := Lib.hid hFl
  have HKSM := Lib.hid hks
  have HOK := Lib.hid hok
  have HMD := Lib.hid hmd
  have HYS := Lib.hid hYs
  have HY1 := Lib.hid hY1
  have HSET := Lib.hid hset
  have HVS := Lib.hid hVs
  have HV1 := Lib.hid hV1
  have HPUT := Lib.hid hput
  have HKS4 := Lib.hid hks4
  have HIS := Lib.hid hIl
  have HI1 := Lib.hid hI1
  have HIT := Lib.hid hIT
  have HROW := Lib.hid hrow
  have HCP := Lib.hid hcp
  have HO := Lib.hid ho
  have HUL := Lib.hid hUl
  have HM := Lib.hid hM
  have HT := Lib.hid hT
  have HCASE := Lib.hid hcase
  clear hcell hbw hzw hcv hrw hwh hzb hZs hZ1 hkb hfd hFl hks hok hmd hYs hY1 hset hVs hV1 hput hks4 hIl hI1 hIT hrow hcp ho hUl hM hT hcase hn3 hb hk hk7 h3 h64 hZ hI hU hs1 hs2 hIL2 hTl hbR
  go_enter Try.func13, Try.ntmps13
  go_wp2_with (first
    | (go_at_call 29; refine HWH.out.mono ?_; rintro e w1 ⟨rfl, j, hw1⟩
       have hB1 : Below (w.alloc (.cells (frA Fr.zero) 26)).heap.size (w.alloc (.cells (frA Fr.zero) 26)) w1 := by rw [hw1]; exact below_drewN (Below.refl _ _) _
       have hc1 := HCELL.out w1 hB1
       clear hw1)
    | ((with_reducible refine wpList_build_to rfl 26 _ rfl _ Ck ?hb3 HKB.out ?_); (case hb3 => rfl))
    | (go_at_call 30; (with_reducible refine (HFD.out _).mono ?_); rintro e w2 ⟨A2, m2, c2, rfl, hn2, hb2⟩
       have hB2 := hB1.trans (hb2.mono hB1.size)
       clear hb2 hc1))
  obtain rfl : F.length = m2 := hn2.len
  have HN2 := Lib.hid hn2
  have HB2 := Lib.hid hB2
  clear hn2 hB1 hB2
  go_loopw [7, 8] (fun v i wr => ∃ k : Nat, k ≤ F.length ∧ i = .int .i64 k ∧ OwnI .i64 3 wr w2.heap.size v ((F.take k).map (·.2)) ∧ Below w2.heap.size w2 wr) (fun _ i _ => F.length - (intOf i).toNat)
  case atStart => exact ⟨0, by omega, rfl, OwnI.nil _ _ _ _, Below.refl _ _⟩
  case round =>
    obtain ⟨q, hq, rfl, hown, hB⟩ := hrel
    by_cases hlt : q < F.length
    · obtain ⟨b, off, rfl, hc⟩ := HN2.out.cells (by omega)
      have hcell := (hB.cell (p := ⟨b, off + q * 2 + 1, none⟩) (block_lt_of_cell (hc q hlt).2)).trans (hc q hlt).2
      have hsn := snoc_snd F q hlt
      obtain ⟨x, hx⟩ : ∃ x, (F.getD q (0, 0)).2 = x := ⟨_, rfl⟩
      rw [hx] at hcell hsn
      obtain ⟨L, hL⟩ : ∃ L, (F.take q).map (·.2) = L := ⟨_, rfl⟩
      have hLs : L.length ≤ 4 := by rw [← hL, List.length_map, List.length_take]; have := HFL.out; omega
      rw [hL] at hown hsn
      have HSN := Lib.hid hsn
      have hF4 := HFL.out
      have hk0 : (0 : Int) ≤ q := by omega
      have hk1 : (q : Int) < F.length := by omega
      clear hc hx hL hsn
      go_wp2_with (first
        | (at_builtin
           refine wpList_append_i rfl 44 3 .i64 8 _ _ rfl Try.underlying44 (by kernel_rfl) (by omega) w2.heap.size _ L rfl (hown.more _) _ 1 1 [x] rfl (one_its .i64 3 _ x) (by omega) (Nat.le_trans hB.size (size_le_alloc _ _)) ?_
           intro v5 w5 hown5 hg5
           have hB5 : Below w2.heap.size w2 w5 := (hB.alloc hB.size _).grown hg5 (Nat.le_trans hB.size (size_le_alloc _ _)) (fun k hk => (hown.size k hk).1)
           rw [← HSN.out] at hown5
           clear hg5))
      go_roundw
      case rel => exact ⟨q + 1, by omega, by go_num, hown5, hB5⟩
      case measure => simp [intOf]; omega
    · have hkn : q = F.length := by omega
      have htk : (F.take q).map (·.2) = ints KS := by rw [hkn, List.take_length, HKSM.out]
      have hge : ¬ ((q : Int) < F.length) := by omega
      rw [htk] at hown
      obtain ⟨A3, n3, c3, rfl, hits⟩ := hown.its
      have hB3 : Below (w.alloc (.cells (frA Fr.zero) 26)).heap.size (w.alloc (.cells (frA Fr.zero) 26)) wr := HB2.out.trans (hB.mono HB2.out.size)
      have hgt : wr.heap.size < wr.heap.size + 1 := Nat.lt_succ_self _
      have hlo : (w.alloc (.cells (frA Fr.zero) 26)).heap.size ≤ wr.heap.size := hB3.size
      have hM := HM.out
      have hT := HT.out
      have hcase := HCASE.out
      clear HM HT HCASE
      subst hM hT
      obtain ⟨w4, hw4⟩ : ∃ z, wr.alloc (.cells (idv noTag) 24) = z := ⟨_, rfl⟩
      have hT4 : RowB w4 wr.heap.size 24 noTag := by rw [← hw4]; exact heap_alloc_new wr _
      have hits4 : Its .i64 w4 A3 n3 c3 (ints KS) := by rw [← hw4]; exact hits.more _
      have hB4 : Below (w.alloc (.cells (frA Fr.zero) 26)).heap.size (w.alloc (.cells (frA Fr.zero) 26)) w4 := by rw [← hw4]; exact hB3.alloc hB3.size _
      have hw5 : wr.alloc (.cells #[.int .u8 0, .int .u8 0, .int .u8 0, .int .u8 0, .int .u8 0, .int .u8 0, .int .u8 0, .int .u8 0, .int .u8 0, .int .u8 0, .int .u8 0, .int .u8 0, .int .u8 0, .int .u8 0, .int .u8 0, .int .u8 0, .int .u8 0, .int .u8 0, .int .u8 0, .int .u8 0, .int .u8 0, .int .u8 0, .int .u8 0, .int .u8 0, .int .u8 0, .int .u8 0, .int .u8 0, .int .u8 0, .int .u8 0, .int .u8 0, .int .u8 0, .int .u8 0] 24) = w4 := hw4
      have HW5 := Lib.hid hw5
      have HT4 := Lib.hid hT4
      have HITS4 := Lib.hid hits4
      have HB4 := Lib.hid hB4
      clear hown htk hits hB hB3 hlt hq hkn hw4 hw5 hT4 hits4 hB4 HN2
      rcases hcase with rfl | ⟨rfl, hN⟩
      all_goals
        try have hN2 : ¬ (32 : Int) ≤ M := by omega
        go_wp2_with fail
        rw [HW5.out]
        have hT4 := HT4.out
        have hits4 := HITS4.out
        have hB4 := HB4.out
        rcases HO.out with ⟨hcut, rfl, rfl⟩ | ⟨hsum, ⟨rfl, rfl, rfl⟩ | ⟨rfl, hne, rfl, rfl⟩ | ⟨rfl, rfl, rfl, rfl⟩⟩
        · clear HO
          go_wp2_with (first
            | (go_at_call 31; (with_reducible refine (rcut_no A5 A3 M C3 n3 c3 R (ints KS) w4 (HRW.out _ hB4) hits4 hcut).mono ?_); rintro e w5 ⟨rfl, rfl⟩
               have hZ9 := HZW.out _ hB4)
            | ((with_reducible refine wpList_build_to rfl 26 _ rfl _ X ?hb14 HZB.out ?_); (case hb14 => rfl))
            | ((with_reducible refine wpList_store_blk rfl 26 _ _ rfl w.heap.size X ?hx16 ?hy16 26 X hZ9 (info_frame HZS.out) rfl HZ1.out ?_); (case hx16 => rfl); (case hy16 => rfl)
               intro w10 hg10 hX10 hs10))
          refine bodyPost_ret (v := .tuple #[.agg X, .int .i64 3]) ?_ ?_ ?_
          · exact results_blk_tmp Try.results13 _ _ _ w.heap.size 26 _ (0, 0) _ rfl hX10 Try.underlying26 rfl (info_frame HZS.out) _ rfl
          · rfl
          · exact ⟨rfl, (after_one hB4).1.grown hg10 (after_one hB4).1.size (fun k e => by cases e; exact Nat.le_refl _)⟩
        · clear HO
          go_wp2_with (first
            | (go_at_call 31; (with_reducible refine (rcut_yes A5 A3 M C3 n3 c3 R KS w4 (HRW.out _ hB4) hits4 HOK.out HKS4.out hsum).mono ?_); rintro e w5 ⟨v5, rfl, hown5, hb5⟩
               obtain ⟨A7, n7, c7, rfl, hits5⟩ := hown5.its
               have hB5 := hB4.trans (hb5.mono hB4.size)
               have hT5 := hT4.keep hb5
               have hc5 := HCELL.out _ hB5
               clear hown5 hb5)
            | (go_at_call 32; (with_reducible refine (HMD.out hsum _ _ _ _ hits5).mono ?_); rintro e w6 ⟨rfl, hb6⟩
               have hB6 := hB5.trans (hb6.mono hB5.size)
               have hT6 := hT5.keep hb6
               clear hb6 hT5)
            | ((with_reducible refine wpList_store_blk rfl 26 _ _ rfl w6.heap.size Y ?hx5 ?hy5 26 _ (heap_alloc_new w6 _) (info_frame HYS.out) ?hs5 HY1.out ?_); (case hx5 => rfl); (case hy5 => rfl); (case hs5 => rw [HYS.out]; rfl)
               intro w7 hg7 hX7 hs7
               have hB7 : Below (w.alloc (.cells (frA Fr.zero) 26)).heap.size (w.alloc (.cells (frA Fr.zero) 26)) w7 := (hB6.alloc hB6.size _).grown hg7 (Nat.le_trans hB6.size (size_le_alloc _ _)) (fun g e => by cases e; exact hB6.size)
               have hlt6 := hT6.lt
               have hT7 := HROW.out _ _ ((hT6.more _).grown hg7 (ne_some (Nat.ne_of_lt hT6.lt)))
               clear hg7 hs7 hT6)
            | ((with_reducible refine wpList_load_blk 24 _ rfl wr.heap.size ?hx11 24 I (0, 0) _ hT7 Try.underlying24 ?hd11 (info_id HIS.out) ?_ ?hw11); (case hx11 => rfl); (case hd11 => rfl); (case hw11 => rfl))
            | ((with_reducible refine wpList_store_mid rfl 24 _ _ rfl w6.heap.size 8 I ?hx12 ?hy12 (there_tag hX7 HYS.out HIS.out) (info_id HIS.out) HI1.out ?_); (case hx12 => rfl); (case hy12 => rfl)
               rw [HIT.out]
               have hX8 := HSET.out _ _ hX7
               have hB8 := setCells_below hB6.size U 8 _ hB7
               obtain ⟨w8, hw8⟩ : ∃ w8, w8 = w7.setCells w6.heap.size 8 U := ⟨_, rfl⟩
               rw [← hw8] at hX8 hB8 ⊢
               clear hX7 hT7 hB7 hw8)
            | ((with_reducible refine wpList_load_blk 26 _ rfl w6.heap.size ?hx13 26 V (0, 0) _ hX8 Try.underlying26 ?hd13 (info_frame HVS.out) ?_ ?hw13); (case hx13 => rfl); (case hd13 => rfl); (case hw13 => rfl))
            | (go_at_call 11; (with_reducible refine (HPUT.out hsum _).mono ?_); rintro e w9 ⟨A9, m9, c9, rfl, hv9, hb9⟩
               have hB9 := hB8.trans (hb9.mono hB8.size)
               have hZ9 := HZW.out _ hB9
               have hX9 := (hb9.block _ (Array.getElem?_eq_some_iff.1 hX8).1).trans hX8
               have hk1 := HCP.out _ _ _ _ hv9
               have hk2 := HCV.out _ hB9
               clear hX8 hv9 hb9)
            | ((with_reducible refine wpList_build_to rfl 26 _ rfl _ X ?hb14 HZB.out ?_); (case hb14 => rfl))
            | ((with_reducible refine wpList_store_blk rfl 26 _ _ rfl w.heap.size X ?hx16 ?hy16 26 X hZ9 (info_frame HZS.out) rfl HZ1.out ?_); (case hx16 => rfl); (case hy16 => rfl)
               intro w10 hg10 hX10 hs10))
          refine bodyPost_ret (v := .tuple #[.agg X, .int .i64 3]) ?_ ?_ ?_
          · exact results_blk_tmp Try.results13 _ _ _ w.heap.size 26 _ (0, 0) _ rfl hX10 Try.underlying26 rfl (info_frame HZS.out) _ rfl
          · rfl
          · exact ⟨rfl, (after_one hB9).1.grown hg10 (after_one hB9).1.size (fun k e => by cases e; exact Nat.le_refl _)⟩
        · have hne2 : (s1.toList != s2.toList) = true := by simp only [bne, hne]; rfl
          clear HO
          go_wp2_with (first
            | (go_at_call 31; (with_reducible refine (rcut_yes A5 A3 M C3 n3 c3 R KS w4 (HRW.out _ hB4) hits4 HOK.out HKS4.out hsum).mono ?_); rintro e w5 ⟨v5, rfl, hown5, hb5⟩
               obtain ⟨A7, n7, c7, rfl, hits5⟩ := hown5.its
               have hB5 := hB4.trans (hb5.mono hB4.size)
               have hT5 := hT4.keep hb5
               have hc5 := HCELL.out _ hB5
               clear hown5 hb5)
            | (go_at_call 32; (with_reducible refine (HMD.out hsum _ _ _ _ hits5).mono ?_); rintro e w6 ⟨rfl, hb6⟩
               have hB6 := hB5.trans (hb6.mono hB5.size)
               have hT6 := hT5.keep hb6
               clear hb6 hT5)
            | ((with_reducible refine wpList_store_blk rfl 26 _ _ rfl w6.heap.size Y ?hx5 ?hy5 26 _ (heap_alloc_new w6 _) (info_frame HYS.out) ?hs5 HY1.out ?_); (case hx5 => rfl); (case hy5 => rfl); (case hs5 => rw [HYS.out]; rfl)
               intro w7 hg7 hX7 hs7
               have hB7 : Below (w.alloc (.cells (frA Fr.zero) 26)).heap.size (w.alloc (.cells (frA Fr.zero) 26)) w7 := (hB6.alloc hB6.size _).grown hg7 (Nat.le_trans hB6.size (size_le_alloc _ _)) (fun g e => by cases e; exact hB6.size)
               have hlt6 := hT6.lt
               have hT7 := HROW.out _ _ ((hT6.more _).grown hg7 (ne_some (Nat.ne_of_lt hT6.lt)))
               clear hg7 hs7 hT6)
            | ((with_reducible refine wpList_load_blk 24 _ rfl wr.heap.size ?hx11 24 I (0, 0) _ hT7 Try.underlying24 ?hd11 (info_id HIS.out) ?_ ?hw11); (case hx11 => rfl); (case hd11 => rfl); (case hw11 => rfl))
            | ((with_reducible refine wpList_store_mid rfl 24 _ _ rfl w6.heap.size 8 I ?hx12 ?hy12 (there_tag hX7 HYS.out HIS.out) (info_id HIS.out) HI1.out ?_); (case hx12 => rfl); (case hy12 => rfl)
               rw [HIT.out]
               have hX8 := HSET.out _ _ hX7
               have hB8 := setCells_below hB6.size U 8 _ hB7
               obtain ⟨w8, hw8⟩ : ∃ w8, w8 = w7.setCells w6.heap.size 8 U := ⟨_, rfl⟩
               rw [← hw8] at hX8 hB8 ⊢
               clear hX7 hT7 hB7 hw8)
            | ((with_reducible refine wpList_load_blk 26 _ rfl w6.heap.size ?hx13 26 V (0, 0) _ hX8 Try.underlying26 ?hd13 (info_frame HVS.out) ?_ ?hw13); (case hx13 => rfl); (case hd13 => rfl); (case hw13 => rfl))
            | (go_at_call 11; (with_reducible refine (HPUT.out hsum _).mono ?_); rintro e w9 ⟨A9, m9, c9, rfl, hv9, hb9⟩
               have hB9 := hB8.trans (hb9.mono hB8.size)
               have hZ9 := HZW.out _ hB9
               have hX9 := (hb9.block _ (Array.getElem?_eq_some_iff.1 hX8).1).trans hX8
               have hk1 := HCP.out _ _ _ _ hv9
               have hk2 := HCV.out _ hB9
               clear hX8 hv9 hb9)
            | ((with_reducible refine wpList_build_to rfl 26 _ rfl _ X ?hb14 HZB.out ?_); (case hb14 => rfl))
            | ((with_reducible refine wpList_store_blk rfl 26 _ _ rfl w.heap.size X ?hx16 ?hy16 26 X hZ9 (info_frame HZS.out) rfl HZ1.out ?_); (case hx16 => rfl); (case hy16 => rfl)
               intro w10 hg10 hX10 hs10))
          refine bodyPost_ret (v := .tuple #[.agg X, .int .i64 3]) ?_ ?_ ?_
          · exact results_blk_tmp Try.results13 _ _ _ w.heap.size 26 _ (0, 0) _ rfl hX10 Try.underlying26 rfl (info_frame HZS.out) _ rfl
          · rfl
          · exact ⟨rfl, (after_one hB9).1.grown hg10 (after_one hB9).1.size (fun k e => by cases e; exact Nat.le_refl _)⟩
        · clear HO
          go_wp2_with (first
            | (go_at_call 31; (with_reducible refine (rcut_yes A5 A3 M C3 n3 c3 R KS w4 (HRW.out _ hB4) hits4 HOK.out HKS4.out hsum).mono ?_); rintro e w5 ⟨v5, rfl, hown5, hb5⟩
               obtain ⟨A7, n7, c7, rfl, hits5⟩ := hown5.its
               have hB5 := hB4.trans (hb5.mono hB4.size)
               have hT5 := hT4.keep hb5
               have hc5 := HCELL.out _ hB5
               clear hown5 hb5)
            | (go_at_call 32; (with_reducible refine (HMD.out hsum _ _ _ _ hits5).mono ?_); rintro e w6 ⟨rfl, hb6⟩
               have hB6 := hB5.trans (hb6.mono hB5.size)
               have hT6 := hT5.keep hb6
               clear hb6 hT5)
            | ((with_reducible refine wpList_store_blk rfl 26 _ _ rfl w6.heap.size Y ?hx5 ?hy5 26 _ (heap_alloc_new w6 _) (info_frame HYS.out) ?hs5 HY1.out ?_); (case hx5 => rfl); (case hy5 => rfl); (case hs5 => rw [HYS.out]; rfl)
               intro w7 hg7 hX7 hs7
               have hB7 : Below (w.alloc (.cells (frA Fr.zero) 26)).heap.size (w.alloc (.cells (frA Fr.zero) 26)) w7 := (hB6.alloc hB6.size _).grown hg7 (Nat.le_trans hB6.size (size_le_alloc _ _)) (fun g e => by cases e; exact hB6.size)
               have hlt6 := hT6.lt
               have hT7 := HROW.out _ _ ((hT6.more _).grown hg7 (ne_some (Nat.ne_of_lt hT6.lt)))
               clear hg7 hs7 hT6)
            | ((with_reducible refine wpList_load_blk 24 _ rfl wr.heap.size ?hx11 24 I (0, 0) _ hT7 Try.underlying24 ?hd11 (info_id HIS.out) ?_ ?hw11); (case hx11 => rfl); (case hd11 => rfl); (case hw11 => rfl))
            | ((with_reducible refine wpList_store_mid rfl 24 _ _ rfl w6.heap.size 8 I ?hx12 ?hy12 (there_tag hX7 HYS.out HIS.out) (info_id HIS.out) HI1.out ?_); (case hx12 => rfl); (case hy12 => rfl)
               rw [HIT.out]
               have hX8 := HSET.out _ _ hX7
               have hB8 := setCells_below hB6.size U 8 _ hB7
               obtain ⟨w8, hw8⟩ : ∃ w8, w8 = w7.setCells w6.heap.size 8 U := ⟨_, rfl⟩
               rw [← hw8] at hX8 hB8 ⊢
               clear hX7 hT7 hB7 hw8)
            | ((with_reducible refine wpList_load_blk 26 _ rfl w6.heap.size ?hx15 26 X (0, 0) _ hX9 Try.underlying26 ?hd15 (info_frame HVS.out) ?_ ?hw15); (case hx15 => rfl); (case hd15 => rfl); (case hw15 => rfl))
            | ((with_reducible refine wpList_load_blk 26 _ rfl w6.heap.size ?hx13 26 X (0, 0) _ hX8 Try.underlying26 ?hd13 (info_frame HVS.out) ?_ ?hw13); (case hx13 => rfl); (case hd13 => rfl); (case hw13 => rfl))
            | (go_at_call 11; (with_reducible refine (HPUT.out hsum _).mono ?_); rintro e w9 ⟨A9, m9, c9, rfl, hv9, hb9⟩
               have hB9 := hB8.trans (hb9.mono hB8.size)
               have hZ9 := HZW.out _ hB9
               have hX9 := (hb9.block _ (Array.getElem?_eq_some_iff.1 hX8).1).trans hX8
               have hk1 := HCP.out _ _ _ _ hv9
               have hk2 := HCV.out _ hB9
               clear hX8 hv9 hb9)
            | ((with_reducible refine wpList_store_blk rfl 26 _ _ rfl w.heap.size X ?hx16 ?hy16 26 Z hZ9 (info_frame HVS.out) ?hs16 HV1.out ?_); (case hx16 => rfl); (case hy16 => rfl); (case hs16 => rw [HZS.out, HVS.out])
               intro w10 hg10 hX10 hs10))
          refine bodyPost_ret (v := .tuple #[.agg X, .int .i64 0]) ?_ ?_ ?_
          · exact results_blk_tmp Try.results13 _ _ _ w.heap.size 26 _ (0, 0) _ rfl hX10 Try.underlying26 rfl (info_frame HVS.out) _ rfl
          · rfl
          · exact ⟨rfl, (after_one hB9).1.grown hg10 (after_one hB9).1.size (fun k e => by cases e; exact Nat.le_refl _)⟩
end Go.Proofs.Ytncedbjbooemjaa
