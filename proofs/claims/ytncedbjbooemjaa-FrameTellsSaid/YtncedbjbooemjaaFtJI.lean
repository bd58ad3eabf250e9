/- Joined texts: The walk over the document's answer front: a plain frame's bytes ahead of its tag. The walk over the document's answer made: the frame of a kind, and numbers. The document's answers about a plain frame, as functions of lists; made, for any kind. What bytes that are a plain frame's hold, for the walk over the document's Read. Pure facts for the document's Read where the bytes have a frame's form: what is cut out of them, and when it is a frame. -/
import Derived.Test.YtncedbjbooemjaaFtJH
import Derived.Test.YtncedbjbooemjaaFtJD
import Derived.Test.YtncedbjbooemjaaFtJC
/- The walk over the document's answer front: a plain frame's bytes ahead of its tag. -/
namespace Go.Proofs.Ytncedbjbooemjaa
set_option linter.unusedVariables false
set_option linter.unusedSimpArgs false
open Go.RowKit

/-- how many bytes stand behind the length -/
def lenF (f : Fr) : Nat := 1 + (catL (toN (fieldsF f))).length + if tagK f.kind.toNat then 32 else 0
theorem put_one (n : Nat) (h : n < 256) : putL n 1 = [(n : Int)] := by
  have : n / 256 ^ 0 % 256 = n := by rw [Nat.pow_zero, Nat.div_one]; omega
  simp only [putL, List.range_succ, List.range_zero, List.nil_append, List.map_cons, List.map_nil, putAt]
  rw [show 1 - 1 - 0 = 0 from rfl, this]
theorem front_is {f : Fr} (hk : kindB f.kind = true) : frontF f = [0, (lenF f : Int), f.kind] ++ catL (toN (fieldsF f)) := by
  unfold frontF rowS lenF
  rcases f with ⟨kind, user, sess, cn, epoch, count, cmd, arg, tag⟩
  simp only at *
  rcases kind_cases hk with rfl | rfl | rfl | rfl | rfl | rfl | rfl <;>
    simp [fieldsF, toN, catL, natsOf, Fr.nums, szK, tagK, pick, folL, putL_length, put_one] <;> rfl
theorem fields_len {f : Fr} (hk : kindB f.kind = true) : (catL (toN (fieldsF f))).length ≤ 19 := by
  rcases f with ⟨kind, user, sess, cn, epoch, count, cmd, arg, tag⟩
  simp only at *
  rcases kind_cases hk with rfl | rfl | rfl | rfl | rfl | rfl | rfl <;>
    simp [fieldsF, toN, catL, putL_length]
theorem fields_fit {f : Fr} (hok : f.ok) (hp : plainB f = true) : catB (fieldsF f) = true := by
  have h := plain_fits hok hp
  have hk := (plain_facts hp).1
  rcases f with ⟨kind, user, sess, cn, epoch, count, cmd, arg, tag⟩
  simp only at *
  rcases kind_cases hk with rfl | rfl | rfl | rfl | rfl | rfl | rfl <;>
    simp [fieldsF, rowI, pickI, szK, tagK, folL, Fr.nums, catB, fitsB] at h ⊢ <;> simp_all

/-- what front hands back -/
def FrontPost (f : Fr) (t : Bool) (w : World) (e : Ending) (w' : World) : Prop := ∃ v, e = .returned (.tuple #[v, .bool t]) ∧ Own w' w.heap.size v (frontF f) ∧ Below w.heap.size w w'
theorem frontF_ok (f : Fr) : ∀ j, 0 ≤ (frontF f).getD j 0 ∧ (frontF f).getD j 0 < 256 := catL_ok _

set_option maxRecDepth 100000 in
set_option maxHeartbeats 2000000 in
theorem front_any (f : Fr) (w : World) (hok : f.ok) (hp : plainB f = true) :
    Calls Try.prog 25 #[frV f] w (FrontPost f (tagK f.kind.toNat) w) := by
  obtain ⟨h, hrg, hbl, _⟩ := plain_facts hp
  have hpos := pos_of (kind_pos h) hrg
  have hfd := fun w => fields_any f w hok hpos h
  have hcb := fields_fit hok hp
  have hfl := fields_len h
  have hfr := front_is h
  have hln : lenF f = 1 + (catL (toN (fieldsF f))).length + if tagK f.kind.toNat then 32 else 0 := rfl
  obtain ⟨t, ht⟩ : ∃ t, tagK f.kind.toNat = t := ⟨_, rfl⟩
  obtain ⟨F, hF⟩ : ∃ F, fieldsF f = F := ⟨_, rfl⟩
  rw [ht] at hfd hln ⊢
  rw [hF] at hfd hcb hfl hfr hln
  have hct : ∀ A n c w, Nms w A n c F → Calls Try.prog 37 #[.slice A n c] w (GivesB (catL (toN F)) true w) := fun A n c w hl =>
    (rcat_any A n c F w hl).mono fun _ _ h => by have h2 := catPost_gives h; rw [hcb, if_pos rfl] at h2; exact h2
  obtain ⟨L, hL⟩ : ∃ L, catL (toN F) = L := ⟨_, rfl⟩
  rw [hL] at hct hfl hfr hln
  obtain ⟨T, hT⟩ : ∃ T, lenF f = T := ⟨_, rfl⟩
  rw [hT] at hfr hln
  have hk0 : 0 ≤ f.kind := kind_pos h
  have hk1 : f.kind < 256 := by rcases kind_cases h with e | e | e | e | e | e | e <;> omega
  have hCs : (frA f).size = 40 := frA_size hok.len
  unfold frV at hfd ⊢
  obtain ⟨k, hk⟩ : ∃ k, f.kind = k := ⟨_, rfl⟩
  have hdk : (frA f)[0]? = some (.int .i64 k) := by rw [← hk]; rfl
  rw [hk] at hfr hk0 hk1
  obtain ⟨C, hC⟩ : ∃ C, frA f = C := ⟨_, rfl⟩
  rw [hC] at hfd hCs hdk ⊢
  have hres : ∀ (w w' : World) v, Own w' w.heap.size v ([0, (T : Int), k] ++ L) → Below w.heap.size w w' → FrontPost f t w (.returned (.tuple #[v, .bool t])) w' := fun w w' v ho hb => ⟨v, rfl, by rw [hfr]; exact ho, hb⟩
  have HFD := Lib.hid hfd
  have HCT := Lib.hid hct
  have HCS := Lib.hid hCs
  have HFL := Lib.hid hfl
  have HRES := Lib.hid hres
  clear hfd hct hCs hfl hres hfr hL hT hk hC hcb hF ht hok hp h hrg hbl hpos
  cases t with
  | false =>
    rw [if_neg Bool.false_ne_true, Nat.add_zero] at hln
    go_enter Try.func25, Try.ntmps25
    go_wp2_with (first
      | ((with_reducible refine wpList_load_blk 26 _ rfl w.heap.size ?hx2 26 C (0, 0) _ (heap_alloc_new w _) Try.underlying26 ?hd2 (info_frame HCS.out) ?_ ?hw2); (case hx2 => rfl); (case hd2 => rfl); (case hw2 => rfl))
      | (go_at_call 30; (with_reducible refine (HFD.out _).mono ?_); rintro e w1 ⟨A1, m1, c1, rfl, hn1, hb1⟩)
      | (go_at_call 37; (with_reducible refine (HCT.out _ _ _ _ hn1).mono ?_); rintro e w2 ⟨A2, m2, c2, rfl, hn2, hb2⟩
         have hB2 : Below (w.alloc (.cells C 26)).heap.size (w.alloc (.cells C 26)) w2 := hb1.trans (hb2.mono hb1.size)
         have hK2 : w2.cell? ⟨w.heap.size, 0, none⟩ = some (.int .i64 k) := by rw [cell_of_row _ _ _ _ _ _ (after_alloc hB2)]; exact hdk
         have hW2 : Below w.heap.size w w2 := (after_one hB2).1
         obtain rfl : L.length = m2 := hn2.len
         have hT2 : (T : Int) = 1 + (L.length : Int) := by rw [hln]; omega
         have hm20 : (L.length : Int) ≤ 19 := by have := HFL.out; omega
         have hown : Own (w2.alloc (.cells #[.int .u8 0, .int .u8 T, .int .u8 k] 5)) w.heap.size (.slice (some ⟨w2.heap.size, 0, none⟩) 3 3) [0, (T : Int), k] := (rowb_lit w2 5 _ [0, (T : Int), k] rfl).own hW2.size rfl (by unfold maxLen; omega)
         rw [hT2] at hown
         clear hb1 hb2 hB2)
      | (at_builtin
         refine wpList_append_b rfl _ _ rfl w.heap.size _ _ rfl hown _ _ c2 L rfl (hn2.more _) (by simp; omega) (Nat.le_trans hW2.size (size_le_alloc _ _)) ?_
         intro v7 w7 hown7 hg7
         have hB7 : Below w.heap.size w w7 := (hW2.alloc hW2.size _).grown hg7 (Nat.le_trans hW2.size (size_le_alloc _ _)) (fun k hk => (hown.size k hk).1)
         rw [← hT2] at hown7))
    go_ret2
    exact HRES.out w _ v7 hown7 hB7
  | true =>
    rw [if_pos rfl] at hln
    go_enter Try.func25, Try.ntmps25
    go_wp2_with (first
      | ((with_reducible refine wpList_load_blk 26 _ rfl w.heap.size ?hx2 26 C (0, 0) _ (heap_alloc_new w _) Try.underlying26 ?hd2 (info_frame HCS.out) ?_ ?hw2); (case hx2 => rfl); (case hd2 => rfl); (case hw2 => rfl))
      | (go_at_call 30; (with_reducible refine (HFD.out _).mono ?_); rintro e w1 ⟨A1, m1, c1, rfl, hn1, hb1⟩)
      | (go_at_call 37; (with_reducible refine (HCT.out _ _ _ _ hn1).mono ?_); rintro e w2 ⟨A2, m2, c2, rfl, hn2, hb2⟩
         have hB2 : Below (w.alloc (.cells C 26)).heap.size (w.alloc (.cells C 26)) w2 := hb1.trans (hb2.mono hb1.size)
         have hK2 : w2.cell? ⟨w.heap.size, 0, none⟩ = some (.int .i64 k) := by rw [cell_of_row _ _ _ _ _ _ (after_alloc hB2)]; exact hdk
         have hW2 : Below w.heap.size w w2 := (after_one hB2).1
         obtain rfl : L.length = m2 := hn2.len
         have hT2 : (T : Int) = 1 + (L.length : Int) + 32 := by rw [hln]; omega
         have hm20 : (L.length : Int) ≤ 19 := by have := HFL.out; omega
         have hown : Own (w2.alloc (.cells #[.int .u8 0, .int .u8 T, .int .u8 k] 5)) w.heap.size (.slice (some ⟨w2.heap.size, 0, none⟩) 3 3) [0, (T : Int), k] := (rowb_lit w2 5 _ [0, (T : Int), k] rfl).own hW2.size rfl (by unfold maxLen; omega)
         rw [hT2] at hown
         clear hb1 hb2 hB2)
      | (at_builtin
         refine wpList_append_b rfl _ _ rfl w.heap.size _ _ rfl hown _ _ c2 L rfl (hn2.more _) (by simp; omega) (Nat.le_trans hW2.size (size_le_alloc _ _)) ?_
         intro v7 w7 hown7 hg7
         have hB7 : Below w.heap.size w w7 := (hW2.alloc hW2.size _).grown hg7 (Nat.le_trans hW2.size (size_le_alloc _ _)) (fun k hk => (hown.size k hk).1)
         rw [← hT2] at hown7))
    go_ret2
    exact HRES.out w _ v7 hown7 hB7
end Go.Proofs.Ytncedbjbooemjaa

/- The walk over the document's answer made: the frame of a kind, and numbers. -/
namespace Go.Proofs.Ytncedbjbooemjaa
set_option linter.unusedVariables false
set_option linter.unusedSimpArgs false
open Go.RowKit

/-- the frame of a kind, and numbers -/
def madeF (k : Nat) (l : List Nat) : Fr := match k with
  | 0 => ⟨0, (l.getD 0 0 : Nat), 0, (l.getD 1 0 : Nat), 0, 0, 0, 0, noTag⟩
  | 1 => ⟨1, 0, (l.getD 0 0 : Nat), 0, (l.getD 1 0 : Nat), 0, 0, 0, noTag⟩
  | 2 => ⟨2, 0, (l.getD 0 0 : Nat), 0, 0, 0, 0, 0, noTag⟩
  | 3 => ⟨3, 0, (l.getD 0 0 : Nat), 0, 0, 0, 0, 0, noTag⟩
  | 4 => ⟨4, 0, (l.getD 0 0 : Nat), 0, 0, (l.getD 1 0 : Nat), (l.getD 2 0 : Nat), (l.getD 3 0 : Nat), noTag⟩
  | 5 => ⟨5, 0, (l.getD 0 0 : Nat), 0, 0, (l.getD 1 0 : Nat), (l.getD 2 0 : Nat), (l.getD 3 0 : Nat), noTag⟩
  | k => ⟨k, 0, 0, 0, 0, 0, (l.getD 0 0 : Nat), 0, noTag⟩
/-- how many numbers -/
def manyK (k : Nat) : Nat := match k with
  | 0 => 2
  | 1 => 2
  | 2 => 1
  | 3 => 1
  | 4 => 4
  | 5 => 4
  | _ => 1
theorem fill_kind (k : Int) : Instr.fill (([(0, 1), (1, 1), (2, 1), (3, 1), (4, 1), (5, 1), (6, 1), (7, 1), (8, 32)] : List (Nat × Nat)).toArray[·]?) (frA Fr.zero) [(0, .int .i64 k)] = some (frA ⟨k, 0, 0, 0, 0, 0, 0, 0, noTag⟩) := by kernel_rfl
theorem built_kind (k : Int) : Try.prog.built 26 [(0, .int .i64 k)] = some (frA ⟨k, 0, 0, 0, 0, 0, 0, 0, noTag⟩) :=
  built_of (z := .agg (frA Fr.zero)) (places := [(0, 1), (1, 1), (2, 1), (3, 1), (4, 1), (5, 1), (6, 1), (7, 1), (8, 32)]) Try.underlying26 (by kernel_rfl) (by kernel_rfl) (fill_kind k)
theorem set_fr {w : World} {g o : Nat} {f f' : Fr} {v : Value} (h : w.heap[g]? = some (.cells (frA f) 26 (0, 0))) (he : (frC f).set o v = frC f') : (w.setCell ⟨g, o, none⟩ v).heap[g]? = some (.cells (frA f') 26 (0, 0)) := by
  have h1 := heap_setCell_same w g o (frA f) 26 v h
  rw [h1]
  unfold frA
  rw [List.setIfInBounds_toArray, he]
theorem cell_far {w : World} {g o b x : Nat} {v u : Value} (hb : b ≠ g) (h : w.cell? ⟨b, x, none⟩ = some u) : (w.setCell ⟨g, o, none⟩ v).cell? ⟨b, x, none⟩ = some u := (World.cell?_of_block (Below.heap_setCell _ _ _ _ hb)).trans h
theorem grownBy_setCell_any (w : World) (g o : Nat) (v : Value) : w.grownBy (w.setCell ⟨g, o, none⟩ v) (some g) :=
  ⟨rfl, rfl, rfl, by simp [World.setCell], fun k _ hk => Below.heap_setCell _ _ _ _ (fun e => hk (by rw [e]))⟩
theorem store_num {ty : TypeId} {K : IntKind} {n : Int} {g off : Nat} {w : World} {u : Value} (hu : Try.prog.underlying ty = some (.int K)) (hi : (Try.prog.info? ty).map (·.size) = some 1) (hc : w.cell? ⟨g, off, none⟩ = some u) (hf : w.frozen? ⟨g, off, none⟩ = false) :
    (Instr.storeAt ty (.pointer (some ⟨g, off, none⟩)) (.int K n)).run Try.prog w = .ok () (w.setCell ⟨g, off, none⟩ (.int K n)) := by
  have hz := size_of hi w
  simp [Instr.storeAt, run_underlying hu, hc, hf, hz, go_sem]
theorem wpList_store_num {ops : Array Oper} {rest : List Oper} {o : Oper} {a : Act} {w : World} {Q : Exit → Act → World → Prop} (hgd : o.guard = none) (ty : TypeId) (x y : Operand) (ho : o.op = .store ty x y) (K : IntKind) (n : Int) (g off : Nat) (f f' : Fr)
    (hX : w.heap[g]? = some (.cells (frA f) 26 (0, 0))) (hx : a.eval x = .pointer (some ⟨g, off, none⟩)) (hy : a.eval y = .int K n) (hu : Try.prog.underlying ty = some (.int K)) (hi : (Try.prog.info? ty).map (·.size) = some 1) (he : (frC f).set off (.int K n) = frC f') (hlt : off < 8)
    (h : ∀ w', w'.heap[g]? = some (.cells (frA f') 26 (0, 0)) → w.grownBy w' (some g) → w'.heap.size = w.heap.size → wpList Try.prog ops Q rest (a.put o.dst undef) w') : wpList Try.prog ops Q (o :: rest) a w := by
  have hc : ∃ u, w.cell? ⟨g, off, none⟩ = some u := by
    rw [cell_of_row _ _ _ _ _ _ hX]
    have : off = 0 ∨ off = 1 ∨ off = 2 ∨ off = 3 ∨ off = 4 ∨ off = 5 ∨ off = 6 ∨ off = 7 := by omega
    rcases this with rfl | rfl | rfl | rfl | rfl | rfl | rfl | rfl <;> exact ⟨_, rfl⟩
  obtain ⟨u, hc⟩ := hc
  have hrun := store_num (n := n) hu hi hc (frozen_of_row _ _ off _ _ hX)
  refine wpList_plain hgd fun _ hK => ?_
  unfold Oper.wp execOp
  simp only [ho, hx, hy, hrun, Sem.run_bind, Sem.run_pure, Result.andThen_ok]
  exact hK _ _ (h _ (set_fr hX he) (grownBy_setCell_any w g off _) (by simp [World.setCell]))
/-- between the stores: what was there is there, the result's block, and no new one -/
structure Mid (w wi : World) (old : Obj) : Prop where
  size : wi.heap.size = w.heap.size + 1 + 1
  below : Below w.heap.size w wi
  res : wi.heap[w.heap.size]? = some old
theorem Mid.step {w wi wj : World} {old : Obj} (h : Mid w wi old) (hg : wi.grownBy wj (some (w.heap.size + 1))) (hs : wj.heap.size = wi.heap.size) : Mid w wj old :=
  ⟨hs.trans h.size, h.below.grown hg (by have := h.size; omega) (fun g e => by cases e; omega), (hg.block w.heap.size (by have := h.size; omega) (ne_some (by omega))).trans h.res⟩
theorem Mid.first {w w6 : World} {o1 o2 : Obj} (hg : ((w.alloc o1).alloc o2).grownBy w6 (some (w.heap.size + 1))) (hs : w6.heap.size = ((w.alloc o1).alloc o2).heap.size) : Mid w w6 o1 :=
  ⟨hs.trans (by simp), (two_below w o1 o2).grown hg (by simp <;> omega) (fun g e => by cases e; omega), (hg.block w.heap.size (by simp <;> omega) (ne_some (by omega))).trans (heap_alloc2_old w _ _)⟩
set_option maxRecDepth 100000 in
set_option maxHeartbeats 4000000 in
theorem made_0 (l : List Nat) (A : Option Addr) (n c : Nat) (w : World) (hl : Its .u64 w A n c (ints l)) (hn : n = 2) (h0 : l.getD 0 0 < 9223372036854775808) (h1 : l.getD 1 0 < 18446744073709551616) :
    Calls Try.prog 32 #[.int .i64 0, .slice A n c] w (fun e w' => e = .returned (frV (madeF 0 l)) ∧ Below w.heap.size w w') := by
  subst hn
  obtain ⟨b, off, rfl, hc⟩ := hl.at_ (by omega)
  have hln : l.length = 2 := by have := hl.len; rwa [ints_length] at this
  have c0 := hc 0 (by omega)
  rw [ints_get l 0 (by omega)] at c0
  have c1 := hc 1 (by omega)
  rw [ints_get l 1 (by omega)] at c1
  rw [Nat.add_zero] at c0
  have hbl : b < w.heap.size := block_lt_of_cell c0
  obtain ⟨x0, hx0⟩ : ∃ x, l.getD 0 0 = x := ⟨_, rfl⟩
  rw [hx0] at c0 h0
  obtain ⟨x1, hx1⟩ : ∃ x, l.getD 1 0 = x := ⟨_, rfl⟩
  rw [hx1] at c1 h1
  have hf : madeF 0 l = ⟨0, (x0 : Nat), 0, (x1 : Nat), 0, 0, 0, 0, noTag⟩ := by unfold madeF; simp only [hx0, hx1]
  rw [hf]
  have r0 : (x0 : Int) ≤ 9223372036854775807 := by omega
  have r1 : (x1 : Int) ≤ 18446744073709551615 := by omega
  have hb := built_kind 0
  obtain ⟨Y, hY⟩ : ∃ Y, Y = frA ⟨0, 0, 0, 0, 0, 0, 0, 0, noTag⟩ := ⟨_, rfl⟩
  obtain ⟨Z, hZ⟩ : ∃ Z, Z = frA ⟨0, (x0 : Nat), 0, (x1 : Nat), 0, 0, 0, 0, noTag⟩ := ⟨_, rfl⟩
  have HE0 := Lib.hid (show (frC ⟨0, 0, 0, 0, 0, 0, 0, 0, noTag⟩).set 1 (.int .i64 (x0 : Int)) = frC ⟨0, (x0 : Nat), 0, 0, 0, 0, 0, 0, noTag⟩ from rfl)
  have HE1 := Lib.hid (show (frC ⟨0, (x0 : Nat), 0, 0, 0, 0, 0, 0, noTag⟩).set 3 (.int .u64 (x1 : Int)) = frC ⟨0, (x0 : Nat), 0, (x1 : Nat), 0, 0, 0, 0, noTag⟩ from rfl)
  rw [← hY] at hb
  have hYs : Y.size = 40 := by rw [hY]; exact frA_size rfl
  have hY1 : Y.all (·.oneCell') = true := by rw [hY]; exact frA_one _
  have hZs : Z.size = 40 := by rw [hZ]; exact frA_size rfl
  have hZ1 : Z.all (·.oneCell') = true := by rw [hZ]; exact frA_one _
  unfold frV
  rw [← hZ]
  have HB := Lib.hid hb
  have HS := Lib.hid hYs
  have H1 := Lib.hid hY1
  have HSZ := Lib.hid hZs
  have HZ1 := Lib.hid hZ1
  have HY := Lib.hid hY
  have HZ := Lib.hid hZ
  have C0 := Lib.hid c0
  have C1 := Lib.hid c1
  clear hb hYs hY1 hZs hZ1 hY hZ hl hc hln hf c0 hx0 h0 c1 hx1 h1
  go_enter Try.func32, Try.ntmps32
  go_wp2_with (first
    | ((with_reducible refine wpList_build_to rfl 26 _ rfl _ Y ?hb3 HB.out ?_); (case hb3 => rfl))
    | ((with_reducible refine wpList_store_blk rfl 26 _ _ rfl (w.heap.size + 1) Y ?hx2 ?hy2 26 _ (heap_alloc2_new _ _ _) (info_frame HS.out) ?hs2 H1.out ?_); (case hx2 => rfl); (case hy2 => rfl); (case hs2 => rw [HS.out]; rfl)
       intro w6 hg6 hX6 hs6
       have hM6 := Mid.first hg6 hs6
       rw [HY.out] at hX6
       have s0 := (hM6.below.cell (p := ⟨b, off, none⟩) hbl).trans C0.out
       have HX6 := Lib.hid hX6
       have HM6 := Lib.hid hM6
       clear hg6 hX6 hs6 hM6)
    | ((with_reducible refine wpList_store_num rfl 3 _ _ rfl .i64 (x0 : Int) (w.heap.size + 1) 1 ⟨0, 0, 0, 0, 0, 0, 0, 0, noTag⟩ ⟨0, (x0 : Nat), 0, 0, 0, 0, 0, 0, noTag⟩ HX6.out ?hxa0 ?hya0 Try.underlying3 ?hia0 HE0.out ?hla0 ?_); (case hxa0 => rfl); (case hya0 => rfl); (case hia0 => kernel_rfl); (case hla0 => decide)
       intro w7 hX7 hg7 hs7
       have hM7 := HM6.out.step hg7 hs7
       have s1 := (hM7.below.cell (p := ⟨b, off + 1, none⟩) hbl).trans C1.out
       have HX7 := Lib.hid hX7
       have HM7 := Lib.hid hM7
       clear hg7 hX7 hs7 hM7)
    | ((with_reducible refine wpList_store_num rfl 22 _ _ rfl .u64 (x1 : Int) (w.heap.size + 1) 3 ⟨0, (x0 : Nat), 0, 0, 0, 0, 0, 0, noTag⟩ ⟨0, (x0 : Nat), 0, (x1 : Nat), 0, 0, 0, 0, noTag⟩ HX7.out ?hxa1 ?hya1 Try.underlying22 ?hia1 HE1.out ?hla1 ?_); (case hxa1 => rfl); (case hya1 => rfl); (case hia1 => kernel_rfl); (case hla1 => decide)
       intro w8 hX8 hg8 hs8
       have hM8 := HM7.out.step hg8 hs8
       rw [← HZ.out] at hX8
       have HX8 := Lib.hid hX8
       have HM8 := Lib.hid hM8
       clear hg8 hX8 hs8 hM8)
    | ((with_reducible refine wpList_load_blk 26 _ rfl (w.heap.size + 1) ?hx4 26 Z (0, 0) _ HX8.out Try.underlying26 ?hd4 (info_frame HSZ.out) ?_ ?hw4); (case hx4 => rfl); (case hd4 => rfl); (case hw4 => rfl))
    | ((with_reducible refine wpList_store_blk rfl 26 _ _ rfl w.heap.size Z ?hx5 ?hy5 26 _ HM8.out.res (info_frame HSZ.out) ?hs5 HZ1.out ?_); (case hx5 => rfl); (case hy5 => rfl); (case hs5 => rw [HSZ.out]; rfl)
       intro w19 hg19 hX19 hs19
       have HB19 := Lib.hid (HM8.out.below.grown hg19 (by have := HM8.out.size; omega) (fun g e => by cases e; exact Nat.le_refl _))
       have HX19 := Lib.hid hX19
       clear hg19 hX19 hs19))
  refine bodyPost_ret (v := .agg Z) ?_ ?_ ?_
  · exact results_cell_row Try.results32 _ _ w.heap.size 26 _ (0, 0) _ rfl HX19.out Try.underlying26 rfl (info_frame HSZ.out)
  · rfl
  · exact ⟨rfl, HB19.out⟩
set_option maxRecDepth 100000 in
set_option maxHeartbeats 4000000 in
theorem made_1 (l : List Nat) (A : Option Addr) (n c : Nat) (w : World) (hl : Its .u64 w A n c (ints l)) (hn : n = 2) (h0 : l.getD 0 0 < 18446744073709551616) (h1 : l.getD 1 0 < 9223372036854775808) :
    Calls Try.prog 32 #[.int .i64 1, .slice A n c] w (fun e w' => e = .returned (frV (madeF 1 l)) ∧ Below w.heap.size w w') := by
  subst hn
  obtain ⟨b, off, rfl, hc⟩ := hl.at_ (by omega)
  have hln : l.length = 2 := by have := hl.len; rwa [ints_length] at this
  have c0 := hc 0 (by omega)
  rw [ints_get l 0 (by omega)] at c0
  have c1 := hc 1 (by omega)
  rw [ints_get l 1 (by omega)] at c1
  rw [Nat.add_zero] at c0
  have hbl : b < w.heap.size := block_lt_of_cell c0
  obtain ⟨x0, hx0⟩ : ∃ x, l.getD 0 0 = x := ⟨_, rfl⟩
  rw [hx0] at c0 h0
  obtain ⟨x1, hx1⟩ : ∃ x, l.getD 1 0 = x := ⟨_, rfl⟩
  rw [hx1] at c1 h1
  have hf : madeF 1 l = ⟨1, 0, (x0 : Nat), 0, (x1 : Nat), 0, 0, 0, noTag⟩ := by unfold madeF; simp only [hx0, hx1]
  rw [hf]
  have r0 : (x0 : Int) ≤ 18446744073709551615 := by omega
  have r1 : (x1 : Int) ≤ 9223372036854775807 := by omega
  have hb := built_kind 1
  obtain ⟨Y, hY⟩ : ∃ Y, Y = frA ⟨1, 0, 0, 0, 0, 0, 0, 0, noTag⟩ := ⟨_, rfl⟩
  obtain ⟨Z, hZ⟩ : ∃ Z, Z = frA ⟨1, 0, (x0 : Nat), 0, (x1 : Nat), 0, 0, 0, noTag⟩ := ⟨_, rfl⟩
  have HE0 := Lib.hid (show (frC ⟨1, 0, 0, 0, 0, 0, 0, 0, noTag⟩).set 2 (.int .u64 (x0 : Int)) = frC ⟨1, 0, (x0 : Nat), 0, 0, 0, 0, 0, noTag⟩ from rfl)
  have HE1 := Lib.hid (show (frC ⟨1, 0, (x0 : Nat), 0, 0, 0, 0, 0, noTag⟩).set 4 (.int .i64 (x1 : Int)) = frC ⟨1, 0, (x0 : Nat), 0, (x1 : Nat), 0, 0, 0, noTag⟩ from rfl)
  rw [← hY] at hb
  have hYs : Y.size = 40 := by rw [hY]; exact frA_size rfl
  have hY1 : Y.all (·.oneCell') = true := by rw [hY]; exact frA_one _
  have hZs : Z.size = 40 := by rw [hZ]; exact frA_size rfl
  have hZ1 : Z.all (·.oneCell') = true := by rw [hZ]; exact frA_one _
  unfold frV
  rw [← hZ]
  have HB := Lib.hid hb
  have HS := Lib.hid hYs
  have H1 := Lib.hid hY1
  have HSZ := Lib.hid hZs
  have HZ1 := Lib.hid hZ1
  have HY := Lib.hid hY
  have HZ := Lib.hid hZ
  have C0 := Lib.hid c0
  have C1 := Lib.hid c1
  clear hb hYs hY1 hZs hZ1 hY hZ hl hc hln hf c0 hx0 h0 c1 hx1 h1
  go_enter Try.func32, Try.ntmps32
  go_wp2_with (first
    | ((with_reducible refine wpList_build_to rfl 26 _ rfl _ Y ?hb3 HB.out ?_); (case hb3 => rfl))
    | ((with_reducible refine wpList_store_blk rfl 26 _ _ rfl (w.heap.size + 1) Y ?hx2 ?hy2 26 _ (heap_alloc2_new _ _ _) (info_frame HS.out) ?hs2 H1.out ?_); (case hx2 => rfl); (case hy2 => rfl); (case hs2 => rw [HS.out]; rfl)
       intro w6 hg6 hX6 hs6
       have hM6 := Mid.first hg6 hs6
       rw [HY.out] at hX6
       have s0 := (hM6.below.cell (p := ⟨b, off, none⟩) hbl).trans C0.out
       have HX6 := Lib.hid hX6
       have HM6 := Lib.hid hM6
       clear hg6 hX6 hs6 hM6)
    | ((with_reducible refine wpList_store_num rfl 22 _ _ rfl .u64 (x0 : Int) (w.heap.size + 1) 2 ⟨1, 0, 0, 0, 0, 0, 0, 0, noTag⟩ ⟨1, 0, (x0 : Nat), 0, 0, 0, 0, 0, noTag⟩ HX6.out ?hxa0 ?hya0 Try.underlying22 ?hia0 HE0.out ?hla0 ?_); (case hxa0 => rfl); (case hya0 => rfl); (case hia0 => kernel_rfl); (case hla0 => decide)
       intro w7 hX7 hg7 hs7
       have hM7 := HM6.out.step hg7 hs7
       have s1 := (hM7.below.cell (p := ⟨b, off + 1, none⟩) hbl).trans C1.out
       have HX7 := Lib.hid hX7
       have HM7 := Lib.hid hM7
       clear hg7 hX7 hs7 hM7)
    | ((with_reducible refine wpList_store_num rfl 3 _ _ rfl .i64 (x1 : Int) (w.heap.size + 1) 4 ⟨1, 0, (x0 : Nat), 0, 0, 0, 0, 0, noTag⟩ ⟨1, 0, (x0 : Nat), 0, (x1 : Nat), 0, 0, 0, noTag⟩ HX7.out ?hxa1 ?hya1 Try.underlying3 ?hia1 HE1.out ?hla1 ?_); (case hxa1 => rfl); (case hya1 => rfl); (case hia1 => kernel_rfl); (case hla1 => decide)
       intro w8 hX8 hg8 hs8
       have hM8 := HM7.out.step hg8 hs8
       rw [← HZ.out] at hX8
       have HX8 := Lib.hid hX8
       have HM8 := Lib.hid hM8
       clear hg8 hX8 hs8 hM8)
    | ((with_reducible refine wpList_load_blk 26 _ rfl (w.heap.size + 1) ?hx4 26 Z (0, 0) _ HX8.out Try.underlying26 ?hd4 (info_frame HSZ.out) ?_ ?hw4); (case hx4 => rfl); (case hd4 => rfl); (case hw4 => rfl))
    | ((with_reducible refine wpList_store_blk rfl 26 _ _ rfl w.heap.size Z ?hx5 ?hy5 26 _ HM8.out.res (info_frame HSZ.out) ?hs5 HZ1.out ?_); (case hx5 => rfl); (case hy5 => rfl); (case hs5 => rw [HSZ.out]; rfl)
       intro w19 hg19 hX19 hs19
       have HB19 := Lib.hid (HM8.out.below.grown hg19 (by have := HM8.out.size; omega) (fun g e => by cases e; exact Nat.le_refl _))
       have HX19 := Lib.hid hX19
       clear hg19 hX19 hs19))
  refine bodyPost_ret (v := .agg Z) ?_ ?_ ?_
  · exact results_cell_row Try.results32 _ _ w.heap.size 26 _ (0, 0) _ rfl HX19.out Try.underlying26 rfl (info_frame HSZ.out)
  · rfl
  · exact ⟨rfl, HB19.out⟩
set_option maxRecDepth 100000 in
set_option maxHeartbeats 4000000 in
theorem made_2 (l : List Nat) (A : Option Addr) (n c : Nat) (w : World) (hl : Its .u64 w A n c (ints l)) (hn : n = 1) (h0 : l.getD 0 0 < 18446744073709551616) :
    Calls Try.prog 32 #[.int .i64 2, .slice A n c] w (fun e w' => e = .returned (frV (madeF 2 l)) ∧ Below w.heap.size w w') := by
  subst hn
  obtain ⟨b, off, rfl, hc⟩ := hl.at_ (by omega)
  have hln : l.length = 1 := by have := hl.len; rwa [ints_length] at this
  have c0 := hc 0 (by omega)
  rw [ints_get l 0 (by omega)] at c0
  rw [Nat.add_zero] at c0
  have hbl : b < w.heap.size := block_lt_of_cell c0
  obtain ⟨x0, hx0⟩ : ∃ x, l.getD 0 0 = x := ⟨_, rfl⟩
  rw [hx0] at c0 h0
  have hf : madeF 2 l = ⟨2, 0, (x0 : Nat), 0, 0, 0, 0, 0, noTag⟩ := by unfold madeF; simp only [hx0]
  rw [hf]
  have r0 : (x0 : Int) ≤ 18446744073709551615 := by omega
  have hb := built_kind 2
  obtain ⟨Y, hY⟩ : ∃ Y, Y = frA ⟨2, 0, 0, 0, 0, 0, 0, 0, noTag⟩ := ⟨_, rfl⟩
  obtain ⟨Z, hZ⟩ : ∃ Z, Z = frA ⟨2, 0, (x0 : Nat), 0, 0, 0, 0, 0, noTag⟩ := ⟨_, rfl⟩
  have HE0 := Lib.hid (show (frC ⟨2, 0, 0, 0, 0, 0, 0, 0, noTag⟩).set 2 (.int .u64 (x0 : Int)) = frC ⟨2, 0, (x0 : Nat), 0, 0, 0, 0, 0, noTag⟩ from rfl)
  rw [← hY] at hb
  have hYs : Y.size = 40 := by rw [hY]; exact frA_size rfl
  have hY1 : Y.all (·.oneCell') = true := by rw [hY]; exact frA_one _
  have hZs : Z.size = 40 := by rw [hZ]; exact frA_size rfl
  have hZ1 : Z.all (·.oneCell') = true := by rw [hZ]; exact frA_one _
  unfold frV
  rw [← hZ]
  have HB := Lib.hid hb
  have HS := Lib.hid hYs
  have H1 := Lib.hid hY1
  have HSZ := Lib.hid hZs
  have HZ1 := Lib.hid hZ1
  have HY := Lib.hid hY
  have HZ := Lib.hid hZ
  have C0 := Lib.hid c0
  clear hb hYs hY1 hZs hZ1 hY hZ hl hc hln hf c0 hx0 h0
  go_enter Try.func32, Try.ntmps32
  go_wp2_with (first
    | ((with_reducible refine wpList_build_to rfl 26 _ rfl _ Y ?hb3 HB.out ?_); (case hb3 => rfl))
    | ((with_reducible refine wpList_store_blk rfl 26 _ _ rfl (w.heap.size + 1) Y ?hx2 ?hy2 26 _ (heap_alloc2_new _ _ _) (info_frame HS.out) ?hs2 H1.out ?_); (case hx2 => rfl); (case hy2 => rfl); (case hs2 => rw [HS.out]; rfl)
       intro w6 hg6 hX6 hs6
       have hM6 := Mid.first hg6 hs6
       rw [HY.out] at hX6
       have s0 := (hM6.below.cell (p := ⟨b, off, none⟩) hbl).trans C0.out
       have HX6 := Lib.hid hX6
       have HM6 := Lib.hid hM6
       clear hg6 hX6 hs6 hM6)
    | ((with_reducible refine wpList_store_num rfl 22 _ _ rfl .u64 (x0 : Int) (w.heap.size + 1) 2 ⟨2, 0, 0, 0, 0, 0, 0, 0, noTag⟩ ⟨2, 0, (x0 : Nat), 0, 0, 0, 0, 0, noTag⟩ HX6.out ?hxa0 ?hya0 Try.underlying22 ?hia0 HE0.out ?hla0 ?_); (case hxa0 => rfl); (case hya0 => rfl); (case hia0 => kernel_rfl); (case hla0 => decide)
       intro w7 hX7 hg7 hs7
       have hM7 := HM6.out.step hg7 hs7
       rw [← HZ.out] at hX7
       have HX7 := Lib.hid hX7
       have HM7 := Lib.hid hM7
       clear hg7 hX7 hs7 hM7)
    | ((with_reducible refine wpList_load_blk 26 _ rfl (w.heap.size + 1) ?hx4 26 Z (0, 0) _ HX7.out Try.underlying26 ?hd4 (info_frame HSZ.out) ?_ ?hw4); (case hx4 => rfl); (case hd4 => rfl); (case hw4 => rfl))
    | ((with_reducible refine wpList_store_blk rfl 26 _ _ rfl w.heap.size Z ?hx5 ?hy5 26 _ HM7.out.res (info_frame HSZ.out) ?hs5 HZ1.out ?_); (case hx5 => rfl); (case hy5 => rfl); (case hs5 => rw [HSZ.out]; rfl)
       intro w19 hg19 hX19 hs19
       have HB19 := Lib.hid (HM7.out.below.grown hg19 (by have := HM7.out.size; omega) (fun g e => by cases e; exact Nat.le_refl _))
       have HX19 := Lib.hid hX19
       clear hg19 hX19 hs19))
  refine bodyPost_ret (v := .agg Z) ?_ ?_ ?_
  · exact results_cell_row Try.results32 _ _ w.heap.size 26 _ (0, 0) _ rfl HX19.out Try.underlying26 rfl (info_frame HSZ.out)
  · rfl
  · exact ⟨rfl, HB19.out⟩
set_option maxRecDepth 100000 in
set_option maxHeartbeats 4000000 in
theorem made_3 (l : List Nat) (A : Option Addr) (n c : Nat) (w : World) (hl : Its .u64 w A n c (ints l)) (hn : n = 1) (h0 : l.getD 0 0 < 18446744073709551616) :
    Calls Try.prog 32 #[.int .i64 3, .slice A n c] w (fun e w' => e = .returned (frV (madeF 3 l)) ∧ Below w.heap.size w w') := by
  subst hn
  obtain ⟨b, off, rfl, hc⟩ := hl.at_ (by omega)
  have hln : l.length = 1 := by have := hl.len; rwa [ints_length] at this
  have c0 := hc 0 (by omega)
  rw [ints_get l 0 (by omega)] at c0
  rw [Nat.add_zero] at c0
  have hbl : b < w.heap.size := block_lt_of_cell c0
  obtain ⟨x0, hx0⟩ : ∃ x, l.getD 0 0 = x := ⟨_, rfl⟩
  rw [hx0] at c0 h0
  have hf : madeF 3 l = ⟨3, 0, (x0 : Nat), 0, 0, 0, 0, 0, noTag⟩ := by unfold madeF; simp only [hx0]
  rw [hf]
  have r0 : (x0 : Int) ≤ 18446744073709551615 := by omega
  have hb := built_kind 3
  obtain ⟨Y, hY⟩ : ∃ Y, Y = frA ⟨3, 0, 0, 0, 0, 0, 0, 0, noTag⟩ := ⟨_, rfl⟩
  obtain ⟨Z, hZ⟩ : ∃ Z, Z = frA ⟨3, 0, (x0 : Nat), 0, 0, 0, 0, 0, noTag⟩ := ⟨_, rfl⟩
  have HE0 := Lib.hid (show (frC ⟨3, 0, 0, 0, 0, 0, 0, 0, noTag⟩).set 2 (.int .u64 (x0 : Int)) = frC ⟨3, 0, (x0 : Nat), 0, 0, 0, 0, 0, noTag⟩ from rfl)
  rw [← hY] at hb
  have hYs : Y.size = 40 := by rw [hY]; exact frA_size rfl
  have hY1 : Y.all (·.oneCell') = true := by rw [hY]; exact frA_one _
  have hZs : Z.size = 40 := by rw [hZ]; exact frA_size rfl
  have hZ1 : Z.all (·.oneCell') = true := by rw [hZ]; exact frA_one _
  unfold frV
  rw [← hZ]
  have HB := Lib.hid hb
  have HS := Lib.hid hYs
  have H1 := Lib.hid hY1
  have HSZ := Lib.hid hZs
  have HZ1 := Lib.hid hZ1
  have HY := Lib.hid hY
  have HZ := Lib.hid hZ
  have C0 := Lib.hid c0
  clear hb hYs hY1 hZs hZ1 hY hZ hl hc hln hf c0 hx0 h0
  go_enter Try.func32, Try.ntmps32
  go_wp2_with (first
    | ((with_reducible refine wpList_build_to rfl 26 _ rfl _ Y ?hb3 HB.out ?_); (case hb3 => rfl))
    | ((with_reducible refine wpList_store_blk rfl 26 _ _ rfl (w.heap.size + 1) Y ?hx2 ?hy2 26 _ (heap_alloc2_new _ _ _) (info_frame HS.out) ?hs2 H1.out ?_); (case hx2 => rfl); (case hy2 => rfl); (case hs2 => rw [HS.out]; rfl)
       intro w6 hg6 hX6 hs6
       have hM6 := Mid.first hg6 hs6
       rw [HY.out] at hX6
       have s0 := (hM6.below.cell (p := ⟨b, off, none⟩) hbl).trans C0.out
       have HX6 := Lib.hid hX6
       have HM6 := Lib.hid hM6
       clear hg6 hX6 hs6 hM6)
    | ((with_reducible refine wpList_store_num rfl 22 _ _ rfl .u64 (x0 : Int) (w.heap.size + 1) 2 ⟨3, 0, 0, 0, 0, 0, 0, 0, noTag⟩ ⟨3, 0, (x0 : Nat), 0, 0, 0, 0, 0, noTag⟩ HX6.out ?hxa0 ?hya0 Try.underlying22 ?hia0 HE0.out ?hla0 ?_); (case hxa0 => rfl); (case hya0 => rfl); (case hia0 => kernel_rfl); (case hla0 => decide)
       intro w7 hX7 hg7 hs7
       have hM7 := HM6.out.step hg7 hs7
       rw [← HZ.out] at hX7
       have HX7 := Lib.hid hX7
       have HM7 := Lib.hid hM7
       clear hg7 hX7 hs7 hM7)
    | ((with_reducible refine wpList_load_blk 26 _ rfl (w.heap.size + 1) ?hx4 26 Z (0, 0) _ HX7.out Try.underlying26 ?hd4 (info_frame HSZ.out) ?_ ?hw4); (case hx4 => rfl); (case hd4 => rfl); (case hw4 => rfl))
    | ((with_reducible refine wpList_store_blk rfl 26 _ _ rfl w.heap.size Z ?hx5 ?hy5 26 _ HM7.out.res (info_frame HSZ.out) ?hs5 HZ1.out ?_); (case hx5 => rfl); (case hy5 => rfl); (case hs5 => rw [HSZ.out]; rfl)
       intro w19 hg19 hX19 hs19
       have HB19 := Lib.hid (HM7.out.below.grown hg19 (by have := HM7.out.size; omega) (fun g e => by cases e; exact Nat.le_refl _))
       have HX19 := Lib.hid hX19
       clear hg19 hX19 hs19))
  refine bodyPost_ret (v := .agg Z) ?_ ?_ ?_
  · exact results_cell_row Try.results32 _ _ w.heap.size 26 _ (0, 0) _ rfl HX19.out Try.underlying26 rfl (info_frame HSZ.out)
  · rfl
  · exact ⟨rfl, HB19.out⟩
set_option maxRecDepth 100000 in
set_option maxHeartbeats 4000000 in
theorem made_4 (l : List Nat) (A : Option Addr) (n c : Nat) (w : World) (hl : Its .u64 w A n c (ints l)) (hn : n = 4) (h0 : l.getD 0 0 < 18446744073709551616) (h1 : l.getD 1 0 < 18446744073709551616) (h2 : l.getD 2 0 < 9223372036854775808) (h3 : l.getD 3 0 < 9223372036854775808) :
    Calls Try.prog 32 #[.int .i64 4, .slice A n c] w (fun e w' => e = .returned (frV (madeF 4 l)) ∧ Below w.heap.size w w') := by
  subst hn
  obtain ⟨b, off, rfl, hc⟩ := hl.at_ (by omega)
  have hln : l.length = 4 := by have := hl.len; rwa [ints_length] at this
  have c0 := hc 0 (by omega)
  rw [ints_get l 0 (by omega)] at c0
  have c1 := hc 1 (by omega)
  rw [ints_get l 1 (by omega)] at c1
  have c2 := hc 2 (by omega)
  rw [ints_get l 2 (by omega)] at c2
  have c3 := hc 3 (by omega)
  rw [ints_get l 3 (by omega)] at c3
  rw [Nat.add_zero] at c0
  have hbl : b < w.heap.size := block_lt_of_cell c0
  obtain ⟨x0, hx0⟩ : ∃ x, l.getD 0 0 = x := ⟨_, rfl⟩
  rw [hx0] at c0 h0
  obtain ⟨x1, hx1⟩ : ∃ x, l.getD 1 0 = x := ⟨_, rfl⟩
  rw [hx1] at c1 h1
  obtain ⟨x2, hx2⟩ : ∃ x, l.getD 2 0 = x := ⟨_, rfl⟩
  rw [hx2] at c2 h2
  obtain ⟨x3, hx3⟩ : ∃ x, l.getD 3 0 = x := ⟨_, rfl⟩
  rw [hx3] at c3 h3
  have hf : madeF 4 l = ⟨4, 0, (x0 : Nat), 0, 0, (x1 : Nat), (x2 : Nat), (x3 : Nat), noTag⟩ := by unfold madeF; simp only [hx0, hx1, hx2, hx3]
  rw [hf]
  have r0 : (x0 : Int) ≤ 18446744073709551615 := by omega
  have r1 : (x1 : Int) ≤ 18446744073709551615 := by omega
  have r2 : (x2 : Int) ≤ 9223372036854775807 := by omega
  have r3 : (x3 : Int) ≤ 9223372036854775807 := by omega
  have hb := built_kind 4
  obtain ⟨Y, hY⟩ : ∃ Y, Y = frA ⟨4, 0, 0, 0, 0, 0, 0, 0, noTag⟩ := ⟨_, rfl⟩
  obtain ⟨Z, hZ⟩ : ∃ Z, Z = frA ⟨4, 0, (x0 : Nat), 0, 0, (x1 : Nat), (x2 : Nat), (x3 : Nat), noTag⟩ := ⟨_, rfl⟩
  have HE0 := Lib.hid (show (frC ⟨4, 0, 0, 0, 0, 0, 0, 0, noTag⟩).set 2 (.int .u64 (x0 : Int)) = frC ⟨4, 0, (x0 : Nat), 0, 0, 0, 0, 0, noTag⟩ from rfl)
  have HE1 := Lib.hid (show (frC ⟨4, 0, (x0 : Nat), 0, 0, 0, 0, 0, noTag⟩).set 5 (.int .u64 (x1 : Int)) = frC ⟨4, 0, (x0 : Nat), 0, 0, (x1 : Nat), 0, 0, noTag⟩ from rfl)
  have HE2 := Lib.hid (show (frC ⟨4, 0, (x0 : Nat), 0, 0, (x1 : Nat), 0, 0, noTag⟩).set 6 (.int .i64 (x2 : Int)) = frC ⟨4, 0, (x0 : Nat), 0, 0, (x1 : Nat), (x2 : Nat), 0, noTag⟩ from rfl)
  have HE3 := Lib.hid (show (frC ⟨4, 0, (x0 : Nat), 0, 0, (x1 : Nat), (x2 : Nat), 0, noTag⟩).set 7 (.int .i64 (x3 : Int)) = frC ⟨4, 0, (x0 : Nat), 0, 0, (x1 : Nat), (x2 : Nat), (x3 : Nat), noTag⟩ from rfl)
  rw [← hY] at hb
  have hYs : Y.size = 40 := by rw [hY]; exact frA_size rfl
  have hY1 : Y.all (·.oneCell') = true := by rw [hY]; exact frA_one _
  have hZs : Z.size = 40 := by rw [hZ]; exact frA_size rfl
  have hZ1 : Z.all (·.oneCell') = true := by rw [hZ]; exact frA_one _
  unfold frV
  rw [← hZ]
  have HB := Lib.hid hb
  have HS := Lib.hid hYs
  have H1 := Lib.hid hY1
  have HSZ := Lib.hid hZs
  have HZ1 := Lib.hid hZ1
  have HY := Lib.hid hY
  have HZ := Lib.hid hZ
  have C0 := Lib.hid c0
  have C1 := Lib.hid c1
  have C2 := Lib.hid c2
  have C3 := Lib.hid c3
  clear hb hYs hY1 hZs hZ1 hY hZ hl hc hln hf c0 hx0 h0 c1 hx1 h1 c2 hx2 h2 c3 hx3 h3
  go_enter Try.func32, Try.ntmps32
  go_wp2_with (first
    | ((with_reducible refine wpList_build_to rfl 26 _ rfl _ Y ?hb3 HB.out ?_); (case hb3 => rfl))
    | ((with_reducible refine wpList_store_blk rfl 26 _ _ rfl (w.heap.size + 1) Y ?hx2 ?hy2 26 _ (heap_alloc2_new _ _ _) (info_frame HS.out) ?hs2 H1.out ?_); (case hx2 => rfl); (case hy2 => rfl); (case hs2 => rw [HS.out]; rfl)
       intro w6 hg6 hX6 hs6
       have hM6 := Mid.first hg6 hs6
       rw [HY.out] at hX6
       have s0 := (hM6.below.cell (p := ⟨b, off, none⟩) hbl).trans C0.out
       have HX6 := Lib.hid hX6
       have HM6 := Lib.hid hM6
       clear hg6 hX6 hs6 hM6)
    | ((with_reducible refine wpList_store_num rfl 22 _ _ rfl .u64 (x0 : Int) (w.heap.size + 1) 2 ⟨4, 0, 0, 0, 0, 0, 0, 0, noTag⟩ ⟨4, 0, (x0 : Nat), 0, 0, 0, 0, 0, noTag⟩ HX6.out ?hxa0 ?hya0 Try.underlying22 ?hia0 HE0.out ?hla0 ?_); (case hxa0 => rfl); (case hya0 => rfl); (case hia0 => kernel_rfl); (case hla0 => decide)
       intro w7 hX7 hg7 hs7
       have hM7 := HM6.out.step hg7 hs7
       have s1 := (hM7.below.cell (p := ⟨b, off + 1, none⟩) hbl).trans C1.out
       have HX7 := Lib.hid hX7
       have HM7 := Lib.hid hM7
       clear hg7 hX7 hs7 hM7)
    | ((with_reducible refine wpList_store_num rfl 22 _ _ rfl .u64 (x1 : Int) (w.heap.size + 1) 5 ⟨4, 0, (x0 : Nat), 0, 0, 0, 0, 0, noTag⟩ ⟨4, 0, (x0 : Nat), 0, 0, (x1 : Nat), 0, 0, noTag⟩ HX7.out ?hxa1 ?hya1 Try.underlying22 ?hia1 HE1.out ?hla1 ?_); (case hxa1 => rfl); (case hya1 => rfl); (case hia1 => kernel_rfl); (case hla1 => decide)
       intro w8 hX8 hg8 hs8
       have hM8 := HM7.out.step hg8 hs8
       have s2 := (hM8.below.cell (p := ⟨b, off + 2, none⟩) hbl).trans C2.out
       have HX8 := Lib.hid hX8
       have HM8 := Lib.hid hM8
       clear hg8 hX8 hs8 hM8)
    | ((with_reducible refine wpList_store_num rfl 3 _ _ rfl .i64 (x2 : Int) (w.heap.size + 1) 6 ⟨4, 0, (x0 : Nat), 0, 0, (x1 : Nat), 0, 0, noTag⟩ ⟨4, 0, (x0 : Nat), 0, 0, (x1 : Nat), (x2 : Nat), 0, noTag⟩ HX8.out ?hxa2 ?hya2 Try.underlying3 ?hia2 HE2.out ?hla2 ?_); (case hxa2 => rfl); (case hya2 => rfl); (case hia2 => kernel_rfl); (case hla2 => decide)
       intro w9 hX9 hg9 hs9
       have hM9 := HM8.out.step hg9 hs9
       have s3 := (hM9.below.cell (p := ⟨b, off + 3, none⟩) hbl).trans C3.out
       have HX9 := Lib.hid hX9
       have HM9 := Lib.hid hM9
       clear hg9 hX9 hs9 hM9)
    | ((with_reducible refine wpList_store_num rfl 3 _ _ rfl .i64 (x3 : Int) (w.heap.size + 1) 7 ⟨4, 0, (x0 : Nat), 0, 0, (x1 : Nat), (x2 : Nat), 0, noTag⟩ ⟨4, 0, (x0 : Nat), 0, 0, (x1 : Nat), (x2 : Nat), (x3 : Nat), noTag⟩ HX9.out ?hxa3 ?hya3 Try.underlying3 ?hia3 HE3.out ?hla3 ?_); (case hxa3 => rfl); (case hya3 => rfl); (case hia3 => kernel_rfl); (case hla3 => decide)
       intro w10 hX10 hg10 hs10
       have hM10 := HM9.out.step hg10 hs10
       rw [← HZ.out] at hX10
       have HX10 := Lib.hid hX10
       have HM10 := Lib.hid hM10
       clear hg10 hX10 hs10 hM10)
    | ((with_reducible refine wpList_load_blk 26 _ rfl (w.heap.size + 1) ?hx4 26 Z (0, 0) _ HX10.out Try.underlying26 ?hd4 (info_frame HSZ.out) ?_ ?hw4); (case hx4 => rfl); (case hd4 => rfl); (case hw4 => rfl))
    | ((with_reducible refine wpList_store_blk rfl 26 _ _ rfl w.heap.size Z ?hx5 ?hy5 26 _ HM10.out.res (info_frame HSZ.out) ?hs5 HZ1.out ?_); (case hx5 => rfl); (case hy5 => rfl); (case hs5 => rw [HSZ.out]; rfl)
       intro w19 hg19 hX19 hs19
       have HB19 := Lib.hid (HM10.out.below.grown hg19 (by have := HM10.out.size; omega) (fun g e => by cases e; exact Nat.le_refl _))
       have HX19 := Lib.hid hX19
       clear hg19 hX19 hs19))
  refine bodyPost_ret (v := .agg Z) ?_ ?_ ?_
  · exact results_cell_row Try.results32 _ _ w.heap.size 26 _ (0, 0) _ rfl HX19.out Try.underlying26 rfl (info_frame HSZ.out)
  · rfl
  · exact ⟨rfl, HB19.out⟩
set_option maxRecDepth 100000 in
set_option maxHeartbeats 4000000 in
theorem made_5 (l : List Nat) (A : Option Addr) (n c : Nat) (w : World) (hl : Its .u64 w A n c (ints l)) (hn : n = 4) (h0 : l.getD 0 0 < 18446744073709551616) (h1 : l.getD 1 0 < 18446744073709551616) (h2 : l.getD 2 0 < 9223372036854775808) (h3 : l.getD 3 0 < 9223372036854775808) :
    Calls Try.prog 32 #[.int .i64 5, .slice A n c] w (fun e w' => e = .returned (frV (madeF 5 l)) ∧ Below w.heap.size w w') := by
  subst hn
  obtain ⟨b, off, rfl, hc⟩ := hl.at_ (by omega)
  have hln : l.length = 4 := by have := hl.len; rwa [ints_length] at this
  have c0 := hc 0 (by omega)
  rw [ints_get l 0 (by omega)] at c0
  have c1 := hc 1 (by omega)
  rw [ints_get l 1 (by omega)] at c1
  have c2 := hc 2 (by omega)
  rw [ints_get l 2 (by omega)] at c2
  have c3 := hc 3 (by omega)
  rw [ints_get l 3 (by omega)] at c3
  rw [Nat.add_zero] at c0
  have hbl : b < w.heap.size := block_lt_of_cell c0
  obtain ⟨x0, hx0⟩ : ∃ x, l.getD 0 0 = x := ⟨_, rfl⟩
  rw [hx0] at c0 h0
  obtain ⟨x1, hx1⟩ : ∃ x, l.getD 1 0 = x := ⟨_, rfl⟩
  rw [hx1] at c1 h1
  obtain ⟨x2, hx2⟩ : ∃ x, l.getD 2 0 = x := ⟨_, rfl⟩
  rw [hx2] at c2 h2
  obtain ⟨x3, hx3⟩ : ∃ x, l.getD 3 0 = x := ⟨_, rfl⟩
  rw [hx3] at c3 h3
  have hf : madeF 5 l = ⟨5, 0, (x0 : Nat), 0, 0, (x1 : Nat), (x2 : Nat), (x3 : Nat), noTag⟩ := by unfold madeF; simp only [hx0, hx1, hx2, hx3]
  rw [hf]
  have r0 : (x0 : Int) ≤ 18446744073709551615 := by omega
  have r1 : (x1 : Int) ≤ 18446744073709551615 := by omega
  have r2 : (x2 : Int) ≤ 9223372036854775807 := by omega
  have r3 : (x3 : Int) ≤ 9223372036854775807 := by omega
  have hb := built_kind 5
  obtain ⟨Y, hY⟩ : ∃ Y, Y = frA ⟨5, 0, 0, 0, 0, 0, 0, 0, noTag⟩ := ⟨_, rfl⟩
  obtain ⟨Z, hZ⟩ : ∃ Z, Z = frA ⟨5, 0, (x0 : Nat), 0, 0, (x1 : Nat), (x2 : Nat), (x3 : Nat), noTag⟩ := ⟨_, rfl⟩
  have HE0 := Lib.hid (show (frC ⟨5, 0, 0, 0, 0, 0, 0, 0, noTag⟩).set 2 (.int .u64 (x0 : Int)) = frC ⟨5, 0, (x0 : Nat), 0, 0, 0, 0, 0, noTag⟩ from rfl)
  have HE1 := Lib.hid (show (frC ⟨5, 0, (x0 : Nat), 0, 0, 0, 0, 0, noTag⟩).set 5 (.int .u64 (x1 : Int)) = frC ⟨5, 0, (x0 : Nat), 0, 0, (x1 : Nat), 0, 0, noTag⟩ from rfl)
  have HE2 := Lib.hid (show (frC ⟨5, 0, (x0 : Nat), 0, 0, (x1 : Nat), 0, 0, noTag⟩).set 6 (.int .i64 (x2 : Int)) = frC ⟨5, 0, (x0 : Nat), 0, 0, (x1 : Nat), (x2 : Nat), 0, noTag⟩ from rfl)
  have HE3 := Lib.hid (show (frC ⟨5, 0, (x0 : Nat), 0, 0, (x1 : Nat), (x2 : Nat), 0, noTag⟩).set 7 (.int .i64 (x3 : Int)) = frC ⟨5, 0, (x0 : Nat), 0, 0, (x1 : Nat), (x2 : Nat), (x3 : Nat), noTag⟩ from rfl)
  rw [← hY] at hb
  have hYs : Y.size = 40 := by rw [hY]; exact frA_size rfl
  have hY1 : Y.all (·.oneCell') = true := by rw [hY]; exact frA_one _
  have hZs : Z.size = 40 := by rw [hZ]; exact frA_size rfl
  have hZ1 : Z.all (·.oneCell') = true := by rw [hZ]; exact frA_one _
  unfold frV
  rw [← hZ]
  have HB := Lib.hid hb
  have HS := Lib.hid hYs
  have H1 := Lib.hid hY1
  have HSZ := Lib.hid hZs
  have HZ1 := Lib.hid hZ1
  have HY := Lib.hid hY
  have HZ := Lib.hid hZ
  have C0 := Lib.hid c0
  have C1 := Lib.hid c1
  have C2 := Lib.hid c2
  have C3 := Lib.hid c3
  clear hb hYs hY1 hZs hZ1 hY hZ hl hc hln hf c0 hx0 h0 c1 hx1 h1 c2 hx2 h2 c3 hx3 h3
  go_enter Try.func32, Try.ntmps32
  go_wp2_with (first
    | ((with_reducible refine wpList_build_to rfl 26 _ rfl _ Y ?hb3 HB.out ?_); (case hb3 => rfl))
    | ((with_reducible refine wpList_store_blk rfl 26 _ _ rfl (w.heap.size + 1) Y ?hx2 ?hy2 26 _ (heap_alloc2_new _ _ _) (info_frame HS.out) ?hs2 H1.out ?_); (case hx2 => rfl); (case hy2 => rfl); (case hs2 => rw [HS.out]; rfl)
       intro w6 hg6 hX6 hs6
       have hM6 := Mid.first hg6 hs6
       rw [HY.out] at hX6
       have s0 := (hM6.below.cell (p := ⟨b, off, none⟩) hbl).trans C0.out
       have HX6 := Lib.hid hX6
       have HM6 := Lib.hid hM6
       clear hg6 hX6 hs6 hM6)
    | ((with_reducible refine wpList_store_num rfl 22 _ _ rfl .u64 (x0 : Int) (w.heap.size + 1) 2 ⟨5, 0, 0, 0, 0, 0, 0, 0, noTag⟩ ⟨5, 0, (x0 : Nat), 0, 0, 0, 0, 0, noTag⟩ HX6.out ?hxa0 ?hya0 Try.underlying22 ?hia0 HE0.out ?hla0 ?_); (case hxa0 => rfl); (case hya0 => rfl); (case hia0 => kernel_rfl); (case hla0 => decide)
       intro w7 hX7 hg7 hs7
       have hM7 := HM6.out.step hg7 hs7
       have s1 := (hM7.below.cell (p := ⟨b, off + 1, none⟩) hbl).trans C1.out
       have HX7 := Lib.hid hX7
       have HM7 := Lib.hid hM7
       clear hg7 hX7 hs7 hM7)
    | ((with_reducible refine wpList_store_num rfl 22 _ _ rfl .u64 (x1 : Int) (w.heap.size + 1) 5 ⟨5, 0, (x0 : Nat), 0, 0, 0, 0, 0, noTag⟩ ⟨5, 0, (x0 : Nat), 0, 0, (x1 : Nat), 0, 0, noTag⟩ HX7.out ?hxa1 ?hya1 Try.underlying22 ?hia1 HE1.out ?hla1 ?_); (case hxa1 => rfl); (case hya1 => rfl); (case hia1 => kernel_rfl); (case hla1 => decide)
       intro w8 hX8 hg8 hs8
       have hM8 := HM7.out.step hg8 hs8
       have s2 := (hM8.below.cell (p := ⟨b, off + 2, none⟩) hbl).trans C2.out
       have HX8 := Lib.hid hX8
       have HM8 := Lib.hid hM8
       clear hg8 hX8 hs8 hM8)
    | ((with_reducible refine wpList_store_num rfl 3 _ _ rfl .i64 (x2 : Int) (w.heap.size + 1) 6 ⟨5, 0, (x0 : Nat), 0, 0, (x1 : Nat), 0, 0, noTag⟩ ⟨5, 0, (x0 : Nat), 0, 0, (x1 : Nat), (x2 : Nat), 0, noTag⟩ HX8.out ?hxa2 ?hya2 Try.underlying3 ?hia2 HE2.out ?hla2 ?_); (case hxa2 => rfl); (case hya2 => rfl); (case hia2 => kernel_rfl); (case hla2 => decide)
       intro w9 hX9 hg9 hs9
       have hM9 := HM8.out.step hg9 hs9
       have s3 := (hM9.below.cell (p := ⟨b, off + 3, none⟩) hbl).trans C3.out
       have HX9 := Lib.hid hX9
       have HM9 := Lib.hid hM9
       clear hg9 hX9 hs9 hM9)
    | ((with_reducible refine wpList_store_num rfl 3 _ _ rfl .i64 (x3 : Int) (w.heap.size + 1) 7 ⟨5, 0, (x0 : Nat), 0, 0, (x1 : Nat), (x2 : Nat), 0, noTag⟩ ⟨5, 0, (x0 : Nat), 0, 0, (x1 : Nat), (x2 : Nat), (x3 : Nat), noTag⟩ HX9.out ?hxa3 ?hya3 Try.underlying3 ?hia3 HE3.out ?hla3 ?_); (case hxa3 => rfl); (case hya3 => rfl); (case hia3 => kernel_rfl); (case hla3 => decide)
       intro w10 hX10 hg10 hs10
       have hM10 := HM9.out.step hg10 hs10
       rw [← HZ.out] at hX10
       have HX10 := Lib.hid hX10
       have HM10 := Lib.hid hM10
       clear hg10 hX10 hs10 hM10)
    | ((with_reducible refine wpList_load_blk 26 _ rfl (w.heap.size + 1) ?hx4 26 Z (0, 0) _ HX10.out Try.underlying26 ?hd4 (info_frame HSZ.out) ?_ ?hw4); (case hx4 => rfl); (case hd4 => rfl); (case hw4 => rfl))
    | ((with_reducible refine wpList_store_blk rfl 26 _ _ rfl w.heap.size Z ?hx5 ?hy5 26 _ HM10.out.res (info_frame HSZ.out) ?hs5 HZ1.out ?_); (case hx5 => rfl); (case hy5 => rfl); (case hs5 => rw [HSZ.out]; rfl)
       intro w19 hg19 hX19 hs19
       have HB19 := Lib.hid (HM10.out.below.grown hg19 (by have := HM10.out.size; omega) (fun g e => by cases e; exact Nat.le_refl _))
       have HX19 := Lib.hid hX19
       clear hg19 hX19 hs19))
  refine bodyPost_ret (v := .agg Z) ?_ ?_ ?_
  · exact results_cell_row Try.results32 _ _ w.heap.size 26 _ (0, 0) _ rfl HX19.out Try.underlying26 rfl (info_frame HSZ.out)
  · rfl
  · exact ⟨rfl, HB19.out⟩
set_option maxRecDepth 100000 in
set_option maxHeartbeats 4000000 in
theorem made_6 (l : List Nat) (A : Option Addr) (n c : Nat) (w : World) (hl : Its .u64 w A n c (ints l)) (hn : n = 1) (h0 : l.getD 0 0 < 9223372036854775808) :
    Calls Try.prog 32 #[.int .i64 6, .slice A n c] w (fun e w' => e = .returned (frV (madeF 6 l)) ∧ Below w.heap.size w w') := by
  subst hn
  obtain ⟨b, off, rfl, hc⟩ := hl.at_ (by omega)
  have hln : l.length = 1 := by have := hl.len; rwa [ints_length] at this
  have c0 := hc 0 (by omega)
  rw [ints_get l 0 (by omega)] at c0
  rw [Nat.add_zero] at c0
  have hbl : b < w.heap.size := block_lt_of_cell c0
  obtain ⟨x0, hx0⟩ : ∃ x, l.getD 0 0 = x := ⟨_, rfl⟩
  rw [hx0] at c0 h0
  have hf : madeF 6 l = ⟨6, 0, 0, 0, 0, 0, (x0 : Nat), 0, noTag⟩ := by unfold madeF; simp only [hx0]; rfl
  rw [hf]
  have r0 : (x0 : Int) ≤ 9223372036854775807 := by omega
  have hb := built_kind 6
  obtain ⟨Y, hY⟩ : ∃ Y, Y = frA ⟨6, 0, 0, 0, 0, 0, 0, 0, noTag⟩ := ⟨_, rfl⟩
  obtain ⟨Z, hZ⟩ : ∃ Z, Z = frA ⟨6, 0, 0, 0, 0, 0, (x0 : Nat), 0, noTag⟩ := ⟨_, rfl⟩
  have HE0 := Lib.hid (show (frC ⟨6, 0, 0, 0, 0, 0, 0, 0, noTag⟩).set 6 (.int .i64 (x0 : Int)) = frC ⟨6, 0, 0, 0, 0, 0, (x0 : Nat), 0, noTag⟩ from rfl)
  rw [← hY] at hb
  have hYs : Y.size = 40 := by rw [hY]; exact frA_size rfl
  have hY1 : Y.all (·.oneCell') = true := by rw [hY]; exact frA_one _
  have hZs : Z.size = 40 := by rw [hZ]; exact frA_size rfl
  have hZ1 : Z.all (·.oneCell') = true := by rw [hZ]; exact frA_one _
  unfold frV
  rw [← hZ]
  have HB := Lib.hid hb
  have HS := Lib.hid hYs
  have H1 := Lib.hid hY1
  have HSZ := Lib.hid hZs
  have HZ1 := Lib.hid hZ1
  have HY := Lib.hid hY
  have HZ := Lib.hid hZ
  have C0 := Lib.hid c0
  clear hb hYs hY1 hZs hZ1 hY hZ hl hc hln hf c0 hx0 h0
  go_enter Try.func32, Try.ntmps32
  go_wp2_with (first
    | ((with_reducible refine wpList_build_to rfl 26 _ rfl _ Y ?hb3 HB.out ?_); (case hb3 => rfl))
    | ((with_reducible refine wpList_store_blk rfl 26 _ _ rfl (w.heap.size + 1) Y ?hx2 ?hy2 26 _ (heap_alloc2_new _ _ _) (info_frame HS.out) ?hs2 H1.out ?_); (case hx2 => rfl); (case hy2 => rfl); (case hs2 => rw [HS.out]; rfl)
       intro w6 hg6 hX6 hs6
       have hM6 := Mid.first hg6 hs6
       rw [HY.out] at hX6
       have s0 := (hM6.below.cell (p := ⟨b, off, none⟩) hbl).trans C0.out
       have HX6 := Lib.hid hX6
       have HM6 := Lib.hid hM6
       clear hg6 hX6 hs6 hM6)
    | ((with_reducible refine wpList_store_num rfl 3 _ _ rfl .i64 (x0 : Int) (w.heap.size + 1) 6 ⟨6, 0, 0, 0, 0, 0, 0, 0, noTag⟩ ⟨6, 0, 0, 0, 0, 0, (x0 : Nat), 0, noTag⟩ HX6.out ?hxa0 ?hya0 Try.underlying3 ?hia0 HE0.out ?hla0 ?_); (case hxa0 => rfl); (case hya0 => rfl); (case hia0 => kernel_rfl); (case hla0 => decide)
       intro w7 hX7 hg7 hs7
       have hM7 := HM6.out.step hg7 hs7
       rw [← HZ.out] at hX7
       have HX7 := Lib.hid hX7
       have HM7 := Lib.hid hM7
       clear hg7 hX7 hs7 hM7)
    | ((with_reducible refine wpList_load_blk 26 _ rfl (w.heap.size + 1) ?hx4 26 Z (0, 0) _ HX7.out Try.underlying26 ?hd4 (info_frame HSZ.out) ?_ ?hw4); (case hx4 => rfl); (case hd4 => rfl); (case hw4 => rfl))
    | ((with_reducible refine wpList_store_blk rfl 26 _ _ rfl w.heap.size Z ?hx5 ?hy5 26 _ HM7.out.res (info_frame HSZ.out) ?hs5 HZ1.out ?_); (case hx5 => rfl); (case hy5 => rfl); (case hs5 => rw [HSZ.out]; rfl)
       intro w19 hg19 hX19 hs19
       have HB19 := Lib.hid (HM7.out.below.grown hg19 (by have := HM7.out.size; omega) (fun g e => by cases e; exact Nat.le_refl _))
       have HX19 := Lib.hid hX19
       clear hg19 hX19 hs19))
  refine bodyPost_ret (v := .agg Z) ?_ ?_ ?_
  · exact results_cell_row Try.results32 _ _ w.heap.size 26 _ (0, 0) _ rfl HX19.out Try.underlying26 rfl (info_frame HSZ.out)
  · rfl
  · exact ⟨rfl, HB19.out⟩
end Go.Proofs.Ytncedbjbooemjaa

/- The document's answers about a plain frame, as functions of lists; made, for any kind. -/
namespace Go.Proofs.Ytncedbjbooemjaa
set_option linter.unusedVariables false
set_option linter.unusedSimpArgs false
open Go.RowKit

/-- the numbers alone -/
def numsF (f : Fr) : List Nat := (toN (fieldsF f)).map (·.1)
/-- the frame that the document makes anew -/
def againF (f : Fr) : Fr := { madeF f.kind.toNat (numsF f) with tag := if tagK f.kind.toNat then f.tag else noTag }
theorem made_tag (k : Nat) (l : List Nat) : (madeF k l).tag = noTag := by unfold madeF; split <;> rfl
theorem plain_again {f : Fr} (hok : f.ok) (hk : kindB f.kind = true) (hr : rangeB f = true) : plainB f = eqFr (againF f) f := by
  have hr2 := hr
  unfold rangeB at hr2
  rw [decide_eq_true_eq] at hr2
  unfold plainB plainS
  rw [hk, hr, Bool.true_and, Bool.true_and]
  rcases f with ⟨kind, user, sess, cn, epoch, count, cmd, arg, tag⟩
  obtain ⟨⟨_, _⟩, ⟨_, _⟩, ⟨b2, _⟩, ⟨b3, _⟩, ⟨_, _⟩, ⟨b5, _⟩, ⟨_, _⟩, ⟨_, _⟩, _, _⟩ := hok
  simp only at *
  obtain ⟨r1, _, r3, _, r5, _, r7, _⟩ := hr2
  obtain ⟨user, rfl⟩ := Int.eq_ofNat_of_zero_le r1
  obtain ⟨epoch, rfl⟩ := Int.eq_ofNat_of_zero_le r3
  obtain ⟨cmd, rfl⟩ := Int.eq_ofNat_of_zero_le r5
  obtain ⟨arg, rfl⟩ := Int.eq_ofNat_of_zero_le r7
  obtain ⟨sess, rfl⟩ := Int.eq_ofNat_of_zero_le b2
  obtain ⟨cn, rfl⟩ := Int.eq_ofNat_of_zero_le b3
  obtain ⟨count, rfl⟩ := Int.eq_ofNat_of_zero_le b5
  rw [Bool.eq_iff_iff]
  rcases kind_cases hk with rfl | rfl | rfl | rfl | rfl | rfl | rfl <;>
    simp [againF, madeF, numsF, fieldsF, toN, tagK, szK, blankB, Fr.nums, eqFr, eq_comm (a := noTag)] <;> first | done | omega | (by_cases q : tag = noTag <;> simp [q] <;> omega)
set_option maxRecDepth 100000 in
theorem made_any (f : Fr) (hok : f.ok) (hk : kindB f.kind = true) (hr : rangeB f = true) (A : Option Addr) (n c : Nat) (w : World) (hl : Its .u64 w A n c (ints (numsF f))) :
    Calls Try.prog 32 #[.int .i64 f.kind, .slice A n c] w (fun e w' => e = .returned (frV (madeF f.kind.toNat (numsF f))) ∧ Below w.heap.size w w') := by
  unfold rangeB at hr
  rw [decide_eq_true_eq] at hr
  have hn := hl.len
  rw [ints_length] at hn
  obtain ⟨_, _, ⟨b2, a2⟩, ⟨b3, a3⟩, _, ⟨b5, a5⟩, _, _, _, _⟩ := hok
  rcases f with ⟨kind, user, sess, cn, epoch, count, cmd, arg, tag⟩
  simp only at *
  rcases kind_cases hk with rfl | rfl | rfl | rfl | rfl | rfl | rfl
  · exact made_0 _ A n c w hl (by simp [numsF, fieldsF, toN] at hn; omega) (by simp [numsF, fieldsF, toN]; omega) (by simp [numsF, fieldsF, toN]; omega)
  · exact made_1 _ A n c w hl (by simp [numsF, fieldsF, toN] at hn; omega) (by simp [numsF, fieldsF, toN]; omega) (by simp [numsF, fieldsF, toN]; omega)
  · exact made_2 _ A n c w hl (by simp [numsF, fieldsF, toN] at hn; omega) (by simp [numsF, fieldsF, toN]; omega)
  · exact made_3 _ A n c w hl (by simp [numsF, fieldsF, toN] at hn; omega) (by simp [numsF, fieldsF, toN]; omega)
  · exact made_4 _ A n c w hl (by simp [numsF, fieldsF, toN] at hn; omega) (by simp [numsF, fieldsF, toN]; omega) (by simp [numsF, fieldsF, toN]; omega) (by simp [numsF, fieldsF, toN]; omega) (by simp [numsF, fieldsF, toN]; omega)
  · exact made_5 _ A n c w hl (by simp [numsF, fieldsF, toN] at hn; omega) (by simp [numsF, fieldsF, toN]; omega) (by simp [numsF, fieldsF, toN]; omega) (by simp [numsF, fieldsF, toN]; omega) (by simp [numsF, fieldsF, toN]; omega)
  · exact made_6 _ A n c w hl (by simp [numsF, fieldsF, toN] at hn; omega) (by simp [numsF, fieldsF, toN]; omega)
theorem nums_ints {f : Fr} (hp : f.pos) (hok : f.ok) : (fieldsF f).map (·.1) = ints (numsF f) := by
  have h : ∀ p ∈ fieldsF f, 0 ≤ p.1 := by
    obtain ⟨p0, p1, p2, p3, p4⟩ := hp
    obtain ⟨_, _, ⟨b2, a2⟩, ⟨b3, a3⟩, _, ⟨b5, a5⟩, _, _, _, _⟩ := hok
    unfold fieldsF
    split <;> simp <;> omega
  unfold numsF ints toN
  rw [List.map_map, List.map_map]
  refine List.map_congr_left fun p hp' => ?_
  have := h p hp'
  simp only [Function.comp]
  show p.1 = ((p.1.toNat : Nat) : Int)
  omega
end Go.Proofs.Ytncedbjbooemjaa

/- What bytes that are a plain frame's hold, for the walk over the document's Read. -/
namespace Go.Proofs.Ytncedbjbooemjaa
set_option linter.unusedVariables false
set_option linter.unusedSimpArgs false
open Go.RowKit

/-- what stands behind the kind -/
theorem read_rest {l : List Int} (hl : ∀ j, 0 ≤ l.getD j 0 ∧ l.getD j 0 < 256) (h : errL l = 0) : l.drop 3 = catL (toN (fieldsF (readF l))) ++ if tagK (readF l).kind.toNat then (readF l).tag else [] := by
  obtain ⟨hok, hp, hput⟩ := read_put hl h
  have hf := front_is (plain_facts hp).1
  have he : putF (readF l) = frontF (readF l) ++ if tagK (readF l).kind.toNat then (readF l).tag else [] := rfl
  rw [hput, hf] at he
  generalize readF l = f at *
  rw [he]
  simp
theorem read_kind {l : List Int} (hl : ∀ j, 0 ≤ l.getD j 0 ∧ l.getD j 0 < 256) (h : errL l = 0) : kindL l = (readF l).kind.toNat := by
  obtain ⟨hok, hp, hput⟩ := read_put hl h
  have := put_kind_l (plain_facts hp).1
  rwa [hput] at this
theorem again_self {f : Fr} (hok : f.ok) (hp : plainB f = true) : againF f = f := by
  obtain ⟨h1, h2, _, _⟩ := plain_facts hp
  have h := plain_again hok h1 h2
  rw [hp] at h
  exact (eqFr_iff _ _).1 h.symm
/-- the sizes of a kind's numbers -/
def sizesK (k : Nat) : List Nat := match k with
  | 0 => [1, 8]
  | 1 => [8, 4]
  | 2 => [8]
  | 3 => [8]
  | 4 => [8, 8, 1, 2]
  | 5 => [8, 8, 1, 2]
  | _ => [1]
theorem fields_sizes (f : Fr) : (toN (fieldsF f)).map (·.2) = sizesK f.kind.toNat := by
  unfold fieldsF sizesK
  generalize f.kind.toNat = k
  split <;> simp [toN]
theorem fields_fitsL {f : Fr} (hok : f.ok) (hp : plainB f = true) : fitsL (toN (fieldsF f)) := by
  have h1 := (plain_facts hp).1
  have h2 := (plain_facts hp).2.1
  unfold rangeB at h2
  rw [decide_eq_true_eq] at h2
  obtain ⟨_, _, ⟨b2, a2⟩, ⟨b3, a3⟩, _, ⟨b5, a5⟩, _, _, _, _⟩ := hok
  rcases f with ⟨kind, user, sess, cn, epoch, count, cmd, arg, tag⟩
  simp only at *
  clear hp
  unfold fitsL
  rcases kind_cases h1 with rfl | rfl | rfl | rfl | rfl | rfl | rfl <;> simp [fieldsF, toN] <;> omega
/-- the numbers are cut out of the bytes again -/
theorem read_cut {f : Fr} (hok : f.ok) (hp : plainB f = true) : cutL (sizesK f.kind.toNat) (catL (toN (fieldsF f))) = numsF f := by
  rw [← fields_sizes]
  exact cut_cat _ (fields_fitsL hok hp)
/-- what is put is read -/
theorem put_err {f : Fr} {l : List Int} (hok : f.ok) (hp : plainB f = true) (h : putF f = l) : errL l = 0 ∧ readF l = f := by
  rw [← h]
  exact put_read hok hp
set_option maxRecDepth 100000 in
/-- the frame of a kind, and what is cut out of bytes -/
theorem made_cut (k : Nat) (hk : k < 7) (b : List Int) (hb : ∀ x ∈ b, 0 ≤ x ∧ x < 256) (hs : (sizesK k).sum = b.length) (A : Option Addr) (n c : Nat) (w : World) (hl : Its .u64 w A n c (ints (cutL (sizesK k) b))) :
    Calls Try.prog 32 #[.int .i64 (k : Int), .slice A n c] w (fun e w' => e = .returned (frV (madeF k (cutL (sizesK k) b))) ∧ Below w.heap.size w w') := by
  have hn := hl.len
  rw [ints_length, cutL_length] at hn
  have hf := fits_cut (sizesK k) b hb hs
  have h7 : k = 0 ∨ k = 1 ∨ k = 2 ∨ k = 3 ∨ k = 4 ∨ k = 5 ∨ k = 6 := by omega
  unfold fitsL at hf
  rcases h7 with rfl | rfl | rfl | rfl | rfl | rfl | rfl <;> simp [sizesK, cutL] at hf hn
  · exact made_0 _ A n c w hl hn.symm (by simp [sizesK, cutL]; omega) (by simp [sizesK, cutL]; omega)
  · exact made_1 _ A n c w hl hn.symm (by simp [sizesK, cutL]; omega) (by simp [sizesK, cutL]; omega)
  · exact made_2 _ A n c w hl hn.symm (by simp [sizesK, cutL]; omega)
  · exact made_3 _ A n c w hl hn.symm (by simp [sizesK, cutL]; omega)
  · exact made_4 _ A n c w hl hn.symm (by simp [sizesK, cutL]; omega) (by simp [sizesK, cutL]; omega) (by simp [sizesK, cutL]; omega) (by simp [sizesK, cutL]; omega)
  · exact made_5 _ A n c w hl hn.symm (by simp [sizesK, cutL]; omega) (by simp [sizesK, cutL]; omega) (by simp [sizesK, cutL]; omega) (by simp [sizesK, cutL]; omega)
  · exact made_6 _ A n c w hl hn.symm (by simp [sizesK, cutL]; omega)
/-- the frame of a kind alone -/
def kindF (k : Nat) : Fr := ⟨k, 0, 0, 0, 0, 0, 0, 0, noTag⟩
theorem kindF_ok {k : Nat} (hk : k < 256) : (kindF k).ok := by
  have h := zero_ok
  exact ⟨⟨by simp only [kindF]; omega, by simp only [kindF]; omega⟩, h.user, h.sess, h.cn, h.epoch, h.count, h.cmd, h.arg, h.len, h.bytes⟩
theorem kindF_pos (k : Nat) : (kindF k).pos := ⟨by simp only [kindF]; omega, Int.le_refl 0, Int.le_refl 0, Int.le_refl 0, Int.le_refl 0⟩
theorem fields_ks (f : Fr) : (fieldsF f).map (·.2) = ints (sizesK f.kind.toNat) := by
  unfold fieldsF sizesK ints
  generalize f.kind.toNat = k
  split <;> simp
end Go.Proofs.Ytncedbjbooemjaa

/- Pure facts for the document's Read where the bytes have a frame's form: what is cut out of them, and when it is a frame. -/
namespace Go.Proofs.Ytncedbjbooemjaa
set_option linter.unusedVariables false
set_option linter.unusedSimpArgs false
open Go.RowKit

/-- is there a tag behind the numbers? -/
def tgM (k n : Nat) : Bool := tagK k && decide (35 ≤ n)
/-- how many bytes the numbers may have -/
def lenM (k n : Nat) : Nat := if tgM k n then n - 35 else n - 3
def restM (k : Nat) (l : List Int) : List Int := (l.drop 3).take (lenM k l.length)
def tagM (k : Nat) (l : List Int) : List Int := if tgM k l.length then l.drop (l.length - 32) else noTag
def gotM (k : Nat) (l : List Int) : Fr := { madeF k (cutL (sizesK k) (restM k l)) with tag := tagM k l }
theorem restM_length {k : Nat} {l : List Int} (h : 3 ≤ l.length) : (restM k l).length = lenM k l.length := by
  unfold restM
  rw [List.length_take, List.length_drop]
  unfold lenM
  split <;> omega
theorem tagM_length {k : Nat} {l : List Int} (h : 3 ≤ l.length) : (tagM k l).length = 32 := by
  unfold tagM
  split
  · rename_i hq
    unfold tgM at hq
    rw [Bool.and_eq_true, decide_eq_true_eq] at hq
    rw [List.length_drop]
    omega
  · rfl
theorem restM_ok {k : Nat} {l : List Int} (hl : ∀ j, 0 ≤ l.getD j 0 ∧ l.getD j 0 < 256) : ∀ x ∈ restM k l, 0 ≤ x ∧ x < 256 := fun x hx => mem_ok hl x (List.mem_of_mem_drop (List.mem_of_mem_take hx))
theorem getD_of_mem {l : List Int} (h : ∀ x ∈ l, 0 ≤ x ∧ x < 256) (j : Nat) : 0 ≤ l.getD j 0 ∧ l.getD j 0 < 256 := by
  rw [List.getD_eq_getElem?_getD]
  by_cases hj : j < l.length
  · rw [List.getElem?_eq_getElem hj]
    exact h _ (List.getElem_mem hj)
  · rw [List.getElem?_eq_none (by omega)]
    simp
theorem tagM_ok {k : Nat} {l : List Int} (hl : ∀ j, 0 ≤ l.getD j 0 ∧ l.getD j 0 < 256) : ∀ j, 0 ≤ (tagM k l).getD j 0 ∧ (tagM k l).getD j 0 < 256 := by
  unfold tagM
  split
  · exact getD_of_mem fun x hx => mem_ok hl x (List.mem_of_mem_drop hx)
  · intro j
    exact zero_ok.bytes j
/-- what is made of what is cut, is a frame's value -/
theorem gotM_ok {k : Nat} {l : List Int} (hk : k < 7) (h3 : 3 ≤ l.length) (hl : ∀ j, 0 ≤ l.getD j 0 ∧ l.getD j 0 < 256) (hs : (sizesK k).sum = lenM k l.length) : (gotM k l).ok := by
  have hf := fits_cut (sizesK k) (restM k l) (restM_ok hl) (by rw [restM_length h3]; exact hs)
  have ht := tagM_length (k := k) h3
  have hb := tagM_ok (k := k) hl
  unfold gotM
  generalize restM k l = b at hf
  generalize tagM k l = T at ht hb
  have h7 : k = 0 ∨ k = 1 ∨ k = 2 ∨ k = 3 ∨ k = 4 ∨ k = 5 ∨ k = 6 := by omega
  unfold fitsL at hf
  rcases h7 with rfl | rfl | rfl | rfl | rfl | rfl | rfl <;> simp [sizesK, cutL] at hf <;>
    exact ⟨by simp [madeF, sizesK, cutL] <;> omega, by simp [madeF, sizesK, cutL] <;> omega, by simp [madeF, sizesK, cutL] <;> omega, by simp [madeF, sizesK, cutL] <;> omega, by simp [madeF, sizesK, cutL] <;> omega, by simp [madeF, sizesK, cutL] <;> omega, by simp [madeF, sizesK, cutL] <;> omega, by simp [madeF, sizesK, cutL] <;> omega, ht, hb⟩
/-- what stands in bytes that are a frame's -/
theorem mid_parts {l : List Int} (hl : ∀ j, 0 ≤ l.getD j 0 ∧ l.getD j 0 < 256) (h3 : 3 ≤ l.length) (h0 : errL l = 0) :
    (sizesK (kindL l)).sum = lenM (kindL l) l.length ∧ gotM (kindL l) l = readF l := by
  obtain ⟨hok, hp, hput⟩ := read_put hl h0
  have hr := read_rest hl h0
  have hk := read_kind hl h0
  have hcut := read_cut hok hp
  have hag := again_self hok hp
  have hfs := fields_sizes (readF l)
  have hcl := catL_length (toN (fieldsF (readF l)))
  have htl := hok.len
  rw [hfs] at hcl
  rw [← hk] at hr hcut hcl
  unfold againF numsF at hag
  rw [← hk] at hag
  generalize readF l = g at *
  generalize kindL l = k at *
  have hcat : (catL (toN (fieldsF g))).length = (sizesK k).sum := hcl
  have hnl := congrArg List.length hr
  rw [List.length_drop, List.length_append, hcat] at hnl
  have hlen : (sizesK k).sum = lenM k l.length := by
    unfold lenM tgM
    cases htk : tagK k with
    | false =>
      rw [htk] at hnl
      simp at hnl ⊢
      omega
    | true =>
      rw [htk] at hnl
      simp [htl] at hnl
      rw [Bool.true_and, if_pos (by rw [decide_eq_true_eq]; omega)]
      omega
  refine ⟨hlen, ?_⟩
  have hrest : restM k l = catL (toN (fieldsF g)) := by
    unfold restM
    rw [hr, ← hlen, ← hcat, List.take_left]
  have htag : tagM k l = if tagK k then g.tag else noTag := by
    unfold tagM tgM
    cases htk : tagK k with
    | false => simp
    | true =>
      rw [htk] at hnl
      simp [htl] at hnl
      rw [Bool.true_and, if_pos (by rw [decide_eq_true_eq]; omega), if_pos rfl]
      have h32 : l.length - 32 = 3 + (sizesK k).sum := by omega
      rw [h32, ← List.drop_drop, hr, htk, if_pos rfl, ← hcat, List.drop_left]
  unfold gotM
  rw [hrest, htag, hcut]
  exact hag
/-- no frame: the numbers are too many bytes, or too few -/
theorem mid_no {l : List Int} (hl : ∀ j, 0 ≤ l.getD j 0 ∧ l.getD j 0 < 256) (h3 : 3 ≤ l.length) (h64 : l.length ≤ 64) (hw : wholeB l = true) (hs : (sizesK (kindL l)).sum ≠ lenM (kindL l) l.length) : errL l = 3 :=
  err_three h64 hw fun h0 => hs (mid_parts hl h3 h0).1
/-- no frame: what is made has other bytes, or none -/
theorem mid_other {l : List Int} (hl : ∀ j, 0 ≤ l.getD j 0 ∧ l.getD j 0 < 256) (h3 : 3 ≤ l.length) (h64 : l.length ≤ 64) (hw : wholeB l = true) (hs : ¬ (plainB (gotM (kindL l) l) = true ∧ putF (gotM (kindL l) l) = l)) : errL l = 3 :=
  err_three h64 hw fun h0 => hs (by
    obtain ⟨_, hp, hput⟩ := read_put hl h0
    rw [(mid_parts hl h3 h0).2]
    exact ⟨hp, hput⟩)
/-- a frame -/
theorem mid_same {l : List Int} (hok : (gotM (kindL l) l).ok) (hp : plainB (gotM (kindL l) l) = true) (hput : putF (gotM (kindL l) l) = l) : errL l = 0 ∧ readF l = gotM (kindL l) l := put_err hok hp hput
end Go.Proofs.Ytncedbjbooemjaa
