/- Joined texts: The walk over the document's Clash of two lists: two texts of one sum. -/
import Derived.Test.YtplfpaclhapldaaDoorCnJK
import Derived.Test.YtplfpaclhapldaaDoorCnJG
/- The walk over the document's Clash of two lists: two texts of one sum. -/
namespace Go.Proofs.YtplfpaclhapldaaDoor
set_option maxRecDepth 100000
set_option linter.unusedVariables false
set_option linter.unusedSimpArgs false
open Go.RowKit

theorem eq_ids (x y : List Int) (hx : x.length = 32) (hy : y.length = 32) (w : World) : (Op.equalIn 10000 24 (.agg (idv x)) (.agg (idv y))).run Tryd.prog w = .ok (decide (x = y)) w := by
  rw [← cbeq_dec]
  exact run_equalIn_ints w 9998 24 5 32 .u8 Tryd.underlying24 Tryd.underlying5 (size_of (by kernel_rfl)) x y hx hy
theorem run_eq_id {op : BinOp} {ρ : Operand → Value} {o : Oper} {x y : Operand} {xs ys : Array Value} {E r : Bool} {w : World} (ho : o.op = .binOp op 24 x y 24) (hx : ρ x = .agg xs) (hy : ρ y = .agg ys) (hr : op = .eql ∧ r = E ∨ op = .neq ∧ r = !E)
    (h : (Op.equalIn 10000 24 (.agg xs) (.agg ys)).run Tryd.prog w = .ok E w) : (execOp ρ o).run Tryd.prog w = .ok (.value (.bool r)) w := by
  unfold execOp
  rw [ho]
  have hm : Tryd.prog.eqGuardType Tryd.prog.depth 24 = false := by kernel_rfl
  rcases hr with ⟨rfl, rfl⟩ | ⟨rfl, rfl⟩
  · simp only [hx, hy, Sem.run_bind, run_eqGuard_agg (hm := hm), run_eql_struct, h, Result.andThen_ok, Sem.run_pure, Sem.run_map]
  · simp only [hx, hy, Sem.run_bind, run_eqGuard_agg (hm := hm), run_neq_struct, h, Result.andThen_ok, Sem.run_pure, Sem.run_map]
theorem wpList_eq_id {ops : Array Oper} {rest : List Oper} {o : Oper} {a : Act} {w : World} {Q : Exit → Act → World → Prop} (op : BinOp) (x y : Operand) (ho : o.op = .binOp op 24 x y 24) (xs ys : Array Value) (hx : a.eval x = .agg xs) (hy : a.eval y = .agg ys) (E r : Bool) (hr : op = .eql ∧ r = E ∨ op = .neq ∧ r = !E)
    (hE : ∀ w, (Op.equalIn 10000 24 (.agg xs) (.agg ys)).run Tryd.prog w = .ok E w) (h : wpList Tryd.prog ops Q rest (a.put o.dst (.bool r)) w) (hw : Region.wanted o (yielded ops a.tmps) = true) : wpList Tryd.prog ops Q (o :: rest) a w :=
  wpList_step fun K hK => by
    rw [if_pos hw]
    unfold Oper.wp
    rw [run_eq_id ho hx hy hr (hE w)]
    exact hK _ _ h
theorem clash_on {a b : List En} {i k : Nat} (h : textC (a.take (i + 1)) = textC (b.take (k + 1))) : clashIx a b (i + 1) (k + 1) = clashIx a b i k := by rw [clashIx, if_pos h]
theorem clash_off {a b : List En} {i k : Nat} (h : ¬ (textC (a.take i) = textC (b.take k) ∧ 0 < i ∧ 0 < k)) : clashIx a b i k = (i, k) := by
  match i, k with
  | 0, 0 => rfl
  | 0, k + 1 => rfl
  | i + 1, 0 => rfl
  | i + 1, k + 1 =>
    rw [clashIx, if_neg (fun e => h ⟨e, Nat.succ_pos _, Nat.succ_pos _⟩)]
theorem results_ttt {fn : Func} {p q r : Tmp} (h : fn.results = #[.tmp p, .tmp q, .tmp r]) (tmps : Array Value) (P : Program) (w : World) (u v z : Value) (hp : tmps.getD p undef = u) (hq : tmps.getD q undef = v) (hr : tmps.getD r undef = z) :
    (results fn tmps).run P w = .ok (.tuple #[u, v, z]) w := by
  have hp' : tmps[p]?.getD undef = u := by simpa using hp
  have hq' : tmps[q]?.getD undef = v := by simpa using hq
  have hr' : tmps[r]?.getD undef = z := by simpa using hr
  simp [results, h, hp', hq', hr']
/-- gives two slices of bytes and a bool -/
def GC (L M : List Int) (b : Bool) (w : World) (e : Ending) (w' : World) : Prop := ∃ A1 n1 c1 A2 n2 c2, e = .returned (.tuple #[.slice A1 n1 c1, .slice A2 n2 c2, .bool b]) ∧ Bts w' A1 n1 c1 L ∧ Bts w' A2 n2 c2 M ∧ Below w.heap.size w w'
set_option maxRecDepth 100000 in
set_option maxHeartbeats 4000000 in
theorem rclash_a (A : Option Addr) (n c : Nat) (a : List En) (B : Option Addr) (m d : Nat) (b : List En) (w : World) (ha : Ens w A n c a) (hb : Ens w B m d b) (oa : ∀ u ∈ a, u.ok) (ob : ∀ u ∈ b, u.ok) (hO : putC a = false) {V S : Bool} (hW : putC b = V) (hS : sameE a b = S) :
    Calls Tryd.prog 20 #[.slice A n c, .slice B m d] w (GC [] [] false w) := by
  have hn := ha.small
  have hm := hb.small
  have HLA := Lib.hid ha
  have HLB := Lib.hid hb
  have HNA := Lib.hid ha.len
  have HNB := Lib.hid hb.len
  have HPA := Lib.hid (fun (X : World) (h : Ens X A n c a) => rputc_any A n c a X h oa)
  have HPB := Lib.hid (fun (X : World) (h : Ens X B m d b) => rputc_any B m d b X h ob)
  have HSM := Lib.hid (fun (X : World) (h1 : Ens X A n c a) (h2 : Ens X B m d b) => ersame_any A n c a B m d b X h1 h2)
  rw [hO] at HPA
  rw [hW] at HPB
  rw [hS] at HSM
  unfold GBe at HSM
  obtain ⟨RA, hRA⟩ : ∃ R, (if false = true then recsC a else []) = R := ⟨_, rfl⟩
  obtain ⟨RB, hRB⟩ : ∃ R, (if V = true then recsC b else []) = R := ⟨_, rfl⟩
  obtain ⟨ZA, hZA⟩ : ∃ Z, (if false = true then headC a else noughtsC) = Z := ⟨_, rfl⟩
  obtain ⟨ZB, hZB⟩ : ∃ Z, (if V = true then headC b else noughtsC) = Z := ⟨_, rfl⟩
  have HZA := Lib.hid (show ZA.length = 32 by rw [← hZA]; split; exact headC_len _; rfl)
  have HZB := Lib.hid (show ZB.length = 32 by rw [← hZB]; split; exact headC_len _; rfl)
  rw [hRA, hZA] at HPA
  rw [hRB, hZB] at HPB
  clear ha hb oa ob hO hW hS hRA hRB hZA hZB
  go_enter Tryd.func20, Tryd.ntmps20
  go_wp2_with (first
    | (go_at_call 11; (with_reducible refine (HPA.out _ HLA.out).mono ?_); rintro e w1 ⟨A5, n5, c5, rfl, -, hb1⟩
       have HB1 := Lib.hid hb1
       clear hb1)
    | ((with_reducible refine wpList_store_blk rfl 24 _ _ rfl w1.heap.size (idv ZA) ?hx2 ?hy2 24 _ (heap_alloc_new w1 _) (info32 HZA.out) ?hs2 (idv_one _) ?_); (case hx2 => rfl); (case hy2 => rfl); (case hs2 => rw [idv_size, HZA.out]; rfl)
       intro w2 hg2 hX2 hs2
       have hb2 : Below w1.heap.size w1 w2 := Below.grows (one_alloc w1 _) hg2 (size_le_alloc _ _) (Nat.le_refl _)
       have hX2 : RowB w2 w1.heap.size 24 ZA := hX2
       have HB2 := Lib.hid (HB1.out.trans (hb2.mono HB1.out.size))
       clear hb2 hg2 hs2)
    | (go_at_call 11; (with_reducible refine (HPB.out _ (HLB.out.below HB2.out)).mono ?_); rintro e w3 ⟨A6, n6, c6, rfl, -, hb3⟩
       have hX3 := hX2.keep hb3
       have HB3 := Lib.hid (HB2.out.trans (hb3.mono HB2.out.size))
       clear hb3 hX2)
    | ((with_reducible refine wpList_store_blk rfl 24 _ _ rfl w3.heap.size (idv ZB) ?hx4 ?hy4 24 _ (heap_alloc_new w3 _) (info32 HZB.out) ?hs4 (idv_one _) ?_); (case hx4 => rfl); (case hy4 => rfl); (case hs4 => rw [idv_size, HZB.out]; rfl)
       intro w4 hg4 hY4 hs4
       have hb4 : Below w3.heap.size w3 w4 := Below.grows (one_alloc w3 _) hg4 (size_le_alloc _ _) (Nat.le_refl _)
       have hY4 : RowB w4 w3.heap.size 24 ZB := hY4
       have hX4 := hX3.keep hb4
       have HB4 := Lib.hid (HB3.out.trans (hb4.mono HB3.out.size))
       clear hb4 hg4 hs4 hX3)
    | (go_at_call 18; (with_reducible refine (HSM.out _ (HLA.out.below HB4.out) (HLB.out.below HB4.out)).mono ?_); rintro e w5 ⟨rfl, hb5⟩
       have hX5 := hX4.keep hb5
       have hY5 := hY4.keep hb5
       have HB5 := Lib.hid (HB4.out.trans (hb5.mono HB4.out.size))
       clear hb5 hX4 hY4))
  exact bodyPost_ret (v := .tuple #[.slice none 0 0, .slice none 0 0, .bool false]) (results_ttt Tryd.results20 _ _ _ _ _ _ rfl rfl rfl) rfl ⟨none, 0, 0, none, 0, 0, rfl, Bts.nil _, Bts.nil _, HB5.out⟩
set_option maxRecDepth 100000 in
set_option maxHeartbeats 4000000 in
theorem rclash_b (A : Option Addr) (n c : Nat) (a : List En) (B : Option Addr) (m d : Nat) (b : List En) (w : World) (ha : Ens w A n c a) (hb : Ens w B m d b) (oa : ∀ u ∈ a, u.ok) (ob : ∀ u ∈ b, u.ok) (hO : putC a = true) (hW : putC b = false) {S : Bool} (hS : sameE a b = S) :
    Calls Tryd.prog 20 #[.slice A n c, .slice B m d] w (GC [] [] false w) := by
  have hn := ha.small
  have hm := hb.small
  have HLA := Lib.hid ha
  have HLB := Lib.hid hb
  have HNA := Lib.hid ha.len
  have HNB := Lib.hid hb.len
  have HPA := Lib.hid (fun (X : World) (h : Ens X A n c a) => rputc_any A n c a X h oa)
  have HPB := Lib.hid (fun (X : World) (h : Ens X B m d b) => rputc_any B m d b X h ob)
  have HSM := Lib.hid (fun (X : World) (h1 : Ens X A n c a) (h2 : Ens X B m d b) => ersame_any A n c a B m d b X h1 h2)
  rw [hO] at HPA
  rw [hW] at HPB
  rw [hS] at HSM
  unfold GBe at HSM
  obtain ⟨RA, hRA⟩ : ∃ R, (if true = true then recsC a else []) = R := ⟨_, rfl⟩
  obtain ⟨RB, hRB⟩ : ∃ R, (if false = true then recsC b else []) = R := ⟨_, rfl⟩
  obtain ⟨ZA, hZA⟩ : ∃ Z, (if true = true then headC a else noughtsC) = Z := ⟨_, rfl⟩
  obtain ⟨ZB, hZB⟩ : ∃ Z, (if false = true then headC b else noughtsC) = Z := ⟨_, rfl⟩
  have HZA := Lib.hid (show ZA.length = 32 by rw [← hZA]; split; exact headC_len _; rfl)
  have HZB := Lib.hid (show ZB.length = 32 by rw [← hZB]; split; exact headC_len _; rfl)
  rw [hRA, hZA] at HPA
  rw [hRB, hZB] at HPB
  clear ha hb oa ob hO hW hS hRA hRB hZA hZB
  go_enter Tryd.func20, Tryd.ntmps20
  go_wp2_with (first
    | (go_at_call 11; (with_reducible refine (HPA.out _ HLA.out).mono ?_); rintro e w1 ⟨A5, n5, c5, rfl, -, hb1⟩
       have HB1 := Lib.hid hb1
       clear hb1)
    | ((with_reducible refine wpList_store_blk rfl 24 _ _ rfl w1.heap.size (idv ZA) ?hx2 ?hy2 24 _ (heap_alloc_new w1 _) (info32 HZA.out) ?hs2 (idv_one _) ?_); (case hx2 => rfl); (case hy2 => rfl); (case hs2 => rw [idv_size, HZA.out]; rfl)
       intro w2 hg2 hX2 hs2
       have hb2 : Below w1.heap.size w1 w2 := Below.grows (one_alloc w1 _) hg2 (size_le_alloc _ _) (Nat.le_refl _)
       have hX2 : RowB w2 w1.heap.size 24 ZA := hX2
       have HB2 := Lib.hid (HB1.out.trans (hb2.mono HB1.out.size))
       clear hb2 hg2 hs2)
    | (go_at_call 11; (with_reducible refine (HPB.out _ (HLB.out.below HB2.out)).mono ?_); rintro e w3 ⟨A6, n6, c6, rfl, -, hb3⟩
       have hX3 := hX2.keep hb3
       have HB3 := Lib.hid (HB2.out.trans (hb3.mono HB2.out.size))
       clear hb3 hX2)
    | ((with_reducible refine wpList_store_blk rfl 24 _ _ rfl w3.heap.size (idv ZB) ?hx4 ?hy4 24 _ (heap_alloc_new w3 _) (info32 HZB.out) ?hs4 (idv_one _) ?_); (case hx4 => rfl); (case hy4 => rfl); (case hs4 => rw [idv_size, HZB.out]; rfl)
       intro w4 hg4 hY4 hs4
       have hb4 : Below w3.heap.size w3 w4 := Below.grows (one_alloc w3 _) hg4 (size_le_alloc _ _) (Nat.le_refl _)
       have hY4 : RowB w4 w3.heap.size 24 ZB := hY4
       have hX4 := hX3.keep hb4
       have HB4 := Lib.hid (HB3.out.trans (hb4.mono HB3.out.size))
       clear hb4 hg4 hs4 hX3)
    | (go_at_call 18; (with_reducible refine (HSM.out _ (HLA.out.below HB4.out) (HLB.out.below HB4.out)).mono ?_); rintro e w5 ⟨rfl, hb5⟩
       have hX5 := hX4.keep hb5
       have hY5 := hY4.keep hb5
       have HB5 := Lib.hid (HB4.out.trans (hb5.mono HB4.out.size))
       clear hb5 hX4 hY4))
  exact bodyPost_ret (v := .tuple #[.slice none 0 0, .slice none 0 0, .bool false]) (results_ttt Tryd.results20 _ _ _ _ _ _ rfl rfl rfl) rfl ⟨none, 0, 0, none, 0, 0, rfl, Bts.nil _, Bts.nil _, HB5.out⟩
set_option maxRecDepth 100000 in
set_option maxHeartbeats 4000000 in
theorem rclash_c (A : Option Addr) (n c : Nat) (a : List En) (B : Option Addr) (m d : Nat) (b : List En) (w : World) (ha : Ens w A n c a) (hb : Ens w B m d b) (oa : ∀ u ∈ a, u.ok) (ob : ∀ u ∈ b, u.ok) (hO : putC a = true) (hW : putC b = true) (hD : decide (headC a = headC b) = false) {S : Bool} (hS : sameE a b = S) :
    Calls Tryd.prog 20 #[.slice A n c, .slice B m d] w (GC [] [] false w) := by
  have hn := ha.small
  have hm := hb.small
  have HLA := Lib.hid ha
  have HLB := Lib.hid hb
  have HNA := Lib.hid ha.len
  have HNB := Lib.hid hb.len
  have HPA := Lib.hid (fun (X : World) (h : Ens X A n c a) => rputc_any A n c a X h oa)
  have HPB := Lib.hid (fun (X : World) (h : Ens X B m d b) => rputc_any B m d b X h ob)
  have HSM := Lib.hid (fun (X : World) (h1 : Ens X A n c a) (h2 : Ens X B m d b) => ersame_any A n c a B m d b X h1 h2)
  rw [hO] at HPA
  rw [hW] at HPB
  rw [hS] at HSM
  unfold GBe at HSM
  obtain ⟨RA, hRA⟩ : ∃ R, (if true = true then recsC a else []) = R := ⟨_, rfl⟩
  obtain ⟨RB, hRB⟩ : ∃ R, (if true = true then recsC b else []) = R := ⟨_, rfl⟩
  obtain ⟨ZA, hZA⟩ : ∃ Z, (if true = true then headC a else noughtsC) = Z := ⟨_, rfl⟩
  obtain ⟨ZB, hZB⟩ : ∃ Z, (if true = true then headC b else noughtsC) = Z := ⟨_, rfl⟩
  have HZA := Lib.hid (show ZA.length = 32 by rw [← hZA]; split; exact headC_len _; rfl)
  have HZB := Lib.hid (show ZB.length = 32 by rw [← hZB]; split; exact headC_len _; rfl)
  rw [hRA, hZA] at HPA
  rw [hRB, hZB] at HPB
  have HEQ := Lib.hid (show ∀ w, (Op.equalIn 10000 24 (.agg (idv ZA)) (.agg (idv ZB))).run Tryd.prog w = .ok false w from fun w => by
    rw [eq_ids _ _ HZA.out HZB.out, ← hZA, ← hZB, if_pos rfl, if_pos rfl, hD])
  clear ha hb oa ob hO hW hS hRA hRB hZA hZB
  go_enter Tryd.func20, Tryd.ntmps20
  go_wp2_with (first
    | (go_at_call 11; (with_reducible refine (HPA.out _ HLA.out).mono ?_); rintro e w1 ⟨A5, n5, c5, rfl, -, hb1⟩
       have HB1 := Lib.hid hb1
       clear hb1)
    | ((with_reducible refine wpList_store_blk rfl 24 _ _ rfl w1.heap.size (idv ZA) ?hx2 ?hy2 24 _ (heap_alloc_new w1 _) (info32 HZA.out) ?hs2 (idv_one _) ?_); (case hx2 => rfl); (case hy2 => rfl); (case hs2 => rw [idv_size, HZA.out]; rfl)
       intro w2 hg2 hX2 hs2
       have hb2 : Below w1.heap.size w1 w2 := Below.grows (one_alloc w1 _) hg2 (size_le_alloc _ _) (Nat.le_refl _)
       have hX2 : RowB w2 w1.heap.size 24 ZA := hX2
       have HB2 := Lib.hid (HB1.out.trans (hb2.mono HB1.out.size))
       clear hb2 hg2 hs2)
    | (go_at_call 11; (with_reducible refine (HPB.out _ (HLB.out.below HB2.out)).mono ?_); rintro e w3 ⟨A6, n6, c6, rfl, -, hb3⟩
       have hX3 := hX2.keep hb3
       have HB3 := Lib.hid (HB2.out.trans (hb3.mono HB2.out.size))
       clear hb3 hX2)
    | ((with_reducible refine wpList_store_blk rfl 24 _ _ rfl w3.heap.size (idv ZB) ?hx4 ?hy4 24 _ (heap_alloc_new w3 _) (info32 HZB.out) ?hs4 (idv_one _) ?_); (case hx4 => rfl); (case hy4 => rfl); (case hs4 => rw [idv_size, HZB.out]; rfl)
       intro w4 hg4 hY4 hs4
       have hb4 : Below w3.heap.size w3 w4 := Below.grows (one_alloc w3 _) hg4 (size_le_alloc _ _) (Nat.le_refl _)
       have hY4 : RowB w4 w3.heap.size 24 ZB := hY4
       have hX4 := hX3.keep hb4
       have HB4 := Lib.hid (HB3.out.trans (hb4.mono HB3.out.size))
       clear hb4 hg4 hs4 hX3)
    | (go_at_call 18; (with_reducible refine (HSM.out _ (HLA.out.below HB4.out) (HLB.out.below HB4.out)).mono ?_); rintro e w5 ⟨rfl, hb5⟩
       have hX5 := hX4.keep hb5
       have hY5 := hY4.keep hb5
       have HB5 := Lib.hid (HB4.out.trans (hb5.mono HB4.out.size))
       clear hb5 hX4 hY4)
    | ((with_reducible refine wpList_load_blk 24 _ rfl w1.heap.size ?hx6 24 (idv ZA) (0, 0) _ hX5.is Tryd.underlying24 ?hd6 (info32 HZA.out) ?_ ?hw6); (case hx6 => rfl); (case hd6 => rfl); (case hw6 => rfl))
    | ((with_reducible refine wpList_load_blk 24 _ rfl w3.heap.size ?hx7 24 (idv ZB) (0, 0) _ hY5.is Tryd.underlying24 ?hd7 (info32 HZB.out) ?_ ?hw7); (case hx7 => rfl); (case hd7 => rfl); (case hw7 => rfl))
    | ((with_reducible refine wpList_eq_id .neq _ _ rfl (idv ZA) (idv ZB) ?hx8 ?hy8 false true (.inr ⟨rfl, rfl⟩) (fun w => HEQ.out w) ?_ ?hw8); (case hx8 => rfl); (case hy8 => rfl); (case hw8 => rfl)))
  exact bodyPost_ret (v := .tuple #[.slice none 0 0, .slice none 0 0, .bool false]) (results_ttt Tryd.results20 _ _ _ _ _ _ rfl rfl rfl) rfl ⟨none, 0, 0, none, 0, 0, rfl, Bts.nil _, Bts.nil _, HB5.out⟩
set_option maxRecDepth 100000 in
set_option maxHeartbeats 4000000 in
theorem rclash_d (A : Option Addr) (n c : Nat) (a : List En) (B : Option Addr) (m d : Nat) (b : List En) (w : World) (ha : Ens w A n c a) (hb : Ens w B m d b) (oa : ∀ u ∈ a, u.ok) (ob : ∀ u ∈ b, u.ok) (hO : putC a = true) (hW : putC b = true) (hD : decide (headC a = headC b) = true) (hS : sameE a b = true) :
    Calls Tryd.prog 20 #[.slice A n c, .slice B m d] w (GC [] [] false w) := by
  have hn := ha.small
  have hm := hb.small
  have HLA := Lib.hid ha
  have HLB := Lib.hid hb
  have HNA := Lib.hid ha.len
  have HNB := Lib.hid hb.len
  have HPA := Lib.hid (fun (X : World) (h : Ens X A n c a) => rputc_any A n c a X h oa)
  have HPB := Lib.hid (fun (X : World) (h : Ens X B m d b) => rputc_any B m d b X h ob)
  have HSM := Lib.hid (fun (X : World) (h1 : Ens X A n c a) (h2 : Ens X B m d b) => ersame_any A n c a B m d b X h1 h2)
  rw [hO] at HPA
  rw [hW] at HPB
  rw [hS] at HSM
  unfold GBe at HSM
  obtain ⟨RA, hRA⟩ : ∃ R, (if true = true then recsC a else []) = R := ⟨_, rfl⟩
  obtain ⟨RB, hRB⟩ : ∃ R, (if true = true then recsC b else []) = R := ⟨_, rfl⟩
  obtain ⟨ZA, hZA⟩ : ∃ Z, (if true = true then headC a else noughtsC) = Z := ⟨_, rfl⟩
  obtain ⟨ZB, hZB⟩ : ∃ Z, (if true = true then headC b else noughtsC) = Z := ⟨_, rfl⟩
  have HZA := Lib.hid (show ZA.length = 32 by rw [← hZA]; split; exact headC_len _; rfl)
  have HZB := Lib.hid (show ZB.length = 32 by rw [← hZB]; split; exact headC_len _; rfl)
  rw [hRA, hZA] at HPA
  rw [hRB, hZB] at HPB
  have HEQ := Lib.hid (show ∀ w, (Op.equalIn 10000 24 (.agg (idv ZA)) (.agg (idv ZB))).run Tryd.prog w = .ok true w from fun w => by
    rw [eq_ids _ _ HZA.out HZB.out, ← hZA, ← hZB, if_pos rfl, if_pos rfl, hD])
  clear ha hb oa ob hO hW hS hRA hRB hZA hZB
  go_enter Tryd.func20, Tryd.ntmps20
  go_wp2_with (first
    | (go_at_call 11; (with_reducible refine (HPA.out _ HLA.out).mono ?_); rintro e w1 ⟨A5, n5, c5, rfl, -, hb1⟩
       have HB1 := Lib.hid hb1
       clear hb1)
    | ((with_reducible refine wpList_store_blk rfl 24 _ _ rfl w1.heap.size (idv ZA) ?hx2 ?hy2 24 _ (heap_alloc_new w1 _) (info32 HZA.out) ?hs2 (idv_one _) ?_); (case hx2 => rfl); (case hy2 => rfl); (case hs2 => rw [idv_size, HZA.out]; rfl)
       intro w2 hg2 hX2 hs2
       have hb2 : Below w1.heap.size w1 w2 := Below.grows (one_alloc w1 _) hg2 (size_le_alloc _ _) (Nat.le_refl _)
       have hX2 : RowB w2 w1.heap.size 24 ZA := hX2
       have HB2 := Lib.hid (HB1.out.trans (hb2.mono HB1.out.size))
       clear hb2 hg2 hs2)
    | (go_at_call 11; (with_reducible refine (HPB.out _ (HLB.out.below HB2.out)).mono ?_); rintro e w3 ⟨A6, n6, c6, rfl, -, hb3⟩
       have hX3 := hX2.keep hb3
       have HB3 := Lib.hid (HB2.out.trans (hb3.mono HB2.out.size))
       clear hb3 hX2)
    | ((with_reducible refine wpList_store_blk rfl 24 _ _ rfl w3.heap.size (idv ZB) ?hx4 ?hy4 24 _ (heap_alloc_new w3 _) (info32 HZB.out) ?hs4 (idv_one _) ?_); (case hx4 => rfl); (case hy4 => rfl); (case hs4 => rw [idv_size, HZB.out]; rfl)
       intro w4 hg4 hY4 hs4
       have hb4 : Below w3.heap.size w3 w4 := Below.grows (one_alloc w3 _) hg4 (size_le_alloc _ _) (Nat.le_refl _)
       have hY4 : RowB w4 w3.heap.size 24 ZB := hY4
       have hX4 := hX3.keep hb4
       have HB4 := Lib.hid (HB3.out.trans (hb4.mono HB3.out.size))
       clear hb4 hg4 hs4 hX3)
    | (go_at_call 18; (with_reducible refine (HSM.out _ (HLA.out.below HB4.out) (HLB.out.below HB4.out)).mono ?_); rintro e w5 ⟨rfl, hb5⟩
       have hX5 := hX4.keep hb5
       have hY5 := hY4.keep hb5
       have HB5 := Lib.hid (HB4.out.trans (hb5.mono HB4.out.size))
       clear hb5 hX4 hY4)
    | ((with_reducible refine wpList_load_blk 24 _ rfl w1.heap.size ?hx6 24 (idv ZA) (0, 0) _ hX5.is Tryd.underlying24 ?hd6 (info32 HZA.out) ?_ ?hw6); (case hx6 => rfl); (case hd6 => rfl); (case hw6 => rfl))
    | ((with_reducible refine wpList_load_blk 24 _ rfl w3.heap.size ?hx7 24 (idv ZB) (0, 0) _ hY5.is Tryd.underlying24 ?hd7 (info32 HZB.out) ?_ ?hw7); (case hx7 => rfl); (case hd7 => rfl); (case hw7 => rfl))
    | ((with_reducible refine wpList_eq_id .neq _ _ rfl (idv ZA) (idv ZB) ?hx8 ?hy8 true false (.inr ⟨rfl, rfl⟩) (fun w => HEQ.out w) ?_ ?hw8); (case hx8 => rfl); (case hy8 => rfl); (case hw8 => rfl)))
  exact bodyPost_ret (v := .tuple #[.slice none 0 0, .slice none 0 0, .bool false]) (results_ttt Tryd.results20 _ _ _ _ _ _ rfl rfl rfl) rfl ⟨none, 0, 0, none, 0, 0, rfl, Bts.nil _, Bts.nil _, HB5.out⟩
set_option maxRecDepth 100000 in
set_option maxHeartbeats 4000000 in
theorem rclash_yes (A : Option Addr) (n c : Nat) (a : List En) (B : Option Addr) (m d : Nat) (b : List En) (w : World) (ha : Ens w A n c a) (hb : Ens w B m d b) (oa : ∀ u ∈ a, u.ok) (ob : ∀ u ∈ b, u.ok) (hO : putC a = true) (hW : putC b = true) (hD : decide (headC a = headC b) = true) (hS : sameE a b = false) :
    Calls Tryd.prog 20 #[.slice A n c, .slice B m d] w (GC (textC (a.take (clashIx a b a.length b.length).1)) (textC (b.take (clashIx a b a.length b.length).2)) true w) := by
  have hn := ha.small
  have hm := hb.small
  have HLA := Lib.hid ha
  have HLB := Lib.hid hb
  have HNA := Lib.hid ha.len
  have HNB := Lib.hid hb.len
  have HPA := Lib.hid (fun (X : World) (h : Ens X A n c a) => rputc_any A n c a X h oa)
  have HPB := Lib.hid (fun (X : World) (h : Ens X B m d b) => rputc_any B m d b X h ob)
  have HSM := Lib.hid (fun (X : World) (h1 : Ens X A n c a) (h2 : Ens X B m d b) => ersame_any A n c a B m d b X h1 h2)
  rw [hO] at HPA
  rw [hW] at HPB
  rw [hS] at HSM
  unfold GBe at HSM
  obtain ⟨RA, hRA⟩ : ∃ R, (if true = true then recsC a else []) = R := ⟨_, rfl⟩
  obtain ⟨RB, hRB⟩ : ∃ R, (if true = true then recsC b else []) = R := ⟨_, rfl⟩
  obtain ⟨ZA, hZA⟩ : ∃ Z, (if true = true then headC a else noughtsC) = Z := ⟨_, rfl⟩
  obtain ⟨ZB, hZB⟩ : ∃ Z, (if true = true then headC b else noughtsC) = Z := ⟨_, rfl⟩
  have HZA := Lib.hid (show ZA.length = 32 by rw [← hZA]; split; exact headC_len _; rfl)
  have HZB := Lib.hid (show ZB.length = 32 by rw [← hZB]; split; exact headC_len _; rfl)
  rw [hRA, hZA] at HPA
  rw [hRB, hZB] at HPB
  have HEQ := Lib.hid (show ∀ w, (Op.equalIn 10000 24 (.agg (idv ZA)) (.agg (idv ZB))).run Tryd.prog w = .ok true w from fun w => by
    rw [eq_ids _ _ HZA.out HZB.out, ← hZA, ← hZB, if_pos rfl, if_pos rfl, hD])
  have hma : mayC a = true := by rw [putC, Bool.and_eq_true] at hO; exact hO.2
  have hmb : mayC b = true := by rw [putC, Bool.and_eq_true] at hW; exact hW.2
  have HMA := Lib.hid (fun (i : Nat) => mayC_take hma i)
  have HMB := Lib.hid (fun (i : Nat) => mayC_take hmb i)
  have HOA := Lib.hid (fun (i : Nat) => show ∀ u ∈ a.take i, u.ok from fun u hu => oa u (List.mem_of_mem_take hu))
  have HOB := Lib.hid (fun (i : Nat) => show ∀ u ∈ b.take i, u.ok from fun u hu => ob u (List.mem_of_mem_take hu))
  rw [HNA.out, HNB.out]
  clear ha hb oa ob hO hW hS hRA hRB hZA hZB hD hma hmb
  go_enter Tryd.func20, Tryd.ntmps20
  go_wp2_with (first
    | (go_at_call 11; (with_reducible refine (HPA.out _ HLA.out).mono ?_); rintro e w1 ⟨A5, n5, c5, rfl, -, hb1⟩
       have HB1 := Lib.hid hb1
       clear hb1)
    | ((with_reducible refine wpList_store_blk rfl 24 _ _ rfl w1.heap.size (idv ZA) ?hx2 ?hy2 24 _ (heap_alloc_new w1 _) (info32 HZA.out) ?hs2 (idv_one _) ?_); (case hx2 => rfl); (case hy2 => rfl); (case hs2 => rw [idv_size, HZA.out]; rfl)
       intro w2 hg2 hX2 hs2
       have hb2 : Below w1.heap.size w1 w2 := Below.grows (one_alloc w1 _) hg2 (size_le_alloc _ _) (Nat.le_refl _)
       have hX2 : RowB w2 w1.heap.size 24 ZA := hX2
       have HB2 := Lib.hid (HB1.out.trans (hb2.mono HB1.out.size))
       clear hb2 hg2 hs2)
    | (go_at_call 11; (with_reducible refine (HPB.out _ (HLB.out.below HB2.out)).mono ?_); rintro e w3 ⟨A6, n6, c6, rfl, -, hb3⟩
       have hX3 := hX2.keep hb3
       have HB3 := Lib.hid (HB2.out.trans (hb3.mono HB2.out.size))
       clear hb3 hX2)
    | ((with_reducible refine wpList_store_blk rfl 24 _ _ rfl w3.heap.size (idv ZB) ?hx4 ?hy4 24 _ (heap_alloc_new w3 _) (info32 HZB.out) ?hs4 (idv_one _) ?_); (case hx4 => rfl); (case hy4 => rfl); (case hs4 => rw [idv_size, HZB.out]; rfl)
       intro w4 hg4 hY4 hs4
       have hb4 : Below w3.heap.size w3 w4 := Below.grows (one_alloc w3 _) hg4 (size_le_alloc _ _) (Nat.le_refl _)
       have hY4 : RowB w4 w3.heap.size 24 ZB := hY4
       have hX4 := hX3.keep hb4
       have HB4 := Lib.hid (HB3.out.trans (hb4.mono HB3.out.size))
       clear hb4 hg4 hs4 hX3)
    | (go_at_call 18; (with_reducible refine (HSM.out _ (HLA.out.below HB4.out) (HLB.out.below HB4.out)).mono ?_); rintro e w5 ⟨rfl, hb5⟩
       have hX5 := hX4.keep hb5
       have hY5 := hY4.keep hb5
       have HB5 := Lib.hid (HB4.out.trans (hb5.mono HB4.out.size))
       clear hb5 hX4 hY4)
    | ((with_reducible refine wpList_load_blk 24 _ rfl w1.heap.size ?hx6 24 (idv ZA) (0, 0) _ hX5.is Tryd.underlying24 ?hd6 (info32 HZA.out) ?_ ?hw6); (case hx6 => rfl); (case hd6 => rfl); (case hw6 => rfl))
    | ((with_reducible refine wpList_load_blk 24 _ rfl w3.heap.size ?hx7 24 (idv ZB) (0, 0) _ hY5.is Tryd.underlying24 ?hd7 (info32 HZB.out) ?_ ?hw7); (case hx7 => rfl); (case hd7 => rfl); (case hw7 => rfl))
    | ((with_reducible refine wpList_eq_id .neq _ _ rfl (idv ZA) (idv ZB) ?hx8 ?hy8 true false (.inr ⟨rfl, rfl⟩) (fun w => HEQ.out w) ?_ ?hw8); (case hx8 => rfl); (case hy8 => rfl); (case hw8 => rfl)))
  clear hX5 hY5
  try go_frame
  go_loopw [14, 15] (fun x y wr => ∃ i k : Nat, i ≤ n ∧ k ≤ m ∧ x = .int .i64 i ∧ y = .int .i64 k ∧ clashIx a b n m = clashIx a b i k ∧ Below w.heap.size w wr) (fun x _ _ => (intOf x).toNat)
  case atStart => exact ⟨n, m, Nat.le_refl _, Nat.le_refl _, rfl, rfl, rfl, HB5.out⟩
  case round =>
    obtain ⟨i, k, hi, hk, rfl, rfl, hix, hB⟩ := hrel
    obtain ⟨hsa, hua⟩ := (HLA.out.below hB).upto i (i : Int) rfl hi
    obtain ⟨hsb, hub⟩ := (HLB.out.below hB).upto k (k : Int) rfl hk
    have HTA := Lib.hid (show ∀ X, Below wr.heap.size wr X → Calls Tryd.prog 34 #[.slice A i c] X (GT (textC (a.take i)) X) from fun X hX => rtextc_any A i c _ X (hua.below hX) (HMA.out i) (HOA.out i))
    have HTB := Lib.hid (show ∀ X, Below wr.heap.size wr X → Calls Tryd.prog 34 #[.slice B k d] X (GT (textC (b.take k)) X) from fun X hX => rtextc_any B k d _ X (hub.below hX) (HMB.out k) (HOB.out k))
    have hoff := fun h => clash_off (a := a) (b := b) (i := i) (k := k) h
    have hon : 0 < i → 0 < k → textC (a.take i) = textC (b.take k) → clashIx a b i k = clashIx a b (i - 1) (k - 1) := fun h1 h2 h3 => by
      obtain ⟨i, rfl⟩ : ∃ x, i = x + 1 := ⟨i - 1, by omega⟩
      obtain ⟨k, rfl⟩ : ∃ x, k = x + 1 := ⟨k - 1, by omega⟩
      exact clash_on h3
    have htb := text_byte (a.take i)
    have htc := text_byte (b.take k)
    obtain ⟨TA, hTA⟩ : ∃ T, textC (a.take i) = T := ⟨_, rfl⟩
    obtain ⟨TB, hTB⟩ : ∃ T, textC (b.take k) = T := ⟨_, rfl⟩
    rw [hTA] at HTA hon hoff htb
    rw [hTB] at HTB hon hoff htc
    obtain ⟨sa, hsA⟩ : ∃ s, bstr TA = s := ⟨_, rfl⟩
    obtain ⟨sb, hsB⟩ : ∃ s, bstr TB = s := ⟨_, rfl⟩
    obtain ⟨E, hE⟩ : ∃ D, decide (TA = TB) = D := ⟨_, rfl⟩
    have HSE := Lib.hid (show (sa.toList == sb.toList) = E by rw [← hsA, ← hsB, bstr_same htb htc]; exact hE)
    have HSA := Lib.hid hsA
    have HSB := Lib.hid hsB
    have HEE := Lib.hid hE
    have HTAE := Lib.hid hTA
    have HTBE := Lib.hid hTB
    have HON := Lib.hid hon
    have HOFF := Lib.hid hoff
    have HIX := Lib.hid hix
    have HBr := Lib.hid hB
    have q0 : 0 ≤ (i : Int) := by omega
    have q1 : 0 ≤ (k : Int) := by omega
    have q2 : (i : Int) ≤ 9223372036854775807 := by omega
    have q3 : (k : Int) ≤ 9223372036854775807 := by omega
    clear hua hub hsA hsB hE hTA hTB hon hoff hix hB htb htc
    go_wp2
    cases E with
    | false =>
      obtain ⟨Y0, hY0⟩ : ∃ Y, wr.drew = Y := ⟨_, rfl⟩
      have hSd : (fun w' => Below wr.heap.size wr w') Y0 := by rw [← hY0]; exact (Below.refl _ wr).drew
      refine wp_region_held_drew (S := (fun w' => Below wr.heap.size wr w')) (by kernel_rfl) (by rw [hY0]; exact hSd) (fun hHeld => ?_)
      rw [hY0] at hHeld ⊢
      clear hY0
      refine take_move 0 (.tmp 0) (.slice A n c) rfl rfl rfl (by kernel_rfl) (by kernel_rfl) (by kernel_rfl) (fun _ _ _ h => h) rfl hHeld ?_
      simp only [Act.put, List.setIfInBounds_toArray, List.set_cons_zero, List.set_cons_succ]
      refine take_move 1 (.tmp 14) (.int .i64 i) rfl rfl rfl (by kernel_rfl) (by kernel_rfl) (by kernel_rfl) (fun _ _ _ h => h) rfl hHeld ?_
      simp only [Act.put, List.setIfInBounds_toArray, List.set_cons_zero, List.set_cons_succ]
      refine take_run 2 (.slice A i c) rfl (by kernel_rfl) (by kernel_rfl) (by kernel_rfl) (fun _ _ _ h => h) rfl hHeld (fun w => ?_) ?_
      · go_simp
      simp only [Act.put, List.setIfInBounds_toArray, List.set_cons_zero, List.set_cons_succ]
      refine take_move 5 (.tmp 1) (.slice B m d) rfl rfl rfl (by kernel_rfl) (by kernel_rfl) (by kernel_rfl) (fun _ _ _ h => h) rfl hHeld ?_
      simp only [Act.put, List.setIfInBounds_toArray, List.set_cons_zero, List.set_cons_succ]
      refine take_move 6 (.tmp 15) (.int .i64 k) rfl rfl rfl (by kernel_rfl) (by kernel_rfl) (by kernel_rfl) (fun _ _ _ h => h) rfl hHeld ?_
      simp only [Act.put, List.setIfInBounds_toArray, List.set_cons_zero, List.set_cons_succ]
      refine take_run 7 (.slice B k d) rfl (by kernel_rfl) (by kernel_rfl) (by kernel_rfl) (fun _ _ _ h => h) rfl hHeld (fun w => ?_) ?_
      · go_simp
      simp only [Act.put, List.setIfInBounds_toArray, List.set_cons_zero, List.set_cons_succ]
      refine one_step 3 (by kernel_rfl) rfl (fun Kq hKq => ?_)
      go_simp
      go_at_call 34
      refine (HTA.out _ hSd).mono ?_
      rintro e y1 ⟨A1, n1, c1, rfl, hbt1, hbx⟩
      have hS1 : Below wr.heap.size wr y1 := hSd.trans (hbx.mono hSd.size)
      refine hKq.out _ _ hS1 (fun hHeld0 => ?_)
      clear hKq Kq hHeld hHeld0 hbx
      try simp only [Act.put, List.setIfInBounds_toArray, List.set_cons_zero, List.set_cons_succ]
      refine wpAnyH_mono (S' := fun w' => Below y1.heap.size y1 w') (fun w' h => hS1.trans (h.mono hS1.size)) _ ?_
      have hHeld : Below y1.heap.size y1 y1 := Below.refl _ _
      refine take_if 4 (.string sa) rfl (by kernel_rfl) (by kernel_rfl) (by kernel_rfl) (fun _ _ _ h => h) rfl hHeld (fun w' hw' => ?_) ?_
      · have hq := conv_bts (hbt1.below hw')
        rw [HSA.out] at hq
        go_simp
      simp only [Act.put, List.setIfInBounds_toArray, List.set_cons_zero, List.set_cons_succ]
      refine one_step 8 (by kernel_rfl) rfl (fun Kq hKq => ?_)
      go_simp
      go_at_call 34
      refine (HTB.out _ hS1).mono ?_
      rintro e y2 ⟨A2, n2, c2, rfl, hbt2, hbx⟩
      have hS2 : Below y1.heap.size y1 y2 := hbx
      have hbt1 := hbt1.below hbx
      refine hKq.out _ _ hS2 (fun hHeld0 => ?_)
      clear hKq Kq hHeld hHeld0
      try simp only [Act.put, List.setIfInBounds_toArray, List.set_cons_zero, List.set_cons_succ]
      have hSS : Below wr.heap.size wr y2 := hS1.trans (hbx.mono hS1.size)
      refine wpAnyH_mono (S' := fun w' => Below y2.heap.size y2 w') (fun w' h => hS2.trans (h.mono hS2.size)) _ ?_
      have hHeld : Below y2.heap.size y2 y2 := Below.refl _ _
      refine take_if 9 (.string sb) rfl (by kernel_rfl) (by kernel_rfl) (by kernel_rfl) (fun _ _ _ h => h) rfl hHeld (fun w' hw' => ?_) ?_
      · have hq := conv_bts (hbt2.below hw')
        rw [HSB.out] at hq
        go_simp
      simp only [Act.put, List.setIfInBounds_toArray, List.set_cons_zero, List.set_cons_succ]
      refine take_run 10 (.bool false) rfl (by kernel_rfl) (by kernel_rfl) (by kernel_rfl) (fun _ _ _ h => h) rfl hHeld (fun w => ?_) ?_
      · have hq := HSE.out; go_simp
      simp only [Act.put, List.setIfInBounds_toArray, List.set_cons_zero, List.set_cons_succ]
      refine take_run 11 (.bool false) rfl (by kernel_rfl) (by kernel_rfl) (by kernel_rfl) (fun _ _ _ h => h) rfl hHeld (fun w => ?_) ?_
      · go_simp
      simp only [Act.put, List.setIfInBounds_toArray, List.set_cons_zero, List.set_cons_succ]
      refine take_off 12 rfl (by kernel_rfl) (by kernel_rfl) (by kernel_rfl) (fun _ _ _ h => h) rfl hHeld ?_
      simp only [Act.put, List.setIfInBounds_toArray, List.set_cons_zero, List.set_cons_succ]
      refine take_off 13 rfl (by kernel_rfl) (by kernel_rfl) (by kernel_rfl) (fun _ _ _ h => h) rfl hHeld ?_
      simp only [Act.put, List.setIfInBounds_toArray, List.set_cons_zero, List.set_cons_succ]
      refine take_run 14 (.bool false) rfl (by kernel_rfl) (by kernel_rfl) (by kernel_rfl) (fun _ _ _ h => h) rfl hHeld (fun w => ?_) ?_
      · go_simp
      simp only [Act.put, List.setIfInBounds_toArray, List.set_cons_zero, List.set_cons_succ]
      refine take_run 15 (.bool false) rfl (by kernel_rfl) (by kernel_rfl) (by kernel_rfl) (fun _ _ _ h => h) rfl hHeld (fun w => ?_) ?_
      · go_simp
      simp only [Act.put, List.setIfInBounds_toArray, List.set_cons_zero, List.set_cons_succ]
      refine take_off 16 rfl (by kernel_rfl) (by kernel_rfl) (by kernel_rfl) (fun _ _ _ h => h) rfl hHeld ?_
      simp only [Act.put, List.setIfInBounds_toArray, List.set_cons_zero, List.set_cons_succ]
      refine take_off 17 rfl (by kernel_rfl) (by kernel_rfl) (by kernel_rfl) (fun _ _ _ h => h) rfl hHeld ?_
      simp only [Act.put, List.setIfInBounds_toArray, List.set_cons_zero, List.set_cons_succ]
      refine take_run 18 (.bool false) rfl (by kernel_rfl) (by kernel_rfl) (by kernel_rfl) (fun _ _ _ h => h) rfl hHeld (fun w => ?_) ?_
      · go_simp
      simp only [Act.put, List.setIfInBounds_toArray, List.set_cons_zero, List.set_cons_succ]
      refine wpAnyH_done (by kernel_rfl) ?_ _
      clear hHeld
      have hz := HOFF.out (fun e => by have := HEE.out; rw [decide_eq_true e.1] at this; cases this)
      have HFI := Lib.hid (HIX.out.trans hz)
      clear hz
      have HBr := Lib.hid (HBr.out.trans (hSS.mono HBr.out.size))
      have HTA := Lib.hid (fun (X : World) (h : Below y2.heap.size y2 X) => HTA.out X (hSS.trans (h.mono hSS.size)))
      have HTB := Lib.hid (fun (X : World) (h : Below y2.heap.size y2 X) => HTB.out X (hSS.trans (h.mono hSS.size)))
      clear hSS hS1 hS2 hbx hbt1 hbt2 hSd
      go_wp2
      obtain ⟨Y0, hY0⟩ : ∃ Y, y2.drew = Y := ⟨_, rfl⟩
      have hSd : (fun w' => Below y2.heap.size y2 w') Y0 := by rw [← hY0]; exact (Below.refl _ y2).drew
      refine wp_region_held_drew (S := (fun w' => Below y2.heap.size y2 w')) (by kernel_rfl) (by rw [hY0]; exact hSd) (fun hHeld => ?_)
      rw [hY0] at hHeld ⊢
      clear hY0
      refine take_move 0 (.tmp 0) (.slice A n c) rfl rfl rfl (by kernel_rfl) (by kernel_rfl) (by kernel_rfl) (fun _ _ _ h => h) rfl hHeld ?_
      simp only [Act.put, List.setIfInBounds_toArray, List.set_cons_zero, List.set_cons_succ]
      refine take_move 1 (.tmp 14) (.int .i64 i) rfl rfl rfl (by kernel_rfl) (by kernel_rfl) (by kernel_rfl) (fun _ _ _ h => h) rfl hHeld ?_
      simp only [Act.put, List.setIfInBounds_toArray, List.set_cons_zero, List.set_cons_succ]
      refine take_run 2 (.slice A i c) rfl (by kernel_rfl) (by kernel_rfl) (by kernel_rfl) (fun _ _ _ h => h) rfl hHeld (fun w => ?_) ?_
      · go_simp
      simp only [Act.put, List.setIfInBounds_toArray, List.set_cons_zero, List.set_cons_succ]
      refine take_move 4 (.tmp 1) (.slice B m d) rfl rfl rfl (by kernel_rfl) (by kernel_rfl) (by kernel_rfl) (fun _ _ _ h => h) rfl hHeld ?_
      simp only [Act.put, List.setIfInBounds_toArray, List.set_cons_zero, List.set_cons_succ]
      refine take_move 5 (.tmp 15) (.int .i64 k) rfl rfl rfl (by kernel_rfl) (by kernel_rfl) (by kernel_rfl) (fun _ _ _ h => h) rfl hHeld ?_
      simp only [Act.put, List.setIfInBounds_toArray, List.set_cons_zero, List.set_cons_succ]
      refine take_run 6 (.slice B k d) rfl (by kernel_rfl) (by kernel_rfl) (by kernel_rfl) (fun _ _ _ h => h) rfl hHeld (fun w => ?_) ?_
      · go_simp
      simp only [Act.put, List.setIfInBounds_toArray, List.set_cons_zero, List.set_cons_succ]
      refine one_step 3 (by kernel_rfl) rfl (fun Kq hKq => ?_)
      go_simp
      go_at_call 34
      refine (HTA.out _ hSd).mono ?_
      rintro e z1 ⟨A1, n1, c1, rfl, hbt1, hbx⟩
      have hS1 : Below y2.heap.size y2 z1 := hSd.trans (hbx.mono hSd.size)
      refine hKq.out _ _ hS1 (fun hHeld0 => ?_)
      clear hKq Kq hHeld hHeld0 hbx
      try simp only [Act.put, List.setIfInBounds_toArray, List.set_cons_zero, List.set_cons_succ]
      refine wpAnyH_mono (S' := fun w' => Below z1.heap.size z1 w') (fun w' h => hS1.trans (h.mono hS1.size)) _ ?_
      have hHeld : Below z1.heap.size z1 z1 := Below.refl _ _
      refine one_step 7 (by kernel_rfl) rfl (fun Kq hKq => ?_)
      go_simp
      go_at_call 34
      refine (HTB.out _ hS1).mono ?_
      rintro e z2 ⟨A2, n2, c2, rfl, hbt2, hbx⟩
      have hS2 : Below z1.heap.size z1 z2 := hbx
      have hbt1 := hbt1.below hbx
      refine hKq.out _ _ hS2 (fun hHeld0 => ?_)
      clear hKq Kq hHeld hHeld0
      try simp only [Act.put, List.setIfInBounds_toArray, List.set_cons_zero, List.set_cons_succ]
      have hSS : Below y2.heap.size y2 z2 := hS1.trans (hbx.mono hS1.size)
      refine wpAnyH_mono (S' := fun w' => Below z2.heap.size z2 w') (fun w' h => hS2.trans (h.mono hS2.size)) _ ?_
      have hHeld : Below z2.heap.size z2 z2 := Below.refl _ _
      refine take_run 8 (.slice A1 n1 c1) rfl (by kernel_rfl) (by kernel_rfl) (by kernel_rfl) (fun _ _ _ h => h) rfl hHeld (fun w => ?_) ?_
      · go_simp
      simp only [Act.put, List.setIfInBounds_toArray, List.set_cons_zero, List.set_cons_succ]
      refine take_run 9 (.slice A2 n2 c2) rfl (by kernel_rfl) (by kernel_rfl) (by kernel_rfl) (fun _ _ _ h => h) rfl hHeld (fun w => ?_) ?_
      · go_simp
      simp only [Act.put, List.setIfInBounds_toArray, List.set_cons_zero, List.set_cons_succ]
      refine take_run 10 (.bool true) rfl (by kernel_rfl) (by kernel_rfl) (by kernel_rfl) (fun _ _ _ h => h) rfl hHeld (fun w => ?_) ?_
      · go_simp
      simp only [Act.put, List.setIfInBounds_toArray, List.set_cons_zero, List.set_cons_succ]
      refine wpAnyH_done (by kernel_rfl) ?_ _
      go_wp2
      exact bodyPost_ret (v := .tuple #[.slice A1 n1 c1, .slice A2 n2 c2, .bool true]) (results_ttt Tryd.results20 _ _ _ _ _ _ rfl rfl rfl) rfl ⟨A1, n1, c1, A2, n2, c2, rfl, by rw [HFI.out]; dsimp only; rw [HTAE.out]; exact hbt1, by rw [HFI.out]; dsimp only; rw [HTBE.out]; exact hbt2, HBr.out.trans (hSS.mono HBr.out.size)⟩
    | true =>
      by_cases hi0 : 0 < i
      · have p0 : 0 < (i : Int) := by omega
        by_cases hk0 : 0 < k
        · have p1 : 0 < (k : Int) := by omega
          obtain ⟨Y0, hY0⟩ : ∃ Y, wr.drew = Y := ⟨_, rfl⟩
          have hSd : (fun w' => Below wr.heap.size wr w') Y0 := by rw [← hY0]; exact (Below.refl _ wr).drew
          refine wp_region_held_drew (S := (fun w' => Below wr.heap.size wr w')) (by kernel_rfl) (by rw [hY0]; exact hSd) (fun hHeld => ?_)
          rw [hY0] at hHeld ⊢
          clear hY0
          refine take_move 0 (.tmp 0) (.slice A n c) rfl rfl rfl (by kernel_rfl) (by kernel_rfl) (by kernel_rfl) (fun _ _ _ h => h) rfl hHeld ?_
          simp only [Act.put, List.setIfInBounds_toArray, List.set_cons_zero, List.set_cons_succ]
          refine take_move 1 (.tmp 14) (.int .i64 i) rfl rfl rfl (by kernel_rfl) (by kernel_rfl) (by kernel_rfl) (fun _ _ _ h => h) rfl hHeld ?_
          simp only [Act.put, List.setIfInBounds_toArray, List.set_cons_zero, List.set_cons_succ]
          refine take_run 2 (.slice A i c) rfl (by kernel_rfl) (by kernel_rfl) (by kernel_rfl) (fun _ _ _ h => h) rfl hHeld (fun w => ?_) ?_
          · go_simp
          simp only [Act.put, List.setIfInBounds_toArray, List.set_cons_zero, List.set_cons_succ]
          refine take_move 5 (.tmp 1) (.slice B m d) rfl rfl rfl (by kernel_rfl) (by kernel_rfl) (by kernel_rfl) (fun _ _ _ h => h) rfl hHeld ?_
          simp only [Act.put, List.setIfInBounds_toArray, List.set_cons_zero, List.set_cons_succ]
          refine take_move 6 (.tmp 15) (.int .i64 k) rfl rfl rfl (by kernel_rfl) (by kernel_rfl) (by kernel_rfl) (fun _ _ _ h => h) rfl hHeld ?_
          simp only [Act.put, List.setIfInBounds_toArray, List.set_cons_zero, List.set_cons_succ]
          refine take_run 7 (.slice B k d) rfl (by kernel_rfl) (by kernel_rfl) (by kernel_rfl) (fun _ _ _ h => h) rfl hHeld (fun w => ?_) ?_
          · go_simp
          simp only [Act.put, List.setIfInBounds_toArray, List.set_cons_zero, List.set_cons_succ]
          refine one_step 3 (by kernel_rfl) rfl (fun Kq hKq => ?_)
          go_simp
          go_at_call 34
          refine (HTA.out _ hSd).mono ?_
          rintro e y1 ⟨A1, n1, c1, rfl, hbt1, hbx⟩
          have hS1 : Below wr.heap.size wr y1 := hSd.trans (hbx.mono hSd.size)
          refine hKq.out _ _ hS1 (fun hHeld0 => ?_)
          clear hKq Kq hHeld hHeld0 hbx
          try simp only [Act.put, List.setIfInBounds_toArray, List.set_cons_zero, List.set_cons_succ]
          refine wpAnyH_mono (S' := fun w' => Below y1.heap.size y1 w') (fun w' h => hS1.trans (h.mono hS1.size)) _ ?_
          have hHeld : Below y1.heap.size y1 y1 := Below.refl _ _
          refine take_if 4 (.string sa) rfl (by kernel_rfl) (by kernel_rfl) (by kernel_rfl) (fun _ _ _ h => h) rfl hHeld (fun w' hw' => ?_) ?_
          · have hq := conv_bts (hbt1.below hw')
            rw [HSA.out] at hq
            go_simp
          simp only [Act.put, List.setIfInBounds_toArray, List.set_cons_zero, List.set_cons_succ]
          refine one_step 8 (by kernel_rfl) rfl (fun Kq hKq => ?_)
          go_simp
          go_at_call 34
          refine (HTB.out _ hS1).mono ?_
          rintro e y2 ⟨A2, n2, c2, rfl, hbt2, hbx⟩
          have hS2 : Below y1.heap.size y1 y2 := hbx
          have hbt1 := hbt1.below hbx
          refine hKq.out _ _ hS2 (fun hHeld0 => ?_)
          clear hKq Kq hHeld hHeld0
          try simp only [Act.put, List.setIfInBounds_toArray, List.set_cons_zero, List.set_cons_succ]
          have hSS : Below wr.heap.size wr y2 := hS1.trans (hbx.mono hS1.size)
          refine wpAnyH_mono (S' := fun w' => Below y2.heap.size y2 w') (fun w' h => hS2.trans (h.mono hS2.size)) _ ?_
          have hHeld : Below y2.heap.size y2 y2 := Below.refl _ _
          refine take_if 9 (.string sb) rfl (by kernel_rfl) (by kernel_rfl) (by kernel_rfl) (fun _ _ _ h => h) rfl hHeld (fun w' hw' => ?_) ?_
          · have hq := conv_bts (hbt2.below hw')
            rw [HSB.out] at hq
            go_simp
          simp only [Act.put, List.setIfInBounds_toArray, List.set_cons_zero, List.set_cons_succ]
          refine take_run 10 (.bool true) rfl (by kernel_rfl) (by kernel_rfl) (by kernel_rfl) (fun _ _ _ h => h) rfl hHeld (fun w => ?_) ?_
          · have hq := HSE.out; go_simp
          simp only [Act.put, List.setIfInBounds_toArray, List.set_cons_zero, List.set_cons_succ]
          refine take_run 11 (.bool true) rfl (by kernel_rfl) (by kernel_rfl) (by kernel_rfl) (fun _ _ _ h => h) rfl hHeld (fun w => ?_) ?_
          · go_simp
          simp only [Act.put, List.setIfInBounds_toArray, List.set_cons_zero, List.set_cons_succ]
          refine take_move 12 (.tmp 14) (.int .i64 i) rfl rfl rfl (by kernel_rfl) (by kernel_rfl) (by kernel_rfl) (fun _ _ _ h => h) rfl hHeld ?_
          simp only [Act.put, List.setIfInBounds_toArray, List.set_cons_zero, List.set_cons_succ]
          refine take_run 13 (.bool true) rfl (by kernel_rfl) (by kernel_rfl) (by kernel_rfl) (fun _ _ _ h => h) rfl hHeld (fun w => ?_) ?_
          · go_simp
          simp only [Act.put, List.setIfInBounds_toArray, List.set_cons_zero, List.set_cons_succ]
          refine take_run 14 (.bool true) rfl (by kernel_rfl) (by kernel_rfl) (by kernel_rfl) (fun _ _ _ h => h) rfl hHeld (fun w => ?_) ?_
          · go_simp
          simp only [Act.put, List.setIfInBounds_toArray, List.set_cons_zero, List.set_cons_succ]
          refine take_run 15 (.bool true) rfl (by kernel_rfl) (by kernel_rfl) (by kernel_rfl) (fun _ _ _ h => h) rfl hHeld (fun w => ?_) ?_
          · go_simp
          simp only [Act.put, List.setIfInBounds_toArray, List.set_cons_zero, List.set_cons_succ]
          refine take_move 16 (.tmp 15) (.int .i64 k) rfl rfl rfl (by kernel_rfl) (by kernel_rfl) (by kernel_rfl) (fun _ _ _ h => h) rfl hHeld ?_
          simp only [Act.put, List.setIfInBounds_toArray, List.set_cons_zero, List.set_cons_succ]
          refine take_run 17 (.bool true) rfl (by kernel_rfl) (by kernel_rfl) (by kernel_rfl) (fun _ _ _ h => h) rfl hHeld (fun w => ?_) ?_
          · go_simp
          simp only [Act.put, List.setIfInBounds_toArray, List.set_cons_zero, List.set_cons_succ]
          refine take_run 18 (.bool true) rfl (by kernel_rfl) (by kernel_rfl) (by kernel_rfl) (fun _ _ _ h => h) rfl hHeld (fun w => ?_) ?_
          · go_simp
          simp only [Act.put, List.setIfInBounds_toArray, List.set_cons_zero, List.set_cons_succ]
          refine wpAnyH_done (by kernel_rfl) ?_ _
          clear hHeld
          have HB8 := Lib.hid (HBr.out.trans (hSS.mono HBr.out.size))
          clear hSS hS1 hS2 hbx hbt1 hbt2
          go_wp2
          try go_frame
          go_roundw
          case rel => exact ⟨i - 1, k - 1, by omega, by omega, by rw [show ((i - 1 : Nat) : Int) = (i : Int) - 1 by omega], by rw [show ((k - 1 : Nat) : Int) = (k : Int) - 1 by omega], HIX.out.trans (HON.out hi0 hk0 (of_decide_eq_true HEE.out)), HB8.out⟩
          case measure => simp [intOf]; omega
        · have p1 : ¬ 0 < (k : Int) := by omega
          obtain ⟨Y0, hY0⟩ : ∃ Y, wr.drew = Y := ⟨_, rfl⟩
          have hSd : (fun w' => Below wr.heap.size wr w') Y0 := by rw [← hY0]; exact (Below.refl _ wr).drew
          refine wp_region_held_drew (S := (fun w' => Below wr.heap.size wr w')) (by kernel_rfl) (by rw [hY0]; exact hSd) (fun hHeld => ?_)
          rw [hY0] at hHeld ⊢
          clear hY0
          refine take_move 0 (.tmp 0) (.slice A n c) rfl rfl rfl (by kernel_rfl) (by kernel_rfl) (by kernel_rfl) (fun _ _ _ h => h) rfl hHeld ?_
          simp only [Act.put, List.setIfInBounds_toArray, List.set_cons_zero, List.set_cons_succ]
          refine take_move 1 (.tmp 14) (.int .i64 i) rfl rfl rfl (by kernel_rfl) (by kernel_rfl) (by kernel_rfl) (fun _ _ _ h => h) rfl hHeld ?_
          simp only [Act.put, List.setIfInBounds_toArray, List.set_cons_zero, List.set_cons_succ]
          refine take_run 2 (.slice A i c) rfl (by kernel_rfl) (by kernel_rfl) (by kernel_rfl) (fun _ _ _ h => h) rfl hHeld (fun w => ?_) ?_
          · go_simp
          simp only [Act.put, List.setIfInBounds_toArray, List.set_cons_zero, List.set_cons_succ]
          refine take_move 5 (.tmp 1) (.slice B m d) rfl rfl rfl (by kernel_rfl) (by kernel_rfl) (by kernel_rfl) (fun _ _ _ h => h) rfl hHeld ?_
          simp only [Act.put, List.setIfInBounds_toArray, List.set_cons_zero, List.set_cons_succ]
          refine take_move 6 (.tmp 15) (.int .i64 k) rfl rfl rfl (by kernel_rfl) (by kernel_rfl) (by kernel_rfl) (fun _ _ _ h => h) rfl hHeld ?_
          simp only [Act.put, List.setIfInBounds_toArray, List.set_cons_zero, List.set_cons_succ]
          refine take_run 7 (.slice B k d) rfl (by kernel_rfl) (by kernel_rfl) (by kernel_rfl) (fun _ _ _ h => h) rfl hHeld (fun w => ?_) ?_
          · go_simp
          simp only [Act.put, List.setIfInBounds_toArray, List.set_cons_zero, List.set_cons_succ]
          refine one_step 3 (by kernel_rfl) rfl (fun Kq hKq => ?_)
          go_simp
          go_at_call 34
          refine (HTA.out _ hSd).mono ?_
          rintro e y1 ⟨A1, n1, c1, rfl, hbt1, hbx⟩
          have hS1 : Below wr.heap.size wr y1 := hSd.trans (hbx.mono hSd.size)
          refine hKq.out _ _ hS1 (fun hHeld0 => ?_)
          clear hKq Kq hHeld hHeld0 hbx
          try simp only [Act.put, List.setIfInBounds_toArray, List.set_cons_zero, List.set_cons_succ]
          refine wpAnyH_mono (S' := fun w' => Below y1.heap.size y1 w') (fun w' h => hS1.trans (h.mono hS1.size)) _ ?_
          have hHeld : Below y1.heap.size y1 y1 := Below.refl _ _
          refine take_if 4 (.string sa) rfl (by kernel_rfl) (by kernel_rfl) (by kernel_rfl) (fun _ _ _ h => h) rfl hHeld (fun w' hw' => ?_) ?_
          · have hq := conv_bts (hbt1.below hw')
            rw [HSA.out] at hq
            go_simp
          simp only [Act.put, List.setIfInBounds_toArray, List.set_cons_zero, List.set_cons_succ]
          refine one_step 8 (by kernel_rfl) rfl (fun Kq hKq => ?_)
          go_simp
          go_at_call 34
          refine (HTB.out _ hS1).mono ?_
          rintro e y2 ⟨A2, n2, c2, rfl, hbt2, hbx⟩
          have hS2 : Below y1.heap.size y1 y2 := hbx
          have hbt1 := hbt1.below hbx
          refine hKq.out _ _ hS2 (fun hHeld0 => ?_)
          clear hKq Kq hHeld hHeld0
          try simp only [Act.put, List.setIfInBounds_toArray, List.set_cons_zero, List.set_cons_succ]
          have hSS : Below wr.heap.size wr y2 := hS1.trans (hbx.mono hS1.size)
          refine wpAnyH_mono (S' := fun w' => Below y2.heap.size y2 w') (fun w' h => hS2.trans (h.mono hS2.size)) _ ?_
          have hHeld : Below y2.heap.size y2 y2 := Below.refl _ _
          refine take_if 9 (.string sb) rfl (by kernel_rfl) (by kernel_rfl) (by kernel_rfl) (fun _ _ _ h => h) rfl hHeld (fun w' hw' => ?_) ?_
          · have hq := conv_bts (hbt2.below hw')
            rw [HSB.out] at hq
            go_simp
          simp only [Act.put, List.setIfInBounds_toArray, List.set_cons_zero, List.set_cons_succ]
          refine take_run 10 (.bool true) rfl (by kernel_rfl) (by kernel_rfl) (by kernel_rfl) (fun _ _ _ h => h) rfl hHeld (fun w => ?_) ?_
          · have hq := HSE.out; go_simp
          simp only [Act.put, List.setIfInBounds_toArray, List.set_cons_zero, List.set_cons_succ]
          refine take_run 11 (.bool true) rfl (by kernel_rfl) (by kernel_rfl) (by kernel_rfl) (fun _ _ _ h => h) rfl hHeld (fun w => ?_) ?_
          · go_simp
          simp only [Act.put, List.setIfInBounds_toArray, List.set_cons_zero, List.set_cons_succ]
          refine take_move 12 (.tmp 14) (.int .i64 i) rfl rfl rfl (by kernel_rfl) (by kernel_rfl) (by kernel_rfl) (fun _ _ _ h => h) rfl hHeld ?_
          simp only [Act.put, List.setIfInBounds_toArray, List.set_cons_zero, List.set_cons_succ]
          refine take_run 13 (.bool true) rfl (by kernel_rfl) (by kernel_rfl) (by kernel_rfl) (fun _ _ _ h => h) rfl hHeld (fun w => ?_) ?_
          · go_simp
          simp only [Act.put, List.setIfInBounds_toArray, List.set_cons_zero, List.set_cons_succ]
          refine take_run 14 (.bool true) rfl (by kernel_rfl) (by kernel_rfl) (by kernel_rfl) (fun _ _ _ h => h) rfl hHeld (fun w => ?_) ?_
          · go_simp
          simp only [Act.put, List.setIfInBounds_toArray, List.set_cons_zero, List.set_cons_succ]
          refine take_run 15 (.bool true) rfl (by kernel_rfl) (by kernel_rfl) (by kernel_rfl) (fun _ _ _ h => h) rfl hHeld (fun w => ?_) ?_
          · go_simp
          simp only [Act.put, List.setIfInBounds_toArray, List.set_cons_zero, List.set_cons_succ]
          refine take_move 16 (.tmp 15) (.int .i64 k) rfl rfl rfl (by kernel_rfl) (by kernel_rfl) (by kernel_rfl) (fun _ _ _ h => h) rfl hHeld ?_
          simp only [Act.put, List.setIfInBounds_toArray, List.set_cons_zero, List.set_cons_succ]
          refine take_run 17 (.bool false) rfl (by kernel_rfl) (by kernel_rfl) (by kernel_rfl) (fun _ _ _ h => h) rfl hHeld (fun w => ?_) ?_
          · go_simp
          simp only [Act.put, List.setIfInBounds_toArray, List.set_cons_zero, List.set_cons_succ]
          refine take_run 18 (.bool false) rfl (by kernel_rfl) (by kernel_rfl) (by kernel_rfl) (fun _ _ _ h => h) rfl hHeld (fun w => ?_) ?_
          · go_simp
          simp only [Act.put, List.setIfInBounds_toArray, List.set_cons_zero, List.set_cons_succ]
          refine wpAnyH_done (by kernel_rfl) ?_ _
          clear hHeld
          have hz := HOFF.out (fun e => absurd e.2.2 hk0)
          have HFI := Lib.hid (HIX.out.trans hz)
          clear hz
          have HBr := Lib.hid (HBr.out.trans (hSS.mono HBr.out.size))
          have HTA := Lib.hid (fun (X : World) (h : Below y2.heap.size y2 X) => HTA.out X (hSS.trans (h.mono hSS.size)))
          have HTB := Lib.hid (fun (X : World) (h : Below y2.heap.size y2 X) => HTB.out X (hSS.trans (h.mono hSS.size)))
          clear hSS hS1 hS2 hbx hbt1 hbt2 hSd
          go_wp2
          obtain ⟨Y0, hY0⟩ : ∃ Y, y2.drew = Y := ⟨_, rfl⟩
          have hSd : (fun w' => Below y2.heap.size y2 w') Y0 := by rw [← hY0]; exact (Below.refl _ y2).drew
          refine wp_region_held_drew (S := (fun w' => Below y2.heap.size y2 w')) (by kernel_rfl) (by rw [hY0]; exact hSd) (fun hHeld => ?_)
          rw [hY0] at hHeld ⊢
          clear hY0
          refine take_move 0 (.tmp 0) (.slice A n c) rfl rfl rfl (by kernel_rfl) (by kernel_rfl) (by kernel_rfl) (fun _ _ _ h => h) rfl hHeld ?_
          simp only [Act.put, List.setIfInBounds_toArray, List.set_cons_zero, List.set_cons_succ]
          refine take_move 1 (.tmp 14) (.int .i64 i) rfl rfl rfl (by kernel_rfl) (by kernel_rfl) (by kernel_rfl) (fun _ _ _ h => h) rfl hHeld ?_
          simp only [Act.put, List.setIfInBounds_toArray, List.set_cons_zero, List.set_cons_succ]
          refine take_run 2 (.slice A i c) rfl (by kernel_rfl) (by kernel_rfl) (by kernel_rfl) (fun _ _ _ h => h) rfl hHeld (fun w => ?_) ?_
          · go_simp
          simp only [Act.put, List.setIfInBounds_toArray, List.set_cons_zero, List.set_cons_succ]
          refine take_move 4 (.tmp 1) (.slice B m d) rfl rfl rfl (by kernel_rfl) (by kernel_rfl) (by kernel_rfl) (fun _ _ _ h => h) rfl hHeld ?_
          simp only [Act.put, List.setIfInBounds_toArray, List.set_cons_zero, List.set_cons_succ]
          refine take_move 5 (.tmp 15) (.int .i64 k) rfl rfl rfl (by kernel_rfl) (by kernel_rfl) (by kernel_rfl) (fun _ _ _ h => h) rfl hHeld ?_
          simp only [Act.put, List.setIfInBounds_toArray, List.set_cons_zero, List.set_cons_succ]
          refine take_run 6 (.slice B k d) rfl (by kernel_rfl) (by kernel_rfl) (by kernel_rfl) (fun _ _ _ h => h) rfl hHeld (fun w => ?_) ?_
          · go_simp
          simp only [Act.put, List.setIfInBounds_toArray, List.set_cons_zero, List.set_cons_succ]
          refine one_step 3 (by kernel_rfl) rfl (fun Kq hKq => ?_)
          go_simp
          go_at_call 34
          refine (HTA.out _ hSd).mono ?_
          rintro e z1 ⟨A1, n1, c1, rfl, hbt1, hbx⟩
          have hS1 : Below y2.heap.size y2 z1 := hSd.trans (hbx.mono hSd.size)
          refine hKq.out _ _ hS1 (fun hHeld0 => ?_)
          clear hKq Kq hHeld hHeld0 hbx
          try simp only [Act.put, List.setIfInBounds_toArray, List.set_cons_zero, List.set_cons_succ]
          refine wpAnyH_mono (S' := fun w' => Below z1.heap.size z1 w') (fun w' h => hS1.trans (h.mono hS1.size)) _ ?_
          have hHeld : Below z1.heap.size z1 z1 := Below.refl _ _
          refine one_step 7 (by kernel_rfl) rfl (fun Kq hKq => ?_)
          go_simp
          go_at_call 34
          refine (HTB.out _ hS1).mono ?_
          rintro e z2 ⟨A2, n2, c2, rfl, hbt2, hbx⟩
          have hS2 : Below z1.heap.size z1 z2 := hbx
          have hbt1 := hbt1.below hbx
          refine hKq.out _ _ hS2 (fun hHeld0 => ?_)
          clear hKq Kq hHeld hHeld0
          try simp only [Act.put, List.setIfInBounds_toArray, List.set_cons_zero, List.set_cons_succ]
          have hSS : Below y2.heap.size y2 z2 := hS1.trans (hbx.mono hS1.size)
          refine wpAnyH_mono (S' := fun w' => Below z2.heap.size z2 w') (fun w' h => hS2.trans (h.mono hS2.size)) _ ?_
          have hHeld : Below z2.heap.size z2 z2 := Below.refl _ _
          refine take_run 8 (.slice A1 n1 c1) rfl (by kernel_rfl) (by kernel_rfl) (by kernel_rfl) (fun _ _ _ h => h) rfl hHeld (fun w => ?_) ?_
          · go_simp
          simp only [Act.put, List.setIfInBounds_toArray, List.set_cons_zero, List.set_cons_succ]
          refine take_run 9 (.slice A2 n2 c2) rfl (by kernel_rfl) (by kernel_rfl) (by kernel_rfl) (fun _ _ _ h => h) rfl hHeld (fun w => ?_) ?_
          · go_simp
          simp only [Act.put, List.setIfInBounds_toArray, List.set_cons_zero, List.set_cons_succ]
          refine take_run 10 (.bool true) rfl (by kernel_rfl) (by kernel_rfl) (by kernel_rfl) (fun _ _ _ h => h) rfl hHeld (fun w => ?_) ?_
          · go_simp
          simp only [Act.put, List.setIfInBounds_toArray, List.set_cons_zero, List.set_cons_succ]
          refine wpAnyH_done (by kernel_rfl) ?_ _
          go_wp2
          exact bodyPost_ret (v := .tuple #[.slice A1 n1 c1, .slice A2 n2 c2, .bool true]) (results_ttt Tryd.results20 _ _ _ _ _ _ rfl rfl rfl) rfl ⟨A1, n1, c1, A2, n2, c2, rfl, by rw [HFI.out]; dsimp only; rw [HTAE.out]; exact hbt1, by rw [HFI.out]; dsimp only; rw [HTBE.out]; exact hbt2, HBr.out.trans (hSS.mono HBr.out.size)⟩
      · have p0 : ¬ 0 < (i : Int) := by omega
        obtain ⟨Y0, hY0⟩ : ∃ Y, wr.drew = Y := ⟨_, rfl⟩
        have hSd : (fun w' => Below wr.heap.size wr w') Y0 := by rw [← hY0]; exact (Below.refl _ wr).drew
        refine wp_region_held_drew (S := (fun w' => Below wr.heap.size wr w')) (by kernel_rfl) (by rw [hY0]; exact hSd) (fun hHeld => ?_)
        rw [hY0] at hHeld ⊢
        clear hY0
        refine take_move 0 (.tmp 0) (.slice A n c) rfl rfl rfl (by kernel_rfl) (by kernel_rfl) (by kernel_rfl) (fun _ _ _ h => h) rfl hHeld ?_
        simp only [Act.put, List.setIfInBounds_toArray, List.set_cons_zero, List.set_cons_succ]
        refine take_move 1 (.tmp 14) (.int .i64 i) rfl rfl rfl (by kernel_rfl) (by kernel_rfl) (by kernel_rfl) (fun _ _ _ h => h) rfl hHeld ?_
        simp only [Act.put, List.setIfInBounds_toArray, List.set_cons_zero, List.set_cons_succ]
        refine take_run 2 (.slice A i c) rfl (by kernel_rfl) (by kernel_rfl) (by kernel_rfl) (fun _ _ _ h => h) rfl hHeld (fun w => ?_) ?_
        · go_simp
        simp only [Act.put, List.setIfInBounds_toArray, List.set_cons_zero, List.set_cons_succ]
        refine take_move 5 (.tmp 1) (.slice B m d) rfl rfl rfl (by kernel_rfl) (by kernel_rfl) (by kernel_rfl) (fun _ _ _ h => h) rfl hHeld ?_
        simp only [Act.put, List.setIfInBounds_toArray, List.set_cons_zero, List.set_cons_succ]
        refine take_move 6 (.tmp 15) (.int .i64 k) rfl rfl rfl (by kernel_rfl) (by kernel_rfl) (by kernel_rfl) (fun _ _ _ h => h) rfl hHeld ?_
        simp only [Act.put, List.setIfInBounds_toArray, List.set_cons_zero, List.set_cons_succ]
        refine take_run 7 (.slice B k d) rfl (by kernel_rfl) (by kernel_rfl) (by kernel_rfl) (fun _ _ _ h => h) rfl hHeld (fun w => ?_) ?_
        · go_simp
        simp only [Act.put, List.setIfInBounds_toArray, List.set_cons_zero, List.set_cons_succ]
        refine one_step 3 (by kernel_rfl) rfl (fun Kq hKq => ?_)
        go_simp
        go_at_call 34
        refine (HTA.out _ hSd).mono ?_
        rintro e y1 ⟨A1, n1, c1, rfl, hbt1, hbx⟩
        have hS1 : Below wr.heap.size wr y1 := hSd.trans (hbx.mono hSd.size)
        refine hKq.out _ _ hS1 (fun hHeld0 => ?_)
        clear hKq Kq hHeld hHeld0 hbx
        try simp only [Act.put, List.setIfInBounds_toArray, List.set_cons_zero, List.set_cons_succ]
        refine wpAnyH_mono (S' := fun w' => Below y1.heap.size y1 w') (fun w' h => hS1.trans (h.mono hS1.size)) _ ?_
        have hHeld : Below y1.heap.size y1 y1 := Below.refl _ _
        refine take_if 4 (.string sa) rfl (by kernel_rfl) (by kernel_rfl) (by kernel_rfl) (fun _ _ _ h => h) rfl hHeld (fun w' hw' => ?_) ?_
        · have hq := conv_bts (hbt1.below hw')
          rw [HSA.out] at hq
          go_simp
        simp only [Act.put, List.setIfInBounds_toArray, List.set_cons_zero, List.set_cons_succ]
        refine one_step 8 (by kernel_rfl) rfl (fun Kq hKq => ?_)
        go_simp
        go_at_call 34
        refine (HTB.out _ hS1).mono ?_
        rintro e y2 ⟨A2, n2, c2, rfl, hbt2, hbx⟩
        have hS2 : Below y1.heap.size y1 y2 := hbx
        have hbt1 := hbt1.below hbx
        refine hKq.out _ _ hS2 (fun hHeld0 => ?_)
        clear hKq Kq hHeld hHeld0
        try simp only [Act.put, List.setIfInBounds_toArray, List.set_cons_zero, List.set_cons_succ]
        have hSS : Below wr.heap.size wr y2 := hS1.trans (hbx.mono hS1.size)
        refine wpAnyH_mono (S' := fun w' => Below y2.heap.size y2 w') (fun w' h => hS2.trans (h.mono hS2.size)) _ ?_
        have hHeld : Below y2.heap.size y2 y2 := Below.refl _ _
        refine take_if 9 (.string sb) rfl (by kernel_rfl) (by kernel_rfl) (by kernel_rfl) (fun _ _ _ h => h) rfl hHeld (fun w' hw' => ?_) ?_
        · have hq := conv_bts (hbt2.below hw')
          rw [HSB.out] at hq
          go_simp
        simp only [Act.put, List.setIfInBounds_toArray, List.set_cons_zero, List.set_cons_succ]
        refine take_run 10 (.bool true) rfl (by kernel_rfl) (by kernel_rfl) (by kernel_rfl) (fun _ _ _ h => h) rfl hHeld (fun w => ?_) ?_
        · have hq := HSE.out; go_simp
        simp only [Act.put, List.setIfInBounds_toArray, List.set_cons_zero, List.set_cons_succ]
        refine take_run 11 (.bool true) rfl (by kernel_rfl) (by kernel_rfl) (by kernel_rfl) (fun _ _ _ h => h) rfl hHeld (fun w => ?_) ?_
        · go_simp
        simp only [Act.put, List.setIfInBounds_toArray, List.set_cons_zero, List.set_cons_succ]
        refine take_move 12 (.tmp 14) (.int .i64 i) rfl rfl rfl (by kernel_rfl) (by kernel_rfl) (by kernel_rfl) (fun _ _ _ h => h) rfl hHeld ?_
        simp only [Act.put, List.setIfInBounds_toArray, List.set_cons_zero, List.set_cons_succ]
        refine take_run 13 (.bool false) rfl (by kernel_rfl) (by kernel_rfl) (by kernel_rfl) (fun _ _ _ h => h) rfl hHeld (fun w => ?_) ?_
        · go_simp
        simp only [Act.put, List.setIfInBounds_toArray, List.set_cons_zero, List.set_cons_succ]
        refine take_run 14 (.bool false) rfl (by kernel_rfl) (by kernel_rfl) (by kernel_rfl) (fun _ _ _ h => h) rfl hHeld (fun w => ?_) ?_
        · go_simp
        simp only [Act.put, List.setIfInBounds_toArray, List.set_cons_zero, List.set_cons_succ]
        refine take_run 15 (.bool false) rfl (by kernel_rfl) (by kernel_rfl) (by kernel_rfl) (fun _ _ _ h => h) rfl hHeld (fun w => ?_) ?_
        · go_simp
        simp only [Act.put, List.setIfInBounds_toArray, List.set_cons_zero, List.set_cons_succ]
        refine take_off 16 rfl (by kernel_rfl) (by kernel_rfl) (by kernel_rfl) (fun _ _ _ h => h) rfl hHeld ?_
        simp only [Act.put, List.setIfInBounds_toArray, List.set_cons_zero, List.set_cons_succ]
        refine take_off 17 rfl (by kernel_rfl) (by kernel_rfl) (by kernel_rfl) (fun _ _ _ h => h) rfl hHeld ?_
        simp only [Act.put, List.setIfInBounds_toArray, List.set_cons_zero, List.set_cons_succ]
        refine take_run 18 (.bool false) rfl (by kernel_rfl) (by kernel_rfl) (by kernel_rfl) (fun _ _ _ h => h) rfl hHeld (fun w => ?_) ?_
        · go_simp
        simp only [Act.put, List.setIfInBounds_toArray, List.set_cons_zero, List.set_cons_succ]
        refine wpAnyH_done (by kernel_rfl) ?_ _
        clear hHeld
        have hz := HOFF.out (fun e => absurd e.2.1 hi0)
        have HFI := Lib.hid (HIX.out.trans hz)
        clear hz
        have HBr := Lib.hid (HBr.out.trans (hSS.mono HBr.out.size))
        have HTA := Lib.hid (fun (X : World) (h : Below y2.heap.size y2 X) => HTA.out X (hSS.trans (h.mono hSS.size)))
        have HTB := Lib.hid (fun (X : World) (h : Below y2.heap.size y2 X) => HTB.out X (hSS.trans (h.mono hSS.size)))
        clear hSS hS1 hS2 hbx hbt1 hbt2 hSd
        go_wp2
        obtain ⟨Y0, hY0⟩ : ∃ Y, y2.drew = Y := ⟨_, rfl⟩
        have hSd : (fun w' => Below y2.heap.size y2 w') Y0 := by rw [← hY0]; exact (Below.refl _ y2).drew
        refine wp_region_held_drew (S := (fun w' => Below y2.heap.size y2 w')) (by kernel_rfl) (by rw [hY0]; exact hSd) (fun hHeld => ?_)
        rw [hY0] at hHeld ⊢
        clear hY0
        refine take_move 0 (.tmp 0) (.slice A n c) rfl rfl rfl (by kernel_rfl) (by kernel_rfl) (by kernel_rfl) (fun _ _ _ h => h) rfl hHeld ?_
        simp only [Act.put, List.setIfInBounds_toArray, List.set_cons_zero, List.set_cons_succ]
        refine take_move 1 (.tmp 14) (.int .i64 i) rfl rfl rfl (by kernel_rfl) (by kernel_rfl) (by kernel_rfl) (fun _ _ _ h => h) rfl hHeld ?_
        simp only [Act.put, List.setIfInBounds_toArray, List.set_cons_zero, List.set_cons_succ]
        refine take_run 2 (.slice A i c) rfl (by kernel_rfl) (by kernel_rfl) (by kernel_rfl) (fun _ _ _ h => h) rfl hHeld (fun w => ?_) ?_
        · go_simp
        simp only [Act.put, List.setIfInBounds_toArray, List.set_cons_zero, List.set_cons_succ]
        refine take_move 4 (.tmp 1) (.slice B m d) rfl rfl rfl (by kernel_rfl) (by kernel_rfl) (by kernel_rfl) (fun _ _ _ h => h) rfl hHeld ?_
        simp only [Act.put, List.setIfInBounds_toArray, List.set_cons_zero, List.set_cons_succ]
        refine take_move 5 (.tmp 15) (.int .i64 k) rfl rfl rfl (by kernel_rfl) (by kernel_rfl) (by kernel_rfl) (fun _ _ _ h => h) rfl hHeld ?_
        simp only [Act.put, List.setIfInBounds_toArray, List.set_cons_zero, List.set_cons_succ]
        refine take_run 6 (.slice B k d) rfl (by kernel_rfl) (by kernel_rfl) (by kernel_rfl) (fun _ _ _ h => h) rfl hHeld (fun w => ?_) ?_
        · go_simp
        simp only [Act.put, List.setIfInBounds_toArray, List.set_cons_zero, List.set_cons_succ]
        refine one_step 3 (by kernel_rfl) rfl (fun Kq hKq => ?_)
        go_simp
        go_at_call 34
        refine (HTA.out _ hSd).mono ?_
        rintro e z1 ⟨A1, n1, c1, rfl, hbt1, hbx⟩
        have hS1 : Below y2.heap.size y2 z1 := hSd.trans (hbx.mono hSd.size)
        refine hKq.out _ _ hS1 (fun hHeld0 => ?_)
        clear hKq Kq hHeld hHeld0 hbx
        try simp only [Act.put, List.setIfInBounds_toArray, List.set_cons_zero, List.set_cons_succ]
        refine wpAnyH_mono (S' := fun w' => Below z1.heap.size z1 w') (fun w' h => hS1.trans (h.mono hS1.size)) _ ?_
        have hHeld : Below z1.heap.size z1 z1 := Below.refl _ _
        refine one_step 7 (by kernel_rfl) rfl (fun Kq hKq => ?_)
        go_simp
        go_at_call 34
        refine (HTB.out _ hS1).mono ?_
        rintro e z2 ⟨A2, n2, c2, rfl, hbt2, hbx⟩
        have hS2 : Below z1.heap.size z1 z2 := hbx
        have hbt1 := hbt1.below hbx
        refine hKq.out _ _ hS2 (fun hHeld0 => ?_)
        clear hKq Kq hHeld hHeld0
        try simp only [Act.put, List.setIfInBounds_toArray, List.set_cons_zero, List.set_cons_succ]
        have hSS : Below y2.heap.size y2 z2 := hS1.trans (hbx.mono hS1.size)
        refine wpAnyH_mono (S' := fun w' => Below z2.heap.size z2 w') (fun w' h => hS2.trans (h.mono hS2.size)) _ ?_
        have hHeld : Below z2.heap.size z2 z2 := Below.refl _ _
        refine take_run 8 (.slice A1 n1 c1) rfl (by kernel_rfl) (by kernel_rfl) (by kernel_rfl) (fun _ _ _ h => h) rfl hHeld (fun w => ?_) ?_
        · go_simp
        simp only [Act.put, List.setIfInBounds_toArray, List.set_cons_zero, List.set_cons_succ]
        refine take_run 9 (.slice A2 n2 c2) rfl (by kernel_rfl) (by kernel_rfl) (by kernel_rfl) (fun _ _ _ h => h) rfl hHeld (fun w => ?_) ?_
        · go_simp
        simp only [Act.put, List.setIfInBounds_toArray, List.set_cons_zero, List.set_cons_succ]
        refine take_run 10 (.bool true) rfl (by kernel_rfl) (by kernel_rfl) (by kernel_rfl) (fun _ _ _ h => h) rfl hHeld (fun w => ?_) ?_
        · go_simp
        simp only [Act.put, List.setIfInBounds_toArray, List.set_cons_zero, List.set_cons_succ]
        refine wpAnyH_done (by kernel_rfl) ?_ _
        go_wp2
        exact bodyPost_ret (v := .tuple #[.slice A1 n1 c1, .slice A2 n2 c2, .bool true]) (results_ttt Tryd.results20 _ _ _ _ _ _ rfl rfl rfl) rfl ⟨A1, n1, c1, A2, n2, c2, rfl, by rw [HFI.out]; dsimp only; rw [HTAE.out]; exact hbt1, by rw [HFI.out]; dsimp only; rw [HTBE.out]; exact hbt2, HBr.out.trans (hSS.mono HBr.out.size)⟩
theorem rclash_any (A : Option Addr) (n c : Nat) (a : List En) (B : Option Addr) (m d : Nat) (b : List En) (w : World) (ha : Ens w A n c a) (hb : Ens w B m d b) (oa : ∀ u ∈ a, u.ok) (ob : ∀ u ∈ b, u.ok) : Calls Tryd.prog 20 #[.slice A n c, .slice B m d] w (GC (clashP a b).1 (clashP a b).2 (clashB a b) w) := by
  have hs : sameE a b = decide (a = b) := rfl
  cases hO : putC a with
  | false =>
    have e : clashB a b = false := by rw [clashB, hO]; rfl
    rw [clashP, e]
    exact rclash_a A n c a B m d b w ha hb oa ob hO rfl rfl
  | true =>
    cases hW : putC b with
    | false =>
      have e : clashB a b = false := by rw [clashB, hO, hW]; rfl
      rw [clashP, e]
      exact rclash_b A n c a B m d b w ha hb oa ob hO hW rfl
    | true =>
      cases hD : decide (headC a = headC b) with
      | false =>
        have e : clashB a b = false := by rw [clashB, hO, hW, hD]; rfl
        rw [clashP, e]
        exact rclash_c A n c a B m d b w ha hb oa ob hO hW hD rfl
      | true =>
        cases hS : sameE a b with
        | true =>
          have e : clashB a b = false := by rw [clashB, hO, hW, hD, ← hs, hS]; rfl
          rw [clashP, e]
          exact rclash_d A n c a B m d b w ha hb oa ob hO hW hD hS
        | false =>
          have e : clashB a b = true := by rw [clashB, hO, hW, hD, ← hs, hS]; rfl
          rw [clashP, e]
          exact rclash_yes A n c a B m d b w ha hb oa ob hO hW hD hS
end Go.Proofs.YtplfpaclhapldaaDoor
