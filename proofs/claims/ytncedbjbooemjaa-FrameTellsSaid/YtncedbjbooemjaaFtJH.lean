/- Joined texts: '==' between two frames. The walk over the laws' awake (the chapter's examples). The walk over the law FrameLong: each kind has its own length; frames of two kinds have other bytes. The walk over the document's answer Rows: are two lists of bytes the same? The walk over the document's answer Split: the frames that bytes begin with, and the rest. The walk over the document's answer Read, where the bytes are too many, or not all there. The walk over the document's answer Read, where the bytes have no frame's form. The walk over the document's answer fields: the numbers of a frame behind its kind. -/
import Derived.Test.YtncedbjbooemjaaFtJG
import Derived.Test.YtncedbjbooemjaaFtJE
import Derived.Test.YtncedbjbooemjaaFtJF
import Derived.BigQuiet
import Derived.Test.YtncedbjbooemjaaFtJD
import Derived.Test.YtncedbjbooemjaaFtJC
/- '==' between two frames. -/
namespace Go.Proofs.Ytncedbjbooemjaa
set_option linter.unusedVariables false
set_option linter.unusedSimpArgs false
open Go.RowKit

def eqFr (f g : Fr) : Bool := f.kind == g.kind && (f.user == g.user && (f.sess == g.sess && (f.cn == g.cn && (f.epoch == g.epoch && (f.count == g.count && (f.cmd == g.cmd && (f.arg == g.arg && f.tag == g.tag)))))))
theorem eqFr_iff (f g : Fr) : eqFr f g = true ↔ f = g := by
  rcases f with ⟨a0, a1, a2, a3, a4, a5, a6, a7, t⟩
  rcases g with ⟨b0, b1, b2, b3, b4, b5, b6, b7, u⟩
  simp [eqFr]
theorem eqFr_self (f : Fr) : eqFr f f = true := (eqFr_iff f f).2 rfl
theorem part_one {P : Program} (t : TypeId) (k : IntKind) (cs : Array Value) (off : Nat) (v : Value) (h : P.underlying t = some (.int k)) (hv : cs[off]? = some v) (w : World) : (part t cs off).run P w = .ok v w := by
  simp [part, isAgg, run_underlying h, hv, go_sem]
theorem part_tag (f : Fr) (hT : f.tag.length = 32) (w : World) : (part 24 (frA f) 8).run Try.prog w = .ok (.agg (idv f.tag)) w := by
  have hs : (sizeOf 24).run Try.prog w = .ok 32 w := by
    have hq : (Try.prog.info? 24).map (·.size) = some 32 := by kernel_rfl
    cases hi : Try.prog.info? 24 with
    | none => simp [hi] at hq
    | some i => simp [hi] at hq; simp [sizeOf, typeInfo, hi, hq]
  have he : (frA f).extract 8 (8 + 32) = idv f.tag := by
    have h8 : (frC f).drop 8 = byv f.tag := rfl
    have hl : (byv f.tag).length = 32 := by rw [byv_length, hT]
    unfold frA
    rw [List.extract_toArray, List.extract, h8, List.take_of_length_le (by omega)]
    rfl
  simp [part, isAgg, run_underlying Try.underlying24, hs, he, go_sem]
theorem fields_step {P : Program} {d : Nat} {xs ys : Array Value} {f : Field} {fs : List Field} {a b : Value} {r : Bool} {w : World} (hn : f.name ≠ "_") (ha : (part f.type xs f.offset).run P w = .ok a w) (hb : (part f.type ys f.offset).run P w = .ok b w) (he : (Op.equalIn d f.type a b).run P w = .ok r w) :
    (Op.eqFields d xs ys (f :: fs)).run P w = if r then (Op.eqFields d xs ys fs).run P w else .ok false w := by
  simp only [Op.eqFields, if_pos hn, Sem.run_bind, ha, hb, he, Result.andThen_ok]
  cases r <;> simp
theorem if_ok (r s : Bool) (w : World) : (if r then (Result.ok s w : Result Bool) else .ok false w) = .ok (r && s) w := by cases r <;> rfl
set_option maxHeartbeats 2000000 in
theorem eq_frames (f g : Fr) (hf : f.tag.length = 32) (hg : g.tag.length = 32) (w : World) : (Op.equalIn 10000 26 (.agg (frA f)) (.agg (frA g))).run Try.prog w = .ok (eqFr f g) w := by
  rw [run_equalIn_struct w 9999 26 _ _ (by kernel_rfl) (by kernel_rfl)]
  unfold Program.fieldsOf
  rw [Try.underlying26]
  have p := hasF f
  have q := hasF g
  have i3 := Try.underlying3
  have i22 := Try.underlying22
  have eT : ∀ w, (Op.equalIn 9999 24 (.agg (idv f.tag)) (.agg (idv g.tag))).run Try.prog w = .ok (f.tag == g.tag) w := fun w =>
    run_equalIn_ints w 9997 24 5 32 .u8 Try.underlying24 Try.underlying5 (size_of (by kernel_rfl)) f.tag g.tag hf hg
  dsimp only
  obtain ⟨X, hX⟩ : ∃ X, X = frA f := ⟨_, rfl⟩
  obtain ⟨Y, hY⟩ : ∃ Y, Y = frA g := ⟨_, rfl⟩
  have tf := part_tag f hf w
  have tg := part_tag g hg w
  rw [← hX] at p tf ⊢
  rw [← hY] at q tg ⊢
  rw [fields_step (by decide) (part_one _ _ _ _ _ i3 p.d0 w) (part_one _ _ _ _ _ i3 q.d0 w) (run_equalIn_int w 9998 _ _ _ _ _ i3),
    fields_step (by decide) (part_one _ _ _ _ _ i3 p.d1 w) (part_one _ _ _ _ _ i3 q.d1 w) (run_equalIn_int w 9998 _ _ _ _ _ i3),
    fields_step (by decide) (part_one _ _ _ _ _ i22 p.d2 w) (part_one _ _ _ _ _ i22 q.d2 w) (run_equalIn_int w 9998 _ _ _ _ _ i22),
    fields_step (by decide) (part_one _ _ _ _ _ i22 p.d3 w) (part_one _ _ _ _ _ i22 q.d3 w) (run_equalIn_int w 9998 _ _ _ _ _ i22),
    fields_step (by decide) (part_one _ _ _ _ _ i3 p.d4 w) (part_one _ _ _ _ _ i3 q.d4 w) (run_equalIn_int w 9998 _ _ _ _ _ i3),
    fields_step (by decide) (part_one _ _ _ _ _ i22 p.d5 w) (part_one _ _ _ _ _ i22 q.d5 w) (run_equalIn_int w 9998 _ _ _ _ _ i22),
    fields_step (by decide) (part_one _ _ _ _ _ i3 p.d6 w) (part_one _ _ _ _ _ i3 q.d6 w) (run_equalIn_int w 9998 _ _ _ _ _ i3),
    fields_step (by decide) (part_one _ _ _ _ _ i3 p.d7 w) (part_one _ _ _ _ _ i3 q.d7 w) (run_equalIn_int w 9998 _ _ _ _ _ i3),
    fields_step (by decide) tf tg (eT w)]
  simp only [Op.eqFields, Sem.run_pure, if_ok, Bool.and_true]
  rfl
end Go.Proofs.Ytncedbjbooemjaa

/- The walk over the laws' awake (the chapter's examples). -/
namespace Go.Proofs.Ytncedbjbooemjaa
set_option linter.unusedVariables false
set_option linter.unusedSimpArgs false
open Go.RowKit

def fHello : Fr := ⟨0, 3, 0, 9, 0, 0, 0, 0, noTag⟩
def fNo : Fr := ⟨6, 0, 0, 0, 0, 0, 5, 0, noTag⟩
theorem hello_ok : fHello.ok := ⟨by decide, by decide, by decide, by decide, by decide, by decide, by decide, by decide, rfl, ok_rep 32⟩
theorem no_ok : fNo.ok := ⟨by decide, by decide, by decide, by decide, by decide, by decide, by decide, by decide, rfl, ok_rep 32⟩
theorem hello_put : putF fHello = [0, 10, 0, 3, 0, 0, 0, 0, 0, 0, 0, 9] := by decide
theorem no_put : putF fNo = [0, 2, 6, 5] := by decide
theorem hello_plain : plainB fHello = true := by decide
theorem no_plain : plainB fNo = true := by decide
theorem hello_cnt : cnt ([0, 10, 0, 3, 0, 0, 0, 0, 0, 0, 0, 9] ++ [0]) = 1 := by decide
theorem hello_rest : restL ([0, 10, 0, 3, 0, 0, 0, 0, 0, 0, 0, 9] ++ [0]) = [0] := by decide
theorem built_hello : Try.prog.built 26 [(1, .int .i64 3), (3, .int .u64 9)] = some (frA fHello) :=
  built_of (z := .agg (frA Fr.zero)) (places := [(0, 1), (1, 1), (2, 1), (3, 1), (4, 1), (5, 1), (6, 1), (7, 1), (8, 32)]) Try.underlying26 (by kernel_rfl) (by kernel_rfl) (by kernel_rfl)
theorem built_no : Try.prog.built 26 [(0, .int .i64 6), (6, .int .i64 5)] = some (frA fNo) :=
  built_of (z := .agg (frA Fr.zero)) (places := [(0, 1), (1, 1), (2, 1), (3, 1), (4, 1), (5, 1), (6, 1), (7, 1), (8, 32)]) Try.underlying26 (by kernel_rfl) (by kernel_rfl) (by kernel_rfl)
theorem framesL_length (l : List Int) : (framesL l).length = cnt l := by simp [framesL, framesTo]

set_option maxRecDepth 100000 in
set_option maxHeartbeats 2000000 in
theorem fawake_any (w : World) :
    Calls Try.prog 9 #[] w fun e w' => e = .returned (.bool true) ∧ Below w.heap.size w w' := by
  obtain ⟨l0, hl0⟩ : ∃ l0 : List Int, [0, 10, 0, 3, 0, 0, 0, 0, 0, 0, 0, 9] = l0 := ⟨_, rfl⟩
  obtain ⟨l1, hl1⟩ : ∃ l1 : List Int, [0, 2, 6, 5] = l1 := ⟨_, rfl⟩
  have hp0 := hello_put
  have hp1 := no_put
  have hcn := hello_cnt
  have hrs := hello_rest
  rw [hl0] at hp0 hcn hrs
  rw [hl1] at hp1
  have hlen0 : l0.length = 12 := by rw [← hl0]; rfl
  have hg1 : l0.getD 1 0 = 10 := by rw [← hl0]; rfl
  have hg3 : l0.getD 3 0 = 3 := by rw [← hl0]; rfl
  have hg11 : l0.getD 11 0 = 9 := by rw [← hl0]; rfl
  have hok0 : ∀ j, 0 ≤ l0.getD j 0 ∧ l0.getD j 0 < 256 := by rw [← hl0]; exact ok_all (by decide)
  have hb1 : bstr l1 = ⟨#[0, 2, 6, 5]⟩ := by rw [← hl1]; rfl
  have hpa := fun w => put_plain_b fHello w hello_ok true hello_plain
  have hpb := fun w => put_plain_b fNo w no_ok true no_plain
  rw [if_pos rfl, hp0] at hpa
  rw [if_pos rfl, hp1] at hpb
  have hra := (put_read hello_ok hello_plain)
  rw [hp0] at hra
  have hbl0 := built_hello
  have hbl1 := built_no
  have hu : (frA fHello)[1]? = some (.int .i64 3) := rfl
  have hCs : (frA fHello).size = 40 := rfl
  have hC1 := frA_one fHello
  unfold frV at hpa hpb
  have hrd : ∀ (A : Option Addr) (n c : Nat) (w : World), Bts w A n c l0 → Calls Try.prog 12 #[.slice A n c] w fun e w' => e = .returned (.tuple #[.agg (frA fHello), .int .i64 0]) ∧ Below w.heap.size w w' := fun A n c w hb => by
    refine (read_any A n c l0 w hb).mono fun e w' ⟨he, hB⟩ => ⟨?_, hB⟩
    rw [he, hra.1, hra.2]
    rfl
  obtain ⟨C, hC⟩ : ∃ C, frA fHello = C := ⟨_, rfl⟩
  obtain ⟨D, hD⟩ : ∃ D, frA fNo = D := ⟨_, rfl⟩
  rw [hC] at hpa hbl0 hu hCs hC1 hrd
  rw [hD] at hpb hbl1
  have HCN := Lib.hid hcn
  have HRS := Lib.hid hrs
  have HL0 := Lib.hid hlen0
  have HG1 := Lib.hid hg1
  have HG3 := Lib.hid hg3
  have HG11 := Lib.hid hg11
  have HOK := Lib.hid hok0
  have HB1 := Lib.hid hb1
  have HPA := Lib.hid hpa
  have HPB := Lib.hid hpb
  have HRD := Lib.hid hrd
  have HBL0 := Lib.hid hbl0
  have HBL1 := Lib.hid hbl1
  have HU := Lib.hid hu
  have HCS := Lib.hid hCs
  have HC1 := Lib.hid hC1
  clear hcn hrs hlen0 hg1 hg3 hg11 hok0 hb1 hpa hpb hrd hbl0 hbl1 hu hCs hC1 hC hD hl0 hl1 hp0 hp1 hra
  go_enter Try.func9, Try.ntmps9
  go_wp2_with (first
    | ((with_reducible refine wpList_build_to rfl 26 _ rfl _ C ?hb1 HBL0.out ?_); (case hb1 => rfl))
    | ((with_reducible refine wpList_build_to rfl 26 _ rfl _ D ?hb2 HBL1.out ?_); (case hb2 => rfl))
    | (go_at_call 10; (with_reducible refine (HPA.out _).mono ?_); rintro e w1 ⟨A1, m1, c1, rfl, hv1, hb1⟩
       obtain rfl : m1 = 12 := by rw [← hv1.len]; exact HL0.out)
    | (go_at_call 12; (with_reducible refine (HRD.out A1 12 c1 w1 hv1).mono ?_); rintro e w2 ⟨rfl, hb2⟩
       have hB2 := hb1.trans (hb2.mono hb1.size))
    | ((refine wpList_store_blk rfl 26 _ _ rfl w2.heap.size C ?hx3 ?hy3 26 _ (heap_alloc_new w2 _) (info_frame HCS.out) ?hs3 HC1.out ?_); (case hx3 => rfl); (case hy3 => rfl); (case hs3 => rw [HCS.out]; rfl)
       intro w3 hg3 hX3 hs3
       have hB3 : Below w.heap.size w w3 := (hB2.alloc hB2.size _).grown hg3 (Nat.le_trans hB2.size (size_le_alloc _ _)) (fun k e => by cases e; exact hB2.size)
       have hb23 : Below w2.heap.size w2 w3 := (one_alloc w2 _).grown hg3 (size_le_alloc _ _) (fun k e => by cases e; exact Nat.le_refl _)
       have hv3 := (hv1.below hb2).below hb23
       clear hg3 hs3)
    | (go_at_call 10; (with_reducible refine (HPB.out _).mono ?_); rintro e w4 ⟨A4, m4, c4, rfl, hv4, hb4⟩
       have hB4 := hB3.trans (hb4.mono hB3.size)
       have hv14 := hv3.below hb4
       have hX4 := (hb4.block _ (Array.getElem?_eq_some_iff.1 hX3).1).trans hX3)
    | (at_builtin
       refine wpList_append_b rfl _ _ rfl w4.heap.size (.slice none 0 0) [] rfl (Own.nil _ _) A1 12 c1 l0 rfl hv14 (by simp) (Nat.le_refl _) ?_
       intro v5 w5 hown5 hg5
       rw [List.nil_append] at hown5
       have hb5 : Below w4.heap.size w4 w5 := (Below.refl _ _).grown hg5 (Nat.le_refl _) (fun k hk => by cases hk))
    | (at_builtin
       refine wpList_append_b rfl _ _ rfl w4.heap.size v5 l0 rfl (hown5.more _) _ 1 1 [0] rfl (one_bts w5 0 (by omega) (by omega)) (by have := HL0.out; omega) (Nat.le_trans hb5.size (size_le_alloc _ _)) ?_
       intro v6 w6 hown6 hg6
       have hb6 : Below w4.heap.size w4 w6 := (hb5.alloc hb5.size _).grown hg6 (Nat.le_trans hb5.size (size_le_alloc _ _)) (fun k hk => (hown5.size k hk).1)
       obtain ⟨A6, m6, c6, rfl, hbt6⟩ := hown6.slice (ok_append HOK.out (ok_one1 0 (by omega) (by omega)))
       have hm6 : m6 ≤ 1000000 := by rw [← hbt6.len, List.length_append, HL0.out]; simp)
    | (go_at_call 14; (with_reducible refine (split_any A6 m6 c6 (l0 ++ [0]) w6 hbt6 hm6).mono ?_); rintro e w7 ⟨v7, u7, sl7, rfl, hown7, hpt7, hu7, hb7⟩
       have hb47 : Below w4.heap.size w4 w7 := hb6.trans (hb7.mono hb6.size)
       rw [HRS.out] at hu7
       obtain ⟨A7, n7, c7, rfl, hrw7⟩ := hown7.rws
       obtain rfl : n7 = 1 := by rw [← hrw7.len, List.length_map, hpt7.len, framesL_length, HCN.out]
       obtain ⟨A8, n8, c8, rfl, hbt8⟩ := hu7.slice (ok_one1 0 (by omega) (by omega))
       obtain rfl : n8 = 1 := by rw [← hbt8.len]; rfl
       have hv17 := hv14.below hb47
       obtain ⟨bb, off, rfl, hcs⟩ := hv17.at_ (by omega)
       have q1 := hcs 1 (by omega)
       have q3 := hcs 3 (by omega)
       have q11 := hcs 11 (by omega)
       rw [HG1.out] at q1
       rw [HG3.out] at q3
       rw [HG11.out] at q11
       have hX7 := (hb47.block _ (Array.getElem?_eq_some_iff.1 hX4).1).trans hX4
       have qu : w7.cell? ⟨w2.heap.size, 1, none⟩ = some (.int .i64 3) := (cell_of_row _ _ _ _ _ _ hX7).trans HU.out
       have qc := conv_bts (hv4.below hb47)
       rw [HB1.out] at qc
       have hB7 := hB4.trans (hb47.mono hB4.size)
       clear hcs hX7 hX4 hX3 hv17 hv14 hv3 hv1 hv4 hbt8 hrw7 hpt7 hu7 hown7 hown6 hown5 hg5 hg6))
  go_ret
  exact ⟨rfl, hB7⟩
end Go.Proofs.Ytncedbjbooemjaa

/- The walk over the law FrameLong: each kind has its own length; frames of two kinds have other bytes. -/
namespace Go.Proofs.Ytncedbjbooemjaa
set_option linter.unusedVariables false
set_option linter.unusedSimpArgs false
open Go.RowKit

def lens : List Nat := [12, 15, 43, 43, 54, 54, 4]
theorem len_kind {f : Fr} (hok : f.ok) (h : plainB f = true) : ∃ K : Nat, f.kind = (K : Int) ∧ K < 7 ∧ (putF f).length = lens.getD K 0 := by
  rw [putF_length hok.len]
  rcases kind_cases (plain_facts h).1 with hk | hk | hk | hk | hk | hk | hk <;> rw [hk]
  · exact ⟨0, rfl, by omega, rfl⟩
  · exact ⟨1, rfl, by omega, rfl⟩
  · exact ⟨2, rfl, by omega, rfl⟩
  · exact ⟨3, rfl, by omega, rfl⟩
  · exact ⟨4, rfl, by omega, rfl⟩
  · exact ⟨5, rfl, by omega, rfl⟩
  · exact ⟨6, rfl, by omega, rfl⟩
theorem lens_at (w : World) (K L : Nat) (hK : K < 7) (h : lens.getD K 0 = L) :
    (w.alloc (.cells #[.int .i64 12, .int .i64 15, .int .i64 43, .int .i64 43, .int .i64 54, .int .i64 54, .int .i64 4] 3)).cell? ⟨w.heap.size, K, none⟩ = some (.int .i64 (L : Int)) := by
  subst h
  rw [cell_of_row _ _ _ _ _ _ (heap_alloc_new w _)]
  have : K = 0 ∨ K = 1 ∨ K = 2 ∨ K = 3 ∨ K = 4 ∨ K = 5 ∨ K = 6 := by omega
  rcases this with rfl | rfl | rfl | rfl | rfl | rfl | rfl <;> rfl
theorem run_eq_fr {op : BinOp} {ρ : Operand → Value} {o : Oper} {x y : Operand} {xs ys : Array Value} {E r : Bool} {w : World} (ho : o.op = .binOp op 26 x y 26) (hx : ρ x = .agg xs) (hy : ρ y = .agg ys) (hr : op = .eql ∧ r = E ∨ op = .neq ∧ r = !E)
    (h : (Op.equalIn 10000 26 (.agg xs) (.agg ys)).run Try.prog w = .ok E w) : (execOp ρ o).run Try.prog w = .ok (.value (.bool r)) w := by
  unfold execOp
  rw [ho]
  have hm : Try.prog.eqGuardType Try.prog.depth 26 = false := by kernel_rfl
  rcases hr with ⟨rfl, rfl⟩ | ⟨rfl, rfl⟩
  · simp only [hx, hy, Sem.run_bind, run_eqGuard_agg (hm := hm), run_eql_struct, h, Result.andThen_ok, Sem.run_pure, Sem.run_map]
  · simp only [hx, hy, Sem.run_bind, run_eqGuard_agg (hm := hm), run_neq_struct, h, Result.andThen_ok, Sem.run_pure, Sem.run_map]
theorem frA_arr (f : Fr) : frA f = (frC f).toArray := rfl
theorem info_row {C : List Value} (h : C.length = 40) : (Try.prog.info? 26).map (·.size) = some C.length := by rw [h]; kernel_rfl

set_option maxRecDepth 100000 in
set_option maxHeartbeats 2000000 in
theorem flong_no (f g : Fr) (w : World) (hf : f.ok) (hg : g.ok) (hp : plainB f = false) :
    Calls Try.prog 8 #[frV f, frV g] w fun e w' => e = .returned (.bool true) ∧ Below w.heap.size w w' := by
  have hpc := fun w => put_plain_b f w hf false hp
  obtain ⟨Y, hY⟩ : ∃ Y, (if plainB g then putF g else []) = Y := ⟨_, rfl⟩
  obtain ⟨q, hq⟩ : ∃ q, plainB g = q := ⟨_, rfl⟩
  have hqc := fun w => put_plain_b g w hg (plainB g) rfl
  rw [hY, hq] at hqc
  have hCs := frA_size hf.len
  have hDs := frA_size hg.len
  unfold frV at hpc hqc ⊢
  obtain ⟨C, hC⟩ : ∃ C, frA f = C := ⟨_, rfl⟩
  obtain ⟨D, hD⟩ : ∃ D, frA g = D := ⟨_, rfl⟩
  rw [hC] at hpc hCs ⊢
  rw [hD] at hqc hDs ⊢
  have HP := Lib.hid hpc
  have HQ := Lib.hid hqc
  have HCS := Lib.hid hCs
  have HDS := Lib.hid hDs
  clear hpc hqc hCs hDs hC hD hY hq
  go_enter Try.func8, Try.ntmps8
  go_wp2_with (first
    | (go_at_call 9; (with_reducible refine (fawake_any _).mono ?_); rintro e w1 ⟨rfl, hb1⟩
       obtain ⟨hB1, _, hX1, hZ1⟩ := after_two hb1)
    | ((with_reducible refine wpList_load_blk 26 _ rfl w.heap.size ?hx2 26 C (0, 0) _ hX1 Try.underlying26 ?hd2 (info_frame HCS.out) ?_ ?hw2); (case hx2 => rfl); (case hd2 => rfl); (case hw2 => rfl))
    | (go_at_call 10; (with_reducible refine (HP.out _).mono ?_); rintro e w2 ⟨A2, m2, c2, rfl, hv2, hb2⟩
       have hB2 := hB1.trans (hb2.mono hB1.size)
       have hZ2 := (hb2.block _ (Array.getElem?_eq_some_iff.1 hZ1).1).trans hZ1)
    | ((with_reducible refine wpList_load_blk 26 _ rfl (w.heap.size + 1) ?hx3 26 D (0, 0) _ hZ2 Try.underlying26 ?hd3 (info_frame HDS.out) ?_ ?hw3); (case hx3 => rfl); (case hd3 => rfl); (case hw3 => rfl))
    | (go_at_call 10; (with_reducible refine (HQ.out _).mono ?_); rintro e w3 ⟨A3, m3, c3, rfl, hv3, hb3⟩
       have hB3 := hB2.trans (hb3.mono hB2.size)))
  go_ret
  exact ⟨rfl, hB3⟩

set_option maxRecDepth 100000 in
set_option maxHeartbeats 2000000 in
theorem flong_yes (f g : Fr) (w : World) (hf : f.ok) (hg : g.ok) (hp : plainB f = true) (q : Bool) (hq : plainB g = q) :
    Calls Try.prog 8 #[frV f, frV g] w fun e w' => e = .returned (.bool true) ∧ Below w.heap.size w w' := by
  obtain ⟨K, hk, hK7, hlen⟩ := len_kind hf hp
  have hpc := fun w => put_plain_b f w hf true hp
  rw [if_pos rfl] at hpc
  have hqc := fun w => put_plain_b g w hg q hq
  have hok1 := putF_ok hf
  obtain ⟨X, hX⟩ : ∃ X, putF f = X := ⟨_, rfl⟩
  obtain ⟨Y, hY⟩ : ∃ Y, (if q then putF g else []) = Y := ⟨_, rfl⟩
  rw [hX] at hpc hlen hok1
  rw [hY] at hqc
  have hok2 : ∀ j, 0 ≤ Y.getD j 0 ∧ Y.getD j 0 < 256 := by
    rw [← hY]
    cases q
    · exact ok_nil
    · exact putF_ok hg
  have hEq : q = true → ((X == Y) = eqFr f g) := by
    intro h
    subst h
    rw [if_pos rfl] at hY
    rw [Bool.eq_iff_iff, beq_iff_eq, eqFr_iff, ← hX, ← hY]
    exact ⟨fun e => put_inj hf hg hp hq e, fun e => by rw [e]⟩
  have hfe := fun w => eq_frames f g hf.len hg.len w
  have hCs := frC_length hf.len
  have hDs := frC_length hg.len
  have hC0 : (frC f)[0]? = some (.int .i64 (K : Int)) := by rw [← hk]; rfl
  have hK6 : (K : Int) ≤ 6 := by omega
  unfold frV at hpc hqc ⊢
  rw [frA_arr, frA_arr] at hfe
  rw [frA_arr] at hpc hqc ⊢
  rw [frA_arr]
  obtain ⟨C, hC⟩ : ∃ C, frC f = C := ⟨_, rfl⟩
  obtain ⟨D, hD⟩ : ∃ D, frC g = D := ⟨_, rfl⟩
  rw [hC] at hpc hCs hC0 hfe ⊢
  rw [hD] at hqc hDs hfe ⊢
  obtain ⟨E, hE⟩ : ∃ E, eqFr f g = E := ⟨_, rfl⟩
  obtain ⟨L, hL⟩ : ∃ L, lens.getD K 0 = L := ⟨_, rfl⟩
  rw [hL] at hlen
  have HL := Lib.hid hL
  rw [hE] at hfe hEq
  have HP := Lib.hid hpc
  have HQ := Lib.hid hqc
  have HCS := Lib.hid hCs
  have HDS := Lib.hid hDs
  have HC0 := Lib.hid hC0
  have HCA : Hid (C.toArray.size = 40) := Lib.hid hCs
  have HDA : Hid (D.toArray.size = 40) := Lib.hid hDs
  have HLEN := Lib.hid hlen
  have HOK1 := Lib.hid hok1
  have HOK2 := Lib.hid hok2
  have HEQ := Lib.hid hEq
  have HFE := Lib.hid hfe
  clear hpc hqc hCs hDs hC hD hX hY hC0 hlen hok1 hok2 hEq hfe hE hq hp hk hL
  go_enter Try.func8, Try.ntmps8
  go_wp2_with (first
    | (go_at_call 9; (with_reducible refine (fawake_any _).mono ?_); rintro e w1 ⟨rfl, hb1⟩
       obtain ⟨hB1, _, hX1, hZ1⟩ := after_two hb1)
    | ((with_reducible refine wpList_load_blk 26 _ rfl w.heap.size ?hx2 26 C.toArray (0, 0) _ hX1 Try.underlying26 ?hd2 (info_frame HCA.out) ?_ ?hw2); (case hx2 => rfl); (case hd2 => rfl); (case hw2 => rfl))
    | (go_at_call 10; (with_reducible refine (HP.out _).mono ?_); rintro e w2 ⟨A2, m2, c2, rfl, hv2, hb2⟩
       have hB2 := hB1.trans (hb2.mono hB1.size)
       have hX2 := (hb2.block _ (Array.getElem?_eq_some_iff.1 hX1).1).trans hX1
       have hZ2 := (hb2.block _ (Array.getElem?_eq_some_iff.1 hZ1).1).trans hZ1)
    | ((with_reducible refine wpList_load_blk 26 _ rfl (w.heap.size + 1) ?hx3 26 D.toArray (0, 0) _ hZ2 Try.underlying26 ?hd3 (info_frame HDA.out) ?_ ?hw3); (case hx3 => rfl); (case hd3 => rfl); (case hw3 => rfl))
    | (go_at_call 10; (with_reducible refine (HQ.out _).mono ?_); rintro e w3 ⟨A3, m3, c3, rfl, hv3, hb3⟩
       have hB3 := hB2.trans (hb3.mono hB2.size)
       have hX3 := (hb3.block _ (Array.getElem?_eq_some_iff.1 hX2).1).trans hX2
       have hZ3 := (hb3.block _ (Array.getElem?_eq_some_iff.1 hZ2).1).trans hZ2
       have hv23 := hv2.below hb3
       have q0 : ∀ o : Obj, (w3.alloc o).cell? ⟨w.heap.size, 0, none⟩ = some (.int .i64 (K : Int)) := fun o => (cell_of_row _ _ _ _ _ _ (two_rows_in hX3 o)).trans (by rw [List.getElem?_toArray]; exact HC0.out)
       have qk := lens_at w3 K L hK7 HL.out
       obtain rfl : m2 = L := by rw [← hv2.len, HLEN.out]))
  have hBo := hB3.trans ((mac_alloc w3 (.cells #[.int .i64 12, .int .i64 15, .int .i64 43, .int .i64 43, .int .i64 54, .int .i64 54, .int .i64 4] 3)).mono hB3.size)
  have hX4 := two_rows_in hX3 (.cells #[.int .i64 12, .int .i64 15, .int .i64 43, .int .i64 43, .int .i64 54, .int .i64 54, .int .i64 4] 3)
  have hZ4 := two_rows_in hZ3 (.cells #[.int .i64 12, .int .i64 15, .int .i64 43, .int .i64 43, .int .i64 54, .int .i64 54, .int .i64 4] 3)
  have hv4 := hv23.more (.cells #[.int .i64 12, .int .i64 15, .int .i64 43, .int .i64 43, .int .i64 54, .int .i64 54, .int .i64 4] 3)
  have hu4 := hv3.more (.cells #[.int .i64 12, .int .i64 15, .int .i64 43, .int .i64 43, .int .i64 54, .int .i64 54, .int .i64 4] 3)
  obtain ⟨W, hW⟩ : ∃ W, W = w3.alloc (.cells #[.int .i64 12, .int .i64 15, .int .i64 43, .int .i64 43, .int .i64 54, .int .i64 54, .int .i64 4] 3) := ⟨_, rfl⟩
  rw [← hW] at hBo hX4 hZ4 hv4 hu4 ⊢
  have HX4 := Lib.hid hX4
  have HZ4 := Lib.hid hZ4
  have HV4 := Lib.hid hv4
  have HU4 := Lib.hid hu4
  clear hW q0 qk hX4 hZ4 hv4 hu4 hX1 hX2 hX3 hZ1 hZ2 hZ3 hv23 hv2 hv3 hb1 hb2 hb3 hB1 hB2 hB3
  have hb : ∀ w', Below W.heap.size W w' → w'.heap[w.heap.size]? = some (.cells C.toArray 26 (0, 0)) := fun w' h => (h.block _ (Array.getElem?_eq_some_iff.1 HX4.out).1).trans HX4.out
  have hd : ∀ w', Below W.heap.size W w' → w'.heap[w.heap.size + 1]? = some (.cells D.toArray 26 (0, 0)) := fun w' h => (h.block _ (Array.getElem?_eq_some_iff.1 HZ4.out).1).trans HZ4.out
  refine wp_region_held_drew (S := (fun w' => Below W.heap.size W w')) (by kernel_rfl) (Below.refl _ _).drew (fun hHeld => ?_)
  refine take_move 0 (.tmp 9) (.bool q) rfl rfl rfl (by kernel_rfl) (by kernel_rfl) (by kernel_rfl) (fun _ _ _ h => h) rfl hHeld ?_
  simp only [Act.put, List.setIfInBounds_toArray, List.set_cons_zero, List.set_cons_succ]
  refine take_run 1 (.bool (!q)) rfl (by kernel_rfl) (by kernel_rfl) (by kernel_rfl) (fun _ _ _ h => h) rfl hHeld (fun w => ?_) ?_
  · go_simp
  simp only [Act.put, List.setIfInBounds_toArray, List.set_cons_zero, List.set_cons_succ]
  refine take_move 2 (.tmp 49) (.bool (!q)) rfl rfl rfl (by kernel_rfl) (by kernel_rfl) (by kernel_rfl) (fun _ _ _ h => h) rfl hHeld ?_
  simp only [Act.put, List.setIfInBounds_toArray, List.set_cons_zero, List.set_cons_succ]
  cases q with
  | false =>
    refine take_off 3 rfl (by kernel_rfl) (by kernel_rfl) (by kernel_rfl) (fun _ _ _ h => h) rfl hHeld ?_
    simp only [Act.put, List.setIfInBounds_toArray, List.set_cons_zero, List.set_cons_succ]
    refine take_off 4 rfl (by kernel_rfl) (by kernel_rfl) (by kernel_rfl) (fun _ _ _ h => h) rfl hHeld ?_
    simp only [Act.put, List.setIfInBounds_toArray, List.set_cons_zero, List.set_cons_succ]
    refine take_off 5 rfl (by kernel_rfl) (by kernel_rfl) (by kernel_rfl) (fun _ _ _ h => h) rfl hHeld ?_
    simp only [Act.put, List.setIfInBounds_toArray, List.set_cons_zero, List.set_cons_succ]
    refine take_off 6 rfl (by kernel_rfl) (by kernel_rfl) (by kernel_rfl) (fun _ _ _ h => h) rfl hHeld ?_
    simp only [Act.put, List.setIfInBounds_toArray, List.set_cons_zero, List.set_cons_succ]
    refine take_off 7 rfl (by kernel_rfl) (by kernel_rfl) (by kernel_rfl) (fun _ _ _ h => h) rfl hHeld ?_
    simp only [Act.put, List.setIfInBounds_toArray, List.set_cons_zero, List.set_cons_succ]
    refine take_off 8 rfl (by kernel_rfl) (by kernel_rfl) (by kernel_rfl) (fun _ _ _ h => h) rfl hHeld ?_
    simp only [Act.put, List.setIfInBounds_toArray, List.set_cons_zero, List.set_cons_succ]
    refine take_off 9 rfl (by kernel_rfl) (by kernel_rfl) (by kernel_rfl) (fun _ _ _ h => h) rfl hHeld ?_
    simp only [Act.put, List.setIfInBounds_toArray, List.set_cons_zero, List.set_cons_succ]
    refine take_off 10 rfl (by kernel_rfl) (by kernel_rfl) (by kernel_rfl) (fun _ _ _ h => h) rfl hHeld ?_
    simp only [Act.put, List.setIfInBounds_toArray, List.set_cons_zero, List.set_cons_succ]
    refine take_off 11 rfl (by kernel_rfl) (by kernel_rfl) (by kernel_rfl) (fun _ _ _ h => h) rfl hHeld ?_
    simp only [Act.put, List.setIfInBounds_toArray, List.set_cons_zero, List.set_cons_succ]
    refine take_run 12 (.bool true) rfl (by kernel_rfl) (by kernel_rfl) (by kernel_rfl) (fun _ _ _ h => h) rfl hHeld (fun w => ?_) ?_
    · go_simp
    simp only [Act.put, List.setIfInBounds_toArray, List.set_cons_zero, List.set_cons_succ]
    refine take_run 13 (.bool true) rfl (by kernel_rfl) (by kernel_rfl) (by kernel_rfl) (fun _ _ _ h => h) rfl hHeld (fun w => ?_) ?_
    · go_simp
    simp only [Act.put, List.setIfInBounds_toArray, List.set_cons_zero, List.set_cons_succ]
    refine wpAnyH_done (by kernel_rfl) ?_ _
    go_wp2
    go_ret
    exact ⟨rfl, hBo.drew⟩
  | true =>
    refine take_move 3 (.tmp 6) (.slice A2 m2 c2) rfl rfl rfl (by kernel_rfl) (by kernel_rfl) (by kernel_rfl) (fun _ _ _ h => h) rfl hHeld ?_
    simp only [Act.put, List.setIfInBounds_toArray, List.set_cons_zero, List.set_cons_succ]
    refine take_if 4 (.string (bstr X)) rfl (by kernel_rfl) (by kernel_rfl) (by kernel_rfl) (fun _ _ _ h => h) rfl hHeld (fun w' hw' => ?_) ?_
    · have hc := conv_bts (HV4.out.below hw')
      go_simp
    simp only [Act.put, List.setIfInBounds_toArray, List.set_cons_zero, List.set_cons_succ]
    refine take_move 5 (.tmp 8) (.slice A3 m3 c3) rfl rfl rfl (by kernel_rfl) (by kernel_rfl) (by kernel_rfl) (fun _ _ _ h => h) rfl hHeld ?_
    simp only [Act.put, List.setIfInBounds_toArray, List.set_cons_zero, List.set_cons_succ]
    refine take_if 6 (.string (bstr Y)) rfl (by kernel_rfl) (by kernel_rfl) (by kernel_rfl) (fun _ _ _ h => h) rfl hHeld (fun w' hw' => ?_) ?_
    · have hc := conv_bts (HU4.out.below hw')
      go_simp
    simp only [Act.put, List.setIfInBounds_toArray, List.set_cons_zero, List.set_cons_succ]
    refine take_run 7 (.bool E) rfl (by kernel_rfl) (by kernel_rfl) (by kernel_rfl) (fun _ _ _ h => h) rfl hHeld (fun w => ?_) ?_
    · have hc : ((bstr X).toList == (bstr Y).toList) = E := (run_eq_bstr X Y HOK1.out HOK2.out).trans (HEQ.out rfl)
      go_simp
    simp only [Act.put, List.setIfInBounds_toArray, List.set_cons_zero, List.set_cons_succ]
    refine take_long 8 26 (.tmp 2) w.heap.size C _ rfl rfl rfl (by kernel_rfl) (by kernel_rfl) (by kernel_rfl) (fun _ _ _ h => h) rfl hHeld (fun w' h => range_of_blk (hb w' h)) Try.underlying26 rfl (info_row HCS.out) ?_
    simp only [Act.put, List.setIfInBounds_toArray, List.set_cons_zero, List.set_cons_succ]
    refine take_long 9 26 (.tmp 3) (w.heap.size + 1) D _ rfl rfl rfl (by kernel_rfl) (by kernel_rfl) (by kernel_rfl) (fun _ _ _ h => h) rfl hHeld (fun w' h => range_of_blk (hd w' h)) Try.underlying26 rfl (info_row HDS.out) ?_
    simp only [Act.put, List.setIfInBounds_toArray, List.set_cons_zero, List.set_cons_succ]
    refine take_run 10 (.bool E) rfl (by kernel_rfl) (by kernel_rfl) (by kernel_rfl) (fun _ _ _ h => h) rfl hHeld (fun w => ?_) ?_
    · exact run_eq_fr rfl rfl rfl (.inl ⟨rfl, rfl⟩) (HFE.out w)
    simp only [Act.put, List.setIfInBounds_toArray, List.set_cons_zero, List.set_cons_succ]
    refine take_run 11 (.bool true) rfl (by kernel_rfl) (by kernel_rfl) (by kernel_rfl) (fun _ _ _ h => h) rfl hHeld (fun w => ?_) ?_
    · go_simp
    simp only [Act.put, List.setIfInBounds_toArray, List.set_cons_zero, List.set_cons_succ]
    refine take_run 12 (.bool true) rfl (by kernel_rfl) (by kernel_rfl) (by kernel_rfl) (fun _ _ _ h => h) rfl hHeld (fun w => ?_) ?_
    · go_simp
    simp only [Act.put, List.setIfInBounds_toArray, List.set_cons_zero, List.set_cons_succ]
    refine take_run 13 (.bool true) rfl (by kernel_rfl) (by kernel_rfl) (by kernel_rfl) (fun _ _ _ h => h) rfl hHeld (fun w => ?_) ?_
    · go_simp
    simp only [Act.put, List.setIfInBounds_toArray, List.set_cons_zero, List.set_cons_succ]
    refine wpAnyH_done (by kernel_rfl) ?_ _
    go_wp2
    go_ret
    exact ⟨rfl, hBo.drew⟩
theorem flong_all (f g : Fr) (w : World) (hf : f.ok) (hg : g.ok) :
    Calls Try.prog 8 #[frV f, frV g] w fun e w' => e = .returned (.bool true) ∧ Below w.heap.size w w' := by
  cases hp : plainB f with
  | false => exact flong_no f g w hf hg hp
  | true => exact flong_yes f g w hf hg hp _ rfl
end Go.Proofs.Ytncedbjbooemjaa

/- The walk over the document's answer Rows: are two lists of bytes the same? -/
namespace Go.Proofs.Ytncedbjbooemjaa
set_option linter.unusedVariables false
set_option linter.unusedSimpArgs false
open Go.RowKit

/-- a slice of slices of bytes -/
structure Lst (w : World) (A : Option Addr) (n c : Nat) (sl : List Sl) (L : List (List Int)) : Prop where
  rws : Rws 1 w A n c (sl.map slR)
  len : sl.length = L.length
  bts : ∀ i, i < L.length → Bts w (sl.getD i (none, 0, 0)).1 (sl.getD i (none, 0, 0)).2.1 (sl.getD i (none, 0, 0)).2.2 (L.getD i [])
theorem Lst.below {w w' : World} {A : Option Addr} {n c : Nat} {sl : List Sl} {L : List (List Int)} (h : Lst w A n c sl L) (hb : Below w.heap.size w w') : Lst w' A n c sl L := ⟨h.rws.below hb, h.len, fun i hi => (h.bts i hi).below hb⟩
theorem Lst.size {w : World} {A : Option Addr} {n c : Nat} {sl : List Sl} {L : List (List Int)} (h : Lst w A n c sl L) : L.length = n := by rw [← h.rws.len, List.length_map, h.len]
theorem Lst.at_ {w : World} {A : Option Addr} {n c : Nat} {sl : List Sl} {L : List (List Int)} (h : Lst w A n c sl L) (hn : 0 < n) : ∃ b off, A = some ⟨b, off, none⟩ ∧ ∀ j, j < n → w.cell? ⟨b, off + j, none⟩ = some (slV (sl.getD j (none, 0, 0))) := by
  obtain ⟨b, off, hA, hc⟩ := h.rws.at_ hn
  refine ⟨b, off, hA, fun j hj => ?_⟩
  have h1 := hc j hj 0 (by omega)
  have hjl : j < sl.length := by rw [h.len, h.size]; exact hj
  simpa [List.getD_eq_getElem?_getD, hjl, slR] using h1
theorem rows_differ (a b : List (List Int)) (k : Nat) (h : a.getD k [] ≠ b.getD k []) : (a == b) = false := by
  rw [beq_eq_false_iff_ne]
  rintro rfl
  exact h rfl
theorem rows_same (a b : List (List Int)) (n : Nat) (ha : a.length = n) (hb : b.length = n) (h : ∀ j, j < n → a.getD j [] = b.getD j []) : (a == b) = true := by
  rw [beq_iff_eq]
  refine List.ext_getElem (by omega) fun j h1 h2 => ?_
  have := h j (by omega)
  simpa [List.getD_eq_getElem?_getD, h1, h2] using this

set_option maxHeartbeats 2000000 in
theorem rows_any (A B : Option Addr) (n c m d : Nat) (sa sb : List Sl) (a b : List (List Int)) (w : World) (ha : Lst w A n c sa a) (hb : Lst w B m d sb b) :
    Calls Try.prog 16 #[.slice A n c, .slice B m d] w fun e w' => e = .returned (.bool (a == b)) ∧ ∃ j, w' = w.drewN j := by
  have hna := ha.rws.small
  have hmb := hb.rws.small
  by_cases hnm : n = m
  · subst hnm
    have hne : ((n : Int) != (n : Int)) = false := by simp
    have HAL := Lib.hid ha.size
    have HBL := Lib.hid hb.size
    go_enter Try.func16, Try.ntmps16
    go_wp2
    go_loopw [5] (fun i wr => ∃ k : Nat, k ≤ n ∧ i = .int .i64 k ∧ (∀ j, j < k → a.getD j [] = b.getD j []) ∧ ∃ j, wr = w.drewN j) (fun i _ => n - (intOf i).toNat)
    case atStart => exact ⟨0, by omega, rfl, (fun j hj => by omega), 0, rfl⟩
    case round =>
      obtain ⟨k, hk, rfl, hsame, j, rfl⟩ := hrel
      have HS := Lib.hid hsame
      clear hsame
      by_cases hlt : k < n
      · obtain ⟨ba, oa, rfl, hca⟩ := ha.at_ (by omega)
        obtain ⟨bb, ob, rfl, hcb⟩ := hb.at_ (by omega)
        have hxa := hca k hlt
        have hxb := hcb k hlt
        have hba := ha.bts k (by rw [HAL.out]; exact hlt)
        have hbb := hb.bts k (by rw [HBL.out]; exact hlt)
        obtain ⟨⟨ra1, ra2, ra3⟩, hra⟩ : ∃ r, sa.getD k (none, 0, 0) = r := ⟨_, rfl⟩
        obtain ⟨⟨rb1, rb2, rb3⟩, hrb⟩ : ∃ r, sb.getD k (none, 0, 0) = r := ⟨_, rfl⟩
        obtain ⟨x, hx⟩ : ∃ x, a.getD k [] = x := ⟨_, rfl⟩
        obtain ⟨y, hy⟩ : ∃ y, b.getD k [] = y := ⟨_, rfl⟩
        rw [hra] at hxa hba
        rw [hrb] at hxb hbb
        rw [hx] at hba
        rw [hy] at hbb
        unfold slV at hxa hxb
        have hcx : ∀ q, (convert 27 9 (.slice ra1 ra2 ra3)).run Try.prog (w.drewN q) = .ok (.string (bstr x)) (w.drewN q) := fun q => conv_bts (hba.draw q)
        have hcy : ∀ q, (convert 27 9 (.slice rb1 rb2 rb3)).run Try.prog (w.drewN q) = .ok (.string (bstr y)) (w.drewN q) := fun q => conv_bts (hbb.draw q)
        have heq := run_eq_bstr x y hba.ok hbb.ok
        obtain ⟨s1, hs1⟩ : ∃ s, bstr x = s := ⟨_, rfl⟩
        obtain ⟨s2, hs2⟩ : ∃ s, bstr y = s := ⟨_, rfl⟩
        rw [hs1] at hcx heq
        rw [hs2] at hcy heq
        have hp0 : 0 ≤ (k : Int) := by omega
        have hp1 : (k : Int) < n := by omega
        by_cases hxy : x = y
        · have hne1 : (s1.toList == s2.toList) = true := by rw [heq, hxy]; simp
          have hne2 : (s1.toList != s2.toList) = false := by simp [bne, hne1]
          have hnext : ∀ j, j < k + 1 → a.getD j [] = b.getD j [] := fun j hj => by
            by_cases e : j = k
            · rw [e, hx, hy, hxy]
            · exact HS.out j (by omega)
          have HN := Lib.hid hnext
          clear hx hy hnext hca hcb hs1 hs2 heq hba hbb hra hrb
          go_wp2
          go_quiet (fail)
          go_wp2
          go_roundw
          case rel => exact ⟨k + 1, by omega, by go_num, HN.out, _, rfl⟩
          case measure => simp [intOf]; omega
        · have hne1 : (s1.toList == s2.toList) = false := by rw [heq, beq_eq_false_iff_ne]; exact hxy
          have hne2 : (s1.toList != s2.toList) = true := by simp [bne, hne1]
          have hres : false = (a == b) := (rows_differ a b k (by rw [hx, hy]; exact hxy)).symm
          have HR := Lib.hid hres
          clear hx hy hres hxy hca hcb hs1 hs2 heq hba hbb hra hrb
          go_wp2
          go_quiet (fail)
          go_wp2
          go_ret
          exact ⟨congrArg (fun b => Ending.returned (Value.bool b)) HR.out, _, World.drewN_drewN _ _ _⟩
      · have hkn : k = n := by omega
        subst hkn
        have hge : ¬ ((k : Int) < k) := by omega
        have hres : true = (a == b) := (rows_same a b k HAL.out HBL.out HS.out).symm
        have HR := Lib.hid hres
        clear hres
        go_wp2
        go_ret
        exact ⟨congrArg (fun b => Ending.returned (Value.bool b)) HR.out, _, rfl⟩
  · have hne : ((n : Int) != (m : Int)) = true := by rw [bne_iff_ne]; omega
    have hne2 : ¬ n = m := hnm
    have hres : false = (a == b) := by
      symm
      rw [beq_eq_false_iff_ne]
      rintro rfl
      exact hnm (ha.size.symm.trans hb.size)
    have HR := Lib.hid hres
    clear hres
    go_enter Try.func16, Try.ntmps16
    go_wp2
    go_ret
    exact ⟨congrArg (fun b => Ending.returned (Value.bool b)) HR.out, 0, rfl⟩
end Go.Proofs.Ytncedbjbooemjaa

/- The walk over the document's answer Split: the frames that bytes begin with, and the rest. -/
namespace Go.Proofs.Ytncedbjbooemjaa
set_option linter.unusedVariables false
set_option linter.unusedSimpArgs false
open Go.RowKit

/-- the i-th frame, as a slice of what was copied -/
def pieceS (l : List Int) (A : Option Addr) (n c : Nat) (i : Nat) : Sl := ((leftAt l A n c i).1, told (l.drop (pos l i)), (leftAt l A n c i).2.2)
def piecesS (l : List Int) (A : Option Addr) (n c : Nat) (k : Nat) : List Sl := (List.range k).map (pieceS l A n c)
theorem piecesS_succ (l : List Int) (A : Option Addr) (n c : Nat) (k : Nat) : piecesS l A n c (k + 1) = piecesS l A n c k ++ [pieceS l A n c k] := by simp [piecesS, List.range_succ]
theorem piecesS_length (l : List Int) (A : Option Addr) (n c : Nat) (k : Nat) : (piecesS l A n c k).length = k := by simp [piecesS]
theorem toldZ_yes {l : List Int} (h : wholeB l = true) : toldZ l = (told l : Int) := by unfold toldZ; rw [h]; rfl
theorem toldZ_no {l : List Int} (h : wholeB l = false) : toldZ l = -1 := by unfold toldZ; rw [h]; rfl
theorem pieces_lst {w w' : World} {A : Option Addr} {n c : Nat} {l : List Int} {V : Option Addr} {m d : Nat} (hb : Bts w A n c l) (hB : Below w.heap.size w w') (hr : Rws 1 w' V m d ((piecesS l A n c (cnt l)).map slR)) : Lst w' V m d (piecesS l A n c (cnt l)) (framesL l) := by
  refine ⟨hr, by simp [piecesS, framesL, framesTo], fun i hi => ?_⟩
  have hi' : i < cnt l := by simpa [framesL, framesTo] using hi
  have e1 : (piecesS l A n c (cnt l)).getD i (none, 0, 0) = pieceS l A n c i := by simp [piecesS, List.getD_eq_getElem?_getD, hi']
  have e2 : (framesL l).getD i [] = (l.drop (pos l i)).take (told (l.drop (pos l i))) := by simp [framesL, framesTo, List.getD_eq_getElem?_getD, hi']
  rw [e1, e2]
  have hbk := left_bts hb i (by omega)
  have hwl := whole_len ((whole_at _ l (Nat.le_refl _)).1 i hi')
  exact (run_to hbk (told (l.drop (pos l i)) : Int) rfl (by rw [← hbk.len]; exact hwl.2)).2.below hB

set_option maxRecDepth 100000 in
set_option maxHeartbeats 4000000 in
theorem rsplit_lst (A : Option Addr) (n c : Nat) (l : List Int) (w : World) (hb : Bts w A n c l) (hsm : n ≤ 1000000) :
    Calls Try.prog 15 #[.slice A n c] w fun e w' => ∃ A1 n1 c1 A2 n2 c2 sl, e = .returned (.tuple #[.slice A1 n1 c1, .slice A2 n2 c2]) ∧ Lst w' A1 n1 c1 sl (framesL l) ∧ Bts w' A2 n2 c2 (restL l) ∧ Below w.heap.size w w' := by
  have hlen := hb.len
  have hcl := cnt_le _ l (Nat.le_refl _)
  go_enter Try.func15, Try.ntmps15
  go_wp2_with (first
    | (at_builtin
       refine wpList_append_b rfl _ _ rfl w.heap.size (.slice none 0 0) [] rfl (Own.nil _ _) A n c l rfl hb (by simp; omega) (Nat.le_refl _) ?_
       intro v1 w1 hown1 hg1
       rw [List.nil_append] at hown1
       have hB1 : Below w.heap.size w w1 := (Below.refl _ _).grown hg1 (Nat.le_refl _) (fun g e => by cases e)
       obtain ⟨A0, n0, c0, rfl, hb0⟩ := hown1.slice hb.ok
       clear hg1 hown1))
  obtain rfl : n0 = n := hb0.len.symm.trans hlen
  have HB0 := Lib.hid hb0
  have HB1 := Lib.hid hB1
  have HB := Lib.hid hb
  clear hb0 hB1 hb
  go_loopw [4, 5, 6] (fun v u y wr => ∃ k : Nat, k ≤ cnt l ∧ u = slV (leftAt l A0 n0 c0 k) ∧ OwnR 27 1 wr w1.heap.size v ((piecesS l A0 n0 c0 k).map slR) ∧ Below w1.heap.size w1 wr) (fun _ u _ _ => sliceLen u)
  case atStart => exact ⟨0, Nat.zero_le _, rfl, OwnR.nil _ _ _ _, Below.refl _ _⟩
  case round =>
    obtain ⟨k, hk, rfl, hown, hB⟩ := hrel
    have hbk1 := left_bts HB0.out k hk
    have hbk := hbk1.below hB
    have hwa := whole_at _ l (Nat.le_refl _)
    by_cases hlt : k < cnt l
    · have hwl := whole_len (hwa.1 k hlt)
      have htz := toldZ_yes (hwa.1 k hlt)
      have htl := rtold_any _ _ _ _ wr hbk
      rw [htz] at htl
      have hll := hbk.len
      have hnx : slV (leftAt l A0 n0 c0 (k + 1)) = .slice (if (leftAt l A0 n0 c0 k).2.2 = told (l.drop (pos l k)) then (leftAt l A0 n0 c0 k).1 else (leftAt l A0 n0 c0 k).1.map (·.add (told (l.drop (pos l k))))) ((leftAt l A0 n0 c0 k).2.1 - told (l.drop (pos l k))) ((leftAt l A0 n0 c0 k).2.2 - told (l.drop (pos l k))) := rfl
      have hps : (piecesS l A0 n0 c0 (k + 1)).map slR = (piecesS l A0 n0 c0 k).map slR ++ [[.slice (leftAt l A0 n0 c0 k).1 (told (l.drop (pos l k))) (leftAt l A0 n0 c0 k).2.2]] := by
        rw [piecesS_succ, List.map_append]
        rfl
      have hSl : ((piecesS l A0 n0 c0 k).map slR).length ≤ 1000000 := by rw [List.length_map, piecesS_length]; omega
      have hm0 : (leftAt l A0 n0 c0 k).2.1 ≤ 1000000 := by rw [← hll, List.length_drop]; omega
      obtain ⟨r, hr⟩ : ∃ r, leftAt l A0 n0 c0 k = r := ⟨_, rfl⟩
      obtain ⟨t, ht⟩ : ∃ t, told (l.drop (pos l k)) = t := ⟨_, rfl⟩
      obtain ⟨SL, hSL⟩ : ∃ SL, (piecesS l A0 n0 c0 k).map slR = SL := ⟨_, rfl⟩
      rw [hr] at hbk hll hnx hps hm0 htl ⊢
      rw [ht] at hwl hnx hps htl
      rw [hSL] at hown hps hSl
      obtain ⟨A1, m1, c1⟩ := r
      simp only at hbk hll hnx hps hm0 htl
      have htm : t ≤ m1 := by omega
      have hto := (run_to hbk (t : Int) (hi := t) rfl htm).1
      have hfrom := (run_from_at hbk (t : Int) (lo := t) rfl htm).1
      obtain ⟨X1, hX1⟩ : ∃ X1, (if c1 = t then A1 else A1.map (·.add t)) = X1 := ⟨_, rfl⟩
      rw [hX1] at hfrom hnx
      have ht2 : 2 ≤ t := hwl.1
      have HTL := Lib.hid htl
      have HNX := Lib.hid hnx
      have HPS := Lib.hid hps
      have hlv : slV (A1, m1, c1) = .slice A1 m1 c1 := rfl
      rw [hlv]
      clear htl hnx hps hX1 hSL ht hr hbk hbk1 hwa htz hwl hll hlv
      go_wp2_with (first
        | (go_at_call 29; (with_reducible refine HTL.out.mono ?_); rintro e w2 ⟨rfl, j, rfl⟩)
        | (at_builtin
           refine wpList_append_r rfl 34 27 1 24 _ _ rfl Try.underlying34 (by kernel_rfl) (by omega) w1.heap.size _ SL rfl ((hown.draw _).more _) _ 1 1 [[.slice A1 t c1]] rfl (one_rws 1 27 _ [.slice A1 t c1] rfl (fun u hu => by rw [List.mem_singleton.1 hu]; rfl)) (by omega) (by omega) (Nat.le_trans hB.size (size_le_alloc _ _)) ?_
           intro v5 w5 hown5 hg5
           have hB5 : Below w1.heap.size w1 w5 := ((below_drewN hB j).alloc hB.size _).grown hg5 (Nat.le_trans hB.size (size_le_alloc _ _)) (fun k hk => (hown.size k hk).1)
           rw [← HPS.out] at hown5
           clear hg5))
      go_roundw
      case rel => exact ⟨k + 1, by omega, HNX.out.symm, hown5, hB5⟩
      case measure => simp [sliceLen]; omega
    · have hkn : k = cnt l := by omega
      subst hkn
      have htz := toldZ_no hwa.2.1
      have htl := rtold_any _ _ _ _ wr hbk
      rw [htz] at htl
      obtain ⟨V, m, d, rfl, hrw⟩ := hown.rws
      have hls := pieces_lst HB0.out hB hrw
      have hrs : Bts wr (leftAt l A0 n0 c0 (cnt l)).1 (leftAt l A0 n0 c0 (cnt l)).2.1 (leftAt l A0 n0 c0 (cnt l)).2.2 (restL l) := hbk
      obtain ⟨r, hr⟩ : ∃ r, leftAt l A0 n0 c0 (cnt l) = r := ⟨_, rfl⟩
      rw [hr] at hrs htl ⊢
      obtain ⟨A1, m1, c1⟩ := r
      simp only at hrs htl
      have HTL := Lib.hid htl
      have HLS := Lib.hid hls
      have HRS := Lib.hid hrs
      have HBW := Lib.hid (HB1.out.trans (hB.mono HB1.out.size))
      have hlv : slV (A1, m1, c1) = .slice A1 m1 c1 := rfl
      rw [hlv]
      clear htl hls hrs hr hbk hbk1 hwa htz hown hB hrw hlv hlt hk
      go_wp2_with (first
        | (go_at_call 29; (with_reducible refine HTL.out.mono ?_); rintro e w2 ⟨rfl, j, rfl⟩))
      go_ret2
      exact ⟨V, m, d, A1, m1, c1, _, rfl, ⟨HLS.out.rws.draw _, HLS.out.len, fun i hi => (HLS.out.bts i hi).draw _⟩, HRS.out.draw _, below_drewN HBW.out _⟩
end Go.Proofs.Ytncedbjbooemjaa

/- The walk over the document's answer Read, where the bytes are too many, or not all there. -/
namespace Go.Proofs.Ytncedbjbooemjaa
set_option linter.unusedVariables false
set_option linter.unusedSimpArgs false
open Go.RowKit

set_option maxRecDepth 100000 in
set_option maxHeartbeats 2000000 in
theorem rread_early (A : Option Addr) (n c : Nat) (l : List Int) (w : World) (hb : Bts w A n c l) (h : 64 < n ∨ wholeB l = false) :
    Calls Try.prog 13 #[.slice A n c] w (ReadPost l w) := by
  have hn := hb.small
  have hZs : (frA Fr.zero).size = 40 := rfl
  have hZ1 := frA_one Fr.zero
  have hzb := built_zero
  have hwh := fun w hb => rtold_any A n c l w hb
  have he : errL l = if 64 < n then 2 else 4 := by
    unfold errL
    rw [hb.len]
    split
    · rfl
    · rw [if_pos (h.resolve_left (by omega))]
  have hr : readF l = Fr.zero := readF_no (by rw [he]; split <;> omega)
  obtain ⟨Z, hZ⟩ : ∃ Z, Z = frA Fr.zero := ⟨_, rfl⟩
  have hres : frV (readF l) = .agg Z := by rw [hr, hZ]; rfl
  rw [← hZ] at hZs hZ1 hzb
  have hb' := hb.more (.cells Z 26)
  have hwl : 64 < n ∨ wholeB l = false := h
  obtain ⟨W, hW⟩ : ∃ W, wholeB l = W := ⟨_, rfl⟩
  rw [hW] at hwl h
  have HZ := Lib.hid hZ
  have HZS := Lib.hid hZs
  have HZ1 := Lib.hid hZ1
  have HZB := Lib.hid hzb
  have HRES := Lib.hid hres
  have HE := Lib.hid he
  by_cases h64 : 64 < n
  · have h64' : (64 : Int) < n := by omega
    have hX2 : (w.alloc (.cells (frA Fr.zero) 26)).heap[w.heap.size]? = some (.cells Z 26 (0, 0)) := by rw [hZ]; exact heap_alloc_new w _
    have HX2 := Lib.hid hX2
    rw [if_pos h64] at he
    have HE := Lib.hid he
    clear hZ hZs hZ1 hzb hres hwh hW hr hb hb' h hwl hX2 he
    go_enter Try.func13, Try.ntmps13
    go_wp2_with (first
      | ((with_reducible refine wpList_build_to rfl 26 _ rfl _ Z ?hb3 HZB.out ?_); (case hb3 => rfl))
      | ((refine wpList_store_blk rfl 26 _ _ rfl w.heap.size Z ?hx4 ?hy4 26 Z HX2.out (info_frame HZS.out) rfl HZ1.out ?_); (case hx4 => rfl); (case hy4 => rfl)
         intro w6 hg6 hX6 hs6))
    refine bodyPost_ret (v := .tuple #[.agg Z, .int .i64 2]) ?_ ?_ ?_
    · exact results_blk_tmp Try.results13 _ _ _ w.heap.size 26 _ (0, 0) _ rfl hX6 Try.underlying26 rfl (info_frame HZS.out) _ rfl
    · rfl
    · exact ⟨by rw [HRES.out, HE.out], (one_alloc _ _).grown hg6 (by simp) (fun k e => by cases e; exact Nat.le_refl _)⟩
  · have h64' : (n : Int) ≤ 64 := by omega
    obtain rfl : W = false := h.resolve_left (by omega)
    have hX2 : (w.alloc (.cells (frA Fr.zero) 26)).heap[w.heap.size]? = some (.cells Z 26 (0, 0)) := by rw [hZ]; exact heap_alloc_new w _
    have HX2 := Lib.hid hX2
    rw [if_neg h64] at he
    have HE := Lib.hid he
    have hb' := hb.more (.cells (frA Fr.zero) 26)
    have hwh := rtold_any A n c l _ hb'
    rw [toldZ_no hW] at hwh
    have HWH := Lib.hid hwh
    clear hZ hZs hZ1 hzb hres hwh hW hr hb hb' h hwl hX2 he
    go_enter Try.func13, Try.ntmps13
    go_wp2_with (first
      | (go_at_call 29; refine HWH.out.mono ?_; rintro e w1 ⟨rfl, j, rfl⟩
         have hX3 : ((w.alloc (.cells (frA Fr.zero) 26)).drewN j).heap[w.heap.size]? = some (.cells Z 26 (0, 0)) := HX2.out)
      | ((with_reducible refine wpList_build_to rfl 26 _ rfl _ Z ?hb3 HZB.out ?_); (case hb3 => rfl))
      | ((refine wpList_store_blk rfl 26 _ _ rfl w.heap.size Z ?hx4 ?hy4 26 Z hX3 (info_frame HZS.out) rfl HZ1.out ?_); (case hx4 => rfl); (case hy4 => rfl)
         intro w6 hg6 hX6 hs6))
    refine bodyPost_ret (v := .tuple #[.agg Z, .int .i64 4]) ?_ ?_ ?_
    · exact results_blk_tmp Try.results13 _ _ _ w.heap.size 26 _ (0, 0) _ rfl hX6 Try.underlying26 rfl (info_frame HZS.out) _ rfl
    · rfl
    · exact ⟨by rw [HRES.out, HE.out], (below_drewN (one_alloc _ _) j).grown hg6 (by simp) (fun k e => by cases e; exact Nat.le_refl _)⟩
end Go.Proofs.Ytncedbjbooemjaa

/- The walk over the document's answer Read, where the bytes have no frame's form. -/
namespace Go.Proofs.Ytncedbjbooemjaa
set_option linter.unusedVariables false
set_option linter.unusedSimpArgs false
open Go.RowKit

theorem err_three {l : List Int} (h64 : l.length ≤ 64) (hw : wholeB l = true) (h : errL l ≠ 0) : errL l = 3 := by
  unfold errL at h ⊢
  rw [if_neg (by omega), if_neg (by rw [hw]; simp)] at h ⊢
  cases hg : goodB l with
  | true => rw [hg] at h; exact absurd rfl h
  | false => rfl
theorem kind_two {l : List Int} (hl : ∀ j, 0 ≤ l.getD j 0 ∧ l.getD j 0 < 256) (h : 3 ≤ l.length) : (kindL l : Int) = l.getD 2 0 := by
  have h2 := (hl 2).1
  match l, h with
  | a :: b :: c :: r, _ =>
    simp [kindL, numL, numOf] at h2 ⊢
    omega
/-- why bytes have no frame's form -/
theorem form_three {l : List Int} (hl : ∀ j, 0 ≤ l.getD j 0 ∧ l.getD j 0 < 256) (h64 : l.length ≤ 64) (hw : wholeB l = true) (h : told l < 3 ∨ told l ≠ l.length ∨ 7 ≤ l.getD 2 0) : errL l = 3 := by
  refine err_three h64 hw fun h0 => ?_
  obtain ⟨hok, hp, hput⟩ := read_put hl h0
  have ht := put_told (f := readF l) hok.len
  have hf := put_form (f := readF l) hok.len (plain_facts hp).1
  rw [hput] at ht hf
  obtain ⟨h1, h2, _⟩ := form_facts hf
  have hk := kind_two hl h1
  unfold kindB at h2
  rw [decide_eq_true_eq] at h2
  omega

set_option maxRecDepth 100000 in
set_option maxHeartbeats 2000000 in
theorem rread_form (A : Option Addr) (n c : Nat) (l : List Int) (w : World) (hb : Bts w A n c l) (h64 : n ≤ 64) (hw : wholeB l = true) (h : told l < 3 ∨ told l ≠ n ∨ 7 ≤ l.getD 2 0) :
    Calls Try.prog 13 #[.slice A n c] w (ReadPost l w) := by
  have hlen := hb.len
  have hn := hb.small
  have he : errL l = 3 := form_three hb.ok (by omega) hw (by rw [hlen]; exact h)
  have hr : readF l = Fr.zero := readF_no (by rw [he]; omega)
  have hZs : (frA Fr.zero).size = 40 := rfl
  have hZ1 := frA_one Fr.zero
  have hzb := built_zero
  obtain ⟨Z, hZ⟩ : ∃ Z, Z = frA Fr.zero := ⟨_, rfl⟩
  have hres : frV (readF l) = .agg Z := by rw [hr, hZ]; rfl
  rw [← hZ] at hZs hZ1 hzb
  have hX2 : (w.alloc (.cells (frA Fr.zero) 26)).heap[w.heap.size]? = some (.cells Z 26 (0, 0)) := by rw [hZ]; exact heap_alloc_new w _
  have hb' := hb.more (.cells (frA Fr.zero) 26)
  have hwh := rtold_any A n c l _ hb'
  rw [toldZ_yes hw] at hwh
  have hwl := whole_len hw
  obtain ⟨t, ht⟩ : ∃ t, told l = t := ⟨_, rfl⟩
  rw [ht] at hwh hwl h
  have h64' : (n : Int) ≤ 64 := by omega
  have ht0 : (2 : Int) ≤ t := by omega
  have htn : (t : Int) ≤ n := by omega
  have hcs : (t : Int) < 3 ∨ (¬ (t : Int) < 3 ∧ (t : Int) ≠ n) ∨ (¬ (t : Int) < 3 ∧ (t : Int) = n ∧ 7 ≤ l.getD 2 0) := by omega
  have HX2 := Lib.hid hX2
  have HZS := Lib.hid hZs
  have HZ1 := Lib.hid hZ1
  have HZB := Lib.hid hzb
  have HRES := Lib.hid hres
  have HWH := Lib.hid hwh
  have HE := Lib.hid he
  have HB := Lib.hid hb
  clear hX2 hZ hZs hZ1 hzb hres hwh he hr hb' hb h hwl hlen ht hw
  rcases hcs with h3 | ⟨h3, hne⟩ | ⟨h3, heq, h7⟩
  · go_enter Try.func13, Try.ntmps13
    go_wp2_with (first
      | (go_at_call 29; refine HWH.out.mono ?_; rintro e w1 ⟨rfl, j, rfl⟩
         have hX3 : ((w.alloc (.cells (frA Fr.zero) 26)).drewN j).heap[w.heap.size]? = some (.cells Z 26 (0, 0)) := HX2.out)
      | ((with_reducible refine wpList_build_to rfl 26 _ rfl _ Z ?hb3 HZB.out ?_); (case hb3 => rfl))
      | ((refine wpList_store_blk rfl 26 _ _ rfl w.heap.size Z ?hx4 ?hy4 26 Z hX3 (info_frame HZS.out) rfl HZ1.out ?_); (case hx4 => rfl); (case hy4 => rfl)
         intro w6 hg6 hX6 hs6))
    refine bodyPost_ret (v := .tuple #[.agg Z, .int .i64 3]) ?_ ?_ ?_
    · exact results_blk_tmp Try.results13 _ _ _ w.heap.size 26 _ (0, 0) _ rfl hX6 Try.underlying26 rfl (info_frame HZS.out) _ rfl
    · rfl
    · exact ⟨by rw [HRES.out, HE.out], (below_drewN (one_alloc _ _) j).grown hg6 (by simp) (fun k e => by cases e; exact Nat.le_refl _)⟩
  · have hb2 : ((t : Int) != (n : Int)) = true := by rw [bne_iff_ne]; exact hne
    go_enter Try.func13, Try.ntmps13
    go_wp2_with (first
      | (go_at_call 29; refine HWH.out.mono ?_; rintro e w1 ⟨rfl, j, rfl⟩
         have hX3 : ((w.alloc (.cells (frA Fr.zero) 26)).drewN j).heap[w.heap.size]? = some (.cells Z 26 (0, 0)) := HX2.out)
      | ((with_reducible refine wpList_build_to rfl 26 _ rfl _ Z ?hb3 HZB.out ?_); (case hb3 => rfl))
      | ((refine wpList_store_blk rfl 26 _ _ rfl w.heap.size Z ?hx4 ?hy4 26 Z hX3 (info_frame HZS.out) rfl HZ1.out ?_); (case hx4 => rfl); (case hy4 => rfl)
         intro w6 hg6 hX6 hs6))
    refine bodyPost_ret (v := .tuple #[.agg Z, .int .i64 3]) ?_ ?_ ?_
    · exact results_blk_tmp Try.results13 _ _ _ w.heap.size 26 _ (0, 0) _ rfl hX6 Try.underlying26 rfl (info_frame HZS.out) _ rfl
    · rfl
    · exact ⟨by rw [HRES.out, HE.out], (below_drewN (one_alloc _ _) j).grown hg6 (by simp) (fun k e => by cases e; exact Nat.le_refl _)⟩
  · have hb2 : ((t : Int) != (n : Int)) = false := by rw [heq]; simp
    obtain ⟨b, off, rfl, hc⟩ := HB.out.at_ (by omega)
    have c2 := (HB.out.more (.cells (frA Fr.zero) 26)).at_ (by omega)
    have hcell := hc 2 (by omega)
    have hlt := block_lt_of_cell hcell
    have hcell2 : ∀ j, ((w.alloc (.cells (frA Fr.zero) 26)).drewN j).cell? ⟨b, off + 2, none⟩ = some (.int .u8 (l.getD 2 0)) := fun j => ((one_alloc w (.cells (frA Fr.zero) 26)).cell (p := ⟨b, off + 2, none⟩) hlt).trans hcell
    have hx1 := (HB.out.ok 2).2
    have hn3 : (3 : Int) ≤ n := by omega
    obtain ⟨x, hx⟩ : ∃ x, l.getD 2 0 = x := ⟨_, rfl⟩
    rw [hx] at hcell2 hx1 h7
    have HC2 := Lib.hid hcell2
    clear hc c2 hcell hx hcell2
    go_enter Try.func13, Try.ntmps13
    go_wp2_with (first
      | (go_at_call 29; refine HWH.out.mono ?_; rintro e w1 ⟨rfl, j, rfl⟩
         have hX3 : ((w.alloc (.cells (frA Fr.zero) 26)).drewN j).heap[w.heap.size]? = some (.cells Z 26 (0, 0)) := HX2.out
         have hc3 := HC2.out j)
      | ((with_reducible refine wpList_build_to rfl 26 _ rfl _ Z ?hb3 HZB.out ?_); (case hb3 => rfl))
      | ((refine wpList_store_blk rfl 26 _ _ rfl w.heap.size Z ?hx4 ?hy4 26 Z hX3 (info_frame HZS.out) rfl HZ1.out ?_); (case hx4 => rfl); (case hy4 => rfl)
         intro w6 hg6 hX6 hs6))
    refine bodyPost_ret (v := .tuple #[.agg Z, .int .i64 3]) ?_ ?_ ?_
    · exact results_blk_tmp Try.results13 _ _ _ w.heap.size 26 _ (0, 0) _ rfl hX6 Try.underlying26 rfl (info_frame HZS.out) _ rfl
    · rfl
    · exact ⟨by rw [HRES.out, HE.out], (below_drewN (one_alloc _ _) j).grown hg6 (by simp) (fun k e => by cases e; exact Nat.le_refl _)⟩
end Go.Proofs.Ytncedbjbooemjaa

/- The walk over the document's answer fields: the numbers of a frame behind its kind. -/
namespace Go.Proofs.Ytncedbjbooemjaa
set_option linter.unusedVariables false
set_option linter.unusedSimpArgs false
open Go.RowKit

/-- the numbers of a frame, each with its size -/
def fieldsF (f : Fr) : List (Int × Int) := match f.kind.toNat with
  | 0 => [(f.user, 1), (f.cn, 8)]
  | 1 => [(f.sess, 8), (f.epoch, 4)]
  | 2 => [(f.sess, 8)]
  | 3 => [(f.sess, 8)]
  | 4 => [(f.sess, 8), (f.count, 8), (f.cmd, 1), (f.arg, 2)]
  | 5 => [(f.sess, 8), (f.count, 8), (f.cmd, 1), (f.arg, 2)]
  | _ => [(f.cmd, 1)]
/-- a literal of rows -/
theorem rws_lit (k : Nat) (e : TypeId) (w : World) (rows : List (List Value)) (hw : ∀ r ∈ rows, r.length = k) (h1 : ∀ r ∈ rows, ∀ u ∈ r, u.oneCell' = true) (hm : rows.length ≤ 100) : Rws k (w.alloc (.cells rows.flatten.toArray e)) (some ⟨w.heap.size, 0, none⟩) rows.length rows.length rows := by
  refine ⟨rfl, hw, h1, Nat.le_refl _, by unfold maxLen; omega, (fun e => by cases e), fun _ => ⟨w.heap.size, 0, rfl, fun j hj i hi => ?_⟩⟩
  rw [cell_of_row _ _ _ _ _ _ (heap_alloc_new w _), Nat.zero_add, List.getElem?_toArray]
  exact flat_get hw j i hj hi
theorem nms_lit (w : World) (l : List (Int × Int)) (hm : l.length ≤ 100) (hn : ∀ p ∈ l, 0 ≤ p.1 ∧ p.1 < 18446744073709551616 ∧ -9223372036854775808 ≤ p.2 ∧ p.2 ≤ 9223372036854775807) :
    Nms (w.alloc (.cells (l.map numR).flatten.toArray 53)) (some ⟨w.heap.size, 0, none⟩) l.length l.length l := by
  have h := rws_lit 2 53 w (l.map numR) (fun r hr => by obtain ⟨p, _, rfl⟩ := List.mem_map.1 hr; rfl) (fun r hr u hu => by
    obtain ⟨p, _, rfl⟩ := List.mem_map.1 hr
    simp only [numR, List.mem_cons, List.not_mem_nil, or_false] at hu
    rcases hu with rfl | rfl <;> rfl) (by rw [List.length_map]; exact hm)
  rw [List.length_map] at h
  exact ⟨h, hn⟩
def GivesNums (l : List (Int × Int)) (b : Bool) (w : World) (e : Ending) (w' : World) : Prop := ∃ A m c, e = .returned (.tuple #[.slice A m c, .bool b]) ∧ Nms w' A m c l ∧ Below w.heap.size w w'
theorem nums_in (w : World) (o : Obj) (l : List (Int × Int)) (hm : l.length ≤ 100) (hn : ∀ p ∈ l, 0 ≤ p.1 ∧ p.1 < 18446744073709551616 ∧ -9223372036854775808 ≤ p.2 ∧ p.2 ≤ 9223372036854775807) (b : Bool) :
    GivesNums l b w (.returned (.tuple #[.slice (some ⟨w.heap.size + 1, 0, none⟩) l.length l.length, .bool b])) ((w.alloc o).alloc (.cells (l.map numR).flatten.toArray 53)) := by
  have h := nms_lit (w.alloc o) l hm hn
  rw [size_next] at h
  exact ⟨_, _, _, rfl, h, two_below _ _ _⟩
theorem kind_seven {k : Int} (h : kindB k = true) : k = 0 ∨ k = 1 ∨ k = 2 ∨ k = 3 ∨ k = 4 ∨ k = 5 ∨ k = 6 := kind_cases h
set_option maxHeartbeats 4000000 in
theorem fields_any (f : Fr) (w : World) (hok : f.ok) (hp : f.pos) (hk : kindB f.kind = true) :
    Calls Try.prog 30 #[frV f] w (GivesNums (fieldsF f) (tagK f.kind.toNat) w) := by
  have hh := hasF f
  obtain ⟨p0, p1, p2, p3, p4⟩ := hp
  obtain ⟨⟨_, a0⟩, ⟨_, a1⟩, ⟨b2, a2⟩, ⟨b3, a3⟩, ⟨_, a4⟩, ⟨b5, a5⟩, ⟨_, a6⟩, ⟨_, a7⟩, _, _⟩ := hok
  unfold frV
  obtain ⟨C, hC⟩ : ∃ C, C = frA f := ⟨_, rfl⟩
  rw [← hC] at hh ⊢
  obtain ⟨d0, d1, d2, d3, d4, d5, d6, d7⟩ := hh
  rcases f with ⟨kind, user, sess, cn, epoch, count, cmd, arg, tag⟩
  simp only at *
  clear hC
  have hcs := kind_cases hk
  clear hk
  rcases hcs with rfl | rfl | rfl | rfl | rfl | rfl | rfl
  · go_enter Try.func30, Try.ntmps30
    go_wp2
    go_ret2
    exact nums_in w _ [(user, 1), (cn, 8)] (by simp) (by simp; omega) false
  · go_enter Try.func30, Try.ntmps30
    go_wp2
    go_ret2
    exact nums_in w _ [(sess, 8), (epoch, 4)] (by simp) (by simp; omega) false
  · go_enter Try.func30, Try.ntmps30
    go_wp2
    go_ret2
    exact nums_in w _ [(sess, 8)] (by simp) (by simp; omega) true
  · go_enter Try.func30, Try.ntmps30
    go_wp2
    go_ret2
    exact nums_in w _ [(sess, 8)] (by simp) (by simp; omega) true
  · go_enter Try.func30, Try.ntmps30
    go_wp2
    go_ret2
    exact nums_in w _ [(sess, 8), (count, 8), (cmd, 1), (arg, 2)] (by simp) (by simp; omega) true
  · go_enter Try.func30, Try.ntmps30
    go_wp2
    go_ret2
    exact nums_in w _ [(sess, 8), (count, 8), (cmd, 1), (arg, 2)] (by simp) (by simp; omega) true
  · go_enter Try.func30, Try.ntmps30
    go_wp2
    go_ret2
    exact nums_in w _ [(cmd, 1)] (by simp) (by simp; omega) false
end Go.Proofs.Ytncedbjbooemjaa
