/- The walks over package frame's isWhole and Body, and the library's bytes.Equal and bytes.Clone. -/
import Derived.Test.YtadcbikdbekmgaaFrmPut
import Derived.Lib.SliceRun
namespace Go.Proofs.Ytadcbikdbekmgaa
set_option linter.unusedVariables false
set_option linter.unusedSimpArgs false
open Go.RowKit

/-- do as many bytes follow as the first two tell? -/
def wholeB (l : List Int) : Bool := decide (2 ≤ l.length ∧ numL (l.take 2) + 2 ≤ l.length)
theorem two_small {l : List Int} (h : ∀ j, 0 ≤ l.getD j 0 ∧ l.getD j 0 < 256) : numL (l.take 2) < 65536 := by
  have h1 := numL_bound (l.take 2) (fun x hx => mem_ok h x (List.mem_of_mem_take hx))
  refine Nat.lt_of_lt_of_le h1 ?_
  have : (256 : Nat) ^ (l.take 2).length ≤ 256 ^ 2 := Nat.pow_le_pow_right (by omega) (by rw [List.length_take]; omega)
  exact this
set_option maxHeartbeats 1000000 in
theorem whole_any (A : Option Addr) (n c : Nat) (l : List Int) (w : World) (hb : Bts w A n c l) :
    Calls Try.prog 26 #[.slice A n c] w fun e w' => e = .returned (.bool (wholeB l)) ∧ w = w' := by
  have hn := hb.small
  by_cases h : 2 ≤ n
  · have hg := get_at A n c l 0 2 0 2 w rfl rfl hb (by omega) (by omega) (by omega)
    have hx := two_small hb.ok
    rw [List.drop_zero] at hg
    obtain ⟨x, hxe⟩ : ∃ x, numL (l.take 2) = x := ⟨_, rfl⟩
    rw [hxe] at hg hx
    have hx' : (x : Int) < 65536 := by omega
    have k1 : decide ((x : Int) ≤ (n : Int) - 2) = wholeB l := by
      unfold wholeB
      rw [hxe, hb.len, Bool.eq_iff_iff]
      simp only [decide_eq_true_eq]
      omega
    have h2 : (2 : Int) ≤ n := by omega
    have K1 := Lib.hid k1
    have HG := Lib.hid hg
    clear hg hxe k1 hx h hb
    go_enter Try.func26, Try.ntmps26
    go_wp2_with (go_at_call 38; (with_reducible refine HG.out.mono ?_); rintro e w2 ⟨rfl, rfl⟩)
    go_ret
    exact ⟨ret_bool K1.out, rfl⟩
  · have hg := get_no A n c l 0 2 w hb (by omega) (by omega) (by omega) (by omega) (by unfold mayGet; rw [decide_eq_false_iff_not]; omega)
    have k1 : false = wholeB l := by
      unfold wholeB
      rw [hb.len, eq_comm, decide_eq_false_iff_not]
      omega
    have K1 := Lib.hid k1
    have HG := Lib.hid hg
    clear hg k1 hb
    go_enter Try.func26, Try.ntmps26
    go_wp2_with (go_at_call 38; (with_reducible refine HG.out.mono ?_); rintro e w2 ⟨rfl, rfl⟩)
    go_ret
    exact ⟨ret_bool K1.out, rfl⟩
theorem equal_any (A B : Option Addr) (n c m d : Nat) (a b : List Int) (w : World) (ha : Bts w A n c a) (hb : Bts w B m d b) :
    Calls Try.prog 28 #[.slice A n c, .slice B m d] w fun e w' => e = .returned (.bool (a == b)) ∧ w = w' := by
  have k1 := conv_bts ha
  have k2 := conv_bts hb
  have k3 := run_eq_bstr a b ha.ok hb.ok
  obtain ⟨x, hx⟩ : ∃ x, bstr a = x := ⟨_, rfl⟩
  obtain ⟨y, hy⟩ : ∃ x, bstr b = x := ⟨_, rfl⟩
  rw [hx] at k1 k3
  rw [hy] at k2 k3
  have K3 := Lib.hid k3
  clear k3 hx hy ha hb
  go_enter Try.func28, Try.ntmps28
  go_wp2
  go_ret
  exact ⟨ret_bool K3.out, rfl⟩
theorem none_own (w : World) : Own (w.alloc (.cells #[] 5)) w.heap.size (.slice (some ⟨w.heap.size, 0, none⟩) 0 0) [] :=
  ⟨rfl, .inr ⟨w.heap.size, 0, #[], rfl, Nat.le_refl _, heap_alloc_new w _, Nat.le_refl _, by unfold maxLen; omega, rfl, rfl⟩⟩
set_option maxHeartbeats 1000000 in
theorem clone_any (A : Option Addr) (n c : Nat) (l : List Int) (w : World) (hb : Bts w A n c l) (hsm : n ≤ 140737488355328) :
    Calls Try.prog 34 #[.slice A n c] w fun e w' => ∃ v, e = .returned v ∧ Own w' w.heap.size v l ∧ Below w.heap.size w w' := by
  have q22 : ∀ (w : World) (a : Option Addr) (n c n' c' : Nat), (binOp .eql 27 (.slice a n c) (.slice none n' c')).run Try.prog w = .ok (.bool a.isNone) w := fun w a n c n' c' => Lib.run_eql_slice_nil w _ _ a n c n' c' Try.underlying27
  cases A with
  | none =>
    have h0 := hb.bare rfl
    have hn : n = 0 := by have := hb.le; omega
    have hl : l = [] := List.eq_nil_of_length_eq_zero (hb.len.trans hn)
    have HL := Lib.hid hl
    clear hl hb h0
    go_enter Try.func34, Try.ntmps34
    go_wp2
    go_ret
    exact ⟨_, rfl, by rw [HL.out]; exact Own.nil _ _, Below.refl _ _⟩
  | some a =>
    have hb1 := hb.more (.cells #[] 5)
    go_enter Try.func34, Try.ntmps34
    go_wp2_with (at_builtin
                 refine wpList_append_b rfl _ _ rfl w.heap.size _ [] rfl (none_own w) _ n c l rfl hb1 (by simp; omega) (size_le_alloc _ _) ?_
                 intro v5 w5 hown5 hg5
                 rw [List.nil_append] at hown5
                 have hB5 : Below w.heap.size w w5 := (one_alloc w _).grown hg5 (size_le_alloc _ _) (fun k hk => by cases hk; exact Nat.le_refl _)
                 clear hg5)
    go_ret
    exact ⟨_, rfl, hown5, hB5⟩
/-- what a frame's tag is of -/
def bodyF (f : Fr) : List Int := if plainB f && tagK f.kind.toNat then frontF f else []
theorem bodyF_ok (f : Fr) : ∀ j, 0 ≤ (bodyF f).getD j 0 ∧ (bodyF f).getD j 0 < 256 := by
  unfold bodyF
  split
  · exact catL_ok _
  · simp
theorem shape_some (k : Int) : ∃ S t, S.length = 8 ∧ (kindB k = true → S = szK k.toNat ∧ t = tagK k.toNat) ∧ ∀ w, Calls Try.prog 19 #[.int .i64 k] w fun e w' => e = .returned (.tuple #[shV S t, .bool (kindB k)]) ∧ Below w.heap.size w w' := by
  cases h : kindB k with
  | true => exact ⟨_, _, szK_length _, fun _ => ⟨rfl, rfl⟩, fun w => shape_yes k w h⟩
  | false => exact ⟨_, _, rfl, (fun h => by cases h), fun w => shape_no k w h⟩
/-- a call that hands back bytes -/
def GivesS (L : List Int) (w : World) (e : Ending) (w' : World) : Prop := ∃ A m c, e = .returned (.slice A m c) ∧ Bts w' A m c L ∧ Below w.heap.size w w'
set_option maxHeartbeats 1000000 in
theorem body_any (f : Fr) (w : World) (hok : f.ok) :
    Calls Try.prog 17 #[frV f] w (GivesS (bodyF f) w) := by
  have hh := hasF f
  have hCs : (frA f).size = 40 := frA_size hok.len
  obtain ⟨S, t, hS, hSt, hsc⟩ := shape_some f.kind
  obtain ⟨b, hbe⟩ : ∃ b, plainB f = b := ⟨_, rfl⟩
  have hpc := fun w => put_plain_b f w hok b hbe
  have hno : (b && t) = false → bodyF f = [] := fun h => by
    unfold bodyF
    rw [hbe]
    cases b with
    | false => rfl
    | true =>
      have := (hSt (plain_facts hbe).1).2
      rw [← this]
      rw [Bool.true_and] at h
      rw [h]; rfl
  have hyes : b = true → t = true → bodyF f = (putF f).take ((putF f).length - 32) ∧ 32 ≤ (putF f).length := fun h1 h2 => by
    have h3 := (hSt (plain_facts (hbe.trans h1)).1).2
    have h4 : tagK f.kind.toNat = true := by rw [← h3]; exact h2
    have h5 : putF f = frontF f ++ f.tag := by rw [putF, h4]; simp
    have hl : (putF f).length = (frontF f).length + 32 := by rw [h5, List.length_append, hok.len]
    refine ⟨?_, by omega⟩
    rw [bodyF, hbe, h1, h4, hl, h5]
    simp
  have hpl := putF_small f hok.len
  obtain ⟨s0, s1, s2, s3, s4, s5, s6, s7, hl⟩ := list8 S hS
  rw [shV_lit hl] at hsc
  obtain ⟨b2, hb2⟩ : ∃ b2, kindB f.kind = b2 := ⟨_, rfl⟩
  rw [hb2] at hsc
  unfold frV at hpc ⊢
  obtain ⟨C, hC⟩ : ∃ C, C = frA f := ⟨_, rfl⟩
  rw [← hC] at hh hCs hpc ⊢
  have HSC := Lib.hid hsc
  have HPC := Lib.hid hpc
  have HCS := Lib.hid hCs
  have HCC := Lib.hid hC
  have HNO := Lib.hid hno
  have HYES := Lib.hid hyes
  have HPL := Lib.hid hpl
  have HOK := Lib.hid hok
  obtain ⟨d0, _, _, _, _, _, _, _⟩ := hh
  clear hsc hpc hCs hC hno hyes hpl hok hl hS hSt hbe hb2
  cases b with
  | false =>
    have hbo := HNO.out rfl
    have HB := Lib.hid hbo
    clear hbo
    go_enter Try.func17, Try.ntmps17
    go_wp2_with (first
      | ((with_reducible refine wpList_load_blk 26 _ rfl w.heap.size ?hx2 26 C (0, 0) _ (heap_alloc_new _ _) Try.underlying26 ?hd2 (info_frame HCS.out) ?_ ?hw2); (case hx2 => rfl); (case hd2 => rfl); (case hw2 => rfl))
      | (go_at_call 10; (with_reducible refine (HPC.out _).mono ?_); rintro e w2 ⟨A2, m2, c2, rfl, hv2, hb2⟩
         have hF2 : RowF w2 w.heap.size f := rowF_of (by rw [← HCC.out]; exact after_alloc hb2)
         have hk2 := hF2.kind
         have hB2 := (after_one hb2).1
         clear hb2)
      | (go_at_call 19; (with_reducible refine (HSC.out _).mono ?_); rintro e w3 ⟨rfl, hb3⟩))
    go_ret
    exact ⟨none, 0, 0, rfl, by rw [HB.out]; exact Bts.nil _, (hB2.trans (hb3.mono hB2.size)).alloc (Nat.le_trans hB2.size hb3.size) _⟩
  | true =>
    cases t with
    | false =>
      have hbo := HNO.out rfl
      have HB := Lib.hid hbo
      clear hbo
      go_enter Try.func17, Try.ntmps17
      go_wp2_with (first
        | ((with_reducible refine wpList_load_blk 26 _ rfl w.heap.size ?hx2 26 C (0, 0) _ (heap_alloc_new _ _) Try.underlying26 ?hd2 (info_frame HCS.out) ?_ ?hw2); (case hx2 => rfl); (case hd2 => rfl); (case hw2 => rfl))
        | (go_at_call 10; (with_reducible refine (HPC.out _).mono ?_); rintro e w2 ⟨A2, m2, c2, rfl, hv2, hb2⟩
           have hF2 : RowF w2 w.heap.size f := rowF_of (by rw [← HCC.out]; exact after_alloc hb2)
           have hk2 := hF2.kind
           have hB2 := (after_one hb2).1
           clear hb2)
        | (go_at_call 19; (with_reducible refine (HSC.out _).mono ?_); rintro e w3 ⟨rfl, hb3⟩))
      go_ret
      exact ⟨none, 0, 0, rfl, by rw [HB.out]; exact Bts.nil _, (hB2.trans (hb3.mono hB2.size)).alloc (Nat.le_trans hB2.size hb3.size) _⟩
    | true =>
      have hbo := HYES.out rfl rfl
      have HB := Lib.hid hbo
      clear hbo
      go_enter Try.func17, Try.ntmps17
      go_wp2_with (first
        | ((with_reducible refine wpList_load_blk 26 _ rfl w.heap.size ?hx2 26 C (0, 0) _ (heap_alloc_new _ _) Try.underlying26 ?hd2 (info_frame HCS.out) ?_ ?hw2); (case hx2 => rfl); (case hd2 => rfl); (case hw2 => rfl))
        | (go_at_call 10; (with_reducible refine (HPC.out _).mono ?_); rintro e w2 ⟨A2, m2, c2, rfl, hv2, hb2⟩
           have hF2 : RowF w2 w.heap.size f := rowF_of (by rw [← HCC.out]; exact after_alloc hb2)
           have hk2 := hF2.kind
           have hB2 := (after_one hb2).1
           have hv2 : Bts w2 A2 m2 c2 (putF f) := hv2
           have hm2 : (m2 : Int) ≤ 54 := by have := HPL.out; have := hv2.len; omega
           have hm3 : (32 : Int) ≤ m2 := by have := HB.out.2; have := hv2.len; omega
           obtain ⟨hto, hbt⟩ := run_to hv2 ((m2 : Int) - 32) (hi := m2 - 32) (by omega) (by omega)
           have HBT := Lib.hid hbt
           have HL2 := Lib.hid hv2.len
           clear hb2 hv2 hbt hF2)
        | (go_at_call 19; (with_reducible refine (HSC.out _).mono ?_); rintro e w3 ⟨rfl, hb3⟩))
      go_ret
      exact ⟨A2, m2 - 32, c2, rfl, by rw [HB.out.1, HL2.out]; exact (HBT.out.below hb3).more _, (hB2.trans (hb3.mono hB2.size)).alloc (Nat.le_trans hB2.size hb3.size) _⟩
end Go.Proofs.Ytadcbikdbekmgaa
