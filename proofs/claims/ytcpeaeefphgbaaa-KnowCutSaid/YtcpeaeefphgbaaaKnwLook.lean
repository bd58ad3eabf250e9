/- The walk over the closure look of package know's Lacks. -/
import Derived.Test.YtcpeaeefphgbaaaKnwLacks
namespace Go.Proofs.Ytcpeaeefphgbaaa
set_option linter.unusedVariables false
set_option linter.unusedSimpArgs false
open Go.RowKit

/-- behind a call of look: the list in the box has grown by what the term lacks -/
def Looked (B q : Nat) (v : Value) (l : List Te) (w : World) (e : Ending) (w' : World) : Prop :=
  e = .returned (.tuple #[]) ∧ ∃ v' rows', Grows q w w' v v' ∧ Boxed w' q 22 v' ∧ Made w' B v' rows' l
theorem keys_no {out : List Te} (h : ∀ x ∈ out, x.kind = 1) {k n : Int} {l : List Te} (hk : k ≠ 1) : isIn out (.node k n l) = false := by
  rw [isIn_no]
  exact fun hm => hk (h _ hm)
theorem lacks_had {K out : List Te} (h : ∀ x ∈ out, x.kind = 1) {k n : Int} {l : List Te} (hi : isIn out (.node k n l) = true) : (Te.node k n l).lacks K out = out := by
  have hk : k = 1 := h _ (isIn_iff.1 hi)
  subst hk
  rw [Te.lacks]
  by_cases h0 : (1 : Int) = 0 ∨ isIn K (.node 1 n l) = true
  · rw [if_pos h0]
  · rw [if_neg h0, if_pos rfl, if_pos hi]
theorem lacks_kinds {K out : List Te} (h : ∀ x ∈ out, x.kind = 1) {t : Te} (hg : t.good = true) : ∀ x ∈ t.lacks K out, x.kind = 1 := by
  obtain ⟨⟨ex, he, _, hx⟩, _⟩ := Te.lacks_all (P := K) t hg out
  rw [he]
  intro x hm
  rcases List.mem_append.1 hm with h1 | h1
  · exact h x h1
  · obtain ⟨n, rfl, _⟩ := hx x h1
    rfl
theorem boxed_turns {w w' : World} {q : Nat} {t : TypeId} {v v' x : Value} (h : Boxed w q t x) (hT : Turns w w' v v') (hn : v.ownBlock ≠ some q) : Boxed w' q t x := (hT.block h.lt hn).trans h
theorem boxed_far {w : World} {q g : Nat} {t : TypeId} {v : Value} (h : Boxed w q t v) (hn : q ≠ g) (o : Nat) (x : Value) : Boxed (w.setCell ⟨g, o, none⟩ x) q t v := (Below.heap_setCell _ _ _ _ hn).trans h
theorem cup_far {w : World} {q g : Nat} {k n : Int} {A : Option Addr} {m c : Nat} (h : Cup w q k n A m c) (hn : q ≠ g) (o : Nat) (x : Value) : Cup (w.setCell ⟨g, o, none⟩ x) q k n A m c := (Below.heap_setCell _ _ _ _ hn).trans h
theorem lies_leaf {P P' : Nat → Prop} {w w' : World} {k n k5 n5 : Int} {A : Option Addr} {m c : Nat} (h : Is P w (.node k n []) k5 n5 A m c) : Lies P' w' (.node k n []) [.int .i64 k5, .int .i64 n5, .slice A m c] := by
  obtain ⟨hl, rfl, rfl, _⟩ := h.len
  obtain ⟨l', rows, e, _, hle, hmx, hr, _, _⟩ := h.inv
  have hm : m = 0 := by simpa using hl.symm
  subst hm
  have hrn : rows = [] := List.eq_nil_of_length_eq_zero hr.len
  subst hrn
  exact .mk (rows := []) ⟨rfl, (fun _ h => by cases h), (fun _ h => by cases h), hle, hmx, hr.bare, fun h => by omega⟩ (fun h => by omega) rfl fun i hi => by simp at hi
theorem made_last {w : World} {B : Nat} {v : Value} {rows : List (List Value)} {out : List Te} {z t : Te} {m0 : Nat} (hm : out.length = m0) (h : Made w B v rows ((out ++ [z]).set m0 t)) : Made w B v rows (out ++ [t]) := by
  have e : (out ++ [z]).set m0 t = out ++ [t] := by rw [← hm]; simp
  rwa [e] at h
/-- what is left of the region, told once for all orders -/
theorem look_key {W1 : World} {n0 : Int} {S : World → Prop} {Kp : World → Nat → Int → Int → Option Addr → Nat → Nat → Prop} {G : Prop}
    (main : (∀ X gz k5 n5 A5 m5 c5, Below W1.heap.size W1 X → Rws 3 X (some ⟨gz, 0, none⟩) 1 1 [[.int .i64 0, .int .i64 0, .slice none 0 0]] → (∀ P' w', Lies P' w' (.node 1 n0 []) [.int .i64 k5, .int .i64 n5, .slice A5 m5 c5]) → S X → Kp X gz k5 n5 A5 m5 c5) → G)
    (key : ∀ X gz k5 n5 A5 m5 c5, Below W1.heap.size W1 X → Rws 3 X (some ⟨gz, 0, none⟩) 1 1 [[.int .i64 0, .int .i64 0, .slice none 0 0]] → (∀ P' w', Lies P' w' (.node 1 n0 []) [.int .i64 k5, .int .i64 n5, .slice A5 m5 c5]) → S X → Kp X gz k5 n5 A5 m5 c5) : G := main key
set_option maxHeartbeats 4000000 in
theorem look_in (w0 : World) (p q f : Nat) (K : List Te) (Ap : Option Addr) (mp cp : Nat) (hq : q < w0.heap.size) (hpq : p ≠ q) (hfq : f ≠ q) (hP : Is (fun b => b < w0.heap.size ∧ b ≠ q) w0 (.node 0 0 K) 0 0 Ap mp cp)
    (hp : Boxed w0 p 22 (.slice Ap mp cp)) (hf : Boxed w0 f 42 (.func (.func 33) #[] #[.pointer (some ⟨p, 0, none⟩), .pointer (some ⟨q, 0, none⟩), .pointer (some ⟨f, 0, none⟩)])) :
    ∀ (t : Te) (k n : Int) (A : Option Addr) (m c : Nat), Is (fun b => b < w0.heap.size ∧ b ≠ q) w0 t k n A m c → ∀ (w : World) (v : Value) (rows : List (List Value)) (out : List Te), But q w0 w → Boxed w q 22 v → Made w w0.heap.size v rows out → (∀ x ∈ out, x.kind = 1) → t.good = true → out.length + t.size ≤ 1000000 →
    Calls Try.prog 33 #[.agg #[.int .i64 k, .int .i64 n, .slice A m c], .pointer (some ⟨p, 0, none⟩), .pointer (some ⟨q, 0, none⟩), .pointer (some ⟨f, 0, none⟩)] w (Looked w0.heap.size q v (t.lacks K out) w) := by
  refine Is.ind fun k n l A m c hI ih w v rows out hb hqw hM hks hgood hN => ?_
  have IH := Lib.hid ih
  obtain ⟨A0, m0, c0, rfl, _⟩ := hM.had.is
  have hone := one_alloc w (.cells #[.int .i64 k, .int .i64 n, .slice A m c] 24)
  have hcup := Cup.new w k n A m c
  obtain ⟨W1, hW1⟩ : ∃ W1, w.alloc (.cells #[.int .i64 k, .int .i64 n, .slice A m c] 24) = W1 := ⟨_, rfl⟩
  rw [hW1] at hone hcup
  have hb1 : But q w0 W1 := hb.trans (But.of_below hone)
  have hgq : w.heap.size ≠ q := by have := hb.size; omega
  have hng : (Value.slice A0 m0 c0).ownBlock ≠ some w.heap.size := hM.had.not_new (Nat.le_refl _)
  have hp1 : Boxed W1 p _ _ := hb1.boxed hp hpq
  have hf1 : Boxed W1 f _ _ := hb1.boxed hf hfq
  have hq1 : Boxed W1 q _ _ := boxed_later hqw hone
  have hM1 := hM.far hone
  have hPW := hP.keep fun b hbb => hb1.block b hbb.1 hbb.2
  have hIW := hI.keep fun b hbb => hb1.block b hbb.1 hbb.2
  have HF0 := Lib.hid hf
  have HNQ := Lib.hid (show (Value.slice A0 m0 c0).ownBlock ≠ some q from fun e => by have := (hM.own.size q e).1; omega)
  have HQL := Lib.hid hq
  have HIN := Lib.hid (has_any _ _ K (.node k n l) Ap mp cp k n A m c W1 hPW hIW)
  have HI := Lib.hid hI
  have HIW := Lib.hid hIW
  have HC := Lib.hid hcup
  have HB1 := Lib.hid hb1
  have HONE := Lib.hid hone
  have HG := Lib.hid (Te.good_two hgood)
  have HW := Lib.hid hW1
  have HM := Lib.hid hM1
  have HQ := Lib.hid hq1
  have HF := Lib.hid hf1
  have HNG := Lib.hid hng
  have HGQ := Lib.hid hgq
  have HKS := Lib.hid hks
  have HS := Lib.hid (show w0.heap.size ≤ W1.heap.size from hb1.size)
  have HGR := Lib.hid (show Grows q w W1 (.slice A0 m0 c0) (.slice A0 m0 c0) from Grows.below q _ hone)
  have cp1 : (w.alloc (.cells #[.int .i64 k, .int .i64 n, .slice A m c] 24)).cell? ⟨p, 0, none⟩ = some (.slice Ap mp cp) := by rw [hW1]; exact hp1.cell
  clear ih hI hone hcup hb hb1 hgood hW1 hp hf hp1 hf1 hq1 hM hM1 hPW hIW hP hng hgq hks
  rcases HG.out with ⟨h01 | h01, rfl, hn⟩ | ⟨hk, rfl, a, b, rfl, hga, hgb⟩
  · subst h01
    go_enter Try.func33, Try.ntmps33
    go_wp2
    go_end0
    rw [HW.out]
    exact ⟨rfl, _, rows, HGR.out, HQ.out, by rw [lacks_word]; exact HM.out⟩
  · subst h01
    cases hi : isIn K (.node 1 n []) with
    | true =>
      rw [hi] at HIN
      have HLK := Lib.hid (lacks_in (out := out) hi)
      clear hi
      go_enter Try.func33, Try.ntmps33
      go_wp2_with (go_at_call 34
                   rw [HW.out]
                   (with_reducible refine HIN.out.mono ?_)
                   rintro e w2 ⟨rfl, hb2⟩
                   have HB2 := Lib.hid hb2
                   clear hb2)
      go_end0
      exact ⟨rfl, _, rows, HGR.out.trans (Grows.below q _ HB2.out), boxed_later HQ.out HB2.out, by rw [HLK.out]; exact HM.out.far HB2.out⟩
    | false =>
      rw [hi] at HIN
      have hlk := lacks_key (out := out) hi
      clear hi
      cases hi2 : isIn out (.node 1 n []) with
      | true =>
        rw [hi2] at hlk
        have HI2 := Lib.hid hi2
        have HLK := Lib.hid hlk
        clear hlk hi2
        go_enter Try.func33, Try.ntmps33
        go_wp2_with (first
          | (go_at_call 34
             rw [HW.out]
             (with_reducible refine HIN.out.mono ?_)
             rintro e w2 ⟨rfl, hb2⟩
             obtain ⟨y0, y1, y2⟩ := (HC.out.below hb2).cells
             have cq := (boxed_later HQ.out hb2).cell
             have HB2 := Lib.hid hb2
             clear hb2)
          | (go_at_call 34
             have hc3 := has_any _ _ out (.node 1 n []) A0 m0 c0 1 n A m c w2 (HM.out.far HB2.out).had.is' (HIW.out.later HB2.out)
             rw [HI2.out] at hc3
             (with_reducible refine hc3.mono ?_)
             rintro e w3 ⟨rfl, hb3⟩
             have HB3 := Lib.hid (HB2.out.trans (hb3.mono HB2.out.size))
             clear hb3 hc3))
        go_end0
        exact ⟨rfl, _, rows, HGR.out.trans (Grows.below q _ HB3.out), boxed_later HQ.out HB3.out, by rw [HLK.out]; exact HM.out.far HB3.out⟩
      | false =>
        rw [hi2] at hlk
        have HI2 := Lib.hid hi2
        have HLK := Lib.hid hlk
        clear hlk hi2
        go_enter Try.func33, Try.ntmps33
        go_wp2_with (first
          | (go_at_call 34
             rw [HW.out]
             (with_reducible refine HIN.out.mono ?_)
             rintro e w2 ⟨rfl, hb2⟩
             obtain ⟨y0, y1, y2⟩ := (HC.out.below hb2).cells
             have cq := (boxed_later HQ.out hb2).cell
             have HB2 := Lib.hid hb2
             clear hb2)
          | (go_at_call 34
             have hc3 := has_any _ _ out (.node 1 n []) A0 m0 c0 1 n A m c w2 (HM.out.far HB2.out).had.is' (HIW.out.later HB2.out)
             rw [HI2.out] at hc3
             (with_reducible refine hc3.mono ?_)
             rintro e w3 ⟨rfl, hb3⟩
             have HB3 := Lib.hid (HB2.out.trans (hb3.mono HB2.out.size))
             obtain ⟨z0, z1, z2⟩ := (HC.out.below HB3.out).cells
             clear hb3 hc3))
        have HY0 := Lib.hid HB3.out.drew
        have HRL := Lib.hid (show rows.length + 1 ≤ 1000000 by have := HM.out.len; have := (Te.node 1 n []).size_pos; omega)
        have HLEN := Lib.hid (HM.out.had.is'.len.1)
        have hm63 := HM.out.had.is'.len.2.2.2
        have S0 := (HC.out.below HY0.out).cells
        clear y0 y1 y2 z0 z1 z2 cq cp1
        refine wp_region_held_drew (S := (fun w' => w'.cell? ⟨w.heap.size, 0, none⟩ = some (.int .i64 1) ∧ w'.cell? ⟨w.heap.size, 1, none⟩ = some (.int .i64 n) ∧ w'.cell? ⟨w.heap.size, 2, none⟩ = some (.slice A m c))) (by kernel_rfl) S0 (fun hHeld => ?_)
        clear S0
        refine take_if 1 (.agg #[.int .i64 1, .int .i64 n, .slice A m c]) rfl (by kernel_rfl) (by kernel_rfl) (by kernel_rfl) (fun _ _ _ h => h) rfl hHeld (fun w' hw' => ?_) ?_
        · obtain ⟨q0, q1, q2⟩ := hw'
          go_simp
        simp only [Act.put, List.setIfInBounds_toArray, List.set_cons_zero, List.set_cons_succ]
        obtain ⟨Y0, hY0⟩ : ∃ Y, w3.drew = Y := ⟨_, rfl⟩
        rw [hY0] at hHeld ⊢
        rw [hY0] at HY0
        clear hY0
        have HHELD := Lib.hid hHeld
        clear hHeld
        apply look_key (W1 := W1) (n0 := n) (S := (fun w' => w'.cell? ⟨w.heap.size, 0, none⟩ = some (.int .i64 1) ∧ w'.cell? ⟨w.heap.size, 1, none⟩ = some (.int .i64 n) ∧ w'.cell? ⟨w.heap.size, 2, none⟩ = some (.slice A m c)))
        case main =>
          intro key
          have hHeld := HHELD.out
          refine three_steps 0 2 4 (by kernel_rfl) rfl rfl rfl (fun Kq hKq => ?_) (fun Kq hKq => ?_) (fun Kq hKq => ?_)
          · have cq1 := (boxed_later HQ.out HY0.out).cell
            have S1 := (HC.out.below HY0.out).cells
            go_simp
            refine hKq.out _ _ S1 (fun hHeld0 => ?_)
            clear hKq Kq hHeld cq1 S1
            have hHeld := hHeld0
            clear hHeld0
            try simp only [Act.put, List.setIfInBounds_toArray, List.set_cons_zero, List.set_cons_succ]
            refine take_run 3 (.int .i64 m0) rfl (by kernel_rfl) (by kernel_rfl) (by kernel_rfl) (fun _ _ _ h => h) rfl hHeld (fun w => ?_) ?_
            · go_simp
            simp only [Act.put, List.setIfInBounds_toArray, List.set_cons_zero, List.set_cons_succ]
            refine two_steps 2 4 (by kernel_rfl) rfl rfl (fun Kq hKq => ?_) (fun Kq hKq => ?_)
            · go_simp
              go_at_call 31
              have hcc := own_any _ (.node 1 n []) 1 n A m c (Y0) (HIW.out.later HY0.out) (by simp [Te.size, Te.sizes])
              (with_reducible refine hcc.mono ?_)
              rintro e y2 ⟨k5, n5, A5, m5, c5, rfl, hI5, hby⟩
              have HY2 := Lib.hid (HY0.out.trans (hby.mono HY0.out.size))
              have S2 := (HC.out.below HY2.out).cells
              have HI5 := Lib.hid hI5
              refine hKq.out _ _ S2 (fun hHeld0 => ?_)
              clear hKq Kq hHeld S2 hcc hby hI5
              have hHeld := hHeld0
              clear hHeld0
              try simp only [Act.put, List.setIfInBounds_toArray, List.set_cons_zero, List.set_cons_succ]
              refine one_step 4 (by kernel_rfl) rfl (fun Kq hKq => ?_)
              have HY3 := Lib.hid (HY2.out.trans ((one_alloc (y2) (.cells #[.int .i64 0, .int .i64 0, .slice none 0 0] 24)).mono HY2.out.size))
              have S3 := (HC.out.below HY3.out).cells
              have hz3 := one_rws 3 24 (y2) [.int .i64 0, .int .i64 0, .slice none 0 0] rfl (row_one 0 0 none 0 0)
              go_simp
              refine hKq.out _ _ S3 (fun hHeld0 => ?_)
              clear hKq Kq hHeld S3
              have hHeld := hHeld0
              clear hHeld0
              try simp only [Act.put, List.setIfInBounds_toArray, List.set_cons_zero, List.set_cons_succ]
              obtain ⟨X, hXe⟩ : ∃ X, (y2).alloc (.cells #[.int .i64 0, .int .i64 0, .slice none 0 0] 24) = X := ⟨_, rfl⟩
              rw [hXe]
              obtain ⟨gz, hgz⟩ : ∃ g, y2.heap.size = g := ⟨_, rfl⟩
              first | rw [hgz] | rw [show (y2).heap.size = gz from hgz]
              exact key X gz k5 n5 A5 m5 c5 (by rw [← hXe]; exact HY3.out) (by rw [← hXe, ← hgz]; exact hz3) (fun _ _ => lies_leaf HI5.out) (by rw [← hXe]; exact hHeld)
            · have HY4 := Lib.hid (HY0.out.trans ((one_alloc (Y0) (.cells #[.int .i64 0, .int .i64 0, .slice none 0 0] 24)).mono HY0.out.size))
              have S4 := (HC.out.below HY4.out).cells
              have hz4 := one_rws 3 24 (Y0) [.int .i64 0, .int .i64 0, .slice none 0 0] rfl (row_one 0 0 none 0 0)
              go_simp
              refine hKq.out _ _ S4 (fun hHeld0 => ?_)
              clear hKq Kq hHeld S4
              have hHeld := hHeld0
              clear hHeld0
              try simp only [Act.put, List.setIfInBounds_toArray, List.set_cons_zero, List.set_cons_succ]
              refine one_step 2 (by kernel_rfl) rfl (fun Kq hKq => ?_)
              go_simp
              go_at_call 31
              have hcc := own_any _ (.node 1 n []) 1 n A m c ((Y0).alloc (.cells #[.int .i64 0, .int .i64 0, .slice none 0 0] 24)) (HIW.out.later HY4.out) (by simp [Te.size, Te.sizes])
              (with_reducible refine hcc.mono ?_)
              rintro e y5 ⟨k5, n5, A5, m5, c5, rfl, hI5, hby⟩
              have HY5 := Lib.hid (HY4.out.trans (hby.mono HY4.out.size))
              have S5 := (HC.out.below HY5.out).cells
              have hz5 := hz4.below hby
              have HI5 := Lib.hid hI5
              refine hKq.out _ _ S5 (fun hHeld0 => ?_)
              clear hKq Kq hHeld S5 hcc hby hI5
              have hHeld := hHeld0
              clear hHeld0
              try simp only [Act.put, List.setIfInBounds_toArray, List.set_cons_zero, List.set_cons_succ]
              obtain ⟨X, hXe⟩ : ∃ X, y5 = X := ⟨_, rfl⟩
              rw [hXe]
              obtain ⟨gz, hgz⟩ : ∃ g, Y0.heap.size = g := ⟨_, rfl⟩
              first | rw [hgz] | rw [show (Y0).heap.size = gz from hgz]
              exact key X gz k5 n5 A5 m5 c5 (by rw [← hXe]; exact HY5.out) (by rw [← hXe, ← hgz]; exact hz5) (fun _ _ => lies_leaf HI5.out) (by rw [← hXe]; exact hHeld)
          · go_simp
            go_at_call 31
            have hcc := own_any _ (.node 1 n []) 1 n A m c (Y0) (HIW.out.later HY0.out) (by simp [Te.size, Te.sizes])
            (with_reducible refine hcc.mono ?_)
            rintro e y6 ⟨k5, n5, A5, m5, c5, rfl, hI5, hby⟩
            have HY6 := Lib.hid (HY0.out.trans (hby.mono HY0.out.size))
            have S6 := (HC.out.below HY6.out).cells
            have HI5 := Lib.hid hI5
            refine hKq.out _ _ S6 (fun hHeld0 => ?_)
            clear hKq Kq hHeld S6 hcc hby hI5
            have hHeld := hHeld0
            clear hHeld0
            try simp only [Act.put, List.setIfInBounds_toArray, List.set_cons_zero, List.set_cons_succ]
            refine two_steps 0 4 (by kernel_rfl) rfl rfl (fun Kq hKq => ?_) (fun Kq hKq => ?_)
            · have cq7 := (boxed_later HQ.out HY6.out).cell
              have S7 := (HC.out.below HY6.out).cells
              go_simp
              refine hKq.out _ _ S7 (fun hHeld0 => ?_)
              clear hKq Kq hHeld cq7 S7
              have hHeld := hHeld0
              clear hHeld0
              try simp only [Act.put, List.setIfInBounds_toArray, List.set_cons_zero, List.set_cons_succ]
              refine take_run 3 (.int .i64 m0) rfl (by kernel_rfl) (by kernel_rfl) (by kernel_rfl) (fun _ _ _ h => h) rfl hHeld (fun w => ?_) ?_
              · go_simp
              simp only [Act.put, List.setIfInBounds_toArray, List.set_cons_zero, List.set_cons_succ]
              refine one_step 4 (by kernel_rfl) rfl (fun Kq hKq => ?_)
              have HY8 := Lib.hid (HY6.out.trans ((one_alloc (y6) (.cells #[.int .i64 0, .int .i64 0, .slice none 0 0] 24)).mono HY6.out.size))
              have S8 := (HC.out.below HY8.out).cells
              have hz8 := one_rws 3 24 (y6) [.int .i64 0, .int .i64 0, .slice none 0 0] rfl (row_one 0 0 none 0 0)
              go_simp
              refine hKq.out _ _ S8 (fun hHeld0 => ?_)
              clear hKq Kq hHeld S8
              have hHeld := hHeld0
              clear hHeld0
              try simp only [Act.put, List.setIfInBounds_toArray, List.set_cons_zero, List.set_cons_succ]
              obtain ⟨X, hXe⟩ : ∃ X, (y6).alloc (.cells #[.int .i64 0, .int .i64 0, .slice none 0 0] 24) = X := ⟨_, rfl⟩
              rw [hXe]
              obtain ⟨gz, hgz⟩ : ∃ g, y6.heap.size = g := ⟨_, rfl⟩
              first | rw [hgz] | rw [show (y6).heap.size = gz from hgz]
              exact key X gz k5 n5 A5 m5 c5 (by rw [← hXe]; exact HY8.out) (by rw [← hXe, ← hgz]; exact hz8) (fun _ _ => lies_leaf HI5.out) (by rw [← hXe]; exact hHeld)
            · have HY9 := Lib.hid (HY6.out.trans ((one_alloc (y6) (.cells #[.int .i64 0, .int .i64 0, .slice none 0 0] 24)).mono HY6.out.size))
              have S9 := (HC.out.below HY9.out).cells
              have hz9 := one_rws 3 24 (y6) [.int .i64 0, .int .i64 0, .slice none 0 0] rfl (row_one 0 0 none 0 0)
              go_simp
              refine hKq.out _ _ S9 (fun hHeld0 => ?_)
              clear hKq Kq hHeld S9
              have hHeld := hHeld0
              clear hHeld0
              try simp only [Act.put, List.setIfInBounds_toArray, List.set_cons_zero, List.set_cons_succ]
              refine one_step 0 (by kernel_rfl) rfl (fun Kq hKq => ?_)
              have cq10 := (boxed_later HQ.out HY9.out).cell
              have S10 := (HC.out.below HY9.out).cells
              go_simp
              refine hKq.out _ _ S10 (fun hHeld0 => ?_)
              clear hKq Kq hHeld cq10 S10
              have hHeld := hHeld0
              clear hHeld0
              try simp only [Act.put, List.setIfInBounds_toArray, List.set_cons_zero, List.set_cons_succ]
              refine take_run 3 (.int .i64 m0) rfl (by kernel_rfl) (by kernel_rfl) (by kernel_rfl) (fun _ _ _ h => h) rfl hHeld (fun w => ?_) ?_
              · go_simp
              simp only [Act.put, List.setIfInBounds_toArray, List.set_cons_zero, List.set_cons_succ]
              obtain ⟨X, hXe⟩ : ∃ X, (y6).alloc (.cells #[.int .i64 0, .int .i64 0, .slice none 0 0] 24) = X := ⟨_, rfl⟩
              rw [hXe]
              obtain ⟨gz, hgz⟩ : ∃ g, y6.heap.size = g := ⟨_, rfl⟩
              first | rw [hgz] | rw [show (y6).heap.size = gz from hgz]
              exact key X gz k5 n5 A5 m5 c5 (by rw [← hXe]; exact HY9.out) (by rw [← hXe, ← hgz]; exact hz9) (fun _ _ => lies_leaf HI5.out) (by rw [← hXe]; exact hHeld)
          · have HY11 := Lib.hid (HY0.out.trans ((one_alloc (Y0) (.cells #[.int .i64 0, .int .i64 0, .slice none 0 0] 24)).mono HY0.out.size))
            have S11 := (HC.out.below HY11.out).cells
            have hz11 := one_rws 3 24 (Y0) [.int .i64 0, .int .i64 0, .slice none 0 0] rfl (row_one 0 0 none 0 0)
            go_simp
            refine hKq.out _ _ S11 (fun hHeld0 => ?_)
            clear hKq Kq hHeld S11
            have hHeld := hHeld0
            clear hHeld0
            try simp only [Act.put, List.setIfInBounds_toArray, List.set_cons_zero, List.set_cons_succ]
            refine two_steps 0 2 (by kernel_rfl) rfl rfl (fun Kq hKq => ?_) (fun Kq hKq => ?_)
            · have cq12 := (boxed_later HQ.out HY11.out).cell
              have S12 := (HC.out.below HY11.out).cells
              go_simp
              refine hKq.out _ _ S12 (fun hHeld0 => ?_)
              clear hKq Kq hHeld cq12 S12
              have hHeld := hHeld0
              clear hHeld0
              try simp only [Act.put, List.setIfInBounds_toArray, List.set_cons_zero, List.set_cons_succ]
              refine take_run 3 (.int .i64 m0) rfl (by kernel_rfl) (by kernel_rfl) (by kernel_rfl) (fun _ _ _ h => h) rfl hHeld (fun w => ?_) ?_
              · go_simp
              simp only [Act.put, List.setIfInBounds_toArray, List.set_cons_zero, List.set_cons_succ]
              refine one_step 2 (by kernel_rfl) rfl (fun Kq hKq => ?_)
              go_simp
              go_at_call 31
              have hcc := own_any _ (.node 1 n []) 1 n A m c ((Y0).alloc (.cells #[.int .i64 0, .int .i64 0, .slice none 0 0] 24)) (HIW.out.later HY11.out) (by simp [Te.size, Te.sizes])
              (with_reducible refine hcc.mono ?_)
              rintro e y13 ⟨k5, n5, A5, m5, c5, rfl, hI5, hby⟩
              have HY13 := Lib.hid (HY11.out.trans (hby.mono HY11.out.size))
              have S13 := (HC.out.below HY13.out).cells
              have hz13 := hz11.below hby
              have HI5 := Lib.hid hI5
              refine hKq.out _ _ S13 (fun hHeld0 => ?_)
              clear hKq Kq hHeld S13 hcc hby hI5
              have hHeld := hHeld0
              clear hHeld0
              try simp only [Act.put, List.setIfInBounds_toArray, List.set_cons_zero, List.set_cons_succ]
              obtain ⟨X, hXe⟩ : ∃ X, y13 = X := ⟨_, rfl⟩
              rw [hXe]
              obtain ⟨gz, hgz⟩ : ∃ g, Y0.heap.size = g := ⟨_, rfl⟩
              first | rw [hgz] | rw [show (Y0).heap.size = gz from hgz]
              exact key X gz k5 n5 A5 m5 c5 (by rw [← hXe]; exact HY13.out) (by rw [← hXe, ← hgz]; exact hz13) (fun _ _ => lies_leaf HI5.out) (by rw [← hXe]; exact hHeld)
            · go_simp
              go_at_call 31
              have hcc := own_any _ (.node 1 n []) 1 n A m c ((Y0).alloc (.cells #[.int .i64 0, .int .i64 0, .slice none 0 0] 24)) (HIW.out.later HY11.out) (by simp [Te.size, Te.sizes])
              (with_reducible refine hcc.mono ?_)
              rintro e y14 ⟨k5, n5, A5, m5, c5, rfl, hI5, hby⟩
              have HY14 := Lib.hid (HY11.out.trans (hby.mono HY11.out.size))
              have S14 := (HC.out.below HY14.out).cells
              have hz14 := hz11.below hby
              have HI5 := Lib.hid hI5
              refine hKq.out _ _ S14 (fun hHeld0 => ?_)
              clear hKq Kq hHeld S14 hcc hby hI5
              have hHeld := hHeld0
              clear hHeld0
              try simp only [Act.put, List.setIfInBounds_toArray, List.set_cons_zero, List.set_cons_succ]
              refine one_step 0 (by kernel_rfl) rfl (fun Kq hKq => ?_)
              have cq15 := (boxed_later HQ.out HY14.out).cell
              have S15 := (HC.out.below HY14.out).cells
              go_simp
              refine hKq.out _ _ S15 (fun hHeld0 => ?_)
              clear hKq Kq hHeld cq15 S15
              have hHeld := hHeld0
              clear hHeld0
              try simp only [Act.put, List.setIfInBounds_toArray, List.set_cons_zero, List.set_cons_succ]
              refine take_run 3 (.int .i64 m0) rfl (by kernel_rfl) (by kernel_rfl) (by kernel_rfl) (fun _ _ _ h => h) rfl hHeld (fun w => ?_) ?_
              · go_simp
              simp only [Act.put, List.setIfInBounds_toArray, List.set_cons_zero, List.set_cons_succ]
              obtain ⟨X, hXe⟩ : ∃ X, y14 = X := ⟨_, rfl⟩
              rw [hXe]
              obtain ⟨gz, hgz⟩ : ∃ g, Y0.heap.size = g := ⟨_, rfl⟩
              first | rw [hgz] | rw [show (Y0).heap.size = gz from hgz]
              exact key X gz k5 n5 A5 m5 c5 (by rw [← hXe]; exact HY14.out) (by rw [← hXe, ← hgz]; exact hz14) (fun _ _ => lies_leaf HI5.out) (by rw [← hXe]; exact hHeld)
        case key =>
          intro X gz k5 n5 A5 m5 c5 hX hzk hlv hHeld
          have HX := Lib.hid hX
          have HLV := Lib.hid hlv
          clear hX hlv
          refine one_step 5 (by kernel_rfl) rfl (fun Kq hKq => ?_)
          refine step_append_r_at 22 24 3 40 _ _ rfl Try.underlying22 info_term (by omega) w0.heap.size (.slice A0 m0 c0) rows rfl (HM.out.far HX.out).own _ 1 1 [[.int .i64 0, .int .i64 0, .slice none 0 0]] rfl hzk (by have := HRL.out; omega) (by have := HRL.out; omega) (Nat.le_trans HS.out HX.out.size) rfl ?_
          intro v6 w6 hown6 hg6 hat6
          obtain ⟨hM6, hT6⟩ := (HM.out.far HX.out).add (lies_zero _ _ 0 0) hown6 hg6 hat6
          have hc6 := (HC.out.below HX.out).turns hT6 HNG.out
          have hq6 := boxed_turns (boxed_later HQ.out HX.out) hT6 HNQ.out
          have hG6 := (HGR.out.trans (Grows.below q _ HX.out)).trans (Grows.of_turns q hT6)
          have hne6 := hT6.ne (HC.out.below HX.out).lt HNG.out
          obtain ⟨A6, m6, c6, rfl, hI6⟩ := hM6.had.is
          have hl6 := hI6.len.1
          rw [List.length_append, List.length_singleton, HLEN.out] at hl6
          have h63 := hI6.len.2.2.2
          have HS6 := Lib.hid hc6.cells
          refine hKq.out _ _ HS6.out (fun hHeld0 => ?_)
          obtain ⟨g6, _, _, _, _, _, rfl, hBg6, hgl6, _, hcl6, hfr6⟩ := hM6.had.spot out.length (by simp)
          rw [HLEN.out] at hcl6 hfr6
          clear hKq Kq hHeld hown6 hg6 hat6 hT6 hI6 hzk
          have hHeld := hHeld0
          clear hHeld0
          try simp only [Act.put, List.setIfInBounds_toArray, List.set_cons_zero, List.set_cons_succ]
          have q0 : 0 ≤ (m0 : Int) := by omega
          have q1 : (m0 : Int) < m6 := by omega
          have hgq6 : g6 ≠ q := by omega
          have hgt6 : w.heap.size ≠ g6 := fun e => hne6 (by rw [e]; rfl)
          have HM6 := Lib.hid hM6
          have HQ6 := Lib.hid hq6
          have HG6 := Lib.hid hG6
          have HC6 := Lib.hid hc6
          have HCL := Lib.hid hcl6
          have HFR := Lib.hid hfr6
          clear hM6 hq6 hG6 hc6 hcl6 hfr6
          refine take_run 6 (.pointer (some ⟨g6, m0 * 3, none⟩)) rfl (by kernel_rfl) (by kernel_rfl) (by kernel_rfl) (fun _ _ _ h => h) rfl hHeld (fun w => ?_) ?_
          · go_simp
          simp only [Act.put, List.setIfInBounds_toArray, List.set_cons_zero, List.set_cons_succ]
          refine two_steps 7 8 (by kernel_rfl) rfl rfl (fun Kq hKq => ?_) (fun Kq hKq => ?_)
          · obtain ⟨r0, r1, r2⟩ := HCL.out
            obtain ⟨f0, f1, f2⟩ := HFR.out
            have S7 := (cup_far (cup_far (cup_far HC6.out hgt6 (m0 * 3) (.int .i64 k5)) hgt6 (m0 * 3 + 1) (.int .i64 n5)) hgt6 (m0 * 3 + 2) (.slice A5 m5 c5)).cells
            have hq7 := boxed_far (boxed_far (boxed_far HQ6.out hgq6.symm (m0 * 3) (.int .i64 k5)) hgq6.symm (m0 * 3 + 1) (.int .i64 n5)) hgq6.symm (m0 * 3 + 2) (.slice A5 m5 c5)
            have HQ7 := Lib.hid hq7
            clear hq7
            go_simp
            refine hKq.out _ _ S7 (fun hHeld0 => ?_)
            clear hKq Kq hHeld S7 r0 r1 r2 f0 f1 f2
            have hHeld := hHeld0
            clear hHeld0
            try simp only [Act.put, List.setIfInBounds_toArray, List.set_cons_zero, List.set_cons_succ]
            refine one_step 8 (by kernel_rfl) rfl (fun Kq hKq => ?_)
            have u0 := HQ7.out.cell
            have u1 := HQ7.out.frozen
            have S8 := (cup_far (cup_far (cup_far (cup_far HC6.out hgt6 (m0 * 3) (.int .i64 k5)) hgt6 (m0 * 3 + 1) (.int .i64 n5)) hgt6 (m0 * 3 + 2) (.slice A5 m5 c5)) HGQ.out 0 (.slice (some ⟨g6, 0, none⟩) m6 c6)).cells
            go_simp
            refine hKq.out _ _ S8 (fun hHeld0 => ?_)
            clear hKq Kq hHeld S8 u0 u1
            have hHeld := hHeld0
            clear hHeld0
            try simp only [Act.put, List.setIfInBounds_toArray, List.set_cons_zero, List.set_cons_succ]
            refine wpAnyH_done (by kernel_rfl) ?_ _
            go_wp2
            go_end0
            exact ⟨rfl, _, _, (((HG6.out.put rfl _ _).put rfl _ _).put rfl _ _).set _, HQ7.out.set _, by rw [HLK.out]; exact made_last HLEN.out ((HM6.out.turn m0 (by have := HLEN.out; simp; omega) (HLV.out _ _)).elsewhere HQL.out _)⟩
          · have u0 := HQ6.out.cell
            have u1 := HQ6.out.frozen
            have S7 := (cup_far HC6.out HGQ.out 0 (.slice (some ⟨g6, 0, none⟩) m6 c6)).cells
            go_simp
            refine hKq.out _ _ S7 (fun hHeld0 => ?_)
            clear hKq Kq hHeld S7 u0 u1
            have hHeld := hHeld0
            clear hHeld0
            try simp only [Act.put, List.setIfInBounds_toArray, List.set_cons_zero, List.set_cons_succ]
            refine one_step 7 (by kernel_rfl) rfl (fun Kq hKq => ?_)
            obtain ⟨r0, r1, r2⟩ := HCL.out
            obtain ⟨f0, f1, f2⟩ := HFR.out
            have s0 := (World.cell?_of_block (w := w6) (w' := w6.setCell ⟨q, 0, none⟩ (.slice (some ⟨g6, 0, none⟩) m6 c6)) (a := ⟨g6, m0 * 3, none⟩) (Below.heap_setCell _ _ _ _ hgq6)).trans r0
            have t0 := (World.frozen?_of_block (w := w6) (w' := w6.setCell ⟨q, 0, none⟩ (.slice (some ⟨g6, 0, none⟩) m6 c6)) (a := ⟨g6, m0 * 3, none⟩) (Below.heap_setCell _ _ _ _ hgq6)).trans f0
            have s1 := (World.cell?_of_block (w := w6) (w' := w6.setCell ⟨q, 0, none⟩ (.slice (some ⟨g6, 0, none⟩) m6 c6)) (a := ⟨g6, m0 * 3 + 1, none⟩) (Below.heap_setCell _ _ _ _ hgq6)).trans r1
            have t1 := (World.frozen?_of_block (w := w6) (w' := w6.setCell ⟨q, 0, none⟩ (.slice (some ⟨g6, 0, none⟩) m6 c6)) (a := ⟨g6, m0 * 3 + 1, none⟩) (Below.heap_setCell _ _ _ _ hgq6)).trans f1
            have s2 := (World.cell?_of_block (w := w6) (w' := w6.setCell ⟨q, 0, none⟩ (.slice (some ⟨g6, 0, none⟩) m6 c6)) (a := ⟨g6, m0 * 3 + 2, none⟩) (Below.heap_setCell _ _ _ _ hgq6)).trans r2
            have t2 := (World.frozen?_of_block (w := w6) (w' := w6.setCell ⟨q, 0, none⟩ (.slice (some ⟨g6, 0, none⟩) m6 c6)) (a := ⟨g6, m0 * 3 + 2, none⟩) (Below.heap_setCell _ _ _ _ hgq6)).trans f2
            have S8 := (cup_far (cup_far (cup_far (cup_far HC6.out HGQ.out 0 (.slice (some ⟨g6, 0, none⟩) m6 c6)) hgt6 (m0 * 3) (.int .i64 k5)) hgt6 (m0 * 3 + 1) (.int .i64 n5)) hgt6 (m0 * 3 + 2) (.slice A5 m5 c5)).cells
            clear r0 r1 r2 f0 f1 f2
            go_simp
            refine hKq.out _ _ S8 (fun hHeld0 => ?_)
            clear hKq Kq hHeld S8 s0 s1 s2 t0 t1 t2
            have hHeld := hHeld0
            clear hHeld0
            try simp only [Act.put, List.setIfInBounds_toArray, List.set_cons_zero, List.set_cons_succ]
            refine wpAnyH_done (by kernel_rfl) ?_ _
            go_wp2
            go_end0
            exact ⟨rfl, _, _, (((HG6.out.set _).put rfl _ _).put rfl _ _).put rfl _ _, boxed_far (boxed_far (boxed_far (HQ6.out.set _) hgq6.symm _ _) hgq6.symm _ _) hgq6.symm _ _, by rw [HLK.out]; exact made_last HLEN.out ((HM6.out.elsewhere HQL.out _).turn m0 (by have := HLEN.out; simp; omega) (HLV.out _ _))⟩
  · have hk0 : (k == 0) = false := by rw [beq_eq_false_iff_ne]; omega
    have hk1 : (k == 1) = false := by rw [beq_eq_false_iff_ne]; omega
    have HI2 := Lib.hid (keys_no HKS.out (n := 0) (l := [a, b]) (show k ≠ 1 by omega))
    cases hi : isIn K (.node k 0 [a, b]) with
    | true =>
      rw [hi] at HIN
      have HLK := Lib.hid (lacks_in (out := out) hi)
      clear hi
      go_enter Try.func33, Try.ntmps33
      go_wp2_with (go_at_call 34
                   rw [HW.out]
                   (with_reducible refine HIN.out.mono ?_)
                   rintro e w2 ⟨rfl, hb2⟩
                   have HB2 := Lib.hid hb2
                   clear hb2)
      go_end0
      exact ⟨rfl, _, rows, HGR.out.trans (Grows.below q _ HB2.out), boxed_later HQ.out HB2.out, by rw [HLK.out]; exact HM.out.far HB2.out⟩
    | false =>
      rw [hi] at HIN
      have HLK := Lib.hid (lacks_two (out := out) (by omega) (by omega) hi)
      have hla := lacks_len (K := K) hga out
      have HKA := Lib.hid (lacks_kinds (K := K) HKS.out hga)
      clear hi
      simp only [Te.size, Te.sizes] at hN
      have HGA := Lib.hid hga
      have HGB := Lib.hid hgb
      have hm2 : m = 2 := by have := HI.out.len.1; simpa using this.symm
      subst hm2
      clear hga hgb
      obtain ⟨bl, off, k1, n1, A1, m1, c1, k2, n2, A2, m2, c2, rfl, hbl, hI1, hI2, hcl⟩ := HI.out.two (Below.refl _ w0)
      have hbq : bl ≠ q := by
        obtain ⟨_, _, _, _, _, _, _, hA, hPb, _⟩ := HI.out.arg 0 (by omega) (by simp)
        injection hA with hA
        injection hA with hA1 _ _
        rw [hA1]
        exact hPb.2
      have HBQ := Lib.hid hbq
      have HBL := Lib.hid hbl
      have HI1 := Lib.hid hI1
      have HI3 := Lib.hid hI2
      have HCL := Lib.hid hcl
      clear hI1 hI2 hcl hbq hbl
      go_enter Try.func33, Try.ntmps33
      go_wp2_with (first
        | (go_at_call 34
           rw [HW.out]
           (with_reducible refine HIN.out.mono ?_)
           rintro e w2 ⟨rfl, hb2⟩
           obtain ⟨y0, y1, y2⟩ := (HC.out.below hb2).cells
           have cq := (boxed_later HQ.out hb2).cell
           have HB2 := Lib.hid hb2
           clear hb2)
        | (go_at_call 34
           have hc3 := has_any _ _ out (.node k 0 [a, b]) A0 m0 c0 k 0 (some ⟨bl, off, none⟩) 2 c w2 (HM.out.far HB2.out).had.is' (HIW.out.later HB2.out)
           rw [HI2.out] at hc3
           (with_reducible refine hc3.mono ?_)
           rintro e w3 ⟨rfl, hb3⟩
           have HB3 := Lib.hid (HB2.out.trans (hb3.mono HB2.out.size))
           obtain ⟨z0, z1, z2⟩ := (HC.out.below HB3.out).cells
           have cf := (boxed_later HF.out HB3.out).cell
           have hbw := HB1.out.trans (But.of_below HB3.out)
           obtain ⟨d0, d1, d2, d3, d4, d5⟩ := HCL.out
           have hblk := hbw.block bl HBL.out HBQ.out
           have s0 := (World.cell?_of_block (w := w0) (w' := w3) (a := ⟨bl, off, none⟩) hblk).trans d0
           have s1 := (World.cell?_of_block (w := w0) (w' := w3) (a := ⟨bl, off + 1, none⟩) hblk).trans d1
           have s2 := (World.cell?_of_block (w := w0) (w' := w3) (a := ⟨bl, off + 2, none⟩) hblk).trans d2
           have HBW := Lib.hid hbw.drew
           clear hb3 hc3 hbw hblk d0 d1 d2 d3 d4 d5))
      clear y0 y1 y2 z0 z1 cq cp1
      have HCA := Lib.hid (show Calls Try.prog 33 #[.agg #[.int .i64 k1, .int .i64 n1, .slice A1 m1 c1], .pointer (some ⟨p, 0, none⟩), .pointer (some ⟨q, 0, none⟩), .pointer (some ⟨f, 0, none⟩)] w3.drew (Looked w0.heap.size q (.slice A0 m0 c0) (a.lacks K out) w3.drew) from IH.out 0 (by simp) k1 n1 A1 m1 c1 HI1.out w3.drew _ rows out HBW.out (boxed_later HQ.out HB3.out.drew) (HM.out.far HB3.out.drew) HKS.out HGA.out (show out.length + a.size ≤ 1000000 by omega))
      go_still_tail 5, (by kernel_rfl)
      go_wp2_with (go_at_call 33
                   (with_reducible refine HCA.out.mono ?_)
                   rintro e w4 ⟨rfl, v4, rows4, hG4, hQ4, hM4⟩
                   have hb4 := hG4.but HBW.out (fun g hg => (HM.out.own.size g hg).1)
                   have c4 := (HC.out.below HB3.out.drew).grows hG4 HGQ.out HNG.out
                   obtain ⟨t0, t1, t2⟩ := c4.cells
                   have cf4 := (hb4.boxed HF0.out hfq).cell
                   obtain ⟨d0, d1, d2, d3, d4, d5⟩ := HCL.out
                   have hblk := hb4.block bl HBL.out HBQ.out
                   have r3 := (World.cell?_of_block (w := w0) (w' := w4) (a := ⟨bl, off + 3, none⟩) hblk).trans d3
                   have r4 := (World.cell?_of_block (w := w0) (w' := w4) (a := ⟨bl, off + 3 + 1, none⟩) hblk).trans d4
                   have r5 := (World.cell?_of_block (w := w0) (w' := w4) (a := ⟨bl, off + 3 + 2, none⟩) hblk).trans d5
                   have hcb : Calls Try.prog 33 #[.agg #[.int .i64 k2, .int .i64 n2, .slice A2 m2 c2], .pointer (some ⟨p, 0, none⟩), .pointer (some ⟨q, 0, none⟩), .pointer (some ⟨f, 0, none⟩)] w4.drew (Looked w0.heap.size q v4 (b.lacks K (a.lacks K out)) w4.drew) := IH.out 1 (by simp) k2 n2 A2 m2 c2 HI3.out w4.drew _ rows4 _ hb4.drew hQ4 (hM4.far ((Below.refl _ w4).drew)) HKA.out HGB.out (show (a.lacks K out).length + b.size ≤ 1000000 by omega)
                   have HCB := Lib.hid hcb
                   have HG4 := Lib.hid (((HGR.out.trans (Grows.below q _ HB3.out.drew)).trans hG4).trans (Grows.below q _ ((Below.refl _ w4).drew)))
                   clear hG4 hQ4 hM4 hb4 c4 hblk hcb d0 d1 d2 d3 d4 d5)
      clear cf s0 s1 s2 z2
      go_still_tail 5, (by kernel_rfl)
      go_wp2_with (go_at_call 33
                   (with_reducible refine HCB.out.mono ?_)
                   rintro e w5 ⟨rfl, v5, rows5, hG5, hQ5, hM5⟩
                   have HG5 := Lib.hid (HG4.out.trans hG5)
                   have HQ5 := Lib.hid hQ5
                   have HM5 := Lib.hid hM5
                   clear hG5 hQ5 hM5)
      go_end0
      exact ⟨rfl, v5, rows5, HG5.out, HQ5.out, by rw [HLK.out]; exact HM5.out⟩
end Go.Proofs.Ytcpeaeefphgbaaa
