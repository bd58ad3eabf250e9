/- The walk over the document's answer Rows: are two lists of bytes the same? -/
import Derived.Test.YtadcbikdbekmgaaFrmSplit
import Derived.Test.YtadcbikdbekmgaaFrmLongW
import Derived.BigQuiet
namespace Go.Proofs.Ytadcbikdbekmgaa
set_option linter.unusedVariables false
set_option linter.unusedSimpArgs false
open Go.RowKit

/-- a slice of slices of bytes -/
structure Lst (w : World) (A : Option Addr) (n c : Nat) (sl : List Sl) (L : List (List Int)) : Prop where
  rws : Rws 1 w A n c (sl.map slR)
  len : sl.length = L.length
  bts : ∀ i, i < L.length → Bts w (sl.getD i (none, 0, 0)).1 (sl.getD i (none, 0, 0)).2.1 (sl.getD i (none, 0, 0)).2.2 (L.getD i [])
theorem Lst.below {w w' : World} {A : Option Addr} {n c : Nat} {sl : List Sl} {L : List (List Int)} (h : Lst w A n c sl L) (hb : Below w.heap.size w w') : Lst w' A n c sl L := ⟨h.rws.below hb, h.len, fun i hi => (h.bts i hi).below hb⟩
theorem Lst.size {w : World} {A : Option Addr} {n c : Nat} {sl : List Sl} {L : List (List Int)} (h : Lst w A n c sl L) : L.length = n := by rw [← h.rws.len, List.length_map, h.len]
theorem Lst.at_ {w : World} {A : Option Addr} {n c : Nat} {sl : List Sl} {L : List (List Int)} (h : Lst w A n c sl L) (hn : 0 < n) : ∃ b off, A = some ⟨b, off, none⟩ ∧ ∀ j, j < n → w.cell? ⟨b, off + j, none⟩ = some (slV (sl.getD j (none, 0, 0))) := by
  obtain ⟨b, off, hA, hc⟩ := h.rws.at_ hn
  refine ⟨b, off, hA, fun j hj => ?_⟩
  have h1 := hc j hj 0 (by omega)
  have hjl : j < sl.length := by rw [h.len, h.size]; exact hj
  simpa [List.getD_eq_getElem?_getD, hjl, slR] using h1
theorem rows_differ (a b : List (List Int)) (k : Nat) (h : a.getD k [] ≠ b.getD k []) : (a == b) = false := by
  rw [beq_eq_false_iff_ne]
  rintro rfl
  exact h rfl
theorem rows_same (a b : List (List Int)) (n : Nat) (ha : a.length = n) (hb : b.length = n) (h : ∀ j, j < n → a.getD j [] = b.getD j []) : (a == b) = true := by
  rw [beq_iff_eq]
  refine List.ext_getElem (by omega) fun j h1 h2 => ?_
  have := h j (by omega)
  simpa [List.getD_eq_getElem?_getD, h1, h2] using this

set_option maxHeartbeats 2000000 in
theorem rows_any (A B : Option Addr) (n c m d : Nat) (sa sb : List Sl) (a b : List (List Int)) (w : World) (ha : Lst w A n c sa a) (hb : Lst w B m d sb b) :
    Calls Try.prog 16 #[.slice A n c, .slice B m d] w fun e w' => e = .returned (.bool (a == b)) ∧ ∃ j, w' = w.drewN j := by
  have hna := ha.rws.small
  have hmb := hb.rws.small
  by_cases hnm : n = m
  · subst hnm
    have hne : ((n : Int) != (n : Int)) = false := by simp
    have HAL := Lib.hid ha.size
    have HBL := Lib.hid hb.size
    go_enter Try.func16, Try.ntmps16
    go_wp2
    go_loopw [5] (fun i wr => ∃ k : Nat, k ≤ n ∧ i = .int .i64 k ∧ (∀ j, j < k → a.getD j [] = b.getD j []) ∧ ∃ j, wr = w.drewN j) (fun i _ => n - (intOf i).toNat)
    case atStart => exact ⟨0, by omega, rfl, (fun j hj => by omega), 0, rfl⟩
    case round =>
      obtain ⟨k, hk, rfl, hsame, j, rfl⟩ := hrel
      have HS := Lib.hid hsame
      clear hsame
      by_cases hlt : k < n
      · obtain ⟨ba, oa, rfl, hca⟩ := ha.at_ (by omega)
        obtain ⟨bb, ob, rfl, hcb⟩ := hb.at_ (by omega)
        have hxa := hca k hlt
        have hxb := hcb k hlt
        have hba := ha.bts k (by rw [HAL.out]; exact hlt)
        have hbb := hb.bts k (by rw [HBL.out]; exact hlt)
        obtain ⟨⟨ra1, ra2, ra3⟩, hra⟩ : ∃ r, sa.getD k (none, 0, 0) = r := ⟨_, rfl⟩
        obtain ⟨⟨rb1, rb2, rb3⟩, hrb⟩ : ∃ r, sb.getD k (none, 0, 0) = r := ⟨_, rfl⟩
        obtain ⟨x, hx⟩ : ∃ x, a.getD k [] = x := ⟨_, rfl⟩
        obtain ⟨y, hy⟩ : ∃ y, b.getD k [] = y := ⟨_, rfl⟩
        rw [hra] at hxa hba
        rw [hrb] at hxb hbb
        rw [hx] at hba
        rw [hy] at hbb
        unfold slV at hxa hxb
        have hcx : ∀ q, (convert 27 9 (.slice ra1 ra2 ra3)).run Try.prog (w.drewN q) = .ok (.string (bstr x)) (w.drewN q) := fun q => conv_bts (hba.draw q)
        have hcy : ∀ q, (convert 27 9 (.slice rb1 rb2 rb3)).run Try.prog (w.drewN q) = .ok (.string (bstr y)) (w.drewN q) := fun q => conv_bts (hbb.draw q)
        have heq := run_eq_bstr x y hba.ok hbb.ok
        obtain ⟨s1, hs1⟩ : ∃ s, bstr x = s := ⟨_, rfl⟩
        obtain ⟨s2, hs2⟩ : ∃ s, bstr y = s := ⟨_, rfl⟩
        rw [hs1] at hcx heq
        rw [hs2] at hcy heq
        have hp0 : 0 ≤ (k : Int) := by omega
        have hp1 : (k : Int) < n := by omega
        by_cases hxy : x = y
        · have hne1 : (s1.toList == s2.toList) = true := by rw [heq, hxy]; simp
          have hne2 : (s1.toList != s2.toList) = false := by simp [bne, hne1]
          have hnext : ∀ j, j < k + 1 → a.getD j [] = b.getD j [] := fun j hj => by
            by_cases e : j = k
            · rw [e, hx, hy, hxy]
            · exact HS.out j (by omega)
          have HN := Lib.hid hnext
          clear hx hy hnext hca hcb hs1 hs2 heq hba hbb hra hrb
          go_wp2
          go_quiet (fail)
          go_wp2
          go_roundw
          case rel => exact ⟨k + 1, by omega, by go_num, HN.out, _, rfl⟩
          case measure => simp [intOf]; omega
        · have hne1 : (s1.toList == s2.toList) = false := by rw [heq, beq_eq_false_iff_ne]; exact hxy
          have hne2 : (s1.toList != s2.toList) = true := by simp [bne, hne1]
          have hres : false = (a == b) := (rows_differ a b k (by rw [hx, hy]; exact hxy)).symm
          have HR := Lib.hid hres
          clear hx hy hres hxy hca hcb hs1 hs2 heq hba hbb hra hrb
          go_wp2
          go_quiet (fail)
          go_wp2
          go_ret
          exact ⟨congrArg (fun b => Ending.returned (Value.bool b)) HR.out, _, World.drewN_drewN _ _ _⟩
      · have hkn : k = n := by omega
        subst hkn
        have hge : ¬ ((k : Int) < k) := by omega
        have hres : true = (a == b) := (rows_same a b k HAL.out HBL.out HS.out).symm
        have HR := Lib.hid hres
        clear hres
        go_wp2
        go_ret
        exact ⟨congrArg (fun b => Ending.returned (Value.bool b)) HR.out, _, rfl⟩
  · have hne : ((n : Int) != (m : Int)) = true := by rw [bne_iff_ne]; omega
    have hne2 : ¬ n = m := hnm
    have hres : false = (a == b) := by
      symm
      rw [beq_eq_false_iff_ne]
      rintro rfl
      exact hnm (ha.size.symm.trans hb.size)
    have HR := Lib.hid hres
    clear hres
    go_enter Try.func16, Try.ntmps16
    go_wp2
    go_ret
    exact ⟨congrArg (fun b => Ending.returned (Value.bool b)) HR.out, 0, rfl⟩
end Go.Proofs.Ytadcbikdbekmgaa
