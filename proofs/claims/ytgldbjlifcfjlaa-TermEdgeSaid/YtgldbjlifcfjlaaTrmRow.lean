/- The walks over package term's word, and over slices.Min: what a row is. -/
import Derived.Test.YtgldbjlifcfjlaaTrmOwn2
import Derived.Test.YtgldbjlifcfjlaaBasInts
namespace Go.Proofs.Ytgldbjlifcfjlaa
set_option linter.unusedVariables false
set_option linter.unusedSimpArgs false
open Go.RowKit

/-- the row of numbers: of one number its word, of more the pair of the first one's word and the row of the others -/
def rowT : List Int → Te
  | [] => .node 0 0 []
  | [x] => .node 0 x []
  | x :: y :: l => .node 2 0 [.node 0 x [], rowT (y :: l)]
def rowB (l : List Int) : Bool := decide (0 < l.length ∧ l.length ≤ 12) && l.all (fun x => decide (0 ≤ x))
theorem rowB_is (l : List Int) : rowB l = true ↔ 0 < l.length ∧ l.length ≤ 12 ∧ ∀ x ∈ l, 0 ≤ x := by
  unfold rowB
  rw [Bool.and_eq_true, decide_eq_true_eq, List.all_eq_true, and_assoc]
  simp

theorem word_any (n : Int) (w : World) : Calls Try.prog 27 #[.int .i64 n] w fun e w' => e = .returned (.agg #[.int .i64 0, .int .i64 n, .slice none 0 0]) ∧ Below w.heap.size w w' := by
  go_enter Try.func27, Try.ntmps27
  go_wp2
  refine bodyPost_ret (v := .agg #[.int .i64 0, .int .i64 n, .slice none 0 0]) (by simp [results, Try.results27, go_sem]) rfl ⟨rfl, ?_⟩
  exact one_alloc _ _
theorem word_is (P : Nat → Prop) (n : Int) (w : World) : Is P w (.node 0 n []) 0 n none 0 0 := ⟨.mk (Rws.nil 3 w) (fun h => by omega) rfl (fun i hi => by simp at hi)⟩

set_option maxHeartbeats 1000000 in
theorem min_any (A : Option Addr) (n c : Nat) (l : List Int) (w : World) (hl : Its .i64 w A n c l) (hn : 0 < n) :
    Calls Try.prog 26 #[.slice A n c] w fun e w' => (∃ x : Int, e = .returned (.int .i64 x) ∧ (0 ≤ x ↔ ∀ y ∈ l, 0 ≤ y)) ∧ w' = w := by
  obtain ⟨b, off, rfl, hc⟩ := hl.at_ hn
  have hn63 := hl.small
  have h0 := hc 0 hn
  have hll := hl.len
  have HLL := Lib.hid hll
  have HC := Lib.hid hc
  clear hc hl hll
  rw [Nat.add_zero] at h0
  go_enter Try.func26, Try.ntmps26
  go_wp2
  go_loop [3, 4] (fun u v => ∃ (k : Nat) (x : Int), 1 ≤ k ∧ k ≤ n ∧ v = .int .i64 k ∧ u = .int .i64 x ∧ (0 ≤ x ↔ ∀ y ∈ l.take k, 0 ≤ y)) (fun _ v => n - (intOf v).toNat)
  case atStart =>
    refine ⟨1, _, by omega, by omega, rfl, rfl, ?_⟩
    have h1 := HLL.out
    cases l with
    | nil => simp at h1; omega
    | cons x l => simp
  case round =>
    obtain ⟨k, x, hk1, hk, rfl, rfl, hx⟩ := hrel
    have HX := Lib.hid hx
    clear hx
    by_cases hlt : k < n
    · have hck := HC.out k hlt
      obtain ⟨y, hy⟩ : ∃ y, l.getD k 0 = y := ⟨_, rfl⟩
      rw [hy] at hck
      have HY := Lib.hid hy
      clear hy
      have hst : ∀ z : Int, (z = x ∧ x ≤ y) ∨ (z = y ∧ y ≤ x) → (0 ≤ z ↔ ∀ y ∈ l.take (k + 1), 0 ≤ y) := fun z hz => by
        have hkl : k < l.length := by rw [HLL.out]; exact hlt
        have hy2 : l[k] = y := by rw [← HY.out]; simp [List.getD_eq_getElem?_getD, hkl]
        rw [List.take_succ_eq_append_getElem hkl, hy2]
        simp only [List.mem_append, List.mem_singleton]
        constructor
        · intro h v hv
          rcases hv with hv | rfl
          · exact HX.out.1 (by omega) v hv
          · omega
        · intro h
          have h1 := HX.out.2 fun v hv => h v (.inl hv)
          have h2 := h y (.inr rfl)
          omega
      have HST := Lib.hid hst
      clear hst
      by_cases hxy : x < y
      · go_wp2
        all_goals
          go_round
          case rel => exact ⟨k + 1, _, by omega, by omega, by go_num, rfl, HST.out _ (by omega)⟩
          case measure => simp [intOf]; omega
      · go_wp2
        all_goals
          go_round
          case rel => exact ⟨k + 1, _, by omega, by omega, by go_num, rfl, HST.out _ (by omega)⟩
          case measure => simp [intOf]; omega
    · obtain rfl : k = n := by omega
      go_wp2
      go_ret
      refine ⟨⟨x, rfl, ?_⟩, rfl⟩
      have h1 := HX.out
      rwa [List.take_of_length_le (by rw [HLL.out]; exact Nat.le_refl _)] at h1
end Go.Proofs.Ytgldbjlifcfjlaa
