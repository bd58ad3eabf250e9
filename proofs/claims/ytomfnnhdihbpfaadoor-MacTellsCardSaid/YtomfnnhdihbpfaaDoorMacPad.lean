/- The walk over the laws' padded: a key's block, each byte turned by a number. -/
import Derived.Test.YtomfnnhdihbpfaaDoorMacTag
namespace Go.Proofs.YtomfnnhdihbpfaaDoor
open Go.RowKit

theorem Own.form {w : World} {base : Nat} {v : Value} {l : List Int} (h : Own w base v l) (hn : 0 < l.length) :
    ∃ g cap, v = .slice (some ⟨g, 0, none⟩) l.length cap ∧ base ≤ g ∧ g < w.heap.size ∧ l.length ≤ cap ∧ cap ≤ maxLen := by
  rcases h.2 with ⟨_, h0⟩ | ⟨g, cap, cur, hv, hg, hh, hnc, hcm, _⟩
  · omega
  · exact ⟨g, cap, hv, hg, (Array.getElem?_eq_some_iff.1 hh).1, hnc, hcm⟩
section
variable {w : World} {base g n cap : Nat} {l : List Int}
theorem Own.cell (h : Own w base (.slice (some ⟨g, 0, none⟩) n cap) l) (j : Nat) (hj : j < l.length) (hl : l.length = n) : w.cell? ⟨g, j, none⟩ = some (.int .u8 (l.getD j 0)) := by
  subst hl
  rw [World.ownsRow.cellAt h j (by omega), byv_get l j hj]
theorem Own.free (h : Own w base (.slice (some ⟨g, 0, none⟩) n cap) l) (j : Nat) (hl : l.length = n) : w.frozen? ⟨g, j, none⟩ = false := by
  subst hl
  exact World.ownsRow.frozenAt h j
theorem Own.put (h : Own w base (.slice (some ⟨g, 0, none⟩) n cap) l) (j : Nat) (x : Int) (hl : l.length = n) :
    Own (w.setCell ⟨g, j, none⟩ (.int .u8 x)) base (.slice (some ⟨g, 0, none⟩) n cap) (l.set j x) ∧ w.grownBy (w.setCell ⟨g, j, none⟩ (.int .u8 x)) (some g) := by
  subst hl
  have := World.ownsRow.stored h j (.int .u8 x)
  refine ⟨?_, this.2⟩
  unfold Own
  rw [List.length_set, byv, List.map_set]
  exact this.1
end
/-- a list whose first bytes are turned -/
def mixL (x : Int) (l : List Int) : Nat → List Int
  | 0 => l
  | k + 1 => (mixL x l k).set k (xorAt x l k)
theorem mixL_length (x : Int) (l : List Int) (k : Nat) : (mixL x l k).length = l.length := by
  induction k with
  | zero => rfl
  | succ k ih => simp [mixL, ih]
theorem mixL_eq (x : Int) (l : List Int) (k : Nat) (h : k ≤ l.length) : mixL x l k = (List.range k).map (xorAt x l) ++ l.drop k := by
  induction k with
  | zero => simp [mixL]
  | succ k ih =>
    rw [mixL, ih (by omega), List.range_succ, List.map_append, List.append_assoc]
    rw [List.set_append_right _ _ (by simp), List.length_map, List.length_range, Nat.sub_self, List.drop_eq_getElem_cons (show k < l.length by omega), List.set_cons_zero]
    rfl
theorem mixL_at (x : Int) (l : List Int) (k : Nat) (h : k < l.length) : (mixL x l k).getD k 0 = l.getD k 0 := by
  rw [mixL_eq x l k (by omega)]
  simp [List.getD_eq_getElem?_getD, List.getElem?_append_right]
theorem mixL_all (x : Int) (l : List Int) (h : l.length = 64) : mixL x l 64 = xorL x l := by
  rw [mixL_eq x l 64 (by omega), xorL, List.drop_eq_nil_of_le (by omega), List.append_nil]

set_option maxHeartbeats 1000000 in
theorem padded_any (A : Option Addr) (n c : Nat) (x : Int) (key : List Int) (w : World) (hK : KTab w) (hn : n ≤ 1048576) (hk : Bts w A n c key) :
    Calls Tryd.prog 36 #[.slice A n c, .int .u8 x] w fun e w' => ∃ v, e = .returned v ∧ Own w' w.heap.size v (xorL x (blockL key)) ∧ Below w.heap.size w w' := by
  obtain ⟨X, hX⟩ : ∃ X, X = blockL key := ⟨_, rfl⟩
  have hXl : X.length = 64 := by rw [hX]; exact blockL_length _
  have hXo : ∀ j, 0 ≤ X.getD j 0 ∧ X.getD j 0 < 256 := by rw [hX]; exact ok_block key hk.ok
  rw [← hX]
  have HX := Lib.hid hX
  have HXL := Lib.hid hXl
  have HXO := Lib.hid hXo
  clear hX hXl hXo
  go_enter Tryd.func36, Tryd.ntmps36
  go_wp2_with (first
    | (go_at_call 31; refine (block_any A n c key _ hK hn hk).mono ?_; rintro e w1 ⟨rfl, hX1, hB1⟩
       rw [← HX.out] at hX1)
    | (at_builtin
       refine wpList_append_b rfl _ _ rfl w.heap.size (.slice none 0 0) [] rfl (Own.nil _ _) (some ⟨w.heap.size, 0, none⟩) 64 64 X rfl (hX1.bts HXL.out (by unfold maxLen; omega) HXO.out) (by simp only [List.length_nil]; omega) hB1.size ?_
       intro v2 w2 hown2 hg2
       have hB2 : Below w.heap.size w w2 := hB1.grown hg2 hB1.size (fun k hk => by cases hk)
       rw [List.nil_append] at hown2
       obtain ⟨g, cap, rfl, hgb, hgl, hgc, hgm⟩ := hown2.form (by rw [HXL.out]; omega)
       rw [HXL.out] at hown2 hgc ⊢
       clear hg2))
  go_loopw [6] (fun i wr => ∃ k : Nat, k ≤ 64 ∧ i = .int .i64 k ∧ Own wr w.heap.size (.slice (some ⟨g, 0, none⟩) 64 cap) (mixL x X k) ∧ g < wr.heap.size ∧ Below w.heap.size w wr) (fun i _ => 64 - (intOf i).toNat)
  case atStart => exact ⟨0, by omega, rfl, hown2, hgl, hB2⟩
  case round =>
    clear hown2 hB2 hX1 hB1 hgl
    obtain ⟨k, hk, rfl, hown, hgl, hB⟩ := hrel
    have hml := mixL_length x X k
    rw [HXL.out] at hml
    by_cases hlt : k < 64
    · have hcell := hown.cell k (by omega) hml
      have hfr := hown.free k hml
      rw [mixL_at x X k (by rw [HXL.out]; exact hlt)] at hcell
      obtain ⟨y, hy⟩ : ∃ y, y = X.getD k 0 := ⟨_, rfl⟩
      have hnext : mixL x X (k + 1) = (mixL x X k).set k (bits .xor .u8 y x) := by rw [mixL, xorAt, hy]
      rw [← hy] at hcell
      have HN := Lib.hid hnext
      have hput := hown.put k (bits .xor .u8 y x) hml
      have HP := Lib.hid hput
      have HB := Lib.hid hB
      clear hy hnext hml hput hown hB
      go_wp2
      go_roundw
      case rel =>
        refine ⟨k + 1, by omega, by go_num, by rw [HN.out]; exact HP.out.1, by simpa using hgl, HB.out.setCell (p := ⟨g, k, none⟩) hgb _⟩
      case measure => simp [intOf]; omega
    · have hge : 64 ≤ k := by omega
      have h64 : k = 64 := by omega
      rw [h64, mixL_all x X HXL.out] at hown
      have HO := Lib.hid hown
      clear hown h64 hml hk hlt
      go_wp2
      go_ret
      exact ⟨_, rfl, HO.out, hB⟩
end Go.Proofs.YtomfnnhdihbpfaaDoor
