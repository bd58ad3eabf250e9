/- The walk over the laws' awake (the chapter's example). -/
import Derived.Test.YtocmhmjjjkamhaaNumGet
namespace Go.Proofs.Ytocmhmjjjkamhaa
set_option linter.unusedVariables false
set_option linter.unusedSimpArgs false
open Go.RowKit

theorem put300 : putL 300 2 = [1, 44] := by decide
theorem num300 : numL (([1, 44] : List Int).drop 0 |>.take 2) = 300 := by decide
set_option maxHeartbeats 1000000 in
theorem nawake_any (w : World) :
    Calls Try.prog 9 #[] w fun e w' => e = .returned (.bool true) ∧ Below w.heap.size w w' := by
  obtain ⟨Z, hZ⟩ : ∃ Z : List Int, Z = [1, 44] := ⟨_, rfl⟩
  have hp : putL 300 2 = Z := by rw [hZ]; exact put300
  have hzl : Z.length = 2 := by rw [hZ]; rfl
  have hzo : ∀ j, 0 ≤ Z.getD j 0 ∧ Z.getD j 0 < 256 := by rw [hZ]; exact ok_all (by decide)
  have hz0 : Z.getD 0 0 = 1 := by rw [hZ]; rfl
  have hz1 : Z.getD 1 0 = 44 := by rw [hZ]; rfl
  have hzn : numL ((Z.drop 0).take 2) = 300 := by rw [hZ]; exact num300
  have HP := Lib.hid hp
  have HL := Lib.hid hzl
  have HO := Lib.hid hzo
  have H0 := Lib.hid hz0
  have H1 := Lib.hid hz1
  have HN := Lib.hid hzn
  clear hZ hp hzl hzo hz0 hz1 hzn
  have hf : fitB 300 1 = false := by decide
  have HF := Lib.hid hf
  clear hf
  go_enter Try.func9, Try.ntmps9
  go_wp2_with (first
    | (go_at_call 10; (with_reducible refine (put_at 300 2 300 2 _ rfl rfl (by omega) (by omega) (by decide)).mono ?_); rintro e w1 ⟨rfl, hX1, hB1⟩
       rw [HP.out] at hX1
       have c0 := hX1.cell 0 (by rw [HL.out]; omega)
       have c1 := hX1.cell 1 (by rw [HL.out]; omega)
       rw [H0.out] at c0
       rw [H1.out] at c1)
    | (go_at_call 10; (with_reducible refine (put_no 300 1 _ (by omega) (by omega) HF.out).mono ?_); rintro e w2 ⟨rfl, rfl⟩)
    | (go_at_call 12; (with_reducible refine (get_at _ 2 2 Z 0 2 0 2 _ rfl rfl (hX1.bts HL.out (by unfold maxLen; omega) HO.out) (by omega) (by omega) (by omega)).mono ?_); rintro e w3 ⟨he, rfl⟩
       rw [HN.out] at he
       subst he))
  go_ret
  exact ⟨rfl, hB1⟩
end Go.Proofs.Ytocmhmjjjkamhaa
