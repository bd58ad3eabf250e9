/- The walks over the plain answers' turned, constant and numbers. -/
import Derived.Test.YtomfnnhdihbpfaaDoorShaRounded
import Derived.OwnWalk
namespace Go.Proofs.YtomfnnhdihbpfaaDoor
open Go.RowKit

set_option maxHeartbeats 400000 in
theorem rturned_any (x n : Int) (w : World) (hn : 0 ≤ n) (hn2 : n < 32) :
    Calls Tryd.prog 46 #[.int .u32 x, .int .u32 n] w fun e w' => e = .returned (.int .u32 (rot x n)) ∧ w = w' := by
  go_enter Tryd.func46, Tryd.ntmps46
  go_wp2
  go_ret
  exact ⟨rfl, rfl⟩

set_option maxRecDepth 100000 in
set_option maxHeartbeats 400000 in
theorem rconst_any (k : Nat) (w : World) (hk : k < 64) :
    Calls Tryd.prog 47 #[.int .i64 k] w fun e w' => e = .returned (.int .u32 (kList.getD k 0)) ∧ Below w.heap.size w w' := by
  obtain ⟨K, hKd⟩ : ∃ K, K = kList := ⟨_, rfl⟩
  have hKl : K.length = 64 := by rw [hKd]; rfl
  rw [← hKd]
  obtain ⟨x, hx⟩ : ∃ x, x = K.getD k 0 := ⟨_, rfl⟩
  rw [← hx]
  have HK := Lib.hid hKd
  have HL := Lib.hid hKl
  have HX := Lib.hid hx
  have p0 : 0 ≤ (k : Int) := by omega
  have q0 : (k : Int) < 64 := by omega
  clear hKd hKl hx
  go_enter Tryd.func47, Tryd.ntmps47
  go_wp2_with (first
    | ((with_reducible refine wpList_store_r32 rfl 60 _ _ rfl w.heap.size K ?hx ?hy 60 (List.replicate 64 0) (row_lit w 60 _ _ ?hz) (info64 HL.out) ?hl ?hm); (case hx => rfl); (case hy => rw [HK.out]; rfl); (case hz => rfl); (case hl => rw [HL.out]; rfl)
       intro w2 hg2 hR2 hs2
       have hc2 := hR2.cell k (by rw [HL.out]; exact hk)
       rw [← HX.out] at hc2
       have hb2 : Below w.heap.size w w2 := Below.grows ((Below.refl _ _).alloc (Nat.le_refl _) _) hg2 (by simp) (Nat.le_refl _)
       clear hg2 hs2))
  go_ret
  exact ⟨rfl, hb2⟩
end Go.Proofs.YtomfnnhdihbpfaaDoor
