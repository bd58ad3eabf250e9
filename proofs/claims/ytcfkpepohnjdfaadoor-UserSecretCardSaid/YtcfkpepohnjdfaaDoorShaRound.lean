/- The walks over package sha's rounds: a number turned, a round, a block's numbers, a register rounded by a block, and by all blocks. -/
import Derived.Test.YtcfkpepohnjdfaaDoorRows
import Derived.Test.YtcfkpepohnjdfaaDoorShaSpec
import Derived.WalkKit
import Derived.WalkSpells
import Derived.WalkLawsBesides
import Derived.Deep.QuietTactic
import Derived.BigQuiet
import Derived.StillTailTactics
namespace Go.Proofs.YtcfkpepohnjdfaaDoor
open Go.RowKit

/-- numbers of 32 bits, as cells -/
def regv (r : List Int) : Array Value := (r.map (Value.int .u32)).toArray
theorem regv_size (r : List Int) : (regv r).size = r.length := by simp [regv]
theorem regv_get (r : List Int) (i : Nat) (h : i < r.length) : (regv r)[i]? = some (.int .u32 (r.getD i 0)) := by
  simp [regv, List.getD_eq_getElem?_getD, h]
theorem regv_set (r : List Int) (i : Nat) (v : Int) : (regv r).setIfInBounds i (.int .u32 v) = regv (r.set i v) := by
  simp [regv, List.map_set]
theorem regv_one (r : List Int) : (regv r).all (·.oneCell') = true := by
  simp only [regv, List.all_toArray, List.all_map, List.all_eq_true]
  intro x _
  rfl

theorem eight {r : List Int} (h : r.length = 8) : ∃ a b c d e f g k, r = [a, b, c, d, e, f, g, k] := by
  match r, h with
  | [a, b, c, d, e, f, g, k], _ => exact ⟨a, b, c, d, e, f, g, k, rfl⟩

set_option maxHeartbeats 400000 in
theorem turned_any (x n : Int) (w : World) (hn : 0 ≤ n) (hn2 : n < 32) :
    Calls Tryd.prog 64 #[.int .u32 x, .int .i64 n] w fun e w' => e = .returned (.int .u32 (rot x n)) ∧ ∃ k, w' = w.drewN k := by
  go_enter Tryd.func64, Tryd.ntmps64
  go_wp2
  go_quiet (fail)
  go_wp2
  go_ret
  exact ⟨rfl, _, rfl⟩

theorem below_round (w : World) (o1 o2 : Obj) (k : Nat) (v0 v1 v2 v3 v4 v5 v6 v7 : Value) :
    Below w.heap.size w (((((((((((w.alloc o1).alloc o2).drewN k).setCell ⟨w.heap.size + 1, 0, none⟩ v0).setCell ⟨w.heap.size + 1, 1, none⟩ v1).setCell ⟨w.heap.size + 1, 2, none⟩ v2).setCell ⟨w.heap.size + 1, 3, none⟩ v3).setCell ⟨w.heap.size + 1, 4, none⟩ v4).setCell ⟨w.heap.size + 1, 5, none⟩ v5).setCell ⟨w.heap.size + 1, 6, none⟩ v6).setCell ⟨w.heap.size + 1, 7, none⟩ v7) :=
  have h := below_drewN ((((Below.refl w.heap.size w).alloc (Nat.le_refl _) o1)).alloc (by simp) o2) k
  have q := Nat.le_succ w.heap.size
  (((((((h.setCell q v0).setCell q v1).setCell q v2).setCell q v3).setCell q v4).setCell q v5).setCell q v6).setCell q v7

set_option maxHeartbeats 1000000 in
theorem round_any (r : List Int) (n : Int) (w : World) (hr : r.length = 8) :
    Calls Tryd.prog 63 #[.agg (regv r), .int .u32 n] w fun e w' => e = .returned (.agg (regv (rnd r n))) ∧ Below w.heap.size w w' := by
  obtain ⟨a, b, c, d, e, f, g, h8, rfl⟩ := eight hr
  simp only [regv, List.map_cons, List.map_nil, rnd]
  go_enter Tryd.func63, Tryd.ntmps63
  go_wp2
  go_quiet (fail)
  go_wp2_with (go_at_call 64; refine (turned_any _ _ _ (by omega) (by omega)).mono ?_; rintro e w' ⟨rfl, k, rfl⟩)
  refine bodyPost_ret (v := .agg #[.int .u32 ((h8 + bigE e + chE e f g + n + (bigA a + majA a b c)) % 4294967296), .int .u32 a, .int .u32 b, .int .u32 c, .int .u32 ((d + (h8 + bigE e + chE e f g + n)) % 4294967296), .int .u32 e, .int .u32 f, .int .u32 g]) (by simp [results, Tryd.results63, go_sem, bigE, bigA, chE, majA, x32, a32]) rfl ⟨rfl, ?_⟩
  exact below_round _ _ _ _ _ _ _ _ _ _ _ _
end Go.Proofs.YtcfkpepohnjdfaaDoor
