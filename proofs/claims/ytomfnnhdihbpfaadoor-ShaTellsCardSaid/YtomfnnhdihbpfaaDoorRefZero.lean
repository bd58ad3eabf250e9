/- The walks over the plain answers' Add and End, where they answer noughts. -/
import Derived.Test.YtomfnnhdihbpfaaDoorRefTop
import Derived.Test.YtomfnnhdihbpfaaDoorShaSum
namespace Go.Proofs.YtomfnnhdihbpfaaDoor
open Go.RowKit

set_option maxHeartbeats 400000 in
theorem radd_zero_may (x0 x1 x2 x3 x4 x5 x6 x7 len : Int) (A B : Option Addr) (n c m d : Nat) (w : World) (hmay : mayB n len = false) :
    Calls Tryd.prog 20 #[hashV x0 x1 x2 x3 x4 x5 x6 x7 A n c len, .slice B m d] w fun e w' => e = .returned (hashV 0 0 0 0 0 0 0 0 none 0 0 0) ∧ Below w.heap.size w w' := by
  have hi26 : (Tryd.prog.info? 26).map (·.size) = some 10 := by kernel_rfl
  go_enter Tryd.func20, Tryd.ntmps20
  go_wp2_with fail
  refine (rmay_any _ _ _ _ _ _ _ _ _ _ _ _ _).mono ?_
  rintro e w0 ⟨rfl, rfl⟩
  generalize hW : World.alloc _ _ = W
  obtain ⟨hB0, hz0, hX0, hO0⟩ := named_three hW
  have hbe : BoxAt W w.heap.size x0 x1 x2 x3 x4 x5 x6 x7 A n c len := hX0
  have hbo : BoxAt W (w.heap.size + 1) 0 0 0 0 0 0 0 0 none 0 0 0 := hO0
  obtain ⟨o0, o1, o2, o3, o4, o5, o6, o7, o8, o9⟩ := BoxAt.cells hbo
  obtain ⟨f0, f1, f2, f3, f4, f5, f6, f7, f8, f9⟩ := BoxAt.free hbo
  obtain ⟨_, _, _, _, _, _, _, _, _, e9⟩ := BoxAt.cells hbe
  clear hW hX0 hO0 hz0
  rw [hmay]
  go_wp2
  refine bodyPost_ret (v := hashV 0 0 0 0 0 0 0 0 none 0 0 0) ?_ ?_ ?_
  · exact results_cell_row Tryd.results20 _ _ (w.heap.size + 1) 26 _ (0, 0) _ rfl (heap_put10 hbo _ _ _ _ _ _ _ _ _ _) Tryd.underlying26 rfl hi26
  · rfl
  · exact ⟨rfl, below_put10 (Nat.le_succ _) hB0 _ _ _ _ _ _ _ _ _ _⟩

set_option maxHeartbeats 400000 in
theorem radd_zero_room (x0 x1 x2 x3 x4 x5 x6 x7 len : Int) (A B : Option Addr) (n c m d : Nat) (w : World) (hmay : mayB n len = true) (_hm : m ≤ 9223372036854775807) (hroom : 1048576 - len < (m : Int)) :
    Calls Tryd.prog 20 #[hashV x0 x1 x2 x3 x4 x5 x6 x7 A n c len, .slice B m d] w fun e w' => e = .returned (hashV 0 0 0 0 0 0 0 0 none 0 0 0) ∧ Below w.heap.size w w' := by
  obtain ⟨h0, h1, h2⟩ := mayB_yes hmay
  have H2 := Lib.hid h2
  clear h2
  have hi26 : (Tryd.prog.info? 26).map (·.size) = some 10 := by kernel_rfl
  go_enter Tryd.func20, Tryd.ntmps20
  go_wp2_with fail
  refine (rmay_any _ _ _ _ _ _ _ _ _ _ _ _ _).mono ?_
  rintro e w0 ⟨rfl, rfl⟩
  generalize hW : World.alloc _ _ = W
  obtain ⟨hB0, hz0, hX0, hO0⟩ := named_three hW
  have hbe : BoxAt W w.heap.size x0 x1 x2 x3 x4 x5 x6 x7 A n c len := hX0
  have hbo : BoxAt W (w.heap.size + 1) 0 0 0 0 0 0 0 0 none 0 0 0 := hO0
  obtain ⟨o0, o1, o2, o3, o4, o5, o6, o7, o8, o9⟩ := BoxAt.cells hbo
  obtain ⟨f0, f1, f2, f3, f4, f5, f6, f7, f8, f9⟩ := BoxAt.free hbo
  obtain ⟨_, _, _, _, _, _, _, _, _, e9⟩ := BoxAt.cells hbe
  clear hW hX0 hO0 hz0
  rw [hmay]
  go_wp2
  refine bodyPost_ret (v := hashV 0 0 0 0 0 0 0 0 none 0 0 0) ?_ ?_ ?_
  · exact results_cell_row Tryd.results20 _ _ (w.heap.size + 1) 26 _ (0, 0) _ rfl (heap_put10 hbo _ _ _ _ _ _ _ _ _ _) Tryd.underlying26 rfl hi26
  · rfl
  · exact ⟨rfl, below_put10 (Nat.le_succ _) hB0 _ _ _ _ _ _ _ _ _ _⟩

set_option maxHeartbeats 400000 in
theorem rend_zero (x0 x1 x2 x3 x4 x5 x6 x7 len : Int) (A : Option Addr) (n c : Nat) (w : World) (hmay : mayB n len = false) :
    Calls Tryd.prog 25 #[hashV x0 x1 x2 x3 x4 x5 x6 x7 A n c len] w fun e w' => e = .returned (.agg (idv (List.replicate 32 0))) ∧ Below w.heap.size w w' := by
  go_enter Tryd.func25, Tryd.ntmps25
  go_wp2_with fail
  refine (rmay_any _ _ _ _ _ _ _ _ _ _ _ _ _).mono ?_
  rintro e w0 ⟨rfl, rfl⟩
  generalize hW : World.alloc _ _ = W
  obtain ⟨hB0, hz0, hX0, hO0⟩ := named_three hW
  have hO0 : RowB W (w.heap.size + 1) 33 (List.replicate 32 0) := hO0
  clear hW hX0 hz0
  rw [hmay]
  go_wp2_with (first | ((with_reducible refine wpList_store_b rfl 33 _ _ rfl (w.heap.size + 1) (List.replicate 32 0) ?hx7 ?hy7 33 (List.replicate 32 0) hO0 (info32 rfl) ?hl7 ?hm7); (case hx7 => rfl); (case hy7 => rfl); (case hl7 => rfl); intro w6 hg6 hX6 hs6))
  refine bodyPost_ret (v := .agg (idv (List.replicate 32 0))) ?_ ?_ ?_
  · exact results_cell_row Tryd.results25 _ _ (w.heap.size + 1) 33 _ (0, 0) _ rfl hX6.is Tryd.underlying33 rfl (info32 rfl)
  · rfl
  · exact ⟨rfl, Below.grows hB0 hg6 hB0.size (by omega)⟩

end Go.Proofs.YtomfnnhdihbpfaaDoor
