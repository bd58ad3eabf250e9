/- '==' between two arrays of numbers of one kind. -/
import Derived.Test.YtcfkpepohnjdfaaDoorShaSpelt
import Derived.Laws.StructEq
namespace Go.Proofs.YtcfkpepohnjdfaaDoor
open Go.RowKit

/-- two registers -/
theorem eq8 (a0 a1 a2 a3 a4 a5 a6 a7 b0 b1 b2 b3 b4 b5 b6 b7 : Int) (w : World) :
    (Op.equalIn 10000 61 (.agg #[.int .u32 a0, .int .u32 a1, .int .u32 a2, .int .u32 a3, .int .u32 a4, .int .u32 a5, .int .u32 a6, .int .u32 a7]) (.agg #[.int .u32 b0, .int .u32 b1, .int .u32 b2, .int .u32 b3, .int .u32 b4, .int .u32 b5, .int .u32 b6, .int .u32 b7])).run Tryd.prog w =
      .ok ([a0, a1, a2, a3, a4, a5, a6, a7] == [b0, b1, b2, b3, b4, b5, b6, b7]) w :=
  run_equalIn_ints w 9998 61 60 8 .u32 Tryd.underlying61 Tryd.underlying60 (size_of (by kernel_rfl)) [a0, a1, a2, a3, a4, a5, a6, a7] [b0, b1, b2, b3, b4, b5, b6, b7] rfl rfl
/-- two sums -/
theorem eq32 (x y : List Int) (hx : x.length = 32) (hy : y.length = 32) (w : World) :
    (Op.equalIn 10000 30 (.agg (idv x)) (.agg (idv y))).run Tryd.prog w = .ok (x == y) w :=
  run_equalIn_ints w 9998 30 5 32 .u8 Tryd.underlying30 Tryd.underlying5 (size_of (by kernel_rfl)) x y hx hy
end Go.Proofs.YtcfkpepohnjdfaaDoor
