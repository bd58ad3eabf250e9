/- The walk over the laws' example: a start of epoch 3. -/
import Derived.Test.YtfjiefhicjnnnaaEntGet
import Derived.Test.YtfjiefhicjnnnaaEntSame
import Derived.Test.YtfjiefhicjnnnaaEntEpoch
namespace Go.Proofs.Ytfjiefhicjnnnaa
set_option linter.unusedVariables false
set_option linter.unusedSimpArgs false
open Go.RowKit

def exE : En := ⟨0, 0, 3, 0, 0, 0, 0, 0, 0⟩
theorem ex_ok : exE.ok := ⟨⟨by decide, by decide⟩, ⟨by decide, by decide⟩⟩
theorem ex_may : mayE exE = true := by decide
theorem ex_put : putE exE = [0, 0, 0, 0, 0, 0, 0, 0, 3, 0, 0, 0, 0, 0, 0, 0, 0, 0, 0, 0, 0, 0, 0, 0, 0, 0, 0, 0, 0, 0] := by decide
theorem ex_got : gotB (putE exE) = true := got_put ex_may ex_ok
theorem ex_get : getE (putE exE) = exE := by rw [getE, ex_got, if_pos rfl, seems_put ex_may ex_ok]
theorem ex_lit : enV exE = .agg #[.int .i64 0, .int .i64 0, .int .i64 3, .int .i64 0, .int .u64 0, .int .u64 0, .int .i64 0, .int .i64 0, .int .i64 0] := rfl
set_option maxRecDepth 100000 in
set_option maxHeartbeats 2000000 in
theorem eawake_any (w : World) : Calls Try.prog 9 #[] w fun e w' => e = .returned (.bool true) ∧ Below w.heap.size w w' := by
  have HP := Lib.hid (show ∀ W : World, Calls Try.prog 10 #[.agg #[.int .i64 0, .int .i64 0, .int .i64 3, .int .i64 0, .int .u64 0, .int .u64 0, .int .i64 0, .int .i64 0, .int .i64 0]] W (GivesB (putE exE) true W) from fun W => by
    have := eput_any exE W ex_ok
    rw [ex_may, ex_lit] at this
    exact this)
  have HG := Lib.hid (show ∀ (A : Option Addr) (c : Nat) (W : World), Bts W A 30 c (putE exE) → Calls Try.prog 12 #[.slice A 30 c] W (fun e w' => e = .returned (.tuple #[.agg #[.int .i64 0, .int .i64 0, .int .i64 3, .int .i64 0, .int .u64 0, .int .u64 0, .int .i64 0, .int .i64 0, .int .i64 0], .bool true]) ∧ Below W.heap.size W w') from fun A c W hb => by
    have := eget_any A 30 c _ W hb
    rw [ex_got, ex_get] at this
    exact this)
  have HM := Lib.hid (show ∀ W : World, Calls Try.prog 18 #[.agg #[.int .i64 0, .int .i64 0, .int .i64 3, .int .i64 0, .int .u64 0, .int .u64 0, .int .i64 0, .int .i64 0, .int .i64 0]] W (GB true W) from fun W => by
    have := may_any exE W
    rw [ex_may, ex_lit] at this
    exact this)
  have HE := Lib.hid (show ∀ W : World, Calls Try.prog 20 #[.slice (some ⟨W.heap.size, 0, none⟩) 1 1] (W.alloc (.cells #[.int .i64 0, .int .i64 0, .int .i64 3, .int .i64 0, .int .u64 0, .int .u64 0, .int .i64 0, .int .i64 0, .int .i64 0] 25)) (GI 3 (W.alloc (.cells #[.int .i64 0, .int .i64 0, .int .i64 3, .int .i64 0, .int .u64 0, .int .u64 0, .int .i64 0, .int .i64 0, .int .i64 0] 25))) from fun W => eepoch_any _ 1 1 [exE] _ (one_ens W exE))
  have HS := Lib.hid (show ∀ W : World, Calls Try.prog 19 #[.slice none 0 0, .slice none 0 0] W (GB true W) from fun W => esame_any none 0 0 [] none 0 0 [] W (Ens.nil W) (Ens.nil W))
  have HO := Lib.hid (show ∀ W : World, Calls Try.prog 16 #[.slice (some ⟨W.heap.size, 0, none⟩) 1 1, .int .i64 0] (W.alloc (.cells #[.int .i64 0, .int .i64 0, .int .i64 3, .int .i64 0, .int .u64 0, .int .u64 0, .int .i64 0, .int .i64 0, .int .i64 0] 25)) (fun e w' => ∃ A c, e = .returned (.slice A 1 c) ∧ Below W.heap.size W w') from fun W => by
    refine (eof_any _ 1 1 [exE] 0 _ (one_ens W exE) (by omega)).mono ?_
    rintro e w' ⟨A, n, c, rfl, hen, hb⟩
    have hn : n = 1 := by rw [← hen.len]; rfl
    subst hn
    exact ⟨A, c, rfl, (after_one hb).1⟩)
  go_enter Try.func9, Try.ntmps9
  go_wp2_with (first
    | (go_at_call 10; refine (HP.out _).mono ?_; rintro e w1 ⟨A1, m1, c1, rfl, hbt1, hb1⟩
       have hm1 : m1 = 30 := by rw [← hbt1.len, put_len]
       subst hm1
       have HB1 := Lib.hid hb1
       clear hb1)
    | (go_at_call 12; refine (HG.out _ _ _ hbt1).mono ?_; rintro e w2 ⟨rfl, hb2⟩
       have HB2 := Lib.hid (HB1.out.trans (hb2.mono HB1.out.size))
       obtain ⟨b, off, rfl, hc⟩ := (hbt1.below (hb2.trans ((one_alloc w2 (.cells #[.int .i64 0, .int .i64 0, .int .i64 3, .int .i64 0, .int .u64 0, .int .u64 0, .int .i64 0, .int .i64 0, .int .i64 0] 25)).mono hb2.size))).at_ (by omega)
       have z8 := hc 8 (by omega)
       rw [ex_put] at z8
       have HBX2 := Lib.hid (HB2.out.alloc HB2.out.size (.cells #[.int .i64 0, .int .i64 0, .int .i64 3, .int .i64 0, .int .u64 0, .int .u64 0, .int .i64 0, .int .i64 0, .int .i64 0] 25))
       clear hb2 hc hbt1)
    | (go_at_call 18; refine (HM.out _).mono ?_; rintro e w3 ⟨rfl, hb3⟩
       have hX3 := after_alloc hb3
       have HB3 := Lib.hid (HBX2.out.trans (hb3.mono HBX2.out.size))
       clear hb3 z8)
    | ((with_reducible refine wpList_load_blk 25 _ rfl w2.heap.size ?hx4 25 #[.int .i64 0, .int .i64 0, .int .i64 3, .int .i64 0, .int .u64 0, .int .u64 0, .int .i64 0, .int .i64 0, .int .i64 0] (0, 0) _ hX3 Try.underlying25 ?hd4 (info_en rfl) ?_ ?hw4); (case hx4 => rfl); (case hd4 => rfl); (case hw4 => rfl))
    | (go_at_call 20; refine (HE.out _).mono ?_; rintro e w4 ⟨rfl, hb4⟩
       have hb4 := (after_one hb4).1
       have hX4 := (hb4.block _ (Array.getElem?_eq_some_iff.1 hX3).1).trans hX3
       have HB4 := Lib.hid (HB3.out.trans (hb4.mono HB3.out.size))
       clear hb4 hX3)
    | (go_at_call 19; refine (HS.out _).mono ?_; rintro e w5 ⟨rfl, hb5⟩
       have hX5 := (hb5.block _ (Array.getElem?_eq_some_iff.1 hX4).1).trans hX4
       have HB5 := Lib.hid (HB4.out.trans (hb5.mono HB4.out.size))
       clear hb5 hX4)
    | ((with_reducible refine wpList_load_blk 25 _ rfl w2.heap.size ?hx6 25 #[.int .i64 0, .int .i64 0, .int .i64 3, .int .i64 0, .int .u64 0, .int .u64 0, .int .i64 0, .int .i64 0, .int .i64 0] (0, 0) _ hX5 Try.underlying25 ?hd6 (info_en rfl) ?_ ?hw6); (case hx6 => rfl); (case hd6 => rfl); (case hw6 => rfl))
    | (go_at_call 16; refine (HO.out _).mono ?_; rintro e w6 ⟨A6, c6, rfl, hb6⟩
       have HB6 := Lib.hid (HB5.out.trans (hb6.mono HB5.out.size))
       clear hb6 hX5))
  go_ret
  exact ⟨rfl, HB6.out⟩
end Go.Proofs.Ytfjiefhicjnnnaa
