/- What the row's list of variables gives: the two tables of package role, as cells. -/
import Derived.Test.YtiknhahkcffoeaaDoorRolAwake
import Derived.Test.YtiknhahkcffoeaaDoorBasOpenG
import Derived.Test.YtiknhahkcffoeaaDoorCards
import Derived.Test.YtiknhahkcffoeaaDoorTie
import Derived.Lib.LaidTab
namespace Go.Proofs.YtiknhahkcffoeaaDoor
set_option linter.unusedVariables false
set_option linter.unusedSimpArgs false
open Go.ChangeShapes Go.WideShapes Go.ChangeAt Go.RowKit

theorem gM : Tryd.prog.globalNamed "pelican/role.mays" = some 0 := by kernel_rfl
theorem gMType : (Tryd.prog.globals[0]?).map (·.type) = some 33 := by kernel_rfl
theorem gN : Tryd.prog.globalNamed "pelican/role.names" = some 1 := by kernel_rfl
theorem gNType : (Tryd.prog.globals[1]?).map (·.type) = some 34 := by kernel_rfl
theorem cellsRow : Tryd.prog.cellsOf 32 = 4 := by kernel_rfl
theorem cellsAll : Tryd.prog.cellsOf 33 = 32 := by kernel_rfl
theorem cellsBool : Tryd.prog.cellsOf 4 = 1 := by kernel_rfl
theorem cellsStr : Tryd.prog.cellsOf 9 = 1 := by kernel_rfl
theorem cells8s : Tryd.prog.cellsOf 34 = 8 := by kernel_rfl

theorem at_of_take {cs : List Value} {k : Nat} {v : Value} (h : (cs.drop k).take 1 = [v]) : cs[k]? = some v := by
  have := congrArg (·[0]?) h
  simpa [List.getElem?_take, List.getElem?_drop] using this
theorem drop_take_at {cs : List Value} {a k r : Nat} {v : Value} (h : (((cs.drop a).take k).drop r).take 1 = [v]) (hr : r < k) : cs[a + r]? = some v := by
  have h1 := at_of_take h
  rw [List.getElem?_take, if_pos hr, List.getElem?_drop] at h1
  exact h1
theorem nth_of {α : Type} {l m : List α} (h : l = m) (i : Nat) : l[i]? = m[i]? := by rw [h]

theorem mays_row : ∀ c r, c < 8 → r < 4 → ((maysT.map fun row => (DataW.agg (row.map fun b => .lit (.bool b)) : DataW Unit)))[c]? = some (.agg ((maysT.getD c []).map fun b => .lit (.bool b))) ∧ ((maysT.getD c []).map fun b => (DataW.lit (.bool b) : DataW Unit))[r]? = some (.lit (.bool (mayN c r))) := by
  intro c r hc hr
  have hlen : maysT.length = 8 := rfl
  have h1 : maysT[c]? = some (maysT.getD c []) := by
    rw [List.getD_eq_getElem?_getD, List.getElem?_eq_getElem (by omega)]
    rfl
  have h2 : (maysT.getD c []).length = 4 := by
    rcases lt8 hc with rfl | rfl | rfl | rfl | rfl | rfl | rfl | rfl <;> rfl
  refine ⟨by rw [List.getElem?_map, h1]; rfl, ?_⟩
  rw [List.getElem?_map]
  unfold mayN
  rw [List.getD_eq_getElem?_getD (l := maysT.getD c []), List.getElem?_eq_getElem (by omega)]
  rfl

theorem tabs {W : World} (h : laidMetH Tryd.prog Rows.roleTellsRow.laid W) : Tabs W := by
  obtain ⟨ps, ⟨g, t, cs, fuel, p, q, hg, ht, hvar, hd, ⟨g2, t2, cs2, fuel2, p2, q2, hg2, ht2, hvar2, hd2, _, _⟩, _⟩, _⟩ := h
  obtain rfl := Option.some.inj (gM.symm.trans hg)
  obtain rfl := Option.some.inj (gMType.symm.trans ht)
  obtain rfl := Option.some.inj (gN.symm.trans hg2)
  obtain rfl := Option.some.inj (gNType.symm.trans ht2)
  refine ⟨fun c r hc hr => ?_, fun c hc => ?_⟩
  · rw [World.var?_cell gM hvar]
    obtain ⟨xs, m, rfl, hx, _, hl, hrow⟩ := DataW.trod_array Tryd.underlying33 hd
    have hx1 : (maysT.map fun row => (DataW.agg (row.map fun b => .lit (.bool b)) : DataW Unit)) = xs.map (·.1) := by
      have := congrArg Prod.fst hx
      simpa [Rows.laid_pelican_role_mays, maysT] using this
    obtain ⟨m1, m2⟩ := mays_row c r hc hr
    rw [hx1, List.getElem?_map] at m1
    have h1 := hrow c hc
    rw [List.getElem?_eq_getElem (by omega)] at h1 m1
    simp only [Option.map_some, Option.some.injEq] at m1
    obtain ⟨ys, m', hm', hy, _, hyl, hcol⟩ := DataW.trod_array Tryd.underlying32 h1
    have hy1 := congrArg Prod.fst hy
    rw [m1] at hy1
    simp only [DataW.agg.injEq] at hy1
    rw [hy1, List.getElem?_map] at m2
    have h2 := hcol r hr
    rw [List.getElem?_eq_getElem (by omega)] at h2 m2
    simp only [Option.map_some, Option.some.injEq] at m2
    rw [cellsBool, Nat.mul_one, cellsRow] at h2
    obtain ⟨b, hb, hb2⟩ := DataW.trod_bool Tryd.underlying4 h2
    rw [hb2] at m2
    simp only [DataW.lit.injEq, Lit.bool.injEq] at m2
    rw [← m2, ← Array.getElem?_toList]
    exact drop_take_at hb hr
  · rw [World.var?_cell gN hvar2]
    obtain ⟨xs, m, rfl, hx, _, hl, hrow⟩ := DataW.trod_array Tryd.underlying34 hd2
    have hx1 : (namesT.map fun s => (DataW.lit (.string s.data.toList) : DataW Unit)) = xs.map (·.1) := by
      have := congrArg Prod.fst hx
      simpa [Rows.laid_pelican_role_names, namesT] using this
    have m1 : (namesT.map fun s => (DataW.lit (.string s.data.toList) : DataW Unit))[c]? = some (.lit (.string (nm c).data.toList)) := by
      rw [List.getElem?_map, names_at c hc]
      rfl
    rw [hx1, List.getElem?_map] at m1
    have h1 := hrow c hc
    rw [List.getElem?_eq_getElem (by omega)] at h1 m1
    simp only [Option.map_some, Option.some.injEq] at m1
    rw [cellsStr, Nat.mul_one] at h1
    obtain ⟨s, hs, hs2, _⟩ := DataW.trod_string Tryd.underlying9 h1
    rw [hs2] at m1
    simp only [DataW.lit.injEq, Lit.string.injEq] at m1
    have he : s = nm c := by
      exact ByteArray.ext (Array.toList_inj.1 m1)
    rw [he] at hs
    rw [← Array.getElem?_toList]
    exact at_of_take hs
end Go.Proofs.YtiknhahkcffoeaaDoor
