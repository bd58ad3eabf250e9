/- AuditTells: for every input the law answers true, and its arguments read behind the call as they read before; the table of the constants starts as the program's text lays it (the card ties it). -/
import Derived.Test.YtafmompplcaadaaGreatDoorAuJAudTellsW
import Derived.Test.YtafmompplcaadaaGreatDoorAuJV
import Derived.Test.YtafmompplcaadaaGreatDoorAuJW
namespace Go.Proofs.YtafmompplcaadaaGreatDoor.auditTells
set_option maxRecDepth 100000
open Go.ChangeShapes Go.WideShapes Go.ChangeAt Go.RowKit Go.WideMaps Go.WideElems Go.ChangeMaps

theorem contract (H : Type) (enc : TypeId × Value → H) (W : World) (base : Nat) (args : Array Value) (ds gs : List (DataW H)) (before : List MemPlace)
    (hval : ∀ (j : Nat) t v, Tryz.f3.params[j]? = some t → args[j]? = some v → Value.okWide Tryz.prog W .any base t v)
    (hW : DataW.Whole enc Tryz.prog Tryz.f3.params.toList Rows.auditTellsSpec.vars false W args.toList ds gs before) (hL : laidMetH Tryz.prog Rows.auditTellsRow.laid W) :
    Calls Tryz.prog 3 args W fun e W' => ∃ v, e = .returned v ∧ Rows.auditTellsSpec.post enc Tryz.prog Tryz.f3 false true false false W args v W' := by
  have hK : KTab W := ktab hL
  have hW' := hW
  have hlt : ∀ p ∈ before, p.block < W.heap.size := fun p hp => hW.lt p hp
  obtain ⟨p, q, hA0, hV, rfl, hfz, hnd⟩ := hW
  have hA : DataW.TrodAll enc Tryz.prog W 0 (fun _ => true) true Tryz.f3.params.toList args.toList ds p := hA0
  rw [Tryz.params3] at hA hval
  obtain ⟨v0, v1, v2, v3, v4, v5, v6, d0, d1, d2, d3, d4, d5, d6, p0, p1, p2, p3, p4, p5, p6, rfl, rfl, rfl, h0, h1, h2, h3, h4, h5, h6⟩ := trodAll_seven hA
  obtain ⟨rfl, rfl⟩ := trodVars_none hV
  clear hA0
  simp only [List.append_nil] at hW' hlt
  have t0 := h0
  have t1 := h1
  have t2 := h2
  have t3 := h3
  have t4 := h4
  have t5 := h5
  have t6 := h6
  obtain ⟨q0, g0, rfl, hb0⟩ := open_log_arg (hval 0 29 v0 rfl rfl) h0
  obtain ⟨q1, g1, rfl, hb1⟩ := open_log_arg (hval 1 29 v1 rfl rfl) h1
  obtain ⟨u2, rfl, hok2⟩ := open_entry (hval 2 33 v2 rfl rfl) h2
  obtain ⟨k3, rfl, _, _⟩ := open_bool Tryz.underlying4 (hval 3 4 v3 rfl rfl) h3
  obtain ⟨k4, rfl, _, _, wk4⟩ := open_int Tryz.underlying3 (hval 4 3 v4 rfl rfl) h4
  obtain ⟨s5, A5, n5, c5, rfl, hb5⟩ := open_store (hval 5 24 v5 rfl rfl) h5
  obtain ⟨k6, rfl, _, _, wk6⟩ := open_int Tryz.underlying3 (hval 6 3 v6 rfl rfl) h6
  refine (atells_any aud_ok q0 q1 g0 g1 u2 k3 k4 s5 A5 n5 c5 k6 W hK hb0 hb1 hok2 hb5).mono fun e W' ⟨he, hbel⟩ => ?_
  subst he
  refine ⟨_, rfl, _, _, _, [], p0 ++ p1 ++ p2 ++ p3 ++ p4 ++ p5 ++ p6, [], hW', trodAll_mk1 (shut_bool Tryz.underlying4 true), (by simp only [List.append_assoc]; exact trodAll_mk7 (Below.trod laidOut (by kernel_rfl) (of_decide_eq_true (by kernel_rfl)) t0 hbel (fun x hx => hlt x (by simp [hx]))) (Below.trod laidOut (by kernel_rfl) (of_decide_eq_true (by kernel_rfl)) t1 hbel (fun x hx => hlt x (by simp [hx]))) (Below.trod laidOut (by kernel_rfl) (of_decide_eq_true (by kernel_rfl)) t2 hbel (fun x hx => hlt x (by simp [hx]))) (Below.trod laidOut (by kernel_rfl) (of_decide_eq_true (by kernel_rfl)) t3 hbel (fun x hx => hlt x (by simp [hx]))) (Below.trod laidOut (by kernel_rfl) (of_decide_eq_true (by kernel_rfl)) t4 hbel (fun x hx => hlt x (by simp [hx]))) (Below.trod laidOut (by kernel_rfl) (of_decide_eq_true (by kernel_rfl)) t5 hbel (fun x hx => hlt x (by simp [hx]))) (Below.trod laidOut (by kernel_rfl) (of_decide_eq_true (by kernel_rfl)) t6 hbel (fun x hx => hlt x (by simp [hx])))), rfl, hbel.frame _, fun h => by cases h⟩

/-- a world for the witness: the settled one, the table holding what its initialiser lays -/
noncomputable def laidWorld (os : Os) : World :=
  { World.holding Tryz.prog os ⟨#[], #[], []⟩ with heap := (World.holding Tryz.prog os ⟨#[], #[], []⟩).heap.modify 0 fun
      | .cells _ t frozen => .cells (regv kList) t frozen
      | o => o }
theorem laid_met (os : Os) : laidMet Tryz.prog Rows.auditTellsRow.laid ((laidWorld os).forCall (fun _ _ => 0) ⟨#[], #[(.agg Lp.zero.arr), (.agg Lp.zero.arr), (enV En.zero), (.bool false), (.int .i64 0), (.agg #[.int .i64 0, .slice none 0 0, .int .i64 0]), (.int .i64 0)], []⟩).memory :=
  laidMet_of_run' 8 (by kernel_rfl) (by kernel_rfl)
theorem reads (os : Os) {H : Type} (enc : TypeId × Value → H) : ∃ places, DataW.whole enc Tryz.prog ((laidWorld os).forCall (fun _ _ => 0) ⟨#[], #[(.agg Lp.zero.arr), (.agg Lp.zero.arr), (enV En.zero), (.bool false), (.int .i64 0), (.agg #[.int .i64 0, .slice none 0 0, .int .i64 0]), (.int .i64 0)], []⟩).memory Tryz.f3.params.toList Rows.auditTellsSpec.vars false (#[(.agg Lp.zero.arr), (.agg Lp.zero.arr), (enV En.zero), (.bool false), (.int .i64 0), (.agg #[.int .i64 0, .slice none 0 0, .int .i64 0]), (.int .i64 0)] : Array Value).toList 8 = some ([.agg [.agg [.lit (.int .i64 0), .nil, .lit (.int .i64 0)], .nil, .agg (List.replicate 32 (.lit (.int .u8 0)))], .agg [.agg [.lit (.int .i64 0), .nil, .lit (.int .i64 0)], .nil, .agg (List.replicate 32 (.lit (.int .u8 0)))], .agg [.lit (.int .i64 0), .lit (.int .i64 0), .lit (.int .i64 0), .lit (.int .i64 0), .lit (.int .u64 0), .lit (.int .u64 0), .lit (.int .i64 0), .lit (.int .i64 0), .lit (.int .i64 0)], .lit (.bool false), .lit (.int .i64 0), .agg [.lit (.int .i64 0), .nil, .lit (.int .i64 0)], .lit (.int .i64 0)], [], places) :=
  ⟨[], by kernel_rfl⟩

set_option maxRecDepth 100000 in
theorem lifted (os : Os) (started : os.Started) (H : Type) (enc : TypeId × Value → H) (F : Stop.Interp) :
    ReturnsInHanded {} Tryz.checked os 3 .any ((OpenSpec.ofChange Rows.auditTellsSpec).preRow enc Tryz.prog Tryz.f3 Rows.auditTellsRow.domain false Rows.auditTellsRow.laid) (((OpenSpec.ofChange Rows.auditTellsSpec).at F).post enc Tryz.prog Tryz.f3 false true false false) := by
  obtain ⟨places, hx⟩ := reads os enc
  refine returnsInHanded_of_row (C := Tryz.checked) (s := OpenSpec.ofChange Rows.auditTellsSpec) own started (by kernel_rfl) Tryz.func3
    (witness_row_at (enc := enc) (C := Tryz.checked) false (laidWorld os) #[(.agg Lp.zero.arr), (.agg Lp.zero.arr), (enV En.zero), (.bool false), (.int .i64 0), (.agg #[.int .i64 0, .slice none 0 0, .int .i64 0]), (.int .i64 0)] rfl (by kernel_rfl) (by kernel_rfl) (by kernel_rfl)
      (OpenSpec.preRow_of_cond 8 hx (by kernel_rfl) (fun k hk => by cases hk) (by kernel_rfl) (laid_met os))) ?_
  intro W base args ds gs before hval hW _ _ _ hL _ _
  exact contract H enc W base args ds gs before hval hW hL

theorem said : Rows.AuditTellsSaid :=
  OpenClaim.holds_of_cond 3 Tryz.f3 rfl rfl rfl rfl rfl rfl rfl ⟨rfl, rfl, rfl, rfl, rfl⟩ rfl rfl rfl rfl rfl (by kernel_rfl) Tryz.func3 (by kernel_rfl)
    (of_decide_eq_true (by kernel_rfl)) (by unfold Func.isWrapper; first | (rw [if_pos (by decide +kernel)]; kernel_rfl) | (rw [if_neg (by decide +kernel)]; exact ⟨rfl, rfl⟩))
    (fun os started H enc _ F => by rw [OpenClaim.pre_eq_preRow]; exact lifted os started H enc F)

theorem plain (f : FuncId) (fn : Func) (hf : Tryz.pinned.checked.prog.funcNamed "pelican/pelicanlaw12.AuditTells" = some f) (hfn : Tryz.pinned.checked.prog.funcs[f]? = some fn) :
    false = Tryz.pinned.checked.prog.looks [] ∧ ∀ (j : Nat) t, fn.params[j]? = some t → Tryz.pinned.checked.prog.wantsStandIn t = false := by
  obtain rfl : f = 3 := Option.some.inj ((show Tryz.prog.funcNamed "pelican/pelicanlaw12.AuditTells" = some 3 by kernel_rfl).symm.trans hf) |>.symm
  obtain rfl : fn = Tryz.f3 := (Option.some.inj (Tryz.func3.symm.trans hfn)).symm
  refine ⟨by kernel_rfl, fun j t ht => ?_⟩
  rw [Tryz.params3] at ht
  have hm := Array.mem_of_getElem? ht
  simp only [List.mem_toArray, List.mem_cons, List.not_mem_nil, or_false] at hm
  rcases hm with rfl | rfl | rfl | rfl | rfl | rfl | rfl
  · exact (show Tryz.prog.wantsStandIn 29 = false by kernel_rfl)
  · exact (show Tryz.prog.wantsStandIn 29 = false by kernel_rfl)
  · exact (show Tryz.prog.wantsStandIn 33 = false by kernel_rfl)
  · exact (show Tryz.prog.wantsStandIn 4 = false by kernel_rfl)
  · exact (show Tryz.prog.wantsStandIn 3 = false by kernel_rfl)
  · exact (show Tryz.prog.wantsStandIn 24 = false by kernel_rfl)
  · exact (show Tryz.prog.wantsStandIn 3 = false by kernel_rfl)

/-- the card -/
theorem card : Rows.AuditTellsCardSaid :=
  Claim7.holds_tied_plain_at .later [] _ _ _ _ said (fun _ h => by cases h) (by kernel_rfl) (fun _ h => by cases h) auditTells_row_tie rfl ⟨rfl, rfl⟩ (by kernel_rfl) rfl plain (by kernel_rfl)
end Go.Proofs.YtafmompplcaadaaGreatDoor.auditTells
