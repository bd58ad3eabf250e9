/- Joined texts: The first ones of a slice of entries. The walk over the document's Text of entries. The walk over the document's Put of a list of entries: its records and head. Regions by hand: whole rows loaded, built and stored, one operation after another. What package audit does: seven contracts that its own walks must bring; the walks over the laws stand on them alone. The chapter's example of a log, of which each law asks first. The laws' own test: has a log few entries, and few bytes? The walk over the law AuditTorn: behind a crash in the midst of adding a log is as it was, or has that entry. The walks over package store's May and Left, and the document's. -/
import Derived.Test.YtafmompplcaadaaGreatDoorAuJH
import Derived.Test.YtafmompplcaadaaGreatDoorAuJE
import Derived.Test.YtafmompplcaadaaGreatDoorAuJA
/- The first ones of a slice of entries. -/
namespace Go.Proofs.YtafmompplcaadaaGreatDoor
set_option maxRecDepth 100000
set_option linter.unusedVariables false
set_option linter.unusedSimpArgs false
open Go.RowKit

theorem size_entry (w : World) : (sizeOf (Tryz.prog.elem 25)).run Tryz.prog w = .ok 9 w := rfl
theorem Ens.upto {w : World} {A : Option Addr} {n c : Nat} {l : List En} (h : Ens w A n c l) (k : Nat) (x : Int) (hx : x = k) (hk : k ≤ n) :
    (∀ w' : World, (Instr.slice 25 (.slice A n c) none (some (.int .i64 x)) none).run Tryz.prog w' = .ok (.slice A k c) w') ∧ Ens w A k c (l.take k) := by
  have hn := h.small
  have hle := h.rws.le
  refine ⟨fun w' => ?_, ⟨⟨by rw [List.length_map, List.length_take, h.len]; omega, ?_, ?_, by omega, h.rws.max, h.rws.bare, fun h0 => ?_⟩⟩⟩
  · subst hx
    rw [run_slice_h (P := Tryz.prog) w' 25 A n c (by kernel_rfl) .i64 k (by omega) (by omega), size_entry]
    simp only [Result.andThen_ok, sliced, Int.toNat_natCast, Nat.zero_mul, Nat.sub_zero]
    have e : A.map (fun x => x.add 0) = A := by
      cases A with
      | none => rfl
      | some a => simp [Addr.add]
    rw [e]
    simp
  · intro r hr
    obtain ⟨u, _, rfl⟩ := List.mem_map.1 hr
    rfl
  · intro r hr v hv
    obtain ⟨u, _, rfl⟩ := List.mem_map.1 hr
    exact row_one9 u v hv
  · obtain ⟨b, off, hA, hc⟩ := h.rws.at_ (by omega)
    refine ⟨b, off, hA, fun j hj i hi => ?_⟩
    rw [hc j (by omega) i hi]
    simp [List.getD_eq_getElem?_getD, List.getElem?_take, hj]
end Go.Proofs.YtafmompplcaadaaGreatDoor

/- The walk over the document's Text of entries. -/
namespace Go.Proofs.YtafmompplcaadaaGreatDoor
set_option maxRecDepth 100000
set_option linter.unusedVariables false
set_option linter.unusedSimpArgs false
open Go.RowKit

/-- gives bytes -/
def GT (L : List Int) (w : World) (e : Ending) (w' : World) : Prop := ∃ A m c, e = .returned (.slice A m c) ∧ Bts w' A m c L ∧ Below w.heap.size w w'
theorem text_byte (l : List En) : ∀ j, 0 ≤ (textC l).getD j 0 ∧ (textC l).getD j 0 < 256 := by
  rcases List.eq_nil_or_concat l with rfl | ⟨m, u, rfl⟩
  · intro j; match j with | 0 => simp [textC] | j + 1 => simp [textC]
  · rw [List.concat_eq_append, textC_snoc]; exact ok_linkT (headC_byte _)
theorem text_len (l : List En) : (textC l).length ≤ 63 := by
  rcases List.eq_nil_or_concat l with rfl | ⟨m, u, rfl⟩
  · simp [textC]
  · rw [List.concat_eq_append, textC_snoc, linkT, List.length_cons, List.length_append, headC_len, put_len]; omega
theorem text_last {l : List En} {k : Nat} {u : En} (hl : l.length = k + 1) (h : l[k]? = some u) : textC l = linkT (headC (l.take k)) u := by
  have := (text_take h).1
  rwa [List.take_of_length_le (by omega)] at this
theorem mayC_take {l : List En} (h : mayC l = true) (k : Nat) : mayC (l.take k) = true := by
  cases e : mayC (l.take k) with
  | true => rfl
  | false => rw [mayC_part e] at h; exact h
end Go.Proofs.YtafmompplcaadaaGreatDoor

/- The walk over the document's Put of a list of entries: its records and head. -/
namespace Go.Proofs.YtafmompplcaadaaGreatDoor
set_option maxRecDepth 100000
set_option linter.unusedVariables false
set_option linter.unusedSimpArgs false
open Go.RowKit

theorem results_tct {fn : Func} {p q r : Tmp} {ty : TypeId} (h : fn.results = #[.tmp p, .cell q ty, .tmp r]) (tmps : Array Value) (P : Program) (w : World) (g : Nat) (t : TypeId) (cs : Array Value) (fr : Nat × Nat) (d : TypeDesc)
    (hp : tmps.getD q undef = .pointer (some ⟨g, 0, none⟩)) (hg : w.heap[g]? = some (.cells cs t fr)) (hu : P.underlying ty = some d) (hd : d.isRow = true) (hi : (P.info? ty).map (·.size) = some cs.size) (u v : Value) (hv : tmps.getD p undef = u) (hz : tmps.getD r undef = v) :
    (results fn tmps).run P w = .ok (.tuple #[u, .agg cs, v]) w := by
  have hp' : tmps[q]?.getD undef = .pointer (some ⟨g, 0, none⟩) := by simpa using hp
  have hv' : tmps[p]?.getD undef = u := by simpa using hv
  have hz' : tmps[r]?.getD undef = v := by simpa using hz
  simp [results, h, hp', hv', hz', asAddr, run_loadVar_row w g t ty cs fr d hg hu (by cases d <;> simp_all) hi]
/-- gives bytes, a head, and a bool -/
def GP (L Z : List Int) (b : Bool) (w : World) (e : Ending) (w' : World) : Prop := ∃ A m c, e = .returned (.tuple #[.slice A m c, .agg (idv Z), .bool b]) ∧ Bts w' A m c L ∧ Below w.heap.size w w'
theorem recs_take {l : List En} {k : Nat} {u : En} (h : l[k]? = some u) : recsC (l.take (k + 1)) = recsC (l.take k) ++ putE u ++ linkC (headC (l.take k)) u := by rw [etake_more h, recsC_snoc, List.append_assoc]
theorem recs_byte {l : List En} : ∀ h, ∀ j, 0 ≤ (recsF h l).getD j 0 ∧ (recsF h l).getD j 0 < 256 := by
  induction l with
  | nil => intro h j; simp [recsF]
  | cons u l ih => intro h; rw [recsF]; exact ok_append (put_ok u) (ok_append (csum_byte _) (ih _))
theorem may_take {l : List En} {k : Nat} {u : En} (h : l[k]? = some u) (hm : mayC (l.take k) = true) : mayC (l.take (k + 1)) = mayE u := by rw [etake_more h, mayC_snoc, hm, Bool.true_and]
set_option maxRecDepth 100000 in
set_option maxHeartbeats 1000000 in
theorem rputc_long (A : Option Addr) (n c : Nat) (l : List En) (w : World) (hl : Ens w A n c l) (h : 264 < n) :
    Calls Tryz.prog 41 #[.slice A n c] w (GP [] noughtsC false w) := by
  have hn := hl.small
  have h1 : (264 : Int) < n := by omega
  have HNL := Lib.hid (show noughtsC.length = 32 from rfl)
  have hz0 : RowB (w.alloc (.cells (idv noughtsC) 27)) w.heap.size 27 noughtsC := rowb_lit _ _ _ _ rfl
  have HB0 := Lib.hid (one_alloc w (.cells (idv noughtsC) 27))
  clear hl
  go_enter Tryz.func41, Tryz.ntmps41
  go_wp2_with ((with_reducible refine wpList_store_blk rfl 27 _ _ rfl w.heap.size (idv noughtsC) ?hx7 ?hy7 27 _ (heap_alloc_new w _) (info32 HNL.out) ?hs7 (idv_one _) ?_); (case hx7 => rfl); (case hy7 => rfl); (case hs7 => rfl)
               intro w6 hg6 hX6 hs6)
  refine bodyPost_ret (v := .tuple #[.slice none 0 0, .agg (idv noughtsC), .bool false]) ?_ rfl ⟨none, 0, 0, rfl, Bts.nil _, ?_⟩
  · exact results_tct Tryz.results41 _ _ _ w.heap.size 27 _ (0, 0) _ rfl hX6 Tryz.underlying27 rfl (info32 HNL.out) _ _ rfl rfl
  · exact HB0.out.grown hg6 HB0.out.size (fun k e => by cases e; exact Nat.le_refl _)
theorem own_far {w : World} {b g : Nat} {v : Value} {l : List Int} (h : Own w b v l) (hg : g < b) : v.ownBlock = none ∨ v.ownBlock ≠ some g := by
  cases e : v.ownBlock with
  | none => exact .inl rfl
  | some k =>
    refine .inr (fun h2 => ?_)
    injection h2 with h2
    have := (h.size k e).1
    omega
theorem own_off {w w' : World} {g : Nat} {v : Value} {l : List Int} (h : Own w (g + 1) v l) (hg : w.grownBy w' (some g)) : Own w' (g + 1) v l := h.far hg (own_far h (Nat.lt_succ_self _))
theorem id_load {w : World} {g : Nat} {h : List Int} (hb : RowB w g 27 h) (hl : h.length = 32) {ρ : Operand → Value} {o : Oper} {x : Operand} (ho : o.op = .load 27 x) (hx : ρ x = .pointer (some ⟨g, 0, none⟩)) : (execOp ρ o).run Tryz.prog w = .ok (.value (.agg (idv h))) w := by
  unfold execOp
  simp only [ho, hx, Instr.loadAt, Instr.sureAddr, Sem.run_bind, Sem.run_pure, Result.andThen_ok, run_loadVar_row w g 27 27 (idv h) (0, 0) _ hb.is Tryz.underlying27 rfl (info32 hl)]
theorem step_store_b {P : Program} {ops : Array Oper} {o : Oper} {a : Act} {w : World} {K : Act → World → Prop} {Q : Exit → Act → World → Prop} {E : Prop} (ty : TypeId) (x y : Operand) (ho : o.op = .store ty x y)
    (g : Nat) (m l : List Int) (hx : a.eval x = .pointer (some ⟨g, 0, none⟩)) (hy : a.eval y = .agg (idv m)) (t : TypeId) (hg : RowB w g t l) (hi : (P.info? ty).map (·.size) = some (idv m).size) (hl : l.length = m.length) (hw : Region.wanted o (yielded ops a.tmps) = true)
    (h : ∀ w', w.grownBy w' (some g) → RowB w' g t m → w'.heap.size = w.heap.size → K (a.put o.dst undef) w') : if Region.wanted o (yielded ops a.tmps) = true then Oper.wp P o a w K Q else E := by
  rw [if_pos hw]
  exact wp_store_row ty x y ho g (idv m) hx hy t (idv l) hg hi (by rw [idv_size, idv_size, hl]) (idv_one m) (h _ (grown_setRow _ _ _) (hg.all m) (by simp))
set_option maxRecDepth 100000 in
set_option maxHeartbeats 4000000 in
theorem rputc_short (A : Option Addr) (n c : Nat) (l : List En) (w : World) (hl : Ens w A n c l) (ho : ∀ u ∈ l, u.ok) (h264 : n ≤ 264) :
    Calls Tryz.prog 41 #[.slice A n c] w (GP (if mayC l then recsC l else []) (if mayC l then headC l else noughtsC) (mayC l) w) := by
  have hn := hl.small
  have h1 : (n : Int) ≤ 264 := by omega
  have HL := Lib.hid hl
  have HLL := Lib.hid hl.len
  have HO := Lib.hid ho
  have hal := run_all32
  have HHD := Lib.hid (show ∀ W : World, Calls Tryz.prog 37 #[.slice none 0 0] W (fun e w' => e = .returned (.agg (idv startC)) ∧ Below W.heap.size W w') from fun W => rheadc_any none 0 0 [] W (Ens.nil W) rfl (fun u hu => by cases hu))
  have HSL := Lib.hid (show startC.length = 32 from csum_len [0])
  have HNL := Lib.hid (show noughtsC.length = 32 from rfl)
  obtain ⟨MC, hMC⟩ : ∃ M, mayC l = M := ⟨_, rfl⟩
  obtain ⟨RC, hRC⟩ : ∃ R, (if mayC l = true then recsC l else []) = R := ⟨_, rfl⟩
  obtain ⟨ZC, hZC⟩ : ∃ Z, (if mayC l = true then headC l else noughtsC) = Z := ⟨_, rfl⟩
  rw [hRC, hZC, hMC]
  rw [hMC] at hRC hZC
  have HMC := Lib.hid hMC
  have HRC := Lib.hid hRC
  have HZC := Lib.hid hZC
  clear hl ho hMC hRC hZC
  go_enter Tryz.func41, Tryz.ntmps41
  go_wp2_with (first
    | (go_at_call 37; (with_reducible refine (HHD.out _).mono ?_); rintro e w1 ⟨rfl, hb1⟩
       obtain ⟨hb0, -, hz1⟩ := after_one hb1
       have hz1 : RowB w1 w.heap.size 27 noughtsC := hz1
       have HB1 := Lib.hid hb0
       clear hb1 hb0)
    | ((with_reducible refine wpList_store_blk rfl 27 _ _ rfl w1.heap.size (idv startC) ?hx2 ?hy2 27 _ (heap_alloc_new w1 _) (info32 HSL.out) ?hs2 (idv_one _) ?_); (case hx2 => rfl); (case hy2 => rfl); (case hs2 => rw [idv_size, HSL.out]; rfl)
       intro w2 hg2 hX2 hs2
       have hb2 : Below w1.heap.size w1 w2 := Below.grows (one_alloc w1 _) hg2 (size_le_alloc _ _) (Nat.le_refl _)
       have hz2 := hz1.keep hb2
       have hX2 : RowB w2 w1.heap.size 27 startC := hX2
       have HB2 := Lib.hid (HB1.out.trans (hb2.mono HB1.out.size))
       clear hb2 hg2 hs2))
  have hg3 : w.heap.size < w1.heap.size := hz1.lt
  clear hz1
  go_loopw [5, 7, 8, 9, 10, 11] (fun v i x y z t wr => ∃ k : Nat, k ≤ n ∧ i = .int .i64 k ∧ mayC (l.take k) = true ∧ Own wr (w1.heap.size + 1) v (recsC (l.take k)) ∧ RowB wr w1.heap.size 27 (headC (l.take k)) ∧ RowB wr w.heap.size 27 noughtsC ∧ Below w.heap.size w wr) (fun _ i _ _ _ _ _ => n - (intOf i).toNat)
  case atStart => exact ⟨0, by omega, rfl, rfl, Own.nil _ _, hX2, hz2, HB2.out⟩
  case round =>
    clear hX2 hz2
    obtain ⟨k, hk, rfl, hmk, hown, hX, hz, hB⟩ := hrel
    by_cases hlt : k < n
    · obtain ⟨b, off, u, rfl, hu, hr⟩ := (HL.out.below hB).range k hlt
      have hou := HO.out u (List.mem_of_getElem? hu)
      have hmx := may_take hu hmk
      have HNX := Lib.hid (head_take hu)
      have HRX := Lib.hid (recs_take hu)
      obtain ⟨R, hR⟩ : ∃ R, recsC (l.take k) = R := ⟨_, rfl⟩
      obtain ⟨h, hh⟩ : ∃ h, headC (l.take k) = h := ⟨_, rfl⟩
      have hhl : h.length = 32 := by rw [← hh]; exact headC_len _
      have hhb : ∀ j, 0 ≤ h.getD j 0 ∧ h.getD j 0 < 256 := by rw [← hh]; exact headC_byte _
      have HRL := Lib.hid (show R.length ≤ 62 * 264 by rw [← hR, recsC, recsF_len, List.length_take]; omega)
      rw [hh] at hX
      rw [hR] at hown
      have HNX := Lib.hid (show headC (l.take (k + 1)) = linkC h u by rw [HNX.out, hh])
      have HRX := Lib.hid (show recsC (l.take (k + 1)) = R ++ putE u ++ linkC h u by rw [HRX.out, hh, hR])
      obtain ⟨X, hXe⟩ : ∃ X, linkP h u = X := ⟨_, rfl⟩
      have HXL := Lib.hid (show X.length = 32 by rw [← hXe]; exact linkP_len _ _)
      have HXB := Lib.hid (show ∀ j, 0 ≤ X.getD j 0 ∧ X.getD j 0 < 256 by rw [← hXe]; exact linkP_byte _ _)
      have HPE := Lib.hid (fun W => erput_own u W hou)
      have HLK := Lib.hid (fun W => rlink_any h u W hhl hhb hou)
      have HXE := Lib.hid (show mayE u = true → linkC h u = X from fun e => by rw [← hXe, linkP, if_pos e])
      have HPB := Lib.hid (put_ok u)
      have HPL := Lib.hid (put_len u)
      rw [hXe] at HLK
      obtain ⟨M, hM⟩ : ∃ M, mayE u = M := ⟨_, rfl⟩
      rw [hM] at HPE HLK HXE hmx
      have HMX := Lib.hid hmx
      have HHL := Lib.hid hhl
      have HHB := Lib.hid hhb
      unfold enV at HPE HLK
      obtain ⟨P, hP⟩ : ∃ P, (if M = true then putE u else []) = P := ⟨_, rfl⟩
      rw [hP] at HPE
      have HPP := Lib.hid hP
      have q0 : 0 ≤ (k : Int) := by omega
      have q1 : (k : Int) < n := by omega
      have HBr := Lib.hid hB
      have HLT1 := Lib.hid hX.lt
      have HMK := Lib.hid hmk
      have HUU := Lib.hid hu
      clear hu hou hh hhl hhb hXe hM hmx hP hR hB hmk
      go_wp2_with (first
        | ((with_reducible refine wpList_load_on 33 _ rfl b (off + k * 9) ?hx1 u.row (enA u) ?ht1 _ hr Tryz.underlying33 ?hd1 ?hi1 ?_ ?hw1); (case hx1 => rfl); (case ht1 => rfl); (case hd1 => rfl); (case hi1 => exact info_en (enA_size u)); (case hw1 => rfl))
        | (go_at_call 55; (with_reducible refine (HPE.out _).mono ?_); rintro e w3 ⟨A1, m1, c1, rfl, hbt1, hop1, hb1⟩
           have hX1 := hX.keep hb1
           have hz1 := hz.keep hb1
           have hr1 := rangeAt_below hr hb1
           have hown1 := (hown.below hb1)
           have HB1 := Lib.hid (HBr.out.trans (hb1.mono HBr.out.size))
           have HS1 := Lib.hid (Nat.le_trans (Nat.succ_le_of_lt HLT1.out) hb1.size)
           have hop1 := hop1.mono (Nat.succ_le_of_lt HLT1.out)
           clear hb1 hX hz hr hown))
      have KX := Lib.hid (show ∀ w', Below w3.heap.size w3 w' → RowB w' w1.heap.size 27 h from fun w' h => hX1.keep h)
      have KZ := Lib.hid (show ∀ w', Below w3.heap.size w3 w' → RowB w' w.heap.size 27 noughtsC from fun w' h => hz1.keep h)
      have KR := Lib.hid (show ∀ w', Below w3.heap.size w3 w' → w'.rangeAt b (off + k * 9) u.row from fun w' h => rangeAt_below hr1 h)
      have KP := Lib.hid (show ∀ w', Below w3.heap.size w3 w' → Bts w' A1 m1 c1 P from fun w' h => hbt1.below h)
      have KO := Lib.hid (show ∀ w', Below w3.heap.size w3 w' → Own w' (w1.heap.size + 1) u5 R from fun w' h => hown1.below h)
      have KQ := Lib.hid (show ∀ w', Below w3.heap.size w3 w' → Own w' (w1.heap.size + 1) (.slice A1 m1 c1) P from fun w' h => hop1.below h)
      clear hX1 hz1 hr1 hbt1 hown1 hop1
      obtain ⟨Y0, hY0⟩ : ∃ Y, w3.drew = Y := ⟨_, rfl⟩
      have hSd : (fun w' => Below w3.heap.size w3 w') Y0 := by rw [← hY0]; exact (Below.refl _ w3).drew
      refine wp_region_held_drew (S := (fun w' => Below w3.heap.size w3 w')) (by kernel_rfl) (by rw [hY0]; exact hSd) (fun hHeld => ?_)
      rw [hY0] at hHeld ⊢
      clear hY0
      refine take_if 0 (.agg (idv h)) rfl (by kernel_rfl) (by kernel_rfl) (by kernel_rfl) (fun _ _ _ h => h) rfl hHeld (fun w' hw' => ?_) ?_
      · exact id_load (KX.out _ hw') HHL.out rfl rfl
      simp only [Act.put, List.setIfInBounds_toArray, List.set_cons_zero, List.set_cons_succ]
      refine take_move 1 (.tmp 0) (.slice (some ⟨b, off, none⟩) n c) rfl rfl rfl (by kernel_rfl) (by kernel_rfl) (by kernel_rfl) (fun _ _ _ h => h) rfl hHeld ?_
      simp only [Act.put, List.setIfInBounds_toArray, List.set_cons_zero, List.set_cons_succ]
      refine take_move 2 (.tmp 7) (.int .i64 k) rfl rfl rfl (by kernel_rfl) (by kernel_rfl) (by kernel_rfl) (fun _ _ _ h => h) rfl hHeld ?_
      simp only [Act.put, List.setIfInBounds_toArray, List.set_cons_zero, List.set_cons_succ]
      refine take_run 3 (.pointer (some ⟨b, off + k * 9, none⟩)) rfl (by kernel_rfl) (by kernel_rfl) (by kernel_rfl) (fun _ _ _ h => h) rfl hHeld (fun w => ?_) ?_
      · go_simp
      simp only [Act.put, List.setIfInBounds_toArray, List.set_cons_zero, List.set_cons_succ]
      refine take_if 4 (.agg (enA u)) rfl (by kernel_rfl) (by kernel_rfl) (by kernel_rfl) (fun _ _ _ h => h) rfl hHeld (fun w' hw' => ?_) ?_
      · exact run_load_en rfl rfl (KR.out _ hw')
      simp only [Act.put, List.setIfInBounds_toArray, List.set_cons_zero, List.set_cons_succ]
      refine two_steps 5 9 (by kernel_rfl) rfl rfl (fun Kq hKq => ?_) (fun Kq hKq => ?_)
      go_simp
      go_at_call 56
      refine (HLK.out _).mono ?_
      rintro e w4 ⟨rfl, hb4⟩
      have hS4 : Below w3.heap.size w3 w4 := hSd.trans (hb4.mono hSd.size)
      refine hKq.out _ _ hS4 (fun hHeld0 => ?_)
      clear hKq Kq hHeld hb4
      have hHeld := hHeld0
      clear hHeld0
      try simp only [Act.put, List.setIfInBounds_toArray, List.set_cons_zero, List.set_cons_succ]
      refine take_run 6 (.tuple #[.agg (idv X), .bool M]) rfl (by kernel_rfl) (by kernel_rfl) (by kernel_rfl) (fun _ _ _ h => h) rfl hHeld (fun w => ?_) ?_
      · go_simp
      simp only [Act.put, List.setIfInBounds_toArray, List.set_cons_zero, List.set_cons_succ]
      refine take_run 7 (.agg (idv X)) rfl (by kernel_rfl) (by kernel_rfl) (by kernel_rfl) (fun _ _ _ h => h) rfl hHeld (fun w => ?_) ?_
      · go_simp
      simp only [Act.put, List.setIfInBounds_toArray, List.set_cons_zero, List.set_cons_succ]
      refine take_run 8 (.bool M) rfl (by kernel_rfl) (by kernel_rfl) (by kernel_rfl) (fun _ _ _ h => h) rfl hHeld (fun w => ?_) ?_
      · go_simp
      simp only [Act.put, List.setIfInBounds_toArray, List.set_cons_zero, List.set_cons_succ]
      refine one_step 9 (by kernel_rfl) rfl (fun Kq hKq => ?_)
      have hz4 : RowB (w4.alloc (.cells (idv noughtsC) 27)) w4.heap.size 27 noughtsC := rowb_lit _ _ _ _ rfl
      have hS5 : Below w3.heap.size w3 (w4.alloc (.cells (idv noughtsC) 27)) := hS4.alloc hS4.size _
      go_simp
      refine hKq.out _ _ hS5 (fun hHeld0 => ?_)
      clear hKq Kq hHeld 
      have hHeld := hHeld0
      clear hHeld0
      try simp only [Act.put, List.setIfInBounds_toArray, List.set_cons_zero, List.set_cons_succ]
      refine one_step 10 (by kernel_rfl) rfl (fun Kq hKq => ?_)
      refine step_store_b 27 _ _ rfl w4.heap.size X noughtsC rfl rfl 27 hz4 (info32 HXL.out) (by rw [HXL.out]; rfl) rfl ?_
      intro wM hgM hXM hsM
      have hgx : w3.heap.size ≤ w4.heap.size := hS4.size
      have hSM : Below w3.heap.size w3 wM := hS5.grown hgM hS5.size (fun q e => by cases e; exact hgx)
      refine hKq.out _ _ hSM (fun hHeld0 => ?_)
      clear hKq Kq hHeld 
      have hHeld := hHeld0
      clear hHeld0
      try simp only [Act.put, List.setIfInBounds_toArray, List.set_cons_zero, List.set_cons_succ]
      refine take_run 11 (.bool M) rfl (by kernel_rfl) (by kernel_rfl) (by kernel_rfl) (fun _ _ _ h => h) rfl hHeld (fun w => ?_) ?_
      · go_simp
      simp only [Act.put, List.setIfInBounds_toArray, List.set_cons_zero, List.set_cons_succ]
      refine wpAnyH_done (by kernel_rfl) ?_ _
      obtain ⟨gx, hgxe⟩ : ∃ q, w4.heap.size = q := ⟨_, rfl⟩
      rw [hgxe] at hXM hgx ⊢
      clear hgxe hHeld hgM hsM
      rotate_left
      have hz4 : RowB (Y0.alloc (.cells (idv noughtsC) 27)) Y0.heap.size 27 noughtsC := rowb_lit _ _ _ _ rfl
      have hS5 : Below w3.heap.size w3 (Y0.alloc (.cells (idv noughtsC) 27)) := hSd.alloc hSd.size _
      go_simp
      refine hKq.out _ _ hS5 (fun hHeld0 => ?_)
      clear hKq Kq hHeld 
      have hHeld := hHeld0
      clear hHeld0
      try simp only [Act.put, List.setIfInBounds_toArray, List.set_cons_zero, List.set_cons_succ]
      refine one_step 5 (by kernel_rfl) rfl (fun Kq hKq => ?_)
      go_simp
      go_at_call 56
      refine (HLK.out _).mono ?_
      rintro e w4 ⟨rfl, hb4⟩
      have hz6 := hz4.keep hb4
      have hS6 : Below w3.heap.size w3 w4 := hS5.trans (hb4.mono hS5.size)
      refine hKq.out _ _ hS6 (fun hHeld0 => ?_)
      clear hKq Kq hHeld hb4
      have hHeld := hHeld0
      clear hHeld0
      try simp only [Act.put, List.setIfInBounds_toArray, List.set_cons_zero, List.set_cons_succ]
      refine take_run 6 (.tuple #[.agg (idv X), .bool M]) rfl (by kernel_rfl) (by kernel_rfl) (by kernel_rfl) (fun _ _ _ h => h) rfl hHeld (fun w => ?_) ?_
      · go_simp
      simp only [Act.put, List.setIfInBounds_toArray, List.set_cons_zero, List.set_cons_succ]
      refine take_run 7 (.agg (idv X)) rfl (by kernel_rfl) (by kernel_rfl) (by kernel_rfl) (fun _ _ _ h => h) rfl hHeld (fun w => ?_) ?_
      · go_simp
      simp only [Act.put, List.setIfInBounds_toArray, List.set_cons_zero, List.set_cons_succ]
      refine take_run 8 (.bool M) rfl (by kernel_rfl) (by kernel_rfl) (by kernel_rfl) (fun _ _ _ h => h) rfl hHeld (fun w => ?_) ?_
      · go_simp
      simp only [Act.put, List.setIfInBounds_toArray, List.set_cons_zero, List.set_cons_succ]
      refine one_step 10 (by kernel_rfl) rfl (fun Kq hKq => ?_)
      refine step_store_b 27 _ _ rfl Y0.heap.size X noughtsC rfl rfl 27 hz6 (info32 HXL.out) (by rw [HXL.out]; rfl) rfl ?_
      intro wM hgM hXM hsM
      have hgx : w3.heap.size ≤ Y0.heap.size := hSd.size
      have hSM : Below w3.heap.size w3 wM := hS6.grown hgM hS6.size (fun q e => by cases e; exact hgx)
      refine hKq.out _ _ hSM (fun hHeld0 => ?_)
      clear hKq Kq hHeld 
      have hHeld := hHeld0
      clear hHeld0
      try simp only [Act.put, List.setIfInBounds_toArray, List.set_cons_zero, List.set_cons_succ]
      refine take_run 11 (.bool M) rfl (by kernel_rfl) (by kernel_rfl) (by kernel_rfl) (fun _ _ _ h => h) rfl hHeld (fun w => ?_) ?_
      · go_simp
      simp only [Act.put, List.setIfInBounds_toArray, List.set_cons_zero, List.set_cons_succ]
      refine wpAnyH_done (by kernel_rfl) ?_ _
      obtain ⟨gx, hgxe⟩ : ∃ q, Y0.heap.size = q := ⟨_, rfl⟩
      rw [hgxe] at hXM hgx ⊢
      clear hgxe hHeld hgM hsM
      all_goals
        cases M with
        | false =>
          have hf : mayC l = false := mayC_part HMX.out
          have hMf : MC = false := HMC.out.symm.trans hf
          have hRf : RC = [] := by have := HRC.out; rw [hMf] at this; simpa using this.symm
          have hZf : ZC = noughtsC := by have := HZC.out; rw [hMf] at this; simpa using this.symm
          subst hMf hRf hZf
          have hzM := KZ.out _ hSM
          have HSMh := Lib.hid (HB1.out.trans (hSM.mono HB1.out.size))
          clear hSM
          go_wp2_with ((with_reducible refine wpList_store_blk rfl 27 _ _ rfl w.heap.size (idv noughtsC) ?hx7 ?hy7 27 _ hzM.is (info32 HNL.out) ?hs7 (idv_one _) ?_); (case hx7 => rfl); (case hy7 => rfl); (case hs7 => rfl)
                       intro w6 hg6 hX6 hs6)
          refine bodyPost_ret (v := .tuple #[.slice none 0 0, .agg (idv noughtsC), .bool false]) ?_ rfl ⟨none, 0, 0, rfl, Bts.nil _, ?_⟩
          · exact results_tct Tryz.results41 _ _ _ w.heap.size 27 _ (0, 0) _ rfl hX6 Tryz.underlying27 rfl (info32 HNL.out) _ _ rfl rfl
          · exact HSMh.out.grown hg6 HSMh.out.size (fun k e => by cases e; exact Nat.le_refl _)
        | true =>
          have hPe : putE u = P := by have := HPP.out; simpa using this
          have hXM1 := KX.out _ hSM
          have hzM := KZ.out _ hSM
          have hoM := KO.out _ hSM
          have hqM := KQ.out _ hSM
          have HBM := Lib.hid (HB1.out.trans (hSM.mono HB1.out.size))
          have HPl := Lib.hid (show P.length = 30 by rw [← hPe]; exact put_len u)
          have HPok := Lib.hid (show ∀ j, 0 ≤ P.getD j 0 ∧ P.getD j 0 < 256 by rw [← hPe]; exact put_ok u)
          have HPe := Lib.hid hPe
          clear hSM hgx hPe
          go_wp2_with (first
            | ((with_reducible refine wpList_load_blk 27 _ rfl gx ?hx8 27 (idv X) (0, 0) _ hXM.is Tryz.underlying27 ?hd8 (info32 HXL.out) ?_ ?hw8); (case hx8 => rfl); (case hd8 => rfl); (case hw8 => rfl))
            | ((with_reducible refine wpList_store_blk rfl 27 _ _ rfl w1.heap.size (idv X) ?hx7 ?hy7 27 _ hXM1.is (info32 HXL.out) ?hs7 (idv_one _) ?_); (case hx7 => rfl); (case hy7 => rfl); (case hs7 => rw [idv_size, idv_size, HXL.out, HHL.out])
               intro w6 hg6 hX6 hs6
               have hX6 : RowB w6 w1.heap.size 27 X := hX6
               have hz6 := rowb_grown hzM hg6 (by omega)
               have ho6 := own_off hoM hg6
               have hq6 := own_off hqM hg6
               have hbq6 : Bts w6 A1 m1 c1 P := by obtain ⟨A, n, c, he, hb⟩ := hq6.slice HPok.out; cases he; exact hb
               have HB6 := Lib.hid (HBM.out.grown hg6 HBM.out.size (fun k e => by cases e; omega))
               have HS6 := Lib.hid (show w1.heap.size + 1 ≤ w6.heap.size from hX6.lt)
               clear hg6 hs6 hzM hoM hqM hXM hXM1)
            | (at_builtin
               refine wpList_append_b rfl _ _ rfl (w1.heap.size + 1) u5 R rfl ho6 A1 m1 c1 P rfl hbq6 (by have := HRL.out; have := HPl.out; have := hbq6.len; omega) HS6.out ?_
               intro v7 w7 ho7 hg7
               have hb7 : Below (w1.heap.size + 1) w6 w7 := (Below.refl _ w6).grown hg7 HS6.out (fun g e => (ho6.size g e).1)
               have ho7 : Own w7 (w1.heap.size + 1) v7 (R ++ P) := ho7
               have hX7 : RowB w7 w1.heap.size 27 X := hX6.below hb7 (Nat.lt_succ_self _)
               have hz7 := hz6.below hb7 (Nat.lt_succ_of_lt hg3)
               have HB7 := Lib.hid (HB6.out.trans (hb7.mono (Nat.le_of_lt (Nat.lt_succ_of_lt hg3))))
               have HS7 := Lib.hid (show w1.heap.size + 1 ≤ w7.heap.size from hX7.lt)
               clear hg7 hb7 hX6 hz6 ho6 hq6 hbq6)
            | (at_builtin
               refine wpList_append_b rfl _ _ rfl (w1.heap.size + 1) v7 (R ++ P) rfl ho7 (some ⟨w1.heap.size, 0, none⟩) 32 32 X rfl (hX7.btsAt HXL.out (by unfold maxLen; omega) HXB.out) (by have := HRL.out; have := HPl.out; rw [List.length_append]; omega) HS7.out ?_
               intro v8 w8 ho8 hg8
               have hb8 : Below (w1.heap.size + 1) w7 w8 := (Below.refl _ w7).grown hg8 HS7.out (fun g e => (ho7.size g e).1)
               have ho8 : Own w8 (w1.heap.size + 1) v8 ((R ++ P) ++ X) := ho8
               have hX8 : RowB w8 w1.heap.size 27 X := hX7.below hb8 (Nat.lt_succ_self _)
               have hz8 := hz7.below hb8 (Nat.lt_succ_of_lt hg3)
               have HB8 := Lib.hid (HB7.out.trans (hb8.mono (Nat.le_of_lt (Nat.lt_succ_of_lt hg3))))
               clear hg8 hb8 hX7 hz7 ho7))
          go_roundw
          case rel => exact ⟨k + 1, by omega, by go_num, HMX.out, by rw [HRX.out, HPe.out, HXE.out rfl]; exact ho8, by rw [HNX.out, HXE.out rfl]; exact hX8, hz8, HB8.out⟩
          case measure => simp [intOf]; omega
    · have hkn : k = n := by omega
      rw [hkn, List.take_of_length_le (by rw [HLL.out]; exact Nat.le_refl _)] at hmk hown hX
      have hMf : MC = true := HMC.out.symm.trans hmk
      have hRf : RC = recsC l := by have := HRC.out; rw [hMf] at this; simpa using this.symm
      have hZf : ZC = headC l := by have := HZC.out; rw [hMf] at this; simpa using this.symm
      rw [← hRf] at hown
      rw [← hZf] at hX
      subst hMf
      have HROK := Lib.hid (show ∀ j, 0 ≤ RC.getD j 0 ∧ RC.getD j 0 < 256 by rw [hRf]; exact recs_byte _)
      have HZL := Lib.hid (show ZC.length = 32 by rw [hZf]; exact headC_len _)
      have HBr := Lib.hid hB
      clear hB hmk hRf hZf
      go_wp2
      have hzd := hz.draw1
      refine wp_region_held_drew (S := (fun w' => RowB w' w1.heap.size 27 ZC ∧ Below w.heap.size w w' ∧ Own w' (w1.heap.size + 1) u5 RC)) (by kernel_rfl) ⟨hX.draw1, HBr.out.drew, hown.draw1⟩ (fun hHeld => ?_)
      have hSd := hHeld
      clear hX hz hown
      refine take_move 0 (.tmp 5) (u5) rfl rfl rfl (by kernel_rfl) (by kernel_rfl) (by kernel_rfl) (fun _ _ _ h => h) rfl hHeld ?_
      simp only [Act.put, List.setIfInBounds_toArray, List.set_cons_zero, List.set_cons_succ]
      refine take_if 1 (.agg (idv ZC)) rfl (by kernel_rfl) (by kernel_rfl) (by kernel_rfl) (fun _ _ _ h => h) rfl hHeld (fun w' hw' => ?_) ?_
      · exact id_load hw'.1 HZL.out rfl rfl
      simp only [Act.put, List.setIfInBounds_toArray, List.set_cons_zero, List.set_cons_succ]
      refine take_run 2 (u5) rfl (by kernel_rfl) (by kernel_rfl) (by kernel_rfl) (fun _ _ _ h => h) rfl hHeld (fun w => ?_) ?_
      · go_simp
      simp only [Act.put, List.setIfInBounds_toArray, List.set_cons_zero, List.set_cons_succ]
      refine one_step 3 (by kernel_rfl) rfl (fun Kq hKq => ?_)
      refine step_store_b 27 _ _ rfl w.heap.size ZC noughtsC rfl rfl 27 hzd (info32 HZL.out) (by rw [HZL.out]; rfl) rfl ?_
      intro wM hgM hXM hsM
      have hSM : RowB wM w1.heap.size 27 ZC ∧ Below w.heap.size w wM ∧ Own wM (w1.heap.size + 1) u5 RC := ⟨rowb_grown hSd.1 hgM (by omega), hSd.2.1.grown hgM hSd.2.1.size (fun q e => by cases e; exact Nat.le_refl _), hSd.2.2.far hgM (own_far hSd.2.2 (by omega))⟩
      refine hKq.out _ _ hSM (fun hHeld0 => ?_)
      clear hKq Kq hHeld
      have hHeld := hHeld0
      clear hHeld0
      try simp only [Act.put, List.setIfInBounds_toArray, List.set_cons_zero, List.set_cons_succ]
      refine take_run 4 (.bool true) rfl (by kernel_rfl) (by kernel_rfl) (by kernel_rfl) (fun _ _ _ h => h) rfl hHeld (fun w => ?_) ?_
      · go_simp
      simp only [Act.put, List.setIfInBounds_toArray, List.set_cons_zero, List.set_cons_succ]
      refine wpAnyH_done (by kernel_rfl) ?_ _
      obtain ⟨A9, n9, c9, rfl, hbt9⟩ := hSM.2.2.slice HROK.out
      go_wp2
      refine bodyPost_ret (v := .tuple #[.slice A9 n9 c9, .agg (idv ZC), .bool true]) ?_ rfl ⟨A9, n9, c9, rfl, hbt9, hSM.2.1⟩
      exact results_tct Tryz.results41 _ _ _ w.heap.size 27 _ (0, 0) _ rfl hXM Tryz.underlying27 rfl (info32 HZL.out) _ _ rfl rfl
theorem rputc_any (A : Option Addr) (n c : Nat) (l : List En) (w : World) (hl : Ens w A n c l) (ho : ∀ u ∈ l, u.ok) :
    Calls Tryz.prog 41 #[.slice A n c] w (GP (if putC l then recsC l else []) (if putC l then headC l else noughtsC) (putC l) w) := by
  have hlen := hl.len
  by_cases h : n ≤ 264
  · have e : putC l = mayC l := by rw [putC, decide_eq_true (by omega), Bool.true_and]
    rw [e]
    exact rputc_short A n c l w hl ho h
  · have e : putC l = false := by rw [putC, decide_eq_false (by omega), Bool.false_and]
    rw [e]
    exact rputc_long A n c l w hl (by omega)
end Go.Proofs.YtafmompplcaadaaGreatDoor

/- Regions by hand: whole rows loaded, built and stored, one operation after another. -/
namespace Go.Proofs.YtafmompplcaadaaGreatDoor
set_option maxRecDepth 100000
open Go.RowKit

section
variable {P : Program} {l : List Oper} {Q : Exit → Act → World → Prop} {md : Region.Mode} {S : World → Prop} {oi : Oper} {fuel : Nat} {listed : Array Bool} {a : Act} {w : World}
/-- a load of a row, out of the middle of a block -/
theorem take_mid (i : Nat) (ty : TypeId) (x : Operand) (g off : Nat) (cs : List Value) (T : Array Value) (hT : cs.toArray = T) (d : TypeDesc) (hi : l[i]? = some oi) (ho : oi.op = .load ty x) (hx : a.eval x = .pointer (some ⟨g, off, none⟩)) (hs : Region.noSelect l.toArray = true) (hf : Region.free md l.toArray listed i = true) (hr : (Region.ready md l.toArray listed).contains i = true)
    (hQ : ∀ c a w, Q (.panic c) (a.put oi.dst (.agg T)) w → Q (.panic c) a w) (hw : Region.wanted oi (yielded l.toArray a.tmps) = true) (hS : S w) (hat : ∀ w, S w → w.rangeAt g off cs)
    (hu : P.underlying ty = some d) (hd : d.isRow = true) (hsz : (P.info? ty).map (·.size) = some cs.length)
    (h : wpAnyH P md l.toArray Q S fuel (listed.setIfInBounds i true) (a.put oi.dst (.agg T)) w) : wpAnyH P md l.toArray Q S (fuel + 1) listed a w := by
  subst hT
  exact wpAnyH_take (by simpa using hi) hs hf hr hQ (yieldsIf_load_mid hw ty x ho g off hx cs d hat hu hd hsz) hS h
/-- a load of a whole block -/
theorem take_blk (i : Nat) (ty : TypeId) (x : Operand) (g : Nat) (t : TypeId) (cs : Array Value) (fr : Nat × Nat) (d : TypeDesc) (hi : l[i]? = some oi) (ho : oi.op = .load ty x) (hx : a.eval x = .pointer (some ⟨g, 0, none⟩)) (hs : Region.noSelect l.toArray = true) (hf : Region.free md l.toArray listed i = true) (hr : (Region.ready md l.toArray listed).contains i = true)
    (hQ : ∀ c a w, Q (.panic c) (a.put oi.dst (.agg cs)) w → Q (.panic c) a w) (hw : Region.wanted oi (yielded l.toArray a.tmps) = true) (hS : S w) (hat : ∀ w, S w → w.heap[g]? = some (.cells cs t fr))
    (hu : P.underlying ty = some d) (hd : (match d with | .struct _ | .array _ _ => true | _ => false) = true) (hsz : (P.info? ty).map (·.size) = some cs.size)
    (h : wpAnyH P md l.toArray Q S fuel (listed.setIfInBounds i true) (a.put oi.dst (.agg cs)) w) : wpAnyH P md l.toArray Q S (fuel + 1) listed a w :=
  take_if i (.agg cs) hi hs hf hr hQ hw hS (fun w' hw' => by
    unfold execOp
    simp only [ho, hx, Instr.loadAt, Instr.sureAddr, Sem.run_bind, Sem.run_pure, Result.andThen_ok, run_loadVar_row w' g t ty cs fr d (hat w' hw') hu hd hsz]) h
/-- a row that is built -/
theorem take_build (i : Nat) (t : TypeId) (parts : Array (Nat × Operand)) (m : List (Nat × Value)) (Y : Array Value) (hi : l[i]? = some oi) (ho : oi.op = .build t parts) (hm : parts.toList.map (fun (i, x) => (i, a.eval x)) = m) (hb : P.built t m = some Y) (hs : Region.noSelect l.toArray = true) (hf : Region.free md l.toArray listed i = true) (hr : (Region.ready md l.toArray listed).contains i = true)
    (hQ : ∀ c a w, Q (.panic c) (a.put oi.dst (.agg Y)) w → Q (.panic c) a w) (hw : Region.wanted oi (yielded l.toArray a.tmps) = true) (hS : S w)
    (h : wpAnyH P md l.toArray Q S fuel (listed.setIfInBounds i true) (a.put oi.dst (.agg Y)) w) : wpAnyH P md l.toArray Q S (fuel + 1) listed a w :=
  take_run i (.agg Y) hi hs hf hr hQ hw hS (fun w' => by
    have hl : (parts.map fun (i, x) => (i, a.eval x)).toList = m := by rw [Array.toList_map]; exact hm
    unfold execOp
    simp only [ho, Sem.run_bind, run_build w' t _ Y (hl ▸ hb), Result.andThen_ok]
    rfl) h
end
/-- a store of a whole block -/
theorem step_store_row {P : Program} {ops : Array Oper} {o : Oper} {a : Act} {w : World} {K : Act → World → Prop} {Q : Exit → Act → World → Prop} {E : Prop} (ty : TypeId) (x y : Operand) (ho : o.op = .store ty x y)
    (g : Nat) (cells : Array Value) (hx : a.eval x = .pointer (some ⟨g, 0, none⟩)) (hy : a.eval y = .agg cells) (t : TypeId) (old : Array Value) (hg : w.heap[g]? = some (.cells old t (0, 0))) (hi : (P.info? ty).map (·.size) = some cells.size) (hold : old.size = cells.size) (h1 : cells.all (·.oneCell') = true) (hw : Region.wanted o (yielded ops a.tmps) = true)
    (h : ∀ w', w.grownBy w' (some g) → w'.heap[g]? = some (.cells cells t (0, 0)) → w'.heap.size = w.heap.size → K (a.put o.dst undef) w') : if Region.wanted o (yielded ops a.tmps) = true then Oper.wp P o a w K Q else E := by
  rw [if_pos hw]
  exact wp_store_row ty x y ho g cells hx hy t old hg hi hold h1 (h _ (grown_setRow _ _ _) (setRow_heap _ _ _ _ _ _ hg) (by simp))
/-- a block that stays -/
theorem blk_below {w w' : World} {g : Nat} {t : TypeId} {cs : Array Value} {fr : Nat × Nat} (h : w.heap[g]? = some (.cells cs t fr)) (hb : Below w.heap.size w w') : w'.heap[g]? = some (.cells cs t fr) := (hb.block g (Array.getElem?_eq_some_iff.1 h).1).trans h
theorem blk_drew {w : World} {g : Nat} {t : TypeId} {cs : Array Value} {fr : Nat × Nat} (h : w.heap[g]? = some (.cells cs t fr)) : w.drew.heap[g]? = some (.cells cs t fr) := h
theorem blk_other {w w' : World} {g k : Nat} {t : TypeId} {cs : Array Value} {fr : Nat × Nat} (h : w.heap[g]? = some (.cells cs t fr)) (hg : w.grownBy w' (some k)) (hne : g ≠ k) : w'.heap[g]? = some (.cells cs t fr) := (hg.block g (Array.getElem?_eq_some_iff.1 h).1 (fun e => hne (Option.some.inj e))).trans h
theorem size_st3 (a b c : Value) : (Tryz.prog.info? 24).map (·.size) = some (#[a, b, c] : Array Value).size := by
  show _ = some 3
  kernel_rfl
theorem size_st : (Tryz.prog.info? 24).map (·.size) = some 3 := by kernel_rfl
end Go.Proofs.YtafmompplcaadaaGreatDoor

/- What package audit does: seven contracts that its own walks must bring; the walks over the laws stand on them alone. -/
namespace Go.Proofs.YtafmompplcaadaaGreatDoor
set_option maxRecDepth 100000
open Go.RowKit

/-- not too long for a law that asks for few -/
def LgSm (g : Lg) : Prop := g.st.data.length ≤ 1000000 ∧ g.l.length ≤ 1000000
structure AudOk : Prop where
  new : ∀ (room : Int) (X : World), KTab X → Calls Tryz.prog 10 #[.int .i64 room] X (GLB (newG room) X)
  may : ∀ (p : Lp) (g : Lg) (X : World), KTab X → LgAt X p g → LgSm g → Calls Tryz.prog 17 #[.agg p.arr] X (GBe (mayG g) X)
  same : ∀ (p q : Lp) (a b : Lg) (X : World), KTab X → LgAt X p a → LgAt X q b → LgSm a → LgSm b → Calls Tryz.prog 18 #[.agg p.arr, .agg q.arr] X (GBe (sameG a b) X)
  open_ : ∀ (s : Sp) (A : Option Addr) (n c : Nat) (X : World), KTab X → Bts X A n c s.data → n ≤ 1000000 → Calls Tryz.prog 8 #[.agg #[.int .i64 s.cap, .slice A n c, .int .i64 s.sure]] X (GLE (openG s) X)
  room : ∀ (p : Lp) (g : Lg) (X : World), KTab X → LgAt X p g → LgSm g → Calls Tryz.prog 19 #[.agg p.arr] X (fun e w' => e = .returned (.int .i64 (roomG g)) ∧ Below X.heap.size X w')
  add : ∀ (p : Lp) (g : Lg) (u : En) (urg : Bool) (X : World), KTab X → LgAt X p g → LgSm g → u.ok → Calls Tryz.prog 6 #[.agg p.arr, .agg (enA u), .bool urg] X (GLE (addG g u urg) X)
  torn : ∀ (p : Lp) (g : Lg) (u : En) (keep : Int) (X : World), KTab X → LgAt X p g → LgSm g → u.ok → Calls Tryz.prog 14 #[.agg p.arr, .agg (enA u), .int .i64 keep] X (GSt (tornG g u keep) X)
end Go.Proofs.YtafmompplcaadaaGreatDoor

/- The chapter's example of a log, of which each law asks first. -/
namespace Go.Proofs.YtafmompplcaadaaGreatDoor
set_option maxRecDepth 100000
set_option linter.unusedVariables false
set_option linter.unusedSimpArgs false
open Go.RowKit

def exA : En := ⟨0, 0, 1, 0, 0, 0, 0, 0, 0⟩
theorem exA_may : mayE exA = true := by decide
theorem exA_ok : exA.ok := ⟨by decide, by decide⟩
theorem zeroE_may : mayE En.zero = true := by decide
theorem zeroE_ok : En.zero.ok := ⟨by decide, by decide⟩
def g0A : Lg := ⟨⟨400, [], 0⟩, [], headC []⟩
theorem new400 : newG 400 = (g0A, true) := by rw [newG, if_pos (by decide)]; rfl
theorem g0_may : mayG g0A = true := mayG_iff.2 ⟨may_of ⟨by decide, by decide, by decide, by decide, by decide⟩, rfl, rfl, rfl, rfl⟩
theorem g0_slots : slotsG g0A = 6 := by decide
theorem g0_room : roomG g0A = 2 := by rw [room_in g0_may, g0_slots]; rfl
theorem g0_fits : (g0A.l.length : Int) < slotsG g0A := by rw [g0_slots]; decide
theorem g0_full : fullG g0A false = false := by rw [fullG, g0_slots, g0_room]; rfl
theorem g0_add : addG g0A exA false = (moreG g0A exA, 0) := add_ok g0_may exA_may g0_full
theorem g0_each : ∀ u ∈ g0A.l, u.ok := fun u hu => by cases hu
theorem x_may : mayG (moreG g0A exA) = true := more_may g0_may exA_may g0_fits
theorem x_room : roomG (moreG g0A exA) = 1 := by rw [more_room g0_may exA_may g0_fits, g0_slots]; rfl
theorem x_open : openG (moreG g0A exA).st = (moreG g0A exA, 0) := open_log x_may (more_ok g0_each exA_ok)
theorem x_len : (moreG g0A exA).st.data.length = 62 ∧ (moreG g0A exA).l.length = 1 := ⟨(moreG_parts g0A exA).2.2.2.2.1, rfl⟩
theorem torn_nine : (tornG g0A En.zero 9).data.length = 9 := by
  have hw := write_rec g0_may zeroE_may g0_fits
  have hwm := (write_may (mayG_iff.1 g0_may).1 hw).1
  have hml := more_len g0A En.zero
  obtain ⟨j, hj, h1, h2, h3⟩ := kept_at (keep := 9) hwm
  rw [tornG, g0_may, zeroE_may, decide_eq_true g0_fits, Bool.and_self, Bool.and_self, if_pos rfl, hw]
  show (crashP ⟨g0A.st.cap, recsC (g0A.l ++ [En.zero]), 62 * g0A.l.length⟩ 9).data.length = 9
  rw [h3]
  rw [keptP] at hj
  simp only at hj h2 ⊢
  rw [hml] at hj h2
  rw [List.length_take, hml]
  have hl : g0A.l.length = 0 := rfl
  rw [hl] at hj h2 ⊢
  omega
theorem st_field (a c : Int) (A : Option Addr) (n m : Nat) (w : World) : (Instr.field 24 (.agg #[.int .i64 a, .slice A n m, .int .i64 c]) 1).run Tryz.prog w = .ok (.slice A n m) w := by
  first | rfl | kernel_rfl
theorem built_exA : Tryz.prog.built 33 [(2, .int .i64 1)] = some (enA exA) :=
  built_of (z := .agg (enA En.zero)) (places := [(0, 1), (1, 1), (2, 1), (3, 1), (4, 1), (5, 1), (6, 1), (7, 1), (8, 1)]) Tryz.underlying33 (by kernel_rfl) (by kernel_rfl) rfl
theorem built_zeroE : Tryz.prog.built 33 [] = some (enA En.zero) :=
  built_of (z := .agg (enA En.zero)) (places := [(0, 1), (1, 1), (2, 1), (3, 1), (4, 1), (5, 1), (6, 1), (7, 1), (8, 1)]) Tryz.underlying33 (by kernel_rfl) (by kernel_rfl) rfl
set_option maxHeartbeats 4000000 in
theorem aawake_any (HA : AudOk) (w : World) (hK : KTab w) : Calls Tryz.prog 4 #[] w fun e w' => e = .returned (.bool true) ∧ Below w.heap.size w w' := by
  have HK := Lib.hid hK
  have HNW := Lib.hid (fun (X : World) (hk : KTab X) => HA.new 400 X hk)
  rw [new400] at HNW
  have HAD := Lib.hid (fun (p : Lp) (X : World) (hk : KTab X) (h : LgAt X p g0A) => HA.add p g0A exA false X hk h ⟨by decide, by decide⟩ exA_ok)
  rw [g0_add] at HAD
  have HTO := Lib.hid (fun (p : Lp) (X : World) (hk : KTab X) (h : LgAt X p g0A) => HA.torn p g0A En.zero 9 X hk h ⟨by decide, by decide⟩ zeroE_ok)
  have HR1 := Lib.hid (fun (p : Lp) (X : World) (hk : KTab X) (h : LgAt X p g0A) => HA.room p g0A X hk h ⟨by decide, by decide⟩)
  rw [g0_room] at HR1
  have hxs : LgSm (moreG g0A exA) := ⟨by rw [x_len.1]; omega, by rw [x_len.2]; omega⟩
  have hxo := x_open
  have HT9 := Lib.hid torn_nine
  have HMY := Lib.hid (fun (p : Lp) (X : World) (hk : KTab X) (h : LgAt X p (moreG g0A exA)) => HA.may p _ X hk h hxs)
  rw [x_may] at HMY
  have HR2 := Lib.hid (fun (p : Lp) (X : World) (hk : KTab X) (h : LgAt X p (moreG g0A exA)) => HA.room p _ X hk h hxs)
  rw [x_room] at HR2
  have HSM := Lib.hid (fun (p q : Lp) (X : World) (hk : KTab X) (h : LgAt X p (moreG g0A exA)) (h2 : LgAt X q (moreG g0A exA)) => HA.same p q _ _ X hk h h2 hxs hxs)
  rw [sameG_self] at HSM
  have hxl := x_len
  obtain ⟨g1, hg1⟩ : ∃ x, moreG g0A exA = x := ⟨_, rfl⟩
  rw [hg1] at HAD HMY HR2 HSM hxo hxl
  obtain ⟨g0, hg0⟩ : ∃ x, g0A = x := ⟨_, rfl⟩
  simp only [hg0] at HNW HAD HTO HR1 HT9
  obtain ⟨T, hT⟩ : ∃ x, tornG g0 En.zero 9 = x := ⟨_, rfl⟩
  simp only [hT] at HTO HT9
  have HOP := Lib.hid (show ∀ (p : Lp) (X : World), KTab X → LgAt X p g1 → Calls Tryz.prog 8 #[.agg #[.int .i64 p.cap, .slice p.A p.n p.c, .int .i64 p.sure]] X (GLE (g1, 0) X) from fun p X hk h => by
    have h0 := HA.open_ g1.st p.A p.n p.c X hk h.data (by rw [← h.data.len, hxl.1]; omega)
    rw [hxo, ← h.cap, ← h.sure] at h0
    exact h0)
  have HXL := Lib.hid hxl
  have hfd := st_field
  clear hK HA hxs hxo hxl hg1 hg0 hT
  go_enter Tryz.func4, Tryz.ntmps4
  go_wp2_with (first
    | (go_at_call 10
       (with_reducible refine (HNW.out _ HK.out).mono ?_)
       rintro e w1 ⟨p1, rfl, hp1, hb1⟩
       have HP1 := Lib.hid hp1
       have HB1 := Lib.hid hb1
       clear hp1 hb1)
    | ((with_reducible refine wpList_store_blk rfl 29 _ _ rfl w1.heap.size p1.arr ?hx31 ?hy31 29 _ (heap_alloc_new w1 _) HP1.out.whole ?hs31 (lp_one _) ?_); (case hx31 => rfl); (case hy31 => rfl); (case hs31 => exact (lp_size (p := Lp.zero) rfl).trans (lp_size HP1.out.hlen).symm)
       intro w2 hg k1 hs
       have hbx : Below w1.heap.size w1 w2 := Below.grows (one_alloc w1 _) hg (size_le_alloc _ _) (Nat.le_refl _)
       have HP1 := Lib.hid (HP1.out.below hbx)
       have HB2 := Lib.hid (HB1.out.trans (hbx.mono HB1.out.size))
       clear hbx hg hs)
    | ((with_reducible refine wpList_load_blk 29 _ rfl w1.heap.size ?hx1 29 p1.arr (0, 0) _ k1 Tryz.underlying29 ?hd1 HP1.out.whole ?_ ?hw1); (case hx1 => rfl); (case hd1 => rfl); (case hw1 => rfl))
    | ((with_reducible refine wpList_build_to rfl 33 _ rfl [(2, .int .i64 1)] (enA exA) ?hl5 ?hb5 ?_); (case hl5 => rfl); (case hb5 => exact built_exA))
    | (go_at_call 6
       (with_reducible refine (HAD.out p1 _ (HK.out.from HB2.out) HP1.out).mono ?_)
       rintro e w3 ⟨p2, rfl, hp2, hbx⟩
       have HP2 := Lib.hid hp2
       have k1 := blk_below k1 hbx
       have HP1 := Lib.hid (HP1.out.below hbx)
       have HB3 := Lib.hid (HB2.out.trans (hbx.mono HB2.out.size))
       clear hp2 hbx)
    | ((with_reducible refine wpList_store_blk rfl 29 _ _ rfl w3.heap.size p2.arr ?hx32 ?hy32 29 _ (heap_alloc_new w3 _) HP2.out.whole ?hs32 (lp_one _) ?_); (case hx32 => rfl); (case hy32 => rfl); (case hs32 => exact (lp_size (p := Lp.zero) rfl).trans (lp_size HP2.out.hlen).symm)
       intro w4 hg k2 hs
       have hbx : Below w3.heap.size w3 w4 := Below.grows (one_alloc w3 _) hg (size_le_alloc _ _) (Nat.le_refl _)
       have k1 := blk_below k1 hbx
       have HP1 := Lib.hid (HP1.out.below hbx)
       have HP2 := Lib.hid (HP2.out.below hbx)
       have HB4 := Lib.hid (HB3.out.trans (hbx.mono HB3.out.size))
       clear hbx hg hs)
    | ((with_reducible refine wpList_load_on 24 _ rfl w3.heap.size 0 ?hx7 [.int .i64 p2.cap, .slice p2.A p2.n p2.c, .int .i64 p2.sure] _ rfl _ (lg_st k2) Tryz.underlying24 ?hd7 (by kernel_rfl) ?_ ?hw7); (case hx7 => rfl); (case hd7 => rfl); (case hw7 => rfl))
    | (go_at_call 8
       (with_reducible refine (HOP.out p2 _ (HK.out.from HB4.out) HP2.out).mono ?_)
       rintro e w5 ⟨p3, rfl, hp3, hbx⟩
       have HP3 := Lib.hid hp3
       have k1 := blk_below k1 hbx
       have k2 := blk_below k2 hbx
       have HP1 := Lib.hid (HP1.out.below hbx)
       have HP2 := Lib.hid (HP2.out.below hbx)
       have HB5 := Lib.hid (HB4.out.trans (hbx.mono HB4.out.size))
       clear hp3 hbx)
    | ((with_reducible refine wpList_store_blk rfl 29 _ _ rfl w5.heap.size p3.arr ?hx33 ?hy33 29 _ (heap_alloc_new w5 _) HP3.out.whole ?hs33 (lp_one _) ?_); (case hx33 => rfl); (case hy33 => rfl); (case hs33 => exact (lp_size (p := Lp.zero) rfl).trans (lp_size HP3.out.hlen).symm)
       intro w6 hg k3 hs
       have hbx : Below w5.heap.size w5 w6 := Below.grows (one_alloc w5 _) hg (size_le_alloc _ _) (Nat.le_refl _)
       have k1 := blk_below k1 hbx
       have k2 := blk_below k2 hbx
       have HP1 := Lib.hid (HP1.out.below hbx)
       have HP2 := Lib.hid (HP2.out.below hbx)
       have HP3 := Lib.hid (HP3.out.below hbx)
       have HB6 := Lib.hid (HB5.out.trans (hbx.mono HB5.out.size))
       clear hbx hg hs)
    | (go_at_call 19
       (with_reducible refine (HR1.out p1 _ (HK.out.from HB6.out) HP1.out).mono ?_)
       rintro e w7 ⟨rfl, hbx⟩
       have k1 := blk_below k1 hbx
       have k2 := blk_below k2 hbx
       have k3 := blk_below k3 hbx
       have HP1 := Lib.hid (HP1.out.below hbx)
       have HP2 := Lib.hid (HP2.out.below hbx)
       have HP3 := Lib.hid (HP3.out.below hbx)
       have HB7 := Lib.hid (HB6.out.trans (hbx.mono HB6.out.size))
       clear hbx)
    | ((with_reducible refine wpList_load_blk 29 _ rfl w3.heap.size ?hx2 29 p2.arr (0, 0) _ k2 Tryz.underlying29 ?hd2 HP2.out.whole ?_ ?hw2); (case hx2 => rfl); (case hd2 => rfl); (case hw2 => rfl))
    | (go_at_call 19
       (with_reducible refine (HR2.out p2 _ (HK.out.from HB7.out) HP2.out).mono ?_)
       rintro e w8 ⟨rfl, hbx⟩
       have k1 := blk_below k1 hbx
       have k2 := blk_below k2 hbx
       have k3 := blk_below k3 hbx
       have HP1 := Lib.hid (HP1.out.below hbx)
       have HP2 := Lib.hid (HP2.out.below hbx)
       have HP3 := Lib.hid (HP3.out.below hbx)
       have HB8 := Lib.hid (HB7.out.trans (hbx.mono HB7.out.size))
       clear hbx)
    | ((with_reducible refine wpList_load_blk 29 _ rfl w5.heap.size ?hx3 29 p3.arr (0, 0) _ k3 Tryz.underlying29 ?hd3 HP3.out.whole ?_ ?hw3); (case hx3 => rfl); (case hd3 => rfl); (case hw3 => rfl))
    | (go_at_call 18
       (with_reducible refine (HSM.out p2 p3 _ (HK.out.from HB8.out) HP2.out HP3.out).mono ?_)
       rintro e w9 ⟨rfl, hbx⟩
       have k1 := blk_below k1 hbx
       have k2 := blk_below k2 hbx
       have k3 := blk_below k3 hbx
       have HP1 := Lib.hid (HP1.out.below hbx)
       have HP2 := Lib.hid (HP2.out.below hbx)
       have HP3 := Lib.hid (HP3.out.below hbx)
       have HB9 := Lib.hid (HB8.out.trans (hbx.mono HB8.out.size))
       clear hbx)
    | (go_at_call 17
       (with_reducible refine (HMY.out p2 _ (HK.out.from HB9.out) HP2.out).mono ?_)
       rintro e w10 ⟨rfl, hbx⟩
       have k1 := blk_below k1 hbx
       have k2 := blk_below k2 hbx
       have k3 := blk_below k3 hbx
       have HP1 := Lib.hid (HP1.out.below hbx)
       have HP2 := Lib.hid (HP2.out.below hbx)
       have HP3 := Lib.hid (HP3.out.below hbx)
       have HB10 := Lib.hid (HB9.out.trans (hbx.mono HB9.out.size))
       have x3 := (lg_cells k3).2.2.2
       have hm3 : (p3.m : Int) = 1 := by have := HP3.out.ents.len; have := HXL.out.2; omega
       clear hbx)
    | ((with_reducible refine wpList_build_on 33 _ rfl [] (enA En.zero) ?hl6 ?hb6 ?_ ?hw6); (case hl6 => rfl); (case hb6 => exact built_zeroE); (case hw6 => rfl))
    | (go_at_call 14
       (with_reducible refine (HTO.out p1 _ (HK.out.from HB10.out) HP1.out).mono ?_)
       rintro e w11 ⟨A9, n9, c9, rfl, hbt, hbx⟩
       have hn9 : n9 = 9 := by have := hbt.len; have := HT9.out; omega
       subst hn9
       have HB11 := Lib.hid (HB10.out.trans (hbx.mono HB10.out.size))
       clear hbx hbt))
  go_ret
  exact ⟨rfl, HB11.out⟩
end Go.Proofs.YtafmompplcaadaaGreatDoor

/- The laws' own test: has a log few entries, and few bytes? -/
namespace Go.Proofs.YtafmompplcaadaaGreatDoor
set_option maxRecDepth 100000
set_option linter.unusedVariables false
set_option linter.unusedSimpArgs false
open Go.RowKit

def fewG (g : Lg) : Bool := decide (g.l.length ≤ 30) && decide (g.st.data.length ≤ 2500)
theorem few_sm {g : Lg} (h : fewG g = true) : LgSm g ∧ g.l.length ≤ 30 ∧ g.st.data.length ≤ 2500 := by
  rw [fewG, Bool.and_eq_true, decide_eq_true_eq, decide_eq_true_eq] at h
  exact ⟨⟨by omega, by omega⟩, h⟩
set_option maxHeartbeats 1000000 in
theorem afew_any (p : Lp) (g : Lg) (w : World) (h : LgAt w p g) : Calls Tryz.prog 5 #[.agg p.arr] w (GBe (fewG g) w) := by
  obtain ⟨x0, x1, x2, x3⟩ := lg_cells (heap_alloc_new w (.cells p.arr 29 (0, 0)))
  have HB0 := Lib.hid (one_alloc w (.cells p.arr 29 (0, 0)))
  have hn := h.data.small
  have hm := h.ents.small
  have h1 := h.ents.len
  have h2 := h.data.len
  by_cases q1 : (p.m : Int) ≤ 30
  · by_cases q2 : (p.n : Int) ≤ 2500
    · have HR := Lib.hid (show true = fewG g by rw [fewG, decide_eq_true (by omega), decide_eq_true (by omega)]; rfl)
      clear h h1 h2
      go_enter Tryz.func5, Tryz.ntmps5
      go_wp2
      go_ret
      exact ⟨ret_bool HR.out, HB0.out⟩
    · have HR := Lib.hid (show false = fewG g by rw [fewG, decide_eq_true (by omega : g.l.length ≤ 30), decide_eq_false (by omega)]; rfl)
      clear h h1 h2
      go_enter Tryz.func5, Tryz.ntmps5
      go_wp2
      go_ret
      exact ⟨ret_bool HR.out, HB0.out⟩
  · have HR := Lib.hid (show false = fewG g by rw [fewG, decide_eq_false (by omega : ¬ g.l.length ≤ 30)]; rfl)
    clear h h1 h2
    go_enter Tryz.func5, Tryz.ntmps5
    go_wp2
    go_ret
    exact ⟨ret_bool HR.out, HB0.out⟩
end Go.Proofs.YtafmompplcaadaaGreatDoor

/- The walk over the law AuditTorn: behind a crash in the midst of adding a log is as it was, or has that entry. -/
namespace Go.Proofs.YtafmompplcaadaaGreatDoor
set_option maxRecDepth 100000
set_option linter.unusedVariables false
set_option linter.unusedSimpArgs false
open Go.RowKit

theorem torn_sm {g : Lg} {e : En} {keep : Int} (h : mayG g = true) (hl : g.l.length ≤ 30) : (tornG g e keep).data.length ≤ 1000000 := by
  by_cases he : mayE e = true ∧ (g.l.length : Int) < slotsG g
  · obtain ⟨j, hj, h1, h2, -, -⟩ := torn_cases keep h he.1 he.2
    rw [hj]
    simp only [List.length_take]
    omega
  · have ht : tornG g e keep = g.st := by
      rw [tornG, if_neg]
      intro hc
      rw [Bool.and_eq_true, Bool.and_eq_true, decide_eq_true_eq] at hc
      exact he hc.2
    rw [ht]
    have := (mayG_len h).1
    omega
theorem add_sm {g : Lg} {e : En} {u : Bool} (h : mayG g = true) (hs : LgSm g) (hl : g.l.length ≤ 30) : LgSm (addG g e u).1 := by
  rcases add_cases (e := e) (u := u) h with ⟨-, h2⟩ | ⟨-, -, h2⟩ | ⟨-, -, -, h2⟩
  · rw [h2]; exact hs
  · rw [h2]; exact hs
  · rw [h2]
    obtain ⟨p1, -, -, -, p5, -⟩ := moreG_parts g e
    refine ⟨?_, ?_⟩
    · simp only; rw [p5]; omega
    · simp only; rw [p1]; omega
end Go.Proofs.YtafmompplcaadaaGreatDoor

/- The walks over package store's May and Left, and the document's. -/
namespace Go.Proofs.YtafmompplcaadaaGreatDoor
set_option maxRecDepth 100000
set_option linter.unusedVariables false
set_option linter.unusedSimpArgs false
open Go.RowKit

set_option maxHeartbeats 1000000 in
theorem stmay_any (cap : Int) (A : Option Addr) (n c : Nat) (sure : Int) (w : World) (hn : n ≤ 9223372036854775807) :
    Calls Tryz.prog 42 #[.agg #[.int .i64 cap, .slice A n c, .int .i64 sure]] w (GBool (mayT cap n sure) w) := by
  have HB := Lib.hid (one_alloc w (.cells #[.int .i64 cap, .slice A n c, .int .i64 sure] 24))
  by_cases h1 : 0 ≤ cap
  · by_cases h2 : cap ≤ 16384
    · by_cases h3 : (n : Int) ≤ cap
      · by_cases h4 : 0 ≤ sure
        · by_cases h5 : sure ≤ (n : Int)
          · have HM := Lib.hid (show true = mayT cap n sure from (mayT_iff.2 ⟨h1, h2, h3, h4, h5⟩).symm)
            go_enter Tryz.func42, Tryz.ntmps42
            go_wp2
            go_ret
            exact ⟨ret_bool HM.out, HB.out⟩
          · have HM := Lib.hid (mayT_no (cap := cap) (n := n) (sure := sure) (fun h => h5 h.2.2.2.2))
            go_enter Tryz.func42, Tryz.ntmps42
            go_wp2
            go_ret
            exact ⟨ret_bool HM.out, HB.out⟩
        · have HM := Lib.hid (mayT_no (cap := cap) (n := n) (sure := sure) (fun h => h4 h.2.2.2.1))
          go_enter Tryz.func42, Tryz.ntmps42
          go_wp2
          go_ret
          exact ⟨ret_bool HM.out, HB.out⟩
      · have HM := Lib.hid (mayT_no (cap := cap) (n := n) (sure := sure) (fun h => h3 h.2.2.1))
        go_enter Tryz.func42, Tryz.ntmps42
        go_wp2
        go_ret
        exact ⟨ret_bool HM.out, HB.out⟩
    · have HM := Lib.hid (mayT_no (cap := cap) (n := n) (sure := sure) (fun h => h2 h.2.1))
      go_enter Tryz.func42, Tryz.ntmps42
      go_wp2
      go_ret
      exact ⟨ret_bool HM.out, HB.out⟩
  · have HM := Lib.hid (mayT_no (cap := cap) (n := n) (sure := sure) (fun h => h1 h.1))
    go_enter Tryz.func42, Tryz.ntmps42
    go_wp2
    go_ret
    exact ⟨ret_bool HM.out, HB.out⟩
set_option maxHeartbeats 1000000 in
theorem rstmay_any (cap : Int) (A : Option Addr) (n c : Nat) (sure : Int) (w : World) (hn : n ≤ 9223372036854775807) :
    Calls Tryz.prog 31 #[.agg #[.int .i64 cap, .slice A n c, .int .i64 sure]] w (GBool (mayT cap n sure) w) := by
  have HB := Lib.hid (one_alloc w (.cells #[.int .i64 cap, .slice A n c, .int .i64 sure] 24))
  by_cases h1 : 0 ≤ cap
  · by_cases h2 : cap ≤ 16384
    · by_cases h3 : (n : Int) ≤ cap
      · by_cases h4 : 0 ≤ sure
        · by_cases h5 : sure ≤ (n : Int)
          · have HM := Lib.hid (show true = mayT cap n sure from (mayT_iff.2 ⟨h1, h2, h3, h4, h5⟩).symm)
            go_enter Tryz.func31, Tryz.ntmps31
            go_wp2
            go_ret
            exact ⟨ret_bool HM.out, HB.out⟩
          · have HM := Lib.hid (mayT_no (cap := cap) (n := n) (sure := sure) (fun h => h5 h.2.2.2.2))
            go_enter Tryz.func31, Tryz.ntmps31
            go_wp2
            go_ret
            exact ⟨ret_bool HM.out, HB.out⟩
        · have HM := Lib.hid (mayT_no (cap := cap) (n := n) (sure := sure) (fun h => h4 h.2.2.2.1))
          go_enter Tryz.func31, Tryz.ntmps31
          go_wp2
          go_ret
          exact ⟨ret_bool HM.out, HB.out⟩
      · have HM := Lib.hid (mayT_no (cap := cap) (n := n) (sure := sure) (fun h => h3 h.2.2.1))
        go_enter Tryz.func31, Tryz.ntmps31
        go_wp2
        go_ret
        exact ⟨ret_bool HM.out, HB.out⟩
    · have HM := Lib.hid (mayT_no (cap := cap) (n := n) (sure := sure) (fun h => h2 h.2.1))
      go_enter Tryz.func31, Tryz.ntmps31
      go_wp2
      go_ret
      exact ⟨ret_bool HM.out, HB.out⟩
  · have HM := Lib.hid (mayT_no (cap := cap) (n := n) (sure := sure) (fun h => h1 h.1))
    go_enter Tryz.func31, Tryz.ntmps31
    go_wp2
    go_ret
    exact ⟨ret_bool HM.out, HB.out⟩
/-- a store in a box -/
def BoxT (w : World) (g : Nat) (t : TypeId) (cap : Int) (A : Option Addr) (n c : Nat) (sure : Int) : Prop := w.heap[g]? = some (.cells #[.int .i64 cap, .slice A n c, .int .i64 sure] t (0, 0))
theorem BoxT.cells {w : World} {g : Nat} {t : TypeId} {cap : Int} {A : Option Addr} {n c : Nat} {sure : Int} (h : BoxT w g t cap A n c sure) : w.cell? ⟨g, 0, none⟩ = some (.int .i64 cap) ∧ w.cell? ⟨g, 1, none⟩ = some (.slice A n c) ∧ w.cell? ⟨g, 2, none⟩ = some (.int .i64 sure) :=
  ⟨(cell_of_row _ _ _ _ _ _ h).trans rfl, (cell_of_row _ _ _ _ _ _ h).trans rfl, (cell_of_row _ _ _ _ _ _ h).trans rfl⟩
theorem BoxT.free {w : World} {g : Nat} {t : TypeId} {cap : Int} {A : Option Addr} {n c : Nat} {sure : Int} (h : BoxT w g t cap A n c sure) (i : Nat) : w.frozen? ⟨g, i, none⟩ = false := frozen_of_row _ _ i _ _ h
theorem BoxT.lt {w : World} {g : Nat} {t : TypeId} {cap : Int} {A : Option Addr} {n c : Nat} {sure : Int} (h : BoxT w g t cap A n c sure) : g < w.heap.size := (Array.getElem?_eq_some_iff.1 h).1
theorem BoxT.below {w w' : World} {g : Nat} {t : TypeId} {cap : Int} {A : Option Addr} {n c : Nat} {sure : Int} (h : BoxT w g t cap A n c sure) (hb : Below w.heap.size w w') : BoxT w' g t cap A n c sure := (hb.block g h.lt).trans h
def leftT (cap : Int) (n : Nat) (sure : Int) : Int := if mayT cap n sure = true then cap - n else 0
end Go.Proofs.YtafmompplcaadaaGreatDoor
