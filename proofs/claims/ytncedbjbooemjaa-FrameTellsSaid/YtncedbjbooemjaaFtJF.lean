/- Joined texts: The walk over package frame's parsed, where bytes are none's. A region that draws its order, walked by hand: one operation after another, taken first. copy into an array of bytes, whatever its type's name. A slice of numbers without its first ones. Numbers, each to its place: what stands where; what their bounds are. The walk over package frame's sizes: those that are there. The walk over package frame's parsed, where bytes are as many as their kind's frames have. -/
import Derived.Test.YtncedbjbooemjaaFtJE
import Derived.Test.YtncedbjbooemjaaFtJA
import Derived.Test.YtncedbjbooemjaaFtJB
import Derived.Test.YtncedbjbooemjaaFtJD
import Derived.Deep.RegionLaw
/- The walk over package frame's parsed, where bytes are none's. -/
namespace Go.Proofs.Ytncedbjbooemjaa
set_option linter.unusedVariables false
set_option linter.unusedSimpArgs false
open Go.RowKit

/-- the kind that bytes tell -/
def kindL (l : List Int) : Nat := numL ((l.drop 2).take 1)
/-- are they as many as their kind's frames have? -/
def formB (l : List Int) : Bool := decide (3 ≤ l.length) && (kindB (kindL l) && decide (l.length = 2 + folL (szK (kindL l)) (tagK (kindL l))))
theorem kindL_small {l : List Int} (h : ∀ j, 0 ≤ l.getD j 0 ∧ l.getD j 0 < 256) : kindL l < 256 := by
  have h1 := numL_bound ((l.drop 2).take 1) (fun x hx => mem_ok h x (List.mem_of_mem_drop (List.mem_of_mem_take hx)))
  refine Nat.lt_of_lt_of_le h1 ?_
  have : (256 : Nat) ^ ((l.drop 2).take 1).length ≤ 256 ^ 1 := Nat.pow_le_pow_right (by omega) (by rw [List.length_take]; omega)
  simpa using this
theorem built_zero : Try.prog.built 26 [] = some (frA Fr.zero) :=
  built_of (z := .agg (frA Fr.zero)) (places := [(0, 1), (1, 1), (2, 1), (3, 1), (4, 1), (5, 1), (6, 1), (7, 1), (8, 32)]) Try.underlying26 (by kernel_rfl) (by kernel_rfl) rfl
/-- what parsed hands back where bytes are none's -/
def NoFrame (w : World) (e : Ending) (w' : World) : Prop := e = .returned (.tuple #[frV Fr.zero, .bool false]) ∧ Below w.heap.size w w'

set_option maxHeartbeats 1000000 in
theorem parsed_short (A : Option Addr) (n c : Nat) (l : List Int) (w : World) (hb : Bts w A n c l) (h : n < 3) :
    Calls Try.prog 27 #[.slice A n c] w (NoFrame w) := by
  have hn := hb.small
  have hg := get_no A n c l 2 1 (w.alloc (.cells (frA Fr.zero) 26)) (hb.more _) (by omega) (by omega) (by omega) (by omega) (by unfold mayGet; rw [decide_eq_false_iff_not]; omega)
  have hsc := fun w => shape_yes 0 w rfl
  have hl0 : shV (szK (Int.toNat 0)) (tagK (Int.toNat 0)) = .agg #[.int .i64 1, .int .i64 1, .int .i64 0, .int .i64 8, .int .i64 0, .int .i64 0, .int .i64 0, .int .i64 0, .bool false] := rfl
  rw [hl0] at hsc
  have hZs : (frA Fr.zero).size = 40 := rfl
  have hZ1 := frA_one Fr.zero
  have hzb := built_zero
  obtain ⟨Z, hZ⟩ : ∃ Z, Z = frA Fr.zero := ⟨_, rfl⟩
  have hres : frV Fr.zero = .agg Z := by rw [hZ]; rfl
  rw [← hZ] at hZs hZ1 hzb
  have HG := Lib.hid hg
  have HSC := Lib.hid hsc
  have HZ := Lib.hid hZ
  have HZS := Lib.hid hZs
  have HZ1 := Lib.hid hZ1
  have HZB := Lib.hid hzb
  have HRES := Lib.hid hres
  clear hg hsc hZ hZs hZ1 hzb hres hl0 hb
  go_enter Try.func27, Try.ntmps27
  go_wp2_with (first
    | (go_at_call 38; refine HG.out.mono ?_; rintro e w1 ⟨rfl, rfl⟩)
    | (go_at_call 19; (with_reducible refine (HSC.out _).mono ?_); rintro e w2 ⟨rfl, hb2⟩
       have hX2 : w2.heap[w.heap.size]? = some (.cells Z 26 (0, 0)) := by rw [HZ.out]; exact after_alloc hb2
       have hB2 := (after_one hb2).1
       clear hb2)
    | ((with_reducible refine wpList_build_to rfl 26 _ rfl _ Z ?hb3 HZB.out ?_); (case hb3 => rfl))
    | ((with_reducible refine wpList_store_blk rfl 26 _ _ rfl w.heap.size Z ?hx4 ?hy4 26 Z (two_rows_in hX2 _) (info_frame HZS.out) rfl HZ1.out ?_); (case hx4 => rfl); (case hy4 => rfl)
       intro w6 hg6 hX6 hs6))
  refine bodyPost_ret (v := .tuple #[.agg Z, .bool false]) ?_ ?_ ?_
  · exact results_blk_tmp Try.results27 _ _ _ w.heap.size 26 _ (0, 0) _ rfl hX6 Try.underlying26 rfl (info_frame HZS.out) _ rfl
  · rfl
  · exact ⟨by rw [HRES.out], (hB2.alloc hB2.size _).grown hg6 (Nat.le_trans hB2.size (size_le_alloc _ _)) (fun k e => by cases e; exact Nat.le_refl _)⟩
set_option maxHeartbeats 1000000 in
theorem parsed_kind (A : Option Addr) (n c : Nat) (l : List Int) (w : World) (hb : Bts w A n c l) (h : 3 ≤ n) (hk : kindB (kindL l) = false) :
    Calls Try.prog 27 #[.slice A n c] w (NoFrame w) := by
  have hn := hb.small
  have hg := get_at A n c l 2 1 2 1 (w.alloc (.cells (frA Fr.zero) 26)) rfl rfl (hb.more _) (by omega) (by omega) (by omega)
  have hks := kindL_small hb.ok
  unfold kindL at hk hks
  obtain ⟨x, hx⟩ : ∃ x, numL ((l.drop 2).take 1) = x := ⟨_, rfl⟩
  rw [hx] at hg hk hks
  have hks' : (x : Int) < 256 := by omega
  have hsc := fun w => shape_no x w hk
  have hl0 : shV [0, 0, 0, 0, 0, 0, 0, 0] false = .agg #[.int .i64 0, .int .i64 0, .int .i64 0, .int .i64 0, .int .i64 0, .int .i64 0, .int .i64 0, .int .i64 0, .bool false] := rfl
  rw [hl0] at hsc
  have hZs : (frA Fr.zero).size = 40 := rfl
  have hZ1 := frA_one Fr.zero
  have hzb := built_zero
  obtain ⟨Z, hZ⟩ : ∃ Z, Z = frA Fr.zero := ⟨_, rfl⟩
  have hres : frV Fr.zero = .agg Z := by rw [hZ]; rfl
  rw [← hZ] at hZs hZ1 hzb
  have HG := Lib.hid hg
  have HSC := Lib.hid hsc
  have HZ := Lib.hid hZ
  have HZS := Lib.hid hZs
  have HZ1 := Lib.hid hZ1
  have HZB := Lib.hid hzb
  have HRES := Lib.hid hres
  clear hg hsc hZ hZs hZ1 hzb hres hl0 hb hx hk hks
  go_enter Try.func27, Try.ntmps27
  go_wp2_with (first
    | (go_at_call 38; refine HG.out.mono ?_; rintro e w1 ⟨rfl, rfl⟩)
    | (go_at_call 19; (with_reducible refine (HSC.out _).mono ?_); rintro e w2 ⟨rfl, hb2⟩
       have hX2 : w2.heap[w.heap.size]? = some (.cells Z 26 (0, 0)) := by rw [HZ.out]; exact after_alloc hb2
       have hB2 := (after_one hb2).1
       clear hb2)
    | ((with_reducible refine wpList_build_to rfl 26 _ rfl _ Z ?hb3 HZB.out ?_); (case hb3 => rfl))
    | ((with_reducible refine wpList_store_blk rfl 26 _ _ rfl w.heap.size Z ?hx4 ?hy4 26 Z (two_rows_in hX2 _) (info_frame HZS.out) rfl HZ1.out ?_); (case hx4 => rfl); (case hy4 => rfl)
       intro w6 hg6 hX6 hs6))
  refine bodyPost_ret (v := .tuple #[.agg Z, .bool false]) ?_ ?_ ?_
  · exact results_blk_tmp Try.results27 _ _ _ w.heap.size 26 _ (0, 0) _ rfl hX6 Try.underlying26 rfl (info_frame HZS.out) _ rfl
  · rfl
  · exact ⟨by rw [HRES.out], (hB2.alloc hB2.size _).grown hg6 (Nat.le_trans hB2.size (size_le_alloc _ _)) (fun k e => by cases e; exact Nat.le_refl _)⟩
set_option maxHeartbeats 1000000 in
theorem parsed_long (A : Option Addr) (n c : Nat) (l : List Int) (w : World) (hb : Bts w A n c l) (h : 3 ≤ n) (hk : kindB (kindL l) = true) (hf : n ≠ 2 + folL (szK (kindL l)) (tagK (kindL l))) :
    Calls Try.prog 27 #[.slice A n c] w (NoFrame w) := by
  have hn := hb.small
  have hg := get_at A n c l 2 1 2 1 (w.alloc (.cells (frA Fr.zero) 26)) rfl rfl (hb.more _) (by omega) (by omega) (by omega)
  have hks := kindL_small hb.ok
  have hgk : numL ((l.drop 2).take 1) = kindL l := rfl
  rw [hgk] at hg
  obtain ⟨x, hx⟩ : ∃ x, kindL l = x := ⟨_, rfl⟩
  rw [hx] at hg hk hks hf
  have hks' : (x : Int) < 256 := by omega
  have hsc := fun w => shape_yes x w hk
  rw [Int.toNat_natCast] at hsc
  have hS := szK_length x
  have hsm := szK_small x
  have hTb := folK_small x
  obtain ⟨S, hSS⟩ : ∃ S, szK x = S := ⟨_, rfl⟩
  obtain ⟨t, ht⟩ : ∃ t, tagK x = t := ⟨_, rfl⟩
  rw [hSS] at hS hsm hsc hf hTb
  rw [ht] at hsc hf hTb
  have hfc := fun w => fol_any S t w hS hsm
  obtain ⟨s0, s1, s2, s3, s4, s5, s6, s7, hl⟩ := list8 S hS
  rw [shV_lit hl] at hsc hfc
  obtain ⟨T, hT⟩ : ∃ T, folL S t = T := ⟨_, rfl⟩
  rw [hT] at hfc hTb hf
  have hT' : (T : Int) ≤ 52 := by omega
  have hne : ((n : Int) != 2 + (T : Int)) = true := by rw [bne_iff_ne]; omega
  have HFC := Lib.hid hfc
  have hZs : (frA Fr.zero).size = 40 := rfl
  have hZ1 := frA_one Fr.zero
  have hzb := built_zero
  obtain ⟨Z, hZ⟩ : ∃ Z, Z = frA Fr.zero := ⟨_, rfl⟩
  have hres : frV Fr.zero = .agg Z := by rw [hZ]; rfl
  rw [← hZ] at hZs hZ1 hzb
  have HG := Lib.hid hg
  have HSC := Lib.hid hsc
  have HZ := Lib.hid hZ
  have HZS := Lib.hid hZs
  have HZ1 := Lib.hid hZ1
  have HZB := Lib.hid hzb
  have HRES := Lib.hid hres
  clear hg hsc hZ hZs hZ1 hzb hres hb hx hk hks hgk hS hsm hTb hSS ht hl hT hfc hf
  go_enter Try.func27, Try.ntmps27
  go_wp2_with (first
    | (go_at_call 38; refine HG.out.mono ?_; rintro e w1 ⟨rfl, rfl⟩)
    | (go_at_call 19; (with_reducible refine (HSC.out _).mono ?_); rintro e w2 ⟨rfl, hb2⟩
       have hX2 : w2.heap[w.heap.size]? = some (.cells Z 26 (0, 0)) := by rw [HZ.out]; exact after_alloc hb2
       have hB2 := (after_one hb2).1
       clear hb2)
    | (go_at_call 21; (with_reducible refine (HFC.out _).mono ?_); rintro e w3 ⟨rfl, hb3⟩
       have hB3 := hB2.trans ((after_one hb3).1.mono hB2.size)
       have hX3 := ((after_one hb3).1.block w.heap.size (Array.getElem?_eq_some_iff.1 hX2).1).trans hX2
       clear hb3)
    | ((with_reducible refine wpList_build_to rfl 26 _ rfl _ Z ?hb3 HZB.out ?_); (case hb3 => rfl))
    | ((with_reducible refine wpList_store_blk rfl 26 _ _ rfl w.heap.size Z ?hx4 ?hy4 26 Z hX3 (info_frame HZS.out) rfl HZ1.out ?_); (case hx4 => rfl); (case hy4 => rfl)
       intro w6 hg6 hX6 hs6))
  refine bodyPost_ret (v := .tuple #[.agg Z, .bool false]) ?_ ?_ ?_
  · exact results_blk_tmp Try.results27 _ _ _ w.heap.size 26 _ (0, 0) _ rfl hX6 Try.underlying26 rfl (info_frame HZS.out) _ rfl
  · rfl
  · exact ⟨by rw [HRES.out], hB3.grown hg6 hB3.size (fun k e => by cases e; exact Nat.le_refl _)⟩
end Go.Proofs.Ytncedbjbooemjaa

/- A region that draws its order, walked by hand: one operation after another, taken first. -/
namespace Go.Proofs.Ytncedbjbooemjaa
open Go.RowKit

section
variable {P : Program} {l : List Oper} {Q : Exit → Act → World → Prop} {md : Region.Mode} {S : World → Prop} {oi : Oper} {fuel : Nat} {listed : Array Bool} {a : Act} {w : World}
/-- one operation of a region that draws its order, taken first: what it yields hangs on no world -/
theorem take_run (i : Nat) (v : Value) (hi : l[i]? = some oi) (hs : Region.noSelect l.toArray = true) (hf : Region.free md l.toArray listed i = true) (hr : (Region.ready md l.toArray listed).contains i = true)
    (hQ : ∀ c a w, Q (.panic c) (a.put oi.dst v) w → Q (.panic c) a w) (hw : Region.wanted oi (yielded l.toArray a.tmps) = true) (hS : S w) (hrun : ∀ w, (execOp a.eval oi).run P w = .ok (.value v) w)
    (h : wpAnyH P md l.toArray Q S fuel (listed.setIfInBounds i true) (a.put oi.dst v) w) : wpAnyH P md l.toArray Q S (fuel + 1) listed a w :=
  wpAnyH_take (by simpa using hi) hs hf hr hQ (.inl ⟨hw, fun w _ => hrun w⟩) hS h
theorem take_move (i : Nat) (x : Operand) (v : Value) (hi : l[i]? = some oi) (ho : oi.op = .move x) (hv : a.eval x = v) (hs : Region.noSelect l.toArray = true) (hf : Region.free md l.toArray listed i = true) (hr : (Region.ready md l.toArray listed).contains i = true)
    (hQ : ∀ c a w, Q (.panic c) (a.put oi.dst v) w → Q (.panic c) a w) (hw : Region.wanted oi (yielded l.toArray a.tmps) = true) (hS : S w)
    (h : wpAnyH P md l.toArray Q S fuel (listed.setIfInBounds i true) (a.put oi.dst v) w) : wpAnyH P md l.toArray Q S (fuel + 1) listed a w :=
  take_run i v hi hs hf hr hQ hw hS (fun w => by unfold execOp; simp [ho, hv]) h
/-- one that a guard leaves out -/
theorem take_off (i : Nat) (hi : l[i]? = some oi) (hs : Region.noSelect l.toArray = true) (hf : Region.free md l.toArray listed i = true) (hr : (Region.ready md l.toArray listed).contains i = true)
    (hQ : ∀ c a w, Q (.panic c) (a.put oi.dst undef) w → Q (.panic c) a w) (hw : Region.wanted oi (yielded l.toArray a.tmps) = false) (hS : S w)
    (h : wpAnyH P md l.toArray Q S fuel (listed.setIfInBounds i true) (a.put oi.dst undef) w) : wpAnyH P md l.toArray Q S (fuel + 1) listed a w :=
  wpAnyH_take (by simpa using hi) hs hf hr hQ (.inr ⟨hw, rfl⟩) hS h
/-- a load of a long array -/
theorem take_long (i : Nat) (ty : TypeId) (x : Operand) (g : Nat) (cs : List Value) (d : TypeDesc) (hi : l[i]? = some oi) (ho : oi.op = .load ty x) (hx : a.eval x = .pointer (some ⟨g, 0, none⟩)) (hs : Region.noSelect l.toArray = true) (hf : Region.free md l.toArray listed i = true) (hr : (Region.ready md l.toArray listed).contains i = true)
    (hQ : ∀ c a w, Q (.panic c) (a.put oi.dst (.agg cs.toArray)) w → Q (.panic c) a w) (hw : Region.wanted oi (yielded l.toArray a.tmps) = true) (hS : S w) (hat : ∀ w, S w → w.rangeAt g 0 cs)
    (hu : P.underlying ty = some d) (hd : d.isRow = true) (hsz : (P.info? ty).map (·.size) = some cs.length)
    (h : wpAnyH P md l.toArray Q S fuel (listed.setIfInBounds i true) (a.put oi.dst (.agg cs.toArray)) w) : wpAnyH P md l.toArray Q S (fuel + 1) listed a w :=
  wpAnyH_take (by simpa using hi) hs hf hr hQ (yieldsIf_load_mid hw ty x ho g 0 hx cs d hat hu hd hsz) hS h
/-- the only one that may come up -/
theorem one_step (i : Nat) (hr : Region.ready md l.toArray listed = [i]) (hi : l[i]? = some oi)
    (h : ∀ K' : Act → World → Prop, Shut (∀ a w, S w → (S w → wpAnyH P md l.toArray Q S fuel (listed.setIfInBounds i true) a w) → K' a w) → if Region.wanted oi (yielded l.toArray a.tmps) = true then Oper.wp P oi a w K' Q else K' (a.put oi.dst undef) w) :
    wpAnyH P md l.toArray Q S (fuel + 1) listed a w :=
  wpAnyH_ready hr (by simp) (AllReadyH.cons (by simpa using hi) h AllReadyH.nil)
end
section
variable {P : Program} {l : List Oper} {Q : Exit → Act → World → Prop} {md : Region.Mode} {S S' : World → Prop} {oi : Oper} {fuel : Nat} {listed : Array Bool} {a : Act} {w : World}
theorem take_if (i : Nat) (v : Value) (hi : l[i]? = some oi) (hs : Region.noSelect l.toArray = true) (hf : Region.free md l.toArray listed i = true) (hr : (Region.ready md l.toArray listed).contains i = true)
    (hQ : ∀ c a w, Q (.panic c) (a.put oi.dst v) w → Q (.panic c) a w) (hw : Region.wanted oi (yielded l.toArray a.tmps) = true) (hS : S w) (hrun : ∀ w, S w → (execOp a.eval oi).run P w = .ok (.value v) w)
    (h : wpAnyH P md l.toArray Q S fuel (listed.setIfInBounds i true) (a.put oi.dst v) w) : wpAnyH P md l.toArray Q S (fuel + 1) listed a w :=
  wpAnyH_take (by simpa using hi) hs hf hr hQ (.inl ⟨hw, hrun⟩) hS h
theorem wpAnyH_mono {ops : Array Oper} (hSS : ∀ w, S' w → S w) : ∀ (fuel : Nat) {listed : Array Bool} {a : Act} {w : World}, wpAnyH P md ops Q S' fuel listed a w → wpAnyH P md ops Q S fuel listed a w
  | 0, _, _, _, h => h
  | fuel + 1, _, _, _, h => ⟨h.1, fun i hi => wpOp_mono (fun _ _ h' => ⟨hSS _ h'.1, wpAnyH_mono hSS fuel h'.2⟩) (h.2 i hi)⟩
end
end Go.Proofs.Ytncedbjbooemjaa

/- copy into an array of bytes, whatever its type's name. -/
namespace Go.Proofs.Ytncedbjbooemjaa
open Go.RowKit

theorem wpList_copy_t (ty : TypeId) {w : World} {ops : Array Oper} {rest : List Oper} {o : Oper} {a : Act} {Q : Exit → Act → World → Prop} (hgd : o.guard = none) (d s : Operand)
    (ho : o.op = .call { callee := .builtin .copy, args := #[d, s], argTypes := #[27, 27] })
    (g n : Nat) (l : List Int) (hd : a.eval d = .slice (some ⟨g, 0, none⟩) n n) (hg : RowB w g ty l) (hl : l.length = n)
    (A : Option Addr) (m c : Nat) (k : List Int) (hs : a.eval s = .slice A m c) (hr : Bts w A m c k) (hm : m ≤ n) (B : Nat) (w0 : World) (hb : Below B w0 w) (hBg : B ≤ g)
    (h : ∀ w', RowB w' g ty (k ++ l.drop m) → Below B w0 w' → wpList Try.prog ops Q rest (a.put o.dst (goInt m)) w') : wpList Try.prog ops Q (o :: rest) a w := by
  have hkl := hr.len
  have hcl : (byv k).length = m := by rw [byv_length, hkl]
  refine wpList_copy_splice hgd d s 27 27 ho 5 Try.underlying27 (by kernel_rfl) (some ⟨g, 0, none⟩) A n n m c hd hs g 0 (byv l) ty hg (byv k) (by rw [hcl]; exact (show min m n = m from Nat.min_eq_left hm).symm) ?_ (by rw [hcl, byv_length]; omega) (byv_one k) B w0 hb hBg ?_
  · intro h0
    rw [hcl] at h0
    obtain ⟨b, off, hA, hc⟩ := hr.at_ h0
    refine ⟨rfl, ⟨b, off, none⟩, hA, fun j v hv => ?_⟩
    have hj : j < k.length := by
      have := (List.getElem?_eq_some_iff.1 hv).1
      rwa [byv_length] at this
    rw [byv_get k j hj] at hv
    have hadd : (⟨b, off, none⟩ : Addr).add j = ⟨b, off + j, none⟩ := by
      unfold Addr.add
      split
      · rename_i h0; subst h0; rfl
      · rfl
    rw [hadd, hc j (by omega), hv]
  · intro w' hw hB
    rw [hcl]
    refine h w' ?_ hB
    have h2 := hw.out
    unfold splice at h2
    rw [List.take_zero, List.nil_append, Nat.zero_add, hcl] at h2
    unfold RowB
    rw [h2]
    simp [idv, byv, List.map_drop]
end Go.Proofs.Ytncedbjbooemjaa

/- A slice of numbers without its first ones. -/
namespace Go.Proofs.Ytncedbjbooemjaa
open Go.RowKit

theorem its_from {P : Program} {K : IntKind} {t : TypeId} (ht : P.underlying t = some (.slice (P.elem t))) (hz : ∀ w, (sizeOf (P.elem t)).run P w = .ok 1 w) {w0 : World} {A : Option Addr} {n cap lo : Nat} {l : List Int} (hb : Its K w0 A n cap l) (x : Int) (hx : x = lo) (hlo : lo ≤ n) :
    ∃ A2, (∀ w : World, (Instr.slice t (.slice A n cap) (some (.int .i64 x)) none none).run P w = .ok (.slice A2 (n - lo) (cap - lo)) w) ∧ (∀ w1, Its K w1 A n cap l → Its K w1 A2 (n - lo) (cap - lo) (l.drop lo)) := by
  subst hx
  refine ⟨if cap = lo then A else A.map (·.add lo), fun w => ?_, fun w1 hb => ?_⟩
  · rw [run_slice_l (P := P) w t A n cap ht .i64 lo (by omega) (by omega), hz]
    simp only [Result.andThen_ok, sliced, Int.toNat_natCast, Nat.mul_one]
  · have hle := hb.le
    have hmax := hb.max
    refine ⟨by rw [List.length_drop, hb.len], by omega, by omega, ?_, ?_⟩
    · intro h
      by_cases hc : cap = lo
      · omega
      · rw [if_neg hc] at h
        have : A = none := by cases A <;> simp at h ⊢
        have := hb.bare this
        omega
    · intro hn
      obtain ⟨b, off, hA, hcell⟩ := hb.at_ (by omega)
      rw [if_neg (by omega), hA]
      refine ⟨b, off + lo, ?_, fun j hj => ?_⟩
      · simp only [Option.map_some]
        congr 1
        unfold Addr.add
        split
        · rename_i h0; subst h0; rfl
        · rfl
      · have := hcell (lo + j) (by omega)
        rw [← Nat.add_assoc] at this
        rw [this]
        simp [List.getD_eq_getElem?_getD, List.getElem?_drop]
end Go.Proofs.Ytncedbjbooemjaa

/- Numbers, each to its place: what stands where; what their bounds are. -/
namespace Go.Proofs.Ytncedbjbooemjaa
set_option linter.unusedVariables false
set_option linter.unusedSimpArgs false
open Go Go.RowKit

theorem there_succ (S : List Nat) (k : Nat) (h : k < S.length) : (there (S.take (k + 1))).length = (there (S.take k)).length + if 0 < S.getD k 0 then 1 else 0 := by
  have e : there (S.take (k + 1)) = there (S.take k) ++ if 0 < S.getD k 0 then [S.getD k 0] else [] := by
    rw [there, there, List.take_succ_eq_append_getElem h, List.filter_append]
    simp [List.getD_eq_getElem?_getD, h, List.filter_cons]
  rw [e, List.length_append]
  split <;> rfl
theorem spread_get : ∀ (S l : List Nat) (k : Nat), k < S.length → (spread S l).getD k 0 = if 0 < S.getD k 0 then l.getD (there (S.take k)).length 0 else 0
  | s :: S, l, 0, _ => by
    rw [spread]
    by_cases h : 0 < s
    · rw [if_pos h]
      simp only [List.getD_cons_zero, h, if_true, List.take_zero]
      cases l <;> simp [there]
    · rw [if_neg h]
      simp [h]
  | s :: S, l, k + 1, hk => by
    rw [spread]
    by_cases h : 0 < s
    · rw [if_pos h, List.getD_cons_succ, spread_get S l.tail k (by simpa using hk), List.getD_cons_succ]
      have : (there ((s :: S).take (k + 1))).length = (there (S.take k)).length + 1 := by simp [there, List.filter_cons, h]
      rw [this]
      cases l <;> simp
    · rw [if_neg h, List.getD_cons_succ, spread_get S l k (by simpa using hk), List.getD_cons_succ]
      have : (there ((s :: S).take (k + 1))).length = (there (S.take k)).length := by simp [there, List.filter_cons, h]
      rw [this]
theorem cut_bound (ks : List Nat) (b : List Int) (hb : ∀ x ∈ b, 0 ≤ x ∧ x < 256) (k : Nat) (h : k < ks.length) : (cutL ks b).getD k 0 < 256 ^ ks.getD k 0 := by
  have h1 := cutL_get ks b k h
  have h2 : (cutL ks b).getD k 0 = numL ((b.drop (ks.take k).sum).take (ks.getD k 0)) := by rw [List.getD_eq_getElem?_getD, h1]; rfl
  rw [h2]
  refine Nat.lt_of_lt_of_le (numL_bound _ (fun x hx => hb x (List.mem_of_mem_drop (List.mem_of_mem_take hx)))) (Nat.pow_le_pow_right (by omega) ?_)
  rw [List.length_take]
  omega
theorem there_at : ∀ (S : List Nat) (k : Nat), k < S.length → 0 < S.getD k 0 → (there S).getD (there (S.take k)).length 0 = S.getD k 0 ∧ (there (S.take k)).length < (there S).length
  | s :: S, 0, _, h => by
    simp only [List.getD_cons_zero] at h
    simp [there, List.filter_cons, h]
  | s :: S, k + 1, hk, h => by
    simp only [List.getD_cons_succ] at h
    obtain ⟨h1, h2⟩ := there_at S k (by simpa using hk) h
    by_cases hs : 0 < s
    · have e1 : there (s :: S) = s :: there S := by simp [there, List.filter_cons, hs]
      have e2 : (there ((s :: S).take (k + 1))).length = (there (S.take k)).length + 1 := by simp [there, List.filter_cons, hs]
      rw [e1, e2, List.getD_cons_succ, List.getD_cons_succ, h1]
      exact ⟨rfl, by simp; omega⟩
    · have e1 : there (s :: S) = there S := by simp [there, List.filter_cons, hs]
      have e2 : (there ((s :: S).take (k + 1))).length = (there (S.take k)).length := by simp [there, List.filter_cons, hs]
      rw [e1, e2, List.getD_cons_succ, h1]
      exact ⟨rfl, h2⟩
theorem spread_bound (S : List Nat) (b : List Int) (hb : ∀ x ∈ b, 0 ≤ x ∧ x < 256) (k : Nat) (h : k < S.length) : (spread S (cutL (there S) b)).getD k 0 < 256 ^ S.getD k 0 := by
  rw [spread_get S _ k h]
  by_cases hs : 0 < S.getD k 0
  · rw [if_pos hs]
    obtain ⟨h1, h2⟩ := there_at S k h hs
    have := cut_bound (there S) b hb _ h2
    rwa [h1] at this
  · rw [if_neg hs]
    exact Nat.pow_pos (by omega)
/-- the numbers so far, and noughts -/
def soFar (F : List Nat) (k : Nat) : List Nat := F.take k ++ List.replicate (8 - k) 0
theorem soFar_length (F : List Nat) (hF : F.length = 8) (k : Nat) (hk : k ≤ 8) : (soFar F k).length = 8 := by simp [soFar, hF]; omega
theorem soFar_set (F : List Nat) (hF : F.length = 8) (k : Nat) (hk : k < 8) : (soFar F k).set k (F.getD k 0) = soFar F (k + 1) := by
  have hl : k < F.length := by omega
  have hn : F.take (k + 1) = F.take k ++ [F.getD k 0] := by rw [List.take_succ_eq_append_getElem hl]; simp [List.getD_eq_getElem?_getD, hl]
  have e : List.replicate (8 - k) 0 = 0 :: List.replicate (8 - (k + 1)) 0 := by
    rw [show 8 - k = (8 - (k + 1)) + 1 by omega]
    rfl
  have htl : (F.take k).length = k := by rw [List.length_take]; omega
  rw [soFar, soFar, e, hn, List.append_assoc, List.set_append_right _ _ (by omega), htl, Nat.sub_self]
  rfl
theorem soFar_zero (F : List Nat) (hF : F.length = 8) (k : Nat) (hk : k < 8) (h : F.getD k 0 = 0) : soFar F k = soFar F (k + 1) := by
  have hl : k < F.length := by omega
  have hn : F.take (k + 1) = F.take k ++ [F.getD k 0] := by rw [List.take_succ_eq_append_getElem hl]; simp [List.getD_eq_getElem?_getD, hl]
  have e : List.replicate (8 - k) 0 = 0 :: List.replicate (8 - (k + 1)) 0 := by
    rw [show 8 - k = (8 - (k + 1)) + 1 by omega]
    rfl
  rw [soFar, soFar, e, hn, h, List.append_assoc]
  rfl
theorem soFar_all (F : List Nat) (hF : F.length = 8) : soFar F 8 = F := by
  simp only [soFar, Nat.sub_self, List.replicate_zero, List.append_nil]
  rw [← hF, List.take_length]
theorem ok_sizes (k : Nat) : okSizes (there (szK k)) := by
  intro s hs
  have h1 : s ∈ szK k := (List.mem_filter.1 hs).1
  have h2 := (List.mem_filter.1 hs).2
  simp only [decide_eq_true_eq] at h2
  refine ⟨h2, ?_⟩
  revert h1
  unfold szK
  split <;> intro h1 <;> simp at h1 <;> omega
theorem low_sizes (k : Nat) : (szK k).getD 0 0 ≤ 4 ∧ (szK k).getD 1 0 ≤ 4 ∧ (szK k).getD 4 0 ≤ 4 ∧ (szK k).getD 6 0 ≤ 4 ∧ (szK k).getD 7 0 ≤ 4 ∧ (szK k).getD 2 0 ≤ 8 ∧ (szK k).getD 3 0 ≤ 8 ∧ (szK k).getD 5 0 ≤ 8 := by
  unfold szK
  split <;> decide
end Go.Proofs.Ytncedbjbooemjaa

/- The walk over package frame's sizes: those that are there. -/
namespace Go.Proofs.Ytncedbjbooemjaa
set_option linter.unusedVariables false
set_option linter.unusedSimpArgs false
open Go.RowKit

theorem there_snoc (S : List Nat) (k : Nat) (h : k < S.length) : there (S.take (k + 1)) = there (S.take k) ++ if 0 < S.getD k 0 then [S.getD k 0] else [] := by
  rw [there, there, List.take_succ_eq_append_getElem h, List.filter_append]
  simp [List.getD_eq_getElem?_getD, h, List.filter_cons]
theorem there_len (S : List Nat) (k : Nat) : (there (S.take k)).length ≤ k := by
  have h1 := List.length_filter_le (fun s : Nat => decide (0 < s)) (S.take k)
  have h2 := List.length_take_le k S
  unfold there
  omega
set_option maxHeartbeats 1000000 in
theorem sizes_any (S : List Nat) (t : Bool) (w : World) (hS : S.length = 8) (hsm : S.sum ≤ 1000) :
    Calls Try.prog 40 #[shV S t] w fun e w' => ∃ v, e = .returned v ∧ OwnI .i64 3 w' w.heap.size v (ints (there S)) ∧ Below w.heap.size w w' := by
  obtain ⟨s0, s1, s2, s3, s4, s5, s6, s7, hl⟩ := list8 S hS
  rw [shV_lit hl]
  have hc := sizC_lit hl
  have HS := Lib.hid hS
  have HC := Lib.hid hc
  have HM := Lib.hid hsm
  clear hS hl hc hsm
  go_enter Try.func40, Try.ntmps40
  go_wp2
  go_loopw [3, 5, 8] (fun v u i wr => ∃ (k : Nat), k ≤ 8 ∧ i = .int .i64 k ∧ OwnI .i64 3 wr w.heap.size v (ints (there (S.take k))) ∧ Below w.heap.size w wr) (fun _ _ i _ => 8 - (intOf i).toNat)
  case atStart => exact ⟨0, Nat.zero_le _, rfl, OwnI.nil _ _ _ _, one_alloc _ _⟩
  case round =>
    obtain ⟨k, hk, rfl, hown, hB⟩ := hrel
    by_cases hlt : k < 8
    · have hix := size_index HS.out HC.out k hlt
      have hsn := there_snoc S k (by rw [HS.out]; exact hlt)
      obtain ⟨x, hx⟩ : ∃ x, S.getD k 0 = x := ⟨_, rfl⟩
      rw [hx] at hix hsn
      have hxb : (x : Int) ≤ 1000 := by have h1 := getS_le S k; have h2 := HM.out; omega
      have hLl : (ints (there (S.take k))).length ≤ 8 := by
        rw [ints_length]
        have := there_len S k
        omega
      obtain ⟨L, hL⟩ : ∃ L, L = ints (there (S.take k)) := ⟨_, rfl⟩
      rw [← hL] at hown hLl
      by_cases hx0 : 0 < x
      · rw [if_pos hx0] at hsn
        have hL2 : ints (there (S.take (k + 1))) = L ++ [(x : Int)] := by rw [hsn, hL]; simp [ints]
        have hx0' : (0 : Int) < x := by omega
        have HL2 := Lib.hid hL2
        clear hsn hx hL hL2
        go_wp2_with (at_builtin
                     refine wpList_append_i rfl 44 3 .i64 8 _ _ rfl Try.underlying44 (by kernel_rfl) (by omega) w.heap.size u3 L rfl (hown.more _) _ 1 1 [(x : Int)] rfl (one_its .i64 3 _ (x : Int)) (by omega) (Nat.le_trans hB.size (size_le_alloc _ _)) ?_
                     intro v5 w5 hown5 hg5
                     have hB5 : Below w.heap.size w w5 := (hB.alloc hB.size _).grown hg5 (Nat.le_trans hB.size (size_le_alloc _ _)) (fun k hk => (hown.size k hk).1)
                     rw [← HL2.out] at hown5
                     clear hg5)
        go_roundw
        case rel => exact ⟨k + 1, by omega, by go_num, hown5, hB5⟩
        case measure => simp [intOf]; omega
      · rw [if_neg hx0, List.append_nil] at hsn
        have hL2 : ints (there (S.take (k + 1))) = L := by rw [hsn, hL]
        have hx0' : (x : Int) ≤ 0 := by omega
        rw [← hL2] at hown
        have HO := Lib.hid hown
        clear hsn hx hL hL2 hown hx0
        go_wp2
        go_roundw
        case rel => exact ⟨k + 1, by omega, by go_num, HO.out, hB⟩
        case measure => simp [intOf]; omega
    · have hkn : k = 8 := by omega
      have htk : S.take k = S := by rw [hkn, ← HS.out, List.take_length]
      rw [htk] at hown
      have HO := Lib.hid hown
      clear hown htk hkn
      go_wp2
      go_ret
      exact ⟨_, rfl, HO.out, hB⟩
end Go.Proofs.Ytncedbjbooemjaa

/- The walk over package frame's parsed, where bytes are as many as their kind's frames have. -/
namespace Go.Proofs.Ytncedbjbooemjaa
set_option linter.unusedVariables false
set_option linter.unusedSimpArgs false
open Go.RowKit

theorem szK_pos {x : Nat} (h : kindB (x : Int) = true) : 1 ≤ (szK x).sum := by
  have hx : x = 0 ∨ x = 1 ∨ x = 2 ∨ x = 3 ∨ x = 4 ∨ x = 5 ∨ x = 6 := by have := kind_cases h; omega
  rcases hx with rfl | rfl | rfl | rfl | rfl | rfl | rfl <;> decide
theorem range_of_blk {w : World} {g : Nat} {cs : List Value} {t : TypeId} (h : w.heap[g]? = some (.cells cs.toArray t (0, 0))) : w.rangeAt g 0 cs := fun j v hv => by
  rw [Nat.zero_add, cell_of_row _ _ _ _ _ _ h]
  simpa using hv
theorem ints_drop (l : List Nat) (k : Nat) : (ints l).drop k = ints (l.drop k) := by simp [ints, List.map_drop]
def numsC (F : List Nat) : Array Value := (F.map fun n : Nat => Value.int .u64 (n : Int)).toArray
theorem numsC_size (F : List Nat) : (numsC F).size = F.length := by simp [numsC]
theorem numsC_set (F : List Nat) (k y : Nat) : (numsC F).setIfInBounds k (.int .u64 (y : Int)) = numsC (F.set k y) := by
  simp [numsC, List.setIfInBounds_toArray, List.map_set]
/-- the frame whose numbers, and tag, bytes have -/
def parseF (l : List Int) : Fr :=
  let S := szK (kindL l)
  let e := 2 + S.sum
  frOf (spread S (cutL (there S) ((l.drop 2).take S.sum))) (if tagK (kindL l) then l.drop e else noTag)
def YesFrame (l : List Int) (w : World) (e : Ending) (w' : World) : Prop := e = .returned (.tuple #[frV (parseF l), .bool true]) ∧ Below w.heap.size w w'

set_option maxRecDepth 100000 in
set_option maxHeartbeats 2000000 in
theorem parsed_tag (A : Option Addr) (n c : Nat) (l : List Int) (w : World) (hb : Bts w A n c l) (h : 3 ≤ n) (hk : kindB (kindL l) = true) (hf : n = 2 + folL (szK (kindL l)) (tagK (kindL l))) (ht : tagK (kindL l) = true) :
    Calls Try.prog 27 #[.slice A n c] w (YesFrame l w) := by
  have hn := hb.small
  have hg := get_at A n c l 2 1 2 1 (w.alloc (.cells (frA Fr.zero) 26)) rfl rfl (hb.more _) (by omega) (by omega) (by omega)
  have hks := kindL_small hb.ok
  have hgk : numL ((l.drop 2).take 1) = kindL l := rfl
  rw [hgk] at hg
  obtain ⟨x, hx⟩ : ∃ x, kindL l = x := ⟨_, rfl⟩
  rw [hx] at hg hk hks hf ht
  have hks' : (x : Int) < 256 := by omega
  have hsc := fun w => shape_yes x w hk
  rw [Int.toNat_natCast] at hsc
  have hS := szK_length x
  have hsm := szK_small x
  have hTb := folK_small x
  have hoks := ok_sizes x
  have hsp := szK_pos hk
  obtain ⟨S, hSS⟩ : ∃ S, szK x = S := ⟨_, rfl⟩
  rw [hSS] at hS hsm hsc hf hTb hoks hsp
  rw [ht] at hsc hf hTb
  have hfc := fun w => fol_any S true w hS hsm
  obtain ⟨s0, s1, s2, s3, s4, s5, s6, s7, hl⟩ := list8 S hS
  rw [shV_lit hl] at hsc hfc
  obtain ⟨T, hT⟩ : ∃ T, folL S true = T := ⟨_, rfl⟩
  rw [hT] at hfc hTb hf
  have hT' : (T : Int) ≤ 52 := by omega
  have hne : ((n : Int) != 2 + (T : Int)) = false := by rw [bne_eq_false_iff_eq]; omega
  have hE : ∃ E : Nat, E = 2 + S.sum ∧ (n : Int) - 32 = (E : Int) ∧ E + 32 = n := ⟨2 + S.sum, rfl, by rw [hf, ← hT, folL, if_pos rfl]; omega, by rw [hf, ← hT, folL, if_pos rfl]; omega⟩
  obtain ⟨E, hE0, hE1, hE2⟩ := hE
  have hEn : n - E = 32 := by omega
  obtain ⟨A2, hfrom, hbt2⟩ := run_from hb (E : Int) (lo := E) rfl (by omega)
  rw [hEn] at hfrom hbt2
  obtain ⟨bb, off, hA, _⟩ := hb.at_ (by omega)
  subst hA
  have hcut : ∀ w, (Instr.slice 27 (.slice (some ⟨bb, off, none⟩) n c) (some (.int .i64 2)) (some (.int .i64 (E : Int))) none).run Try.prog w = .ok (.slice (some ⟨bb, off + 2, none⟩) (E - 2) (c - 2)) w := fun w =>
    run_cut bb off n c 2 E 2 E rfl rfl (by omega) (by have := hb.le; omega) (by have := hb.le; omega) w
  have hpc : Bts w (some ⟨bb, off + 2, none⟩) S.sum (c - 2) ((l.drop 2).take S.sum) := piece_bts hb (by omega) (by omega)
  have hE3 : E - 2 = S.sum := by omega
  rw [hE3] at hcut
  have hsz := fun w => sizes_any S true w hS hsm
  have hthl := there_len S 8
  have htk : S.take 8 = S := by rw [← hS, List.take_length]
  rw [htk] at hthl
  have hts := there_sum S
  have hShl : (shC S true).length = 9 := by simp [shC, hS]
  have hcs : (shC S true).toArray = #[.int .i64 s0, .int .i64 s1, .int .i64 s2, .int .i64 s3, .int .i64 s4, .int .i64 s5, .int .i64 s6, .int .i64 s7, .bool true] := by rw [hl]; rfl
  have hshv : shV S true = .agg (shC S true).toArray := rfl
  rw [hshv] at hsz
  have hlb : ∀ x ∈ ((l.drop 2).take S.sum), 0 ≤ x ∧ x < 256 := fun x hx => mem_ok hb.ok x (List.mem_of_mem_drop (List.mem_of_mem_take hx))
  obtain ⟨cut, hcutl⟩ : ∃ cut, cut = cutL (there S) ((l.drop 2).take S.sum) := ⟨_, rfl⟩
  obtain ⟨F, hF⟩ : ∃ F, F = spread S cut := ⟨_, rfl⟩
  have hFl : F.length = 8 := by rw [hF, spread_length, hS]
  have hFb : ∀ k, k < 8 → F.getD k 0 < 256 ^ S.getD k 0 := fun k hk => by rw [hF, hcutl]; exact spread_bound S _ hlb k (by rw [hS]; exact hk)
  have hcl : cut.length = (there S).length := by rw [hcutl, cutL_length]
  have hFg : ∀ k, k < 8 → F.getD k 0 = if 0 < S.getD k 0 then cut.getD (there (S.take k)).length 0 else 0 := fun k hk => by rw [hF]; exact spread_get S cut k (by rw [hS]; exact hk)
  have hat : ∀ k, k < 8 → 0 < S.getD k 0 → (there (S.take k)).length < cut.length := fun k hk h0 => by rw [hcl]; exact (there_at S k (by rw [hS]; exact hk) h0).2
  have hsu : ∀ k, k < 8 → (there (S.take (k + 1))).length = (there (S.take k)).length + if 0 < S.getD k 0 then 1 else 0 := fun k hk => there_succ S k (by rw [hS]; exact hk)
  have hpar : parseF l = frOf F (l.drop E) := by
    unfold parseF
    simp only [hx, hSS, ht, if_true]
    rw [hF, hcutl, hE0]
  have hlow := low_sizes x
  rw [hSS] at hlow
  obtain ⟨n0, n1, n2, n3, n4, n5, n6, n7, hF8⟩ := list8 F hFl
  have hcap : ∀ (a k : Nat), k ≤ a → 256 ^ k ≤ 256 ^ a := fun a k h => Nat.pow_le_pow_right (by omega) h
  have q0 : n0 < 9223372036854775808 := by have h1 := hFb 0 (by omega); rw [hF8] at h1; exact Nat.lt_of_lt_of_le h1 (Nat.le_trans (hcap 4 _ hlow.1) (by decide))
  have q1 : n1 < 9223372036854775808 := by have h1 := hFb 1 (by omega); rw [hF8] at h1; exact Nat.lt_of_lt_of_le h1 (Nat.le_trans (hcap 4 _ hlow.2.1) (by decide))
  have q4 : n4 < 9223372036854775808 := by have h1 := hFb 4 (by omega); rw [hF8] at h1; exact Nat.lt_of_lt_of_le h1 (Nat.le_trans (hcap 4 _ hlow.2.2.1) (by decide))
  have q6 : n6 < 9223372036854775808 := by have h1 := hFb 6 (by omega); rw [hF8] at h1; exact Nat.lt_of_lt_of_le h1 (Nat.le_trans (hcap 4 _ hlow.2.2.2.1) (by decide))
  have q7 : n7 < 9223372036854775808 := by have h1 := hFb 7 (by omega); rw [hF8] at h1; exact Nat.lt_of_lt_of_le h1 (Nat.le_trans (hcap 4 _ hlow.2.2.2.2.1) (by decide))
  have q2 : n2 < 18446744073709551616 := by have h1 := hFb 2 (by omega); rw [hF8] at h1; exact Nat.lt_of_lt_of_le h1 (Nat.le_trans (hcap 8 _ hlow.2.2.2.2.2.1) (by decide))
  have q3 : n3 < 18446744073709551616 := by have h1 := hFb 3 (by omega); rw [hF8] at h1; exact Nat.lt_of_lt_of_le h1 (Nat.le_trans (hcap 8 _ hlow.2.2.2.2.2.2.1) (by decide))
  have q5 : n5 < 18446744073709551616 := by have h1 := hFb 5 (by omega); rw [hF8] at h1; exact Nat.lt_of_lt_of_le h1 (Nat.le_trans (hcap 8 _ hlow.2.2.2.2.2.2.2) (by decide))
  have hdl : (l.drop E).length = 32 := by rw [List.length_drop, hb.len]; omega
  have hfo := fun w => frame_of n0 n1 n2 n3 n4 n5 n6 n7 (l.drop E) w hdl q0 q1 q4 q6 q7 q2 q3 q5
  rw [← hF8, ← hpar] at hfo
  have hfrs : (frA (parseF l)).size = 40 := by rw [hpar]; exact frA_size hdl
  have hfr1 := frA_one (parseF l)
  unfold frV at hfo
  obtain ⟨Y, hY⟩ : ∃ Y, frA (parseF l) = Y := ⟨_, rfl⟩
  have hres : frV (parseF l) = .agg Y := by rw [← hY]; rfl
  rw [hY] at hfo hfrs hfr1
  have hnc : numsC F = #[.int .u64 n0, .int .u64 n1, .int .u64 n2, .int .u64 n3, .int .u64 n4, .int .u64 n5, .int .u64 n6, .int .u64 n7] := by rw [hF8]; rfl
  have HFO := Lib.hid hfo
  have HFRS := Lib.hid hfrs
  have HFR1 := Lib.hid hfr1
  have HYR := Lib.hid hres
  have HNC := Lib.hid hnc
  have HDL := Lib.hid hdl
  have HFL := Lib.hid hFl
  have HFG := Lib.hid hFg
  have HAT := Lib.hid hat
  have HSU := Lib.hid hsu
  have HCUTL := Lib.hid hcutl
  clear hlb hF hFb hcl hFg hat hsu hpar hlow hF8 hcap q0 q1 q2 q3 q4 q5 q6 q7 hdl hfo hfrs hfr1 hY hres hnc hFl hcutl
  have HPC := Lib.hid hpc
  have HCUT := Lib.hid hcut
  have HSZ := Lib.hid hsz
  have HTHL := Lib.hid hthl
  have HTS := Lib.hid hts
  have HSHL := Lib.hid hShl
  have HCS := Lib.hid hcs
  have HS := Lib.hid hS
  have HOKS := Lib.hid hoks
  have HSC9 := Lib.hid (sizC_lit hl)
  have HBT2 := Lib.hid hbt2
  have HE0 := Lib.hid hE0
  have HE2 := Lib.hid hE2
  have HB := Lib.hid hb
  have HFC := Lib.hid hfc
  have hZs : (frA Fr.zero).size = 40 := rfl
  have hZ1 := frA_one Fr.zero
  have hzb := built_zero
  obtain ⟨Z, hZ⟩ : ∃ Z, Z = frA Fr.zero := ⟨_, rfl⟩
  have hres : frV Fr.zero = .agg Z := by rw [hZ]; rfl
  rw [← hZ] at hZs hZ1 hzb
  have HG := Lib.hid hg
  have HSC := Lib.hid hsc
  have HZ := Lib.hid hZ
  have HZS := Lib.hid hZs
  have HZ1 := Lib.hid hZ1
  have HZB := Lib.hid hzb
  have HRES := Lib.hid hres
  clear hpc hcut hsz hthl htk hts hShl hcs hshv hoks hE3 hbt2 hE0 hE2 hEn hg hsc hZ hZs hZ1 hzb hres hb hx hk hks hgk hS hsm hTb hSS ht hl hT hfc hf
  go_enter Try.func27, Try.ntmps27
  go_wp2_with (first
    | (go_at_call 38; refine HG.out.mono ?_; rintro e w1 ⟨rfl, rfl⟩)
    | (go_at_call 19; (with_reducible refine (HSC.out _).mono ?_); rintro e w2 ⟨rfl, hb2⟩
       have hX2 : w2.heap[w.heap.size]? = some (.cells Z 26 (0, 0)) := by rw [HZ.out]; exact after_alloc hb2
       have hB2 := (after_one hb2).1
       clear hb2)
    | (go_at_call 21; (with_reducible refine (HFC.out _).mono ?_); rintro e w3 ⟨rfl, hb3⟩
       have hB3 := hB2.trans ((after_one hb3).1.mono hB2.size)
       have hX3 := ((after_one hb3).1.block w.heap.size (Array.getElem?_eq_some_iff.1 hX2).1).trans hX2
       have hS3 := after_alloc hb3
       have hc3 : w3.cell? ⟨w2.heap.size, 8, none⟩ = some (.bool true) := (cell_of_row _ _ _ _ _ _ hS3).trans rfl
       clear hb3))
  have hz4 := (rowb_lit w3 24 _ noTag rfl).draw1
  have hbt4 := ((HBT2.out.below hB3).more (.cells (idv noTag) 24)).draw1
  have hB4 := (one_alloc w3 (.cells (idv noTag) 24)).drew
  have HZ4 := Lib.hid hz4
  have HBT4 := Lib.hid hbt4
  have HB4 := Lib.hid hB4
  clear hz4 hbt4 hB4
  go_still_tail 4, (by kernel_rfl)
  clear hfrom
  go_wp2_with (refine wpList_copy_t 24 rfl _ _ rfl w3.heap.size 32 noTag rfl HZ4.out rfl A2 32 _ (l.drop E) rfl HBT4.out (Nat.le_refl _) w3.heap.size w3 HB4.out (Nat.le_refl _) ?_
               intro w4 hX4 hB4)
  have hn0 : noTag.drop 32 = [] := rfl
  rw [hn0, List.append_nil] at hX4
  have hZr4 : w4.heap[w.heap.size]? = some (.cells Z 26 (0, 0)) := (hB4.block _ (Array.getElem?_eq_some_iff.1 hX3).1).trans hX3
  have hS4 : w4.heap[w2.heap.size]? = some (.cells (shC S true).toArray 47 (0, 0)) := by rw [HCS.out]; exact (hB4.block _ (Array.getElem?_eq_some_iff.1 hS3).1).trans hS3
  have hB04 : Below w.heap.size w w4 := hB3.trans (hB4.mono hB3.size)
  have hr4 := range_of_blk hS4
  have hil : (Try.prog.info? 47).map (·.size) = some (shC S true).length := by rw [HSHL.out]; kernel_rfl
  have HZR4 := Lib.hid hZr4
  have HS4 := Lib.hid hS4
  have HX4 := Lib.hid hX4
  have HR4 := Lib.hid hr4
  have HIL := Lib.hid hil
  clear hn0 hX4 hZr4 hS4 hr4 hil hX3 hS3 hc3 HZ4 HBT4 HB4 hX2
  simp only [Act.put, List.setIfInBounds_toArray, List.set_cons_zero, List.set_cons_succ]
  refine wp_region_held_drew (S := (fun w' => w'.rangeAt w2.heap.size 0 (shC S true))) (by kernel_rfl) ((World.rangeAt_drew _ _ _ _).2 HR4.out) (fun hHeld => ?_)
  refine take_move 0 (.tmp 0) (.slice (some ⟨bb, off, none⟩) n c) rfl rfl rfl (by kernel_rfl) (by kernel_rfl) (by kernel_rfl) (fun _ _ _ h => h) rfl hHeld ?_
  simp only [Act.put, List.setIfInBounds_toArray, List.set_cons_zero, List.set_cons_succ]
  refine take_move 1 (.tmp 8) (.int .i64 (E : Int)) rfl rfl rfl (by kernel_rfl) (by kernel_rfl) (by kernel_rfl) (fun _ _ _ h => h) rfl hHeld ?_
  simp only [Act.put, List.setIfInBounds_toArray, List.set_cons_zero, List.set_cons_succ]
  refine take_run 2 (.slice (some ⟨bb, off + 2, none⟩) S.sum (c - 2)) rfl (by kernel_rfl) (by kernel_rfl) (by kernel_rfl) (fun _ _ _ h => h) rfl hHeld (fun w => ?_) ?_
  · have hcu := HCUT.out w
    go_simp
  simp only [Act.put, List.setIfInBounds_toArray, List.set_cons_zero, List.set_cons_succ]
  refine take_long 3 47 (.tmp 6) w2.heap.size (shC S true) _ rfl rfl rfl (by kernel_rfl) (by kernel_rfl) (by kernel_rfl) (fun _ _ _ h => h) rfl hHeld (fun _ h => h) Try.underlying47 rfl HIL.out ?_
  simp only [Act.put, List.setIfInBounds_toArray, List.set_cons_zero, List.set_cons_succ]
  refine one_step 4 (by kernel_rfl) rfl (fun K hK => ?_)
  go_simp
  go_at_call 40
  refine (HSZ.out _).mono ?_
  rintro e w5 ⟨v5, rfl, hown5, hb5⟩
  have hb5 := below_draw hb5
  obtain ⟨A5, m5, c5, rfl, hits5⟩ := hown5.its
  have hB05 : Below w.heap.size w w5 := hB04.trans (hb5.mono hB04.size)
  have hS5 : w5.heap[w2.heap.size]? = some (.cells (shC S true).toArray 47 (0, 0)) := (hb5.block _ (Array.getElem?_eq_some_iff.1 HS4.out).1).trans HS4.out
  refine hK.out _ _ (range_of_blk hS5) (fun hHeld0 => ?_)
  clear hK K hHeld
  have hHeld := hHeld0
  clear hHeld0
  try simp only [Act.put, List.setIfInBounds_toArray, List.set_cons_zero, List.set_cons_succ]
  refine one_step 5 (by kernel_rfl) rfl (fun K hK => ?_)
  go_simp
  go_at_call 39
  refine (cut_yes _ A5 S.sum (c - 2) m5 c5 ((l.drop 2).take S.sum) (there S) w5 (HPC.out.below hB05) hits5 HOKS.out (by have := HTHL.out; omega) HTS.out).mono ?_
  rintro e w6 ⟨v6, rfl, hown6, hb6⟩
  rw [← HCUTL.out] at hown6
  obtain ⟨A6, m6, c6, rfl, hits6⟩ := hown6.its
  have hB06 : Below w.heap.size w w6 := hB05.trans (hb6.mono hB05.size)
  have hS6 : w6.heap[w2.heap.size]? = some (.cells (shC S true).toArray 47 (0, 0)) := (hb6.block _ (Array.getElem?_eq_some_iff.1 hS5).1).trans hS5
  refine hK.out _ _ (range_of_blk hS6) (fun hHeld0 => ?_)
  clear hK K hHeld
  have hHeld := hHeld0
  clear hHeld0
  try simp only [Act.put, List.setIfInBounds_toArray, List.set_cons_zero, List.set_cons_succ]
  refine take_move 6 (.tmp 57) (.tuple #[.slice A6 m6 c6, .bool true]) rfl rfl rfl (by kernel_rfl) (by kernel_rfl) (by kernel_rfl) (fun _ _ _ h => h) rfl hHeld ?_
  simp only [Act.put, List.setIfInBounds_toArray, List.set_cons_zero, List.set_cons_succ]
  refine take_run 7 (.slice A6 m6 c6) rfl (by kernel_rfl) (by kernel_rfl) (by kernel_rfl) (fun _ _ _ h => h) rfl hHeld (fun w => ?_) ?_
  · go_simp
  simp only [Act.put, List.setIfInBounds_toArray, List.set_cons_zero, List.set_cons_succ]
  refine take_run 8 (.bool true) rfl (by kernel_rfl) (by kernel_rfl) (by kernel_rfl) (fun _ _ _ h => h) rfl hHeld (fun w => ?_) ?_
  · go_simp
  simp only [Act.put, List.setIfInBounds_toArray, List.set_cons_zero, List.set_cons_succ]
  refine take_run 9 (.slice A6 m6 c6) rfl (by kernel_rfl) (by kernel_rfl) (by kernel_rfl) (fun _ _ _ h => h) rfl hHeld (fun w => ?_) ?_
  · go_simp
  simp only [Act.put, List.setIfInBounds_toArray, List.set_cons_zero, List.set_cons_succ]
  refine take_run 10 (.bool true) rfl (by kernel_rfl) (by kernel_rfl) (by kernel_rfl) (fun _ _ _ h => h) rfl hHeld (fun w => ?_) ?_
  · go_simp
  simp only [Act.put, List.setIfInBounds_toArray, List.set_cons_zero, List.set_cons_succ]
  refine wpAnyH_done (by kernel_rfl) ?_ _
  have hZr6 : w6.heap[w.heap.size]? = some (.cells Z 26 (0, 0)) := (hb6.block _ (Nat.lt_of_lt_of_le (Array.getElem?_eq_some_iff.1 HZR4.out).1 hb5.size)).trans ((hb5.block _ (Array.getElem?_eq_some_iff.1 HZR4.out).1).trans HZR4.out)
  have hX6 : RowB w6 w3.heap.size 24 (l.drop E) := (HX4.out.keep hb5).keep hb6
  have hr6 : ∀ o : Obj, (w6.alloc o).rangeAt w2.heap.size 0 (sizC S) := fun o j v hv => by
    have hj : j < (sizC S).length := (List.getElem?_eq_some_iff.1 hv).1
    exact World.rangeAt_alloc (range_of_blk hS6) _ j v (by rw [shC, List.getElem?_append_left (by simpa [sizC] using hj)]; exact hv)
  have hits7 := hits6
  have HZR6 := Lib.hid hZr6
  have HX6 := Lib.hid hX6
  have HR6 := Lib.hid hr6
  have HITS6 := Lib.hid hits6
  clear hHeld hZr6 hX6 hr6 hits6 hits7 hown6 hown5 hits5 hS5 hS6 hb5 hb6 HZR4 HS4 HX4 HR4
  go_wp2_with (((with_reducible refine wpList_load_on 45 _ rfl w2.heap.size 0 ?hx7 (sizC S) _ HSC9.out _ (HR6.out _) Try.underlying45 ?hd7 ?hi7 ?_ ?hw7); (case hx7 => rfl); (case hd7 => rfl); (case hi7 => rw [sizC, List.length_map, HS.out]; kernel_rfl); (case hw7 => rfl)))
  have hB7 : Below w6.heap.size w6 (w6.alloc (.cells (numsC (soFar F 0)) 55)) := one_alloc _ _
  have hn7 := heap_alloc_new w6 (.cells (numsC (soFar F 0)) 55)
  have hs0 : numsC (soFar F 0) = #[.int .u64 0, .int .u64 0, .int .u64 0, .int .u64 0, .int .u64 0, .int .u64 0, .int .u64 0, .int .u64 0] := rfl
  rw [hs0] at hB7
  have hn7' : _ = some (Obj.cells (numsC (soFar F 0)) 55) := hn7
  rw [hs0] at hn7
  rw [← hs0] at hn7
  clear hn7
  go_loopw [10, 12, 13, 65] (fun v u1 u2 i wr => ∃ (k : Nat) (A : Option Addr) (m c : Nat), k ≤ 8 ∧ i = .int .i64 k ∧ v = .slice A m c ∧ Its .u64 w6 A m c (ints (cut.drop (there (S.take k)).length)) ∧ wr.heap[w6.heap.size]? = some (.cells (numsC (soFar F k)) 55 (0, 0)) ∧ Below w6.heap.size w6 wr) (fun _ _ _ i _ => 8 - (intOf i).toNat)
  case atStart => exact ⟨0, A6, m6, c6, by omega, rfl, rfl, HITS6.out, hn7', hB7⟩
  case round =>
    clear hn7' hB7 hs0
    obtain ⟨k, A, m, c', hk8, rfl, rfl, hit, hall, hB⟩ := hrel
    by_cases hlt : k < 8
    · have hix := size_index HS.out HSC9.out k hlt
      have hfg := HFG.out k hlt
      have hat := HAT.out k hlt
      have hsu := HSU.out k hlt
      obtain ⟨x1, hx⟩ : ∃ x, S.getD k 0 = x := ⟨_, rfl⟩
      rw [hx] at hix hfg hat hsu
      by_cases hx0 : 0 < x1
      · have hx0' : (0 : Int) < x1 := by omega
        rw [if_pos hx0] at hfg hsu
        have hat := hat hx0
        have hlen : (cut.drop (there (S.take k)).length).length = m := by have := hit.len; rwa [ints_length] at this
        have hm1 : 1 ≤ m := by rw [← hlen, List.length_drop]; omega
        have hm1' : (1 : Int) ≤ m := by omega
        have hm0' : (0 : Int) < m := by omega
        have hmn : 0 < m := by omega
        obtain ⟨A9, hfrom, hit9⟩ := its_from (t := 66) (P := Try.prog) (by kernel_rfl) (fun w => size_of (by kernel_rfl) w) hit 1 (lo := 1) rfl hm1
        obtain ⟨b9, o9, rfl, hc9⟩ := hit.at_ (by omega)
        have hc9 := hc9 0 (by omega)
        rw [Nat.add_zero] at hc9
        have hc90 := hc9
        have hc9 := (hB.cell (p := ⟨b9, o9, none⟩) (block_lt_of_cell hc9)).trans hc9
        have hg9 : (ints (cut.drop (there (S.take k)).length)).getD 0 0 = ((F.getD k 0 : Nat) : Int) := by
          rw [ints_get _ _ (by omega), hfg]
          simp [List.getD_eq_getElem?_getD]
        rw [hg9] at hc9 hc90
        obtain ⟨y, hy⟩ : ∃ y, F.getD k 0 = y := ⟨_, rfl⟩
        rw [hy] at hc9 hc90
        have hnx : soFar F (k + 1) = (soFar F k).set k y := by rw [← hy, soFar_set F HFL.out k hlt]
        have hit10 := hit9 w6 hit
        rw [ints_drop, List.drop_drop, ← hsu] at hit10
        have hkc : k < (soFar F k).length := by rw [soFar_length F HFL.out k hk8]; exact hlt
        have hcell : wr.cell? ⟨w6.heap.size, k, none⟩ = some (.int .u64 (((soFar F k).getD k 0 : Nat) : Int)) := by
          rw [cell_of_row _ _ _ _ _ _ hall, numsC]
          simp [List.getD_eq_getElem?_getD, hkc]
        have hfro : wr.frozen? ⟨w6.heap.size, k, none⟩ = false := frozen_of_row _ _ _ _ _ hall
        have hHeld2 : (wr.drew.setCell ⟨w6.heap.size, k, none⟩ (.int .u64 (y : Int))).cell? ⟨b9, o9, none⟩ = some (.int .u64 (y : Int)) := (World.cell?_setCell_other _ _ _ _ (by have := block_lt_of_cell hc90; simp at this ⊢; try omega)).trans hc9
        have HALL := Lib.hid hall
        have HB := Lib.hid hB
        have HNX := Lib.hid hnx
        have HIT10 := Lib.hid hit10
        clear hc90 hg9 hy hnx hit10 hkc hit9 hx hlen hit hfg hsu hat hall hB hx0 hm1
        go_wp2
        refine wp_region_held_drew (S := (fun w' => w'.cell? ⟨b9, o9, none⟩ = some (.int .u64 (y : Int)))) (by kernel_rfl) ((World.cell?_drew _ _).trans hc9) (fun hHeld => ?_)
        refine take_move 0 (.tmp 12) (.int .i64 (k : Int)) rfl rfl rfl (by kernel_rfl) (by kernel_rfl) (by kernel_rfl) (fun _ _ _ h => h) rfl hHeld ?_
        simp only [Act.put, List.setIfInBounds_toArray, List.set_cons_zero, List.set_cons_succ]
        refine take_move 1 (.tmp 10) (.slice (some ⟨b9, o9, none⟩) m c') rfl rfl rfl (by kernel_rfl) (by kernel_rfl) (by kernel_rfl) (fun _ _ _ h => h) rfl hHeld ?_
        simp only [Act.put, List.setIfInBounds_toArray, List.set_cons_zero, List.set_cons_succ]
        refine take_run 2 (.pointer (some ⟨b9, o9, none⟩)) rfl (by kernel_rfl) (by kernel_rfl) (by kernel_rfl) (fun _ _ _ h => h) rfl hHeld (fun w => ?_) ?_
        · go_simp
        simp only [Act.put, List.setIfInBounds_toArray, List.set_cons_zero, List.set_cons_succ]
        refine take_if 3 (.int .u64 (y : Int)) rfl (by kernel_rfl) (by kernel_rfl) (by kernel_rfl) (fun _ _ _ h => h) rfl hHeld (fun w' hw' => ?_) ?_
        · have hw2 : w'.cell? ⟨b9, o9, none⟩ = some (.int .u64 (y : Int)) := hw'
          clear hw'
          go_simp
        simp only [Act.put, List.setIfInBounds_toArray, List.set_cons_zero, List.set_cons_succ]
        refine take_move 4 (.tmp 10) (.slice (some ⟨b9, o9, none⟩) m c') rfl rfl rfl (by kernel_rfl) (by kernel_rfl) (by kernel_rfl) (fun _ _ _ h => h) rfl hHeld ?_
        simp only [Act.put, List.setIfInBounds_toArray, List.set_cons_zero, List.set_cons_succ]
        refine take_run 5 (.slice A9 (m - 1) (c' - 1)) rfl (by kernel_rfl) (by kernel_rfl) (by kernel_rfl) (fun _ _ _ h => h) rfl hHeld (fun w => ?_) ?_
        · have hfr := hfrom w
          clear hfrom
          go_simp
        simp only [Act.put, List.setIfInBounds_toArray, List.set_cons_zero, List.set_cons_succ]
        refine take_run 6 (.pointer (some ⟨w6.heap.size, k, none⟩)) rfl (by kernel_rfl) (by kernel_rfl) (by kernel_rfl) (fun _ _ _ h => h) rfl hHeld (fun w => ?_) ?_
        · go_simp
        simp only [Act.put, List.setIfInBounds_toArray, List.set_cons_zero, List.set_cons_succ]
        refine one_step 7 (by kernel_rfl) rfl (fun K hK => ?_)
        clear hfrom
        go_simp
        refine hK.out _ _ hHeld2 (fun hHeld0 => ?_)
        clear hK K hHeld
        have hHeld := hHeld0
        clear hHeld0
        try simp only [Act.put, List.setIfInBounds_toArray, List.set_cons_zero, List.set_cons_succ]
        refine take_run 8 (.slice A9 (m - 1) (c' - 1)) rfl (by kernel_rfl) (by kernel_rfl) (by kernel_rfl) (fun _ _ _ h => h) rfl hHeld (fun w => ?_) ?_
        · go_simp
        simp only [Act.put, List.setIfInBounds_toArray, List.set_cons_zero, List.set_cons_succ]
        refine wpAnyH_done (by kernel_rfl) ?_ _
        clear hHeld hc9 hcell hfro hHeld2
        go_wp2
        go_roundw
        case rel =>
          refine ⟨k + 1, A9, m - 1, c' - 1, by omega, by go_num, rfl, HIT10.out, ?_, (HB.out.drew).setCell (Nat.le_refl _) _⟩
          rw [HNX.out, ← numsC_set]
          exact heap_setCell_same _ _ _ _ _ _ HALL.out
        case measure => simp [intOf]; omega
      · have hx0' : (x1 : Int) ≤ 0 := by omega
        rw [if_neg hx0] at hfg hsu
        have hsu : (there (S.take (k + 1))).length = (there (S.take k)).length := hsu
        have hnx := soFar_zero F HFL.out k hlt hfg
        rw [hnx] at hall
        rw [← hsu] at hit
        have HALL := Lib.hid hall
        have HIT := Lib.hid hit
        clear hx hfg hsu hat hnx hall hit hx0
        go_wp2
        go_roundw
        case rel => exact ⟨k + 1, A, m, c', by omega, by go_num, rfl, HIT.out, HALL.out, hB⟩
        case measure => simp [intOf]; omega
    · have hkn : k = 8 := by omega
      rw [hkn, soFar_all F HFL.out] at hall
      have hZr9 : wr.heap[w.heap.size]? = some (.cells Z 26 (0, 0)) := (hB.block _ (Array.getElem?_eq_some_iff.1 HZR6.out).1).trans HZR6.out
      have hX9 : wr.heap[w3.heap.size]? = some (.cells (idv (l.drop E)) 24 (0, 0)) := (hB.block _ HX6.out.lt).trans HX6.out
      have hB9 : Below w.heap.size w wr := hB06.trans (hB.mono hB06.size)
      rw [HNC.out] at hall
      have HALL := Lib.hid hall
      have HX9 := Lib.hid hX9
      have HZR9 := Lib.hid hZr9
      have hid32 : (idv (l.drop E)).size = 32 := by rw [idv_size, HDL.out]
      have HI32 := Lib.hid hid32
      clear hall hX9 hZr9 hB hit hkn hid32
      go_wp2_with (first
        | ((with_reducible refine wpList_load_blk 55 _ rfl w6.heap.size ?hx8 55 _ (0, 0) _ HALL.out Try.underlying55 ?hd8 ?hi8 ?_ ?hw8); (case hx8 => rfl); (case hd8 => rfl); (case hi8 => kernel_rfl); (case hw8 => rfl))
        | ((with_reducible refine wpList_load_blk 24 _ rfl w3.heap.size ?hx9 24 _ (0, 0) _ HX9.out Try.underlying24 ?hd9 (info_id HI32.out) ?_ ?hw9); (case hx9 => rfl); (case hd9 => rfl); (case hw9 => rfl))
        | (go_at_call 41; (with_reducible refine (HFO.out _).mono ?_); rintro e w10 ⟨rfl, hb10⟩
           have hZ10 : w10.heap[w.heap.size]? = some (.cells Z 26 (0, 0)) := (hb10.block _ (Array.getElem?_eq_some_iff.1 HZR9.out).1).trans HZR9.out
           have hB10 : Below w.heap.size w w10 := hB9.trans (hb10.mono hB9.size)
           clear hb10)
        | ((with_reducible refine wpList_store_blk rfl 26 _ _ rfl w.heap.size Y ?hx11 ?hy11 26 Z hZ10 (info_frame HFRS.out) ?hs11 HFR1.out ?_); (case hx11 => rfl); (case hy11 => rfl); (case hs11 => rw [HZS.out, HFRS.out])
           intro w11 hg11 hX11 hs11))
      refine bodyPost_ret (v := .tuple #[.agg Y, .bool true]) ?_ ?_ ?_
      · exact results_blk_tmp Try.results27 _ _ _ w.heap.size 26 _ (0, 0) _ rfl hX11 Try.underlying26 rfl (info_frame HFRS.out) _ rfl
      · rfl
      · exact ⟨by rw [HYR.out], hB10.grown hg11 hB10.size (fun k e => by cases e; exact Nat.le_refl _)⟩
end Go.Proofs.Ytncedbjbooemjaa
