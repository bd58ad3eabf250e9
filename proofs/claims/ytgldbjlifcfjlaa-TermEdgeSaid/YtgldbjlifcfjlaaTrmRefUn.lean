/- The walks over the document's Unrow and Ints. -/
import Derived.Test.YtgldbjlifcfjlaaTrmUnrow
import Derived.Test.YtgldbjlifcfjlaaTrmRefRow
namespace Go.Proofs.Ytgldbjlifcfjlaa
set_option linter.unusedVariables false
set_option linter.unusedSimpArgs false
open Go.RowKit

/-- l are the first numbers of whatever row t is, and u is the row of the others -/
def Spine (t u : Te) (l : List Int) : Prop := ∀ l', 0 < l'.length → t = rowT l' → ∃ l'', 0 < l''.length ∧ l' = l ++ l'' ∧ u = rowT l''
theorem spine_start (t : Te) : Spine t t [] := fun l' h1 h2 => ⟨l', h1, rfl, h2⟩
theorem spine_step {t a b : Te} {l : List Int} {k n ka na : Int} {la : List Te} (h : Spine t (.node k n [a, b]) l) (ha : a = .node ka na la) : Spine t b (l ++ [na]) := by
  intro l' h1 h2
  obtain ⟨l'', e1, e2, e3⟩ := h l' h1 h2
  match l'', e1 with
  | [x], _ => rw [rowT] at e3; injection e3 with _ _ e; cases e
  | x :: y :: r, _ =>
    rw [rowT] at e3
    injection e3 with _ _ e
    injection e with e4 e5
    injection e5 with e5 _
    rw [ha] at e4
    injection e4 with _ e6 _
    exact ⟨y :: r, by simp, by rw [e2, e6]; simp, e5⟩
theorem spine_end {t : Te} {l : List Int} {k n : Int} {r : List Te} (h : Spine t (.node k n r) l) (hr : r.length ≠ 2) : ∀ l', 0 < l'.length → t = rowT l' → l' = l ++ [n] := by
  intro l' h1 h2
  obtain ⟨l'', e1, e2, e3⟩ := h l' h1 h2
  match l'', e1 with
  | [x], _ =>
    rw [rowT] at e3
    injection e3 with _ e4 _
    rw [e2, e4]
  | x :: y :: r', _ =>
    rw [rowT] at e3
    injection e3 with _ _ e
    rw [e] at hr
    simp at hr

theorem ref_yes {t : Te} {L : List Int} (h1 : rowB L = true) (h2 : (rowR L).same t = true) : rowB L = true ∧ t = rowT L := by
  refine ⟨h1, ?_⟩
  rw [Te.same_iff, rowR, h1] at h2
  exact h2.symm
theorem ref_no {t : Te} {L : List Int} (h : rowB L = false ∨ (rowR L).same t = false) (he : ∀ l', 0 < l'.length → t = rowT l' → l' = L) : ∀ l', rowB l' = true → t ≠ rowT l' := by
  intro l' h1 h2
  have h3 := he l' ((rowB_is l').1 h1).1 h2
  subst h3
  rcases h with h | h
  · rw [h1] at h; cases h
  · have : (rowR l').same t = true := by rw [Te.same_iff, rowR, h1]; exact h2.symm
    rw [this] at h; cases h

set_option maxHeartbeats 2000000 in
theorem runrow_any (P : Nat → Prop) (t : Te) (k n : Int) (A : Option Addr) (m c : Nat) (w : World) (hI : Is P w t k n A m c) (hd : t.depth ≤ 100000) :
    Calls Try.prog 14 #[.agg #[.int .i64 k, .int .i64 n, .slice A m c]] w (UnPost t w) := by
  have hI0 := hI.old
  have two := two_below w (.cells #[.int .i64 k, .int .i64 n, .slice A m c] 24) (.cells #[.int .i64 k, .int .i64 n, .slice A m c] 24)
  obtain ⟨W1, hW1⟩ : ∃ W1, (w.alloc (.cells #[.int .i64 k, .int .i64 n, .slice A m c] 24)).alloc (.cells #[.int .i64 k, .int .i64 n, .slice A m c] 24) = W1 := ⟨_, rfl⟩
  have hz1 : W1.heap.size = w.heap.size + 1 + 1 := by rw [← hW1]; simp
  have hbt : Box3 W1 w.heap.size k n A m c := by rw [← hW1]; exact (Box3.new w k n A m c).keep (one_alloc _ _)
  have hbx : Box3 W1 (w.heap.size + 1) k n A m c := by
    rw [← hW1]
    have := Box3.new (w.alloc (.cells #[.int .i64 k, .int .i64 n, .slice A m c] 24)) k n A m c
    rwa [size_next] at this
  rw [hW1] at two
  have HI0 := Lib.hid hI0
  have TWO := Lib.hid two
  have HW1 := Lib.hid hW1
  have HBT := Lib.hid hbt
  have HBX := Lib.hid hbx
  clear hI hI0 two hW1 hbt hbx
  go_enter Try.func14, Try.ntmps14
  go_wp2
  rw [HW1.out]
  go_loopg [4] t.depth (fun q v wr => ∃ (u : Te) (k' n' : Int) (A' : Option Addr) (m' c' : Nat) (l : List Int), Is (· < w.heap.size) w u k' n' A' m' c' ∧ u.depth ≤ q ∧ Box3 wr (w.heap.size + 1) k' n' A' m' c' ∧ OwnI .i64 3 wr (w.heap.size + 1 + 1) v l ∧ Spine t u l ∧ l.length + u.depth ≤ t.depth ∧ Below (w.heap.size + 1) W1 wr)
  case atStart => exact ⟨t, k, n, A, m, c, [], HI0.out, Nat.le_refl _, HBX.out, OwnI.nil _ _ _ _, spine_start t, by simp, Below.refl _ _⟩
  case round =>
    obtain ⟨u, k', n', A', m', c', l, hIu, hq, hbx, hown, hsp, hlen, hbw⟩ := hrel
    obtain ⟨lu, rows, rfl, hlu, _, _, _⟩ := hIu.inv
    have hmi := hIu.len.2.2.2
    obtain ⟨p0, p1, p2⟩ := hbx.cells
    obtain ⟨f0, f1, f2⟩ := hbx.free
    have hbw2 : Below w.heap.size w wr := TWO.out.trans (hbw.mono (Nat.le_succ _))
    have hsz : w.heap.size + 1 + 1 ≤ wr.heap.size := by have := hbx.lt; omega
    have HOWN := Lib.hid hown
    have HSP := Lib.hid hsp
    have HBW := Lib.hid hbw
    have HBW2 := Lib.hid hbw2
    have HBX := Lib.hid hbx
    have HLU := Lib.hid hlu
    simp only [Te.depth] at hq hlen
    by_cases h2 : m' = 2
    · subst h2
      obtain ⟨a, b, rfl⟩ : ∃ a b, lu = [a, b] := by
        match lu, hlu with
        | [a, b], _ => exact ⟨a, b, rfl⟩
      obtain ⟨bl, off, k1, n1, A1, m1, c1, rfl, hPb, hbl, hI1, h0, h1, h2⟩ := hIu.arg 0 (by omega) (by simp)
      obtain ⟨bl', off', k2, n2, A2, m2, c2, he, _, _, hI2, h3, h4, h5⟩ := hIu.arg 1 (by omega) (by simp)
      injection he with he
      injection he with e1 e2 _
      subst e1 e2
      have c1' := (hbw2.cell (p := ⟨bl, off + 1, none⟩) hPb).trans (by simpa using h1)
      have c3 := (hbw2.cell (p := ⟨bl, off + 3, none⟩) hPb).trans (by simpa using h3)
      have c4 := (hbw2.cell (p := ⟨bl, off + 3 + 1, none⟩) hPb).trans (by simpa using h4)
      have c5 := (hbw2.cell (p := ⟨bl, off + 3 + 2, none⟩) hPb).trans (by simpa using h5)
      obtain ⟨la, ea⟩ : ∃ la, a = .node k1 n1 la := by
        obtain ⟨la, rows, e, _⟩ := hI1.inv
        exact ⟨la, by simpa using e⟩
      have hnext := spine_step hsp ea
      have hdb : b.depth + 1 ≤ gk ∧ l.length + 1 + b.depth ≤ t.depth := by
        simp only [Te.depths] at hq hlen
        omega
      have hI2' : Is (· < w.heap.size) w b k2 n2 A2 m2 c2 := by simpa using hI2
      have HNX := Lib.hid hnext
      have HDB := Lib.hid hdb
      have HI2 := Lib.hid hI2'
      have hl5 : l.length ≤ 100000 := by omega
      have hPb' := hPb
      have HPB := Lib.hid hPb'
      clear h0 h1 h2 h3 h4 h5 hI1 hI2 hI2' hnext hdb hq hlen hsp hown hbw hbw2 hbx hIu hlu hPb hPb' ea
      go_wp2_with (at_builtin
                   refine wpList_append_i rfl 25 3 .i64 8 _ _ rfl Try.underlying25 (by kernel_rfl) (by omega) (w.heap.size + 1 + 1) u4 l rfl (HOWN.out.more _) _ 1 1 [n1] rfl (one_its .i64 3 wr n1) (by omega) (Nat.le_trans hsz (size_le_alloc _ _)) ?_
                   intro v4 w4 hown4 hg4
                   have hbe : Below (w.heap.size + 1 + 1) wr w4 := (((Below.refl _ wr)).alloc hsz _).grown hg4 (Nat.le_trans hsz (size_le_alloc _ _)) (fun g hg => (HOWN.out.size g hg).1)
                   have hbx4 := HBX.out.below hbe (by omega)
                   obtain ⟨g0, g1, g2⟩ := hbx4.cells
                   obtain ⟨r0, r1, r2⟩ := hbx4.free
                   have q3 := (hbe.cell (p := ⟨bl, off + 3, none⟩) (by have := HPB.out; show bl < _; omega)).trans c3
                   have q4 := (hbe.cell (p := ⟨bl, off + 3 + 1, none⟩) (by have := HPB.out; show bl < _; omega)).trans c4
                   have q5 := (hbe.cell (p := ⟨bl, off + 3 + 2, none⟩) (by have := HPB.out; show bl < _; omega)).trans c5
                   have HBE := Lib.hid hbe
                   have HBX4 := Lib.hid hbx4
                   have HO4 := Lib.hid hown4
                   clear hbe hbx4 hown4 hg4)
      go_roundg b.depth
      case measure => have := HDB.out; omega
      case rel => exact ⟨b, k2, n2, A2, m2, c2, l ++ [n1], HI2.out, Nat.le_refl _, HBX4.out.set, own_but HO4.out ((((But.refl _ _).setAt 0 _).setAt 1 _).setAt 2 _) (by omega), HNX.out, (by have := HDB.out; rw [List.length_append, List.length_singleton]; omega), set3_below (HBW.out.trans (HBE.out.mono (Nat.le_succ _))) (Nat.le_refl _)⟩
    · have h2b : ((m' : Int) == 2) = false := by rw [beq_eq_false_iff_ne]; omega
      have hend := spine_end hsp (by rw [hlu]; exact h2)
      have HEND := Lib.hid hend
      have hl5 : l.length ≤ 100000 := by omega
      have hbt := HBT.out.below (B := w.heap.size + 1) hbw (by omega)
      have HBT2 := Lib.hid hbt
      clear hend hq hlen hsp hown hbw hbw2 hbx hIu hlu hbt
      have fin : ∀ (bb ss : Bool), rowB (l ++ [n']) = bb → (rowR (l ++ [n'])).same t = ss → (bb = true ∧ ss = true ∧ rowB (l ++ [n']) = true ∧ t = rowT (l ++ [n'])) ∨ ((bb = false ∨ ss = false) ∧ ∀ l', rowB l' = true → t ≠ rowT l') := by
        rintro (_ | _) (_ | _) e1 e2
        · exact .inr ⟨.inl rfl, ref_no (.inl e1) HEND.out⟩
        · exact .inr ⟨.inl rfl, ref_no (.inl e1) HEND.out⟩
        · exact .inr ⟨.inr rfl, ref_no (.inr e2) HEND.out⟩
        · exact .inl ⟨rfl, rfl, ref_yes e1 e2⟩
      have FIN := Lib.hid fin
      clear fin
      cases hbb : rowB (l ++ [n']) <;> cases hss : (rowR (l ++ [n'])).same t
      all_goals
        have HFIN := Lib.hid (FIN.out _ _ hbb hss)
        have HBB := Lib.hid hbb
        have HSS := Lib.hid hss
        clear hbb hss FIN
        go_wp2_with (first
          | (at_builtin
             refine wpList_append_i rfl 25 3 .i64 8 _ _ rfl Try.underlying25 (by kernel_rfl) (by omega) (w.heap.size + 1 + 1) u4 l rfl (HOWN.out.more _) _ 1 1 [n'] rfl (one_its .i64 3 wr n') (by omega) (Nat.le_trans hsz (size_le_alloc _ _)) ?_
             intro v4 w4 hown4 hg4
             have hbe : Below (w.heap.size + 1 + 1) wr w4 := (((Below.refl _ wr)).alloc hsz _).grown hg4 (Nat.le_trans hsz (size_le_alloc _ _)) (fun g hg => (HOWN.out.size g hg).1)
             obtain ⟨A4, m4, c4, rfl, hits4⟩ := hown4.its
             have hcr := rrow_any (l ++ [n']) A4 m4 c4 w4 hits4
             rw [HBB.out] at hcr
             have HCR := Lib.hid hcr
             have HIT4 := Lib.hid hits4
             have hbt4 := HBT2.out.below hbe (by omega)
             have HBT4 := Lib.hid hbt4
             have HB4 := Lib.hid (HBW2.out.trans (hbe.mono (by omega)))
             clear hown4 hg4 hits4 hcr hbe hbt4)
          | (go_at_call 12; refine HCR.out.mono ?_; rintro e w5 ⟨k5, n5, A5, m5, c5, rfl, hI5, hB5⟩
             have hone5 := one_alloc w5 (.cells #[.int .i64 k5, .int .i64 n5, .slice A5 m5 c5] 24)
             have hI6 := hI5.later hone5
             have hbt5 := (HBT4.out.keep hB5).keep hone5
             obtain ⟨x0, x1, x2⟩ := hbt5.cells
             have hb6 := HB4.out.trans ((hB5.trans (hone5.mono hB5.size)).mono HB4.out.size)
             have hcs := rsame_any _ _ _ t k5 n5 k n A5 A m5 c5 m c _ hI6 (HI0.out.below hb6)
             rw [HSS.out] at hcs
             have HCS := Lib.hid hcs
             have HB6 := Lib.hid hb6
             have HIT6 := Lib.hid ((HIT4.out.below hB5).below hone5)
             clear hI5 hI6 hbt5 hb6 hcs hB5 hone5)
          | (go_at_call 15; refine HCS.out.mono ?_; rintro e w7 ⟨rfl, hB7⟩
             have HB7 := Lib.hid (HB6.out.trans (hB7.mono HB6.out.size))
             have HIT7 := Lib.hid (HIT6.out.below hB7)
             clear hB7))
        go_ret2
        rcases HFIN.out with ⟨e1, e2, h3, h4⟩ | ⟨e1, h3⟩
        · first
            | exact absurd e1 (by decide)
            | exact absurd e2 (by decide)
            | exact ⟨true, l ++ [n'], A4, m4, c4, rfl, HIT7.out, HB7.out, fun _ => ⟨h3, h4⟩, fun e => by cases e⟩
        · first
            | exact ⟨false, [], none, 0, 0, rfl, Its.nil _ _, HB7.out, (fun e => by cases e), fun _ => ⟨rfl, h3⟩⟩
            | (rcases e1 with e1 | e1 <;> exact absurd e1 (by decide))
theorem ints_differ (a b : List Int) (k : Nat) (h : a.getD k 0 ≠ b.getD k 0) : (a == b) = false := by
  rw [beq_eq_false_iff_ne]
  rintro rfl
  exact h rfl
theorem ints_same (a b : List Int) (k : Nat) (ha : a.length = k) (hb : b.length = k) (h : ∀ j, j < k → a.getD j 0 = b.getD j 0) : (a == b) = true := by
  rw [beq_iff_eq]
  refine List.ext_getElem (by omega) fun j h1 h2 => ?_
  have := h j (by omega)
  simpa [List.getD_eq_getElem?_getD, h1, h2] using this
set_option maxHeartbeats 1000000 in
/-- are two lists of numbers the same? -/
theorem ints_any (A B : Option Addr) (n c m d : Nat) (a b : List Int) (w : World) (ha : Its .i64 w A n c a) (hb : Its .i64 w B m d b) :
    Calls Try.prog 18 #[.slice A n c, .slice B m d] w fun e w' => e = .returned (.bool (a == b)) ∧ ∃ j, w' = w.drewN j := by
  have hna := ha.small
  have hmb := hb.small
  by_cases hnm : n = m
  · subst hnm
    have hne : ((n : Int) != (n : Int)) = false := by simp
    have HAL := Lib.hid ha.len
    have HBL := Lib.hid hb.len
    go_enter Try.func18, Try.ntmps18
    go_wp2
    go_loopw [5] (fun i wr => ∃ k : Nat, k ≤ n ∧ i = .int .i64 k ∧ (∀ j, j < k → a.getD j 0 = b.getD j 0) ∧ ∃ j, wr = w.drewN j) (fun i _ => n - (intOf i).toNat)
    case atStart => exact ⟨0, by omega, rfl, (fun j hj => by omega), 0, rfl⟩
    case round =>
      obtain ⟨k, hk, rfl, hsame, j, rfl⟩ := hrel
      have HS := Lib.hid hsame
      clear hsame
      by_cases hlt : k < n
      · obtain ⟨ba, oa, rfl, hca⟩ := ha.at_ (by omega)
        obtain ⟨bb, ob, rfl, hcb⟩ := hb.at_ (by omega)
        have hxa := hca k hlt
        have hxb := hcb k hlt
        obtain ⟨x, hx⟩ : ∃ x, x = a.getD k 0 := ⟨_, rfl⟩
        obtain ⟨y, hy⟩ : ∃ y, y = b.getD k 0 := ⟨_, rfl⟩
        rw [← hx] at hxa
        rw [← hy] at hxb
        have hp0 : 0 ≤ (k : Int) := by omega
        have hp1 : (k : Int) < n := by omega
        by_cases hxy : x = y
        · subst hxy
          have hne2 : (x != x) = false := by simp
          have hnext : ∀ j, j < k + 1 → a.getD j 0 = b.getD j 0 := fun j hj => by
            by_cases e : j = k
            · rw [e, ← hx, ← hy]
            · exact HS.out j (by omega)
          have HN := Lib.hid hnext
          clear hx hy hnext hca hcb
          go_wp2
          go_quiet (fail)
          go_wp2
          go_roundw
          case rel => exact ⟨k + 1, by omega, by go_num, HN.out, _, rfl⟩
          case measure => simp [intOf]; omega
        · have hne2 : (x != y) = true := by rw [bne_iff_ne]; exact hxy
          have hres : false = (a == b) := (ints_differ a b k (by rw [← hx, ← hy]; exact hxy)).symm
          have HR := Lib.hid hres
          clear hx hy hres hxy hca hcb
          go_wp2
          go_quiet (fail)
          go_wp2
          go_ret
          exact ⟨congrArg (fun b => Ending.returned (Value.bool b)) HR.out, _, World.drewN_drewN _ _ _⟩
      · have hkn : k = n := by omega
        subst hkn
        have hge : ¬ ((k : Int) < k) := by omega
        have hres : true = (a == b) := (ints_same a b k HAL.out HBL.out HS.out).symm
        have HR := Lib.hid hres
        clear hres
        go_wp2
        go_ret
        exact ⟨congrArg (fun b => Ending.returned (Value.bool b)) HR.out, _, rfl⟩
  · have hne : ((n : Int) != (m : Int)) = true := by rw [bne_iff_ne]; omega
    have hres : false = (a == b) := by
      rw [eq_comm, beq_eq_false_iff_ne]
      rintro rfl
      exact hnm (ha.len.symm.trans hb.len)
    have HR := Lib.hid hres
    clear hres hnm
    go_enter Try.func18, Try.ntmps18
    go_wp2
    go_ret
    exact ⟨congrArg (fun b => Ending.returned (Value.bool b)) HR.out, 0, rfl⟩
end Go.Proofs.Ytgldbjlifcfjlaa
