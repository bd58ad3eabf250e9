/- The walk over the law FrameSplit: frames that come one behind the other, and a beginning of another one, are split into just them, and that; all of it is all the bytes. -/
import Derived.Test.YtadcbikdbekmgaaFrmRows
import Derived.Test.YtadcbikdbekmgaaFrmOpen2
import Derived.Test.YtadcbikdbekmgaaFrmBackW
import Derived.Test.YtadcbikdbekmgaaBasAt
namespace Go.Proofs.Ytadcbikdbekmgaa
set_option linter.unusedVariables false
set_option linter.unusedSimpArgs false
open Go.RowKit

theorem ok_drop {l : List Int} (h : ∀ j, 0 ≤ l.getD j 0 ∧ l.getD j 0 < 256) (k : Nat) : ∀ j, 0 ≤ (l.drop k).getD j 0 ∧ (l.drop k).getD j 0 < 256 := fun j => by
  have := h (k + j)
  simpa [List.getD_eq_getElem?_getD, List.getElem?_drop] using this
theorem fsplit_big (f : Fr) (k : Int) (A B : Option Addr) (n c m d : Nat) (w : World) (hn : n ≤ 9223372036854775807) (hm : m ≤ 9223372036854775807) (h : 12 < n ∨ 400 < m) :
    Calls Try.prog 5 #[.slice A n c, frV f, .int .i64 k, .slice B m d] w fun e w' => e = .returned (.bool true) ∧ Below w.heap.size w w' := by
  unfold frV
  obtain ⟨C, hC⟩ : ∃ C, frA f = C := ⟨_, rfl⟩
  rw [hC]
  by_cases h1 : 12 < n
  · have h2 : (12 : Int) < n := by omega
    clear h h1
    go_enter Try.func5, Try.ntmps5
    go_wp2_with (go_at_call 9; (with_reducible refine (fawake_any _).mono ?_); rintro e w1 ⟨rfl, hb1⟩
                 have hB1 := (after_one hb1).1)
    go_ret
    exact ⟨rfl, hB1⟩
  · have h2 : (n : Int) ≤ 12 := by omega
    have h3 : (400 : Int) < m := by omega
    clear h h1
    go_enter Try.func5, Try.ntmps5
    go_wp2_with (go_at_call 9; (with_reducible refine (fawake_any _).mono ?_); rintro e w1 ⟨rfl, hb1⟩
                 have hB1 := (after_one hb1).1)
    go_ret
    exact ⟨rfl, hB1⟩
/-- what Split hands back, as a list of slices -/
theorem split_lst (A : Option Addr) (n c : Nat) (l : List Int) (w : World) (hb : Bts w A n c l) (hsm : n ≤ 1000000) :
    Calls Try.prog 14 #[.slice A n c] w fun e w' => ∃ A1 n1 c1 A2 n2 c2 sl, e = .returned (.tuple #[.slice A1 n1 c1, .slice A2 n2 c2]) ∧ Lst w' A1 n1 c1 sl (framesL l) ∧ Bts w' A2 n2 c2 (restL l) ∧ Below w.heap.size w w' := by
  refine (split_any A n c l w hb hsm).mono ?_
  rintro e w' ⟨v, u, sl, rfl, hv, hp, hu, hB⟩
  obtain ⟨A1, n1, c1, rfl, hr⟩ := hv.rws
  have hok : ∀ j, 0 ≤ (restL l).getD j 0 ∧ (restL l).getD j 0 < 256 := ok_drop hb.ok _
  obtain ⟨A2, n2, c2, rfl, hb2⟩ := hu.slice hok
  refine ⟨A1, n1, c1, A2, n2, c2, sl, rfl, ⟨hr, hp.len, fun i hi => ?_⟩, hb2, hB⟩
  obtain ⟨A', cap, hv, hbt⟩ := (hp.own i hi).bts (hp.ok i)
  unfold slV at hv
  injection hv with e1 e2 e3
  rw [e1, e2, e3]
  exact hbt
theorem flat_take_succ (L : List (List Int)) (k : Nat) (h : k < L.length) : (L.take (k + 1)).flatten = (L.take k).flatten ++ L.getD k [] := by
  rw [List.take_succ_eq_append_getElem h, List.flatten_append]
  simp [List.getD_eq_getElem?_getD, h]

theorem hokFlat : ∀ (l : List Fr) (_ : ∀ g ∈ l, g.ok) (j : Nat), 0 ≤ ((l.map putF).flatten).getD j 0 ∧ ((l.map putF).flatten).getD j 0 < 256
  | [], _, j => by simp
  | g :: l, h, j => by
    rw [List.map_cons, List.flatten_cons]
    exact ok_append (putF_ok (h g (by simp))) (hokFlat l (fun x hx => h x (by simp [hx]))) j
theorem apart_own {w : World} {B B' : Nat} {u v : Value} {l : List Int} {rows : List (List Value)} (h : Own w B u l) (hr : OwnR 27 1 w B' v rows) : v.ownBlock = none ∨ v.ownBlock ≠ u.ownBlock := by
  rcases own_apart h hr with h1 | h1
  · cases hv : v.ownBlock with
    | none => exact .inl rfl
    | some g => right; rw [h1]; simp
  · exact .inr (Ne.symm h1)
theorem far_rows {w w' : World} {B B' : Nat} {u v : Value} {l : List Int} {rows : List (List Value)} (ho : Own w B u l) (hr : OwnR 27 1 w B' v rows) (hg : w.grownBy w' v.ownBlock) : Own w' B u l := ho.far hg (own_apart ho hr)
theorem Parts.last {w : World} {B : Nat} {sr : List Sl} {A : Option Addr} {m c : Nat} {L : List (List Int)} {x : List Int} (h : Parts w B (sr ++ [(A, m, c)]) (L ++ [x])) (hl : sr.length = L.length) (hok : ∀ j, 0 ≤ x.getD j 0 ∧ x.getD j 0 < 256) : Bts w A m c x := by
  have h1 := h.own L.length (by simp)
  have e1 : (sr ++ [(A, m, c)]).getD L.length (none, 0, 0) = (A, m, c) := by rw [← hl]; simp
  have e2 : (L ++ [x]).getD L.length [] = x := by simp
  rw [e1, e2] at h1
  obtain ⟨A', c', hv', hb'⟩ := h1.bts hok
  simp only [slV, Value.slice.injEq] at hv'
  obtain ⟨rfl, rfl, rfl⟩ := hv'
  exact hb'
theorem Parts.apart {w w' : World} {B : Nat} {sl : List Sl} {L : List (List Int)} {u : Value} (h : Parts w B sl L) (hs : ∀ r ∈ sl, Sep (slV r) u) (hg : w.grownBy w' u.ownBlock) : Parts w' B sl L :=
  ⟨h.len, fun i hi => (h.own i hi).far hg (hs _ (by
    have hi2 : i < sl.length := by rw [h.len]; exact hi
    rw [List.getD_eq_getElem?_getD, List.getElem?_eq_getElem hi2]
    exact List.getElem_mem hi2)).row, h.ok⟩
set_option maxRecDepth 100000 in
set_option maxHeartbeats 4000000 in
theorem fsplit_main (l : List Fr) (f : Fr) (k : Int) (b : List Int) (A B : Option Addr) (n c m d : Nat) (w : World) (hn : n ≤ 12) (hm : m ≤ 400) (hl : Frs w A n c l) (hf : f.ok) (hb : Bts w B m d b) :
    Calls Try.prog 5 #[.slice A n c, frV f, .int .i64 k, .slice B m d] w fun e w' => e = .returned (.bool true) ∧ Below w.heap.size w w' := by
  have hsp := fun w hb => split_lst B m d b w hb (by omega)
  have hall := all_back _ b (Nat.le_refl _)
  have hblen := hb.len
  have hn' : (n : Int) ≤ 12 := by omega
  have hm' : (m : Int) ≤ 400 := by omega
  obtain ⟨L, hL⟩ : ∃ L, framesL b = L := ⟨_, rfl⟩
  obtain ⟨R, hR⟩ : ∃ R, restL b = R := ⟨_, rfl⟩
  rw [hL, hR] at hsp hall
  have hfl : ∀ j, ((L.take j).flatten).length ≤ 400 := fun j => by
    have h1 := congrArg List.length hall
    rw [List.length_append, hblen] at h1
    have h2 := congrArg (fun l => (List.flatten l).length) (List.take_append_drop j L)
    simp only [List.flatten_append, List.length_append] at h2
    omega
  have hR4 : R.length ≤ 400 := by
    have h1 := congrArg List.length hall
    rw [List.length_append, hblen] at h1
    omega
  have hCs := frC_length hf.len
  unfold frV
  rw [frA_arr]
  obtain ⟨C, hC⟩ : ∃ C, frC f = C := ⟨_, rfl⟩
  rw [hC] at hCs ⊢
  have HSP := Lib.hid hsp
  have HALL := Lib.hid hall
  have HFL := Lib.hid hfl
  have HR4 := Lib.hid hR4
  have HC := Lib.hid hC
  have HCA : Hid (C.toArray.size = 40) := Lib.hid hCs
  have HBT := Lib.hid hb
  have HFR := Lib.hid hl
  clear hsp hall hL hR hCs hC hb hl hfl hR4 hblen
  go_enter Try.func5, Try.ntmps5
  go_wp2_with (first
    | (go_at_call 9; (with_reducible refine (fawake_any _).mono ?_); rintro e w1 ⟨rfl, hb1⟩
       have hB1 := (after_one hb1).1
       have hX1 := (after_one hb1).2.2)
    | (go_at_call 14; (with_reducible refine (HSP.out _ (HBT.out.below hB1)).mono ?_); rintro e w2 ⟨A1, n1, c1, A2, n2, c2, sl, rfl, hls2, hre2, hb2⟩
       have hB2 := hB1.trans (hb2.mono hB1.size)
       have hX2 := (hb2.block _ (Array.getElem?_eq_some_iff.1 hX1).1).trans hX1))
  have hn1 := hls2.rws.small
  have HLS := Lib.hid hls2
  have HRE := Lib.hid hre2
  have HX2 := Lib.hid hX2
  have HB2 := Lib.hid hB2
  have hsz2 : w.heap.size ≤ w2.heap.size := hB2.size
  clear hls2 hre2 hX2 hB2 hX1 hB1 hb1 hb2
  go_loopw [12, 13] (fun vj i wr => ∃ t : Nat, t ≤ n1 ∧ i = .int .i64 t ∧ Own wr w2.heap.size vj ((L.take t).flatten) ∧ Below w2.heap.size w2 wr) (fun _ i _ => n1 - (intOf i).toNat)
  case atStart => exact ⟨0, Nat.zero_le _, rfl, Own.nil _ _, Below.refl _ _⟩
  case round =>
    obtain ⟨t, ht, rfl, hown, hB⟩ := hrel
    by_cases hlt : t < n1
    · have hl2 := HLS.out.below hB
      obtain ⟨ba, oa, rfl, hca⟩ := hl2.at_ (by omega)
      have hxa := hca t hlt
      have hba := hl2.bts t (by rw [hl2.size]; exact hlt)
      have hnx := flat_take_succ L t (by rw [hl2.size]; exact hlt)
      obtain ⟨⟨ra1, ra2, ra3⟩, hra⟩ : ∃ r, sl.getD t (none, 0, 0) = r := ⟨_, rfl⟩
      rw [hra] at hxa hba
      unfold slV at hxa
      have hsm : ((L.take t).flatten).length + ra2 ≤ 140737488355328 := by
        have h1 := HFL.out (t + 1)
        rw [hnx, List.length_append] at h1
        have h2 := hba.len
        simp only at h2
        omega
      have hp0 : 0 ≤ (t : Int) := by omega
      have hp1 : (t : Int) < n1 := by omega
      obtain ⟨P, hP⟩ : ∃ P, (L.take t).flatten = P := ⟨_, rfl⟩
      rw [hP] at hown hnx hsm
      have HNX := Lib.hid hnx
      clear hl2 hca hra hnx hP
      go_wp2_with (at_builtin
                   refine wpList_append_b rfl _ _ rfl w2.heap.size u12 P rfl hown ra1 ra2 ra3 _ rfl hba hsm hB.size ?_
                   intro v3 w3 hown3 hg3
                   rw [← HNX.out] at hown3
                   have hB3 : Below w2.heap.size w2 w3 := hB.grown hg3 hB.size (fun k hk => (hown.size k hk).1)
                   clear hg3)
      go_roundw
      case rel => exact ⟨t + 1, by omega, by go_num, hown3, hB3⟩
      case measure => simp [intOf]; omega
    · have htn : t = n1 := by omega
      have htk : L.take t = L := by rw [htn, ← HLS.out.size, List.take_length]
      rw [htk] at hown
      have hokL : ∀ j, 0 ≤ L.flatten.getD j 0 ∧ L.flatten.getD j 0 < 256 := by
        have h1 : L.flatten = b.take L.flatten.length := by rw [← HALL.out, List.take_left' rfl]
        rw [h1]
        exact ok_take HBT.out.ok _
      have hLl : L.flatten.length ≤ 400 := by
        have h1 := HFL.out n1
        rw [← htn, htk] at h1
        exact h1
      obtain ⟨A3, n3, c3, rfl, hbt3⟩ := hown.slice hokL
      have ca := conv_bts hbt3
      have cr := conv_bts (HRE.out.below hB)
      have cb := conv_bts (HBT.out.below (HB2.out.trans (hB.mono HB2.out.size)))
      have cadd := add_bstr L.flatten R (by omega) (by have := HR4.out; omega)
      rw [HALL.out] at cadd
      obtain ⟨s1, hs1⟩ : ∃ s, bstr L.flatten = s := ⟨_, rfl⟩
      obtain ⟨s2, hs2⟩ : ∃ s, bstr R = s := ⟨_, rfl⟩
      obtain ⟨s3, hs3⟩ : ∃ s, bstr b = s := ⟨_, rfl⟩
      rw [hs1] at ca cadd
      rw [hs2] at cr cadd
      rw [hs3] at cb cadd
      have hX3 := (hB.block _ (Array.getElem?_eq_some_iff.1 HX2.out).1).trans HX2.out
      have hB3 := HB2.out.trans (hB.mono HB2.out.size)
      have HX3 := Lib.hid hX3
      have HB3 := Lib.hid hB3
      clear hokL hLl hown hbt3 hs1 hs2 hs3 htk hX3 hB3 HX2 HB2 HRE HLS HFL hB
      obtain ⟨w5, hw5⟩ : ∃ w5, w5 = wr := ⟨_, rfl⟩
      subst hw5
      subst htn
      go_wp2
      go_loopw [8, 14, 15, 16, 17, 18] (fun _ vr va i _ _ wq => ∃ (q : Nat) (sr : List Sl), q ≤ n ∧ i = .int .i64 q ∧ (∀ g ∈ l.take q, plainB g = true) ∧ OwnR 27 1 wq w5.heap.size vr (sr.map slR) ∧ Parts wq w5.heap.size sr ((l.take q).map putF) ∧ Own wq w5.heap.size va (((l.take q).map putF).flatten) ∧ (∀ r ∈ sr, Sep (slV r) va) ∧ Below w5.heap.size w5 wq) (fun _ _ _ i _ _ _ => n - (intOf i).toNat)
      case atStart => exact ⟨0, [], Nat.zero_le _, rfl, (fun g hg => by simp at hg), OwnR.nil _ _ _ _, Parts.nil _ _, Own.nil _ _, (fun r hr => by cases hr), Below.refl _ _⟩
      case round =>
        obtain ⟨q, sr, hq, rfl, hpl, hor, hpa, hoa, hse, hB⟩ := hrel
        have hnl := HFR.out.len
        have hfl2 : (((l.take q).map putF).flatten).length ≤ 54 * q := by
          have key : ∀ L : List Fr, (∀ g ∈ L, g.tag.length = 32) → ((L.map putF).flatten).length ≤ 54 * L.length := by
            intro L
            induction L with
            | nil => intro _; simp
            | cons g L ih =>
              intro h
              have h1 := putF_small g (h g (by simp))
              have h2 := ih (fun x hx => h x (by simp [hx]))
              rw [List.map_cons, List.flatten_cons, List.length_append, List.length_cons]
              omega
          have h1 := key (l.take q) (fun g hg => (HFR.out.ok g (List.mem_of_mem_take hg)).len)
          have h2 : (l.take q).length ≤ q := by rw [List.length_take]; omega
          omega
        by_cases hlt2 : q < n
        · obtain ⟨g, hg⟩ : ∃ g, l[q]? = some g := ⟨_, List.getElem?_eq_getElem (by omega)⟩
          have hgok : g.ok := HFR.out.ok g (List.mem_of_getElem? hg)
          have htk2 : l.take (q + 1) = l.take q ++ [g] := by
            have hql : q < l.length := by omega
            rw [List.take_succ_eq_append_getElem hql]
            have : l[q] = g := by
              rw [List.getElem?_eq_getElem hql] at hg
              exact Option.some.inj hg
            rw [this]
          obtain ⟨bq, oq, rfl, hcq⟩ := (HFR.out.below (HB3.out.trans (hB.mono HB3.out.size))).rws.at_ (by omega)
          have hrg : wr.rangeAt bq (oq + q * 40) (frC g) := fun j v hv => by
            have hj : j < 40 := by
              have := (List.getElem?_eq_some_iff.1 hv).1
              rwa [frC_length hgok.len] at this
            rw [hcq q hlt2 j hj]
            simp only [List.getD_eq_getElem?_getD, List.getElem?_map, hg, Option.map_some, Option.getD_some, hv]
          have hgi := info_row (frC_length hgok.len)
          have hp0 : 0 ≤ (q : Int) := by omega
          have hp1 : (q : Int) < n := by omega
          obtain ⟨G, hG⟩ : ∃ G, (frC g).toArray = G := ⟨_, rfl⟩
          cases hpg : plainB g with
          | false =>
            have hpc := fun w => put_plain_b g w hgok false hpg
            unfold frV frA at hpc
            rw [hG] at hpc
            have HPC := Lib.hid hpc
            have HRG := Lib.hid hrg
            have HGI := Lib.hid hgi
            have HG := Lib.hid hG
            have HB4 := Lib.hid (HB3.out.trans (hB.mono HB3.out.size))
            clear hpc hrg hgi hG hcq hpa hoa hor hse hpl hB
            go_wp2_with (first
              | ((with_reducible refine wpList_load_on 26 _ rfl bq (oq + q * 40) ?hx7 (frC g) G HG.out _ HRG.out Try.underlying26 ?hd7 HGI.out ?_ ?hw7); (case hx7 => rfl); (case hd7 => rfl); (case hw7 => rfl))
              | (go_at_call 10; (with_reducible refine (HPC.out _).mono ?_); rintro e w6 ⟨A6, m6, c6, rfl, hv6, hb6⟩
                 have hB6 := HB4.out.trans (hb6.mono HB4.out.size)))
            go_ret
            exact ⟨rfl, hB6⟩
          | true =>
            have hpc := fun w => put_plain g w hgok hpg
            unfold PutPost frV frA at hpc
            rw [hG] at hpc
            have HPC := Lib.hid hpc
            have HRG := Lib.hid hrg
            have HGI := Lib.hid hgi
            have HG := Lib.hid hG
            have HB4 := Lib.hid (HB3.out.trans (hB.mono HB3.out.size))
            have hsrl : sr.length ≤ 12 := by rw [hpa.len, List.length_map, List.length_take]; omega
            have hnx1 : (l.take (q + 1)).map putF = (l.take q).map putF ++ [putF g] := by rw [htk2, List.map_append]; rfl
            have hnx2 : ((l.take (q + 1)).map putF).flatten = ((l.take q).map putF).flatten ++ putF g := by rw [hnx1, List.flatten_append]; simp
            have hpl2 : ∀ x ∈ l.take (q + 1), plainB x = true := by
              rw [htk2]
              intro x hx
              rcases List.mem_append.1 hx with h1 | h1
              · exact hpl x h1
              · rw [List.mem_singleton.1 h1]; exact hpg
            have hpgl := putF_small g hgok.len
            obtain ⟨P, hP⟩ : ∃ P, ((l.take q).map putF).flatten = P := ⟨_, rfl⟩
            rw [hP] at hoa hnx2 hfl2
            have hfl3 : P.length ≤ 648 := by omega
            have HNX1 := Lib.hid hnx1
            have HNX2 := Lib.hid hnx2
            have HPL2 := Lib.hid hpl2
            have HPGL := Lib.hid hpgl
            have HGOK := Lib.hid (putF_ok hgok)
            have HOR := Lib.hid hor
            have HPA := Lib.hid hpa
            have HOA := Lib.hid hoa
            have HSE := Lib.hid hse
            have HBW := Lib.hid hB
            clear hpc hrg hgi hG hcq hnx1 hnx2 hpl2 hpgl hpl hP hg htk2 hgok hor hpa hoa hse hB hfl2
            go_wp2_with (first
              | ((with_reducible refine wpList_load_on 26 _ rfl bq (oq + q * 40) ?hx7 (frC g) G HG.out _ HRG.out Try.underlying26 ?hd7 HGI.out ?_ ?hw7); (case hx7 => rfl); (case hd7 => rfl); (case hw7 => rfl))
              | (go_at_call 10; (with_reducible refine (HPC.out _).mono ?_); rintro e w6 ⟨v6, rfl, hown6, hb6⟩
                 obtain ⟨A6, m6, c6, rfl, hbt6⟩ := hown6.slice HGOK.out
                 have hm6 : m6 ≤ 54 := by rw [← hbt6.len]; exact HPGL.out
                 have hB6 : Below w5.heap.size w5 w6 := HBW.out.trans (hb6.mono HBW.out.size)
                 have hsep6 : Sep (slV (A6, m6, c6)) u15 := fun gb h1 h2 => by
                   have h3 := (hown6.size gb h1).1
                   have h4 := (HOA.out.size gb h2).2
                   omega
                 have hor6 := HOR.out.below hb6
                 have hpa6 := (HPA.out.below hb6).snoc (r := (A6, m6, c6)) (hown6.mono HBW.out.size) HGOK.out
                 have hoa6 := HOA.out.below hb6
                 have hse6 : ∀ r ∈ sr ++ [(A6, m6, c6)], Sep (slV r) u15 := fun r hr => (List.mem_append.1 hr).elim (HSE.out r) (fun h => by rw [List.mem_singleton.1 h]; exact hsep6)
                 clear hown6 hsep6)
              | (at_builtin
                 refine wpList_append_r rfl 34 27 1 24 _ _ rfl Try.underlying34 (by kernel_rfl) (by omega) w5.heap.size u14 (sr.map slR) rfl (hor6.more _) _ 1 1 [slR (A6, m6, c6)] rfl (one_rws 1 27 w6 (slR (A6, m6, c6)) rfl (fun u hu => by rw [List.mem_singleton.1 hu]; rfl)) (by rw [List.length_map]; omega) (by rw [List.length_map]; omega) (Nat.le_trans hB6.size (size_le_alloc _ _)) ?_
                 intro v7 w7 hown7 hg7
                 have hB7 : Below w5.heap.size w5 w7 := (hB6.alloc hB6.size _).grown hg7 (Nat.le_trans hB6.size (size_le_alloc _ _)) (fun k hk => (hor6.size k hk).1)
                 have hpa7 := (hpa6.below (one_alloc _ _)).grown (hor6.more _) hg7
                 have hoa7 := far_rows (hoa6.more _) (hor6.more _) hg7
                 have hbt7 : Bts w7 A6 m6 c6 (putF g) := hpa7.last HPA.out.len HGOK.out
                 rw [← HNX1.out] at hpa7
                 rw [show sr.map slR ++ [slR (A6, m6, c6)] = (sr ++ [(A6, m6, c6)]).map slR by simp] at hown7
                 clear hg7 hpa6 hoa6 hor6)
              | (at_builtin
                 refine wpList_append_b_at rfl _ _ rfl w5.heap.size u15 P rfl hoa7 A6 m6 c6 (putF g) rfl hbt7 (by omega) hB7.size ?_
                 intro v8 w8 hown8 hg8 hat8
                 rw [← HNX2.out] at hown8
                 have hB8 : Below w5.heap.size w5 w8 := hB7.grown hg8 hB7.size (fun k hk => (hoa7.size k hk).1)
                 have hor8 := hown7.far hg8 (apart_own hoa7 hown7)
                 have hpa8 := hpa7.apart hse6 hg8
                 have hse8 : ∀ r ∈ sr ++ [(A6, m6, c6)], Sep (slV r) v8 := fun r hr => ((hse6 r hr).symm.step (fun gb hgb => by
                   obtain ⟨i, hi, rfl⟩ := List.getElem_of_mem hr
                   have hi2 : i < ((l.take (q + 1)).map putF).length := by rw [← hpa7.len]; exact hi
                   have h1 := hpa7.own i hi2
                   rw [List.getD_eq_getElem?_getD, List.getElem?_eq_getElem hi] at h1
                   exact (h1.size gb hgb).2) hat8).symm
                 clear hg8 hat8 hpa7 hown7 hoa7 hbt7))
            go_roundw
            case rel => exact ⟨q + 1, sr ++ [(A6, m6, c6)], by omega, by go_num, HPL2.out, hor8, hpa8, hown8, hse8, hB8⟩
            case measure => simp [intOf]; omega
        · have hqn : q = n := by omega
          have htl : l.take q = l := List.take_of_length_le (by omega)
          rw [htl] at hpl hpa hoa
          have hX6 := (hB.block _ (Array.getElem?_eq_some_iff.1 HX3.out).1).trans HX3.out
          have hB6 := HB3.out.trans (hB.mono HB3.out.size)
          obtain ⟨A4, n4, c4, rfl, hr4⟩ := hor.rws
          have hCl : Hid (frA f = C.toArray) := Lib.hid (by rw [← HC.out]; rfl)
          have HX6 := Lib.hid hX6
          have HB6 := Lib.hid hB6
          subst hqn
          cases hpf : plainB f with
          | false =>
            have hpc := fun w => put_plain_b f w hf false hpf
            unfold frV at hpc
            rw [hCl.out] at hpc
            have HPC := Lib.hid hpc
            clear hpc hX6 hB6 hpl hpa hoa hor hse hr4 hB htl
            go_wp2_with (first
              | ((with_reducible refine wpList_load_blk 26 _ rfl w.heap.size ?hx2 26 C.toArray (0, 0) _ HX6.out Try.underlying26 ?hd2 (info_frame HCA.out) ?_ ?hw2); (case hx2 => rfl); (case hd2 => rfl); (case hw2 => rfl))
              | (go_at_call 10; (with_reducible refine (HPC.out _).mono ?_); rintro e w7 ⟨A7, m7, c7, rfl, hv7, hb7⟩
                 have hB7 := HB6.out.trans (hb7.mono HB6.out.size)))
            go_ret
            exact ⟨rfl, hB7⟩
          | true =>
            have hpc := fun w => put_plain_b f w hf true hpf
            rw [if_pos rfl] at hpc
            unfold frV at hpc
            rw [hCl.out] at hpc
            have HPC := Lib.hid hpc
            obtain ⟨X, hX⟩ : ∃ X, putF f = X := ⟨_, rfl⟩
            by_cases hko : k < 0 ∨ ((putF f).length : Int) ≤ k
            · clear hpc hX6 hB6 hpl hpa hoa hor hse hr4 hB htl
              go_wp2_with (first
                | ((with_reducible refine wpList_load_blk 26 _ rfl w.heap.size ?hx2 26 C.toArray (0, 0) _ HX6.out Try.underlying26 ?hd2 (info_frame HCA.out) ?_ ?hw2); (case hx2 => rfl); (case hd2 => rfl); (case hw2 => rfl))
                | (go_at_call 10; (with_reducible refine (HPC.out _).mono ?_); rintro e w7 ⟨A7, m7, c7, rfl, hv7, hb7⟩
                   have hB7 := HB6.out.trans (hb7.mono HB6.out.size)
                   rw [hv7.len] at hko))
              all_goals
                go_ret
                exact ⟨rfl, hB7⟩
            · obtain ⟨K, rfl⟩ := Int.eq_ofNat_of_zero_le (show 0 ≤ k by omega)
              have hKl : K < (putF f).length := by omega
              have hbn := framesL_not (begin_not hf.len K hKl)
              obtain ⟨hs1, hs2⟩ := split_put l (fun g hg => (HFR.out.ok g hg).len) ((putF f).take K)
              rw [hbn.1, List.append_nil] at hs1
              rw [hbn.2] at hs2
              have hokX := putF_ok hf
              have hXl := putF_small f hf.len
              have hokA : ∀ j, 0 ≤ ((l.map putF).flatten).getD j 0 ∧ ((l.map putF).flatten).getD j 0 < 256 := fun j => by
                exact hokFlat l (fun g hg => HFR.out.ok g hg) j
              rw [htl] at hfl2
              rw [hX] at hpc hKl hs1 hs2 hokX hXl
              obtain ⟨AL, hAL⟩ : ∃ AL, (l.map putF).flatten = AL := ⟨_, rfl⟩
              rw [hAL] at hs1 hs2 hoa hokA hfl2
              obtain ⟨A5, n5, c5, rfl, hbt5⟩ := hoa.slice hokA
              have hlr : Lst wr A4 n4 c4 sr (l.map putF) := ⟨hr4, hpa.len, fun i hi => by
                obtain ⟨A', cap, hv, hbt⟩ := (hpa.own i hi).bts (hpa.ok i)
                unfold slV at hv
                injection hv with e1 e2 e3
                rw [e1, e2, e3]
                exact hbt⟩
              have hK0 : (0 : Int) ≤ K := by omega
              have HPC := Lib.hid hpc
              have HS1 := Lib.hid hs1
              have HS2 := Lib.hid hs2
              have HOKX := Lib.hid hokX
              have HKL := Lib.hid hKl
              have HLR := Lib.hid hlr
              have HBT5 := Lib.hid hbt5
              have HOKA := Lib.hid hokA
              have hAll : AL.length ≤ 648 := by omega
              have HAL := Lib.hid hAll
              have HXL := Lib.hid hXl
              clear hpc hX6 hB6 hpl hpa hoa hor hse hr4 hB htl hX hbn hs1 hs2 hokX hXl hokA hAL hbt5 hlr hKl hfl2 hAll
              go_wp2_with (first
                | ((with_reducible refine wpList_load_blk 26 _ rfl w.heap.size ?hx2 26 C.toArray (0, 0) _ HX6.out Try.underlying26 ?hd2 (info_frame HCA.out) ?_ ?hw2); (case hx2 => rfl); (case hd2 => rfl); (case hw2 => rfl))
                | (go_at_call 10; (with_reducible refine (HPC.out _).mono ?_); rintro e w7 ⟨A7, m7, c7, rfl, hv7, hb7⟩
                   have hB7 := HB6.out.trans (hb7.mono HB6.out.size)
                   have hK1 : (K : Int) < m7 := by have := HKL.out; have := hv7.len; omega))
              obtain ⟨hto, hbtK⟩ := run_to hv7 (K : Int) (hi := K) rfl (by omega)
              have HV7 := Lib.hid hv7
              have HBTK := Lib.hid hbtK
              have HLR7 := Lib.hid (HLR.out.below hb7)
              have HBT7 := Lib.hid (HBT5.out.below hb7)
              have HB7 := Lib.hid hB7
              clear hv7 hbtK hb7 hB7
              refine wp_region_held_drew (S := (fun _ => True)) (by kernel_rfl) trivial (fun hHeld => ?_)
              refine take_move 0 (.tmp 15) (.slice A5 n5 c5) rfl rfl rfl (by kernel_rfl) (by kernel_rfl) (by kernel_rfl) (fun _ _ _ h => h) rfl hHeld ?_
              simp only [Act.put, List.setIfInBounds_toArray, List.set_cons_zero, List.set_cons_succ]
              refine take_move 2 (.tmp 19) (.slice A7 m7 c7) rfl rfl rfl (by kernel_rfl) (by kernel_rfl) (by kernel_rfl) (fun _ _ _ h => h) rfl hHeld ?_
              simp only [Act.put, List.setIfInBounds_toArray, List.set_cons_zero, List.set_cons_succ]
              refine take_move 3 (.tmp 2) (.int .i64 K) rfl rfl rfl (by kernel_rfl) (by kernel_rfl) (by kernel_rfl) (fun _ _ _ h => h) rfl hHeld ?_
              simp only [Act.put, List.setIfInBounds_toArray, List.set_cons_zero, List.set_cons_succ]
              refine take_run 4 (.slice A7 K c7) rfl (by kernel_rfl) (by kernel_rfl) (by kernel_rfl) (fun _ _ _ h => h) rfl hHeld (fun w => ?_) ?_
              · go_simp
              simp only [Act.put, List.setIfInBounds_toArray, List.set_cons_zero, List.set_cons_succ]
              refine one_step 1 (by kernel_rfl) rfl (fun Kx hKx => ?_)
              refine step_append_o (.const (.slice none 0 0)) (.tmp 104) rfl w7.heap.size (.slice none 0 0) [] rfl (Own.nil _ _) A5 n5 c5 AL rfl HBT7.out.draw1 (by have h1 := HBT7.out.len; have h2 := HAL.out; simp only [List.length_nil]; omega) (Nat.le_refl _) rfl ?_
              intro v8 w8 hown8 hg8
              rw [List.nil_append] at hown8
              have hB8 : Below w7.heap.size w7 w8 := (Below.refl _ _).drew.grown hg8 (Nat.le_refl _) (fun k hk => by cases hk)
              refine hKx.out _ _ trivial (fun hHeld0 => ?_)
              clear hKx Kx
              try simp only [Act.put, List.setIfInBounds_toArray, List.set_cons_zero, List.set_cons_succ]
              refine one_step 5 (by kernel_rfl) rfl (fun Kx hKx => ?_)
              refine step_append_o (.tmp 105) (.tmp 108) rfl w7.heap.size v8 AL rfl hown8 A7 K c7 (X.take K) rfl (HBTK.out.below hB8) (by have h2 := HAL.out; have h3 := HXL.out; have h4 := HKL.out; omega) hB8.size rfl ?_
              intro v9 w9 hown9 hg9
              have hB9 : Below w7.heap.size w7 w9 := hB8.grown hg9 hB8.size (fun k hk => (hown8.size k hk).1)
              obtain ⟨A9, n9, c9, rfl, hbt9⟩ := hown9.slice (ok_append HOKA.out (ok_take HOKX.out K))
              have hn9 : n9 ≤ 1000000 := by
                have h1 := hbt9.len
                rw [List.length_append, List.length_take] at h1
                have h2 := HAL.out
                have h3 := HKL.out
                have h4 := HXL.out
                omega
              refine hKx.out _ _ trivial (fun hHeld1 => ?_)
              clear hKx Kx
              try simp only [Act.put, List.setIfInBounds_toArray, List.set_cons_zero, List.set_cons_succ]
              refine one_step 6 (by kernel_rfl) rfl (fun Kx hKx => ?_)
              go_simp
              go_at_call 14
              refine (split_lst A9 n9 c9 _ w9 hbt9 hn9).mono ?_
              rintro e w10 ⟨A10, n10, c10, A11, n11, c11, sl2, rfl, hls10, hbt11, hb10⟩
              rw [HS1.out] at hls10
              rw [HS2.out] at hbt11
              have hB10 := hB9.trans (hb10.mono hB9.size)
              refine hKx.out _ _ trivial (fun hHeld => ?_)
              clear hKx Kx
              try simp only [Act.put, List.setIfInBounds_toArray, List.set_cons_zero, List.set_cons_succ]
              refine take_move 7 (.tmp 110) (.tuple #[.slice A10 n10 c10, .slice A11 n11 c11]) rfl rfl rfl (by kernel_rfl) (by kernel_rfl) (by kernel_rfl) (fun _ _ _ h => h) rfl hHeld ?_
              simp only [Act.put, List.setIfInBounds_toArray, List.set_cons_zero, List.set_cons_succ]
              refine take_run 8 (.slice A10 n10 c10) rfl (by kernel_rfl) (by kernel_rfl) (by kernel_rfl) (fun _ _ _ h => h) rfl hHeld (fun w => ?_) ?_
              · go_simp
              simp only [Act.put, List.setIfInBounds_toArray, List.set_cons_zero, List.set_cons_succ]
              refine take_run 9 (.slice A11 n11 c11) rfl (by kernel_rfl) (by kernel_rfl) (by kernel_rfl) (fun _ _ _ h => h) rfl hHeld (fun w => ?_) ?_
              · go_simp
              simp only [Act.put, List.setIfInBounds_toArray, List.set_cons_zero, List.set_cons_succ]
              refine take_run 10 (.slice A10 n10 c10) rfl (by kernel_rfl) (by kernel_rfl) (by kernel_rfl) (fun _ _ _ h => h) rfl hHeld (fun w => ?_) ?_
              · go_simp
              simp only [Act.put, List.setIfInBounds_toArray, List.set_cons_zero, List.set_cons_succ]
              refine take_run 11 (.slice A11 n11 c11) rfl (by kernel_rfl) (by kernel_rfl) (by kernel_rfl) (fun _ _ _ h => h) rfl hHeld (fun w => ?_) ?_
              · go_simp
              simp only [Act.put, List.setIfInBounds_toArray, List.set_cons_zero, List.set_cons_succ]
              refine wpAnyH_done (by kernel_rfl) ?_ _
              have HLS10 := Lib.hid hls10
              have HBT11 := Lib.hid hbt11
              have HB10 := Lib.hid hB10
              clear hls10 hbt11 hB10 hb10 hbt9 hown9 hown8 hg8 hg9 hB8 hB9 hHeld hHeld0 hHeld1
              go_wp2_with (go_at_call 16; (with_reducible refine (rows_any A10 A4 n10 c10 n4 c4 sl2 sr _ _ w10 HLS10.out (HLR7.out.below HB10.out)).mono ?_); rintro e w11 ⟨he, j, hw11⟩
                           rw [beq_self_eq_true] at he
                           subst he
                           have hB11 : Below w10.heap.size w10 w11 := by rw [hw11]; exact below_drewN (Below.refl _ _) _
                           clear hw11)
              have HB11 := Lib.hid hB11
              clear hB11
              refine wp_region_held_drew (S := (fun w' => Below w10.heap.size w10 w')) (by kernel_rfl) HB11.out.drew (fun hHeld => ?_)
              refine take_move 0 (.tmp 23) (.bool true) rfl rfl rfl (by kernel_rfl) (by kernel_rfl) (by kernel_rfl) (fun _ _ _ h => h) rfl hHeld ?_
              simp only [Act.put, List.setIfInBounds_toArray, List.set_cons_zero, List.set_cons_succ]
              refine take_move 1 (.tmp 116) (.bool true) rfl rfl rfl (by kernel_rfl) (by kernel_rfl) (by kernel_rfl) (fun _ _ _ h => h) rfl hHeld ?_
              simp only [Act.put, List.setIfInBounds_toArray, List.set_cons_zero, List.set_cons_succ]
              refine take_move 2 (.tmp 22) (.slice A11 n11 c11) rfl rfl rfl (by kernel_rfl) (by kernel_rfl) (by kernel_rfl) (fun _ _ _ h => h) rfl hHeld ?_
              simp only [Act.put, List.setIfInBounds_toArray, List.set_cons_zero, List.set_cons_succ]
              refine take_if 3 (.string (bstr (X.take K))) rfl (by kernel_rfl) (by kernel_rfl) (by kernel_rfl) (fun _ _ _ h => h) rfl hHeld (fun w' hw' => ?_) ?_
              · have hc := conv_bts (HBT11.out.below hw')
                go_simp
              simp only [Act.put, List.setIfInBounds_toArray, List.set_cons_zero, List.set_cons_succ]
              refine take_move 4 (.tmp 19) (.slice A7 m7 c7) rfl rfl rfl (by kernel_rfl) (by kernel_rfl) (by kernel_rfl) (fun _ _ _ h => h) rfl hHeld ?_
              simp only [Act.put, List.setIfInBounds_toArray, List.set_cons_zero, List.set_cons_succ]
              refine take_move 5 (.tmp 2) (.int .i64 K) rfl rfl rfl (by kernel_rfl) (by kernel_rfl) (by kernel_rfl) (fun _ _ _ h => h) rfl hHeld ?_
              simp only [Act.put, List.setIfInBounds_toArray, List.set_cons_zero, List.set_cons_succ]
              refine take_run 6 (.slice A7 K c7) rfl (by kernel_rfl) (by kernel_rfl) (by kernel_rfl) (fun _ _ _ h => h) rfl hHeld (fun w => ?_) ?_
              · go_simp
              simp only [Act.put, List.setIfInBounds_toArray, List.set_cons_zero, List.set_cons_succ]
              refine take_if 7 (.string (bstr (X.take K))) rfl (by kernel_rfl) (by kernel_rfl) (by kernel_rfl) (fun _ _ _ h => h) rfl hHeld (fun w' hw' => ?_) ?_
              · have hc := conv_bts ((HBTK.out.below HB10.out).below hw')
                go_simp
              simp only [Act.put, List.setIfInBounds_toArray, List.set_cons_zero, List.set_cons_succ]
              refine take_run 8 (.bool true) rfl (by kernel_rfl) (by kernel_rfl) (by kernel_rfl) (fun _ _ _ h => h) rfl hHeld (fun w => ?_) ?_
              · go_simp
              simp only [Act.put, List.setIfInBounds_toArray, List.set_cons_zero, List.set_cons_succ]
              refine take_run 9 (.bool true) rfl (by kernel_rfl) (by kernel_rfl) (by kernel_rfl) (fun _ _ _ h => h) rfl hHeld (fun w => ?_) ?_
              · go_simp
              simp only [Act.put, List.setIfInBounds_toArray, List.set_cons_zero, List.set_cons_succ]
              refine take_run 10 (.bool true) rfl (by kernel_rfl) (by kernel_rfl) (by kernel_rfl) (fun _ _ _ h => h) rfl hHeld (fun w => ?_) ?_
              · go_simp
              simp only [Act.put, List.setIfInBounds_toArray, List.set_cons_zero, List.set_cons_succ]
              refine wpAnyH_done (by kernel_rfl) ?_ _
              go_wp2
              go_ret
              exact ⟨rfl, (HB7.out.trans ((HB10.out.trans (HB11.out.mono HB10.out.size)).mono HB7.out.size)).drew⟩
theorem fsplit_all (l : List Fr) (f : Fr) (k : Int) (b : List Int) (A B : Option Addr) (n c m d : Nat) (w : World) (hl : Frs w A n c l) (hf : f.ok) (hb : Bts w B m d b) :
    Calls Try.prog 5 #[.slice A n c, frV f, .int .i64 k, .slice B m d] w fun e w' => e = .returned (.bool true) ∧ Below w.heap.size w w' := by
  by_cases h : 12 < n ∨ 400 < m
  · exact fsplit_big f k A B n c m d w hl.rws.small hb.small h
  · exact fsplit_main l f k b A B n c m d w (by omega) (by omega) hl hf hb
end Go.Proofs.Ytadcbikdbekmgaa
