/- Joined texts: The walks over package user's Find and Role. Sums of bytes (SHA-256) as functions of lists: what the walks over package sha, and over the plain answers of the document, come to; and that both are the same. Tags by a key (HMAC-SHA256), as functions of lists of bytes. The walks over package sha's rounds: a number turned, a round, a block's numbers, a register rounded by a block, and by all blocks. The walk over package sha's spread: the 64 numbers of a block. Arrays of numbers that lie in a block of their own; slices of bytes; small facts on both. The walks over package sha's rounded (a register, rounded by a block) and roundedBy (by all whole blocks). The walk over package sha's roundedBy: a register, rounded by all whole blocks of a slice. -/
import Derived.Test.YtcfkpepohnjdfaaDoorUtJB
import GoSem.Claim
import Derived.KernelRfl
import Derived.Laws.BitsAllLaws
import Derived.Test.YtcfkpepohnjdfaaDoorRows
import Derived.WalkKit
import Derived.WalkSpells
import Derived.WalkLawsBesides
import Derived.Deep.QuietTactic
import Derived.BigQuiet
import Derived.StillTailTactics
import Derived.Lib.Hide
import Derived.Laws.CopyOwn
import Derived.Test.YtcfkpepohnjdfaaDoorUtJA
/- The walks over package user's Find and Role. -/
namespace Go.Proofs.YtcfkpepohnjdfaaDoor
set_option linter.unusedVariables false
set_option linter.unusedSimpArgs false
open Go.RowKit

theorem find_hit {l : List Us} {no : Int} {k : Nat} {u : Us} (hm : mayU l = true) (hu : l[k]? = some u) (he : u.no = no) (hlo : ∀ j v, j < k → l[j]? = some v → v.no < no) : findU l no = k := by
  rw [findU, if_pos hm, findIx_at 0 k u hu he fun j v h1 h2 => by have := hlo j v h1 h2; omega]
  omega
theorem find_none {l : List Us} {no : Int} (h : ∀ (k : Nat) (v : Us), l[k]? = some v → v.no ≠ no) : findU l no = -1 := by
  unfold findU
  split
  · exact findIx_no 0 fun u hu => by
      obtain ⟨k, hk, rfl⟩ := List.getElem_of_mem hu
      exact h k _ (by simp [hk])
  · rfl
theorem boxes_two (w : World) (A : Option Addr) (n c : Nat) (x : Int) : BoxS ((w.alloc (.cells #[.slice A n c] 22)).alloc (.cells #[.int .i64 x] 3)) w.heap.size A n c ∧ BoxI ((w.alloc (.cells #[.slice A n c] 22)).alloc (.cells #[.int .i64 x] 3)) (w.heap.size + 1) x :=
  ⟨heap_alloc2_old w _ _, heap_alloc2_new w _ _⟩
set_option maxHeartbeats 1000000 in
theorem ufind_any (A : Option Addr) (n c : Nat) (l : List Us) (no : Int) (w : World) (hl : Uss w A n c l) :
    Calls Tryd.prog 17 #[.slice A n c, .int .i64 no] w (GI (findU l no) w) := by
  have htwo := two_below w (.cells #[.slice A n c] 22) (.cells #[.int .i64 no] 3)
  have hn := hl.small
  obtain ⟨hbs, hbi⟩ := boxes_two w A n c no
  have b0 := hbs.cell
  have HC := Lib.hid (umay_any A n c l _ (hl.below htwo))
  cases hm : mayU l with
  | false =>
    have hr : (-1 : Int) = findU l no := by rw [findU, hm]; rfl
    rw [hm] at HC
    have HR := Lib.hid hr
    have HTWO := Lib.hid htwo
    clear hr hm hl htwo hbs hbi
    go_enter Tryd.func17, Tryd.ntmps17
    go_wp2_with (go_at_call 15; refine HC.out.mono ?_; rintro e w1 ⟨rfl, hb4⟩; have HB4 := Lib.hid (HTWO.out.trans (hb4.mono HTWO.out.size)); clear hb4)
    go_ret
    exact ⟨congrArg (fun i => Ending.returned (Value.int .i64 i)) HR.out, HB4.out⟩
  | true =>
    rw [hm] at HC
    have hm2 := hm
    rw [mayU, Bool.and_eq_true, decide_eq_true_eq, hl.len] at hm2
    have HM2 := Lib.hid hm2
    have HL := Lib.hid hl
    have HTWO := Lib.hid htwo
    have HBS := Lib.hid hbs
    have HBI := Lib.hid hbi
    have HM := Lib.hid hm
    clear hm hm2 hl htwo hbs hbi
    go_enter Tryd.func17, Tryd.ntmps17
    go_wp2_with (first
      | (go_at_call 15; refine HC.out.mono ?_; rintro e w1 ⟨rfl, hb4⟩; have hb5 := HTWO.out.trans (hb4.mono HTWO.out.size); have HBS1 := Lib.hid (HBS.out.below hb4); have HBI1 := Lib.hid (HBI.out.below hb4); have d0 := HBS1.out.cell; have d1 := HBI1.out.cell; have HB5 := Lib.hid hb5; clear hb4 hb5)
      | (go_at_call 31; refine (search_any A n c l no _ _ w1 (HL.out.below HB5.out) HBS1.out HBI1.out HM2.out.2 HM2.out.1).mono ?_; rintro e w2 ⟨at_, rfl, hat, hlo, hhi, j2, rfl⟩))
    have HB7 := Lib.hid (below_drewN HB5.out j2)
    by_cases hend : at_ = n
    · have hr : (-1 : Int) = findU l no := (find_none fun k v hv => by
        have h1 := (List.getElem?_eq_some_iff.1 hv).1
        rw [HL.out.len] at h1
        have := hlo k v (by omega) hv
        omega).symm
      have HR := Lib.hid hr
      have qe : ((at_ : Int) == (n : Int)) = true := by rw [beq_iff_eq]; omega
      clear hr hend hlo hhi
      go_quiet (fail)
      go_wp2
      go_ret
      exact ⟨congrArg (fun i => Ending.returned (Value.int .i64 i)) HR.out, below_drewN HB7.out _⟩
    · have qe : ((at_ : Int) == (n : Int)) = false := by rw [beq_eq_false_iff_ne]; omega
      have hlt : at_ < n := by omega
      obtain ⟨b, off, u, rfl, -, -, hu, z0, -, -, -, -⟩ := (HL.out.below HB5.out).at_ at_ hlt
      have q0 : 0 ≤ (at_ : Int) := by omega
      have q1 : (at_ : Int) < n := by omega
      by_cases hx : u.no = no
      · have hr : (at_ : Int) = findU l no := (find_hit HM.out hu hx fun j v h1 h2 => hlo j v h1 h2).symm
        have HR := Lib.hid hr
        have qn : (u.no != no) = false := by rw [hx]; simp
        obtain ⟨x, hxe⟩ : ∃ x, u.no = x := ⟨_, rfl⟩
        rw [hxe] at z0 qn
        clear hr hx hlo hhi hu hxe
        go_quiet (fail)
        go_wp2
        go_ret
        exact ⟨congrArg (fun i => Ending.returned (Value.int .i64 i)) HR.out, below_drewN HB7.out _⟩
      · have hr : (-1 : Int) = findU l no := (find_none fun k v hv hv2 => by
          by_cases h1 : k < at_
          · have := hlo k v h1 hv
            omega
          · by_cases h2 : k = at_
            · subst h2
              rw [hu] at hv
              obtain rfl := Option.some.inj hv
              exact hx hv2
            · have h3 := may_rise HM2.out.2 at_ k u v (by omega) hu hv
              have h4 := hhi at_ u (Nat.le_refl _) hu
              omega).symm
        have HR := Lib.hid hr
        have qn : (u.no != no) = true := by rw [bne_iff_ne]; exact hx
        obtain ⟨x, hxe⟩ : ∃ x, u.no = x := ⟨_, rfl⟩
        rw [hxe] at z0 qn
        clear hr hx hlo hhi hu hxe
        go_quiet (fail)
        go_wp2
        go_ret
        exact ⟨congrArg (fun i => Ending.returned (Value.int .i64 i)) HR.out, below_drewN HB7.out _⟩

theorem find_range {l : List Us} {no : Int} (h : 0 ≤ findU l no) : ∃ k : Nat, findU l no = k ∧ k < l.length ∧ ∃ u, l[k]? = some u ∧ u.no = no := by
  unfold findU at h ⊢
  split
  · rename_i hm
    rw [if_pos hm] at h
    have key : ∀ (l : List Us) (i : Int), findIx no l i = -1 ∨ ∃ k : Nat, findIx no l i = i + k ∧ k < l.length ∧ ∃ u, l[k]? = some u ∧ u.no = no := by
      intro l
      induction l with
      | nil => intro i; exact .inl rfl
      | cons u l ih =>
        intro i
        by_cases e : u.no = no
        · exact .inr ⟨0, by rw [findIx, if_pos e]; simp, by simp, u, rfl, e⟩
        · rw [findIx, if_neg e]
          rcases ih (i + 1) with h1 | ⟨k, h1, h2, v, h3, h4⟩
          · exact .inl h1
          · exact .inr ⟨k + 1, by rw [h1]; omega, by simp; omega, v, by rw [List.getElem?_cons_succ]; exact h3, h4⟩
    rcases key l 0 with h1 | ⟨k, h1, h2⟩
    · omega
    · exact ⟨k, by rw [h1]; omega, h2⟩
  · rename_i hm
    rw [if_neg hm] at h
    omega
theorem role_at {l : List Us} {no : Int} {k : Nat} {u : Us} (h : findU l no = k) (hu : l[k]? = some u) : roleU l no = u.role := by
  rw [roleU, if_pos (by rw [h]; omega), h]
  simp [List.getD_eq_getElem?_getD, hu]
theorem role_no {l : List Us} {no : Int} (h : ¬ 0 ≤ findU l no) : roleU l no = -1 := by rw [roleU, if_neg h]
set_option maxHeartbeats 1000000 in
theorem urole_any (A : Option Addr) (n c : Nat) (l : List Us) (no : Int) (w : World) (hl : Uss w A n c l) :
    Calls Tryd.prog 19 #[.slice A n c, .int .i64 no] w (GI (roleU l no) w) := by
  have hn := hl.small
  have HC := Lib.hid (ufind_any A n c l no w hl)
  by_cases h : 0 ≤ findU l no
  · obtain ⟨k, hk, hkl, u, hu, -⟩ := find_range h
    rw [hl.len] at hkl
    rw [role_at hk hu]
    rw [hk] at HC
    have HL := Lib.hid hl
    have HU := Lib.hid hu
    have q0 : 0 ≤ (k : Int) := by omega
    have q1 : (k : Int) < n := by omega
    clear h hk hl hu
    go_enter Tryd.func19, Tryd.ntmps19
    go_wp2_with (go_at_call 17; refine HC.out.mono ?_; rintro e w1 ⟨rfl, hb4⟩; have HB4 := Lib.hid hb4; obtain ⟨b, off, u', rfl, -, -, hu', -, z1, -, -, -⟩ := (HL.out.below hb4).at_ k hkl; obtain rfl : u' = u := (by rw [HU.out] at hu'; exact (Option.some.inj hu').symm); clear hb4 hu')
    go_ret
    exact ⟨rfl, HB4.out⟩
  · rw [role_no h]
    obtain ⟨x, hx⟩ : ∃ x, findU l no = x := ⟨_, rfl⟩
    rw [hx] at HC h
    have h' : x < 0 := by omega
    clear hx hl h
    go_enter Tryd.func19, Tryd.ntmps19
    go_wp2_with (go_at_call 17; refine HC.out.mono ?_; rintro e w1 ⟨rfl, hb4⟩; have HB4 := Lib.hid hb4; clear hb4)
    go_ret
    exact ⟨rfl, HB4.out⟩
end Go.Proofs.YtcfkpepohnjdfaaDoor

/- Sums of bytes (SHA-256) as functions of lists: what the walks over package sha, and over the plain answers of the document, come to; and that both are the same. -/
namespace Go.Proofs.YtcfkpepohnjdfaaDoor
open Go

/-- a number of 32 bits, turned -/
def rot (x n : Int) : Int := bits .or .u32 (x / 2 ^ n.toNat) (x * 2 ^ (32 - n).toNat % 4294967296)
def x32 (a b : Int) : Int := bits .xor .u32 a b
def a32 (a b : Int) : Int := bits .and .u32 a b

def bigE (e : Int) : Int := x32 (x32 (rot e 6) (rot e 11)) (rot e 25)
def bigA (a : Int) : Int := x32 (x32 (rot a 2) (rot a 13)) (rot a 22)
def chE (e f g : Int) : Int := x32 (a32 e f) (a32 (x32 IntKind.u32.max e) g)
def majA (a b c : Int) : Int := x32 (x32 (a32 a b) (a32 a c)) (a32 b c)
def lowS (x : Int) : Int := x32 (x32 (rot x 7) (rot x 18)) (x / 8)
def highS (y : Int) : Int := x32 (x32 (rot y 17) (rot y 19)) (y / 1024)

/-- one round -/
def rnd (r : List Int) (n : Int) : List Int :=
  match r with
  | [a, b, c, d, e, f, g, h] => [(h + bigE e + chE e f g + n + (bigA a + majA a b c)) % 4294967296, a, b, c, (d + (h + bigE e + chE e f g + n)) % 4294967296, e, f, g]
  | _ => r

def kList : List Int := [1116352408, 1899447441, 3049323471, 3921009573, 961987163, 1508970993, 2453635748, 2870763221, 3624381080, 310598401, 607225278, 1426881987, 1925078388, 2162078206, 2614888103, 3248222580, 3835390401, 4022224774, 264347078, 604807628, 770255983, 1249150122, 1555081692, 1996064986, 2554220882, 2821834349, 2952996808, 3210313671, 3336571891, 3584528711, 113926993, 338241895, 666307205, 773529912, 1294757372, 1396182291, 1695183700, 1986661051, 2177026350, 2456956037, 2730485921, 2820302411, 3259730800, 3345764771, 3516065817, 3600352804, 4094571909, 275423344, 430227734, 506948616, 659060556, 883997877, 958139571, 1322822218, 1537002063, 1747873779, 1955562222, 2024104815, 2227730452, 2361852424, 2428436474, 2756734187, 3204031479, 3329325298]
def iList : List Int := [1779033703, 3144134277, 1013904242, 2773480762, 1359893119, 2600822924, 528734635, 1541459225]

/-- the i-th number of a block -/
def word (l : List Int) (i : Nat) : Int :=
  bits .or .u32 (bits .or .u32 (bits .or .u32 (l.getD (4 * i) 0 * 16777216 % 4294967296) (l.getD (4 * i + 1) 0 * 65536 % 4294967296)) (l.getD (4 * i + 2) 0 * 256 % 4294967296)) (l.getD (4 * i + 3) 0)
def spreadA (l : List Int) : Nat → List Int
  | 0 => List.replicate 64 0
  | k + 1 => (spreadA l k).set k (word l k)
def nextW (w : List Int) (i : Nat) : Int :=
  (w.getD (i - 16) 0 + lowS (w.getD (i - 15) 0) + w.getD (i - 7) 0 + highS (w.getD (i - 2) 0)) % 4294967296
def spreadB (l : List Int) : Nat → List Int
  | 0 => spreadA l 16
  | k + 1 => (spreadB l k).set (k + 16) (nextW (spreadB l k) (k + 16))
def spreadAll (l : List Int) : List Int := spreadB l 48

def runs (w : List Int) (r : List Int) : Nat → List Int
  | 0 => r
  | k + 1 => rnd (runs w r k) ((kList.getD k 0 + w.getD k 0) % 4294967296)
def addTo (x r : List Int) : Nat → List Int
  | 0 => x
  | k + 1 => (addTo x r k).set k (((addTo x r k).getD k 0 + r.getD k 0) % 4294967296)
/-- a register, rounded by a block -/
def roundedL (r l : List Int) : List Int := addTo (runs (spreadAll l) r 64) r 8
/-- .. by the first k blocks -/
def blocksL (r l : List Int) : Nat → List Int
  | 0 => r
  | k + 1 => roundedL (blocksL r l k) ((l.drop (64 * k)).take 64)
def byBlocks (r l : List Int) : List Int := blocksL r l (l.length / 64)

/-- how many noughts stand behind the byte 128 -/
def noughts (n : Nat) : Nat := (64 - (n + 9) % 64) % 64
def bits8 (n : Nat) (i : Nat) : Int := ((8 * n : Nat) : Int) / 2 ^ (56 - 8 * i) % 256
def endingL (n : Nat) : List Int := [128] ++ List.replicate (noughts n) 0 ++ (List.range 8).map (bits8 n)
def speltAt (r : List Int) (i : Nat) : Int := r.getD (i / 4) 0 / 2 ^ (24 - 8 * (i % 4)) % 256
def speltL (r : List Int) : List Int := (List.range 32).map (speltAt r)
def endL (r rest : List Int) (n : Nat) : List Int := speltL (byBlocks r (rest ++ endingL n))
def sumL (l : List Int) : List Int := endL (byBlocks iList (l.take (l.length / 64 * 64))) (l.drop (l.length / 64 * 64)) l.length

theorem abc_first : ((sumL [97, 98, 99]).getD 0 0, (sumL [97, 98, 99]).getD 1 0, (sumL [97, 98, 99]).getD 2 0, (sumL [97, 98, 99]).getD 3 0) = (186, 120, 22, 191) := by decide +kernel
theorem none_first : ((sumL []).getD 0 0, (sumL []).getD 3 0) = (227, 66) := by decide +kernel
end Go.Proofs.YtcfkpepohnjdfaaDoor

/- Tags by a key (HMAC-SHA256), as functions of lists of bytes. -/
namespace Go.Proofs.YtcfkpepohnjdfaaDoor
open Go

/-- a key, or its sum where it is longer than a block -/
def keyL (key : List Int) : List Int := if 64 < key.length then sumL key else key
/-- noughts behind, up to a block -/
def padK (k : List Int) : List Int := k ++ List.replicate (64 - k.length) 0
def blockL (key : List Int) : List Int := padK (keyL key)
def xorAt (x : Int) (l : List Int) (i : Nat) : Int := bits .xor .u8 (l.getD i 0) x
def xorL (x : Int) (l : List Int) : List Int := (List.range 64).map (xorAt x l)
def innerL (key b : List Int) : List Int := sumL (xorL 54 (blockL key) ++ b)
def tagL (key b : List Int) : List Int := sumL (xorL 92 (blockL key) ++ innerL key b)
/-- the text that a key is made of -/
def labelL (label ctx : List Int) : List Int := ([(label.length : Int)] ++ label) ++ ctx

def jefe : List Int := [74, 101, 102, 101]
def whatDo : List Int := [119, 104, 97, 116, 32, 100, 111, 32, 121, 97, 32, 119, 97, 110, 116, 32, 102, 111, 114, 32, 110, 111, 116, 104, 105, 110, 103, 63]
theorem jefe_first : ((tagL jefe whatDo).getD 0 0, (tagL jefe whatDo).getD 1 0, (tagL jefe whatDo).getD 2 0, (tagL jefe whatDo).getD 3 0) = (91, 220, 193, 70) := by decide +kernel
end Go.Proofs.YtcfkpepohnjdfaaDoor

/- The walks over package sha's rounds: a number turned, a round, a block's numbers, a register rounded by a block, and by all blocks. -/
namespace Go.Proofs.YtcfkpepohnjdfaaDoor
open Go.RowKit

/-- numbers of 32 bits, as cells -/
def regv (r : List Int) : Array Value := (r.map (Value.int .u32)).toArray
theorem regv_size (r : List Int) : (regv r).size = r.length := by simp [regv]
theorem regv_get (r : List Int) (i : Nat) (h : i < r.length) : (regv r)[i]? = some (.int .u32 (r.getD i 0)) := by
  simp [regv, List.getD_eq_getElem?_getD, h]
theorem regv_set (r : List Int) (i : Nat) (v : Int) : (regv r).setIfInBounds i (.int .u32 v) = regv (r.set i v) := by
  simp [regv, List.map_set]
theorem regv_one (r : List Int) : (regv r).all (·.oneCell') = true := by
  simp only [regv, List.all_toArray, List.all_map, List.all_eq_true]
  intro x _
  rfl

theorem eight {r : List Int} (h : r.length = 8) : ∃ a b c d e f g k, r = [a, b, c, d, e, f, g, k] := by
  match r, h with
  | [a, b, c, d, e, f, g, k], _ => exact ⟨a, b, c, d, e, f, g, k, rfl⟩

set_option maxHeartbeats 400000 in
theorem turned_any (x n : Int) (w : World) (hn : 0 ≤ n) (hn2 : n < 32) :
    Calls Tryd.prog 64 #[.int .u32 x, .int .i64 n] w fun e w' => e = .returned (.int .u32 (rot x n)) ∧ ∃ k, w' = w.drewN k := by
  go_enter Tryd.func64, Tryd.ntmps64
  go_wp2
  go_quiet (fail)
  go_wp2
  go_ret
  exact ⟨rfl, _, rfl⟩

theorem below_round (w : World) (o1 o2 : Obj) (k : Nat) (v0 v1 v2 v3 v4 v5 v6 v7 : Value) :
    Below w.heap.size w (((((((((((w.alloc o1).alloc o2).drewN k).setCell ⟨w.heap.size + 1, 0, none⟩ v0).setCell ⟨w.heap.size + 1, 1, none⟩ v1).setCell ⟨w.heap.size + 1, 2, none⟩ v2).setCell ⟨w.heap.size + 1, 3, none⟩ v3).setCell ⟨w.heap.size + 1, 4, none⟩ v4).setCell ⟨w.heap.size + 1, 5, none⟩ v5).setCell ⟨w.heap.size + 1, 6, none⟩ v6).setCell ⟨w.heap.size + 1, 7, none⟩ v7) :=
  have h := below_drewN ((((Below.refl w.heap.size w).alloc (Nat.le_refl _) o1)).alloc (by simp) o2) k
  have q := Nat.le_succ w.heap.size
  (((((((h.setCell q v0).setCell q v1).setCell q v2).setCell q v3).setCell q v4).setCell q v5).setCell q v6).setCell q v7

set_option maxHeartbeats 1000000 in
theorem round_any (r : List Int) (n : Int) (w : World) (hr : r.length = 8) :
    Calls Tryd.prog 63 #[.agg (regv r), .int .u32 n] w fun e w' => e = .returned (.agg (regv (rnd r n))) ∧ Below w.heap.size w w' := by
  obtain ⟨a, b, c, d, e, f, g, h8, rfl⟩ := eight hr
  simp only [regv, List.map_cons, List.map_nil, rnd]
  go_enter Tryd.func63, Tryd.ntmps63
  go_wp2
  go_quiet (fail)
  go_wp2_with (go_at_call 64; refine (turned_any _ _ _ (by omega) (by omega)).mono ?_; rintro e w' ⟨rfl, k, rfl⟩)
  refine bodyPost_ret (v := .agg #[.int .u32 ((h8 + bigE e + chE e f g + n + (bigA a + majA a b c)) % 4294967296), .int .u32 a, .int .u32 b, .int .u32 c, .int .u32 ((d + (h8 + bigE e + chE e f g + n)) % 4294967296), .int .u32 e, .int .u32 f, .int .u32 g]) (by simp [results, Tryd.results63, go_sem, bigE, bigA, chE, majA, x32, a32]) rfl ⟨rfl, ?_⟩
  exact below_round _ _ _ _ _ _ _ _ _ _ _ _
end Go.Proofs.YtcfkpepohnjdfaaDoor

/- The walk over package sha's spread: the 64 numbers of a block. -/
namespace Go.Proofs.YtcfkpepohnjdfaaDoor
open Go.RowKit

theorem spreadA_length (l : List Int) (k : Nat) : (spreadA l k).length = 64 := by
  induction k with
  | zero => rfl
  | succ k ih => simp [spreadA, ih]
theorem spreadB_length (l : List Int) (k : Nat) : (spreadB l k).length = 64 := by
  induction k with
  | zero => exact spreadA_length l 16
  | succ k ih => simp [spreadB, ih]

set_option maxRecDepth 100000 in
set_option maxHeartbeats 1000000 in
theorem spread_any (l : List Int) (b off cap : Nat) (w : World) (hr : ∀ j, 0 ≤ l.getD j 0 ∧ l.getD j 0 < 256)
    (hc : ∀ j, j < 64 → w.cell? ⟨b, off + j, none⟩ = some (.int .u8 (l.getD j 0))) :
    Calls Tryd.prog 62 #[.slice (some ⟨b, off, none⟩) 64 cap] w fun e w' => e = .returned (.agg (regv (spreadAll l))) ∧ Below w.heap.size w w' := by
  have hbw : b < w.heap.size := block_lt_of_cell (hc 0 (by omega))
  go_enter Tryd.func62, Tryd.ntmps62
  go_wp2

  go_loopw [10] (fun i wr => ∃ k : Nat, k ≤ 16 ∧ i = .int .i64 k ∧ wr.heap[w.heap.size]? = some (.cells (regv (List.replicate 64 0)) 75 (0, 0)) ∧ wr.heap[w.heap.size + 1]? = some (.cells (regv (spreadA l k)) 75 (0, 0)) ∧ Below w.heap.size w wr)
    (fun i _ => 16 - (intOf i).toNat)
  case atStart => exact ⟨0, by omega, rfl, heap_alloc2_old w _ _, heap_alloc2_new w _ _, ((Below.refl _ _).alloc (Nat.le_refl _) _).alloc (by simp) _⟩
  case round =>
    obtain ⟨k, hk, rfl, hZ, hW, hb⟩ := hrel
    by_cases hlt : k < 16
    · have c0 := (hb.cell (p := ⟨b, off + 4 * k, none⟩) hbw).trans (hc (4 * k) (by omega))
      have c1 := (hb.cell (p := ⟨b, off + (4 * k + 1), none⟩) hbw).trans (hc (4 * k + 1) (by omega))
      have c2 := (hb.cell (p := ⟨b, off + (4 * k + 2), none⟩) hbw).trans (hc (4 * k + 2) (by omega))
      have c3 := (hb.cell (p := ⟨b, off + (4 * k + 3), none⟩) hbw).trans (hc (4 * k + 3) (by omega))
      obtain ⟨x0, hx0⟩ : ∃ x, x = l.getD (4 * k) 0 := ⟨_, rfl⟩
      obtain ⟨x1, hx1⟩ : ∃ x, x = l.getD (4 * k + 1) 0 := ⟨_, rfl⟩
      obtain ⟨x2, hx2⟩ : ∃ x, x = l.getD (4 * k + 2) 0 := ⟨_, rfl⟩
      obtain ⟨x3, hx3⟩ : ∃ x, x = l.getD (4 * k + 3) 0 := ⟨_, rfl⟩
      have e0 := hr (4 * k)
      have e1 := hr (4 * k + 1)
      have e2 := hr (4 * k + 2)
      have e3 := hr (4 * k + 3)
      rw [← hx0] at c0 e0
      rw [← hx1] at c1 e1
      rw [← hx2] at c2 e2
      rw [← hx3] at c3 e3
      have v0 : IntKind.u32.wrap x0 = x0 := by rw [IntKind.wrap_u32']; omega
      have v1 : IntKind.u32.wrap x1 = x1 := by rw [IntKind.wrap_u32']; omega
      have v2 : IntKind.u32.wrap x2 = x2 := by rw [IntKind.wrap_u32']; omega
      have v3 : IntKind.u32.wrap x3 = x3 := by rw [IntKind.wrap_u32']; omega
      have hword : word l k = bits .or .u32 (bits .or .u32 (bits .or .u32 (IntKind.u32.wrap (x0 * 16777216)) (IntKind.u32.wrap (x1 * 65536))) (IntKind.u32.wrap (x2 * 256))) x3 := by
        simp only [word, hx0, hx1, hx2, hx3, IntKind.wrap_u32']
      have HW := Lib.hid hword
      have H0 := Lib.hid hx0
      clear hx0 hx1 hx2 hx3 hword e0 e1 e2 e3 H0
      have hwc : wr.cell? ⟨w.heap.size + 1, k, none⟩ = some (.int .u32 ((spreadA l k).getD k 0)) := by
        rw [cell_of_row _ _ _ _ _ _ hW, regv_get _ _ (by rw [spreadA_length]; omega)]
      have hwf := frozen_of_row _ _ k _ _ hW
      have s0 : IntKind.i64.wrap (4 * (k : Int)) = 4 * (k : Int) := IntWalk.i64_in _ (by omega)
      have s1 : IntKind.i64.wrap (4 * (k : Int) + 1) = 4 * (k : Int) + 1 := IntWalk.i64_in _ (by omega)
      have s2 : IntKind.i64.wrap (4 * (k : Int) + 2) = 4 * (k : Int) + 2 := IntWalk.i64_in _ (by omega)
      have s3 : IntKind.i64.wrap (4 * (k : Int) + 3) = 4 * (k : Int) + 3 := IntWalk.i64_in _ (by omega)
      have p0 : 0 ≤ 4 * (k : Int) := by omega
      have p1 : 0 ≤ 4 * (k : Int) + 1 := by omega
      have p2 : 0 ≤ 4 * (k : Int) + 2 := by omega
      have p3 : 0 ≤ 4 * (k : Int) + 3 := by omega
      have q0 : 4 * (k : Int) < 64 := by omega
      have q1 : 4 * (k : Int) + 1 < 64 := by omega
      have q2 : 4 * (k : Int) + 2 < 64 := by omega
      have q3 : 4 * (k : Int) + 3 < 64 := by omega
      have q4 : (k : Int) < 64 := by omega
      have p4 : 0 ≤ (k : Int) := by omega
      have n0 : (4 * (k : Int)).toNat = 4 * k := by omega
      have n1 : (4 * (k : Int) + 1).toNat = 4 * k + 1 := by omega
      have n2 : (4 * (k : Int) + 2).toNat = 4 * k + 2 := by omega
      have n3 : (4 * (k : Int) + 3).toNat = 4 * k + 3 := by omega
      have HS := Lib.hid hW
      have HB := Lib.hid hb
      have HZ := Lib.hid hZ
      clear hZ hW hb hc hr
      go_wp2
      go_still_tail 35, (by kernel_rfl)
      clear s0 s1 s2 s3 n0 n1 n2 n3
      go_wp2
      have hb := HB.out
      go_roundw
      case rel =>
        refine ⟨k + 1, by omega, by go_num, (heap_setCell_other _ _ _ _ (by simp)).trans HZ.out, ?_, (hb.drew).setCell (Nat.le_succ _) _⟩
        refine (heap_setCell_same _ _ _ _ _ _ HS.out).trans ?_
        rw [regv_set, spreadA, HW.out]; simp only [IntKind.wrap_u32']
      case measure => simp [intOf]; omega
    · have hge : 16 ≤ k := by omega
      rw [show k = 16 by omega] at hW
      have HW := Lib.hid hW
      have HZ := Lib.hid hZ
      have HB := Lib.hid hb
      clear hc hlt hW hZ hb
      go_wp2
      go_loopw [5] (fun i wr => ∃ k : Nat, 16 ≤ k ∧ k ≤ 64 ∧ i = .int .i64 k ∧ wr.heap[w.heap.size]? = some (.cells (regv (List.replicate 64 0)) 75 (0, 0)) ∧ wr.heap[w.heap.size + 1]? = some (.cells (regv (spreadB l (k - 16))) 75 (0, 0)) ∧ Below w.heap.size w wr)
        (fun i _ => 64 - (intOf i).toNat)
      case atStart => exact ⟨16, by omega, by omega, rfl, HZ.out, HW.out, HB.out⟩
      case round =>
        clear HZ HW HB hge hk
        obtain ⟨k, hk1, hk2, rfl, hZ, hW, hb⟩ := hrel
        by_cases hlt : k < 64
        · have hL := spreadB_length l (k - 16)
          have cel : ∀ j, j < 64 → wr.cell? ⟨w.heap.size + 1, j, none⟩ = some (.int .u32 ((spreadB l (k - 16)).getD j 0)) := fun j hj => by
            rw [cell_of_row _ _ _ _ _ _ hW, regv_get _ _ (by omega)]
          obtain ⟨x2, hx2⟩ : ∃ x, x = (spreadB l (k - 16)).getD (k - 2) 0 := ⟨_, rfl⟩
          obtain ⟨x7, hx7⟩ : ∃ x, x = (spreadB l (k - 16)).getD (k - 7) 0 := ⟨_, rfl⟩
          obtain ⟨x15, hx15⟩ : ∃ x, x = (spreadB l (k - 16)).getD (k - 15) 0 := ⟨_, rfl⟩
          obtain ⟨x16, hx16⟩ : ∃ x, x = (spreadB l (k - 16)).getD (k - 16) 0 := ⟨_, rfl⟩
          have c2 := cel (k - 2) (by omega)
          have c7 := cel (k - 7) (by omega)
          have c15 := cel (k - 15) (by omega)
          have c16 := cel (k - 16) (by omega)
          have ck := cel k (by omega)
          rw [← hx2] at c2
          rw [← hx7] at c7
          rw [← hx15] at c15
          rw [← hx16] at c16
          have hnext : nextW (spreadB l (k - 16)) k = (x16 + lowS x15 + x7 + highS x2) % 4294967296 := by
            simp only [nextW, hx2, hx7, hx15, hx16]
          have HN := Lib.hid hnext
          have hwf := frozen_of_row _ _ k _ _ hW
          have s2 : IntKind.i64.wrap ((k : Int) - 2) = (k : Int) - 2 := IntWalk.i64_in _ (by omega)
          have s7 : IntKind.i64.wrap ((k : Int) - 7) = (k : Int) - 7 := IntWalk.i64_in _ (by omega)
          have s15 : IntKind.i64.wrap ((k : Int) - 15) = (k : Int) - 15 := IntWalk.i64_in _ (by omega)
          have s16 : IntKind.i64.wrap ((k : Int) - 16) = (k : Int) - 16 := IntWalk.i64_in _ (by omega)
          have r7 : (7 : Int) ≤ k := by omega
          have r16 : (16 : Int) ≤ k := by omega
          have t7 : (k : Int) < 71 := by omega
          have t16 : (k : Int) < 80 := by omega
          have p2 : 0 ≤ (k : Int) - 2 := by omega
          have p7 : 0 ≤ (k : Int) - 7 := by omega
          have p15 : 0 ≤ (k : Int) - 15 := by omega
          have p16 : 0 ≤ (k : Int) - 16 := by omega
          have q2 : (k : Int) - 2 < 64 := by omega
          have q7 : (k : Int) - 7 < 64 := by omega
          have q15 : (k : Int) - 15 < 64 := by omega
          have q16 : (k : Int) - 16 < 64 := by omega
          have q4 : (k : Int) < 64 := by omega
          have p4 : 0 ≤ (k : Int) := by omega
          have n2 : ((k : Int) - 2).toNat = k - 2 := by omega
          have n7 : ((k : Int) - 7).toNat = k - 7 := by omega
          have n15 : ((k : Int) - 15).toNat = k - 15 := by omega
          have n16 : ((k : Int) - 16).toNat = k - 16 := by omega
          have HS := Lib.hid hW
          have HB := Lib.hid hb
          have HZ := Lib.hid hZ
          clear hZ hL hx2 hx7 hx15 hx16 hW hb hr cel hnext
          go_wp2
          go_quiet (fail)
          go_wp2_with (go_at_call 64; refine (turned_any _ _ _ (by omega) (by omega)).mono ?_; rintro e w' ⟨rfl, kt, rfl⟩)
          generalize hw2 : wr.drewN _ = w2
          have d7 : w2.cell? ⟨w.heap.size + 1, k - 7, none⟩ = some (.int .u32 x7) := by rw [← hw2]; exact c7
          have d16 : w2.cell? ⟨w.heap.size + 1, k - 16, none⟩ = some (.int .u32 x16) := by rw [← hw2]; exact c16
          have dk : w2.cell? ⟨w.heap.size + 1, k, none⟩ = some (.int .u32 ((spreadB l (k - 16)).getD k 0)) := by rw [← hw2]; exact ck
          have dwf : w2.frozen? ⟨w.heap.size + 1, k, none⟩ = false := by rw [← hw2]; exact hwf
          have HW2 := Lib.hid hw2
          clear hw2 c2 c7 c15 c16 ck hwf
          go_still_tail 15, (by kernel_rfl)
          clear s2 s7 s15 s16 n2 n7 n15 n16
          go_wp2
          have hb := HB.out
          go_roundw
          case rel =>
            have hw2 := HW2.out
            subst hw2
            refine ⟨k + 1, by omega, by omega, by go_num, (heap_setCell_other _ _ _ _ (by simp)).trans HZ.out, ?_, ((below_drewN hb _).drew).setCell (Nat.le_succ _) _⟩
            refine (heap_setCell_same _ _ _ _ _ _ HS.out).trans ?_
            have e1 : k + 1 - 16 = (k - 16) + 1 := by omega
            have e2 : k - 16 + 16 = k := by omega
            rw [regv_set, e1, spreadB, e2, HN.out]
            simp only [lowS, highS, x32]
          case measure => simp [intOf]; omega
        · have hge : 64 ≤ k := by omega
          rw [show k - 16 = 48 by omega] at hW
          obtain ⟨C, hC⟩ : ∃ C, C = regv (spreadAll l) := ⟨_, rfl⟩
          obtain ⟨Z, hZe⟩ : ∃ Z, Z = regv (List.replicate 64 0) := ⟨_, rfl⟩
          have hi : (Tryd.prog.info? 75).map (·.size) = some C.size := by
            rw [hC, regv_size, spreadAll, spreadB_length]; kernel_rfl
          have hzs : Z.size = C.size := by
            rw [hC, hZe, regv_size, regv_size, spreadAll, spreadB_length]; rfl
          have h1 : C.all (·.oneCell') = true := by rw [hC]; exact regv_one (spreadAll l)
          rw [← hZe] at hZ
          have hW' : wr.heap[w.heap.size + 1]? = some (.cells C 75 (0, 0)) := by rw [hC]; exact hW
          have HS := Lib.hid hW'
          have HZ := Lib.hid hZ
          have HB := Lib.hid hb
          have HI := Lib.hid hi
          have HT := Lib.hid hzs
          have H1 := Lib.hid h1
          have HC := Lib.hid hC
          clear hW hW' hZ hb hlt hi hzs h1 hC hZe
          go_wp2_with (first
            | ((with_reducible refine wpList_load_row rfl 75 _ rfl (w.heap.size + 1) ?_ 75 _ (0, 0) _ HS.out Tryd.underlying75 ?_ HI.out ?_); all_goals (first | ((with_reducible show _ = _); rfl) | skip))
            | ((with_reducible refine wpList_store_row rfl 75 _ _ rfl w.heap.size C ?_ ?_ 75 _ HZ.out HI.out HT.out H1.out ?_); all_goals (first | ((with_reducible show _ = _); rfl) | skip)))
          refine bodyPost_ret (v := .agg C) ?_ ?_ ?_
          · exact results_cell_row Tryd.results62 _ _ w.heap.size 75 _ (0, 0) _ rfl (setRow_heap _ _ _ _ _ _ HZ.out) Tryd.underlying75 rfl HI.out
          · rfl
          · exact ⟨by rw [HC.out], below_setRow HB.out (Nat.le_refl _) _⟩
end Go.Proofs.YtcfkpepohnjdfaaDoor

/- Arrays of numbers that lie in a block of their own; slices of bytes; small facts on both. -/
namespace Go.Proofs.YtcfkpepohnjdfaaDoor
open Go.RowKit

/-- block g is just the numbers l, of 32 bits, none frozen -/
def Row (w : World) (g : Nat) (t : TypeId) (l : List Int) : Prop := w.heap[g]? = some (.cells (regv l) t (0, 0))
theorem Row.lt {w : World} {g : Nat} {t : TypeId} {l : List Int} (h : Row w g t l) : g < w.heap.size := (Array.getElem?_eq_some_iff.1 h).1
theorem Row.cell {w : World} {g : Nat} {t : TypeId} {l : List Int} (h : Row w g t l) (i : Nat) (hi : i < l.length) : w.cell? ⟨g, i, none⟩ = some (.int .u32 (l.getD i 0)) := by
  rw [cell_of_row _ _ _ _ _ _ h, regv_get _ _ hi]
theorem Row.free {w : World} {g : Nat} {t : TypeId} {l : List Int} (h : Row w g t l) (i : Nat) : w.frozen? ⟨g, i, none⟩ = false := frozen_of_row _ _ i _ _ h
theorem Row.draw {w : World} {g : Nat} {t : TypeId} {l : List Int} (h : Row w g t l) (n : Nat) : Row (w.drewN n) g t l := h
theorem Row.draw1 {w : World} {g : Nat} {t : TypeId} {l : List Int} (h : Row w g t l) : Row w.drew g t l := h
theorem Row.put {w : World} {g : Nat} {t : TypeId} {l : List Int} (h : Row w g t l) (i : Nat) (v : Int) : Row (w.setCell ⟨g, i, none⟩ (.int .u32 v)) g t (l.set i v) :=
  (heap_setCell_same _ _ _ _ _ _ h).trans (by rw [regv_set])
theorem Row.far {w : World} {g : Nat} {t : TypeId} {l : List Int} (h : Row w g t l) {a : Addr} (ha : g ≠ a.block) (v : Value) : Row (w.setCell a v) g t l := (heap_setCell_other _ _ _ _ ha).trans h
theorem Row.more {w : World} {g : Nat} {t : TypeId} {l : List Int} (h : Row w g t l) (o : Obj) : Row (w.alloc o) g t l := (Below.heap_alloc w o g h.lt).trans h
theorem Row.below {w w' : World} {B g : Nat} {t : TypeId} {l : List Int} (h : Row w g t l) (hb : Below B w w') (hg : g < B) : Row w' g t l := (hb.block g hg).trans h
theorem Row.all {w : World} {g : Nat} {t : TypeId} {l : List Int} (h : Row w g t l) (m : List Int) : Row (w.setRow g (regv m)) g t m := setRow_heap _ _ _ _ _ _ h
theorem Row.off {w : World} {g k : Nat} {t : TypeId} {l : List Int} (h : Row w g t l) (hk : g ≠ k) (cs : Array Value) : Row (w.setRow k cs) g t l := (setRow_other w k g cs hk).trans h
theorem Row.is {w : World} {g : Nat} {t : TypeId} {l : List Int} (h : Row w g t l) : w.heap[g]? = some (.cells (regv l) t (0, 0)) := h
theorem Row.grown {w w' : World} {g : Nat} {t : TypeId} {l : List Int} {row : Option Nat} (h : Row w g t l) (hb : w.grownBy w' row) (hg : some g ≠ row) : Row w' g t l := (hb.block g h.lt hg).trans h
theorem Row.new (w : World) (t : TypeId) (l : List Int) : Row (w.alloc (.cells (regv l) t)) w.heap.size t l := heap_alloc_new w _
theorem Row.eight {w : World} {g : Nat} {t : TypeId} {x0 x1 x2 x3 x4 x5 x6 x7 : Int} (h : Row w g t [x0, x1, x2, x3, x4, x5, x6, x7]) :
    w.cell? ⟨g, 0, none⟩ = some (.int .u32 x0) ∧ w.cell? ⟨g, 1, none⟩ = some (.int .u32 x1) ∧ w.cell? ⟨g, 2, none⟩ = some (.int .u32 x2) ∧ w.cell? ⟨g, 3, none⟩ = some (.int .u32 x3) ∧
    w.cell? ⟨g, 4, none⟩ = some (.int .u32 x4) ∧ w.cell? ⟨g, 5, none⟩ = some (.int .u32 x5) ∧ w.cell? ⟨g, 6, none⟩ = some (.int .u32 x6) ∧ w.cell? ⟨g, 7, none⟩ = some (.int .u32 x7) :=
  ⟨h.cell 0 (by simp), h.cell 1 (by simp), h.cell 2 (by simp), h.cell 3 (by simp), h.cell 4 (by simp), h.cell 5 (by simp), h.cell 6 (by simp), h.cell 7 (by simp)⟩
theorem row_lit (w : World) (t : TypeId) (cs : Array Value) (l : List Int) (h : cs = regv l) : Row (w.alloc (.cells cs t)) w.heap.size t l := by
  subst h
  exact heap_alloc_new w _
/-- a whole array out of its block, and into it, whatever its numbers are -/
theorem wpList_load_r32 {P : Program} {ops : Array Oper} {rest : List Oper} {o : Oper} {a : Act} {w : World} {Q : Exit → Act → World → Prop} (hgd : o.guard = none) (ty e : TypeId) (n : Nat) (x : Operand) (ho : o.op = .load ty x)
    (g : Nat) (hx : a.eval x = .pointer (some ⟨g, 0, none⟩)) (t : TypeId) (l : List Int) (hg : Row w g t l)
    (hu : P.underlying ty = some (.array n e)) (hi : (P.info? ty).map (·.size) = some (regv l).size)
    (h : wpList P ops Q rest (a.put o.dst (.agg (regv l))) w) : wpList P ops Q (o :: rest) a w :=
  wpList_load_row hgd ty x ho g hx t (regv l) (0, 0) _ hg hu rfl hi h
theorem wpList_store_r32 {P : Program} {ops : Array Oper} {rest : List Oper} {o : Oper} {a : Act} {w : World} {Q : Exit → Act → World → Prop} (hgd : o.guard = none) (ty : TypeId) (x y : Operand) (ho : o.op = .store ty x y)
    (g : Nat) (m : List Int) (hx : a.eval x = .pointer (some ⟨g, 0, none⟩)) (hy : a.eval y = .agg (regv m)) (t : TypeId) (l : List Int) (hg : Row w g t l) (hi : (P.info? ty).map (·.size) = some (regv m).size) (hl : l.length = m.length)
    (h : ∀ w', w.grownBy w' (some g) → Row w' g t m → w'.heap.size = w.heap.size → wpList P ops Q rest (a.put o.dst undef) w') : wpList P ops Q (o :: rest) a w :=
  wpList_store_row hgd ty x y ho g (regv m) hx hy t (regv l) hg hi (by rw [regv_size, regv_size, hl]) (regv_one m) (h _ (grown_setRow _ _ _) (hg.all m) (by simp))

/-- the table of the constants lies in its block -/
def KTab (w : World) : Prop := 0 < w.heap.size ∧ ∀ j, j < 64 → w.cell? ⟨0, j, none⟩ = some (.int .u32 (kList.getD j 0))
theorem KTab.below {w w' : World} {B : Nat} (h : KTab w) (hb : Below B w w') (hB : 0 < B) : KTab w' :=
  ⟨Nat.lt_of_lt_of_le h.1 hb.size, fun j hj => (hb.cell (p := ⟨0, j, none⟩) hB).trans (h.2 j hj)⟩
theorem KTab.from {w w' : World} (h : KTab w) (hb : Below w.heap.size w w') : KTab w' := h.below hb h.1

theorem runs_length (w r : List Int) (hr : r.length = 8) (k : Nat) : (runs w r k).length = 8 := by
  induction k with
  | zero => exact hr
  | succ k ih =>
    obtain ⟨a, b, c, d, e, f, g, h8, hx⟩ := eight ih
    simp only [runs, hx, rnd]
    rfl
theorem addTo_length (x r : List Int) (k : Nat) : (addTo x r k).length = x.length := by
  induction k with
  | zero => rfl
  | succ k ih => simp [addTo, ih]
theorem rounded_length (r l : List Int) (hr : r.length = 8) : (roundedL r l).length = 8 := by
  rw [roundedL, addTo_length, runs_length _ _ hr]
end Go.Proofs.YtcfkpepohnjdfaaDoor

/- The walks over package sha's rounded (a register, rounded by a block) and roundedBy (by all whole blocks). -/
namespace Go.Proofs.YtcfkpepohnjdfaaDoor
open Go.RowKit

theorem info8 {l : List Int} (h : l.length = 8) : (Tryd.prog.info? 61).map (·.size) = some (regv l).size := by rw [regv_size, h]; kernel_rfl
theorem info64 {l : List Int} (h : l.length = 64) : (Tryd.prog.info? 75).map (·.size) = some (regv l).size := by rw [regv_size, h]; kernel_rfl
theorem spreadAll_length (l : List Int) : (spreadAll l).length = 64 := spreadB_length l 48

theorem round_lit (a b c d e f g h n : Int) (w : World) :
    Calls Tryd.prog 63 #[.agg #[.int .u32 a, .int .u32 b, .int .u32 c, .int .u32 d, .int .u32 e, .int .u32 f, .int .u32 g, .int .u32 h], .int .u32 n] w fun e' w' => e' = .returned (.agg (regv (rnd [a, b, c, d, e, f, g, h] n))) ∧ Below w.heap.size w w' :=
  round_any [a, b, c, d, e, f, g, h] n w rfl
theorem rnd_length (a b c d e f g h n : Int) : (rnd [a, b, c, d, e, f, g, h] n).length = 8 := rfl

set_option maxRecDepth 100000 in
set_option maxHeartbeats 1000000 in
theorem rounded_any (r l : List Int) (b off cap : Nat) (w : World) (hK : KTab w) (hr : r.length = 8) (hby : ∀ j, 0 ≤ l.getD j 0 ∧ l.getD j 0 < 256)
    (hc : ∀ j, j < 64 → w.cell? ⟨b, off + j, none⟩ = some (.int .u8 (l.getD j 0))) :
    Calls Tryd.prog 58 #[.agg (regv r), .slice (some ⟨b, off, none⟩) 64 cap] w fun e w' => e = .returned (.agg (regv (roundedL r l))) ∧ Below w.heap.size w w' := by
  have hbw : b < w.heap.size := block_lt_of_cell (hc 0 (by omega))
  have HR := Lib.hid hr
  obtain ⟨S, hSd⟩ : ∃ S, S = spreadAll l := ⟨_, rfl⟩
  have hSl : S.length = 64 := by rw [hSd]; exact spreadAll_length l
  have HW := Lib.hid hSl
  have HSD := Lib.hid hSd
  clear hr hSd hSl
  go_enter Tryd.func58, Tryd.ntmps58
  go_wp2_with fail
  refine (spread_any l b off cap _ hby (fun j hj => ((two_below w _ _).cell (p := ⟨b, off + j, none⟩) hbw).trans (hc j hj))).mono ?_
  rintro e w1 ⟨he, hb1⟩
  rw [← HSD.out] at he
  subst he
  obtain ⟨hB1, hz1, hR1, hO1⟩ := after_two hb1
  have hR1 : Row w1 w.heap.size 61 r := hR1
  have hO1 : Row w1 (w.heap.size + 1) 61 [0, 0, 0, 0, 0, 0, 0, 0] := hO1
  have hK1 := hK.from hB1
  clear hb1 hc
  go_wp2_with (first
    | ((with_reducible refine wpList_store_r32 rfl 75 _ _ rfl w1.heap.size S ?hx ?hy 75 (List.replicate 64 0) (row_lit w1 75 _ _ ?hz) ?hi ?hl ?hm); (case hx => rfl); (case hy => rfl); (case hz => rfl); (case hi => exact info64 HW.out); (case hl => rw [HW.out]; rfl)
       intro w2 hg2 hW2 hs2
       have hR2 : Row w2 w.heap.size 61 r := (hR1.more _).grown hg2 (ne_some (by omega))
       have hO2 : Row w2 (w.heap.size + 1) 61 [0, 0, 0, 0, 0, 0, 0, 0] := (hO1.more _).grown hg2 (ne_some (by omega))
       have hB2 : Below w.heap.size w w2 := Below.grows (hB1.alloc (by omega) _) hg2 (by simp; omega) (by omega)
       have hz2 : w1.heap.size < w2.heap.size := hW2.lt
       clear hg2 hs2 hR1 hO1)
    | ((with_reducible refine wpList_load_r32 rfl 61 60 8 _ rfl w.heap.size ?hx2 61 r hR2 Tryd.underlying61 (info8 HR.out) ?_); (case hx2 => rfl))
    | ((with_reducible refine wpList_store_r32 rfl 61 _ _ rfl w2.heap.size r ?hx3 ?hy3 61 [0, 0, 0, 0, 0, 0, 0, 0] (row_lit w2 61 _ _ ?hz3) (info8 HR.out) ?hl3 ?hm3); (case hx3 => rfl); (case hy3 => rfl); (case hz3 => rfl); (case hl3 => rw [HR.out]; rfl)
       intro w3 hg3 hX3 hs3
       have hR3 : Row w3 w.heap.size 61 r := (hR2.more _).grown hg3 (ne_some (by omega))
       have hO3 : Row w3 (w.heap.size + 1) 61 [0, 0, 0, 0, 0, 0, 0, 0] := (hO2.more _).grown hg3 (ne_some (by omega))
       have hW3 : Row w3 w1.heap.size 75 S := (hW2.more _).grown hg3 (ne_some (by omega))
       have hB3 : Below w.heap.size w w3 := Below.grows (hB2.alloc (by omega) _) hg3 (by simp; omega) (by omega)
       clear hg3 hs3 hR2 hO2 hW2))
  go_loopw [12] (fun i wr => ∃ k : Nat, k ≤ 64 ∧ i = .int .i64 k ∧ Row wr w.heap.size 61 r ∧ Row wr (w.heap.size + 1) 61 [0, 0, 0, 0, 0, 0, 0, 0] ∧ Row wr w1.heap.size 75 S ∧ Row wr w2.heap.size 61 (runs S r k) ∧ Below w.heap.size w wr)
    (fun i _ => 64 - (intOf i).toNat)
  case atStart => exact ⟨0, by omega, rfl, hR3, hO3, hW3, hX3, hB3⟩
  case round =>
    clear hB3 hX3 hW3 hO3 hR3 hK1 hB1 hB2
    obtain ⟨k, hk, rfl, hR, hO, hS, hX, hB⟩ := hrel
    have hXl := runs_length S r HR.out k
    have hw1 := hS.lt
    have hw2 := hX.lt
    by_cases hlt : k < 64
    · obtain ⟨x0, x1, x2, x3, x4, x5, x6, x7, hx⟩ := eight hXl
      have hnext : runs S r (k + 1) = rnd [x0, x1, x2, x3, x4, x5, x6, x7] ((kList.getD k 0 + S.getD k 0) % 4294967296) := by
        rw [runs, hx]
      have HN := Lib.hid hnext
      rw [hx] at hX
      obtain ⟨c0, c1, c2, c3, c4, c5, c6, c7⟩ := hX.eight
      have hKr := (hK.from hB).2 k hlt
      have hSr := hS.cell k (by rw [HW.out]; exact hlt)
      obtain ⟨kk, hkk⟩ : ∃ x, x = kList.getD k 0 := ⟨_, rfl⟩
      obtain ⟨wk, hwk⟩ : ∃ x, x = S.getD k 0 := ⟨_, rfl⟩
      rw [← hkk, ← hwk] at hnext
      rw [← hkk] at hKr
      rw [← hwk] at hSr
      have HN := Lib.hid hnext
      have p0 : 0 ≤ (k : Int) := by omega
      have q0 : (k : Int) < 64 := by omega
      clear hkk hwk hx hnext hXl
      go_wp2
      go_still_tail 8, (by kernel_rfl)
      clear c0 c1 c2 c3 c4 c5 c6 c7 hKr hSr
      go_wp2_with (first
        | (go_at_call 63; refine (round_lit _ _ _ _ _ _ _ _ _ _).mono ?_; rintro e w4 ⟨rfl, hb4⟩
           have hb4 := below_draw hb4
           have hX4 := hX.below hb4 hw2)
        | ((with_reducible refine wpList_store_r32 rfl 61 _ _ rfl w2.heap.size (rnd [x0, x1, x2, x3, x4, x5, x6, x7] ((kk + wk) % 4294967296)) ?hx5 ?hy5 61 [x0, x1, x2, x3, x4, x5, x6, x7] hX4 (info8 (rnd_length _ _ _ _ _ _ _ _ _)) ?hl5 ?hm5); (case hx5 => rfl); (case hy5 => rfl); (case hl5 => rfl)
           intro w5 hg5 hX5 hs5
           have hz5 := hb4.size))
      go_roundw
      case rel =>
        refine ⟨k + 1, by omega, by go_num, ?_, ?_, ?_, ?_, ?_⟩
        · exact (hR.below hb4 hR.lt).grown hg5 (ne_some (by omega))
        · exact (hO.below hb4 hO.lt).grown hg5 (ne_some (by omega))
        · exact (hS.below hb4 hS.lt).grown hg5 (ne_some (by omega))
        · rw [HN.out]; exact hX5
        · exact Below.grows (hB.trans (hb4.mono hB.size)) hg5 (by omega) (by omega)
      case measure => simp [intOf]; omega
    · have hge : 64 ≤ k := by omega
      rw [show k = 64 by omega] at hX
      have hk64 := runs_length S r HR.out 64
      obtain ⟨Y, hY⟩ : ∃ Y, Y = runs S r 64 := ⟨_, rfl⟩
      rw [← hY] at hX hk64
      have HY := Lib.hid hY
      have HL := Lib.hid hk64
      clear hlt hk hS hXl hk64 hY
      go_wp2
      go_loopw [25] (fun i wr => ∃ k : Nat, k ≤ 8 ∧ i = .int .i64 k ∧ Row wr w.heap.size 61 r ∧ Row wr (w.heap.size + 1) 61 [0, 0, 0, 0, 0, 0, 0, 0] ∧ Row wr w2.heap.size 61 (addTo Y r k) ∧ Below w.heap.size w wr)
        (fun i _ => 8 - (intOf i).toNat)
      case atStart => exact ⟨0, by omega, rfl, hR, hO, hX, hB⟩
      case round =>
        clear hR hO hX hB hw1 hw2 hge
        obtain ⟨k, hk, rfl, hR, hO, hX, hB⟩ := hrel
        have hXl := addTo_length Y r k
        rw [HL.out] at hXl
        have hw2 := hX.lt
        by_cases hlt : k < 8
        · have hXc := hX.cell k (by rw [hXl]; exact hlt)
          have hXf := hX.free k
          have hRc := hR.cell k (by rw [HR.out]; exact hlt)
          obtain ⟨xk, hxk⟩ : ∃ x, x = (addTo Y r k).getD k 0 := ⟨_, rfl⟩
          obtain ⟨rk, hrk⟩ : ∃ x, x = r.getD k 0 := ⟨_, rfl⟩
          have hnext : addTo Y r (k + 1) = (addTo Y r k).set k ((xk + rk) % 4294967296) := by
            rw [addTo, hxk, hrk]
          rw [← hxk] at hXc
          rw [← hrk] at hRc
          have HN := Lib.hid hnext
          have p0 : 0 ≤ (k : Int) := by omega
          have q0 : (k : Int) < 8 := by omega
          clear hxk hrk hnext hXl
          go_wp2
          go_still_tail 8, (by kernel_rfl)
          go_wp2
          go_roundw
          case rel =>
            refine ⟨k + 1, by omega, by go_num, ?_, ?_, ?_, ?_⟩
            · exact hR.draw1.far (by simp; omega) _
            · exact hO.draw1.far (by simp; omega) _
            · rw [HN.out]; exact hX.draw1.put k _
            · exact hB.drew.setCell (by simp; omega) _
          case measure => simp [intOf]; omega
        · rw [show k = 8 by omega] at hX hXl
          have hge : 8 ≤ k := by omega
          obtain ⟨Z, hZ⟩ : ∃ Z, Z = roundedL r l := ⟨_, rfl⟩
          have hZ2 : addTo Y r 8 = Z := by rw [hZ, roundedL, HY.out, HSD.out]
          rw [hZ2] at hX hXl
          have HZ := Lib.hid hZ
          have HXL := Lib.hid hXl
          clear hlt hk hXl hZ hZ2
          go_wp2_with (first
            | ((with_reducible refine wpList_load_r32 rfl 61 60 8 _ rfl w2.heap.size ?hx6 61 Z hX Tryd.underlying61 (info8 HXL.out) ?_); (case hx6 => rfl))
            | ((with_reducible refine wpList_store_r32 rfl 61 _ _ rfl (w.heap.size + 1) Z ?hx7 ?hy7 61 [0, 0, 0, 0, 0, 0, 0, 0] hO (info8 HXL.out) ?hl7 ?hm7); (case hx7 => rfl); (case hy7 => rfl); (case hl7 => rw [HXL.out]; rfl)
               intro w6 hg6 hX6 hs6))
          refine bodyPost_ret (v := .agg (regv Z)) ?_ ?_ ?_
          · exact results_cell_row Tryd.results58 _ _ (w.heap.size + 1) 61 _ (0, 0) _ rfl hX6.is Tryd.underlying61 rfl (info8 HXL.out)
          · rfl
          · exact ⟨by rw [HZ.out], Below.grows hB hg6 hB.size (by omega)⟩
end Go.Proofs.YtcfkpepohnjdfaaDoor

/- The walk over package sha's roundedBy: a register, rounded by all whole blocks of a slice. -/
namespace Go.Proofs.YtcfkpepohnjdfaaDoor
open Go.RowKit

theorem rounded_lit (x0 x1 x2 x3 x4 x5 x6 x7 : Int) (l : List Int) (b off cap : Nat) (w : World) (hK : KTab w) (hby : ∀ j, 0 ≤ l.getD j 0 ∧ l.getD j 0 < 256)
    (hc : ∀ j, j < 64 → w.cell? ⟨b, off + j, none⟩ = some (.int .u8 (l.getD j 0))) :
    Calls Tryd.prog 58 #[.agg #[.int .u32 x0, .int .u32 x1, .int .u32 x2, .int .u32 x3, .int .u32 x4, .int .u32 x5, .int .u32 x6, .int .u32 x7], .slice (some ⟨b, off, none⟩) 64 cap] w
      fun e w' => e = .returned (.agg (regv (roundedL [x0, x1, x2, x3, x4, x5, x6, x7] l))) ∧ Below w.heap.size w w' :=
  rounded_any [x0, x1, x2, x3, x4, x5, x6, x7] l b off cap w hK rfl hby hc

theorem blocks_length (r l : List Int) (hr : r.length = 8) (k : Nat) : (blocksL r l k).length = 8 := by
  induction k with
  | zero => exact hr
  | succ k ih => rw [blocksL]; exact rounded_length _ _ ih
set_option maxRecDepth 100000 in
set_option maxHeartbeats 1000000 in
theorem roundedBy_some (r l : List Int) (b off n cap : Nat) (w : World) (hK : KTab w) (hr : r.length = 8) (hB : Bts w (some ⟨b, off, none⟩) n cap l) :
    Calls Tryd.prog 53 #[.agg (regv r), .slice (some ⟨b, off, none⟩) n cap] w fun e w' => e = .returned (.agg (regv (blocksL r l (n / 64)))) ∧ Below w.heap.size w w' := by
  have HR := Lib.hid hr
  have hle := hB.le
  have hmx := hB.max
  unfold maxLen at hmx
  have HBT := Lib.hid hB
  clear hr hB
  go_enter Tryd.func53, Tryd.ntmps53
  go_wp2
  go_loopw [9] (fun i wr => ∃ k : Nat, k ≤ n / 64 ∧ i = .int .i64 k ∧ Row wr w.heap.size 61 (blocksL r l k) ∧ Row wr (w.heap.size + 1) 61 [0, 0, 0, 0, 0, 0, 0, 0] ∧ Below w.heap.size w wr)
    (fun i _ => n / 64 - (intOf i).toNat)
  case atStart => exact ⟨0, by omega, rfl, heap_alloc2_old w _ _, heap_alloc2_new w _ _, two_below w _ _⟩
  case round =>
    obtain ⟨k, hk, rfl, hX, hO, hB⟩ := hrel
    have hXl := blocks_length r l HR.out k
    by_cases hlt : (k : Int) < (n : Int) / 64
    · have hkn : 64 * k + 64 ≤ n := by omega
      have hK1 := hK.from hB
      obtain ⟨b', off', hA, hc⟩ := HBT.out.at_ (by omega)
      obtain ⟨rfl, rfl⟩ : b = b' ∧ off = off' := by
        injection hA with hA; injection hA with h1 h2 _
        exact ⟨h1, h2⟩
      have hbw : b < w.heap.size := block_lt_of_cell (hc 0 (by omega))
      have hcell : ∀ j, j < 64 → wr.cell? ⟨b, off + k * 64 + j, none⟩ = some (.int .u8 (((l.drop (64 * k)).take 64).getD j 0)) := fun j hj => by
        rw [getD_piece _ _ _ hj, Nat.add_assoc, Nat.mul_comm k 64]
        exact (hB.cell (p := ⟨b, off + (64 * k + j), none⟩) hbw).trans (hc (64 * k + j) (by omega))
      have hby := ok_piece l HBT.out.ok (64 * k) 64
      obtain ⟨m, hm⟩ : ∃ m, m = (l.drop (64 * k)).take 64 := ⟨_, rfl⟩
      rw [← hm] at hcell hby
      obtain ⟨x0, x1, x2, x3, x4, x5, x6, x7, hx⟩ := eight hXl
      have hnext : blocksL r l (k + 1) = roundedL [x0, x1, x2, x3, x4, x5, x6, x7] m := by
        rw [blocksL, hx, hm]
      rw [hx] at hX
      have hl8 : (roundedL [x0, x1, x2, x3, x4, x5, x6, x7] m).length = 8 := rounded_length _ _ rfl
      obtain ⟨R, hR⟩ : ∃ R, R = roundedL [x0, x1, x2, x3, x4, x5, x6, x7] m := ⟨_, rfl⟩
      rw [← hR] at hnext hl8
      obtain ⟨c0, c1, c2, c3, c4, c5, c6, c7⟩ := hX.eight
      have HN := Lib.hid hnext
      have HL := Lib.hid hl8
      have HRD := Lib.hid hR
      have HC := Lib.hid hcell
      have s1 : IntKind.i64.wrap ((k : Int) * 64) = (k : Int) * 64 := IntWalk.i64_in _ (by omega)
      have s2 : IntKind.i64.wrap ((k : Int) + 1) = (k : Int) + 1 := IntWalk.i64_in _ (by omega)
      have s3 : IntKind.i64.wrap (((k : Int) + 1) * 64) = ((k : Int) + 1) * 64 := IntWalk.i64_in _ (by omega)
      have n3 : (k + 1) * 64 - k * 64 = 64 := by omega
      have hcut := run_cut b off n cap (k * 64) ((k + 1) * 64) ((k : Int) * 64) (((k : Int) + 1) * 64) (by omega) (by omega) (by omega) (by omega) (by omega)
      rw [n3] at hcut
      clear hnext hl8 hR hcell hx hXl hm hc hA
      go_wp2
      go_still_tail 8, (by kernel_rfl)
      clear c0 c1 c2 c3 c4 c5 c6 c7 hcut s1 s2 s3 n3
      go_wp2_with (first
        | (go_at_call 58; refine (rounded_lit _ _ _ _ _ _ _ _ m _ _ _ _ (by exact hK1) (by exact hby) (by exact HC.out)).mono ?_; rintro e w4 ⟨he, hb4⟩
           rw [← HRD.out] at he
           subst he
           have hb4 := below_draw hb4
           have hX4 := hX.below hb4 hX.lt)
        | ((with_reducible refine wpList_store_r32 rfl 61 _ _ rfl w.heap.size R ?hx5 ?hy5 61 [x0, x1, x2, x3, x4, x5, x6, x7] hX4 (info8 HL.out) ?hl5 ?hm5); (case hx5 => rfl); (case hy5 => rfl); (case hl5 => rw [HL.out]; rfl)
           intro w5 hg5 hX5 hs5))
      go_roundw
      case rel =>
        refine ⟨k + 1, by omega, by go_num, ?_, ?_, ?_⟩
        · rw [HN.out]; exact hX5
        · exact (hO.below hb4 hO.lt).grown hg5 (ne_some (by omega))
        · exact Below.grows (hB.trans (hb4.mono hB.size)) hg5 (Nat.le_trans hB.size hb4.size) (Nat.le_refl _)
      case measure => simp [intOf]; omega
    · have hge : (n : Int) / 64 ≤ (k : Int) := by omega
      rw [show k = n / 64 by omega] at hX hXl
      obtain ⟨Z, hZ⟩ : ∃ Z, Z = blocksL r l (n / 64) := ⟨_, rfl⟩
      rw [← hZ] at hX hXl
      have HZ := Lib.hid hZ
      have HXL := Lib.hid hXl
      clear hlt hk hXl hZ
      go_wp2_with (first
        | ((with_reducible refine wpList_load_r32 rfl 61 60 8 _ rfl w.heap.size ?hx6 61 Z hX Tryd.underlying61 (info8 HXL.out) ?_); (case hx6 => rfl))
        | ((with_reducible refine wpList_store_r32 rfl 61 _ _ rfl (w.heap.size + 1) Z ?hx7 ?hy7 61 [0, 0, 0, 0, 0, 0, 0, 0] hO (info8 HXL.out) ?hl7 ?hm7); (case hx7 => rfl); (case hy7 => rfl); (case hl7 => rw [HXL.out]; rfl)
           intro w6 hg6 hX6 hs6))
      refine bodyPost_ret (v := .agg (regv Z)) ?_ ?_ ?_
      · exact results_cell_row Tryd.results53 _ _ (w.heap.size + 1) 61 _ (0, 0) _ rfl hX6.is Tryd.underlying61 rfl (info8 HXL.out)
      · rfl
      · exact ⟨by rw [HZ.out], Below.grows hB hg6 hB.size (by omega)⟩

set_option maxRecDepth 100000 in
set_option maxHeartbeats 1000000 in
/-- fewer than 64 bytes: no block -/
theorem roundedBy_few (r : List Int) (A : Option Addr) (n cap : Nat) (w : World) (hr : r.length = 8) (hn : n < 64) :
    Calls Tryd.prog 53 #[.agg (regv r), .slice A n cap] w fun e w' => e = .returned (.agg (regv r)) ∧ Below w.heap.size w w' := by
  have HR := Lib.hid hr
  have hq : (n : Int) / 64 = 0 := by omega
  clear hr
  go_enter Tryd.func53, Tryd.ntmps53
  go_wp2
  refine wp_loop_rounds 1 ?_
  rw [rounds_succ]
  have hX : ∀ o, Row ((w.alloc (.cells (regv r) 61)).alloc o) w.heap.size 61 r := fun o => heap_alloc2_old w _ _
  go_wp2_with (first
    | ((with_reducible refine wpList_load_r32 rfl 61 60 8 _ rfl w.heap.size ?hx6 61 r (hX _) Tryd.underlying61 (info8 HR.out) ?_); (case hx6 => rfl))
    | ((with_reducible refine wpList_store_r32 rfl 61 _ _ rfl (w.heap.size + 1) r ?hx7 ?hy7 61 [0, 0, 0, 0, 0, 0, 0, 0] ?hO (info8 HR.out) ?hl7 ?hm7); (case hx7 => rfl); (case hy7 => rfl); (case hO => exact heap_alloc2_new w _ _); (case hl7 => rw [HR.out]; rfl)
       intro w6 hg6 hX6 hs6))
  refine bodyPost_ret (v := .agg (regv r)) ?_ ?_ ?_
  · exact results_cell_row Tryd.results53 _ _ (w.heap.size + 1) 61 _ (0, 0) _ rfl hX6.is Tryd.underlying61 rfl (info8 HR.out)
  · rfl
  · exact ⟨rfl, Below.grows (two_below w _ _) hg6 (by simp; omega) (by omega)⟩

/-- whatever the slice is -/
theorem roundedBy_any (r l : List Int) (A : Option Addr) (n cap : Nat) (w : World) (hK : KTab w) (hr : r.length = 8) (hB : Bts w A n cap l) :
    Calls Tryd.prog 53 #[.agg (regv r), .slice A n cap] w fun e w' => e = .returned (.agg (regv (byBlocks r l))) ∧ Below w.heap.size w w' := by
  by_cases hn : n < 64
  · have h0 : byBlocks r l = r := by
      rw [byBlocks, hB.len, show n / 64 = 0 by omega]; rfl
    rw [h0]
    exact roundedBy_few r A n cap w hr hn
  · obtain ⟨b, off, rfl, _⟩ := hB.at_ (by omega)
    rw [byBlocks, hB.len]
    exact roundedBy_some r l b off n cap w hK hr hB
end Go.Proofs.YtcfkpepohnjdfaaDoor
