/- The walk over the laws' awake (the chapter's example). -/
import Derived.Test.YtcpeaeefphgbaaaKnwTag
namespace Go.Proofs.Ytcpeaeefphgbaaa
set_option linter.unusedVariables false
set_option linter.unusedSimpArgs false
open Go.RowKit

theorem light_small {t : Te} {most deep : Nat} (h : lightB t most deep = true) : t.size ≤ most ∧ t.depth ≤ deep := by
  unfold lightB at h
  rw [decide_eq_true_eq] at h
  exact ⟨h.2, h.1⟩
theorem sames_refl (l : List Te) : Te.sames l l = true := by
  have h := Te.same_refl (.node 0 0 l)
  rwa [same_yes] at h
def exT (n : Int) : Te := .node 3 0 [.node 1 1 [], .node 0 n []]
theorem ex_may : mayL [exT 5] = true := by decide +kernel
theorem ex_lacks : lacking [exT 5] (exT 6) = [.node 1 1 []] := by rfl
theorem ex_yes : makes [exT 5] (exT 5) = true := by decide +kernel
theorem ex_no : makes [exT 5] (exT 6) = false := by decide +kernel
theorem ex_word : makes [exT 5] (.node 0 9 []) = true := by decide +kernel
theorem ex_parts : partsOf [exT 5] = [exT 5] := by rfl
theorem ex_same : Te.sames [exT 5] [exT 5] = true := by decide +kernel
set_option maxRecDepth 100000 in
set_option maxHeartbeats 8000000 in
theorem kawake_any (w : World) : Calls Try.prog 10 #[] w (GivesB true w) := by
  go_enter Try.func10, Try.ntmps10
  go_wp2_with (first
    | (go_at_call 26
       have hc := key_any 1 w
       (with_reducible refine hc.mono ?_)
       rintro e w1 ⟨rfl, hb1⟩
       clear hc)
    | (go_at_call 27
       have hc := word_any 5 w1
       (with_reducible refine hc.mono ?_)
       rintro e w2 ⟨rfl, hb2⟩
       have h2 : Below w.heap.size w w2 := hb1.trans (hb2.mono hb1.size)
       clear hc)
    | (go_at_call 24
       have hc := tag_any (fun _ => True) (fun _ => True) (.node 1 1 []) (.node 0 5 []) 1 1 0 5 none none 0 0 0 0 w2 (is_leaf _ _ 1 1) (is_leaf _ _ 0 5)
       (with_reducible refine hc.mono ?_)
       rintro e w3 ⟨A3, rfl, hI3, hb3⟩
       have ho := one_alloc w3 (.cells #[.int .i64 3, .int .i64 0, .slice A3 2 2] 24)
       have HL := Lib.hid (one_is hI3)
       have HT := Lib.hid (hI3.later ho)
       have h3 := h2.trans (hb3.mono h2.size)
       have H4 := Lib.hid (h3.trans (ho.mono h3.size))
       obtain ⟨W, hW⟩ : ∃ W, w3.alloc (.cells #[.int .i64 3, .int .i64 0, .slice A3 2 2] 24) = W := ⟨_, rfl⟩
       have hcup := Cup.new w3 3 0 A3 2 2
       rw [hW] at HL HT H4 hcup
       have HC := Lib.hid hcup
       have HW := Lib.hid hW
       obtain ⟨g, hg⟩ : ∃ g, w3.heap.size = g := ⟨_, rfl⟩
       have HGS := Lib.hid hg
       clear hb1 hb2 h2 hI3 hb3 ho h3 hW hcup hg
       clear hc)
    | (go_at_call 26
       have hc := key_any 1 W
       rw [HW.out]
       (with_reducible refine hc.mono ?_)
       rintro e w5 ⟨rfl, hb5⟩
       have hB5 : Below W.heap.size W w5 := hb5
       clear hb5
       clear hc)
    | (go_at_call 27
       have hc := word_any 6 w5
       (with_reducible refine hc.mono ?_)
       rintro e w6 ⟨rfl, hb6⟩
       have hB6 : Below W.heap.size W w6 := hB5.trans (hb6.mono hB5.size)
       clear hb6
       clear hc)
    | (go_at_call 24
       have hc := tag_any (fun _ => True) (fun _ => True) (.node 1 1 []) (.node 0 6 []) 1 1 0 6 none none 0 0 0 0 w6 (is_leaf _ _ 1 1) (is_leaf _ _ 0 6)
       (with_reducible refine hc.mono ?_)
       rintro e w7 ⟨A7, rfl, hI7, hb7⟩
       have hB7 : Below W.heap.size W w7 := hB6.trans (hb7.mono hB6.size)
       have HI7 := Lib.hid hI7
       clear hI7
       clear hb7
       clear hc)
    | (go_at_call 16
       have hc := klacks_any _ _ [exT 5] (exT 6) (some ⟨w3.heap.size, 0, none⟩) 1 1 3 0 A7 2 2 w7 (HL.out.later hB7) HI7.out
       (with_reducible refine hc.mono ?_)
       rintro e w8 ⟨A8, m8, c8, rfl, hI8, hb8⟩
       have hB8 : Below W.heap.size W w8 := hB7.trans (hb8.mono hB7.size)
       rw [ex_lacks] at hI8
       have hm8 := hI8.len.1
       simp only [List.length_singleton] at hm8
       obtain rfl := hm8.symm
       have HI8 := Lib.hid hI8
       clear hI8
       clear hb8
       clear hc)
    | (go_at_call 20
       have hc := kmay_any _ [exT 5] (some ⟨w3.heap.size, 0, none⟩) 1 1 w8 (HL.out.later hB8)
       rw [ex_may] at hc
       (with_reducible refine hc.mono ?_)
       rintro e w9 ⟨rfl, hb9⟩
       have hB9 : Below W.heap.size W w9 := hB8.trans (hb9.mono hB8.size)
       obtain ⟨z0, z1, z2⟩ := (HC.out.below hB9).cells
       have HI8a := Lib.hid (HI8.out.later hb9)
       clear hb9
       clear hc)
    | (go_at_call 21
       have hc := kmakes_any _ _ [exT 5] (exT 5) (some ⟨w3.heap.size, 0, none⟩) 1 1 3 0 A3 2 2 w9 (HL.out.later hB9) (HT.out.later hB9)
       rw [ex_yes] at hc
       (with_reducible refine hc.mono ?_)
       rintro e w10 ⟨rfl, hb10⟩
       have hB10 : Below W.heap.size W w10 := hB9.trans (hb10.mono hB9.size)
       have HI8b := Lib.hid (HI8a.out.later hb10)
       clear z0 z1 z2
       clear hb10
       clear hc)
    | (go_at_call 26
       have hc := key_any 1 w10
       (with_reducible refine hc.mono ?_)
       rintro e w11 ⟨rfl, hb11⟩
       have hB11 : Below W.heap.size W w11 := hB10.trans (hb11.mono hB10.size)
       have HI8c := Lib.hid (HI8b.out.later hb11)
       clear hb11
       clear hc)
    | (go_at_call 27
       have hc := word_any 6 w11
       (with_reducible refine hc.mono ?_)
       rintro e w12 ⟨rfl, hb12⟩
       have hB12 : Below W.heap.size W w12 := hB11.trans (hb12.mono hB11.size)
       have HI8d := Lib.hid (HI8c.out.later hb12)
       clear hb12
       clear hc)
    | (go_at_call 24
       have hc := tag_any (fun _ => True) (fun _ => True) (.node 1 1 []) (.node 0 6 []) 1 1 0 6 none none 0 0 0 0 w12 (is_leaf _ _ 1 1) (is_leaf _ _ 0 6)
       (with_reducible refine hc.mono ?_)
       rintro e w13 ⟨A13, rfl, hI13, hb13⟩
       have hB13 : Below W.heap.size W w13 := hB12.trans (hb13.mono hB12.size)
       have HI13 := Lib.hid hI13
       have HI8e := Lib.hid (HI8d.out.later hb13)
       clear hI13
       clear hb13
       clear hc)
    | (go_at_call 21
       have hc := kmakes_any _ _ [exT 5] (exT 6) (some ⟨w3.heap.size, 0, none⟩) 1 1 3 0 A13 2 2 w13 (HL.out.later hB13) HI13.out
       rw [ex_no] at hc
       (with_reducible refine hc.mono ?_)
       rintro e w14 ⟨rfl, hb14⟩
       have hB14 : Below W.heap.size W w14 := hB13.trans (hb14.mono hB13.size)
       have HI8f := Lib.hid (HI8e.out.later hb14)
       clear hb14
       clear hc)
    | (go_at_call 27
       have hc := word_any 9 w14
       (with_reducible refine hc.mono ?_)
       rintro e w15 ⟨rfl, hb15⟩
       have hB15 : Below W.heap.size W w15 := hB14.trans (hb15.mono hB14.size)
       have HI8g := Lib.hid (HI8f.out.later hb15)
       clear hb15
       clear hc)
    | (go_at_call 21
       have hc := kmakes_any _ _ [exT 5] (.node 0 9 []) (some ⟨w3.heap.size, 0, none⟩) 1 1 0 9 none 0 0 w15 (HL.out.later hB15) (is_leaf (fun _ => True) _ 0 9)
       rw [ex_word] at hc
       (with_reducible refine hc.mono ?_)
       rintro e w16 ⟨rfl, hb16⟩
       have hB16 : Below W.heap.size W w16 := hB15.trans (hb16.mono hB15.size)
       have hI8h := HI8g.out.later hb16
       obtain ⟨b8, o8, k8, n8, Aa8, ma8, ca8, rfl, hK8, s0, s1, s2⟩ := hI8h.at_ (Below.refl _ _) 0 (by omega) (by simp)
       obtain ⟨-, hk8, -, -⟩ := hK8.len
       obtain rfl := hk8.symm
       have s0' : w16.cell? ⟨b8, o8, none⟩ = some (.int .i64 1) := by simpa using s0
       clear s0 s1 s2 hK8 hI8h
       clear hb16
       clear hc)
    | (go_at_call 14
       have hc := kparts_any _ [exT 5] (some ⟨w3.heap.size, 0, none⟩) 1 1 w16 (HL.out.later hB16)
       (with_reducible refine hc.mono ?_)
       rintro e w17 ⟨A17, m17, c17, rfl, hI17, hb17⟩
       have hB17 : Below W.heap.size W w17 := hB16.trans (hb17.mono hB16.size)
       rw [ex_parts] at hI17
       have hm17 := hI17.len.1
       simp only [List.length_singleton] at hm17
       obtain rfl := hm17.symm
       clear hI17
       clear hb17
       clear hc)
    | (go_at_call 22
       have hc := ksame_any _ _ [exT 5] [exT 5] (some ⟨w3.heap.size, 0, none⟩) 1 1 (some ⟨w3.heap.size, 0, none⟩) 1 1 w17 (HL.out.later hB17) (HL.out.later hB17)
       rw [ex_same] at hc
       (with_reducible refine hc.mono ?_)
       rintro e w18 ⟨rfl, hb18⟩
       have hB18 : Below W.heap.size W w18 := hB17.trans (hb18.mono hB17.size)
       clear hb18
       clear hc))
  go_ret
  exact ⟨rfl, H4.out.trans (hB18.mono H4.out.size)⟩
end Go.Proofs.Ytcpeaeefphgbaaa
