/- Bytes, turned into text: string(b), and two texts together. -/
import Derived.Test.YtomfnnhdihbpfaaDoorShaTop
import Derived.Laws.BytesString
import Derived.Laws.Concat
namespace Go.Proofs.YtomfnnhdihbpfaaDoor
open Go.RowKit

def bstr (l : List Int) : ByteArray := ⟨(l.map fun n => UInt8.ofNat n.toNat).toArray⟩
theorem foldl_push (l : List Int) (x : List UInt8) : l.foldl (fun (r : ByteArray) n => r.push (UInt8.ofNat n.toNat)) ⟨x.toArray⟩ = ⟨(x ++ l.map fun n => UInt8.ofNat n.toNat).toArray⟩ := by
  induction l generalizing x with
  | nil => simp
  | cons a l ih =>
    rw [List.foldl_cons]
    have e : (⟨x.toArray⟩ : ByteArray).push (UInt8.ofNat a.toNat) = ⟨(x ++ [UInt8.ofNat a.toNat]).toArray⟩ := by
      show (⟨x.toArray.push _⟩ : ByteArray) = _
      simp
    rw [e, ih]
    simp
theorem conv_bts {w : World} {A : Option Addr} {n c : Nat} {l : List Int} (h : Bts w A n c l) : (convert 24 9 (.slice A n c)).run Tryd.prog w = .ok (.string (bstr l)) w := by
  rw [run_convert_bytes_string w 24 9 5 A n c Tryd.underlying24 Tryd.underlying5 Tryd.underlying9]
  rcases A with _ | a
  · have h0 := h.bare rfl
    have hn : n = 0 := by have := h.le; omega
    subst hn
    obtain rfl : l = [] := List.eq_nil_of_length_eq_zero h.len
    simp [Conv.bytesToString, bstr]
    rfl
  · have hl : (loadCells a n).run Tryd.prog w = .ok (l.map (Value.int .u8)).toArray w := by
      have := run_loadCells_list (P := Tryd.prog) w a (byv l) (fun j v hv => by
        have hj : j < l.length := by
          have := (List.getElem?_eq_some_iff.1 hv).1
          rwa [byv_length] at this
        rw [byv_get l j hj] at hv
        obtain ⟨b, off, hA, hc⟩ := h.at_ (by have := h.len; omega)
        injection hA with hA
        subst hA
        have hadd : (⟨b, off, none⟩ : Addr).add j = ⟨b, off + j, none⟩ := by
          unfold Addr.add
          split
          · rename_i h0; subst h0; rfl
          · rfl
        rw [hadd, hc j (by have := h.len; omega), hv])
      rw [byv_length, h.len] at this
      exact this
    rw [run_bytesToString w a n c l hl]
    have := foldl_push l []
    simp only [List.nil_append] at this
    show Result.ok (Value.string (l.foldl _ (⟨([] : List UInt8).toArray⟩ : ByteArray))) w = _
    rw [this]
    rfl
theorem add_bstr (l m : List Int) (hl : l.length ≤ 8388608) (hm : m.length ≤ 8388608) (w : World) : (Op.stringOp .add (bstr l) (bstr m)).run Tryd.prog w = .ok (.string (bstr (l ++ m))) w := by
  have := run_string_add_lists (P := Tryd.prog) w (l.map fun n => UInt8.ofNat n.toNat) (m.map fun n => UInt8.ofNat n.toNat) (by simp; omega) (by simp; omega)
  unfold bstr
  rw [this, List.map_append]
/-- two texts are the same just if the bytes are -/
theorem bstr_inj {l m : List Int} (hl : ∀ j, 0 ≤ l.getD j 0 ∧ l.getD j 0 < 256) (hm : ∀ j, 0 ≤ m.getD j 0 ∧ m.getD j 0 < 256) (h : (bstr l).toList = (bstr m).toList) : l = m := by
  have hd : (bstr l).data = (bstr m).data := by
    have e : ∀ b : ByteArray, b.toList = b.data.toList := fun b => by
      rcases b with ⟨⟨d⟩⟩
      simp
    rw [e, e] at h
    exact Array.ext' h
  have h2 : (l.map fun n => UInt8.ofNat n.toNat) = (m.map fun n => UInt8.ofNat n.toNat) := by
    have := congrArg Array.toList hd
    simpa [bstr] using this
  have hlen : l.length = m.length := by simpa using congrArg List.length h2
  apply List.ext_getElem hlen
  intro i h1 h3
  have hi := congrArg (fun x => x[i]?) h2
  simp only [List.getElem?_map, List.getElem?_eq_getElem h1, List.getElem?_eq_getElem h3, Option.map_some, Option.some.injEq] at hi
  have a := hl i
  have b := hm i
  simp only [List.getD_eq_getElem?_getD, List.getElem?_eq_getElem h1, List.getElem?_eq_getElem h3, Option.getD_some] at a b
  have := congrArg UInt8.toNat hi
  simp only [UInt8.toNat_ofNat'] at this
  omega
end Go.Proofs.YtomfnnhdihbpfaaDoor
