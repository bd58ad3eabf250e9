/- The walk over the plain answers' Same, of two states that are the same. -/
import Derived.Test.YtomfnnhdihbpfaaDoorShaAwake
import Derived.Test.YtomfnnhdihbpfaaDoorShaEq
import Derived.Test.YtomfnnhdihbpfaaDoorShaStr
namespace Go.Proofs.YtomfnnhdihbpfaaDoor
open Go.RowKit

set_option maxHeartbeats 400000 in
theorem same_yes (x0 x1 x2 x3 x4 x5 x6 x7 len : Int) (A B : Option Addr) (n c m d : Nat) (l : List Int) (w : World) (ha : Bts w A n c l) (hb : Bts w B m d l) :
    Calls Tryd.prog 18 #[hashV x0 x1 x2 x3 x4 x5 x6 x7 A n c len, hashV x0 x1 x2 x3 x4 x5 x6 x7 B m d len] w fun e w' => e = .returned (.bool true) ∧ Below w.heap.size w w' := by
  obtain ⟨s, hs⟩ : ∃ s, s = bstr l := ⟨_, rfl⟩
  have k1 : ∀ o1 o2, (convert 24 9 (.slice A n c)).run Tryd.prog ((w.alloc o1).alloc o2) = .ok (.string s) ((w.alloc o1).alloc o2) := fun o1 o2 => by rw [hs]; exact conv_bts ((ha.more o1).more o2)
  have k2 : ∀ o1 o2, (convert 24 9 (.slice B m d)).run Tryd.prog ((w.alloc o1).alloc o2) = .ok (.string s) ((w.alloc o1).alloc o2) := fun o1 o2 => by rw [hs]; exact conv_bts ((hb.more o1).more o2)
  have heq := eq8
  clear hs
  go_enter Tryd.func18, Tryd.ntmps18
  go_wp2
  go_ret
  exact ⟨rfl, two_below w _ _⟩
end Go.Proofs.YtomfnnhdihbpfaaDoor
