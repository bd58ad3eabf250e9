/- Package store's calls, at stores given by their parts. -/
import Derived.Test.YtoohcpckdkbngaaStoPure
import Derived.Test.YtoohcpckdkbngaaStoRefW
import Derived.Test.YtoohcpckdkbngaaStoNew
namespace Go.Proofs.Ytoohcpckdkbngaa
set_option linter.unusedVariables false
set_option linter.unusedSimpArgs false
open Go.RowKit

section
variable (cap : Int) (data : List Int) (sure : Int) (A : Option Addr) (n c : Nat) (w : World)
theorem stsame_at (cap2 : Int) (data2 : List Int) (sure2 : Int) (B : Option Addr) (m d : Nat) (ha : Bts w A n c data) (hb : Bts w B m d data2) :
    Calls Try.prog 24 #[.agg #[.int .i64 cap, .slice A n c, .int .i64 sure], .agg #[.int .i64 cap2, .slice B m d, .int .i64 sure2]] w (GBool (sameP ⟨cap, data, sure⟩ ⟨cap2, data2, sure2⟩) w) := stsame_any ⟨cap, data, sure⟩ ⟨cap2, data2, sure2⟩ A B n c m d w ha hb
theorem rstsame_at (cap2 : Int) (data2 : List Int) (sure2 : Int) (B : Option Addr) (m d : Nat) (ha : Bts w A n c data) (hb : Bts w B m d data2) :
    Calls Try.prog 19 #[.agg #[.int .i64 cap, .slice A n c, .int .i64 sure], .agg #[.int .i64 cap2, .slice B m d, .int .i64 sure2]] w (GBool (sameP ⟨cap, data, sure⟩ ⟨cap2, data2, sure2⟩) w) := rstsame_any ⟨cap, data, sure⟩ ⟨cap2, data2, sure2⟩ A B n c m d w ha hb
theorem stwrite_at (b : List Int) (B : Option Addr) (m d : Nat) (hb : Bts w A n c data) (hs : n ≤ 140737488355328) (h2 : Bts w B m d b) :
    Calls Try.prog 11 #[.agg #[.int .i64 cap, .slice A n c, .int .i64 sure], .slice B m d] w (GSE (writeP ⟨cap, data, sure⟩ b) A n w) := stwrite_any ⟨cap, data, sure⟩ b A B n c m d w hb hs h2
theorem stsync_at (hb : Bts w A n c data) (hs : n ≤ 140737488355328) :
    Calls Try.prog 13 #[.agg #[.int .i64 cap, .slice A n c, .int .i64 sure]] w (GSE (syncP ⟨cap, data, sure⟩) A n w) := stsync_any ⟨cap, data, sure⟩ A n c w hb hs
theorem stcut_at (k : Int) (hb : Bts w A n c data) (hs : n ≤ 140737488355328) :
    Calls Try.prog 15 #[.agg #[.int .i64 cap, .slice A n c, .int .i64 sure], .int .i64 k] w (GSE (cutP ⟨cap, data, sure⟩ k) A n w) := stcut_any ⟨cap, data, sure⟩ k A n c w hb hs
theorem stcrash_at (k : Int) (hb : Bts w A n c data) (hs : n ≤ 140737488355328) :
    Calls Try.prog 20 #[.agg #[.int .i64 cap, .slice A n c, .int .i64 sure], .int .i64 k] w (GS (crashP ⟨cap, data, sure⟩ k) A n w) := stcrash_any ⟨cap, data, sure⟩ k A n c w hb hs
theorem rstwrite_at (b : List Int) (B : Option Addr) (m d : Nat) (hb : Bts w A n c data) (h2 : Bts w B m d b) :
    Calls Try.prog 12 #[.agg #[.int .i64 cap, .slice A n c, .int .i64 sure], .slice B m d] w (GSE (writeP ⟨cap, data, sure⟩ b) A n w) := rwrite_any ⟨cap, data, sure⟩ b A B n c m d w hb h2
theorem rstsync_at (hb : Bts w A n c data) :
    Calls Try.prog 14 #[.agg #[.int .i64 cap, .slice A n c, .int .i64 sure]] w (GSE (syncP ⟨cap, data, sure⟩) A n w) := rsync_any ⟨cap, data, sure⟩ A n c w hb
theorem rstcut_at (k : Int) (hb : Bts w A n c data) :
    Calls Try.prog 16 #[.agg #[.int .i64 cap, .slice A n c, .int .i64 sure], .int .i64 k] w (GSE (cutP ⟨cap, data, sure⟩ k) A n w) := rcut_any ⟨cap, data, sure⟩ A n c k w hb
theorem rstcrash_at (k : Int) (hb : Bts w A n c data) :
    Calls Try.prog 21 #[.agg #[.int .i64 cap, .slice A n c, .int .i64 sure], .int .i64 k] w (GS (crashP ⟨cap, data, sure⟩ k) A n w) := rcrash_any ⟨cap, data, sure⟩ A n c k w hb
end
end Go.Proofs.Ytoohcpckdkbngaa
