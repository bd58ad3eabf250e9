/- Tags by a key (HMAC-SHA256), as functions of lists of bytes. -/
import Derived.Test.YtcfkpepohnjdfaaDoorShaSpec
namespace Go.Proofs.YtcfkpepohnjdfaaDoor
open Go

/-- a key, or its sum where it is longer than a block -/
def keyL (key : List Int) : List Int := if 64 < key.length then sumL key else key
/-- noughts behind, up to a block -/
def padK (k : List Int) : List Int := k ++ List.replicate (64 - k.length) 0
def blockL (key : List Int) : List Int := padK (keyL key)
def xorAt (x : Int) (l : List Int) (i : Nat) : Int := bits .xor .u8 (l.getD i 0) x
def xorL (x : Int) (l : List Int) : List Int := (List.range 64).map (xorAt x l)
def innerL (key b : List Int) : List Int := sumL (xorL 54 (blockL key) ++ b)
def tagL (key b : List Int) : List Int := sumL (xorL 92 (blockL key) ++ innerL key b)
/-- the text that a key is made of -/
def labelL (label ctx : List Int) : List Int := ([(label.length : Int)] ++ label) ++ ctx

def jefe : List Int := [74, 101, 102, 101]
def whatDo : List Int := [119, 104, 97, 116, 32, 100, 111, 32, 121, 97, 32, 119, 97, 110, 116, 32, 102, 111, 114, 32, 110, 111, 116, 104, 105, 110, 103, 63]
theorem jefe_first : ((tagL jefe whatDo).getD 0 0, (tagL jefe whatDo).getD 1 0, (tagL jefe whatDo).getD 2 0, (tagL jefe whatDo).getD 3 0) = (91, 220, 193, 70) := by decide +kernel
end Go.Proofs.YtcfkpepohnjdfaaDoor
