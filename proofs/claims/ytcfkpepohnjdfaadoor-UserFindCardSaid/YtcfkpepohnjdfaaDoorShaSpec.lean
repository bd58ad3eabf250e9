/- Sums of bytes (SHA-256) as functions of lists: what the walks over package sha, and over the plain answers of the document, come to; and that both are the same. -/
import GoSem.Claim
import Derived.KernelRfl
import Derived.Laws.BitsAllLaws
namespace Go.Proofs.YtcfkpepohnjdfaaDoor
open Go

/-- a number of 32 bits, turned -/
def rot (x n : Int) : Int := bits .or .u32 (x / 2 ^ n.toNat) (x * 2 ^ (32 - n).toNat % 4294967296)
def x32 (a b : Int) : Int := bits .xor .u32 a b
def a32 (a b : Int) : Int := bits .and .u32 a b

def bigE (e : Int) : Int := x32 (x32 (rot e 6) (rot e 11)) (rot e 25)
def bigA (a : Int) : Int := x32 (x32 (rot a 2) (rot a 13)) (rot a 22)
def chE (e f g : Int) : Int := x32 (a32 e f) (a32 (x32 IntKind.u32.max e) g)
def majA (a b c : Int) : Int := x32 (x32 (a32 a b) (a32 a c)) (a32 b c)
def lowS (x : Int) : Int := x32 (x32 (rot x 7) (rot x 18)) (x / 8)
def highS (y : Int) : Int := x32 (x32 (rot y 17) (rot y 19)) (y / 1024)

/-- one round -/
def rnd (r : List Int) (n : Int) : List Int :=
  match r with
  | [a, b, c, d, e, f, g, h] => [(h + bigE e + chE e f g + n + (bigA a + majA a b c)) % 4294967296, a, b, c, (d + (h + bigE e + chE e f g + n)) % 4294967296, e, f, g]
  | _ => r

def kList : List Int := [1116352408, 1899447441, 3049323471, 3921009573, 961987163, 1508970993, 2453635748, 2870763221, 3624381080, 310598401, 607225278, 1426881987, 1925078388, 2162078206, 2614888103, 3248222580, 3835390401, 4022224774, 264347078, 604807628, 770255983, 1249150122, 1555081692, 1996064986, 2554220882, 2821834349, 2952996808, 3210313671, 3336571891, 3584528711, 113926993, 338241895, 666307205, 773529912, 1294757372, 1396182291, 1695183700, 1986661051, 2177026350, 2456956037, 2730485921, 2820302411, 3259730800, 3345764771, 3516065817, 3600352804, 4094571909, 275423344, 430227734, 506948616, 659060556, 883997877, 958139571, 1322822218, 1537002063, 1747873779, 1955562222, 2024104815, 2227730452, 2361852424, 2428436474, 2756734187, 3204031479, 3329325298]
def iList : List Int := [1779033703, 3144134277, 1013904242, 2773480762, 1359893119, 2600822924, 528734635, 1541459225]

/-- the i-th number of a block -/
def word (l : List Int) (i : Nat) : Int :=
  bits .or .u32 (bits .or .u32 (bits .or .u32 (l.getD (4 * i) 0 * 16777216 % 4294967296) (l.getD (4 * i + 1) 0 * 65536 % 4294967296)) (l.getD (4 * i + 2) 0 * 256 % 4294967296)) (l.getD (4 * i + 3) 0)
def spreadA (l : List Int) : Nat → List Int
  | 0 => List.replicate 64 0
  | k + 1 => (spreadA l k).set k (word l k)
def nextW (w : List Int) (i : Nat) : Int :=
  (w.getD (i - 16) 0 + lowS (w.getD (i - 15) 0) + w.getD (i - 7) 0 + highS (w.getD (i - 2) 0)) % 4294967296
def spreadB (l : List Int) : Nat → List Int
  | 0 => spreadA l 16
  | k + 1 => (spreadB l k).set (k + 16) (nextW (spreadB l k) (k + 16))
def spreadAll (l : List Int) : List Int := spreadB l 48

def runs (w : List Int) (r : List Int) : Nat → List Int
  | 0 => r
  | k + 1 => rnd (runs w r k) ((kList.getD k 0 + w.getD k 0) % 4294967296)
def addTo (x r : List Int) : Nat → List Int
  | 0 => x
  | k + 1 => (addTo x r k).set k (((addTo x r k).getD k 0 + r.getD k 0) % 4294967296)
/-- a register, rounded by a block -/
def roundedL (r l : List Int) : List Int := addTo (runs (spreadAll l) r 64) r 8
/-- .. by the first k blocks -/
def blocksL (r l : List Int) : Nat → List Int
  | 0 => r
  | k + 1 => roundedL (blocksL r l k) ((l.drop (64 * k)).take 64)
def byBlocks (r l : List Int) : List Int := blocksL r l (l.length / 64)

/-- how many noughts stand behind the byte 128 -/
def noughts (n : Nat) : Nat := (64 - (n + 9) % 64) % 64
def bits8 (n : Nat) (i : Nat) : Int := ((8 * n : Nat) : Int) / 2 ^ (56 - 8 * i) % 256
def endingL (n : Nat) : List Int := [128] ++ List.replicate (noughts n) 0 ++ (List.range 8).map (bits8 n)
def speltAt (r : List Int) (i : Nat) : Int := r.getD (i / 4) 0 / 2 ^ (24 - 8 * (i % 4)) % 256
def speltL (r : List Int) : List Int := (List.range 32).map (speltAt r)
def endL (r rest : List Int) (n : Nat) : List Int := speltL (byBlocks r (rest ++ endingL n))
def sumL (l : List Int) : List Int := endL (byBlocks iList (l.take (l.length / 64 * 64))) (l.drop (l.length / 64 * 64)) l.length

theorem abc_first : ((sumL [97, 98, 99]).getD 0 0, (sumL [97, 98, 99]).getD 1 0, (sumL [97, 98, 99]).getD 2 0, (sumL [97, 98, 99]).getD 3 0) = (186, 120, 22, 191) := by decide +kernel
theorem none_first : ((sumL []).getD 0 0, (sumL []).getD 3 0) = (227, 66) := by decide +kernel
end Go.Proofs.YtcfkpepohnjdfaaDoor
