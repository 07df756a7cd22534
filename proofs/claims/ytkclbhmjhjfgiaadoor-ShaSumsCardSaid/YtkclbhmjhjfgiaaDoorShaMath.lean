/- Plain facts on SHA-256 (FIPS 180-4) over lists of bytes. Nothing here speaks of one program. -/
import Derived.Test.YtkclbhmjhjfgiaaDoorCrcMath
import Derived.Test.YtkclbhmjhjfgiaaDoorNums
namespace Go.Proofs.YtkclbhmjhjfgiaaDoor.Sm
open Cm Nm

/-- To the right, what falls out comes in again. -/
def ror (x : BitVec 32) (n : Nat) : BitVec 32 := (x >>> n) ||| (x <<< (32 - n))
def ks : List (BitVec 32) := [0x428a2f98, 0x71374491, 0xb5c0fbcf, 0xe9b5dba5, 0x3956c25b, 0x59f111f1, 0x923f82a4, 0xab1c5ed5, 0xd807aa98, 0x12835b01, 0x243185be, 0x550c7dc3, 0x72be5d74, 0x80deb1fe, 0x9bdc06a7, 0xc19bf174, 0xe49b69c1, 0xefbe4786, 0x0fc19dc6, 0x240ca1cc, 0x2de92c6f, 0x4a7484aa, 0x5cb0a9dc, 0x76f988da, 0x983e5152, 0xa831c66d, 0xb00327c8, 0xbf597fc7, 0xc6e00bf3, 0xd5a79147, 0x06ca6351, 0x14292967, 0x27b70a85, 0x2e1b2138, 0x4d2c6dfc, 0x53380d13, 0x650a7354, 0x766a0abb, 0x81c2c92e, 0x92722c85, 0xa2bfe8a1, 0xa81a664b, 0xc24b8b70, 0xc76c51a3, 0xd192e819, 0xd6990624, 0xf40e3585, 0x106aa070, 0x19a4c116, 0x1e376c08, 0x2748774c, 0x34b0bcb5, 0x391c0cb3, 0x4ed8aa4a, 0x5b9cca4f, 0x682e6ff3, 0x748f82ee, 0x78a5636f, 0x84c87814, 0x8cc70208, 0x90befffa, 0xa4506ceb, 0xbef9a3f7, 0xc67178f2]
structure St where
  a : BitVec 32
  b : BitVec 32
  c : BitVec 32
  d : BitVec 32
  e : BitVec 32
  f : BitVec 32
  g : BitVec 32
  h : BitVec 32
def St.list (s : St) : List (BitVec 32) := [s.a, s.b, s.c, s.d, s.e, s.f, s.g, s.h]
def ini : St := ⟨1779033703, 3144134277, 1013904242, 2773480762, 1359893119, 2600822924, 528734635, 1541459225⟩
def St.x (s : St) (k w : BitVec 32) : BitVec 32 := s.h + (ror s.e 6 ^^^ ror s.e 11 ^^^ ror s.e 25) + ((s.e &&& s.f) ^^^ (~~~ s.e &&& s.g)) + k + w
def St.y (s : St) : BitVec 32 := (ror s.a 2 ^^^ ror s.a 13 ^^^ ror s.a 22) + ((s.a &&& s.b) ^^^ (s.a &&& s.c) ^^^ (s.b &&& s.c))
def St.step (s : St) (k w : BitVec 32) : St := ⟨s.x k w + s.y, s.a, s.b, s.c, s.d + s.x k w, s.e, s.f, s.g⟩
def rounds (W : List (BitVec 32)) (s : St) : Nat → St
  | 0 => s
  | n + 1 => (rounds W s n).step (ks.getD n 0) (W.getD n 0)
def St.plus (s t : St) : St := ⟨s.a + t.a, s.b + t.b, s.c + t.c, s.d + t.d, s.e + t.e, s.f + t.f, s.g + t.g, s.h + t.h⟩
/-- The first k bytes of word i of a block. -/
def wpart (b : List UInt8) (i : Nat) : Nat → BitVec 32
  | 0 => 0
  | k + 1 => (wpart b i k <<< 8) ||| wide (b.getD (4 * i + k) 0)
def nxt (l : List (BitVec 32)) (n : Nat) : BitVec 32 :=
  (ror (l.getD (n - 2) 0) 17 ^^^ ror (l.getD (n - 2) 0) 19 ^^^ l.getD (n - 2) 0 >>> 10) + l.getD (n - 7) 0 + (ror (l.getD (n - 15) 0) 7 ^^^ ror (l.getD (n - 15) 0) 18 ^^^ l.getD (n - 15) 0 >>> 3) + l.getD (n - 16) 0
/-- The first n words that a block spreads to. -/
def sched (b : List UInt8) : Nat → List (BitVec 32)
  | 0 => []
  | n + 1 => sched b n ++ [if n < 16 then wpart b n 4 else nxt (sched b n) n]
theorem sched_len (b : List UInt8) (n : Nat) : (sched b n).length = n := by
  induction n with
  | zero => rfl
  | succ n ih => simp [sched, ih]
def comp (s : St) (b : List UInt8) : St := s.plus (rounds (sched b 64) s 64)
/-- The state behind the first n blocks. -/
def folded (l : List UInt8) : Nat → St
  | 0 => ini
  | n + 1 => comp (folded l n) ((l.drop (64 * n)).take 64)
theorem folded_take (l r : List UInt8) : ∀ n, 64 * n ≤ l.length → folded (l ++ r) n = folded l n
  | 0, _ => rfl
  | n + 1, h => by
    show comp _ _ = comp _ _
    rw [folded_take l r n (by omega), List.drop_append_of_le_length (by omega), List.take_append_of_le_length (by rw [List.length_drop]; omega)]
/-- A number's k lowest bytes, the highest first. -/
def beb (n : Int) (k : Nat) : List UInt8 := (List.range k).map fun i => lb n (k - 1 - i)
theorem beb_len (n : Int) (k : Nat) : (beb n k).length = k := by simp [beb]
/-- How many noughts fill n bytes and the mark. -/
def fill (n : Nat) : Nat := (120 - (n + 1) % 64) % 64
def pad (l : List UInt8) : List UInt8 := l ++ [128] ++ List.replicate (fill l.length) 0 ++ beb ((8 * l.length : Nat) : Int) 8
theorem fill_whole (n : Nat) : (n + 1 + fill n + 8) % 64 = 0 := by unfold fill; omega
theorem fill_lt (n : Nat) : fill n < 64 := by unfold fill; omega
theorem pad_len (l : List UInt8) : (pad l).length = l.length + 1 + fill l.length + 8 := by simp [pad, beb_len]; omega
def out (s : St) : List UInt8 := s.list.flatMap fun c => beb (c.toNat : Int) 4
theorem out_len (s : St) : (out s).length = 32 := by simp [out, St.list, beb_len]
def sha (l : List UInt8) : List UInt8 := out (folded (pad l) ((pad l).length / 64))
theorem sha_len (l : List UInt8) : (sha l).length = 32 := out_len _
/-- What a block of noughts spreads to. -/
theorem sched_nought : sched (List.replicate 64 0) 64 = List.replicate 64 0 := by decide +kernel
def digit (n : UInt8) : UInt8 := if n < 10 then 48 + n else 87 + n
def hex (l : List UInt8) : List UInt8 := l.flatMap fun b => [digit (b / 16), digit (b % 16)]
theorem sha_known : (hex (sha [97, 98, 99])).take 8 = [98, 97, 55, 56, 49, 54, 98, 102] := by decide +kernel
end Go.Proofs.YtkclbhmjhjfgiaaDoor.Sm
