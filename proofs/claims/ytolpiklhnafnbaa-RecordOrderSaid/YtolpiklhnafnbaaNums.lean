/- Plain facts on numbers and their bytes: the lowest bytes of a number, the number of some bytes, and how one is the other's. Nothing here speaks of one program. -/
import Derived.Test.YtolpiklhnafnbaaWords
namespace Go.Proofs.Ytolpiklhnafnbaa.Nm
set_option maxRecDepth 100000
open Go.RowKit

/-- A number's byte with the number i, the lowest one first. -/
def lb (n : Int) (i : Nat) : UInt8 := UInt8.ofNat (n / 2 ^ (8 * i) % 256).toNat
def leb (n : Int) (k : Nat) : List UInt8 := (List.range k).map (lb n)
theorem leb_len (n : Int) (k : Nat) : (leb n k).length = k := by simp [leb]
theorem lb_nat (n : Int) (i : Nat) : ((lb n i).toNat : Int) = n / 2 ^ (8 * i) % 256 := by
  have h0 := Int.emod_nonneg (n / 2 ^ (8 * i)) (show (256 : Int) ≠ 0 by decide)
  have h1 := Int.emod_lt_of_pos (n / 2 ^ (8 * i)) (show (0 : Int) < 256 by decide)
  unfold lb
  simp
  omega
theorem leb_next (n : Int) (k : Nat) : leb n (k + 1) = leb n k ++ [lb n k] := by simp [leb, List.range_succ]

/-- The number of some bytes, the lowest one first. -/
def leNat : List UInt8 → Nat
  | [] => 0
  | c :: r => c.toNat + 256 * leNat r
theorem leNat_app (a b : List UInt8) : leNat (a ++ b) = leNat a + 2 ^ (8 * a.length) * leNat b := by
  induction a with
  | nil => simp [leNat]
  | cons c r ih =>
    simp only [List.cons_append, leNat, ih, List.length_cons]
    have : 2 ^ (8 * (r.length + 1)) = 256 * 2 ^ (8 * r.length) := by rw [Nat.mul_add, Nat.pow_add]; omega
    rw [this, Nat.mul_add, Nat.mul_assoc]
    omega
theorem leNat_lt (l : List UInt8) : leNat l < 2 ^ (8 * l.length) := by
  induction l with
  | nil => simp [leNat]
  | cons c r ih =>
    have hc := c.toNat_lt
    have : 2 ^ (8 * (r.length + 1)) = 256 * 2 ^ (8 * r.length) := by rw [Nat.mul_add, Nat.pow_add]; omega
    simp only [leNat, List.length_cons, this]
    omega
theorem leNat_next (l : List UInt8) (j : Nat) (h : j < l.length) : leNat (l.take (j + 1)) = leNat (l.take j) + 2 ^ (8 * j) * l[j].toNat := by
  rw [List.take_succ_eq_append_getElem h, leNat_app, List.length_take, Nat.min_eq_left (by omega)]
  simp [leNat]
theorem leNat_leb (n : Int) (k : Nat) : (leNat (leb n k) : Int) = n % 2 ^ (8 * k) := by
  induction k with
  | zero => simp [leb, leNat]
  | succ k ih =>
    rw [leb_next, leNat_app, leb_len]
    simp only [leNat, Nat.mul_zero, Nat.add_zero]
    rw [Int.natCast_add, ih, Int.natCast_mul, lb_nat]
    have e : (2 : Int) ^ (8 * (k + 1)) = 2 ^ (8 * k) * 256 := by rw [Nat.mul_add, Int.pow_add]; rfl
    have hp : ((2 ^ (8 * k) : Nat) : Int) = 2 ^ (8 * k) := by simp
    have hq : (0 : Int) ≤ 2 ^ (8 * k) := by rw [← hp]; omega
    have hd : n / 2 ^ (8 * k) / 256 = n / (2 ^ (8 * k) * 256) := by
      rw [Int.ediv_ediv, if_neg (fun h => absurd h.1 (by omega))]
      omega
    rw [e, hp, Int.emod_def n (2 ^ (8 * k) * 256), Int.emod_def n (2 ^ (8 * k)), Int.emod_def (n / 2 ^ (8 * k)) 256, hd, Int.mul_sub, ← Int.mul_assoc]
    omega

theorem wrap64_mod (x : Int) (h0 : -9223372036854775808 ≤ x) (h1 : x ≤ 9223372036854775807) : wrap64 (x % 18446744073709551616) = x := by
  unfold wrap64
  omega
theorem wrap64_of (x : Int) (h0 : -9223372036854775808 ≤ x) (h1 : x ≤ 9223372036854775807) : wrap64 x = x := by
  unfold wrap64
  omega
/-- A number of 64 bits is the number of its eight bytes. -/
theorem back64 (x : Int) (h0 : -9223372036854775808 ≤ x) (h1 : x ≤ 9223372036854775807) : wrap64 (leNat (leb x 8)) = x := by
  rw [leNat_leb]
  exact wrap64_mod x h0 h1

theorem ofInt_wrap (z : Int) : BitVec.ofInt 64 (wrap64 z) = BitVec.ofInt 64 z := by
  apply BitVec.eq_of_toNat_eq
  simp only [BitVec.toNat_ofInt]
  congr 1
  unfold wrap64
  omega
theorem or_at (U c j : Nat) (hU : U < 2 ^ (8 * j)) (hc : c < 256) (hj : j ≤ 7) :
    bits .or .i64 (wrap64 (U : Int)) (wrap64 (wrap64 (c : Int) * 2 ^ (8 * j))) = wrap64 ((U + 2 ^ (8 * j) * c : Nat) : Int) := by
  have hcw : wrap64 (c : Int) = c := wrap64_of _ (by omega) (by omega)
  have hp : (2 : Nat) ^ (8 * j) ≤ 2 ^ 56 := Nat.pow_le_pow_right (by decide) (by omega)
  have h56 : (2 : Nat) ^ 56 = 72057594037927936 := rfl
  have hm : 2 ^ (8 * j) * c ≤ 72057594037927936 * 255 := Nat.mul_le_mul (by omega) (by omega)
  have e : (c : Int) * 2 ^ (8 * j) = ((2 ^ (8 * j) * c : Nat) : Int) := by rw [Int.natCast_mul, Int.mul_comm]; simp
  rw [hcw, e]
  have hw : ∀ z : Int, IntKind.i64.wrap z = wrap64 z := fun z => by unfold wrap64; exact IntKind.wrap_i64 z
  have ho : (BitVec.ofInt 64 (wrap64 (U : Int)) ||| BitVec.ofInt 64 (wrap64 ((2 ^ (8 * j) * c : Nat) : Int))).toNat = U + 2 ^ (8 * j) * c := by
    rw [ofInt_wrap, ofInt_wrap, BitVec.ofInt_natCast, BitVec.ofInt_natCast, BitVec.toNat_or, BitVec.toNat_ofNat, BitVec.toNat_ofNat, Nat.mod_eq_of_lt (by omega), Nat.mod_eq_of_lt (by omega)]
    rw [Nat.or_comm, ← Nat.two_pow_add_eq_or_of_lt hU, Nat.add_comm]
  show IntKind.i64.wrap ((BitVec.ofInt 64 (wrap64 (U : Int)) ||| BitVec.ofInt 64 (wrap64 ((2 ^ (8 * j) * c : Nat) : Int))).toNat : Int) = _
  rw [ho, hw]
end Go.Proofs.Ytolpiklhnafnbaa.Nm
