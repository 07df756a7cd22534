/- Words of 32 bits as the walk has them: each operation on numbers is the plain operation on bits. Nothing here speaks of one program. -/
import Derived.Test.YtolpiklhnafnbaaCrcMath
import Derived.Lib.Hide
namespace Go.Proofs.Ytolpiklhnafnbaa
set_option maxRecDepth 100000
open Go.RowKit Wd Cm

def tn (c : BitVec 32) : Int := (c.toNat : Int)
theorem u32_wrap_nat (n : Nat) (h : n < 4294967296) : IntKind.u32.wrap (n : Int) = n := by
  rw [IntKind.wrap_u32]; omega
theorem tn_bd (c : BitVec 32) : 0 ≤ tn c ∧ tn c < 4294967296 := by
  have := c.isLt
  unfold tn
  omega
theorem tn_mod (c : BitVec 32) : tn c % 4294967296 = tn c := by have := tn_bd c; omega
theorem u32_xor (a b : BitVec 32) : bits BinOp.xor IntKind.u32 (tn a) (tn b) = tn (a ^^^ b) := by
  show IntKind.u32.wrap ((BitVec.ofInt 32 (a.toNat : Int) ^^^ BitVec.ofInt 32 (b.toNat : Int)).toNat : Int) = ((a ^^^ b).toNat : Int)
  rw [BitVec.ofInt_natCast, BitVec.ofInt_natCast, BitVec.ofNat_toNat, BitVec.ofNat_toNat, BitVec.setWidth_eq, BitVec.setWidth_eq]
  exact u32_wrap_nat _ (a ^^^ b).isLt
theorem u32_and (a b : BitVec 32) : bits BinOp.and IntKind.u32 (tn a) (tn b) = tn (a &&& b) := by
  show IntKind.u32.wrap ((BitVec.ofInt 32 (a.toNat : Int) &&& BitVec.ofInt 32 (b.toNat : Int)).toNat : Int) = ((a &&& b).toNat : Int)
  rw [BitVec.ofInt_natCast, BitVec.ofInt_natCast, BitVec.ofNat_toNat, BitVec.ofNat_toNat, BitVec.setWidth_eq, BitVec.setWidth_eq]
  exact u32_wrap_nat _ (a &&& b).isLt
theorem u32_or (a b : BitVec 32) : bits BinOp.or IntKind.u32 (tn a) (tn b) = tn (a ||| b) := by
  show IntKind.u32.wrap ((BitVec.ofInt 32 (a.toNat : Int) ||| BitVec.ofInt 32 (b.toNat : Int)).toNat : Int) = ((a ||| b).toNat : Int)
  rw [BitVec.ofInt_natCast, BitVec.ofInt_natCast, BitVec.ofNat_toNat, BitVec.ofNat_toNat, BitVec.setWidth_eq, BitVec.setWidth_eq]
  exact u32_wrap_nat _ (a ||| b).isLt
theorem u32_add (a b : BitVec 32) : (tn a + tn b) % 4294967296 = tn (a + b) := by
  unfold tn
  rw [BitVec.toNat_add]
  omega
theorem u32_add5 (a b c d e : BitVec 32) : (tn a + tn b + tn c + tn d + tn e) % 4294967296 = tn (a + b + c + d + e) := by
  unfold tn
  simp only [BitVec.toNat_add]
  omega
theorem u32_shr (c : BitVec 32) (n : Nat) : tn c / (2 : Int) ^ n = tn (c >>> n) := by
  unfold tn
  rw [BitVec.toNat_ushiftRight, Nat.shiftRight_eq_div_pow, Int.natCast_ediv]
  simp
theorem u32_shl (c : BitVec 32) (n : Nat) : tn c * (2 : Int) ^ n % 4294967296 = tn (c <<< n) := by
  unfold tn
  rw [BitVec.toNat_shiftLeft, Nat.shiftLeft_eq, Int.natCast_emod, Int.natCast_mul]
  simp
theorem u32_shr3 (c : BitVec 32) : tn c / (8 : Int) = tn (c >>> 3) := u32_shr c 3
theorem u32_shr10 (c : BitVec 32) : tn c / (1024 : Int) = tn (c >>> 10) := u32_shr c 10
theorem tn_wide (x : UInt8) : tn (wide x) = (x.toNat : Int) := by
  have h := x.toNat_lt
  unfold tn wide
  rw [BitVec.toNat_setWidth]
  show ((x.toNat % 2 ^ 32 : Nat) : Int) = x.toNat
  omega
theorem tn_full : tn full = 4294967295 := rfl
theorem full_bit (i : Nat) (h : i < 32) : full.getLsbD i = true := by
  have hall : ∀ k, k < 32 → full.getLsbD k = true := by decide
  exact hall i h
theorem u32_not (c : BitVec 32) : bits BinOp.xor IntKind.u32 IntKind.u32.max (tn c) = tn (~~~ c) := by
  have h : bits BinOp.xor IntKind.u32 (tn full) (tn c) = tn (full ^^^ c) := u32_xor _ _
  have hf : full ^^^ c = ~~~ c := by
    apply BitVec.eq_of_getLsbD_eq
    intro i hi
    rw [BitVec.getLsbD_xor, full_bit i hi]
    simp [hi]
  rw [hf] at h
  exact h
end Go.Proofs.Ytolpiklhnafnbaa
