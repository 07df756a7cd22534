/- Plain facts on the CRC-32 of chapter 2: a step is linear, and no two states go to one. Nothing here speaks of one program. -/
import Derived.Test.YtolpiklhnafnbaaWords
namespace Go.Proofs.Ytolpiklhnafnbaa.Cm
set_option maxRecDepth 100000

/-- The reflected polynomial. -/
def poly : BitVec 32 := 0xEDB88320#32
/-- One bit. -/
def bit1 (c : BitVec 32) : BitVec 32 := if c.getLsbD 0 = true then (c >>> 1) ^^^ poly else c >>> 1
def bitN : Nat → BitVec 32 → BitVec 32
  | 0, c => c
  | n + 1, c => bit1 (bitN n c)
/-- A byte as a state. -/
def wide (x : UInt8) : BitVec 32 := x.toBitVec.setWidth 32
def feed (c : BitVec 32) (x : UInt8) : BitVec 32 := bitN 8 (c ^^^ wide x)
def feedAll (c : BitVec 32) (l : List UInt8) : BitVec 32 := l.foldl feed c
/-- All ones. -/
def full : BitVec 32 := 4294967295#32
/-- The document's sum. -/
def crc (l : List UInt8) : BitVec 32 := ~~~ (feedAll full l)

theorem feedAll_app (c : BitVec 32) (a b : List UInt8) : feedAll c (a ++ b) = feedAll (feedAll c a) b := by simp [feedAll]
theorem feedAll_snoc (c : BitVec 32) (a : List UInt8) (x : UInt8) : feedAll c (a ++ [x]) = feed (feedAll c a) x := by simp [feedAll]
theorem feedAll_nil (c : BitVec 32) : feedAll c [] = c := rfl
theorem feedAll_take (c : BitVec 32) (l : List UInt8) (j : Nat) (h : j < l.length) : feedAll c (l.take (j + 1)) = feed (feedAll c (l.take j)) l[j] := by
  rw [List.take_succ_eq_append_getElem h, feedAll_snoc]

theorem bit1_xor (a b : BitVec 32) : bit1 (a ^^^ b) = bit1 a ^^^ bit1 b := by
  have e : (a ^^^ b) >>> 1 = (a >>> 1) ^^^ (b >>> 1) := BitVec.ushiftRight_xor_distrib a b 1
  unfold bit1
  rw [BitVec.getLsbD_xor, e]
  cases h1 : a.getLsbD 0 <;> cases h2 : b.getLsbD 0 <;> simp
  · exact BitVec.xor_assoc _ _ _
  · rw [BitVec.xor_assoc, BitVec.xor_comm (b >>> 1) poly, ← BitVec.xor_assoc]
  · have hp : (a >>> 1 ^^^ poly) ^^^ (b >>> 1 ^^^ poly) = (a >>> 1 ^^^ b >>> 1) ^^^ (poly ^^^ poly) := by
      rw [BitVec.xor_assoc, ← BitVec.xor_assoc poly, BitVec.xor_comm poly (b >>> 1), BitVec.xor_assoc (b >>> 1), ← BitVec.xor_assoc]
    rw [hp, BitVec.xor_self, BitVec.xor_zero]
theorem bit1_zero (a : BitVec 32) (h : bit1 a = 0#32) : a = 0#32 := by
  unfold bit1 at h
  split at h
  · have h31 : ((a >>> 1) ^^^ poly).getLsbD 31 = true := by
      rw [BitVec.getLsbD_xor]
      have hp : poly.getLsbD 31 = true := by decide
      have ha : (a >>> 1).getLsbD 31 = false := by simp
      rw [hp, ha]
      rfl
    rw [h] at h31
    simp at h31
  · rename_i h0
    apply BitVec.eq_of_getLsbD_eq
    intro i hi
    rcases Nat.eq_zero_or_pos i with rfl | hpos
    · simpa using h0
    · have : (a >>> 1).getLsbD (i - 1) = false := by rw [h]; simp
      rw [BitVec.getLsbD_ushiftRight] at this
      rw [show 1 + (i - 1) = i by omega] at this
      simpa using this
theorem bitN_xor (n : Nat) (a b : BitVec 32) : bitN n (a ^^^ b) = bitN n a ^^^ bitN n b := by
  induction n with
  | zero => rfl
  | succ n ih => simp only [bitN, ih, bit1_xor]
theorem bitN_zero (n : Nat) (a : BitVec 32) (h : bitN n a = 0#32) : a = 0#32 := by
  induction n with
  | zero => exact h
  | succ n ih => exact ih (bit1_zero _ h)
theorem xor_zero_iff (a b : BitVec 32) (h : a ^^^ b = 0#32) : a = b := by
  have : a ^^^ b ^^^ b = 0#32 ^^^ b := by rw [h]
  rw [BitVec.xor_assoc, BitVec.xor_self, BitVec.xor_zero, BitVec.zero_xor] at this
  exact this
theorem bitN_inj (n : Nat) (a b : BitVec 32) (h : bitN n a = bitN n b) : a = b := by
  apply xor_zero_iff
  apply bitN_zero n
  rw [bitN_xor, h, BitVec.xor_self]
theorem wide_inj (x y : UInt8) (h : wide x = wide y) : x = y := by
  have h2 := congrArg BitVec.toNat h
  simp [wide] at h2
  have hx := x.toNat_lt
  have hy := y.toNat_lt
  apply UInt8.toNat_inj.1
  omega
theorem feed_inj (c d : BitVec 32) (x : UInt8) (h : feed c x = feed d x) : c = d := by
  have := bitN_inj 8 _ _ h
  have h2 : c ^^^ wide x ^^^ wide x = d ^^^ wide x ^^^ wide x := by rw [this]
  rwa [BitVec.xor_assoc, BitVec.xor_assoc, BitVec.xor_self, BitVec.xor_zero, BitVec.xor_zero] at h2
theorem feedAll_inj (c d : BitVec 32) (l : List UInt8) (h : feedAll c l = feedAll d l) : c = d := by
  induction l generalizing c d with
  | nil => exact h
  | cons x r ih => exact feed_inj c d x (ih _ _ h)
theorem feed_byte (c : BitVec 32) (x y : UInt8) (h : feed c x = feed c y) : x = y := by
  have := bitN_inj 8 _ _ h
  apply wide_inj
  have h2 : c ^^^ (c ^^^ wide x) = c ^^^ (c ^^^ wide y) := by rw [this]
  rwa [← BitVec.xor_assoc, ← BitVec.xor_assoc, BitVec.xor_self, BitVec.zero_xor, BitVec.zero_xor] at h2

/-- A byte that is turned turns the sum. -/
theorem crc_turn (a b : List UInt8) (x y : UInt8) (h : x ≠ y) : crc (a ++ x :: b) ≠ crc (a ++ y :: b) := by
  intro he
  unfold crc at he
  have h2 : feedAll full (a ++ x :: b) = feedAll full (a ++ y :: b) := by
    have := congrArg (fun z => ~~~ z) he
    simpa using this
  rw [feedAll_app, feedAll_app] at h2
  have h3 : feed (feedAll full a) x = feed (feedAll full a) y := feedAll_inj _ _ b h2
  exact h (feed_byte _ _ _ h3)

/-- Texts of one length, laid upon one another. -/
theorem feed_xor (c d : BitVec 32) (x y : UInt8) : feed (c ^^^ d) (x ^^^ y) = feed c x ^^^ feed d y := by
  unfold feed
  rw [← bitN_xor]
  congr 1
  have hw : wide (x ^^^ y) = wide x ^^^ wide y := by
    unfold wide
    rw [UInt8.toBitVec_xor, BitVec.setWidth_xor]
  rw [hw, BitVec.xor_assoc, ← BitVec.xor_assoc d, BitVec.xor_comm d, BitVec.xor_assoc, ← BitVec.xor_assoc]
theorem feedAll_xor (c d : BitVec 32) (a b : List UInt8) (h : a.length = b.length) : feedAll (c ^^^ d) (List.zipWith (· ^^^ ·) a b) = feedAll c a ^^^ feedAll d b := by
  induction a generalizing b c d with
  | nil =>
    match b, h with
    | [], _ => rfl
  | cons x r ih =>
    match b, h with
    | y :: s, h =>
      show feedAll (feed (c ^^^ d) (x ^^^ y)) (List.zipWith (· ^^^ ·) r s) = _
      rw [feed_xor]
      exact ih _ _ s (by simpa using h)
end Go.Proofs.Ytolpiklhnafnbaa.Cm
