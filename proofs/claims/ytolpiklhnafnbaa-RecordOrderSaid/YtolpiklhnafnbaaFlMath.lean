/- The memory of chapter 4, as plain lists: what its operations make of it. Nothing here speaks of one program. -/
import Derived.Test.YtolpiklhnafnbaaWords
namespace Go.Proofs.Ytolpiklhnafnbaa.Fm
set_option maxRecDepth 100000
open Go.RowKit

/-- Some bytes in the place of others, from a place on. -/
def lay (B : List UInt8) (o : Nat) (x : List UInt8) : List UInt8 := B.take o ++ (x ++ B.drop (o + x.length))
/-- A byte's bits where the mask has a 1. -/
def mixB (p b m : UInt8) : UInt8 := (p &&& ~~~m) ||| (b &&& m)
/-- The mask's byte at a place. -/
def maskAt (mask : List UInt8) (i : Nat) : UInt8 := if mask.length = 0 then 0 else mask.getD (i % mask.length) 0
def mixL (place next mask : List UInt8) : List UInt8 := (List.range next.length).map fun i => mixB (place.getD i 0) (next.getD i 0) (maskAt mask i)
/-- Has a byte a bit that the place has not? -/
def setsB (place next : List UInt8) : Bool := (List.range next.length).any fun i => next.getD i 0 &&& ~~~(place.getD i 0) != 0
/-- Some bytes, with 255 behind up to a page. -/
def padded (b : List UInt8) : List UInt8 := b ++ List.replicate (16 - b.length) 255

structure Mem where
  B : List UInt8
  dead : Bool
  ops : Int
  left : Int
  mask : List UInt8

def Mem.fresh : Mem := ⟨List.replicate 6144 255, false, 0, 0, []⟩
def Mem.page (m : Mem) (o n : Nat) : List UInt8 := (m.B.drop o).take n
/-- An operation: what it answers, and what the memory is then. -/
def writeM (m : Mem) (o : Nat) (next : List UInt8) : Int × Mem :=
  if m.left = 1 then (14, ⟨lay m.B o (mixL (m.page o next.length) next m.mask), true, wrap64 (m.ops + 1), 0, []⟩)
  else (0, ⟨lay m.B o next, m.dead, wrap64 (m.ops + 1), max (m.left - 1) 0, m.mask⟩)
def isSector (s : Int) : Prop := 0 ≤ s ∧ s < 6
instance (s : Int) : Decidable (isSector s) := by unfold isSector; infer_instance
def isPage (s p : Int) : Prop := isSector s ∧ 0 ≤ p ∧ p < 64
instance (s p : Int) : Decidable (isPage s p) := by unfold isPage; infer_instance
def placeOf (s p : Int) : Nat := s.toNat * 1024 + p.toNat * 16
def eraseM (m : Mem) (s : Int) : Int × Mem :=
  if m.dead = true then (14, m) else if ¬ isSector s then (12, m) else writeM m (placeOf s 0) (List.replicate 1024 255)
def programM (m : Mem) (s p : Int) (b : List UInt8) : Int × Mem :=
  if m.dead = true then (14, m) else if ¬ isPage s p then (12, m) else if 16 < b.length then (5, m)
  else if setsB (m.page (placeOf s p) 16) (padded b) = true then (13, m) else writeM m (placeOf s p) (padded b)
def stopM (m : Mem) (n : Int) (mask : List UInt8) : Mem := if 0 < n then { m with left := n, mask := mask.take 1024 } else { m with left := 0, mask := [] }
def startM (m : Mem) : Mem := { m with dead := false, left := 0, mask := [] }
def readM (m : Mem) (s : Int) : List UInt8 := if isSector s then m.page (placeOf s 0) 1024 else []

theorem eraseM_dead {m : Mem} (s : Int) (h : m.dead = true) : eraseM m s = (14, m) := by unfold eraseM; rw [if_pos h]
theorem eraseM_addr {m : Mem} {s : Int} (h : m.dead = false) (hs : ¬ isSector s) : eraseM m s = (12, m) := by unfold eraseM; rw [if_neg (by rw [h]; decide), if_pos hs]
theorem eraseM_ok {m : Mem} (s : Nat) (h : m.dead = false) (hs : s < 6) : eraseM m s = writeM m (s * 1024) (List.replicate 1024 255) := by
  unfold eraseM placeOf
  rw [if_neg (by rw [h]; decide), if_neg (by unfold isSector; omega)]
  simp only [Int.toNat_natCast, Int.toNat_zero, Nat.zero_mul, Nat.add_zero]
theorem programM_dead {m : Mem} (s p : Int) (b : List UInt8) (h : m.dead = true) : programM m s p b = (14, m) := by unfold programM; rw [if_pos h]
theorem programM_addr {m : Mem} {s p : Int} (b : List UInt8) (h : m.dead = false) (hs : ¬ isPage s p) : programM m s p b = (12, m) := by unfold programM; rw [if_neg (by rw [h]; decide), if_pos hs]
theorem programM_long {m : Mem} {s p : Int} {b : List UInt8} (h : m.dead = false) (hs : isPage s p) (hb : 16 < b.length) : programM m s p b = (5, m) := by
  unfold programM; rw [if_neg (by rw [h]; decide), if_neg (not_not_intro hs), if_pos hb]
theorem programM_set {m : Mem} {s p : Nat} {b : List UInt8} (h : m.dead = false) (hs : s < 6) (hp : p < 64) (hb : b.length ≤ 16) (ht : setsB (m.page (s * 1024 + p * 16) 16) (padded b) = true) : programM m s p b = (13, m) := by
  unfold programM placeOf
  rw [if_neg (by rw [h]; decide), if_neg (by unfold isPage isSector; omega), if_neg (by omega)]
  simp only [Int.toNat_natCast]
  rw [if_pos ht]
theorem programM_ok {m : Mem} {s p : Nat} {b : List UInt8} (h : m.dead = false) (hs : s < 6) (hp : p < 64) (hb : b.length ≤ 16) (ht : setsB (m.page (s * 1024 + p * 16) 16) (padded b) = false) : programM m s p b = writeM m (s * 1024 + p * 16) (padded b) := by
  unfold programM placeOf
  rw [if_neg (by rw [h]; decide), if_neg (by unfold isPage isSector; omega), if_neg (by omega)]
  simp only [Int.toNat_natCast]
  rw [if_neg (by rw [ht]; decide)]
theorem lay_len (B : List UInt8) (o : Nat) (x : List UInt8) (h : o + x.length ≤ B.length) : (lay B o x).length = B.length := by
  unfold lay
  simp only [List.length_append, List.length_take, List.length_drop]
  omega
theorem lay_at (B : List UInt8) (o : Nat) (x : List UInt8) (h : o + x.length ≤ B.length) (i : Nat) : (lay B o x).getD i 0 = if o ≤ i ∧ i < o + x.length then x.getD (i - o) 0 else B.getD i 0 := by
  unfold lay
  simp only [List.getD_eq_getElem?_getD]
  have ht : (B.take o).length = o := by rw [List.length_take]; omega
  by_cases h1 : i < o
  · rw [List.getElem?_append_left (by omega), if_neg (by omega), List.getElem?_take, if_pos h1]
  · rw [List.getElem?_append_right (by omega), ht]
    by_cases h2 : i < o + x.length
    · rw [List.getElem?_append_left (by omega), if_pos ⟨by omega, h2⟩]
    · rw [List.getElem?_append_right (by omega), if_neg (by omega), List.getElem?_drop, show o + x.length + (i - o - x.length) = i by omega]
theorem mixL_len (p n m : List UInt8) : (mixL p n m).length = n.length := by simp [mixL]
theorem mixL_at (p n m : List UInt8) (i : Nat) (h : i < n.length) : (mixL p n m).getD i 0 = mixB (p.getD i 0) (n.getD i 0) (maskAt m i) := by
  simp [mixL, List.getD, h]
theorem mixL_none (p n : List UInt8) (h : p.length = n.length) : mixL p n [] = p := by
  apply List.ext_getElem (by rw [mixL_len, h])
  intro i h1 h2
  have e : (mixL p n []).getD i 0 = p.getD i 0 := by
    rw [mixL_at p n [] i (by omega)]
    simp [maskAt, mixB]
  simpa [List.getD, List.getElem?_eq_getElem h1, List.getElem?_eq_getElem h2] using e
theorem lay_nil (B : List UInt8) (o : Nat) : lay B o [] = B := by simp [lay]
theorem lay_step (B x : List UInt8) (o k : Nat) (hk : k < x.length) (h : o + x.length ≤ B.length) : (lay B o (x.take k)).set (o + k) (x.getD k 0) = lay B o (x.take (k + 1)) := by
  have hx : x.getD k 0 = x[k] := by simp [List.getD, List.getElem?_eq_getElem hk]
  have ht : (B.take o).length = o := by rw [List.length_take]; omega
  have hk1 : (x.take k).length = k := by rw [List.length_take]; omega
  have hk2 : (x.take (k + 1)).length = k + 1 := by rw [List.length_take]; omega
  unfold lay
  rw [hk1, hk2, List.set_append_right _ _ (by omega), ht, Nat.add_sub_cancel_left, List.set_append_right _ _ (by omega), hk1, Nat.sub_self, hx, List.take_succ_eq_append_getElem hk,
    List.drop_eq_getElem_cons (by omega), List.set_cons_zero, List.append_assoc]
  rfl
theorem lay_front (B x : List UInt8) (o k j : Nat) (hk : k ≤ x.length) (hj : k ≤ j) (h : o + x.length ≤ B.length) : (lay B o (x.take k)).getD (o + j) 0 = B.getD (o + j) 0 := by
  rw [lay_at _ _ _ (by rw [List.length_take]; omega), if_neg (by rw [List.length_take]; omega)]
theorem page_at (m : Mem) (o n j : Nat) (hj : j < n) : (m.page o n).getD j 0 = m.B.getD (o + j) 0 := by
  unfold Mem.page
  simp only [List.getD_eq_getElem?_getD]
  rw [List.getElem?_take, if_pos hj, List.getElem?_drop]
theorem page_len (m : Mem) (o n : Nat) (h : o + n ≤ m.B.length) : (m.page o n).length = n := by
  unfold Mem.page
  rw [List.length_take, List.length_drop]
  omega
theorem padded_len (b : List UInt8) (h : b.length ≤ 16) : (padded b).length = 16 := by
  unfold padded
  rw [List.length_append, List.length_replicate]
  omega
theorem writeM_len (m : Mem) (o : Nat) (x : List UInt8) (h : o + x.length ≤ m.B.length) : (writeM m o x).2.B.length = m.B.length := by
  unfold writeM
  split
  · exact lay_len _ _ _ (by rw [mixL_len]; exact h)
  · exact lay_len _ _ _ h
/-- Bit by bit, the two ways to say it are one. -/
theorem mix_bits (p b m : UInt8) : p ^^^ ((p ^^^ b) &&& m) = mixB p b m := by
  apply UInt8.eq_of_toBitVec_eq
  simp only [mixB, UInt8.toBitVec_xor, UInt8.toBitVec_and, UInt8.toBitVec_or, UInt8.toBitVec_not]
  ext i hi
  simp only [BitVec.getElem_xor, BitVec.getElem_and, BitVec.getElem_or, BitVec.getElem_not]
  cases p.toBitVec[i] <;> cases b.toBitVec[i] <;> cases m.toBitVec[i] <;> rfl
end Go.Proofs.Ytolpiklhnafnbaa.Fm
