/- Chapter 6, plain: an entry, its bytes, and what Parse makes of any bytes. -/
import Derived.Test.YtmebdnblobobnaaGreatDoorKRef1
namespace Go.Proofs.YtmebdnblobobnaaGreatDoor
set_option maxRecDepth 100000
open Go.RowKit _root_.Go.Proofs.YtmebdnblobobnaaGreatDoor.Wd _root_.Go.Proofs.YtmebdnblobobnaaGreatDoor.Nm

structure Ent where
  seq : Int
  slot : Int
  sum : List UInt8
def Ent.cells (e : Ent) : List Value := .int .i64 e.seq :: .int .i64 e.slot :: bc e.sum
def Ent.bytes (e : Ent) : List UInt8 := leb e.seq 8 ++ leb e.slot 8 ++ e.sum
def Ent.zero : Ent := ⟨0, 0, List.replicate 32 0⟩
def entOf (l : List UInt8) : Ent := ⟨wrap64 (leNat (l.take 8) : Nat), wrap64 (leNat ((l.drop 8).take 8) : Nat), l.drop 16⟩
def Ent.inside (e : Ent) : Prop := 1 ≤ e.seq ∧ e.seq ≤ 1073741824 ∧ 0 ≤ e.slot ∧ e.slot ≤ 2
instance (e : Ent) : Decidable e.inside := by unfold Ent.inside; infer_instance
def parse (l : List UInt8) : Ent × Int :=
  if l.length < 48 then (Ent.zero, 8) else if 48 < l.length then (Ent.zero, 9) else if (entOf l).inside then (entOf l, 0) else (Ent.zero, 10)
theorem Ent.cells_len (e : Ent) (h : e.sum.length = 32) : e.cells.toArray.size = 34 := by simp [Ent.cells, bc_len, h]

/-- The reader's state when p of the bytes l are read, or the first error is noted. -/
def St (l : List UInt8) (p : Nat) (l' : List UInt8) (er : Int) : Prop := (p ≤ l.length ∧ l' = l.drop p ∧ er = 0) ∨ (l.length < p ∧ er = 8)
theorem St.start (l : List UInt8) : St l 0 l 0 := .inl ⟨Nat.zero_le _, rfl, rfl⟩
theorem St.next {l : List UInt8} {p : Nat} {l' : List UInt8} {er : Int} (k : Nat) (hk : 0 < k) (h : St l p l' er) :
    St l (p + k) (rdNum k l' er).2.1 (rdNum k l' er).2.2 ∧ (p + k ≤ l.length → (rdNum k l' er).1 = wrap64 (leNat ((l.drop p).take k) : Nat)) := by
  rcases h with ⟨h1, rfl, rfl⟩ | ⟨h1, rfl⟩
  · by_cases h2 : p + k ≤ l.length
    · rw [rdNum_ok (by rw [List.length_drop]; omega)]
      exact ⟨.inl ⟨h2, by rw [List.drop_drop], rfl⟩, fun _ => rfl⟩
    · rw [rdNum_cut (by rw [List.length_drop]; omega)]
      exact ⟨.inr ⟨by omega, rfl⟩, fun h => absurd h h2⟩
  · rw [rdNum_err k l' (by decide)]
    exact ⟨.inr ⟨by omega, rfl⟩, fun h => by omega⟩
theorem St.fin {l l' : List UInt8} {er : Int} (h : St l 48 l' er) : rdEnd l' er = if l.length < 48 then 8 else if 48 < l.length then 9 else 0 := by
  rcases h with ⟨h1, rfl, rfl⟩ | ⟨h1, rfl⟩
  · rw [if_neg (by omega)]
    by_cases h2 : 48 < l.length
    · rw [if_pos h2, rdEnd_more (by rw [List.length_drop]; omega)]
    · rw [if_neg h2, List.drop_of_length_le (by omega), rdEnd_ok]
  · rw [if_pos h1, rdEnd_err l' (by decide)]

/-- The byte that a number is cut down to. -/
def cut8 (v : Int) : UInt8 := UInt8.ofNat (IntKind.u8.wrap v).toNat
theorem cut8_val (v : Int) : IntKind.u8.wrap v = ((cut8 v).toNat : Int) := by
  unfold cut8
  have e : ((UInt8.ofNat (IntKind.u8.wrap v).toNat).toNat) = (IntKind.u8.wrap v).toNat % 256 := by simp
  rw [e, IntKind.wrap_u8]
  omega
theorem cut8_byte (l : List UInt8) (p : Nat) (h : p < l.length) : cut8 (wrap64 (leNat ((l.drop p).take 1) : Nat)) = l[p] := by
  have e : (l.drop p).take 1 = [l[p]] := by rw [List.drop_eq_getElem_cons h]; rfl
  have hb := l[p].toNat_lt
  rw [e]
  apply UInt8.toNat_inj.1
  have : leNat [l[p]] = l[p].toNat := by simp [leNat]
  rw [this]
  have hv := cut8_val (wrap64 ((l[p].toNat : Nat) : Int))
  rw [IntKind.wrap_u8] at hv
  unfold wrap64 at hv ⊢
  omega

/-- What Parse reads back of an entry's bytes. -/
theorem parse_bytes (e : Ent) (hl : e.sum.length = 32) (h : e.inside) : parse e.bytes = (e, 0) := by
  have hlen : e.bytes.length = 48 := by unfold Ent.bytes; simp [leb_len, hl]
  obtain ⟨h1, h2, h3, h4⟩ := h
  have r1 := rdNum_int e.seq (leb e.slot 8 ++ e.sum) (by omega) (by omega)
  have r2 := rdNum_int e.slot e.sum (by omega) (by omega)
  rw [rdNum_ok (by simp [leb_len])] at r1 r2
  have hE : entOf e.bytes = e := by
    unfold entOf Ent.bytes
    injection r1 with a1 b1
    injection b1 with b1 _
    injection r2 with a2 b2
    injection b2 with b2 _
    rw [List.append_assoc]
    have d16 : List.drop 16 (leb e.seq 8 ++ (leb e.slot 8 ++ e.sum)) = e.sum := by rw [show 16 = 8 + 8 from rfl, ← List.drop_drop, b1, b2]
    rw [a1, b1, a2, d16]
  unfold parse
  rw [if_neg (by omega), if_neg (by omega), hE, if_pos ⟨h1, h2, h3, h4⟩]
end Go.Proofs.YtmebdnblobobnaaGreatDoor
