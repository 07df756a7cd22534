/- The reference's memory of chapter 4: what it has in its block, and its change of bytes. -/
import Derived.Test.YtolpiklhnafnbaaFlNew
import Derived.Test.YtolpiklhnafnbaaFlMath2
import Derived.Test.YtolpiklhnafnbaaMake
import Derived.Deep.QuietTactic
import Derived.BigQuiet
namespace Go.Proofs.Ytolpiklhnafnbaa
set_option maxRecDepth 100000
open Go.RowKit Wd Fm

def rfCells (m : Mem) (v : Value) : List Value := bc m.B ++ [.int .i64 m.ops, .int .i64 m.left, v, Value.bool m.dead]
theorem rfCells_len (m : Mem) (v : Value) (h : m.B.length = 6144) : (rfCells m v).length = 6148 := by simp [rfCells, bc_len, h]
theorem rfCells_at (m : Mem) (v : Value) (h : m.B.length = 6144) : (rfCells m v)[6144]? = some (.int .i64 m.ops) ∧ (rfCells m v)[6145]? = some (.int .i64 m.left) ∧ (rfCells m v)[6146]? = some v ∧ (rfCells m v)[6147]? = some (.bool m.dead) := by
  have hl : (bc m.B).length = 6144 := by rw [bc_len, h]
  unfold rfCells
  refine ⟨?_, ?_, ?_, ?_⟩ <;> rw [List.getElem?_append_right (by omega), hl] <;> rfl
theorem rfCells_byte (m : Mem) (v : Value) (h : m.B.length = 6144) (i : Nat) (hi : i < 6144) : (rfCells m v)[i]? = some (.int .u8 ((m.B.getD i 0).toNat : Int)) := by
  unfold rfCells
  rw [List.getElem?_append_left (by rw [bc_len, h]; exact hi), bc_get _ i (by omega)]
  simp [List.getD, List.getElem?_eq_getElem (show i < m.B.length by omega)]
theorem rfCells_set (m : Mem) (v x : Value) (h : m.B.length = 6144) (d : Bool) (n : Int) :
    (rfCells m v).set 6144 (.int .i64 n) = rfCells { m with ops := n } v ∧ (rfCells m v).set 6145 (.int .i64 n) = rfCells { m with left := n } v ∧
    (rfCells m v).set 6146 x = rfCells m x ∧ (rfCells m v).set 6147 (.bool d) = rfCells { m with dead := d } v := by
  have hl : (bc m.B).length = 6144 := by rw [bc_len, h]
  unfold rfCells
  refine ⟨?_, ?_, ?_, ?_⟩ <;> rw [List.set_append_right _ _ (by omega), hl] <;> rfl
theorem rfCells_put (m : Mem) (v : Value) (h : m.B.length = 6144) (i : Nat) (hi : i < 6144) (c : UInt8) : (rfCells m v).set i (.int .u8 (c.toNat : Int)) = rfCells { m with B := m.B.set i c } v := by
  unfold rfCells
  rw [List.set_append_left _ _ (by rw [bc_len, h]; exact hi)]
  congr 1
  unfold bc
  rw [← List.map_set]
theorem tyx_ne : 66 ≠ 5 := by decide

/-- The block g holds the reference's memory m; of its mask the first bytes count, as long as the power may go. -/
structure Rf (w : World) (g : Nat) (m : Mem) : Prop where
  size : m.B.length = 6144
  l0 : 0 ≤ m.left
  l1 : m.left ≤ 9223372036854775807
  spot : ∃ xm A n cap, Row w g 66 (rfCells m (.slice A n cap)) ∧ w.ownsRow 0 5 1 (.slice A n cap) n (bc xm) ∧ (0 < m.left → xm.take 1024 = m.mask)
theorem Rf.lt {w : World} {g : Nat} {m : Mem} (h : Rf w g m) : g < w.heap.size := by
  obtain ⟨xm, A, n, cap, hr, _⟩ := h.spot
  exact hr.lt
theorem Rf.kept {w w' : World} {g k : Nat} {m : Mem} (h : Rf w g m) (hg : w.grownBy w' (some k)) (hk : k ≠ g) (T : TypeId) (cs : Array Value) (hb : w.heap[k]? = some (.cells cs T (0, 0))) (hT : T ≠ 5) : Rf w' g m := by
  obtain ⟨xm, A, n, cap, hr, ho, hm⟩ := h.spot
  refine ⟨h.size, h.l0, h.l1, xm, A, n, cap, ?_, grow_own ho hg (own_other ho hb hT), hm⟩
  exact (hg.block g hr.lt (fun e => hk (by injection e with e; exact e.symm))).trans hr
theorem Rf.new {w w' : World} {g : Nat} {m : Mem} (h : Rf w g m) (hg : w.grownBy w' none) : Rf w' g m := by
  obtain ⟨xm, A, n, cap, hr, ho, hm⟩ := h.spot
  refine ⟨h.size, h.l0, h.l1, xm, A, n, cap, ?_, grow_own ho hg (fun k _ e => by cases e), hm⟩
  exact (hg.block g hr.lt (fun e => by cases e)).trans hr
theorem Rf.below {w w' : World} {g : Nat} {m : Mem} (h : Rf w g m) (hb : Below w.heap.size w w') : Rf w' g m := h.new (below_grow hb none)
theorem Rf.shows {w : World} {g : Nat} {m : Mem} (h : Rf w g m) (o n cap : Nat) (hn : o + n ≤ 6144) (hc : n ≤ cap) (hm : cap ≤ maxLen) : Shows w w.heap.size (some ⟨g, o, none⟩) n cap (m.page o n) := by
  obtain ⟨xm, A, k, c, hr, _⟩ := h.spot
  have hl : (m.page o n).length = n := page_len m o n (by rw [h.size]; exact hn)
  refine ⟨hl, hc, hm, fun _ => ⟨g, o, rfl, hr.lt, fun j hj => ?_⟩⟩
  rw [hl] at hj
  have h1 := hr.cell (rfCells_byte m (.slice A k c) h.size (o + j) (by omega))
  rw [h1, ← page_at m o n j hj]
  simp [List.getD, List.getElem?_eq_getElem (show j < (m.page o n).length by omega)]
theorem mixB_all (p b : UInt8) : mixB p b 255 = b := by
  unfold mixB
  rw [show ~~~(255 : UInt8) = 0 from rfl, UInt8.and_zero, UInt8.zero_or]
  apply UInt8.eq_of_toBitVec_eq
  simp only [UInt8.toBitVec_and]
  ext i hi
  have : (255 : UInt8).toBitVec[i] = true := by
    have : ∀ i : Nat, (h : i < 8) → (255 : UInt8).toBitVec[i] = true := by decide
    exact this i hi
  simp only [BitVec.getElem_and, this, Bool.and_true]
/-- Of a mask the first 1024 bytes count. -/
theorem maskAt_take (xm : List UInt8) (i : Nat) (h : i < 1024) : maskAt (xm.take 1024) i = maskAt xm i := by
  unfold maskAt
  by_cases hl : xm.length ≤ 1024
  · rw [List.take_of_length_le hl]
  · have h1 : (xm.take 1024).length = 1024 := by rw [List.length_take]; omega
    rw [h1, if_neg (by decide), if_neg (by omega), Nat.mod_eq_of_lt h, Nat.mod_eq_of_lt (by omega)]
    simp only [List.getD_eq_getElem?_getD]
    rw [List.getElem?_take, if_pos h]
theorem drewN_grow {w w' : World} {r : Option Nat} (h : w.grownBy w' r) (q : Nat) : w.grownBy (w'.drewN q) r := ⟨h.os, h.tape, h.output, h.size, h.block⟩
end Go.Proofs.Ytolpiklhnafnbaa
