/- A literal of a slice with one element that takes several cells ('[]T{x}', or what an append makes of x). It speaks of no program. -/
import Derived.Test.YtkclbhmjhjfgiaaDoorWords
namespace Go.Proofs.YtkclbhmjhjfgiaaDoor
open Go.RowKit Wd

theorem fold_set (L : List Value) : ∀ (o : Nat) (Z : Array Value), o + L.length ≤ Z.size → (L.zipIdx o).foldl (fun (cs : Array Value) (p : Value × Nat) => cs.setIfInBounds p.2 p.1) Z = (Z.toList.take o ++ (L ++ Z.toList.drop (o + L.length))).toArray := by
  induction L with
  | nil => intro o Z _; simp
  | cons x r ih =>
    intro o Z h
    rw [List.zipIdx_cons, List.foldl_cons, ih (o + 1) _ (by simp at h ⊢; omega)]
    simp only [List.length_cons] at h
    congr 1
    rw [Array.toList_setIfInBounds, List.take_set, List.drop_set_of_lt (by omega)]
    have e : (Z.toList.take (o + 1)).set o x = Z.toList.take o ++ [x] := by
      rw [List.take_succ_eq_append_getElem (by rw [Array.length_toList]; omega), List.set_append_right _ _ (by rw [List.length_take]; omega)]
      have : o - (Z.toList.take o).length = 0 := by rw [List.length_take, Array.length_toList]; omega
      rw [this, List.set_cons_zero]
    rw [e, List.append_assoc, show o + 1 + r.length = o + (x :: r).length by simp; omega]
    rfl

section
variable {P : Program}
theorem run_slice_one (w : World) (t e : TypeId) (i : TypeInfo) (z : Value) (ht : P.underlying t = some (.slice e)) (hi : P.info? e = some i) (hz : i.zero = some z) (L : List Value) (hL : L.length = i.size) (h0 : 0 < i.size) (hs : i.size ≤ 16777216) :
    (Instr.buildSlice t 1 #[(0, .agg L.toArray)]).run P w = .ok (.slice (some ⟨w.heap.size, 0, none⟩) 1 1) (w.alloc (.cells L.toArray e)) := by
  have hf : Instr.fill (fun j => some (j * i.size, i.size)) ((Array.range (1 * i.size)).map (z.cells[· % z.cells.size]!)) [(0, .agg L.toArray)] = some L.toArray := by
    have hsz : (Value.agg L.toArray).cells = L.toArray := rfl
    simp only [Instr.fill, hsz, List.size_toArray, hL]
    rw [if_neg (by simp)]
    congr 1
    rw [← Array.foldl_toList, Array.toList_zipIdx]
    have h := fold_set L 0 ((Array.range (1 * i.size)).map (z.cells[· % z.cells.size]!)) (by simp; omega)
    simp only [Nat.zero_mul, Nat.zero_add] at h ⊢
    rw [h, List.take_zero, List.nil_append, List.drop_eq_nil_of_le (by simp; omega), List.append_nil]
  have h1 : ¬ (1 * i.size > 2 ^ 24) := by omega
  have h2 : ¬ (1 * i.size = 0) := by omega
  have hti : ∀ W, (typeInfo e).run P W = .ok i W := fun W => by simp [typeInfo, hi]
  have hso : ∀ W, (sizeOf e).run P W = .ok i.size W := fun W => by simp [sizeOf, hti]
  have hzv : ∀ W, (zeroValue e).run P W = .ok z W := fun W => by simp [zeroValue, hti, hz]
  unfold Instr.buildSlice
  simp only [Sem.run_bind, run_underlying ht, Result.andThen_ok, hso, if_neg h1, if_neg h2, Sem.run_pure, hzv, hf]
  simp [newRow]
/-- As the walk meets it. -/
theorem wpList_slice_one {ops : Array Oper} {rest : List Oper} {o : Oper} {a : Act} {w : World} {Q : Exit → Act → World → Prop} (hgd : o.guard = none) (t e : TypeId) (x : Operand) (ho : o.op = .buildSlice t 1 #[(0, x)]) (i : TypeInfo) (z : Value)
    (ht : P.underlying t = some (.slice e)) (hi : P.info? e = some i) (hz : i.zero = some z) (L : List Value) (hL : L.length = i.size) (h0 : 0 < i.size) (hs : i.size ≤ 16777216) (hx : a.eval x = .agg L.toArray)
    (h : wpList P ops Q rest (a.put o.dst (.slice (some ⟨w.heap.size, 0, none⟩) 1 1)) (w.alloc (.cells L.toArray e))) : wpList P ops Q (o :: rest) a w :=
  wpList_plain hgd fun K hK => by
    have hr := run_slice_one (P := P) w t e i z ht hi hz L hL h0 hs
    unfold Oper.wp execOp
    simp only [ho]
    simp [hx, hr]
    exact hK _ _ h
end
end Go.Proofs.YtkclbhmjhjfgiaaDoor
