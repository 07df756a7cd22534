/- Arrays of 32-bit words and of bytes in blocks that are known whole. They speak of no package of the program. -/
import Derived.Test.YtkclbhmjhjfgiaaDoorParts
import Derived.Test.YtkclbhmjhjfgiaaDoorU32
import Derived.Deep.MidRow
import Derived.Laws.CopyOwn
namespace Go.Proofs.YtkclbhmjhjfgiaaDoor
open Go.RowKit Wd Nm Cm

/-- Words as cells. -/
def wc (l : List (BitVec 32)) : List Value := l.map fun c => Value.int .u32 (tn c)
theorem wc_len (l : List (BitVec 32)) : (wc l).length = l.length := by simp [wc]
theorem wc_app (a b : List (BitVec 32)) : wc (a ++ b) = wc a ++ wc b := by simp [wc]
theorem wc_get (l : List (BitVec 32)) (j : Nat) (h : j < l.length) : (wc l)[j]? = some (.int .u32 (tn (l.getD j 0))) := by
  simp [wc, List.getElem?_eq_getElem h, List.getD]
theorem wc_one (l : List (BitVec 32)) : ∀ u ∈ wc l, u.oneCell' = true := by
  intro u hu
  obtain ⟨_, _, rfl⟩ := List.mem_map.1 hu
  rfl
theorem wc_set (l : List (BitVec 32)) (k : Nat) (c : BitVec 32) : (wc l).set k (.int .u32 (tn c)) = wc (l.set k c) := by
  unfold wc
  rw [← List.map_set]

/-- A block that is known whole. -/
def Row (w : World) (g : Nat) (T : TypeId) (cs : List Value) : Prop := w.heap[g]? = some (.cells cs.toArray T (0, 0))
section
variable {w : World} {g : Nat} {T : TypeId} {cs : List Value}
theorem Row.new (w : World) (T : TypeId) (cs : List Value) : Row (w.alloc (.cells cs.toArray T)) w.heap.size T cs := heap_alloc_new w _
theorem Row.lt (h : Row w g T cs) : g < w.heap.size := (Array.getElem?_eq_some_iff.1 h).1
theorem Row.cell (h : Row w g T cs) {j : Nat} {v : Value} (hj : cs[j]? = some v) : w.cell? ⟨g, j, none⟩ = some v := by
  rw [cell_of_row w g j _ T (0, 0) h, List.getElem?_toArray]; exact hj
theorem Row.frozen (h : Row w g T cs) (j : Nat) : w.frozen? ⟨g, j, none⟩ = false := frozen_of_row w g j _ T h
theorem Row.set (h : Row w g T cs) (i : Nat) (v : Value) : Row (w.setCell ⟨g, i, none⟩ v) g T (cs.set i v) := by
  have := heap_setCell_same w g i _ T v h
  simpa [Row] using this
theorem Row.other (h : Row w g T cs) (a : Addr) (v : Value) (hne : g ≠ a.block) : Row (w.setCell a v) g T cs := (heap_setCell_other w a g v hne).trans h
theorem Row.drew (h : Row w g T cs) : Row w.drew g T cs := h
theorem Row.alloc (h : Row w g T cs) (o : Obj) : Row (w.alloc o) g T cs := (Below.heap_alloc w o g h.lt).trans h
theorem Row.below {w' : World} {B : Nat} (h : Row w g T cs) (hb : Below B w w') (hg : g < B) : Row w' g T cs := (hb.block g hg).trans h
theorem Row.range (h : Row w g T cs) (o : Nat) (xs : List Value) (hx : ∀ j v, xs[j]? = some v → cs[o + j]? = some v) : w.rangeAt g o xs := fun j v hv => h.cell (hx j v hv)
theorem Row.there (h : Row w g T cs) (o n : Nat) (hn : o + n ≤ cs.length) : w.there g o n := fun j hj =>
  ⟨by rw [h.cell (List.getElem?_eq_getElem (show o + j < cs.length by omega))]; rfl, h.frozen _⟩
theorem below_set {B : Nat} {w0 : World} (h : Below B w0 w) (g i : Nat) (v : Value) (hg : B ≤ g) : Below B w0 (w.setCell ⟨g, i, none⟩ v) :=
  h.trans ⟨rfl, rfl, rfl, by simp, fun k hk => heap_setCell_other w _ k v (show k ≠ g by omega)⟩
end
theorem setCells_row (g : Nat) (T : TypeId) : ∀ (vs : List Value) (o : Nat) (w : World) (cs : List Value), Row w g T cs → o + vs.length ≤ cs.length → Row (w.setCells g o vs) g T (splice cs o vs)
  | [], o, _, cs, h, _ => by simpa [splice, World.setCells] using h
  | v :: r, o, _, cs, h, hl => by
    rw [World.setCells]
    have h1 := setCells_row g T r (o + 1) _ _ (h.set o v) (by simp at hl ⊢; omega)
    have e : splice (cs.set o v) (o + 1) r = splice cs o (v :: r) := by
      have := list_seg_step cs o v r (by simpa using hl)
      unfold splice
      simpa [Nat.add_assoc, Nat.add_comm 1] using this
    rwa [e] at h1
theorem below_setCells {B g : Nat} {w0 : World} (hg : B ≤ g) : ∀ (vs : List Value) (o : Nat) (w : World), Below B w0 w → Below B w0 (w.setCells g o vs)
  | [], _, _, h => h
  | v :: r, o, _, h => below_setCells hg r (o + 1) _ (below_set h g o v hg)

section
variable {P : Program}
/-- An element of an array by value. -/
theorem part_cell (w : World) (e : TypeId) (k : IntKind) (he : P.underlying e = some (.int k)) (cs : List Value) (j : Nat) (v : Value) (hv : cs[j]? = some v) : (part e cs.toArray j).run P w = .ok v w := by
  have ha : (isAgg e).run P w = .ok false w := by
    unfold isAgg
    rw [Sem.run_bind, run_underlying he w]
    rfl
  have hv' : cs.toArray[j]? = some v := by rw [List.getElem?_toArray]; exact hv
  simp only [part, Sem.run_bind, ha, Result.andThen_ok, Bool.false_eq_true, if_false, hv', Sem.run_pure]
theorem size_one (w : World) (e : TypeId) (hi : (P.info? e).map (·.size) = some 1) : (sizeOf e).run P w = .ok 1 w := by
  cases hq : P.info? e with
  | none => simp [hq] at hi
  | some i =>
    have : i.size = 1 := by simpa [hq] using hi
    simp [sizeOf, typeInfo, hq, this]
theorem index_cell (w : World) (t e : TypeId) (k : IntKind) (n : Nat) (ht : P.underlying t = some (.array n e)) (he : P.underlying e = some (.int k)) (hi : (P.info? e).map (·.size) = some 1)
    (cs : List Value) (i : Int) (j : Nat) (hj : i = j) (hjn : j < n) (v : Value) (hv : cs[j]? = some v) : (Instr.index t (.agg cs.toArray) (.int .i64 i)).run P w = .ok v w := by
  subst hj
  have hb : (0 : Int) ≤ (j : Int) ∧ (j : Int) < (n : Int) := by omega
  have hp := part_cell w e k he cs j v hv
  simp [Instr.index, asIntOf, run_underlying ht, hb, size_one w e hi, hp]
  intro h
  omega
end
end Go.Proofs.YtkclbhmjhjfgiaaDoor
