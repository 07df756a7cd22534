/- A block that is known whole, as a list of its cells. Nothing here speaks of one program. -/
import Derived.Test.YtolpiklhnafnbaaWords
import Derived.Deep.MidRow
import Derived.Laws.CopyOwn
namespace Go.Proofs.Ytolpiklhnafnbaa
set_option maxRecDepth 100000
open Go.RowKit Wd

/-- A block that is known whole. -/
def Row (w : World) (g : Nat) (T : TypeId) (cs : List Value) : Prop := w.heap[g]? = some (.cells cs.toArray T (0, 0))
section
variable {w : World} {g : Nat} {T : TypeId} {cs : List Value}
theorem Row.new (w : World) (T : TypeId) (cs : List Value) : Row (w.alloc (.cells cs.toArray T)) w.heap.size T cs := heap_alloc_new w _
theorem Row.lt (h : Row w g T cs) : g < w.heap.size := (Array.getElem?_eq_some_iff.1 h).1
theorem Row.cell (h : Row w g T cs) {j : Nat} {v : Value} (hj : cs[j]? = some v) : w.cell? ⟨g, j, none⟩ = some v := by
  rw [cell_of_row w g j _ T (0, 0) h, List.getElem?_toArray]; exact hj
theorem Row.frozen (h : Row w g T cs) (j : Nat) : w.frozen? ⟨g, j, none⟩ = false := frozen_of_row w g j _ T h
theorem Row.set (h : Row w g T cs) (i : Nat) (v : Value) : Row (w.setCell ⟨g, i, none⟩ v) g T (cs.set i v) := by
  have := heap_setCell_same w g i _ T v h
  simpa [Row] using this
theorem Row.other (h : Row w g T cs) (a : Addr) (v : Value) (hne : g ≠ a.block) : Row (w.setCell a v) g T cs := (heap_setCell_other w a g v hne).trans h
theorem Row.drew (h : Row w g T cs) : Row w.drew g T cs := h
theorem Row.alloc (h : Row w g T cs) (o : Obj) : Row (w.alloc o) g T cs := (Below.heap_alloc w o g h.lt).trans h
theorem Row.below {w' : World} {B : Nat} (h : Row w g T cs) (hb : Below B w w') (hg : g < B) : Row w' g T cs := (hb.block g hg).trans h
theorem Row.range (h : Row w g T cs) (o : Nat) (xs : List Value) (hx : ∀ j v, xs[j]? = some v → cs[o + j]? = some v) : w.rangeAt g o xs := fun j v hv => h.cell (hx j v hv)
theorem Row.there (h : Row w g T cs) (o n : Nat) (hn : o + n ≤ cs.length) : w.there g o n := fun j hj =>
  ⟨by rw [h.cell (List.getElem?_eq_getElem (show o + j < cs.length by omega))]; rfl, h.frozen _⟩
theorem below_set {B : Nat} {w0 : World} (h : Below B w0 w) (g i : Nat) (v : Value) (hg : B ≤ g) : Below B w0 (w.setCell ⟨g, i, none⟩ v) :=
  h.trans ⟨rfl, rfl, rfl, by simp, fun k hk => heap_setCell_other w _ k v (show k ≠ g by omega)⟩
end
theorem setCells_row (g : Nat) (T : TypeId) : ∀ (vs : List Value) (o : Nat) (w : World) (cs : List Value), Row w g T cs → o + vs.length ≤ cs.length → Row (w.setCells g o vs) g T (splice cs o vs)
  | [], o, _, cs, h, _ => by simpa [splice, World.setCells] using h
  | v :: r, o, _, cs, h, hl => by
    rw [World.setCells]
    have h1 := setCells_row g T r (o + 1) _ _ (h.set o v) (by simp at hl ⊢; omega)
    have e : splice (cs.set o v) (o + 1) r = splice cs o (v :: r) := by
      have := list_seg_step cs o v r (by simpa using hl)
      unfold splice
      simpa [Nat.add_assoc, Nat.add_comm 1] using this
    rwa [e] at h1
theorem below_setCells {B g : Nat} {w0 : World} (hg : B ≤ g) : ∀ (vs : List Value) (o : Nat) (w : World), Below B w0 w → Below B w0 (w.setCells g o vs)
  | [], _, _, h => h
  | v :: r, o, _, h => below_setCells hg r (o + 1) _ (below_set h g o v hg)

end Go.Proofs.Ytolpiklhnafnbaa
