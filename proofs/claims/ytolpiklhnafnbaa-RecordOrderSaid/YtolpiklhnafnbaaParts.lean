/- Parts: slices of bytes, one behind the other. They speak of no package of the program. -/
import Derived.Test.YtolpiklhnafnbaaProg
import Derived.Test.YtolpiklhnafnbaaCz
import Derived.Deep.Matrix
import Derived.Deep.LoopGhost
import Derived.Lib.Hide
import Derived.Lib.ConvBytes
namespace Go.Proofs.Ytolpiklhnafnbaa
set_option maxRecDepth 100000
open Go.RowKit Wd Nm

/-- A part: where it lies, how long it is, what room it has, its bytes. -/
structure Part where
  A : Option Addr
  n : Nat
  cap : Nat
  l : List UInt8
def Part.val (p : Part) : Value := .slice p.A p.n p.cap
def joined : List Part → List UInt8
  | [] => []
  | p :: r => p.l ++ joined r
def total : List Part → Nat
  | [] => 0
  | p :: r => p.n + total r
theorem total_app (a b : List Part) : total (a ++ b) = total a + total b := by
  induction a with
  | nil => simp [total]
  | cons p r ih => simp [total, ih]; omega
theorem joined_app (a b : List Part) : joined (a ++ b) = joined a ++ joined b := by
  induction a with
  | nil => simp [joined]
  | cons p r ih => simp [joined, ih]
theorem take_next (ps : List Part) (j : Nat) (h : j < ps.length) : ps.take (j + 1) = ps.take j ++ [ps[j]] := by
  rw [List.take_succ_eq_append_getElem h]
theorem total_next (ps : List Part) (j : Nat) (h : j < ps.length) : total (ps.take (j + 1)) = total (ps.take j) + ps[j].n := by
  rw [take_next ps j h, total_app]; simp [total]
theorem joined_next (ps : List Part) (j : Nat) (h : j < ps.length) : joined (ps.take (j + 1)) = joined (ps.take j) ++ ps[j].l := by
  rw [take_next ps j h, joined_app]; simp [joined]
theorem total_le (ps : List Part) (j : Nat) : total (ps.take j) ≤ total ps := by
  have h := total_app (ps.take j) (ps.drop j)
  rw [List.take_append_drop] at h
  omega

/-- The parts lie as the cells of block g, and each shows its bytes. -/
def Laid (w : World) (B g : Nat) (ps : List Part) : Prop := ∀ j (h : j < ps.length), w.cell? ⟨g, j, none⟩ = some (.slice ps[j].A ps[j].n ps[j].cap) ∧ Shows w B ps[j].A ps[j].n ps[j].cap ps[j].l

/-- Two parts in the block that the call has just made. -/
theorem laid_two {w : World} {p q : Part} (hp : Shows w w.heap.size p.A p.n p.cap p.l) (hq : Shows w w.heap.size q.A q.n q.cap q.l) (T : TypeId) :
    Laid (w.alloc (.cells #[.slice p.A p.n p.cap, .slice q.A q.n q.cap] T)) (w.alloc (.cells #[.slice p.A p.n p.cap, .slice q.A q.n q.cap] T)).heap.size w.heap.size [p, q] := by
  have hb : Below w.heap.size w (w.alloc (.cells #[.slice p.A p.n p.cap, .slice q.A q.n q.cap] T)) := (Below.refl _ _).alloc (Nat.le_refl _) _
  have hn := heap_alloc_new w (.cells #[.slice p.A p.n p.cap, .slice q.A q.n q.cap] T)
  intro j hj
  match j, hj with
  | 0, _ => exact ⟨by rw [cell_of_row _ _ 0 _ T (0, 0) hn]; rfl, (hp.below hb).more hb.size⟩
  | 1, _ => exact ⟨by rw [cell_of_row _ _ 1 _ T (0, 0) hn]; rfl, (hq.below hb).more hb.size⟩

theorem laid_three {w : World} {p q r : Part} (hp : Shows w w.heap.size p.A p.n p.cap p.l) (hq : Shows w w.heap.size q.A q.n q.cap q.l) (hr : Shows w w.heap.size r.A r.n r.cap r.l) (T : TypeId) :
    Laid (w.alloc (.cells #[.slice p.A p.n p.cap, .slice q.A q.n q.cap, .slice r.A r.n r.cap] T)) (w.alloc (.cells #[.slice p.A p.n p.cap, .slice q.A q.n q.cap, .slice r.A r.n r.cap] T)).heap.size w.heap.size [p, q, r] := by
  have hb : Below w.heap.size w (w.alloc (.cells #[.slice p.A p.n p.cap, .slice q.A q.n q.cap, .slice r.A r.n r.cap] T)) := (Below.refl _ _).alloc (Nat.le_refl _) _
  have hn := heap_alloc_new w (.cells #[.slice p.A p.n p.cap, .slice q.A q.n q.cap, .slice r.A r.n r.cap] T)
  intro j hj
  match j, hj with
  | 0, _ => exact ⟨by rw [cell_of_row _ _ 0 _ T (0, 0) hn]; rfl, (hp.below hb).more hb.size⟩
  | 1, _ => exact ⟨by rw [cell_of_row _ _ 1 _ T (0, 0) hn]; rfl, (hq.below hb).more hb.size⟩
  | 2, _ => exact ⟨by rw [cell_of_row _ _ 2 _ T (0, 0) hn]; rfl, (hr.below hb).more hb.size⟩

/-- Slices that lie one behind the other, each of which shows its bytes. -/
structure LaidAt (w : World) (B : Nat) (A : Option Addr) (n : Nat) (ps : List Part) : Prop where
  len : ps.length = n
  spot : 0 < n → ∃ g o, A = some ⟨g, o, none⟩ ∧ g < B ∧ ∀ j (h : j < ps.length), w.cell? ⟨g, o + j, none⟩ = some (.slice ps[j].A ps[j].n ps[j].cap)
  each : ∀ p ∈ ps, Shows w B p.A p.n p.cap p.l
theorem LaidAt.below {w w' : World} {B : Nat} {A : Option Addr} {n : Nat} {ps : List Part} (h : LaidAt w B A n ps) (hb : Below B w w') : LaidAt w' B A n ps :=
  ⟨h.len, fun hn => by
    obtain ⟨g, o, e, hg, hc⟩ := h.spot hn
    exact ⟨g, o, e, hg, fun j hj => (hb.cell (p := ⟨g, o + j, none⟩) hg).trans (hc j hj)⟩, fun p hp => (h.each p hp).below hb⟩
theorem LaidAt.of_laid {w : World} {B g : Nat} {ps : List Part} (h : Laid w B g ps) (hg : g < B) : LaidAt w B (some ⟨g, 0, none⟩) ps.length ps :=
  ⟨rfl, fun _ => ⟨g, 0, rfl, hg, fun j hj => by rw [Nat.zero_add]; exact (h j hj).1⟩, fun p hp => by
    obtain ⟨j, hj, rfl⟩ := List.mem_iff_getElem.1 hp
    exact (h j hj).2⟩

/-! ### a slice of slices of bytes that came in -/
theorem open_parts {H : Type} {enc : TypeId × Value → H} {W : World} {held : Bool} {fuel : Nat} {cs : List Value} {x : DataW H × List MemPlace} (h : DataW.trod enc Try.prog W 0 (fun _ => true) held fuel 39 cs = some x)
    (A : Option Addr) (len cap : Nat) (hcs : cs = [.slice A len cap]) : (∃ ps : List Part, LaidAt W W.heap.size A len ps) ∧ len ≤ cap ∧ cap ≤ maxLen := by
  subst hcs
  rcases Deep.open_int_rows Try.underlying39 Try.underlying29 Try.underlying5 (by kernel_rfl) (by kernel_rfl) h with ⟨hcs, _⟩ | ⟨a, len', cap', A', L, C, Z, hcs, _, hl, hm, _, hr⟩
  · injection hcs with hcs
    injection hcs with h1 h2 h3
    subst h1 h2 h3
    exact ⟨⟨[], rfl, fun h => absurd h (by omega), fun p hp => by cases hp⟩, Nat.le_refl _, Nat.zero_le _⟩
  · injection hcs with hcs
    injection hcs with h1 h2 h3
    subst h1 h2 h3
    refine ⟨⟨(List.range len).map fun r => ⟨A' r, L r, C r, ((Z r).take (L r)).map fun z => UInt8.ofNat z.toNat⟩, by simp, fun h0 => ?_, fun p hp => ?_⟩, hl, hm⟩
    · obtain ⟨g, o, spot⟩ := a
      have h0' := (hr 0 (by omega)).1
      have hs : spot = none := by simpa [Addr.add] using World.cell?_spot h0'
      subst hs
      refine ⟨g, o, rfl, ?_, fun j hj => ?_⟩
      · have := World.block_lt_of_cell? W _ h0'
        simpa [Addr.add] using this
      · have hj' : j < len := by simpa using hj
        have := (hr j (by omega)).1
        rw [Addr.add_lit] at this
        simpa using this
    · obtain ⟨r, hrl, rfl⟩ := List.mem_map.1 hp
      have hrl' : r < len := by simpa using hrl
      obtain ⟨_, r1, r2, r3, r4, r5, r6⟩ := hr r (by omega)
      rcases hA : A' r with _ | x
      · have hc0 := r5 hA
        have hz : Z r = [] := List.eq_nil_of_length_eq_zero (by omega)
        have hL0 : L r = 0 := by omega
        simp only [hz, hL0, hc0, List.take_nil, List.map_nil]
        exact Shows.nil _ _
      · have hlay : Lays W W.heap.size (some x) (L r) (C r) (((Z r).map (Value.int .u8)).take (L r)) := Lays.of_cells r1 r2 (by simpa using r3) (fun i hi => by
          rw [List.length_map] at hi
          rw [(r6 x hA).2 i (by omega), List.getElem?_map, List.getElem?_eq_getElem hi, List.getD_eq_getElem?_getD, List.getElem?_eq_getElem hi]
          rfl)
        rw [← List.map_take, bc_of_ints _ (fun n hn => r4 n (List.mem_of_mem_take hn))] at hlay
        exact Shows.of_lays hlay

end Go.Proofs.Ytolpiklhnafnbaa
