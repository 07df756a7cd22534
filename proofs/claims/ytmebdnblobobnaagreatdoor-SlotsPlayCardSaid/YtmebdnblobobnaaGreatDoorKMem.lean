/- Merged: Cells of made blocks, and what a block of bytes shows. They speak of no package of the program. A block that is known whole, as a list of its cells. Nothing here speaks of one program. Cuts of slices of bytes. They speak of no package of the program. Contract for bytes.Clone: it speaks of no package of the program. 'make([]byte, n)'. It speaks of no package of the program. Noughts that were just made. They speak of no package of the program. New variables of arrays and structs, and whole stores, the world behind them a letter. They speak of no program. Parts: slices of bytes, one behind the other. They speak of no package of the program. A slice of slices of bytes that the call has made itself: each part lies in a block of its own kind. They speak of no package of the program. Contracts for slices.Grow, slices.Concat and bytes.Clone on slices of bytes, and what a block of made cells shows. They speak of no package of the program. Arrays of 32-bit words and of bytes in blocks that are known whole. They speak of no package of the program. Whether two arrays of bytes are one, as the program asks it. It speaks of no package of the program. -/
import Derived.Test.YtmebdnblobobnaaGreatDoorProg
import Derived.Test.YtmebdnblobobnaaGreatDoorKBase
import Derived.Deep.LoopGhost
import Derived.Lib.Hide
import Derived.Lib.ConvBytes
import Derived.Deep.MidRow
import Derived.Laws.CopyOwn
import Derived.Deep.Matrix
import Derived.Laws.StructEq
import Derived.Deep.QuietTactic
import Derived.BigQuiet
namespace Go.Proofs.YtmebdnblobobnaaGreatDoor
set_option maxRecDepth 100000
open Go.RowKit _root_.Go.Proofs.YtmebdnblobobnaaGreatDoor.Wd _root_.Go.Proofs.YtmebdnblobobnaaGreatDoor.Nm

theorem infoByte : (Tryz.prog.info? 5).map (fun i => (i.zero, i.size, i.bytes)) = some (some (.int .u8 0), 1, 1) := by kernel_rfl

def Cz (f : Nat → Int) (k sz : Nat) : Array Value := ((List.range k).map (fun i => Value.int .u8 (f i)) ++ List.replicate (sz - k) (Value.int .u8 0)).toArray
theorem Cz_size (f : Nat → Int) (k sz : Nat) (h : k ≤ sz) : (Cz f k sz).size = sz := by simp [Cz]; omega
theorem Cz_next (f : Nat → Int) (k sz : Nat) (h : k < sz) : (Cz f k sz)[k]? = some (.int .u8 0) := by
  unfold Cz
  rw [List.getElem?_toArray, List.getElem?_append_right (by simp), List.getElem?_replicate, if_pos (by simp; omega)]
theorem Cz_step (f : Nat → Int) (k sz : Nat) (h : k < sz) : (Cz f k sz).setIfInBounds k (.int .u8 (f k)) = Cz f (k + 1) sz := by
  unfold Cz
  apply Array.ext'
  rw [Array.toList_setIfInBounds]
  simp only [List.range_succ, List.map_append, List.append_assoc]
  rw [List.set_append_right _ _ (by simp)]
  have h1 : sz - k = (sz - (k + 1)) + 1 := by omega
  rw [h1, List.replicate_succ]
  simp
theorem Cz_zero (f : Nat → Int) (sz : Nat) : Cz f 0 sz = madeCells #[Value.int .u8 0] (sz * 1) := by
  apply Array.ext'
  rw [toList_madeCells_one]
  simp [Cz]
theorem Cz_full (n : Int) (k : Nat) : (Cz (fun i => n / 2 ^ (8 * i) % 256) k k).toList = bc (leb n k) := by
  simp only [Cz, Nat.sub_self, List.replicate_zero, List.append_nil, bc, leb, List.map_map]
  apply List.map_congr_left
  intro i _
  simp [lb_nat]

theorem shows_lit (x : Int) (k : Nat) (hk : k ≤ 8) (w : World) : Shows (w.alloc (.cells (Cz (fun i => x / 2 ^ (8 * i) % 256) k k) 5)) (w.heap.size + 1) (some ⟨w.heap.size, 0, none⟩) k k (leb x k) := by
  have h := World.ownsRow_lit (base := 0) (e := 5) (size := 1) w (Cz (fun i => x / 2 ^ (8 * i) % 256) k k) k (Nat.zero_le _) (by simp only [maxLen]; omega) (by rw [Cz_size _ _ _ (Nat.le_refl _), Nat.mul_one])
  rw [Cz_full] at h
  have := Shows.of_own h
  simpa using this

theorem shows_cells (w : World) (T : TypeId) (m : Nat × Nat) (l : List UInt8) (h : l.length ≤ 100000) : Shows (w.alloc (.cells (bc l).toArray T m)) (w.heap.size + 1) (some ⟨w.heap.size, 0, none⟩) l.length l.length l := by
  have hg := heap_alloc_new w (.cells (bc l).toArray T m)
  refine ⟨rfl, Nat.le_refl _, by unfold maxLen; omega, fun h0 => ⟨w.heap.size, 0, rfl, by omega, fun j hj => ?_⟩⟩
  rw [cell_of_row _ _ _ _ T m hg, Nat.zero_add, List.getElem?_toArray, bc_get l j hj]

theorem u8_of_wf {x : Int} (h : (Lit.int .u8 x).wf = true) : 0 ≤ x ∧ x ≤ 255 := by
  simp [Lit.wf, IntKind.min, IntKind.max, IntKind.signed, IntKind.bits] at h
  omega
theorem step_grow {w a b : World} {g : Nat} (h : Below w.heap.size w a) (hg : a.grownBy b (some g)) (hB : w.heap.size ≤ g) : Below w.heap.size w b :=
  h.grown hg h.size (by intro k hk; injection hk; omega)
theorem step_below {w a b : World} (h : Below w.heap.size w a) (h2 : Below a.heap.size a b) : Below w.heap.size w b := h.trans (h2.mono h.size)

theorem below_new {w w' : World} (h : Below w.heap.size w w') (o : Obj) : Below w.heap.size w (w'.alloc o) := h.alloc h.size o
theorem tmod_fix (a n : Int) (hn : 0 < n) : (if a.tmod n < 0 then a.tmod n + n else a.tmod n) = a % n := by
  have h := Int.tmod_add_mul_tdiv a n
  have h1 := Int.lt_tmod_of_pos a hn
  have h2 := Int.tmod_lt_of_pos a hn
  have h3 : a % n = (a.tmod n) % n := by
    conv => lhs; rw [← h]
    rw [Int.add_mul_emod_self_left]
  rw [h3]
  split
  · rw [← Int.add_emod_right, Int.emod_eq_of_lt (by omega) (by omega)]
  · rw [Int.emod_eq_of_lt (by omega) h2]

theorem ret_int {k : IntKind} {a b : Int} (h : a = b) : Ending.returned (.int k a) = .returned (.int k b) := by rw [h]

theorem cell_newn (W : World) (C : Array Value) (T : TypeId) (g j : Nat) (v : Value) (h : W.heap.size = g) (hv : C[j]? = some v) : (W.alloc (.cells C T)).drew.cell? ⟨g, j, none⟩ = some v := by
  subst h
  have hg := heap_alloc_new W (.cells C T)
  show (W.alloc (.cells C T)).cell? ⟨W.heap.size, j, none⟩ = some v
  rw [cell_of_row _ _ j _ T (0, 0) hg]
  exact hv
end Go.Proofs.YtmebdnblobobnaaGreatDoor

namespace Go.Proofs.YtmebdnblobobnaaGreatDoor
set_option maxRecDepth 100000
open Go.RowKit _root_.Go.Proofs.YtmebdnblobobnaaGreatDoor.Wd

/-- A block that is known whole. -/
def Row (w : World) (g : Nat) (T : TypeId) (cs : List Value) : Prop := w.heap[g]? = some (.cells cs.toArray T (0, 0))
section
variable {w : World} {g : Nat} {T : TypeId} {cs : List Value}
theorem Row.new (w : World) (T : TypeId) (cs : List Value) : Row (w.alloc (.cells cs.toArray T)) w.heap.size T cs := heap_alloc_new w _
theorem Row.lt (h : Row w g T cs) : g < w.heap.size := (Array.getElem?_eq_some_iff.1 h).1
theorem Row.cell (h : Row w g T cs) {j : Nat} {v : Value} (hj : cs[j]? = some v) : w.cell? ⟨g, j, none⟩ = some v := by
  rw [cell_of_row w g j _ T (0, 0) h, List.getElem?_toArray]; exact hj
theorem Row.frozen (h : Row w g T cs) (j : Nat) : w.frozen? ⟨g, j, none⟩ = false := frozen_of_row w g j _ T h
theorem Row.set (h : Row w g T cs) (i : Nat) (v : Value) : Row (w.setCell ⟨g, i, none⟩ v) g T (cs.set i v) := by
  have := heap_setCell_same w g i _ T v h
  simpa [Row] using this
theorem Row.other (h : Row w g T cs) (a : Addr) (v : Value) (hne : g ≠ a.block) : Row (w.setCell a v) g T cs := (heap_setCell_other w a g v hne).trans h
theorem Row.drew (h : Row w g T cs) : Row w.drew g T cs := h
theorem Row.alloc (h : Row w g T cs) (o : Obj) : Row (w.alloc o) g T cs := (Below.heap_alloc w o g h.lt).trans h
theorem Row.below {w' : World} {B : Nat} (h : Row w g T cs) (hb : Below B w w') (hg : g < B) : Row w' g T cs := (hb.block g hg).trans h
theorem Row.range (h : Row w g T cs) (o : Nat) (xs : List Value) (hx : ∀ j v, xs[j]? = some v → cs[o + j]? = some v) : w.rangeAt g o xs := fun j v hv => h.cell (hx j v hv)
theorem Row.there (h : Row w g T cs) (o n : Nat) (hn : o + n ≤ cs.length) : w.there g o n := fun j hj =>
  ⟨by rw [h.cell (List.getElem?_eq_getElem (show o + j < cs.length by omega))]; rfl, h.frozen _⟩
theorem below_set {B : Nat} {w0 : World} (h : Below B w0 w) (g i : Nat) (v : Value) (hg : B ≤ g) : Below B w0 (w.setCell ⟨g, i, none⟩ v) :=
  h.trans ⟨rfl, rfl, rfl, by simp, fun k hk => heap_setCell_other w _ k v (show k ≠ g by omega)⟩
end
theorem setCells_row (g : Nat) (T : TypeId) : ∀ (vs : List Value) (o : Nat) (w : World) (cs : List Value), Row w g T cs → o + vs.length ≤ cs.length → Row (w.setCells g o vs) g T (splice cs o vs)
  | [], o, _, cs, h, _ => by simpa [splice, World.setCells] using h
  | v :: r, o, _, cs, h, hl => by
    rw [World.setCells]
    have h1 := setCells_row g T r (o + 1) _ _ (h.set o v) (by simp at hl ⊢; omega)
    have e : splice (cs.set o v) (o + 1) r = splice cs o (v :: r) := by
      have := list_seg_step cs o v r (by simpa using hl)
      unfold splice
      simpa [Nat.add_assoc, Nat.add_comm 1] using this
    rwa [e] at h1
theorem below_setCells {B g : Nat} {w0 : World} (hg : B ≤ g) : ∀ (vs : List Value) (o : Nat) (w : World), Below B w0 w → Below B w0 (w.setCells g o vs)
  | [], _, _, h => h
  | v :: r, o, _, h => below_setCells hg r (o + 1) _ (below_set h g o v hg)

end Go.Proofs.YtmebdnblobobnaaGreatDoor

namespace Go.Proofs.YtmebdnblobobnaaGreatDoor
set_option maxRecDepth 100000
open Go.RowKit _root_.Go.Proofs.YtmebdnblobobnaaGreatDoor.Wd

theorem cut_lo (W : World) (A : Option Addr) (n cap c : Nat) (hc : c ≤ n) :
    (Instr.sliceAt 29 (.slice A n cap) (some (.int .i64 (c : Int))) none none).run Tryz.prog W = .ok (.slice (if cap = c then A else A.map (·.add c)) (n - c) (cap - c)) W := by
  have hE : Tryz.prog.elem 29 = 5 := by kernel_rfl
  have hu : Tryz.prog.underlying 29 = some (.slice (Tryz.prog.elem 29)) := by rw [hE]; exact Tryz.underlying29
  obtain ⟨i0, hi0, hz0, hz1, hz2⟩ := info_parts infoByte
  rw [run_sliceAt_slice W _ _ _ _ _ hu, run_slice_l W _ A n cap hu .i64 c (by omega) (by omega), hE]
  simp [sizeOf, typeInfo, hi0, hz1, Result.andThen, sliced]
theorem cut_hi (W : World) (A : Option Addr) (n cap c : Nat) (hc : c ≤ cap) :
    (Instr.sliceAt 29 (.slice A n cap) none (some (.int .i64 (c : Int))) none).run Tryz.prog W = .ok (.slice A c cap) W := by
  have hE : Tryz.prog.elem 29 = 5 := by kernel_rfl
  have hu : Tryz.prog.underlying 29 = some (.slice (Tryz.prog.elem 29)) := by rw [hE]; exact Tryz.underlying29
  obtain ⟨i0, hi0, hz0, hz1, hz2⟩ := info_parts infoByte
  rw [run_sliceAt_slice W _ _ _ _ _ hu, run_slice_h W _ A n cap hu .i64 c (by omega) (by omega), hE]
  simp [sizeOf, typeInfo, hi0, hz1, Result.andThen, sliced]
  intro _
  cases A with
  | none => rfl
  | some a => simp [Addr.add_zero']
end Go.Proofs.YtmebdnblobobnaaGreatDoor

namespace Go.Proofs.YtmebdnblobobnaaGreatDoor
set_option maxRecDepth 100000
open Go.RowKit _root_.Go.Proofs.YtmebdnblobobnaaGreatDoor.Wd _root_.Go.Proofs.YtmebdnblobobnaaGreatDoor.Nm

/- What it answers is a row of its own. -/
set_option maxHeartbeats 400000 in
theorem clone_own (A : Option Addr) (n cap : Nat) (l : List UInt8) (w : World) (hs : Shows w w.heap.size A n cap l) (hn : n ≤ 100000000000) :
    Calls Tryz.prog 56 #[.slice A n cap] w fun e w' => ∃ A2 c2, e = .returned (.slice A2 n c2) ∧ w'.ownsRow w.heap.size 5 1 (.slice A2 n c2) n (bc l) ∧ Below w.heap.size w w' := by
  have q22 : ∀ (w : World) (a : Option Addr) (n c n' c' : Nat), (binOp .eql 29 (.slice a n c) (.slice none n' c')).run Tryz.prog w = .ok (.bool a.isNone) w := fun w a n c n' c' => Lib.run_eql_slice_nil w _ _ a n c n' c' Tryz.underlying29
  obtain ⟨i0, hi0, hz0, hz1, hz2⟩ := info_parts infoByte
  rcases A with _ | a
  · have h0 : n = 0 := by
      rcases Nat.eq_zero_or_pos n with h | h
      · exact h
      · obtain ⟨g, o, e, _⟩ := hs.spot h
        cases e
    subst h0
    have hl : l = [] := List.eq_nil_of_length_eq_zero hs.len
    subst hl
    clear hs
    go_enter Tryz.func56, Tryz.ntmps56
    go_wp2
    go_ret
    exact ⟨none, 0, rfl, World.ownsRow_nil w w.heap.size 5 1, Below.refl _ _⟩
  · have hown : (w.alloc (.cells #[] 5)).ownsRow w.heap.size 5 1 (.slice (some ⟨w.heap.size, 0, none⟩) 0 0) 0 (bc []) := World.ownsRow_made w #[] 0 (Nat.le_refl _) (Nat.zero_le _) rfl
    have hb : Below w.heap.size w (w.alloc (.cells #[] 5)) := (Below.refl _ _).alloc (Nat.le_refl _) _
    have hsrc := (hs.below hb).src (P := Tryz.prog) Tryz.underlying29
    clear hs
    go_enter Tryz.func56, Tryz.ntmps56
    go_wp2_with (at_builtin; refine wpList_ap _ rfl _ _ 29 29 rfl w.heap.size 5 i0 Tryz.underlying29 hi0 hz0 hz1 hz2 _ 0 0 [] rfl hown _ n l rfl hsrc ?c1 ?c2 ?_)
    case c1 => omega
    case c2 => simp
    intro A2 c2 w2 hown2 _ hg2 _
    have hb2 := hb.grown hg2 (by simp) (by intro k hk; simp at hk; omega)
    have hs2 := hown2
    clear hown hsrc hown2 hg2 hb
    go_wp2
    go_ret
    exact ⟨A2, c2, rfl, hs2, hb2⟩

theorem clone_any (A : Option Addr) (n cap : Nat) (l : List UInt8) (w : World) (hs : Shows w w.heap.size A n cap l) (hn : n ≤ 100000000000) :
    Calls Tryz.prog 56 #[.slice A n cap] w fun e w' => ∃ A2 c2, e = .returned (.slice A2 n c2) ∧ Shows w' w'.heap.size A2 n c2 l ∧ Below w.heap.size w w' :=
  (clone_own A n cap l w hs hn).mono fun _ _ ⟨A2, c2, h1, h2, h3⟩ => ⟨A2, c2, h1, Shows.of_own h2, h3⟩
end Go.Proofs.YtmebdnblobobnaaGreatDoor

namespace Go.Proofs.YtmebdnblobobnaaGreatDoor
set_option maxRecDepth 100000
open Go.RowKit _root_.Go.Proofs.YtmebdnblobobnaaGreatDoor.Wd

theorem make_bytes (W : World) (N : Nat) (hN : N ≤ 1000000) : (Instr.makeSlice 29 (.int .i64 (N : Int)) (.int .i64 (N : Int))).run Tryz.prog W = .ok (.slice (some ⟨W.heap.size, 0, none⟩) N N) (W.alloc (.cells (bc (List.replicate N 0)).toArray 5)) := by
  obtain ⟨i0, hi0, hz0, hz1, hz2⟩ := info_parts infoByte
  have h := run_make (P := Tryz.prog) W 29 5 i0 _ Tryz.underlying29 hi0 hz0 .i64 .i64 N N (by omega) (by omega) (by rw [hz2]; omega) (by omega)
  simp only [Int.toNat_natCast] at h
  have e : madeCells #[Value.int .u8 0] (N * 1) = (bc (List.replicate N 0)).toArray := by
    apply Array.ext'
    rw [toList_madeCells_one, Nat.mul_one, bc, List.map_replicate]
    rfl
  rw [h, hz1, ← e]
  rfl
end Go.Proofs.YtmebdnblobobnaaGreatDoor

namespace Go.Proofs.YtmebdnblobobnaaGreatDoor
set_option maxRecDepth 100000
open Go.RowKit _root_.Go.Proofs.YtmebdnblobobnaaGreatDoor.Wd

/-- Noughts that were just made. -/
theorem made_shows (W : World) (N : Nat) (hN : N ≤ 100000) : Shows (W.alloc (.cells (bc (List.replicate N 0)).toArray 5)) (W.alloc (.cells (bc (List.replicate N 0)).toArray 5)).heap.size (some ⟨W.heap.size, 0, none⟩) N N (List.replicate N 0) := by
  have h := shows_cells W 5 (0, 0) (List.replicate N 0) (by rw [List.length_replicate]; exact hN)
  rw [List.length_replicate] at h
  have e : (W.alloc (.cells (bc (List.replicate N 0)).toArray 5)).heap.size = W.heap.size + 1 := by simp
  rw [e]
  exact h
end Go.Proofs.YtmebdnblobobnaaGreatDoor

namespace Go.Proofs.YtmebdnblobobnaaGreatDoor
set_option maxRecDepth 100000
open Go.RowKit _root_.Go.Proofs.YtmebdnblobobnaaGreatDoor.Wd

/-- A literal of an array, its cells said by the caller. -/
theorem wpList_build_is {P : Program} {ops : Array Oper} {rest : List Oper} {o : Oper} {a : Act} {w : World} {Q : Exit → Act → World → Prop} (hg : o.guard = none) (t : TypeId) (parts : Array (Nat × Operand)) (ho : o.op = .build t parts) (cells : Array Value)
    (hb : P.built t (parts.map fun (i, x) => (i, a.eval x)).toList = some cells) (h : wpList P ops Q rest (a.put o.dst (.agg cells)) w) : wpList P ops Q (o :: rest) a w :=
  wpList_build hg t parts ho (by rw [hb]; rfl) (by rw [hb]; exact h)

section
variable {P : Program}
/-- A new variable of an array or a struct, the world behind it a letter. -/
theorem wpList_alloc_row {ops : Array Oper} {rest : List Oper} {o : Oper} {a : Act} {w : World} {Q : Exit → Act → World → Prop} (hgd : o.guard = none) (t : TypeId) (ho : o.op = .alloc t) (cs : List Value)
    (hz : ∀ w : World, (zeroValue t).run P w = .ok (.agg cs.toArray) w)
    (h : ∀ w', Row w' w.heap.size t cs → Below w.heap.size w w' → w'.heap.size = w.heap.size + 1 → wpList P ops Q rest (a.put o.dst (.pointer (some ⟨w.heap.size, 0, none⟩))) w') : wpList P ops Q (o :: rest) a w :=
  wpList_plain hgd fun K hK => by
    unfold Oper.wp execOp
    simp only [ho]
    simp [Instr.alloc, newVar, newRow, hz, Value.cells]
    rw [Oper.upon_value]
    exact hK _ _ (h _ (Row.new w t cs) (below_new (Below.refl _ _) _) (by simp))
/-- A whole array or struct into a block, the world behind it a letter. -/
theorem wpList_store_as {ops : Array Oper} {rest : List Oper} {o : Oper} {a : Act} {w : World} {Q : Exit → Act → World → Prop} (hgd : o.guard = none) (ty : TypeId) (x y : Operand) (ho : o.op = .store ty x y)
    (g : Nat) (cells : List Value) (hx : a.eval x = .pointer (some ⟨g, 0, none⟩)) (hy : a.eval y = .agg cells.toArray)
    (t : TypeId) (old : List Value) (hg : Row w g t old) (hi : (P.info? ty).map (·.size) = some cells.length) (hold : old.length = cells.length) (h1 : ∀ v ∈ cells, v.oneCell' = true)
    (h : ∀ w', Row w' g t cells → (∀ k, k ≠ g → w'.heap[k]? = w.heap[k]?) → w.grownBy w' (some g) → w'.heap.size = w.heap.size → wpList P ops Q rest (a.put o.dst undef) w') : wpList P ops Q (o :: rest) a w := by
  refine wpList_store_row hgd ty x y ho g cells.toArray hx hy t old.toArray hg (by simpa using hi) (by simpa using hold) (all_oneCell_toArray h1) ?_
  refine h _ (setRow_heap w g _ _ t _ hg) (fun k hk => setRow_other w g k _ hk) ⟨rfl, rfl, rfl, by simp, fun k _ hk => setRow_other w g k _ (fun e => hk (by rw [e]))⟩ (by simp)
end

end Go.Proofs.YtmebdnblobobnaaGreatDoor

namespace Go.Proofs.YtmebdnblobobnaaGreatDoor
set_option maxRecDepth 100000
open Go.RowKit _root_.Go.Proofs.YtmebdnblobobnaaGreatDoor.Wd _root_.Go.Proofs.YtmebdnblobobnaaGreatDoor.Nm

/-- A part: where it lies, how long it is, what room it has, its bytes. -/
structure Part where
  A : Option Addr
  n : Nat
  cap : Nat
  l : List UInt8
def Part.val (p : Part) : Value := .slice p.A p.n p.cap
def joined : List Part → List UInt8
  | [] => []
  | p :: r => p.l ++ joined r
def total : List Part → Nat
  | [] => 0
  | p :: r => p.n + total r
theorem total_app (a b : List Part) : total (a ++ b) = total a + total b := by
  induction a with
  | nil => simp [total]
  | cons p r ih => simp [total, ih]; omega
theorem joined_app (a b : List Part) : joined (a ++ b) = joined a ++ joined b := by
  induction a with
  | nil => simp [joined]
  | cons p r ih => simp [joined, ih]
theorem take_next (ps : List Part) (j : Nat) (h : j < ps.length) : ps.take (j + 1) = ps.take j ++ [ps[j]] := by
  rw [List.take_succ_eq_append_getElem h]
theorem total_next (ps : List Part) (j : Nat) (h : j < ps.length) : total (ps.take (j + 1)) = total (ps.take j) + ps[j].n := by
  rw [take_next ps j h, total_app]; simp [total]
theorem joined_next (ps : List Part) (j : Nat) (h : j < ps.length) : joined (ps.take (j + 1)) = joined (ps.take j) ++ ps[j].l := by
  rw [take_next ps j h, joined_app]; simp [joined]
theorem total_le (ps : List Part) (j : Nat) : total (ps.take j) ≤ total ps := by
  have h := total_app (ps.take j) (ps.drop j)
  rw [List.take_append_drop] at h
  omega

/-- The parts lie as the cells of block g, and each shows its bytes. -/
def Laid (w : World) (B g : Nat) (ps : List Part) : Prop := ∀ j (h : j < ps.length), w.cell? ⟨g, j, none⟩ = some (.slice ps[j].A ps[j].n ps[j].cap) ∧ Shows w B ps[j].A ps[j].n ps[j].cap ps[j].l

/-- Two parts in the block that the call has just made. -/
theorem laid_two {w : World} {p q : Part} (hp : Shows w w.heap.size p.A p.n p.cap p.l) (hq : Shows w w.heap.size q.A q.n q.cap q.l) (T : TypeId) :
    Laid (w.alloc (.cells #[.slice p.A p.n p.cap, .slice q.A q.n q.cap] T)) (w.alloc (.cells #[.slice p.A p.n p.cap, .slice q.A q.n q.cap] T)).heap.size w.heap.size [p, q] := by
  have hb : Below w.heap.size w (w.alloc (.cells #[.slice p.A p.n p.cap, .slice q.A q.n q.cap] T)) := (Below.refl _ _).alloc (Nat.le_refl _) _
  have hn := heap_alloc_new w (.cells #[.slice p.A p.n p.cap, .slice q.A q.n q.cap] T)
  intro j hj
  match j, hj with
  | 0, _ => exact ⟨by rw [cell_of_row _ _ 0 _ T (0, 0) hn]; rfl, (hp.below hb).more hb.size⟩
  | 1, _ => exact ⟨by rw [cell_of_row _ _ 1 _ T (0, 0) hn]; rfl, (hq.below hb).more hb.size⟩

theorem laid_three {w : World} {p q r : Part} (hp : Shows w w.heap.size p.A p.n p.cap p.l) (hq : Shows w w.heap.size q.A q.n q.cap q.l) (hr : Shows w w.heap.size r.A r.n r.cap r.l) (T : TypeId) :
    Laid (w.alloc (.cells #[.slice p.A p.n p.cap, .slice q.A q.n q.cap, .slice r.A r.n r.cap] T)) (w.alloc (.cells #[.slice p.A p.n p.cap, .slice q.A q.n q.cap, .slice r.A r.n r.cap] T)).heap.size w.heap.size [p, q, r] := by
  have hb : Below w.heap.size w (w.alloc (.cells #[.slice p.A p.n p.cap, .slice q.A q.n q.cap, .slice r.A r.n r.cap] T)) := (Below.refl _ _).alloc (Nat.le_refl _) _
  have hn := heap_alloc_new w (.cells #[.slice p.A p.n p.cap, .slice q.A q.n q.cap, .slice r.A r.n r.cap] T)
  intro j hj
  match j, hj with
  | 0, _ => exact ⟨by rw [cell_of_row _ _ 0 _ T (0, 0) hn]; rfl, (hp.below hb).more hb.size⟩
  | 1, _ => exact ⟨by rw [cell_of_row _ _ 1 _ T (0, 0) hn]; rfl, (hq.below hb).more hb.size⟩
  | 2, _ => exact ⟨by rw [cell_of_row _ _ 2 _ T (0, 0) hn]; rfl, (hr.below hb).more hb.size⟩

/-- Slices that lie one behind the other, each of which shows its bytes. -/
structure LaidAt (w : World) (B : Nat) (A : Option Addr) (n : Nat) (ps : List Part) : Prop where
  len : ps.length = n
  spot : 0 < n → ∃ g o, A = some ⟨g, o, none⟩ ∧ g < B ∧ ∀ j (h : j < ps.length), w.cell? ⟨g, o + j, none⟩ = some (.slice ps[j].A ps[j].n ps[j].cap)
  each : ∀ p ∈ ps, Shows w B p.A p.n p.cap p.l
theorem LaidAt.below {w w' : World} {B : Nat} {A : Option Addr} {n : Nat} {ps : List Part} (h : LaidAt w B A n ps) (hb : Below B w w') : LaidAt w' B A n ps :=
  ⟨h.len, fun hn => by
    obtain ⟨g, o, e, hg, hc⟩ := h.spot hn
    exact ⟨g, o, e, hg, fun j hj => (hb.cell (p := ⟨g, o + j, none⟩) hg).trans (hc j hj)⟩, fun p hp => (h.each p hp).below hb⟩
theorem LaidAt.of_laid {w : World} {B g : Nat} {ps : List Part} (h : Laid w B g ps) (hg : g < B) : LaidAt w B (some ⟨g, 0, none⟩) ps.length ps :=
  ⟨rfl, fun _ => ⟨g, 0, rfl, hg, fun j hj => by rw [Nat.zero_add]; exact (h j hj).1⟩, fun p hp => by
    obtain ⟨j, hj, rfl⟩ := List.mem_iff_getElem.1 hp
    exact (h j hj).2⟩

/-! ### a slice of slices of bytes that came in -/
theorem open_parts {H : Type} {enc : TypeId × Value → H} {W : World} {held : Bool} {fuel : Nat} {cs : List Value} {x : DataW H × List MemPlace} (h : DataW.trod enc Tryz.prog W 0 (fun _ => true) held fuel 98 cs = some x)
    (A : Option Addr) (len cap : Nat) (hcs : cs = [.slice A len cap]) : (∃ ps : List Part, LaidAt W W.heap.size A len ps) ∧ len ≤ cap ∧ cap ≤ maxLen := by
  subst hcs
  rcases Deep.open_int_rows Tryz.underlying98 Tryz.underlying29 Tryz.underlying5 (by kernel_rfl) (by kernel_rfl) h with ⟨hcs, _⟩ | ⟨a, len', cap', A', L, C, Z, hcs, _, hl, hm, _, hr⟩
  · injection hcs with hcs
    injection hcs with h1 h2 h3
    subst h1 h2 h3
    exact ⟨⟨[], rfl, fun h => absurd h (by omega), fun p hp => by cases hp⟩, Nat.le_refl _, Nat.zero_le _⟩
  · injection hcs with hcs
    injection hcs with h1 h2 h3
    subst h1 h2 h3
    refine ⟨⟨(List.range len).map fun r => ⟨A' r, L r, C r, ((Z r).take (L r)).map fun z => UInt8.ofNat z.toNat⟩, by simp, fun h0 => ?_, fun p hp => ?_⟩, hl, hm⟩
    · obtain ⟨g, o, spot⟩ := a
      have h0' := (hr 0 (by omega)).1
      have hs : spot = none := by simpa [Addr.add] using World.cell?_spot h0'
      subst hs
      refine ⟨g, o, rfl, ?_, fun j hj => ?_⟩
      · have := World.block_lt_of_cell? W _ h0'
        simpa [Addr.add] using this
      · have hj' : j < len := by simpa using hj
        have := (hr j (by omega)).1
        rw [Addr.add_lit] at this
        simpa using this
    · obtain ⟨r, hrl, rfl⟩ := List.mem_map.1 hp
      have hrl' : r < len := by simpa using hrl
      obtain ⟨_, r1, r2, r3, r4, r5, r6⟩ := hr r (by omega)
      rcases hA : A' r with _ | x
      · have hc0 := r5 hA
        have hz : Z r = [] := List.eq_nil_of_length_eq_zero (by omega)
        have hL0 : L r = 0 := by omega
        simp only [hz, hL0, hc0, List.take_nil, List.map_nil]
        exact Shows.nil _ _
      · have hlay : Lays W W.heap.size (some x) (L r) (C r) (((Z r).map (Value.int .u8)).take (L r)) := Lays.of_cells r1 r2 (by simpa using r3) (fun i hi => by
          rw [List.length_map] at hi
          rw [(r6 x hA).2 i (by omega), List.getElem?_map, List.getElem?_eq_getElem hi, List.getD_eq_getElem?_getD, List.getElem?_eq_getElem hi]
          rfl)
        rw [← List.map_take, bc_of_ints _ (fun n hn => r4 n (List.mem_of_mem_take hn))] at hlay
        exact Shows.of_lays hlay

end Go.Proofs.YtmebdnblobobnaaGreatDoor

namespace Go.Proofs.YtmebdnblobobnaaGreatDoor
set_option maxRecDepth 100000
open Go.RowKit _root_.Go.Proofs.YtmebdnblobobnaaGreatDoor.Wd _root_.Go.Proofs.YtmebdnblobobnaaGreatDoor.Nm

/-- A part whose bytes lie in a block of bytes, from a block on. -/
structure PartOk (w : World) (base : Nat) (p : Part) : Prop where
  shows : Shows w w.heap.size p.A p.n p.cap p.l
  blk : ∀ a, p.A = some a → base ≤ a.block ∧ ∃ cs, w.heap[a.block]? = some (.cells cs 5 (0, 0))
theorem PartOk.of_own {w : World} {base : Nat} {A : Option Addr} {n cap : Nat} {l : List UInt8} (h : w.ownsRow base 5 1 (.slice A n cap) n (bc l)) : PartOk w base ⟨A, n, cap, l⟩ := by
  refine ⟨Shows.of_own h, fun a ha => ?_⟩
  rcases h.2 with ⟨h', _⟩ | ⟨g, cap', cur, h', hb, hg, _⟩
  · injection h' with h1 _ _
    rw [h1] at ha
    cases ha
  · injection h' with h1 _ _
    simp only at ha
    rw [h1] at ha
    injection ha with ha
    subst ha
    exact ⟨hb, cur, hg⟩
theorem PartOk.kept {w w' : World} {base : Nat} {p : Part} {r : Option Nat} (h : PartOk w base p) (hg : w.grownBy w' r) (hr : ∀ k cs, r = some k → w.heap[k]? ≠ some (.cells cs 5 (0, 0))) : PartOk w' base p := by
  have hb : ∀ a, p.A = some a → w'.heap[a.block]? = w.heap[a.block]? := fun a ha => by
    obtain ⟨_, cs, hc⟩ := h.blk a ha
    exact hg.block _ (Array.getElem?_eq_some_iff.1 hc).1 (fun e => hr a.block cs e.symm hc)
  refine ⟨⟨h.shows.len, h.shows.le, h.shows.top, fun hn => ?_⟩, fun a ha => ?_⟩
  · obtain ⟨g, o, e, hlt, hc⟩ := h.shows.spot hn
    refine ⟨g, o, e, Nat.lt_of_lt_of_le hlt hg.size, fun j hj => ?_⟩
    rw [World.cell?_of_block (a := ⟨g, o + j, none⟩) (show w'.heap[g]? = w.heap[g]? from hb ⟨g, o, none⟩ e)]
    exact hc j hj
  · obtain ⟨h1, cs, hc⟩ := h.blk a ha
    exact ⟨h1, cs, (hb a ha).trans hc⟩
theorem PartOk.below {w w' : World} {base : Nat} {p : Part} (h : PartOk w base p) (hb : Below w.heap.size w w') : PartOk w' base p := h.kept (below_grow hb none) (fun k cs e => by cases e)
theorem PartOk.mono {w : World} {base base' : Nat} {p : Part} (h : PartOk w base p) (hb : base' ≤ base) : PartOk w base' p := ⟨h.shows, fun a ha => ⟨Nat.le_trans hb (h.blk a ha).1, (h.blk a ha).2⟩⟩
/-- A slice of slices of bytes, of the call's own. -/
structure OwnParts (w : World) (base : Nat) (A : Option Addr) (n cap : Nat) (ps : List Part) : Prop where
  own : w.ownsRow base 29 1 (.slice A n cap) n (ps.map Part.val)
  each : ∀ p ∈ ps, PartOk w base p
theorem OwnParts.nil (w : World) (base : Nat) : OwnParts w base none 0 0 [] := ⟨World.ownsRow_nil _ _ _ _, fun p hp => by cases hp⟩
theorem OwnParts.len {w : World} {base : Nat} {A : Option Addr} {n cap : Nat} {ps : List Part} (h : OwnParts w base A n cap ps) : ps.length = n := by
  have := h.own.1
  simpa using this
theorem own_not_bytes {w : World} {base : Nat} {A : Option Addr} {n cap : Nat} {xs : List Value} (h : w.ownsRow base 29 1 (.slice A n cap) n xs) : ∀ k cs, (Value.ownBlock (.slice A n cap)) = some k → w.heap[k]? ≠ some (.cells cs 5 (0, 0)) := by
  intro k cs hk hc
  rcases h.2 with ⟨h', _⟩ | ⟨g, cap', cur, h', _, hg, _⟩
  · rw [h'] at hk
    cases hk
  · rw [h'] at hk
    injection hk with hk
    simp only at hk
    subst hk
    rw [hg] at hc
    injection hc with hc
    injection hc with _ h2 _
    exact absurd h2 (by decide)
theorem OwnParts.kept {w w' : World} {base : Nat} {A : Option Addr} {n cap : Nat} {ps : List Part} {r : Option Nat} (h : OwnParts w base A n cap ps) (hg : w.grownBy w' r) (hr : ∀ k cs T, r = some k → T = 5 ∨ T = 29 → w.heap[k]? ≠ some (.cells cs T (0, 0))) : OwnParts w' base A n cap ps := by
  refine ⟨h.own.kept hg ?_, fun p hp => (h.each p hp).kept hg (fun k cs e => hr k cs _ e (.inl rfl))⟩
  rcases h.own.2 with ⟨h', _⟩ | ⟨g, cap', cur, h', _, hgg, _⟩
  · rw [h']
    exact .inl rfl
  · rw [h']
    right
    intro e
    exact hr g cur _ e.symm (.inr rfl) hgg
theorem OwnParts.below {w w' : World} {base : Nat} {A : Option Addr} {n cap : Nat} {ps : List Part} (h : OwnParts w base A n cap ps) (hb : Below w.heap.size w w') : OwnParts w' base A n cap ps := h.kept (below_grow hb none) (fun k cs T e => by cases e)
theorem own_slice {w : World} {base size n : Nat} {e : TypeId} {v : Value} {xs : List Value} (h : w.ownsRow base e size v n xs) : ∃ A cap, v = .slice A n cap := by
  rcases h.2 with ⟨h', hn⟩ | ⟨g, cap', cur, h', _⟩
  · exact ⟨none, 0, by rw [h', hn]⟩
  · exact ⟨_, _, h'⟩
/-- One more part, behind the others. -/
theorem OwnParts.step {w w' : World} {base : Nat} {A : Option Addr} {n cap : Nat} {ps : List Part} (h : OwnParts w base A n cap ps) (p : Part) (hp : PartOk w base p) (O : Obj) (v' : Value) (ho : w'.ownsRow base 29 1 v' (n + 1) (ps.map Part.val ++ [p.val])) (hg : (w.alloc O).grownBy w' (Value.ownBlock (.slice A n cap))) :
    ∃ A' cap', v' = .slice A' (n + 1) cap' ∧ OwnParts w' base A' (n + 1) cap' (ps ++ [p]) := by
  obtain ⟨A', cap', rfl⟩ := own_slice ho
  have hnb := own_not_bytes (h.own.alloc O)
  refine ⟨A', cap', rfl, ⟨by rw [List.map_append]; exact ho, fun q hq => ?_⟩⟩
  have hq2 : PartOk w base q := by
    rcases List.mem_append.1 hq with h1 | h1
    · exact h.each q h1
    · simp only [List.mem_singleton] at h1
      subst h1
      exact hp
  exact (hq2.below (below_new (Below.refl _ _) O)).kept hg hnb
/-- As parts that lie one behind the other. -/
theorem OwnParts.laid {w : World} {base : Nat} {A : Option Addr} {n cap : Nat} {ps : List Part} (h : OwnParts w base A n cap ps) : LaidAt w w.heap.size A n ps := by
  refine ⟨h.len, fun hn => ?_, fun p hp => (h.each p hp).shows⟩
  rcases h.own.2 with ⟨h', h0⟩ | ⟨g, cap', cur, h', _, hg, _⟩
  · omega
  · injection h' with h1 h2 h3
    refine ⟨g, 0, h1, (Array.getElem?_eq_some_iff.1 hg).1, fun j hj => ?_⟩
    have := h.own.cells (g := g) (by rw [h1]; rfl) j (Part.val ps[j]) (by rw [List.getElem?_map, List.getElem?_eq_getElem hj]; rfl)
    rw [Addr.add_lit] at this
    exact this
theorem own_cap {w : World} {base size n : Nat} {e : TypeId} {A : Option Addr} {m cap : Nat} {xs : List Value} (h : w.ownsRow base e size (.slice A m cap) n xs) : n ≤ cap ∧ cap ≤ maxLen := by
  rcases h.2 with ⟨h', h0⟩ | ⟨g, cap', cur, h', _, _, h3, h4, _⟩
  · injection h' with _ h2 h3
    subst h3
    exact ⟨by omega, Nat.zero_le _⟩
  · injection h' with _ h2 h5
    subst h5
    exact ⟨h3, h4⟩
theorem new_one (w : World) (v : Value) (T : TypeId) : ∀ j u, [v][j]? = some u → (w.alloc (.cells #[v] T)).cell? ((⟨w.heap.size, 0, none⟩ : Addr).add j) = some u := by
  intro j u hu
  match j, hu with
  | 0, hu =>
    injection hu with hu
    subst hu
    have hg := heap_alloc_new w (.cells #[v] T)
    rw [Addr.add_lit, cell_of_row _ _ _ _ T (0, 0) hg]
    rfl
theorem infoSlice : (Tryz.prog.info? 29).map (fun i => (i.zero, i.size, i.bytes)) = some (some (.slice none 0 0), 1, 24) := by kernel_rfl
end Go.Proofs.YtmebdnblobobnaaGreatDoor

namespace Go.Proofs.YtmebdnblobobnaaGreatDoor
set_option maxRecDepth 100000
open Go.RowKit _root_.Go.Proofs.YtmebdnblobobnaaGreatDoor.Wd _root_.Go.Proofs.YtmebdnblobobnaaGreatDoor.Nm

set_option maxHeartbeats 400000 in
theorem grow_any (n : Nat) (hm : n ≤ 1000000000000) (w : World) :
    Calls Tryz.prog 111 #[.slice none 0 0, .int .i64 n] w fun e w' => ∃ A c, e = .returned (.slice A 0 c) ∧ w'.ownsRow w.heap.size 5 1 (.slice A 0 c) 0 (bc []) ∧ w.grownBy w' none := by
  have h5 : Tryz.t5.bytes = 1 := by kernel_rfl
  rcases Nat.eq_zero_or_pos n with h0 | h0
  · subst h0
    go_enter Tryz.func111, Tryz.ntmps111
    go_wp2
    go_ret
    exact ⟨none, 0, rfl, World.ownsRow_nil w _ _ 1, grow_refl w _⟩
  · have hb1 : (n : Int) * (Tryz.t5.bytes : Int) ≤ 281474976710656 := by rw [h5]; omega
    have hb2 : ¬ 281474976710656 < Builtin.nextslicecap n 0 * Tryz.t5.bytes := by
      rw [h5]
      have := growslice_fits (need := n) (old := 0) (bytes := 1) h0 (by omega)
      omega
    clear h5
    go_enter Tryz.func111, Tryz.ntmps111
    go_wp2
    go_ret
    refine ⟨_, _, rfl, ?_, grow_drew (World.grownBy_alloc w _ none)⟩
    have hge := grownCap_ge w n 0 5
    have hcm := grownCap_le_maxLen w n 0 5 (by simp only [maxLen]; omega)
    refine World.ownsRow_made (w := w.drew) _ _ (Nat.le_refl _) hcm ?_
    have hz1 : (#[Value.int IntKind.u8 0] : Array Value).size = 1 := rfl
    simp only [Array.size_append, size_zeroCells, hz1, Nat.mul_one]
    unfold grownCap at hge
    omega
set_option maxHeartbeats 1000000 in
theorem concat_any (ps : List Part) (g : Nat) (w : World) (hg : g < w.heap.size) (hl : Laid w w.heap.size g ps) (hk : ps.length ≤ 1000) (ht : total ps ≤ 1000000000000) :
    Calls Tryz.prog 91 #[.slice (some ⟨g, 0, none⟩) ps.length ps.length] w fun e w' => ∃ A c, e = .returned (.slice A (total ps) c) ∧ w'.ownsRow w.heap.size 5 1 (.slice A (total ps) c) (total ps) (bc (joined ps)) ∧ Below w.heap.size w w' := by
  obtain ⟨i0, hi0, hz0, hz1, hz2⟩ := info_parts infoByte
  go_enter Tryz.func91, Tryz.ntmps91
  go_wp2
  go_loop [3, 5, 11] (fun s _ i => ∃ j : Nat, j ≤ ps.length ∧ i = .int .i64 j ∧ s = .int .i64 (total (ps.take j) : Nat)) (fun _ _ i => ps.length - (intOf i).toNat)
  case atStart => exact ⟨0, Nat.zero_le _, rfl, rfl⟩
  case round =>
    obtain ⟨j, hj, rfl, rfl⟩ := hrel
    by_cases hlt : j < ps.length
    · have hc := (hl j hlt).1
      have hn := total_next ps j hlt
      have hle := total_le ps (j + 1)
      rw [hn] at hle
      have HN := Lib.hid hn
      clear hn
      go_wp2
      go_round
      case rel => exact ⟨j + 1, by omega, by go_num, by rw [HN.out]; go_num⟩
      case measure => simp [intOf]; omega
    · obtain rfl : j = ps.length := by omega
      have htk : ps.take ps.length = ps := List.take_length
      have HT := Lib.hid htk
      rw [htk]
      clear htk
      go_wp2_with (go_at_call 111; refine (grow_any _ ht _).mono ?_; rintro e w1 ⟨A, c, rfl, hown, hgr⟩)
      have hbel := grow_below hgr (Nat.le_refl w.heap.size) (by intro k hk; cases hk)
      clear hgr
      go_loopw [6, 8, 27] (fun s _ i wr => ∃ j : Nat, ∃ A c, j ≤ ps.length ∧ i = .int .i64 j ∧ s = .slice A (total (ps.take j)) c ∧ wr.ownsRow w.heap.size 5 1 (.slice A (total (ps.take j)) c) (total (ps.take j)) (bc (joined (ps.take j))) ∧ Below w.heap.size w wr) (fun _ _ i _ => ps.length - (intOf i).toNat)
      case atStart => exact ⟨0, A, c, Nat.zero_le _, rfl, rfl, hown, hbel⟩
      case round =>
        clear hown hbel
        obtain ⟨j, A, c, hj, rfl, rfl, hown, hbel⟩ := hrel
        by_cases hlt : j < ps.length
        · obtain ⟨hc, hsh⟩ := hl j hlt
          have hc' : wr.cell? ⟨g, j, none⟩ = some (.slice ps[j].A ps[j].n ps[j].cap) := (hbel.cell (p := ⟨g, j, none⟩) hg).trans hc
          have hsh' := hsh.below hbel
          have hle := total_le ps (j + 1)
          rw [total_next ps j hlt] at hle
          have HN := Lib.hid (total_next ps j hlt)
          have HJ := Lib.hid (joined_next ps j hlt)
          clear hc hsh
          go_wp2_with (at_builtin; refine wpList_ap _ rfl _ _ 29 29 rfl w.heap.size 5 i0 Tryz.underlying29 hi0 hz0 hz1 hz2 A _ c _ rfl hown _ _ _ rfl (hsh'.src Tryz.underlying29) ?c1 hbel.size ?_)
          case c1 => omega
          intro A2 c2 w2 hown2 _ hg2 _
          have hb2 := hbel.grown hg2 hbel.size (fun k hk => (own_block hown k hk).1)
          clear hg2 hown hbel
          go_wp2
          go_roundw
          case rel => exact ⟨j + 1, A2, c2, by omega, by go_num, by rw [HN.out], by rw [HN.out, HJ.out]; exact hown2, hb2⟩
          case measure => simp [intOf]; omega
        · obtain rfl : j = ps.length := by omega
          rw [HT.out] at hown ⊢
          go_wp2
          go_ret
          exact ⟨A, c, rfl, hown, hbel⟩

theorem concat_two (p q : Part) (w : World) (g : Nat) (hg : w.heap.size = g) (hp : Shows w g p.A p.n p.cap p.l) (hq : Shows w g q.A q.n q.cap q.l) (hsm : p.n + q.n ≤ 1000000000000) :
    Calls Tryz.prog 91 #[.slice (some ⟨g, 0, none⟩) 2 2] (w.alloc (.cells #[.slice p.A p.n p.cap, .slice q.A q.n q.cap] 29)) fun e w' => ∃ A c, e = .returned (.slice A (p.n + q.n) c) ∧ w'.ownsRow g 5 1 (.slice A (p.n + q.n) c) (p.n + q.n) (bc (p.l ++ q.l)) ∧ Below g w w' := by
  subst hg
  refine (concat_any [p, q] w.heap.size _ (by simp) (laid_two hp hq _) (by simp) (by simp [total]; omega)).mono ?_
  rintro e w' ⟨A, c, rfl, hown, hbel⟩
  have e1 : total [p, q] = p.n + q.n := by simp [total]
  have e2 : joined [p, q] = p.l ++ q.l := by simp [joined]
  rw [e1, e2] at hown
  rw [e1]
  refine ⟨A, c, rfl, ⟨hown.1, ?_⟩, ((Below.refl _ _).alloc (Nat.le_refl _) _).trans (hbel.mono (by simp))⟩
  rcases hown.2 with h | ⟨g, cap, cur, h1, h2, h3⟩
  · exact .inl h
  · exact .inr ⟨g, cap, cur, h1, by simp at h2; omega, h3⟩

theorem concat_three (p q r : Part) (w : World) (g : Nat) (hg : w.heap.size = g) (hp : Shows w g p.A p.n p.cap p.l) (hq : Shows w g q.A q.n q.cap q.l) (hr : Shows w g r.A r.n r.cap r.l) (hsm : p.n + q.n + r.n ≤ 1000000000000) :
    Calls Tryz.prog 91 #[.slice (some ⟨g, 0, none⟩) 3 3] (w.alloc (.cells #[.slice p.A p.n p.cap, .slice q.A q.n q.cap, .slice r.A r.n r.cap] 29)) fun e w' => ∃ A c, e = .returned (.slice A (p.n + q.n + r.n) c) ∧ w'.ownsRow g 5 1 (.slice A (p.n + q.n + r.n) c) (p.n + q.n + r.n) (bc (p.l ++ q.l ++ r.l)) ∧ Below g w w' := by
  subst hg
  refine (concat_any [p, q, r] w.heap.size _ (by simp) (laid_three hp hq hr _) (by simp) (by simp [total]; omega)).mono ?_
  rintro e w' ⟨A, c, rfl, hown, hbel⟩
  have e1 : total [p, q, r] = p.n + q.n + r.n := by simp [total]; omega
  have e2 : joined [p, q, r] = p.l ++ q.l ++ r.l := by simp [joined]
  rw [e1, e2] at hown
  rw [e1]
  refine ⟨A, c, rfl, ⟨hown.1, ?_⟩, ((Below.refl _ _).alloc (Nat.le_refl _) _).trans (hbel.mono (by simp))⟩
  rcases hown.2 with h | ⟨g, cap, cur, h1, h2, h3⟩
  · exact .inl h
  · exact .inr ⟨g, cap, cur, h1, by simp at h2; omega, h3⟩

end Go.Proofs.YtmebdnblobobnaaGreatDoor

namespace Go.Proofs.YtmebdnblobobnaaGreatDoor
set_option maxRecDepth 100000
open Go.RowKit _root_.Go.Proofs.YtmebdnblobobnaaGreatDoor.Wd _root_.Go.Proofs.YtmebdnblobobnaaGreatDoor.Nm _root_.Go.Proofs.YtmebdnblobobnaaGreatDoor.Cm

/-- Words as cells. -/
def wc (l : List (BitVec 32)) : List Value := l.map fun c => Value.int .u32 (tn c)
theorem wc_len (l : List (BitVec 32)) : (wc l).length = l.length := by simp [wc]
theorem wc_app (a b : List (BitVec 32)) : wc (a ++ b) = wc a ++ wc b := by simp [wc]
theorem wc_get (l : List (BitVec 32)) (j : Nat) (h : j < l.length) : (wc l)[j]? = some (.int .u32 (tn (l.getD j 0))) := by
  simp [wc, List.getElem?_eq_getElem h, List.getD]
theorem wc_one (l : List (BitVec 32)) : ∀ u ∈ wc l, u.oneCell' = true := by
  intro u hu
  obtain ⟨_, _, rfl⟩ := List.mem_map.1 hu
  rfl
theorem wc_set (l : List (BitVec 32)) (k : Nat) (c : BitVec 32) : (wc l).set k (.int .u32 (tn c)) = wc (l.set k c) := by
  unfold wc
  rw [← List.map_set]


section
variable {P : Program}
/-- An element of an array by value. -/
theorem part_cell (w : World) (e : TypeId) (k : IntKind) (he : P.underlying e = some (.int k)) (cs : List Value) (j : Nat) (v : Value) (hv : cs[j]? = some v) : (part e cs.toArray j).run P w = .ok v w := by
  have ha : (isAgg e).run P w = .ok false w := by
    unfold isAgg
    rw [Sem.run_bind, run_underlying he w]
    rfl
  have hv' : cs.toArray[j]? = some v := by rw [List.getElem?_toArray]; exact hv
  simp only [part, Sem.run_bind, ha, Result.andThen_ok, Bool.false_eq_true, if_false, hv', Sem.run_pure]
theorem size_one (w : World) (e : TypeId) (hi : (P.info? e).map (·.size) = some 1) : (sizeOf e).run P w = .ok 1 w := by
  cases hq : P.info? e with
  | none => simp [hq] at hi
  | some i =>
    have : i.size = 1 := by simpa [hq] using hi
    simp [sizeOf, typeInfo, hq, this]
theorem index_cell (w : World) (t e : TypeId) (k : IntKind) (n : Nat) (ht : P.underlying t = some (.array n e)) (he : P.underlying e = some (.int k)) (hi : (P.info? e).map (·.size) = some 1)
    (cs : List Value) (i : Int) (j : Nat) (hj : i = j) (hjn : j < n) (v : Value) (hv : cs[j]? = some v) : (Instr.index t (.agg cs.toArray) (.int .i64 i)).run P w = .ok v w := by
  subst hj
  have hb : (0 : Int) ≤ (j : Int) ∧ (j : Int) < (n : Int) := by omega
  have hp := part_cell w e k he cs j v hv
  simp [Instr.index, asIntOf, run_underlying ht, hb, size_one w e hi, hp]
  intro h
  omega
end
end Go.Proofs.YtmebdnblobobnaaGreatDoor

namespace Go.Proofs.YtmebdnblobobnaaGreatDoor
set_option maxRecDepth 100000
open Go.RowKit _root_.Go.Proofs.YtmebdnblobobnaaGreatDoor.Wd _root_.Go.Proofs.YtmebdnblobobnaaGreatDoor.Nm _root_.Go.Proofs.YtmebdnblobobnaaGreatDoor.Cm
section
variable {P : Program}
theorem eq_loop (w : World) (d : Nat) (e : TypeId) (he : P.underlying e = some (.int .u8)) (a b : List UInt8) : ∀ (m s : Nat), s + m ≤ a.length → s + m ≤ b.length →
    (forIn (List.range' s m) ((none, ()) : Option Bool × Unit) fun i (_ : Option Bool × Unit) => do
      let x ← part e (bc a).toArray (i * 1)
      let y ← part e (bc b).toArray (i * 1)
      let r ← Op.equalIn (d + 1) e x y
      if (!r) = true then pure (ForInStep.done (some false, ())) else pure (ForInStep.yield (none, ()))).run P w = .ok (if (a.drop s).take m = (b.drop s).take m then (none, ()) else (some false, ())) w := by
  intro m
  induction m with
  | zero => intro s _ _; simp
  | succ m ih =>
    intro s h1 h2
    have e1 := part_cell w e .u8 he (bc a) (s * 1) _ (by rw [Nat.mul_one]; exact bc_get a s (by omega))
    have e2 := part_cell w e .u8 he (bc b) (s * 1) _ (by rw [Nat.mul_one]; exact bc_get b s (by omega))
    have h3 := ih (s + 1) (by omega) (by omega)
    simp only [List.range'_succ, List.forIn_cons, Sem.run_bind, e1, e2, Result.andThen_ok, run_equalIn_int w d e .u8 .u8 _ _ he]
    rw [List.drop_eq_getElem_cons (show s < a.length by omega), List.drop_eq_getElem_cons (show s < b.length by omega), List.take_succ_cons, List.take_succ_cons]
    by_cases hab : a[s] = b[s]
    · rw [hab]
      simp only [BEq.rfl, Bool.not_true, Bool.false_eq_true, if_false, Sem.run_pure, Result.andThen_ok, h3, List.cons.injEq, true_and]
    · have hne : ((a[s].toNat : Int) == (b[s].toNat : Int)) = false := by
        simp
        intro h
        exact hab (UInt8.toNat_inj.1 (by omega))
      simp only [hne, Bool.not_false, if_true, Sem.run_pure, Result.andThen_ok, List.cons.injEq, hab, false_and, if_false]
theorem run_equalIn_bytes (w : World) (d : Nat) (t e : TypeId) (n : Nat) (ht : P.underlying t = some (.array n e)) (he : P.underlying e = some (.int .u8)) (hi : (P.info? e).map (·.size) = some 1)
    (a b : List UInt8) (ha : a.length = n) (hb : b.length = n) : (Op.equalIn (d + 2) t (.agg (bc a).toArray) (.agg (bc b).toArray)).run P w = .ok (decide (a = b)) w := by
  rw [Op.equalIn]
  simp only [Sem.run_bind, run_underlying ht, Result.andThen_ok, size_one w e hi]
  have h := eq_loop (P := P) w d e he a b n 0 (by omega) (by omega)
  rw [List.drop_zero, List.drop_zero, List.take_of_length_le (by omega), List.take_of_length_le (by omega)] at h
  simp only [Std.Legacy.Range.forIn_eq_forIn_range', Std.Legacy.Range.size, Nat.sub_zero, Nat.add_sub_cancel, Nat.div_one]
  rw [h]
  by_cases hab : a = b
  · simp [hab]
  · simp [hab]
theorem run_neq_bytes (w : World) (t e : TypeId) (n : Nat) (ht : P.underlying t = some (.array n e)) (he : P.underlying e = some (.int .u8)) (hi : (P.info? e).map (·.size) = some 1)
    (a b : List UInt8) (ha : a.length = n) (hb : b.length = n) : (binOp .neq t (.agg (bc a).toArray) (.agg (bc b).toArray)).run P w = .ok (.bool (!decide (a = b))) w := by
  rw [run_neq_struct, run_equalIn_bytes w 9998 t e n ht he hi a b ha hb]
  rfl
theorem run_eql_bytes (w : World) (t e : TypeId) (n : Nat) (ht : P.underlying t = some (.array n e)) (he : P.underlying e = some (.int .u8)) (hi : (P.info? e).map (·.size) = some 1)
    (a b : List UInt8) (ha : a.length = n) (hb : b.length = n) : (binOp .eql t (.agg (bc a).toArray) (.agg (bc b).toArray)).run P w = .ok (.bool (decide (a = b))) w := by
  rw [run_eql_struct, run_equalIn_bytes w 9998 t e n ht he hi a b ha hb]
  rfl
/-- A whole array out of the middle of a block, in a region that only reads. -/
theorem quiet_load_mid {ops : Array Oper} {C : World → Prop} {Q : Act → Prop} {a : Act} {o : Oper} {rest : List Oper} (hg : o.guard = none) (ty : TypeId) (x : Operand) (ho : o.op = .load ty x)
    (b off : Nat) (hx : a.eval x = .pointer (some ⟨b, off, none⟩)) (cs : List Value) (d : TypeDesc) (hC : ∀ w, C w → w.rangeAt b off cs)
    (hu : P.underlying ty = some d) (hd : d.isRow = true) (hi : (P.info? ty).map (·.size) = some cs.length) (hk : wpQuiet P ops C Q rest (a.put o.dst (.agg cs.toArray))) : wpQuiet P ops C Q (o :: rest) a :=
  BigFrame.wpQuiet_want (by simp [Region.wanted, hg]) fun _ hK => ⟨_, fun w hw => by
    unfold Oper.quietAt execOp
    simp only [ho, hx, Sem.run_bind, run_loadAt_mid w b off ty cs d (hC w hw) hu hd hi, Result.andThen_ok, Sem.run_pure]
    exact ⟨rfl, rfl⟩, hK _ hk⟩
end
end Go.Proofs.YtmebdnblobobnaaGreatDoor

