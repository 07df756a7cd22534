/- Cells of made blocks, and what a block of bytes shows. They speak of no package of the program. -/
import Derived.Test.YtolpiklhnafnbaaProg
import Derived.Test.YtolpiklhnafnbaaNums
import Derived.Deep.LoopGhost
import Derived.Lib.Hide
import Derived.Lib.ConvBytes
namespace Go.Proofs.Ytolpiklhnafnbaa
set_option maxRecDepth 100000
open Go.RowKit Wd Nm

theorem infoByte : (Try.prog.info? 5).map (fun i => (i.zero, i.size, i.bytes)) = some (some (.int .u8 0), 1, 1) := by kernel_rfl

def Cz (f : Nat → Int) (k sz : Nat) : Array Value := ((List.range k).map (fun i => Value.int .u8 (f i)) ++ List.replicate (sz - k) (Value.int .u8 0)).toArray
theorem Cz_size (f : Nat → Int) (k sz : Nat) (h : k ≤ sz) : (Cz f k sz).size = sz := by simp [Cz]; omega
theorem Cz_next (f : Nat → Int) (k sz : Nat) (h : k < sz) : (Cz f k sz)[k]? = some (.int .u8 0) := by
  unfold Cz
  rw [List.getElem?_toArray, List.getElem?_append_right (by simp), List.getElem?_replicate, if_pos (by simp; omega)]
theorem Cz_step (f : Nat → Int) (k sz : Nat) (h : k < sz) : (Cz f k sz).setIfInBounds k (.int .u8 (f k)) = Cz f (k + 1) sz := by
  unfold Cz
  apply Array.ext'
  rw [Array.toList_setIfInBounds]
  simp only [List.range_succ, List.map_append, List.append_assoc]
  rw [List.set_append_right _ _ (by simp)]
  have h1 : sz - k = (sz - (k + 1)) + 1 := by omega
  rw [h1, List.replicate_succ]
  simp
theorem Cz_zero (f : Nat → Int) (sz : Nat) : Cz f 0 sz = madeCells #[Value.int .u8 0] (sz * 1) := by
  apply Array.ext'
  rw [toList_madeCells_one]
  simp [Cz]
theorem Cz_full (n : Int) (k : Nat) : (Cz (fun i => n / 2 ^ (8 * i) % 256) k k).toList = bc (leb n k) := by
  simp only [Cz, Nat.sub_self, List.replicate_zero, List.append_nil, bc, leb, List.map_map]
  apply List.map_congr_left
  intro i _
  simp [lb_nat]

theorem shows_lit (x : Int) (k : Nat) (hk : k ≤ 8) (w : World) : Shows (w.alloc (.cells (Cz (fun i => x / 2 ^ (8 * i) % 256) k k) 5)) (w.heap.size + 1) (some ⟨w.heap.size, 0, none⟩) k k (leb x k) := by
  have h := World.ownsRow_lit (base := 0) (e := 5) (size := 1) w (Cz (fun i => x / 2 ^ (8 * i) % 256) k k) k (Nat.zero_le _) (by simp only [maxLen]; omega) (by rw [Cz_size _ _ _ (Nat.le_refl _), Nat.mul_one])
  rw [Cz_full] at h
  have := Shows.of_own h
  simpa using this

theorem shows_cells (w : World) (T : TypeId) (m : Nat × Nat) (l : List UInt8) (h : l.length ≤ 100000) : Shows (w.alloc (.cells (bc l).toArray T m)) (w.heap.size + 1) (some ⟨w.heap.size, 0, none⟩) l.length l.length l := by
  have hg := heap_alloc_new w (.cells (bc l).toArray T m)
  refine ⟨rfl, Nat.le_refl _, by unfold maxLen; omega, fun h0 => ⟨w.heap.size, 0, rfl, by omega, fun j hj => ?_⟩⟩
  rw [cell_of_row _ _ _ _ T m hg, Nat.zero_add, List.getElem?_toArray, bc_get l j hj]

theorem u8_of_wf {x : Int} (h : (Lit.int .u8 x).wf = true) : 0 ≤ x ∧ x ≤ 255 := by
  simp [Lit.wf, IntKind.min, IntKind.max, IntKind.signed, IntKind.bits] at h
  omega
theorem step_grow {w a b : World} {g : Nat} (h : Below w.heap.size w a) (hg : a.grownBy b (some g)) (hB : w.heap.size ≤ g) : Below w.heap.size w b :=
  h.grown hg h.size (by intro k hk; injection hk; omega)
theorem step_below {w a b : World} (h : Below w.heap.size w a) (h2 : Below a.heap.size a b) : Below w.heap.size w b := h.trans (h2.mono h.size)

theorem below_new {w w' : World} (h : Below w.heap.size w w') (o : Obj) : Below w.heap.size w (w'.alloc o) := h.alloc h.size o
theorem tmod_fix (a n : Int) (hn : 0 < n) : (if a.tmod n < 0 then a.tmod n + n else a.tmod n) = a % n := by
  have h := Int.tmod_add_mul_tdiv a n
  have h1 := Int.lt_tmod_of_pos a hn
  have h2 := Int.tmod_lt_of_pos a hn
  have h3 : a % n = (a.tmod n) % n := by
    conv => lhs; rw [← h]
    rw [Int.add_mul_emod_self_left]
  rw [h3]
  split
  · rw [← Int.add_emod_right, Int.emod_eq_of_lt (by omega) (by omega)]
  · rw [Int.emod_eq_of_lt (by omega) h2]

theorem ret_int {k : IntKind} {a b : Int} (h : a = b) : Ending.returned (.int k a) = .returned (.int k b) := by rw [h]

theorem cell_newn (W : World) (C : Array Value) (T : TypeId) (g j : Nat) (v : Value) (h : W.heap.size = g) (hv : C[j]? = some v) : (W.alloc (.cells C T)).drew.cell? ⟨g, j, none⟩ = some v := by
  subst h
  have hg := heap_alloc_new W (.cells C T)
  show (W.alloc (.cells C T)).cell? ⟨W.heap.size, j, none⟩ = some v
  rw [cell_of_row _ _ j _ T (0, 0) hg]
  exact hv
end Go.Proofs.Ytolpiklhnafnbaa
