/- What chapter 2's laws share: their known example, and a number taken within a bound. -/
import Derived.Test.YtdbjopjkkfjdaaaCrcOpen
import Derived.Lib.SlBytesConst
namespace Go.Proofs.Ytdbjopjkkfjdaaa
open Go.RowKit Wd Nm Cm

theorem shows_cells (w : World) (T : TypeId) (m : Nat × Nat) (l : List UInt8) (h : l.length ≤ 100000) : Shows (w.alloc (.cells (bc l).toArray T m)) (w.heap.size + 1) (some ⟨w.heap.size, 0, none⟩) l.length l.length l := by
  have hg := heap_alloc_new w (.cells (bc l).toArray T m)
  refine ⟨rfl, Nat.le_refl _, by unfold maxLen; omega, fun h0 => ⟨w.heap.size, 0, rfl, by omega, fun j hj => ?_⟩⟩
  rw [cell_of_row _ _ _ _ T m hg, Nat.zero_add, List.getElem?_toArray, bc_get l j hj]

theorem u8_of_wf {x : Int} (h : (Lit.int .u8 x).wf = true) : 0 ≤ x ∧ x ≤ 255 := by
  simp [Lit.wf, IntKind.min, IntKind.max, IntKind.signed, IntKind.bits] at h
  omega
theorem step_grow {w a b : World} {g : Nat} (h : Below w.heap.size w a) (hg : a.grownBy b (some g)) (hB : w.heap.size ≤ g) : Below w.heap.size w b :=
  h.grown hg h.size (by intro k hk; injection hk; omega)
theorem step_below {w a b : World} (h : Below w.heap.size w a) (h2 : Below a.heap.size a b) : Below w.heap.size w b := h.trans (h2.mono h.size)

theorem crc_known : tn (crc [49, 50, 51, 52, 53, 54, 55, 56, 57]) = 3421780262 := by decide +kernel

/-- Sum of two literals. -/
theorem sum_lits (w : World) (l1 l2 : List UInt8) (k1 : l1.length ≤ 1000) (k2 : l2.length ≤ 1000) (O1 O2 : Obj) (m1 m2 : Nat × Nat) (h1 : O1 = .cells (bc l1).toArray 5 m1) (h2 : O2 = .cells (bc l2).toArray 5 m2) (n1 n2 : Nat) (e1 : l1.length = n1) (e2 : l2.length = n2) :
    Calls Try.prog 13 #[.slice (some ⟨w.heap.size + 1 + 1, 0, none⟩) 2 2] (((w.alloc O1).alloc O2).alloc (.cells #[.slice (some ⟨w.heap.size, 0, none⟩) n1 n1, .slice (some ⟨w.heap.size + 1, 0, none⟩) n2 n2] 25)) fun e w' => e = .returned (.int .u32 (tn (crc (l1 ++ l2)))) ∧ Below w.heap.size w w' := by
  subst h1 h2 e1 e2
  have a1 := shows_cells w 5 m1 l1 (by omega)
  have b1 : Below w.heap.size w (w.alloc (.cells (bc l1).toArray 5 m1)) := (Below.refl _ _).alloc (Nat.le_refl _) _
  have a2 := shows_cells (w.alloc (.cells (bc l1).toArray 5 m1)) 5 m2 l2 (by omega)
  have b2 : Below (w.heap.size + 1) (w.alloc (.cells (bc l1).toArray 5 m1)) ((w.alloc (.cells (bc l1).toArray 5 m1)).alloc (.cells (bc l2).toArray 5 m2)) := (Below.refl _ _).alloc (by simp) _
  have ez : (w.alloc (.cells (bc l1).toArray 5 m1)).heap.size = w.heap.size + 1 := by simp
  rw [ez] at a2
  generalize w.alloc (.cells (bc l1).toArray 5 m1) = w1 at a1 b1 a2 b2 ez ⊢
  have ez2 : (w1.alloc (.cells (bc l2).toArray 5 m2)).heap.size = w.heap.size + 1 + 1 := by simp [ez]
  generalize w1.alloc (.cells (bc l2).toArray 5 m2) = w2 at a2 b2 ez2 ⊢
  have h := sum_any _ _ _ 2 [⟨some ⟨w.heap.size, 0, none⟩, l1.length, l1.length, l1⟩, ⟨some ⟨w.heap.size + 1, 0, none⟩, l2.length, l2.length, l2⟩] _
    (LaidAt.of_laid (laid_two (w := w2) (p := ⟨some ⟨w.heap.size, 0, none⟩, l1.length, l1.length, l1⟩) (q := ⟨some ⟨w.heap.size + 1, 0, none⟩, l2.length, l2.length, l2⟩) ((a1.below b2).more (by omega)) (a2.more (by omega)) 25) (by simp)) (by simp)
    (by intro p hp; simp only [List.mem_cons, List.mem_nil_iff, or_false] at hp; rcases hp with rfl | rfl <;> simp <;> omega)
  rw [ez2] at h
  refine h.mono ?_
  rintro e w' ⟨rfl, rfl⟩
  refine ⟨by simp [joined], ?_⟩
  exact ((b1.trans (b2.mono (by omega))).alloc (by omega) _)

set_option maxHeartbeats 400000 in
theorem known2_any (w : World) : Calls Try.prog 9 #[] w fun e w' => e = .returned (.bool true) ∧ Below w.heap.size w w' := by
  have kc := fun (w : World) (C : Array Value) (n c : Nat) => Lib.run_convert_bytes_const (P := Try.prog) w 25 5 C n c Try.underlying25 Try.underlying5
  have kd : ∀ (w : World) (O : Obj) (C : Array Value) (n c : Nat), (convert 25 25 (.slice (some ⟨w.heap.size + 1, 0, none⟩) n c)).run Try.prog ((w.alloc O).alloc (.cells C 5)) = .ok (.slice (some ⟨w.heap.size + 1, 0, none⟩) n c) ((w.alloc O).alloc (.cells C 5 (C.size, C.size + 1))) := by
    intro w O C n c
    have := kc (w.alloc O) C n c
    simpa using this
  have hs := sum_lits w [49, 50, 51, 52] [53, 54, 55, 56, 57] (by decide) (by decide) (.cells #[.int .u8 49, .int .u8 50, .int .u8 51, .int .u8 52] 5 (4, 5)) (.cells #[.int .u8 53, .int .u8 54, .int .u8 55, .int .u8 56, .int .u8 57] 5 (5, 6)) _ _ rfl rfl 4 5 rfl rfl
  simp only [List.cons_append, List.nil_append, crc_known] at hs
  have HS := Lib.hid hs
  clear hs
  go_enter Try.func9, Try.ntmps9
  go_wp2_with fail
  (with_reducible refine HS.out.mono ?_)
  rintro e w' ⟨rfl, hb⟩
  go_wp2
  go_ret
  exact ⟨rfl, hb⟩

theorem tmod_fix (a n : Int) (hn : 0 < n) : (if a.tmod n < 0 then a.tmod n + n else a.tmod n) = a % n := by
  have h := Int.tmod_add_mul_tdiv a n
  have h1 := Int.lt_tmod_of_pos a hn
  have h2 := Int.tmod_lt_of_pos a hn
  have h3 : a % n = (a.tmod n) % n := by
    conv => lhs; rw [← h]
    rw [Int.add_mul_emod_self_left]
  rw [h3]
  split
  · rw [← Int.add_emod_right, Int.emod_eq_of_lt (by omega) (by omega)]
  · rw [Int.emod_eq_of_lt (by omega) h2]

theorem ret_int {k : IntKind} {a b : Int} (h : a = b) : Ending.returned (.int k a) = .returned (.int k b) := by rw [h]

theorem within2_any (x n : Int) (w : World) (hn : 0 < n) (hm : n ≤ 1000000) :
    Calls Try.prog 12 #[.int .i64 x, .int .i64 n] w fun e w' => e = .returned (.int .i64 (x % n)) ∧ w = w' := by
  have hf := tmod_fix x n hn
  have HF := Lib.hid hf
  have hlo : -n < x.tmod n := Int.lt_tmod_of_pos x hn
  have hhi : x.tmod n < n := Int.tmod_lt_of_pos x hn
  clear hf
  by_cases hs : x.tmod n < 0
  · go_enter Try.func12, Try.ntmps12
    go_wp2
    go_ret
    exact ⟨ret_int (by rw [← HF.out, if_pos hs]), rfl⟩
  · go_enter Try.func12, Try.ntmps12
    go_wp2
    go_ret
    exact ⟨ret_int (by rw [← HF.out, if_neg (by omega)]), rfl⟩
end Go.Proofs.Ytdbjopjkkfjdaaa
