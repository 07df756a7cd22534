/- What chapter 3's laws share: their known example, and a number taken within a bound. -/
import Derived.Test.YtkclbhmjhjfgiaaDoorShaSum
import Derived.Test.YtkclbhmjhjfgiaaDoorShaHex
import Derived.Lib.SlBytesConst
namespace Go.Proofs.YtkclbhmjhjfgiaaDoor
open Go.RowKit Wd Nm Cm Sm

/-- Sum of two literals. -/
theorem shasum_lits (w : World) (ht : Tables w) (l1 l2 : List UInt8) (k1 : l1.length ≤ 1000) (k2 : l2.length ≤ 1000) (O1 O2 : Obj) (m1 m2 : Nat × Nat) (h1 : O1 = .cells (bc l1).toArray 5 m1) (h2 : O2 = .cells (bc l2).toArray 5 m2) (n1 n2 : Nat) (e1 : l1.length = n1) (e2 : l2.length = n2) :
    Calls Tryd.prog 10 #[.slice (some ⟨w.heap.size + 1 + 1, 0, none⟩) 2 2] (((w.alloc O1).alloc O2).alloc (.cells #[.slice (some ⟨w.heap.size, 0, none⟩) n1 n1, .slice (some ⟨w.heap.size + 1, 0, none⟩) n2 n2] 26)) fun e w' => e = .returned (.agg (bc (sha (l1 ++ l2))).toArray) ∧ Below w.heap.size w w' := by
  subst h1 h2 e1 e2
  have a1 := shows_cells w 5 m1 l1 (by omega)
  have b1 : Below w.heap.size w (w.alloc (.cells (bc l1).toArray 5 m1)) := (Below.refl _ _).alloc (Nat.le_refl _) _
  have a2 := shows_cells (w.alloc (.cells (bc l1).toArray 5 m1)) 5 m2 l2 (by omega)
  have b2 : Below (w.heap.size + 1) (w.alloc (.cells (bc l1).toArray 5 m1)) ((w.alloc (.cells (bc l1).toArray 5 m1)).alloc (.cells (bc l2).toArray 5 m2)) := (Below.refl _ _).alloc (by simp) _
  have ez : (w.alloc (.cells (bc l1).toArray 5 m1)).heap.size = w.heap.size + 1 := by simp
  rw [ez] at a2
  generalize w.alloc (.cells (bc l1).toArray 5 m1) = w1 at a1 b1 a2 b2 ez ⊢
  have ez2 : (w1.alloc (.cells (bc l2).toArray 5 m2)).heap.size = w.heap.size + 1 + 1 := by simp [ez]
  generalize w1.alloc (.cells (bc l2).toArray 5 m2) = w2 at a2 b2 ez2 ⊢
  have b3 : Below w.heap.size w (w2.alloc (.cells #[.slice (some ⟨w.heap.size, 0, none⟩) l1.length l1.length, .slice (some ⟨w.heap.size + 1, 0, none⟩) l2.length l2.length] 26)) := (b1.trans (b2.mono (by omega))).alloc (by omega) _
  have h := shasum_any _ _ 2 [⟨some ⟨w.heap.size, 0, none⟩, l1.length, l1.length, l1⟩, ⟨some ⟨w.heap.size + 1, 0, none⟩, l2.length, l2.length, l2⟩] _
    (LaidAt.of_laid (laid_two (w := w2) (p := ⟨some ⟨w.heap.size, 0, none⟩, l1.length, l1.length, l1⟩) (q := ⟨some ⟨w.heap.size + 1, 0, none⟩, l2.length, l2.length, l2⟩) ((a1.below b2).more (by omega)) (a2.more (by omega)) 26) (by simp)) (ht.below b3) (by simp)
    (by simp [total]; omega)
  rw [ez2] at h
  refine h.mono ?_
  rintro e w' ⟨rfl, hb⟩
  refine ⟨by simp [joined], b3.trans (hb.mono b3.size)⟩

set_option maxHeartbeats 2000000 in
theorem known3_any (w : World) (ht : Tables w) : Calls Tryd.prog 8 #[] w fun e w' => e = .returned (.bool true) ∧ Below w.heap.size w w' := by
  have kc := fun (w : World) (C : Array Value) (n c : Nat) => Lib.run_convert_bytes_const (P := Tryd.prog) w 26 5 C n c Tryd.underlying26 Tryd.underlying5
  have kd : ∀ (w : World) (O : Obj) (C : Array Value) (n c : Nat), (convert 26 26 (.slice (some ⟨w.heap.size + 1, 0, none⟩) n c)).run Tryd.prog ((w.alloc O).alloc (.cells C 5)) = .ok (.slice (some ⟨w.heap.size + 1, 0, none⟩) n c) ((w.alloc O).alloc (.cells C 5 (C.size, C.size + 1))) := by
    intro w O C n c
    have := kc (w.alloc O) C n c
    simpa using this
  have hs := shasum_lits w ht [97] [98, 99] (by decide) (by decide) (.cells #[.int .u8 97] 5 (1, 2)) (.cells #[.int .u8 98, .int .u8 99] 5 (2, 3)) _ _ rfl rfl 1 2 rfl rfl
  have hk : (hex (sha ([97] ++ [98, 99]))).take 8 = [98, 97, 55, 56, 49, 54, 98, 102] := sha_known
  have hl : (sha ([97] ++ [98, 99])).length = 32 := sha_len _
  generalize sha ([97] ++ [98, 99]) = S at hs hk hl
  have hx := fun w : World => hex_any S w hl
  have hz : (hex S).length = 64 := by rw [hex_len, hl]
  generalize hex S = X at hk hx hz
  obtain ⟨s, hs2⟩ : ∃ s : ByteArray, ⟨X.toArray⟩ = s := ⟨_, rfl⟩
  have h64 : s.size = 64 := by rw [← hs2]; simpa [ByteArray.size] using hz
  have h8 : s.extract 0 8 = ⟨#[98, 97, 55, 56, 49, 54, 98, 102]⟩ := by
    rw [← hs2, ByteArray.extract_mk]
    congr 1
    apply Array.ext'
    simpa using hk
  simp only [hs2] at hx
  have HS := Lib.hid hs
  have HX := Lib.hid hx
  clear hs hx hk hl hz hs2 ht
  go_enter Tryd.func8, Tryd.ntmps8
  go_wp2_with fail
  (with_reducible refine HS.out.mono ?_)
  rintro e w1 ⟨rfl, hb⟩
  go_wp2_with fail
  refine (HX.out w1).mono ?_
  rintro e w2 ⟨rfl, hb2⟩
  have hb3 := hb.trans (hb2.mono hb.size)
  clear hb hb2
  go_wp2
  go_ret
  exact ⟨rfl, hb3⟩

theorem within3_any (x n : Int) (w : World) (hn : 0 < n) (hm : n ≤ 1000000) :
    Calls Tryd.prog 9 #[.int .i64 x, .int .i64 n] w fun e w' => e = .returned (.int .i64 (x % n)) ∧ w = w' := by
  have hf := tmod_fix x n hn
  have HF := Lib.hid hf
  have hlo : -n < x.tmod n := Int.lt_tmod_of_pos x hn
  have hhi : x.tmod n < n := Int.tmod_lt_of_pos x hn
  clear hf
  by_cases hs : x.tmod n < 0
  · go_enter Tryd.func9, Tryd.ntmps9
    go_wp2
    go_ret
    exact ⟨ret_int (by rw [← HF.out, if_pos hs]), rfl⟩
  · go_enter Tryd.func9, Tryd.ntmps9
    go_wp2
    go_ret
    exact ⟨ret_int (by rw [← HF.out, if_neg (by omega)]), rfl⟩
end Go.Proofs.YtkclbhmjhjfgiaaDoor
