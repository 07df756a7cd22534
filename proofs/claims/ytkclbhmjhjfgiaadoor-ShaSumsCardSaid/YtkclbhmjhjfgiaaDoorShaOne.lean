/- What chapter 3's laws share over both Sums: sums of one part, and of rows of bytes. -/
import Derived.Test.YtkclbhmjhjfgiaaDoorLaw3Base
import Derived.Test.YtkclbhmjhjfgiaaDoorShaRefSum
import Derived.Test.YtkclbhmjhjfgiaaDoorArrEq
namespace Go.Proofs.YtkclbhmjhjfgiaaDoor
open Go.RowKit Wd Nm Cm Sm

theorem laid_one {w : World} {A : Option Addr} {n cap : Nat} {l : List UInt8} (hs : Shows w w.heap.size A n cap l) (T : TypeId) :
    LaidAt (w.alloc (.cells #[.slice A n cap] T)) (w.alloc (.cells #[.slice A n cap] T)).heap.size (some ⟨w.heap.size, 0, none⟩) 1 [⟨A, n, cap, l⟩] := by
  have hb : Below w.heap.size w (w.alloc (.cells #[.slice A n cap] T)) := (Below.refl _ _).alloc (Nat.le_refl _) _
  refine ⟨rfl, fun _ => ⟨_, 0, rfl, by simp, fun j hj => ?_⟩, fun p hp => ?_⟩
  · have hj0 : j = 0 := by simpa using hj
    subst hj0
    rw [cell_of_row _ _ _ _ T (0, 0) (heap_alloc_new w (.cells #[.slice A n cap] T))]
    rfl
  · obtain rfl : p = ⟨A, n, cap, l⟩ := by simpa using hp
    exact (hs.below hb).more (by simp)

/-- Sum of one part, which is a slice of its own. -/
theorem shasum_one (A : Option Addr) (n cap : Nat) (l : List UInt8) (w : World) (ht : Tables w) (hs : Shows w w.heap.size A n cap l) (hn : n ≤ 1000000) :
    Calls Tryd.prog 10 #[.slice (some ⟨w.heap.size, 0, none⟩) 1 1] (w.alloc (.cells #[.slice A n cap] 26)) fun e w' => e = .returned (.agg (bc (sha l)).toArray) ∧ Below w.heap.size w w' := by
  have hb : Below w.heap.size w (w.alloc (.cells #[.slice A n cap] 26)) := (Below.refl _ _).alloc (Nat.le_refl _) _
  refine (shasum_any _ _ 1 [⟨A, n, cap, l⟩] _ (laid_one hs _) (ht.below hb) (by decide) (by simp [total]; omega)).mono ?_
  rintro e w' ⟨rfl, hb2⟩
  exact ⟨by simp [joined], hb.trans (hb2.mono hb.size)⟩
theorem row_shows3 {w : World} {G n : Nat} {T : TypeId} {l : List UInt8} (h : Row w G T (bc l)) (hl : l.length = n) (hm : n ≤ maxLen) : Shows w w.heap.size (some ⟨G, 0, none⟩) n n l :=
  ⟨hl, Nat.le_refl _, hm, fun _ => ⟨G, 0, rfl, h.lt, fun j hj => by
    rw [Nat.zero_add]
    exact h.cell (bc_get l j hj)⟩⟩
/-- A sum held against itself. -/
theorem hash_neq (l : List UInt8) (W : World) : (binOp .neq 24 (.agg (bc (sha l)).toArray) (.agg (bc (sha l)).toArray)).run Tryd.prog W = .ok (.bool false) W := by
  have h := run_neq_bytes (P := Tryd.prog) W 24 5 32 Tryd.underlying24 Tryd.underlying5 (by kernel_rfl) (sha l) (sha l) (sha_len l) (sha_len l)
  rw [h]
  simp
theorem hash_eql (l : List UInt8) (W : World) : (binOp .eql 24 (.agg (bc (sha l)).toArray) (.agg (bc (sha l)).toArray)).run Tryd.prog W = .ok (.bool true) W := by
  have h := run_eql_bytes (P := Tryd.prog) W 24 5 32 Tryd.underlying24 Tryd.underlying5 (by kernel_rfl) (sha l) (sha l) (sha_len l) (sha_len l)
  rw [h]
  simp
end Go.Proofs.YtkclbhmjhjfgiaaDoor
