/- 'make([]byte, n)'. It speaks of no package of the program. -/
import Derived.Test.YtolpiklhnafnbaaCuts
namespace Go.Proofs.Ytolpiklhnafnbaa
set_option maxRecDepth 100000
open Go.RowKit Wd

theorem make_bytes (W : World) (N : Nat) (hN : N ≤ 1000000) : (Instr.makeSlice 29 (.int .i64 (N : Int)) (.int .i64 (N : Int))).run Try.prog W = .ok (.slice (some ⟨W.heap.size, 0, none⟩) N N) (W.alloc (.cells (bc (List.replicate N 0)).toArray 5)) := by
  obtain ⟨i0, hi0, hz0, hz1, hz2⟩ := info_parts infoByte
  have h := run_make (P := Try.prog) W 29 5 i0 _ Try.underlying29 hi0 hz0 .i64 .i64 N N (by omega) (by omega) (by rw [hz2]; omega) (by omega)
  simp only [Int.toNat_natCast] at h
  have e : madeCells #[Value.int .u8 0] (N * 1) = (bc (List.replicate N 0)).toArray := by
    apply Array.ext'
    rw [toList_madeCells_one, Nat.mul_one, bc, List.map_replicate]
    rfl
  rw [h, hz1, ← e]
  rfl
end Go.Proofs.Ytolpiklhnafnbaa
