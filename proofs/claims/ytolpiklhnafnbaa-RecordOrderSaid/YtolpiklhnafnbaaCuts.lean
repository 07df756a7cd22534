/- Cuts of slices of bytes. They speak of no package of the program. -/
import Derived.Test.YtolpiklhnafnbaaProg
import Derived.Test.YtolpiklhnafnbaaCz
namespace Go.Proofs.Ytolpiklhnafnbaa
set_option maxRecDepth 100000
open Go.RowKit Wd

theorem cut_lo (W : World) (A : Option Addr) (n cap c : Nat) (hc : c ≤ n) :
    (Instr.sliceAt 29 (.slice A n cap) (some (.int .i64 (c : Int))) none none).run Try.prog W = .ok (.slice (if cap = c then A else A.map (·.add c)) (n - c) (cap - c)) W := by
  have hE : Try.prog.elem 29 = 5 := by kernel_rfl
  have hu : Try.prog.underlying 29 = some (.slice (Try.prog.elem 29)) := by rw [hE]; exact Try.underlying29
  obtain ⟨i0, hi0, hz0, hz1, hz2⟩ := info_parts infoByte
  rw [run_sliceAt_slice W _ _ _ _ _ hu, run_slice_l W _ A n cap hu .i64 c (by omega) (by omega), hE]
  simp [sizeOf, typeInfo, hi0, hz1, Result.andThen, sliced]
theorem cut_hi (W : World) (A : Option Addr) (n cap c : Nat) (hc : c ≤ cap) :
    (Instr.sliceAt 29 (.slice A n cap) none (some (.int .i64 (c : Int))) none).run Try.prog W = .ok (.slice A c cap) W := by
  have hE : Try.prog.elem 29 = 5 := by kernel_rfl
  have hu : Try.prog.underlying 29 = some (.slice (Try.prog.elem 29)) := by rw [hE]; exact Try.underlying29
  obtain ⟨i0, hi0, hz0, hz1, hz2⟩ := info_parts infoByte
  rw [run_sliceAt_slice W _ _ _ _ _ hu, run_slice_h W _ A n cap hu .i64 c (by omega) (by omega), hE]
  simp [sizeOf, typeInfo, hi0, hz1, Result.andThen, sliced]
  intro _
  cases A with
  | none => rfl
  | some a => simp [Addr.add_zero']
end Go.Proofs.Ytolpiklhnafnbaa
