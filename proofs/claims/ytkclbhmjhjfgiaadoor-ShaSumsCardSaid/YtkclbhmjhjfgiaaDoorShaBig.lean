/- Contract for package sha's big: a number's lowest bytes, the highest first. -/
import Derived.Test.YtkclbhmjhjfgiaaDoorParts
import Derived.Test.YtkclbhmjhjfgiaaDoorShaMath
import Derived.IntWalk
namespace Go.Proofs.YtkclbhmjhjfgiaaDoor
open Go.RowKit Wd Nm Cm Sm

theorem Cz_beb (n : Int) (k : Nat) : (Cz (fun i => n / 2 ^ (8 * (k - 1 - i)) % 256) k k) = (bc (beb n k)).toArray := by
  apply Array.ext'
  simp only [Cz, Nat.sub_self, List.replicate_zero, List.append_nil, bc, beb, List.map_map]
  apply List.map_congr_left
  intro i _
  simp [lb_nat]

set_option maxHeartbeats 400000 in
theorem big_any (n : Int) (k : Nat) (hk : k ≤ 8) (w : World) :
    Calls Tryd.prog 19 #[.int .u64 n, .int .i64 k] w fun e w' => e = .returned (.slice (some ⟨w.heap.size, 0, none⟩) k k) ∧ w.alloc (.cells (bc (beb n k)).toArray 5) = w' := by
  rw [← Cz_beb]
  obtain ⟨i0, hi0, hz0, hz1, hz2⟩ := info_parts infoByte
  have hmk : ∀ W : World, (Instr.makeSlice 26 (.int .i64 (k : Int)) (.int .i64 (k : Int))).run Tryd.prog W = .ok (.slice (some ⟨W.heap.size, 0, none⟩) k k) (W.alloc (.cells (Cz (fun i => n / 2 ^ (8 * (k - 1 - i)) % 256) 0 k) 5)) := by
    intro W
    have h := run_make (P := Tryd.prog) W 26 5 i0 _ Tryd.underlying26 hi0 hz0 .i64 .i64 k k (by omega) (by omega) (by rw [hz2]; omega) (by omega)
    simp only [Int.toNat_natCast] at h
    rw [h, hz1, Cz_zero]
    rfl
  go_enter Tryd.func19, Tryd.ntmps19
  go_wp2
  go_loopw [6, 11] (fun _ i wr => ∃ j : Nat, j ≤ k ∧ i = .int .i64 j ∧ wr = w.alloc (.cells (Cz (fun i => n / 2 ^ (8 * (k - 1 - i)) % 256) j k) 5)) (fun _ i _ => k - (intOf i).toNat)
  case atStart => exact ⟨0, Nat.zero_le _, rfl, rfl⟩
  case round =>
    obtain ⟨j, hj, rfl, rfl⟩ := hrel
    by_cases hlt : j < k
    · have hc := Cz_next (fun i => n / 2 ^ (8 * (k - 1 - i)) % 256) j k hlt
      have hs := Cz_step (fun i => n / 2 ^ (8 * (k - 1 - i)) % 256) j k hlt
      obtain ⟨m, hm⟩ : ∃ m, k - 1 - j = m := ⟨_, rfl⟩
      have h1 : (k : Int) - 1 - (j : Int) = (m : Int) := by omega
      obtain ⟨t, ht⟩ : ∃ t, 8 * m = t := ⟨_, rfl⟩
      have h2 : (8 : Int) * (m : Int) = (t : Int) := by omega
      simp only [hm, ht] at hs
      clear hmk hm ht
      go_wp2
      go_roundw
      case rel => exact ⟨j + 1, by omega, by go_num, rfl⟩
      case measure => simp [intOf]; omega
    · obtain rfl : j = k := by omega
      clear hmk
      go_wp2
      go_ret
      exact ⟨rfl, rfl⟩
end Go.Proofs.YtkclbhmjhjfgiaaDoor
