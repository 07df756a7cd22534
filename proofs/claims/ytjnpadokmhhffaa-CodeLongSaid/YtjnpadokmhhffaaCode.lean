/- What the functions of package code that write bytes do to the world: contracts for little, slices.Grow, slices.Concat, Int, Byte, Text. -/
import Derived.Test.YtjnpadokmhhffaaProg
import Derived.Test.YtjnpadokmhhffaaNums
import Derived.Deep.LoopGhost
namespace Go.Proofs.Ytjnpadokmhhffaa
open Go.RowKit Wd Nm

theorem infoByte : (Try.prog.info? 5).map (fun i => (i.zero, i.size, i.bytes)) = some (some (.int .u8 0), 1, 1) := by kernel_rfl

def Cz (f : Nat → Int) (k sz : Nat) : Array Value := ((List.range k).map (fun i => Value.int .u8 (f i)) ++ List.replicate (sz - k) (Value.int .u8 0)).toArray
theorem Cz_size (f : Nat → Int) (k sz : Nat) (h : k ≤ sz) : (Cz f k sz).size = sz := by simp [Cz]; omega
theorem Cz_next (f : Nat → Int) (k sz : Nat) (h : k < sz) : (Cz f k sz)[k]? = some (.int .u8 0) := by
  unfold Cz
  rw [List.getElem?_toArray, List.getElem?_append_right (by simp), List.getElem?_replicate, if_pos (by simp; omega)]
theorem Cz_step (f : Nat → Int) (k sz : Nat) (h : k < sz) : (Cz f k sz).setIfInBounds k (.int .u8 (f k)) = Cz f (k + 1) sz := by
  unfold Cz
  apply Array.ext'
  rw [Array.toList_setIfInBounds]
  simp only [List.range_succ, List.map_append, List.append_assoc]
  rw [List.set_append_right _ _ (by simp)]
  have h1 : sz - k = (sz - (k + 1)) + 1 := by omega
  rw [h1, List.replicate_succ]
  simp
theorem Cz_zero (f : Nat → Int) (sz : Nat) : Cz f 0 sz = madeCells #[Value.int .u8 0] (sz * 1) := by
  apply Array.ext'
  rw [toList_madeCells_one]
  simp [Cz]
theorem Cz_full (n : Int) (k : Nat) : (Cz (fun i => n / 2 ^ (8 * i) % 256) k k).toList = bc (leb n k) := by
  simp only [Cz, Nat.sub_self, List.replicate_zero, List.append_nil, bc, leb, List.map_map]
  apply List.map_congr_left
  intro i _
  simp [lb_nat]

set_option maxHeartbeats 400000 in
theorem little_any (n : Int) (k : Nat) (hk : k ≤ 8) (w : World) :
    Calls Try.prog 31 #[.int .i64 n, .int .i64 k] w fun e w' => e = .returned (.slice (some ⟨w.heap.size, 0, none⟩) k k) ∧ w.alloc (.cells (Cz (fun i => n / 2 ^ (8 * i) % 256) k k) 5) = w' := by
  obtain ⟨i0, hi0, hz0, hz1, hz2⟩ := info_parts infoByte
  have hmk : ∀ W : World, (Instr.makeSlice 22 (.int .i64 (k : Int)) (.int .i64 (k : Int))).run Try.prog W = .ok (.slice (some ⟨W.heap.size, 0, none⟩) k k) (W.alloc (.cells (Cz (fun i => n / 2 ^ (8 * i) % 256) 0 k) 5)) := by
    intro W
    have h := run_make (P := Try.prog) W 22 5 i0 _ Try.underlying22 hi0 hz0 .i64 .i64 k k (by omega) (by omega) (by rw [hz2]; omega) (by omega)
    simp only [Int.toNat_natCast] at h
    rw [h, hz1, Cz_zero]
    rfl
  go_enter Try.func31, Try.ntmps31
  go_wp2
  go_loopw [6, 11] (fun _ i wr => ∃ j : Nat, j ≤ k ∧ i = .int .i64 j ∧ wr = w.alloc (.cells (Cz (fun i => n / 2 ^ (8 * i) % 256) j k) 5)) (fun _ i _ => k - (intOf i).toNat)
  case atStart => exact ⟨0, Nat.zero_le _, rfl, rfl⟩
  case round =>
    obtain ⟨j, hj, rfl, rfl⟩ := hrel
    by_cases hlt : j < k
    · have hc := Cz_next (fun i => n / 2 ^ (8 * i) % 256) j k hlt
      have hs := Cz_step (fun i => n / 2 ^ (8 * i) % 256) j k hlt
      go_wp2
      go_roundw
      case rel => exact ⟨j + 1, by omega, by go_num, rfl⟩
      case measure => simp [intOf]; omega
    · obtain rfl : j = k := by omega
      clear hmk
      go_wp2
      go_ret
      exact ⟨rfl, rfl⟩

set_option maxHeartbeats 400000 in
theorem grow_any (n : Nat) (hm : n ≤ 1000000000000) (w : World) :
    Calls Try.prog 41 #[.slice none 0 0, .int .i64 n] w fun e w' => ∃ A c, e = .returned (.slice A 0 c) ∧ w'.ownsRow w.heap.size 5 1 (.slice A 0 c) 0 (bc []) ∧ w.grownBy w' none := by
  have h5 : Try.t5.bytes = 1 := by kernel_rfl
  rcases Nat.eq_zero_or_pos n with h0 | h0
  · subst h0
    go_enter Try.func41, Try.ntmps41
    go_wp2
    go_ret
    exact ⟨none, 0, rfl, World.ownsRow_nil w _ _ 1, grow_refl w _⟩
  · have hb1 : (n : Int) * (Try.t5.bytes : Int) ≤ 281474976710656 := by rw [h5]; omega
    have hb2 : ¬ 281474976710656 < Builtin.nextslicecap n 0 * Try.t5.bytes := by
      rw [h5]
      have := growslice_fits (need := n) (old := 0) (bytes := 1) h0 (by omega)
      omega
    clear h5
    go_enter Try.func41, Try.ntmps41
    go_wp2
    go_ret
    refine ⟨_, _, rfl, ?_, grow_drew (World.grownBy_alloc w _ none)⟩
    have hge := grownCap_ge w n 0 5
    have hcm := grownCap_le_maxLen w n 0 5 (by simp only [maxLen]; omega)
    refine World.ownsRow_made (w := w.drew) _ _ (Nat.le_refl _) hcm ?_
    have hz1 : (#[Value.int IntKind.u8 0] : Array Value).size = 1 := rfl
    simp only [Array.size_append, size_zeroCells, hz1, Nat.mul_one]
    unfold grownCap at hge
    omega
end Go.Proofs.Ytjnpadokmhhffaa
