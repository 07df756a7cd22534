/- The reference's memory of chapter 4: the contract of New. -/
import Derived.Test.YtolpiklhnafnbaaRfMore
namespace Go.Proofs.Ytolpiklhnafnbaa
set_option maxRecDepth 100000
open Go.RowKit Wd Fm

def fullB (k : Nat) : List UInt8 := List.replicate k 255 ++ List.replicate (6144 - k) 0
theorem fullB_len (k : Nat) (h : k ≤ 6144) : (fullB k).length = 6144 := by
  unfold fullB
  rw [List.length_append, List.length_replicate, List.length_replicate]
  omega
theorem fullB_next (k : Nat) (h : k < 6144) : (fullB k).set k 255 = fullB (k + 1) := by
  unfold fullB
  rw [List.set_append_right _ _ (by rw [List.length_replicate]; omega), List.length_replicate, Nat.sub_self, show 6144 - k = (6144 - (k + 1)) + 1 by omega, List.replicate_succ, List.set_cons_zero, List.replicate_succ', List.append_assoc]
  rfl
theorem fullB_full : fullB 6144 = List.replicate 6144 255 := by
  unfold fullB
  rw [Nat.sub_self, List.replicate_zero, List.append_nil]
def blankRf : List Value := rfCells ⟨fullB 0, false, 0, 0, []⟩ (.slice none 0 0)
theorem rf_zero : (Try.prog.info? 66).map (fun i => (i.zero, i.size)) = some (some (.agg blankRf.toArray), 6148) := by kernel_rfl
def rowRf (k : Nat) : List Value := rfCells ⟨fullB k, false, 0, 0, []⟩ (.slice none 0 0)

set_option maxRecDepth 100000 in
set_option maxHeartbeats 2000000 in
theorem xnew_any (w : World) :
    Calls Try.prog 14 #[] w fun e w' => e = .returned (.pointer (some ⟨w.heap.size, 0, none⟩)) ∧ Rf w' w.heap.size Mem.fresh ∧ Below w.heap.size w w' := by
  obtain ⟨C, hC⟩ : ∃ C, blankRf = C := ⟨_, rfl⟩
  have hz : ∀ W : World, (zeroValue 66).run Try.prog W = .ok (.agg C.toArray) W := by
    rw [← hC]
    exact zero_any _ _ rf_zero
  obtain ⟨G, hG⟩ : ∃ G, w.heap.size = G := ⟨_, rfl⟩
  have r0 : Hid (Row (w.alloc (.cells C.toArray 66)) G 66 (rowRf 0) ∧ Below G w (w.alloc (.cells C.toArray 66))) := by
    rw [← hG, ← hC]
    exact Lib.hid ⟨Row.new w _ _, (Below.refl w.heap.size w).alloc (Nat.le_refl _) _⟩
  have HG := Lib.hid hG
  clear hC
  go_enter Try.func14, Try.ntmps14
  go_wp2_with fail
  try rw [hG]
  generalize w.alloc (.cells C.toArray 66) = w1 at r0 ⊢
  clear hz hG
  go_loopw [2] (fun i wr => ∃ k : Nat, k ≤ 6 ∧ i = .int .i64 k ∧ Hid (Row wr G 66 (rowRf (k * 1024)) ∧ Below G w wr)) (fun i _ => 6 - (intOf i).toNat)
  case atStart => exact ⟨0, by omega, rfl, r0⟩
  case round =>
    clear r0
    obtain ⟨k, hk, rfl, HK⟩ := hrel
    by_cases hlt : k < 6
    · have hki : (k : Int) < 6 := by omega
      go_wp2_with fail
      go_loopw [3] (fun i wr2 => ∃ j : Nat, j ≤ 1024 ∧ i = .int .i64 j ∧ Hid (Row wr2 G 66 (rowRf (k * 1024 + j)) ∧ Below G w wr2)) (fun i _ => 1024 - (intOf i).toNat)
      case atStart => exact ⟨0, by omega, rfl, HK⟩
      case round =>
        clear HK
        obtain ⟨j, hj, rfl, HJ⟩ := hrel
        by_cases hlt2 : j < 1024
        · have hji : (j : Int) < 1024 := by omega
          have hl := fullB_len (k * 1024 + j) (by omega)
          have ca := HJ.out.1.cell (rfCells_byte ⟨fullB (k * 1024 + j), false, 0, 0, []⟩ (.slice none 0 0) hl (k * 1024 + j) (by omega))
          obtain ⟨ob, hob⟩ : ∃ v, Value.int .u8 ((((fullB (k * 1024 + j)).getD (k * 1024 + j) 0).toNat : Nat) : Int) = v := ⟨_, rfl⟩
          change wr.cell? ⟨G, k * 1024 + j, none⟩ = some (Value.int .u8 ((((fullB (k * 1024 + j)).getD (k * 1024 + j) 0).toNat : Nat) : Int)) at ca
          rw [hob] at ca
          have fa := HJ.out.1.frozen (k * 1024 + j)
          have ra := HJ.out.1.set (k * 1024 + j) (.int .u8 (((255 : UInt8).toNat : Nat) : Int))
          have he := rfCells_put ⟨fullB (k * 1024 + j), false, 0, 0, []⟩ (.slice none 0 0) hl (k * 1024 + j) (by omega) 255
          rw [show ({ B := fullB (k * 1024 + j), dead := false, ops := 0, left := 0, mask := [] } : Mem).B = fullB (k * 1024 + j) from rfl, fullB_next _ (by omega)] at he
          unfold rowRf at ra
          rw [he, show (((255 : UInt8).toNat : Nat) : Int) = 255 from rfl, Nat.add_assoc] at ra
          have HR : Hid (Row (wr.setCell ⟨G, k * 1024 + j, none⟩ (.int .u8 255)) G 66 (rowRf (k * 1024 + (j + 1))) ∧ Below G w (wr.setCell ⟨G, k * 1024 + j, none⟩ (.int .u8 255))) := Lib.hid ⟨by rw [← Nat.add_assoc]; exact ra, below_set HJ.out.2 G (k * 1024 + j) (.int .u8 255) (Nat.le_refl _)⟩
          clear HJ hob ra he hl
          go_wp2
          go_roundw
          case rel => exact ⟨j + 1, by omega, by go_num, HR⟩
          case measure => simp [intOf]; omega
        · have hj2 : j = 1024 := by omega
          have hji : ¬ (j : Int) < 1024 := by omega
          have HR : Hid (Row wr G 66 (rowRf ((k + 1) * 1024)) ∧ Below G w wr) := by
            rw [show (k + 1) * 1024 = k * 1024 + j by omega]
            exact HJ
          clear HJ
          go_wp2
          go_roundw
          case rel => exact ⟨k + 1, by omega, by go_num, HR⟩
          case measure => simp [intOf]; omega
    · have hk6 : k = 6 := by omega
      have hki : ¬ (k : Int) < 6 := by omega
      have hf : Rf wr G Mem.fresh := by
        have h := HK.out.1
        rw [hk6] at h
        unfold rowRf at h
        rw [show (6 * 1024 : Nat) = 6144 from rfl, fullB_full] at h
        exact ⟨by show (List.replicate 6144 (255 : UInt8)).length = 6144; rw [List.length_replicate], Int.le_refl _, (show (0 : Int) ≤ 9223372036854775807 by decide), [], none, 0, 0, h, World.ownsRow_nil _ _ _ _, fun hh => absurd hh (by show ¬ (0 : Int) < 0; decide)⟩
      have HE := Lib.hid (And.intro hf HK.out.2)
      clear hf HK
      go_wp2
      go_ret
      rw [HG.out]
      exact ⟨rfl, HE.out.1, HE.out.2⟩
end Go.Proofs.Ytolpiklhnafnbaa
