/- Contract for the reference's Hex of chapter 3: a sum's digits. -/
import Derived.Test.YtkclbhmjhjfgiaaDoorShaOne
import Derived.Deep.QuietTactic
import Derived.BigQuiet
import Derived.Laws.Concat
namespace Go.Proofs.YtkclbhmjhjfgiaaDoor
open Go.RowKit Wd Nm Cm Sm

theorem digit_cut (W : World) (k : Nat) (hk : k < 16) (x y : Int) (hx : x = k) (hy : y = (k : Int) + 1) : (Instr.sliceAt 9 (.string ⟨#[48, 49, 50, 51, 52, 53, 54, 55, 56, 57, 97, 98, 99, 100, 101, 102]⟩) (some (.int .u8 x)) (some (.int .u8 y)) none).run Tryd.prog W = .ok (.string ⟨#[digit (UInt8.ofNat k)]⟩) W := by
  subst hx hy
  rw [run_sliceAt_string W _ _ _ _ _ Tryd.underlying9, run_slice_string W _ _ .u8 .u8 (k : Int) ((k : Int) + 1) Tryd.underlying9 (by omega) (by omega) (by show (k : Int) + 1 ≤ 16; omega)]
  have e : ∀ k : Fin 16, (⟨#[48, 49, 50, 51, 52, 53, 54, 55, 56, 57, 97, 98, 99, 100, 101, 102]⟩ : ByteArray).extract ((k.val : Int)).toNat (((k.val : Int) + 1)).toNat = ⟨#[digit (UInt8.ofNat k.val)]⟩ := by decide +kernel
  rw [e ⟨k, hk⟩]
theorem str_snoc (X : List UInt8) (c : UInt8) (hX : X.length ≤ 1000) (W : World) : (Op.stringOp .add ⟨X.toArray⟩ ⟨#[c]⟩).run Tryd.prog W = .ok (.string ⟨(X ++ [c]).toArray⟩) W := by
  have h := run_string_add_sum (P := Tryd.prog) W ⟨X.toArray⟩ ⟨#[c]⟩ (by show X.toArray.size + 1 ≤ _; rw [List.size_toArray]; omega)
  rw [h]
  congr 2
set_option maxHeartbeats 2000000 in
theorem refhex_any (h : List UInt8) (w : World) (hl : h.length = 32) :
    Calls Tryd.prog 13 #[.agg (bc h).toArray] w fun e w' => e = .returned (.string ⟨(hex h).toArray⟩) ∧ Below w.heap.size w w' := by
  have r0 := Row.new w 24 (bc h)
  have b0 : Below w.heap.size w (w.alloc (.cells (bc h).toArray 24)) := below_new (Below.refl _ _) _
  have H0 := Lib.hid (And.intro r0 (And.intro b0 hl))
  clear r0 b0 hl
  go_enter Tryd.func13, Tryd.ntmps13
  go_wp2_with fail
  obtain ⟨W0, hW0⟩ : ∃ W, w.alloc (.cells (bc h).toArray 24) = W := ⟨_, rfl⟩
  rw [hW0] at H0 ⊢
  obtain ⟨G, hG⟩ : ∃ G, w.heap.size = G := ⟨_, rfl⟩
  rw [hG] at H0 ⊢
  have HG := Lib.hid hG
  clear hW0 hG
  go_loopw [4, 5] (fun s i wr => ∃ (k q : Nat), k ≤ 32 ∧ i = .int .i64 k ∧ s = .string ⟨(hex (h.take k)).toArray⟩ ∧ wr = W0.drewN q) (fun _ i _ => 32 - (intOf i).toNat)
  case atStart => exact ⟨0, 0, by omega, rfl, rfl, rfl⟩
  case round =>
    obtain ⟨k, q, hk, rfl, rfl, rfl⟩ := hrel
    by_cases hlt : k < 32
    · have hki : (k : Int) < 32 := by omega
      have hkl : k < h.length := by rw [H0.out.2.2]; exact hlt
      have c0 := H0.out.1.cell (bc_get h k hkl)
      obtain ⟨c, hc⟩ : ∃ c, h[k] = c := ⟨_, rfl⟩
      rw [hc] at c0
      obtain ⟨z, hz⟩ : ∃ z : Int, (c.toNat : Int) = z := ⟨_, rfl⟩
      rw [hz] at c0
      have hz0 : 0 ≤ z := by omega
      have hz1 : z ≤ 255 := by have := c.toNat_lt; omega
      have HC := Lib.hid (And.intro hc hz)
      clear hc hz
      obtain ⟨k1, hk1⟩ : ∃ k1 : Nat, z / 16 = (k1 : Int) := ⟨(z / 16).toNat, by omega⟩
      obtain ⟨k2, hk2⟩ : ∃ k2 : Nat, z % 16 = (k2 : Int) := ⟨(z % 16).toNat, by omega⟩
      have hb1 : k1 < 16 := by omega
      have hb2 : k2 < 16 := by omega
      have hw1 : IntKind.u8.wrap (z / 16 + 1) = z / 16 + 1 := by rw [IntKind.wrap_u8]; omega
      have hw2 : IntKind.u8.wrap (z % 16 + 1) = z % 16 + 1 := by rw [IntKind.wrap_u8]; omega
      have hd1 := fun W => digit_cut W k1 hb1 (z / 16) (IntKind.u8.wrap (z / 16 + 1)) hk1 (by rw [hw1]; omega)
      have hd2 := fun W => digit_cut W k2 hb2 (z % 16) (IntKind.u8.wrap (z % 16 + 1)) hk2 (by rw [hw2]; omega)
      have hd3 := fun W => digit_cut W k1 hb1 (z / 16) (z / 16 + 1) hk1 (by omega)
      have hd4 := fun W => digit_cut W k2 hb2 (z % 16) (z % 16 + 1) hk2 (by omega)
      have hhx : hex (h.take (k + 1)) = hex (h.take k) ++ [digit (UInt8.ofNat k1), digit (UInt8.ofNat k2)] := by
        rw [List.take_succ_eq_append_getElem hkl, hex_snoc, HC.out.1]
        have e1 : UInt8.ofNat k1 = c / 16 := by
          apply UInt8.toNat_inj.1
          rw [UInt8.toNat_div]
          have := HC.out.2
          simp
          omega
        have e2 : UInt8.ofNat k2 = c % 16 := by
          apply UInt8.toNat_inj.1
          rw [UInt8.toNat_mod]
          have := HC.out.2
          simp
          omega
        rw [e1, e2]
      obtain ⟨X, hX⟩ : ∃ X, hex (h.take k) = X := ⟨_, rfl⟩
      have hXl : X.length ≤ 64 := by rw [← hX, hex_len, List.length_take]; omega
      obtain ⟨d1, hdd1⟩ : ∃ d, digit (UInt8.ofNat k1) = d := ⟨_, rfl⟩
      obtain ⟨d2, hdd2⟩ : ∃ d, digit (UInt8.ofNat k2) = d := ⟨_, rfl⟩
      rw [hX, hdd1, hdd2] at hhx
      rw [hdd1] at hd1 hd3
      rw [hdd2] at hd2 hd4
      rw [hX]
      have hs1 := fun W => str_snoc X d1 (by omega) W
      have hs2 := fun W => str_snoc (X ++ [d1]) d2 (by rw [List.length_append]; simp; omega) W
      clear hX hdd1 hdd2
      have HX := Lib.hid hhx
      clear hhx HC hk1 hk2 hw1 hw2
      go_wp2_with fail
      go_quiet (fail)
      go_wp2_with fail
      go_quiet (fail)
      go_wp2
      go_roundw
      case rel => exact ⟨k + 1, _, by omega, by go_num, by rw [HX.out], rfl⟩
      case measure => simp [intOf]; omega
    · have hk32 : k = 32 := by omega
      subst hk32
      rw [List.take_of_length_le (by rw [H0.out.2.2]; exact Nat.le_refl _)]
      go_wp2
      go_ret
      rw [HG.out]
      exact ⟨rfl, ⟨H0.out.2.1.os, H0.out.2.1.tape, H0.out.2.1.output, H0.out.2.1.size, H0.out.2.1.block⟩⟩
end Go.Proofs.YtkclbhmjhjfgiaaDoor
