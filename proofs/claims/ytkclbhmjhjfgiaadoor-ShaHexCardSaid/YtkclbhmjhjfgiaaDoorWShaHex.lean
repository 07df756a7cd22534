/- The walk of the law ShaHex: a sum's digits are its bytes', two each, the higher first. -/
import Derived.Test.YtkclbhmjhjfgiaaDoorLaw3Base
namespace Go.Proofs.YtkclbhmjhjfgiaaDoor
open Go.RowKit Wd Nm Cm Sm

/-- A digit's letter by its number, and the number so far. -/
theorem hex_get (h : List UInt8) (i : Nat) (hi : i < h.length) : (hex h)[2 * i]? = some (digit (h.getD i 0 / 16)) ∧ (hex h)[2 * i + 1]? = some (digit (h.getD i 0 % 16)) := by
  induction h generalizing i with
  | nil => simp at hi
  | cons x r ih =>
    cases i with
    | zero => exact ⟨rfl, rfl⟩
    | succ i =>
      have := ih i (by simpa using hi)
      rw [show 2 * (i + 1) = 2 * i + 1 + 1 by omega]
      simpa [hex] using this
theorem digit_low (x : UInt8) (h : x.toNat < 10) : ((digit x).toNat : Int) = 48 + (x.toNat : Int) := by
  have hx : x < 10 := by rw [UInt8.lt_iff_toNat_lt]; exact h
  rw [digit, if_pos hx, UInt8.toNat_add]
  simp
  omega
theorem digit_high (x : UInt8) (h : 10 ≤ x.toNat) (h2 : x.toNat < 16) : ((digit x).toNat : Int) = 87 + (x.toNat : Int) := by
  have hx : ¬ x < 10 := by rw [UInt8.lt_iff_toNat_lt]; simp; omega
  rw [digit, if_neg hx, UInt8.toNat_add]
  simp
  omega
theorem str_index (W : World) (s : ByteArray) (X : List UInt8) (hs : s = ⟨X.toArray⟩) (i : Nat) (z : Int) (hz : z = i) (c : UInt8) (hc : X[i]? = some c) : (Instr.index 9 (.string s) (.int .i64 z)).run Tryd.prog W = .ok (.int .u8 (c.toNat : Int)) W := by
  subst hz hs
  have hl : i < X.length := (List.getElem?_eq_some_iff.1 hc).1
  have e : (⟨X.toArray⟩ : ByteArray)[i]? = some c := by
    have h1 : i < (⟨X.toArray⟩ : ByteArray).size := by simpa [ByteArray.size] using hl
    rw [getElem?_pos (⟨X.toArray⟩ : ByteArray) i h1]
    have := (List.getElem?_eq_some_iff.1 hc).2
    simp [ByteArray.getElem_eq_getElem_data, this]
  simp [Instr.index, asIntOf, run_underlying Tryd.underlying9, e]

set_option maxHeartbeats 2000000 in
theorem shaHex_walk (h : List UInt8) (w : World) (ht : Tables w) (hl : h.length = 32) : Calls Tryd.prog 6 #[.agg (bc h).toArray] w fun e w' => e = .returned (.bool true) ∧ Below w.heap.size w w' := by
  have HT := Lib.hid ht
  have HL := Lib.hid hl
  clear ht hl
  go_enter Tryd.func6, Tryd.ntmps6
  go_wp2_with fail
  have HBX := Lib.hid (Row.new w 24 (bc h))
  refine (known3_any _ (HT.out.below (below_new (Below.refl _ _) _))).mono ?_
  rintro _ w1 ⟨rfl, hb1⟩
  have hb : Below w.heap.size w w1 := (below_new (Below.refl _ _) _).trans (hb1.mono (by simp))
  have r1 : Row w1 w.heap.size 24 (bc h) := HBX.out.below hb1 (by simp)
  have HIH := Lib.hid (show (Tryd.prog.info? 24).map (·.size) = some (bc h).toArray.size by
    rw [List.size_toArray, bc_len, HL.out]
    kernel_rfl)
  clear hb1
  go_wp2_with (refine wpList_load_row rfl _ _ rfl w.heap.size rfl _ _ (0, 0) _ r1 Tryd.underlying24 rfl HIH.out ?_)
  refine (hex_any h w1 HL.out).mono ?_
  rintro _ w2 ⟨rfl, hb2⟩
  have r2 := r1.below hb2 r1.lt
  have hb3 := hb.trans (hb2.mono hb.size)
  obtain ⟨s, hs⟩ : ∃ s : ByteArray, ⟨(hex h).toArray⟩ = s := ⟨_, rfl⟩
  have h64 : s.size = 64 := by rw [← hs]; simp [ByteArray.size, hex_len, HL.out]
  rw [hs]
  have HSS := Lib.hid hs
  have R2 := Lib.hid r2
  clear hb hb2 r1 r2 hs HBX HIH
  go_wp2
  go_loop [4, 5, 6, 7] (fun i _ _ _ => ∃ j : Nat, j ≤ 32 ∧ i = .int .i64 j) (fun i _ _ _ => 32 - (intOf i).toNat)
  case atStart => exact ⟨0, by omega, rfl⟩
  case round =>
    obtain ⟨j, hj32, rfl⟩ := hrel
    by_cases hj : j < 32
    · obtain ⟨g1, g2⟩ := hex_get h j (by rw [HL.out]; exact hj)
      have cb : w2.cell? ⟨w.heap.size, j, none⟩ = some (.int .u8 ((h.getD j 0).toNat : Int)) := Row.cell R2.out (by rw [bc_get h j (by rw [HL.out]; omega), List.getD, List.getElem?_eq_getElem (by rw [HL.out]; omega)]; rfl)
      generalize h.getD j 0 = b at g1 g2 cb
      have G1 := Lib.hid g1
      have G2 := Lib.hid g2
      clear g1 g2
      have hbl := b.toNat_lt
      go_wp2_with fail
      go_loop [5, 6, 7] (fun n k _ => ∃ t v : Nat, t ≤ 2 ∧ k = .int .i64 t ∧ n = .int .i64 v ∧ (t = 0 → v = 0) ∧ (t = 1 → v = b.toNat / 16) ∧ (t = 2 → v = b.toNat)) (fun _ k _ => 2 - (intOf k).toNat)
      case atStart => exact ⟨0, 0, by omega, rfl, rfl, fun _ => rfl, fun h => by omega, fun h => by omega⟩
      case round =>
        obtain ⟨t, v, ht2, rfl, rfl, v0, v1, v2⟩ := hrel
        by_cases ht : t < 2
        · obtain ⟨x, c, hx, hidx, hv, hv2⟩ : ∃ (x : Nat) (c : UInt8), x < 16 ∧ (hex h)[2 * j + t]? = some c ∧ (c = digit (UInt8.ofNat x)) ∧ (t = 0 → x = b.toNat / 16) ∧ (t = 1 → x = b.toNat % 16) := by
            rcases Nat.lt_or_ge t 1 with h0 | h1
            · obtain rfl : t = 0 := by omega
              refine ⟨b.toNat / 16, _, by omega, G1.out, ?_, fun _ => rfl, fun h => by omega⟩
              congr 1; apply UInt8.toNat_inj.1; simp; omega
            · obtain rfl : t = 1 := by omega
              refine ⟨b.toNat % 16, _, by omega, G2.out, ?_, fun h => by omega, fun _ => rfl⟩
              congr 1; apply UInt8.toNat_inj.1; simp; omega
          have hxx : (UInt8.ofNat x).toNat = x := by simp; omega
          have hvs : v ≤ 15 := by rcases Nat.lt_or_ge t 1 with h0 | h1 <;> omega
          have hin : ∀ W : World, (Instr.index 9 (.string s) (.int .i64 (2 * (j : Int) + (t : Int)))).run Tryd.prog W = .ok (.int .u8 (c.toNat : Int)) W := fun W =>
            str_index W s (hex h) HSS.out.symm (2 * j + t) _ (by omega) c hidx
          obtain ⟨z, hz⟩ : ∃ z : Int, (c.toNat : Int) = z := ⟨_, rfl⟩
          rw [hz] at hin
          have F := Lib.hid (And.intro v0 (And.intro v1 (And.intro v2 (And.intro hv2.1 hv2.2))))
          rcases Nat.lt_or_ge x 10 with h10 | h10
          · have hz2 : z = 48 + (x : Int) := by rw [← hz, hv, digit_low _ (by omega), hxx]
            clear v0 v1 v2 hv2 hidx hz
            subst hz2
            go_wp2
            go_round
            case rel =>
              obtain ⟨v0, v1, v2, x0, x1⟩ := F.out
              exact ⟨t + 1, 16 * v + x, by omega, by go_num, congrArg (Value.int .i64) (by omega), fun h => by omega, fun h => by omega, fun h => by omega⟩
            case measure => simp [intOf]; omega
          · have hz2 : z = 87 + (x : Int) := by rw [← hz, hv, digit_high _ (by omega) (by omega), hxx]
            clear v0 v1 v2 hv2 hidx hz
            subst hz2
            go_wp2
            go_round
            case rel =>
              obtain ⟨v0, v1, v2, x0, x1⟩ := F.out
              exact ⟨t + 1, 16 * v + x, by omega, by go_num, congrArg (Value.int .i64) (by omega), fun h => by omega, fun h => by omega, fun h => by omega⟩
            case measure => simp [intOf]; omega
        · have hv : v = b.toNat := v2 (by omega)
          subst hv
          clear v0 v1 v2
          go_wp2
          go_round
          case rel => exact ⟨j + 1, by omega, by go_num⟩
          case measure => simp [intOf]; omega
    · have HB := Lib.hid hb3
      clear hb3
      go_wp2
      go_ret
      exact ⟨rfl, HB.out⟩
end Go.Proofs.YtkclbhmjhjfgiaaDoor
