/- Contracts for the reference's Sum of chapter 2: it is the plain CRC-32 of the bytes, and nothing turns. -/
import Derived.Test.YtolpiklhnafnbaaProg
import Derived.Test.YtolpiklhnafnbaaU32
import Derived.Lib.Hide
namespace Go.Proofs.Ytolpiklhnafnbaa
set_option maxRecDepth 100000
open Go.RowKit Wd Cm

/-! ### the walk's own spellings: a state as a number, behind a name -/
theorem u32_feed (c : BitVec 32) (x : UInt8) : bits BinOp.xor IntKind.u32 (tn c) ((x.toNat : Int) % 4294967296) = tn (c ^^^ wide x) := by
  have h := x.toNat_lt
  have hx : (x.toNat : Int) % 4294967296 = tn (wide x) := by rw [tn_wide]; omega
  rw [hx, u32_xor]
theorem tn_half (c : BitVec 32) : tn c / (2 : Int) = tn (c >>> 1) := by
  unfold tn
  rw [BitVec.toNat_ushiftRight, Nat.shiftRight_eq_div_pow]
  omega
theorem u32_poly (c : BitVec 32) : bits BinOp.xor IntKind.u32 (tn c / (2 : Int)) 3988292384 = tn (c >>> 1 ^^^ poly) := by
  have hp : bits BinOp.xor IntKind.u32 (tn (c >>> 1)) (tn poly) = tn (c >>> 1 ^^^ poly) := u32_xor _ _
  rw [tn_half]
  exact hp
theorem u32_low (c : BitVec 32) : bits BinOp.and IntKind.u32 (tn c) 1 = if c.getLsbD 0 = true then 1 else 0 := by
  show IntKind.u32.wrap ((BitVec.ofInt 32 (c.toNat : Int) &&& BitVec.ofInt 32 1).toNat : Int) = _
  have h1 : (BitVec.ofInt 32 1).toNat = 2 ^ 1 - 1 := by decide
  rw [BitVec.ofInt_natCast, BitVec.ofNat_toNat, BitVec.setWidth_eq, BitVec.toNat_and, h1, Nat.and_two_pow_sub_one_eq_mod, IntKind.wrap_u32]
  have h0 : c.getLsbD 0 = decide (c.toNat % 2 = 1) := by
    rw [BitVec.getLsbD]
    simp [Nat.testBit_zero]
  rw [h0]
  by_cases h : c.toNat % 2 = 1
  · simp [h]
  · have h2 : c.toNat % 2 = 0 := by omega
    simp [h2]
theorem bit1_yes (c : BitVec 32) (h : c.getLsbD 0 = true) : bit1 c = c >>> 1 ^^^ poly := by unfold bit1; rw [if_pos h]
theorem bit1_no (c : BitVec 32) (h : ¬ c.getLsbD 0 = true) : bit1 c = c >>> 1 := by unfold bit1; rw [if_neg h]

set_option maxHeartbeats 1000000 in
theorem refsum_any (B : Nat) (A : Option Addr) (n cap : Nat) (l : List UInt8) (w : World) (hs : Shows w B A n cap l) (hn : n ≤ 1000000000000) :
    Calls Try.prog 65 #[.slice A n cap] w fun e w' => e = .returned (.int .u32 (tn (crc l))) ∧ w = w' := by
  have HL := Lib.hid hs.len
  go_enter Try.func65, Try.ntmps65
  go_wp2
  go_loop [3, 4, 5] (fun c i _ => ∃ j : Nat, j ≤ n ∧ i = .int .i64 j ∧ c = .int .u32 (tn (feedAll full (l.take j)))) (fun _ i _ => n - (intOf i).toNat)
  case atStart => exact ⟨0, Nat.zero_le _, rfl, rfl⟩
  case round =>
    obtain ⟨j, hj, rfl, rfl⟩ := hrel
    by_cases hlt : j < n
    · obtain ⟨b, o, rfl, _, hc⟩ := hs.spot (by omega)
      have hjl : j < l.length := by have := HL.out; omega
      have hcj : w.cell? ⟨b, o + j, none⟩ = some (.int .u8 (l[j].toNat : Int)) := hc j hjl
      have hf := u32_feed (feedAll full (l.take j)) l[j]
      have HF := Lib.hid (feedAll_take full l j hjl)
      generalize feedAll full (l.take j) = c0 at hf HF ⊢
      clear hc
      go_wp2
      have hb0 : (c0 ^^^ wide l[j]) = bitN 0 (c0 ^^^ wide l[j]) := rfl
      have HB := Lib.hid (show feed c0 l[j] = bitN 8 (c0 ^^^ wide l[j]) from rfl)
      generalize c0 ^^^ wide l[j] = s at hb0 HB ⊢
      go_loop [3, 5] (fun c k => ∃ m : Nat, m ≤ 8 ∧ k = .int .i64 m ∧ c = .int .u32 (tn (bitN m s))) (fun _ k => 8 - (intOf k).toNat)
      case atStart => exact ⟨0, Nat.zero_le _, rfl, rfl⟩
      case round =>
        clear hb0 hcj
        obtain ⟨m, hm, rfl, rfl⟩ := hrel
        by_cases hm8 : m < 8
        · have hlow := u32_low (bitN m s)
          have hpoly := u32_poly (bitN m s)
          have hhalf := tn_half (bitN m s)
          by_cases hb : (bitN m s).getLsbD 0 = true
          · rw [if_pos hb] at hlow
            have HN := Lib.hid (show bitN (m + 1) s = (bitN m s) >>> 1 ^^^ poly from bit1_yes _ hb)
            clear hb hhalf
            go_wp2
            go_round
            case rel => exact ⟨m + 1, by omega, by go_num, by rw [HN.out]⟩
            case measure => simp [intOf]; omega
          · rw [if_neg hb] at hlow
            have HN := Lib.hid (show bitN (m + 1) s = (bitN m s) >>> 1 from bit1_no _ hb)
            clear hb hpoly
            go_wp2
            go_round
            case rel => exact ⟨m + 1, by omega, by go_num, by rw [HN.out]⟩
            case measure => simp [intOf]; omega
        · obtain rfl : m = 8 := by omega
          go_wp2
          go_round
          case rel => exact ⟨j + 1, by omega, by go_num, by rw [HF.out, HB.out]⟩
          case measure => simp [intOf]; omega
    · obtain rfl : n = j := by omega
      have htk : l.take n = l := List.take_of_length_le (by have := HL.out; omega)
      rw [htk]
      have hnot := u32_not (feedAll full l)
      go_wp2
      go_ret
      exact ⟨rfl, rfl⟩
end Go.Proofs.Ytolpiklhnafnbaa
