/- Contracts for package crc's divide and Sum: they are the plain CRC-32 of all parts, and nothing turns. -/
import Derived.Test.YtolpiklhnafnbaaBytes
import Derived.Test.YtolpiklhnafnbaaCrcRef
namespace Go.Proofs.Ytolpiklhnafnbaa
set_option maxRecDepth 100000
open Go.RowKit Wd Nm Cm

/-- What one round of divide makes, as the walk has it. -/
theorem mask_yes (c : BitVec 32) (h : c.getLsbD 0 = true) : bits BinOp.xor IntKind.u32 (tn c / (2 : Int)) (bits BinOp.and IntKind.u32 3988292384 4294967295) = tn (bit1 c) := by
  have e : bits BinOp.and IntKind.u32 3988292384 4294967295 = 3988292384 := by decide +kernel
  rw [e, u32_poly, bit1_yes c h]
theorem mask_no (c : BitVec 32) (h : ¬ c.getLsbD 0 = true) : bits BinOp.xor IntKind.u32 (tn c / (2 : Int)) (bits BinOp.and IntKind.u32 3988292384 0) = tn (bit1 c) := by
  have e : bits BinOp.and IntKind.u32 3988292384 0 = tn 0#32 := by decide +kernel
  rw [e, tn_half, u32_xor, bit1_no c h, BitVec.xor_zero]

set_option maxHeartbeats 1000000 in
theorem divide_any (s : BitVec 32) (w : World) :
    Calls Try.prog 71 #[.int .u32 (tn s)] w fun e w' => e = .returned (.int .u32 (tn (bitN 8 s))) ∧ w = w' := by
  go_enter Try.func71, Try.ntmps71
  go_wp2
  have hb0 : s = bitN 0 s := rfl
  go_loop [0, 3] (fun c k => ∃ m : Nat, m ≤ 8 ∧ k = .int .i64 m ∧ c = .int .u32 (tn (bitN m s))) (fun _ k => 8 - (intOf k).toNat)
  case atStart => exact ⟨0, Nat.zero_le _, rfl, rfl⟩
  case round =>
    clear hb0
    obtain ⟨m, hm, rfl, rfl⟩ := hrel
    by_cases hm8 : m < 8
    · have hlow := u32_low (bitN m s)
      have hbd := tn_bd (bitN m s)
      have HN := Lib.hid (show bitN (m + 1) s = bit1 (bitN m s) from rfl)
      by_cases hb : (bitN m s).getLsbD 0 = true
      · rw [if_pos hb] at hlow
        have hmask := mask_yes _ hb
        clear hb
        go_wp2
        go_round
        case rel => exact ⟨m + 1, by omega, by go_num, by rw [HN.out]⟩
        case measure => simp [intOf]; omega
      · rw [if_neg hb] at hlow
        have hmask := mask_no _ hb
        clear hb
        go_wp2
        go_round
        case rel => exact ⟨m + 1, by omega, by go_num, by rw [HN.out]⟩
        case measure => simp [intOf]; omega
    · obtain rfl : m = 8 := by omega
      go_wp2
      go_ret
      exact ⟨rfl, rfl⟩

set_option maxHeartbeats 1000000 in
theorem sum_any (B : Nat) (A : Option Addr) (n cap : Nat) (ps : List Part) (w : World) (hs : LaidAt w B A n ps) (hn : n ≤ 1000000) (hsm : ∀ p ∈ ps, p.n ≤ 1000000000000) :
    Calls Try.prog 64 #[.slice A n cap] w fun e w' => e = .returned (.int .u32 (tn (crc (joined ps)))) ∧ w = w' := by
  have HL := Lib.hid hs.len
  go_enter Try.func64, Try.ntmps64
  go_wp2
  go_loop [3, 5, 10] (fun c _ i => ∃ j : Nat, j ≤ n ∧ i = .int .i64 j ∧ c = .int .u32 (tn (feedAll full (joined (ps.take j))))) (fun _ _ i => n - (intOf i).toNat)
  case atStart => exact ⟨0, Nat.zero_le _, rfl, rfl⟩
  case round =>
    obtain ⟨j, hj, rfl, rfl⟩ := hrel
    by_cases hlt : j < n
    · obtain ⟨g, o, rfl, _, hc⟩ := hs.spot (by omega)
      have hjl : j < ps.length := by have := HL.out; omega
      have hcj := hc j hjl
      have hsh := hs.each ps[j] (List.getElem_mem hjl)
      have hp1 := hsm ps[j] (List.getElem_mem hjl)
      have HJ := Lib.hid (joined_next ps j hjl)
      have hpl := hsh.len
      generalize ps[j] = p at hcj hsh HJ hp1 hpl
      obtain ⟨pA, pn, pc, pl⟩ := p
      simp only at hcj hsh hp1 hpl
      have HPL := Lib.hid hpl
      clear hc hs hsm hpl
      generalize HS0 : joined (ps.take j) = l0 at HJ ⊢
      clear HS0
      go_wp2
      go_loop [3, 7, 16] (fun c _ i => ∃ k : Nat, k ≤ pn ∧ i = .int .i64 k ∧ c = .int .u32 (tn (feedAll full (l0 ++ pl.take k)))) (fun _ _ i => pn - (intOf i).toNat)
      case atStart => exact ⟨0, Nat.zero_le _, rfl, by rw [List.take_zero, List.append_nil]⟩
      case round =>
        obtain ⟨k, hk, rfl, rfl⟩ := hrel
        by_cases hlk : k < pn
        · obtain ⟨b, q, rfl, _, hd⟩ := hsh.spot (by omega)
          have hkl : k < pl.length := by have := HPL.out; omega
          have hdk : w.cell? ⟨b, q + k, none⟩ = some (.int .u8 (pl[k].toNat : Int)) := hd k hkl
          have hfeed := u32_feed (feedAll full (l0 ++ pl.take k)) pl[k]
          have HF := Lib.hid (show feedAll full (l0 ++ pl.take (k + 1)) = bitN 8 (feedAll full (l0 ++ pl.take k) ^^^ wide pl[k]) by
            rw [List.take_succ_eq_append_getElem hkl, ← List.append_assoc, feedAll_snoc]; rfl)
          clear hd hsh hcj
          go_wp2_with ((with_reducible refine (divide_any _ _).mono ?_); rintro e w' ⟨rfl, rfl⟩)
          go_round
          case rel => exact ⟨k + 1, by omega, by go_num, by rw [HF.out]⟩
          case measure => simp [intOf]; omega
        · obtain rfl : k = pn := by omega
          have htk : pl.take pl.length = pl := List.take_length
          have HT := Lib.hid (show feedAll full (joined (ps.take (j + 1))) = feedAll full (l0 ++ pl.take k) by rw [HJ.out, ← HPL.out, htk])
          clear htk hsh hcj
          go_wp2
          go_round
          case rel => exact ⟨j + 1, by omega, by go_num, by rw [HT.out]⟩
          case measure => simp [intOf]; omega
    · obtain rfl : n = j := by omega
      have htk : ps.take n = ps := List.take_of_length_le (by have := HL.out; omega)
      rw [htk]
      have hnot := u32_not (feedAll full (joined ps))
      clear hs hsm htk
      go_wp2
      go_ret
      exact ⟨rfl, rfl⟩
end Go.Proofs.Ytolpiklhnafnbaa
