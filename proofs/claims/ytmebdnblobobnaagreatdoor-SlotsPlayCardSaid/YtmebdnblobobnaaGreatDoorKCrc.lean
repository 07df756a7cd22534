/- Merged: Contracts for the reference's Sum of chapter 2: it is the plain CRC-32 of the bytes, and nothing turns. Contracts for the reference's Seal and Open of chapter 2. Contracts for package crc's divide and Sum: they are the plain CRC-32 of all parts, and nothing turns. Contracts for package crc's little, number and Seal. Contracts for package crc's Open: it answers as the plain 'opened' says. -/
import Derived.Test.YtmebdnblobobnaaGreatDoorProg
import Derived.Test.YtmebdnblobobnaaGreatDoorKBase
import Derived.Lib.Hide
import Derived.Deep.QuietTactic
import Derived.BigQuiet
import Derived.Test.YtmebdnblobobnaaGreatDoorKMem
import Derived.Deep.RegionHeld3
namespace Go.Proofs.YtmebdnblobobnaaGreatDoor
set_option maxRecDepth 100000
open Go.RowKit _root_.Go.Proofs.YtmebdnblobobnaaGreatDoor.Wd _root_.Go.Proofs.YtmebdnblobobnaaGreatDoor.Cm

/-! ### the walk's own spellings: a state as a number, behind a name -/
theorem u32_feed (c : BitVec 32) (x : UInt8) : bits BinOp.xor IntKind.u32 (tn c) ((x.toNat : Int) % 4294967296) = tn (c ^^^ wide x) := by
  have h := x.toNat_lt
  have hx : (x.toNat : Int) % 4294967296 = tn (wide x) := by rw [tn_wide]; omega
  rw [hx, u32_xor]
theorem tn_half (c : BitVec 32) : tn c / (2 : Int) = tn (c >>> 1) := by
  unfold tn
  rw [BitVec.toNat_ushiftRight, Nat.shiftRight_eq_div_pow]
  omega
theorem u32_poly (c : BitVec 32) : bits BinOp.xor IntKind.u32 (tn c / (2 : Int)) 3988292384 = tn (c >>> 1 ^^^ poly) := by
  have hp : bits BinOp.xor IntKind.u32 (tn (c >>> 1)) (tn poly) = tn (c >>> 1 ^^^ poly) := u32_xor _ _
  rw [tn_half]
  exact hp
theorem u32_low (c : BitVec 32) : bits BinOp.and IntKind.u32 (tn c) 1 = if c.getLsbD 0 = true then 1 else 0 := by
  show IntKind.u32.wrap ((BitVec.ofInt 32 (c.toNat : Int) &&& BitVec.ofInt 32 1).toNat : Int) = _
  have h1 : (BitVec.ofInt 32 1).toNat = 2 ^ 1 - 1 := by decide
  rw [BitVec.ofInt_natCast, BitVec.ofNat_toNat, BitVec.setWidth_eq, BitVec.toNat_and, h1, Nat.and_two_pow_sub_one_eq_mod, IntKind.wrap_u32]
  have h0 : c.getLsbD 0 = decide (c.toNat % 2 = 1) := by
    rw [BitVec.getLsbD]
    simp [Nat.testBit_zero]
  rw [h0]
  by_cases h : c.toNat % 2 = 1
  · simp [h]
  · have h2 : c.toNat % 2 = 0 := by omega
    simp [h2]
theorem bit1_yes (c : BitVec 32) (h : c.getLsbD 0 = true) : bit1 c = c >>> 1 ^^^ poly := by unfold bit1; rw [if_pos h]
theorem bit1_no (c : BitVec 32) (h : ¬ c.getLsbD 0 = true) : bit1 c = c >>> 1 := by unfold bit1; rw [if_neg h]

set_option maxHeartbeats 1000000 in
theorem refsum_any (B : Nat) (A : Option Addr) (n cap : Nat) (l : List UInt8) (w : World) (hs : Shows w B A n cap l) (hn : n ≤ 1000000000000) :
    Calls Tryz.prog 82 #[.slice A n cap] w fun e w' => e = .returned (.int .u32 (tn (crc l))) ∧ w = w' := by
  have HL := Lib.hid hs.len
  go_enter Tryz.func82, Tryz.ntmps82
  go_wp2
  go_loop [3, 4, 5] (fun c i _ => ∃ j : Nat, j ≤ n ∧ i = .int .i64 j ∧ c = .int .u32 (tn (feedAll full (l.take j)))) (fun _ i _ => n - (intOf i).toNat)
  case atStart => exact ⟨0, Nat.zero_le _, rfl, rfl⟩
  case round =>
    obtain ⟨j, hj, rfl, rfl⟩ := hrel
    by_cases hlt : j < n
    · obtain ⟨b, o, rfl, _, hc⟩ := hs.spot (by omega)
      have hjl : j < l.length := by have := HL.out; omega
      have hcj : w.cell? ⟨b, o + j, none⟩ = some (.int .u8 (l[j].toNat : Int)) := hc j hjl
      have hf := u32_feed (feedAll full (l.take j)) l[j]
      have HF := Lib.hid (feedAll_take full l j hjl)
      generalize feedAll full (l.take j) = c0 at hf HF ⊢
      clear hc
      go_wp2
      have hb0 : (c0 ^^^ wide l[j]) = bitN 0 (c0 ^^^ wide l[j]) := rfl
      have HB := Lib.hid (show feed c0 l[j] = bitN 8 (c0 ^^^ wide l[j]) from rfl)
      generalize c0 ^^^ wide l[j] = s at hb0 HB ⊢
      go_loop [3, 5] (fun c k => ∃ m : Nat, m ≤ 8 ∧ k = .int .i64 m ∧ c = .int .u32 (tn (bitN m s))) (fun _ k => 8 - (intOf k).toNat)
      case atStart => exact ⟨0, Nat.zero_le _, rfl, rfl⟩
      case round =>
        clear hb0 hcj
        obtain ⟨m, hm, rfl, rfl⟩ := hrel
        by_cases hm8 : m < 8
        · have hlow := u32_low (bitN m s)
          have hpoly := u32_poly (bitN m s)
          have hhalf := tn_half (bitN m s)
          by_cases hb : (bitN m s).getLsbD 0 = true
          · rw [if_pos hb] at hlow
            have HN := Lib.hid (show bitN (m + 1) s = (bitN m s) >>> 1 ^^^ poly from bit1_yes _ hb)
            clear hb hhalf
            go_wp2
            go_round
            case rel => exact ⟨m + 1, by omega, by go_num, by rw [HN.out]⟩
            case measure => simp [intOf]; omega
          · rw [if_neg hb] at hlow
            have HN := Lib.hid (show bitN (m + 1) s = (bitN m s) >>> 1 from bit1_no _ hb)
            clear hb hpoly
            go_wp2
            go_round
            case rel => exact ⟨m + 1, by omega, by go_num, by rw [HN.out]⟩
            case measure => simp [intOf]; omega
        · obtain rfl : m = 8 := by omega
          go_wp2
          go_round
          case rel => exact ⟨j + 1, by omega, by go_num, by rw [HF.out, HB.out]⟩
          case measure => simp [intOf]; omega
    · obtain rfl : n = j := by omega
      have htk : l.take n = l := List.take_of_length_le (by have := HL.out; omega)
      rw [htk]
      have hnot := u32_not (feedAll full l)
      go_wp2
      go_ret
      exact ⟨rfl, rfl⟩
end Go.Proofs.YtmebdnblobobnaaGreatDoor

namespace Go.Proofs.YtmebdnblobobnaaGreatDoor
set_option maxRecDepth 100000
open Go.RowKit _root_.Go.Proofs.YtmebdnblobobnaaGreatDoor.Wd _root_.Go.Proofs.YtmebdnblobobnaaGreatDoor.Nm _root_.Go.Proofs.YtmebdnblobobnaaGreatDoor.Cm

/-- Bytes, sealed. -/
def sealed (l : List UInt8) : List UInt8 := leb l.length 2 ++ leb (tn (crc l)) 4 ++ l
theorem sealed_len (l : List UInt8) : (sealed l).length = 6 + l.length := by
  unfold sealed
  rw [List.length_append, List.length_append, leb_len, leb_len]
/-- Bytes, opened: what was sealed at their front, how many they take, the error. -/
def opened (b : List UInt8) : List UInt8 × Nat × Int :=
  if b.length < 6 then ([], 0, 8)
  else if b.length - 6 < leNat (b.take 2) then ([], 0, 8)
  else if tn (crc ((b.drop 6).take (leNat (b.take 2)))) = (leNat ((b.drop 2).take 4) : Int) then ((b.drop 6).take (leNat (b.take 2)), 6 + leNat (b.take 2), 0)
  else ([], 0, 10)

theorem infoByte2 : (Tryz.prog.info? 5).map (fun i => (i.zero, i.size, i.bytes)) = some (some (.int .u8 0), 1, 1) := by kernel_rfl

/-- Six bytes, as a literal lays them. -/
theorem own_six (w : World) (base : Nat) (a0 a1 a2 a3 a4 a5 : Int) (c0 c1 c2 c3 c4 c5 : UInt8) (h0 : (c0.toNat : Int) = a0) (h1 : (c1.toNat : Int) = a1) (h2 : (c2.toNat : Int) = a2) (h3 : (c3.toNat : Int) = a3) (h4 : (c4.toNat : Int) = a4) (h5 : (c5.toNat : Int) = a5) (hb : base ≤ w.heap.size) :
    (w.alloc (.cells #[.int .u8 a0, .int .u8 a1, .int .u8 a2, .int .u8 a3, .int .u8 a4, .int .u8 a5] 5)).ownsRow base 5 1 (.slice (some ⟨w.heap.size, 0, none⟩) 6 6) 6 (bc [c0, c1, c2, c3, c4, c5]) := by
  subst h0 h1 h2 h3 h4 h5
  exact World.ownsRow_lit w #[.int .u8 (c0.toNat : Int), .int .u8 (c1.toNat : Int), .int .u8 (c2.toNat : Int), .int .u8 (c3.toNat : Int), .int .u8 (c4.toNat : Int), .int .u8 (c5.toNat : Int)] 6 hb (by simp [maxLen]) rfl

theorem leb_four (z : Int) (h0 : 0 ≤ z) (h1 : z < 4294967296) : leb z 4 = [lb z 0, lb z 1, lb z 2, lb z 3] ∧ ((lb z 0).toNat : Int) = z % 256 ∧ ((lb z 1).toNat : Int) = z / 256 % 256 ∧ ((lb z 2).toNat : Int) = z / 65536 % 256 ∧ ((lb z 3).toNat : Int) = z / 16777216 := by
  refine ⟨rfl, ?_, ?_, ?_, ?_⟩ <;> rw [lb_nat]
  · simp
  · rfl
  · rfl
  · have : (2 : Int) ^ (8 * 3) = 16777216 := rfl
    rw [this]
    omega
theorem leb_pair (T : Int) (h0 : 0 ≤ T) (h1 : T < 65536) : leb T 2 = [lb T 0, lb T 1] ∧ ((lb T 0).toNat : Int) = T % 256 ∧ ((lb T 1).toNat : Int) = T / 256 := by
  refine ⟨rfl, ?_, ?_⟩
  · rw [lb_nat]; simp
  · rw [lb_nat]
    have : (2 : Int) ^ (8 * 1) = 256 := rfl
    rw [this]
    omega

set_option maxHeartbeats 1000000 in
theorem refseal_no (A : Option Addr) (n cap : Nat) (w : World) (hn : 65535 < n) (hn2 : n ≤ 1000000000000) :
    Calls Tryz.prog 60 #[.slice A n cap] w fun e w' => e = .returned (.slice none 0 0) ∧ w = w' := by
  go_enter Tryz.func60, Tryz.ntmps60
  go_wp2
  go_ret
  exact ⟨rfl, rfl⟩

set_option maxHeartbeats 1000000 in
theorem refseal_yes (A : Option Addr) (n cap : Nat) (l : List UInt8) (w : World) (hs : Shows w w.heap.size A n cap l) (hn : n ≤ 65535) :
    Calls Tryz.prog 60 #[.slice A n cap] w fun e w' => ∃ A2 c2, e = .returned (.slice A2 (6 + n) c2) ∧ w'.ownsRow w.heap.size 5 1 (.slice A2 (6 + n) c2) (6 + n) (bc (sealed l)) ∧ Below w.heap.size w w' := by
  obtain ⟨i0, hi0, hz0, hz1, hz2⟩ := info_parts infoByte2
  have HC := Lib.hid (refsum_any _ A n cap l w hs (by omega))
  have HL := Lib.hid hs.len
  go_enter Tryz.func60, Tryz.ntmps60
  go_wp2_with fail
  refine HC.out.mono ?_
  rintro _ w1 ⟨rfl, rfl⟩
  clear HC
  have hbd := tn_bd (crc l)
  generalize hz : tn (crc l) = z at hbd ⊢
  obtain ⟨hz0', hz1'⟩ := hbd
  have HZ := Lib.hid hz
  clear hz
  obtain ⟨ep, p0, p1⟩ := leb_pair (n : Int) (by omega) (by omega)
  obtain ⟨eq, q0, q1, q2, q3⟩ := leb_four z hz0' hz1'
  have HO := Lib.hid (own_six w w.heap.size _ _ _ _ _ _ _ _ _ _ _ _ p0 p1 q0 q1 q2 q3 (Nat.le_refl _))
  have hse : sealed l = [lb (n : Int) 0, lb (n : Int) 1, lb z 0, lb z 1, lb z 2, lb z 3] ++ l := by
    unfold sealed
    rw [HZ.out, HL.out, ep, eq]
    rfl
  have HSE := Lib.hid hse
  have hba : Below w.heap.size w (w.alloc (.cells #[Value.int .u8 ((n : Int) % 256), Value.int .u8 ((n : Int) / 256), Value.int .u8 (z % 256), Value.int .u8 (z / 256 % 256), Value.int .u8 (z / 65536 % 256), Value.int .u8 (z / 16777216)] 5)) := (Below.refl _ _).alloc (Nat.le_refl _) _
  have HSRC := Lib.hid ((hs.below hba).src (P := Tryz.prog) Tryz.underlying29)
  have HBA := Lib.hid hba
  clear ep p0 p1 eq q0 q1 q2 q3 hse hba hs
  go_wp2_with (at_builtin; refine wpList_ap _ rfl (.tmp 29) (.tmp 30) 29 29 rfl w.heap.size 5 i0 Tryz.underlying29 hi0 hz0 hz1 hz2 _ 6 6 _ rfl HO.out _ n l rfl HSRC.out ?c1 ?c2 ?_)
  case c1 => omega
  case c2 => simp
  intro A2 c2 w2 hown2 _ hg2 _
  have hb2 := HBA.out.grown hg2 HBA.out.size (by intro k hk; injection hk with hk; omega)
  have HOWN := Lib.hid hown2
  clear hown2 hg2 HBA HO HSRC
  go_wp2
  go_ret
  exact ⟨A2, c2, rfl, by rw [HSE.out]; exact HOWN.out, hb2⟩

theorem refsum_q (w : World) (q : Nat) (A : Option Addr) (n cap : Nat) (l : List UInt8) (hs : Shows w w.heap.size A n cap l) (hn : n ≤ 1000000000000) :
    Calls Tryz.prog 82 #[.slice A n cap] (w.drewN q) fun e w' => e = .returned (.int .u32 (tn (crc l))) ∧ w' = w.drewN q := by
  refine (refsum_any w.heap.size A n cap l (w.drewN q) (hs.keep fun _ _ => rfl) hn).mono ?_
  rintro e w' ⟨rfl, rfl⟩
  exact ⟨rfl, rfl⟩

set_option maxHeartbeats 1000000 in
theorem refopen_short (A : Option Addr) (n cap : Nat) (w : World) (hn : n < 6) :
    Calls Tryz.prog 81 #[.slice A n cap] w fun e w' => e = .returned (.tuple #[.slice none 0 0, .int .i64 0, .int .i64 8]) ∧ w = w' := by
  go_enter Tryz.func81, Tryz.ntmps81
  go_wp2
  go_ret3
  exact ⟨rfl, rfl⟩

theorem len_sum (x y : UInt8) : wrap64 (wrap64 (x.toNat : Int) + wrap64 (256 * wrap64 (y.toNat : Int))) = ((x.toNat + 256 * y.toNat : Nat) : Int) := by
  have hx := x.toNat_lt
  have hy := y.toNat_lt
  rw [wrap64_of (x.toNat : Int) (by omega) (by omega), wrap64_of (y.toNat : Int) (by omega) (by omega), wrap64_of (256 * (y.toNat : Int)) (by omega) (by omega), wrap64_of _ (by omega) (by omega)]
  omega

set_option maxHeartbeats 2000000 in
theorem refopen_cut (A : Option Addr) (n cap : Nat) (a0 a1 a2 a3 a4 a5 : UInt8) (r : List UInt8) (w : World) (hs : Shows w w.heap.size A n cap (a0 :: a1 :: a2 :: a3 :: a4 :: a5 :: r)) (hn : n ≤ 1000000) (hm : r.length < a0.toNat + 256 * a1.toNat) :
    Calls Tryz.prog 81 #[.slice A n cap] w fun e w' => e = .returned (.tuple #[.slice none 0 0, .int .i64 0, .int .i64 8]) ∧ ∃ q, w' = w.drewN q := by
  have hl := hs.len
  simp only [List.length_cons] at hl
  have hl' : n = r.length + 6 := by omega
  obtain ⟨g, o, rfl, _, hc⟩ := hs.spot (by omega)
  have c0 : w.cell? ⟨g, o, none⟩ = some (.int .u8 (a0.toNat : Int)) := hc 0 (by simp)
  have c1 : w.cell? ⟨g, o + 1, none⟩ = some (.int .u8 (a1.toNat : Int)) := hc 1 (by simp)
  have hsum := len_sum a0 a1
  have hm2 : a0.toNat + 256 * a1.toNat ≤ 70000 := by have := a0.toNat_lt; have := a1.toNat_lt; omega
  generalize a0.toNat + 256 * a1.toNat = m at hm hsum hm2
  have HSUM := Lib.hid hsum
  have h6 : 6 ≤ n := by omega
  have hlt : (n : Int) - 6 < m := by omega
  clear hc hs hl hl' hsum
  go_enter Tryz.func81, Tryz.ntmps81
  go_wp2_with fail
  first
    | go_quiet (fail)
    | fail "the region"
  rw [HSUM.out]
  go_wp2
  go_ret3
  exact ⟨rfl, _, rfl⟩

theorem u32_or_up (a b : Int) (i : Nat) (a0 : 0 ≤ a) (a1 : a < 2 ^ i) (b0 : 0 ≤ b) (b1 : b % 2 ^ i = 0) (b2 : b < 4294967296) (a2 : a < 4294967296) : bits BinOp.or IntKind.u32 a b = a + b := by
  have hc : bits BinOp.or IntKind.u32 a b = bits BinOp.or IntKind.u32 b a := by simp only [bits, BitVec.or_comm]
  have h32 : (2 : Int) ^ 32 = 4294967296 := rfl
  rw [hc, bits_join .u32 32 (by decide) (fun n h0 h1 => by rw [IntKind.wrap_u32]; rw [h32] at h1; omega) i b a b0 b1 (by rw [h32]; exact b2) a0 a1 (by rw [h32]; exact a2)]
  omega
/-- The sum that four bytes say, as the walk has it. -/
theorem four_or (x y z t : UInt8) : bits BinOp.or IntKind.u32 (bits BinOp.or IntKind.u32 (bits BinOp.or IntKind.u32 ((x.toNat : Int) % 4294967296) ((y.toNat : Int) % 4294967296 * 256 % 4294967296)) ((z.toNat : Int) % 4294967296 * 65536 % 4294967296)) ((t.toNat : Int) % 4294967296 * 16777216 % 4294967296) = (leNat [x, y, z, t] : Int) := by
  have hx := x.toNat_lt
  have hy := y.toNat_lt
  have hz := z.toNat_lt
  have ht := t.toNat_lt
  have e8 : (2 : Int) ^ 8 = 256 := rfl
  have e16 : (2 : Int) ^ 16 = 65536 := rfl
  have e24 : (2 : Int) ^ 24 = 16777216 := rfl
  have hl : (leNat [x, y, z, t] : Int) = x.toNat + 256 * y.toNat + 65536 * z.toNat + 16777216 * t.toNat := by
    simp only [leNat]
    omega
  have h1 : (x.toNat : Int) % 4294967296 = x.toNat := by omega
  have h2 : (y.toNat : Int) % 4294967296 * 256 % 4294967296 = 256 * y.toNat := by omega
  have h3 : (z.toNat : Int) % 4294967296 * 65536 % 4294967296 = 65536 * z.toNat := by omega
  have h4 : (t.toNat : Int) % 4294967296 * 16777216 % 4294967296 = 16777216 * t.toNat := by omega
  rw [h1, h2, h3, h4, hl]
  have e1 := u32_or_up (x.toNat : Int) (256 * y.toNat) 8 (by omega) (by rw [e8]; omega) (by omega) (by rw [e8]; omega) (by omega) (by omega)
  have e2 := u32_or_up ((x.toNat : Int) + 256 * y.toNat) (65536 * z.toNat) 16 (by omega) (by rw [e16]; omega) (by omega) (by rw [e16]; omega) (by omega) (by omega)
  have e3 := u32_or_up ((x.toNat : Int) + 256 * y.toNat + 65536 * z.toNat) (16777216 * t.toNat) 24 (by omega) (by rw [e24]; omega) (by omega) (by rw [e24]; omega) (by omega) (by omega)
  rw [e1, e2, e3]

set_option maxHeartbeats 2000000 in
theorem refopen_bad (A : Option Addr) (n cap : Nat) (a0 a1 a2 a3 a4 a5 : UInt8) (r : List UInt8) (w : World) (hs : Shows w w.heap.size A n cap (a0 :: a1 :: a2 :: a3 :: a4 :: a5 :: r)) (hn : n ≤ 1000000) (m : Nat) (hmm : a0.toNat + 256 * a1.toNat = m) (hm : m ≤ r.length)
    (hsu : (tn (crc (r.take m)) != (leNat [a2, a3, a4, a5] : Int)) = true) :
    Calls Tryz.prog 81 #[.slice A n cap] w fun e w' => e = .returned (.tuple #[.slice none 0 0, .int .i64 0, .int .i64 10]) ∧ ∃ q, w' = w.drewN q := by
  have hl := hs.len
  simp only [List.length_cons] at hl
  have hcap := hs.le
  have hsd := (hs.drop (k := 6) (by omega)).take (k := m) (by omega)
  simp only [List.drop_succ_cons, List.drop_zero] at hsd
  obtain ⟨g, o, rfl, _, hc⟩ := hs.spot (by omega)
  have c0 : w.cell? ⟨g, o, none⟩ = some (.int .u8 (a0.toNat : Int)) := hc 0 (by simp)
  have c1 : w.cell? ⟨g, o + 1, none⟩ = some (.int .u8 (a1.toNat : Int)) := hc 1 (by simp)
  have c2 : w.cell? ⟨g, o + 2, none⟩ = some (.int .u8 (a2.toNat : Int)) := hc 2 (by simp)
  have c3 : w.cell? ⟨g, o + 3, none⟩ = some (.int .u8 (a3.toNat : Int)) := hc 3 (by simp)
  have c4 : w.cell? ⟨g, o + 4, none⟩ = some (.int .u8 (a4.toNat : Int)) := hc 4 (by simp)
  have c5 : w.cell? ⟨g, o + 5, none⟩ = some (.int .u8 (a5.toNat : Int)) := hc 5 (by simp)
  have hsum := len_sum a0 a1
  have hm2 : a0.toNat + 256 * a1.toNat ≤ 70000 := by have := a0.toNat_lt; have := a1.toNat_lt; omega
  rw [hmm] at hsum hm2
  have h6 : 6 ≤ n := by omega
  have h7 : 2 < n := by omega
  have hhi : 6 + (m : Int) ≤ n := by omega
  have hlt : ¬ (n : Int) - 6 < m := by omega
  have hm60 : cap = 6 → m = 0 ∧ n = 6 := fun h => by omega
  have HSUM := Lib.hid hsum
  have HFOUR := Lib.hid (four_or a2 a3 a4 a5)
  have HSU := Lib.hid hsu
  obtain ⟨i0, hi0, hz0, hz1, hz2⟩ := info_parts infoByte2
  clear hc hs hl hmm hm hsum hsu
  by_cases hcc : cap = 6
  · obtain ⟨rfl, rfl⟩ := hm60 hcc
    subst hcc
    have hsd2 := hsd
    rw [if_pos rfl, List.take_zero] at hsd2
    have HSD := Lib.hid hsd2
    clear hsd hsd2 hm60
    go_enter Tryz.func81, Tryz.ntmps81
    go_wp2_with fail
    first
      | go_quiet (fail)
      | fail "the region"
    rw [HSUM.out]
    go_wp2
    obtain ⟨W, hW⟩ : ∃ W, W = w.drewN nq := ⟨_, rfl⟩
    have d2 : W.cell? ⟨g, o + 2, none⟩ = some (.int .u8 (a2.toNat : Int)) := by rw [hW]; exact c2
    have d3 : W.cell? ⟨g, o + 3, none⟩ = some (.int .u8 (a3.toNat : Int)) := by rw [hW]; exact c3
    have d4 : W.cell? ⟨g, o + 4, none⟩ = some (.int .u8 (a4.toNat : Int)) := by rw [hW]; exact c4
    have d5 : W.cell? ⟨g, o + 5, none⟩ = some (.int .u8 (a5.toNat : Int)) := by rw [hW]; exact c5
    have HSW : Hid (Shows W W.heap.size (some ⟨g, o, none⟩) 0 0 []) := by rw [hW]; exact HSD.out.keep fun _ _ => rfl
    rw [← hW]
    have HW := Lib.hid hW
    clear hW c0 c1 c2 c3 c4 c5
    first
      | go_quiet ((go_at_call 82; exact Calls.quiet_of_same (refsum_q W _ _ _ _ _ HSW.out (by omega))))
      | fail "the region"
    rw [HFOUR.out]
    have hsu2 := HSU.out
    rw [List.take_zero] at hsu2
    clear d2 d3 d4 d5
    go_wp2
    go_ret3
    rw [HW.out]
    exact ⟨rfl, _, World.drewN_drewN _ _ _⟩
  · rw [if_neg hcc] at hsd
    have HSD := Lib.hid hsd
    clear hsd hm60
    go_enter Tryz.func81, Tryz.ntmps81
    go_wp2_with fail
    first
      | go_quiet (fail)
      | fail "the region"
    rw [HSUM.out]
    go_wp2
    obtain ⟨W, hW⟩ : ∃ W, W = w.drewN nq := ⟨_, rfl⟩
    have d2 : W.cell? ⟨g, o + 2, none⟩ = some (.int .u8 (a2.toNat : Int)) := by rw [hW]; exact c2
    have d3 : W.cell? ⟨g, o + 3, none⟩ = some (.int .u8 (a3.toNat : Int)) := by rw [hW]; exact c3
    have d4 : W.cell? ⟨g, o + 4, none⟩ = some (.int .u8 (a4.toNat : Int)) := by rw [hW]; exact c4
    have d5 : W.cell? ⟨g, o + 5, none⟩ = some (.int .u8 (a5.toNat : Int)) := by rw [hW]; exact c5
    have HSW : Hid (Shows W W.heap.size (some ⟨g, o + 6, none⟩) m (cap - 6) (r.take m)) := by rw [hW]; exact HSD.out.keep fun _ _ => rfl
    rw [← hW]
    have HW := Lib.hid hW
    clear hW c0 c1 c2 c3 c4 c5
    first
      | go_quiet ((go_at_call 82; exact Calls.quiet_of_same (refsum_q W _ _ _ _ _ HSW.out (by omega))))
      | fail "the region"
    rw [HFOUR.out]
    have hsu2 := HSU.out
    clear d2 d3 d4 d5
    go_wp2
    go_ret3
    rw [HW.out]
    exact ⟨rfl, _, World.drewN_drewN _ _ _⟩

set_option maxHeartbeats 2000000 in
theorem refopen_own (A : Option Addr) (n cap : Nat) (a0 a1 a2 a3 a4 a5 : UInt8) (r : List UInt8) (w : World) (hs : Shows w w.heap.size A n cap (a0 :: a1 :: a2 :: a3 :: a4 :: a5 :: r)) (hn : n ≤ 1000000) (m : Nat) (hmm : a0.toNat + 256 * a1.toNat = m) (hm : m ≤ r.length)
    (hsu : (tn (crc (r.take m)) != (leNat [a2, a3, a4, a5] : Int)) = false) :
    Calls Tryz.prog 81 #[.slice A n cap] w fun e w' => ∃ A2 c2, e = .returned (.tuple #[.slice A2 m c2, .int .i64 (6 + m), .int .i64 0]) ∧ w'.ownsRow w.heap.size 5 1 (.slice A2 m c2) m (bc (r.take m)) ∧ Below w.heap.size w w' := by
  have hl := hs.len
  simp only [List.length_cons] at hl
  have hcap := hs.le
  have hsd := (hs.drop (k := 6) (by omega)).take (k := m) (by omega)
  simp only [List.drop_succ_cons, List.drop_zero] at hsd
  obtain ⟨g, o, rfl, _, hc⟩ := hs.spot (by omega)
  have c0 : w.cell? ⟨g, o, none⟩ = some (.int .u8 (a0.toNat : Int)) := hc 0 (by simp)
  have c1 : w.cell? ⟨g, o + 1, none⟩ = some (.int .u8 (a1.toNat : Int)) := hc 1 (by simp)
  have c2 : w.cell? ⟨g, o + 2, none⟩ = some (.int .u8 (a2.toNat : Int)) := hc 2 (by simp)
  have c3 : w.cell? ⟨g, o + 3, none⟩ = some (.int .u8 (a3.toNat : Int)) := hc 3 (by simp)
  have c4 : w.cell? ⟨g, o + 4, none⟩ = some (.int .u8 (a4.toNat : Int)) := hc 4 (by simp)
  have c5 : w.cell? ⟨g, o + 5, none⟩ = some (.int .u8 (a5.toNat : Int)) := hc 5 (by simp)
  have hsum := len_sum a0 a1
  have hm2 : a0.toNat + 256 * a1.toNat ≤ 70000 := by have := a0.toNat_lt; have := a1.toNat_lt; omega
  rw [hmm] at hsum hm2
  have h6 : 6 ≤ n := by omega
  have h7 : 2 < n := by omega
  have hhi : 6 + (m : Int) ≤ n := by omega
  have hlt : ¬ (n : Int) - 6 < m := by omega
  have hm60 : cap = 6 → m = 0 ∧ n = 6 := fun h => by omega
  have HSUM := Lib.hid hsum
  have HFOUR := Lib.hid (four_or a2 a3 a4 a5)
  have HSU := Lib.hid hsu
  obtain ⟨i0, hi0, hz0, hz1, hz2⟩ := info_parts infoByte2
  clear hc hs hl hmm hm hsum hsu
  by_cases hcc : cap = 6
  · obtain ⟨rfl, rfl⟩ := hm60 hcc
    subst hcc
    have hsd2 := hsd
    rw [if_pos rfl, List.take_zero] at hsd2
    have HSD := Lib.hid hsd2
    clear hsd hsd2 hm60
    go_enter Tryz.func81, Tryz.ntmps81
    go_wp2_with fail
    first
      | go_quiet (fail)
      | fail "the region"
    rw [HSUM.out]
    go_wp2
    obtain ⟨W, hW⟩ : ∃ W, W = w.drewN nq := ⟨_, rfl⟩
    have d2 : W.cell? ⟨g, o + 2, none⟩ = some (.int .u8 (a2.toNat : Int)) := by rw [hW]; exact c2
    have d3 : W.cell? ⟨g, o + 3, none⟩ = some (.int .u8 (a3.toNat : Int)) := by rw [hW]; exact c3
    have d4 : W.cell? ⟨g, o + 4, none⟩ = some (.int .u8 (a4.toNat : Int)) := by rw [hW]; exact c4
    have d5 : W.cell? ⟨g, o + 5, none⟩ = some (.int .u8 (a5.toNat : Int)) := by rw [hW]; exact c5
    have HSW : Hid (Shows W W.heap.size (some ⟨g, o, none⟩) 0 0 []) := by rw [hW]; exact HSD.out.keep fun _ _ => rfl
    rw [← hW]
    have HW := Lib.hid hW
    clear hW c0 c1 c2 c3 c4 c5
    first
      | go_quiet ((go_at_call 82; exact Calls.quiet_of_same (refsum_q W _ _ _ _ _ HSW.out (by omega))))
      | fail "the region"
    rw [HFOUR.out]
    have hsu2 := HSU.out
    rw [List.take_zero] at hsu2
    clear d2 d3 d4 d5
    obtain ⟨V, hV⟩ : ∃ V, V = W.drewN nq := ⟨_, rfl⟩
    have hbV : Below w.heap.size w V := by rw [hV, HW.out]; exact ⟨rfl, rfl, rfl, Nat.le_refl _, fun _ _ => rfl⟩
    have hsV : Shows V V.heap.size (some ⟨g, o, none⟩) 0 0 [] := by rw [hV]; exact HSW.out.keep fun _ _ => rfl
    rw [← hV]
    have hown0 : (V.alloc (.cells #[] 5)).ownsRow w.heap.size 5 1 (.slice (some ⟨V.heap.size, 0, none⟩) 0 0) 0 (bc []) := World.ownsRow_made V #[] 0 hbV.size (Nat.zero_le _) rfl
    have hba0 : Below V.heap.size V (V.alloc (.cells #[] 5)) := (Below.refl _ _).alloc (Nat.le_refl _) _
    have hsrc := (hsV.below hba0).src (P := Tryz.prog) Tryz.underlying29
    have hVs := hbV.size
    clear hV hsV HSW HW
    go_wp2_with (at_builtin; refine wpList_ap _ rfl (.tmp 54) (.tmp 55) 29 29 rfl w.heap.size 5 i0 Tryz.underlying29 hi0 hz0 hz1 hz2 _ 0 0 [] rfl hown0 _ 0 [] rfl hsrc ?c1 ?c2 ?_)
    case c1 => omega
    case c2 => simp; omega
    intro A2 c2 w2 hown2 _ hg2 _
    have hb2 := (hbV.trans (hba0.mono hVs)).grown hg2 (by simp; omega) (by intro k hk; injection hk with hk; omega)
    have hs2 := hown2
    clear hown0 hsrc hba0 hown2 hg2 hbV
    go_wp2
    go_ret3
    exact ⟨A2, c2, rfl, hs2, hb2⟩
  · rw [if_neg hcc] at hsd
    have HSD := Lib.hid hsd
    clear hsd hm60
    go_enter Tryz.func81, Tryz.ntmps81
    go_wp2_with fail
    first
      | go_quiet (fail)
      | fail "the region"
    rw [HSUM.out]
    go_wp2
    rw [Nat.add_sub_cancel_left]
    obtain ⟨W, hW⟩ : ∃ W, W = w.drewN nq := ⟨_, rfl⟩
    have d2 : W.cell? ⟨g, o + 2, none⟩ = some (.int .u8 (a2.toNat : Int)) := by rw [hW]; exact c2
    have d3 : W.cell? ⟨g, o + 3, none⟩ = some (.int .u8 (a3.toNat : Int)) := by rw [hW]; exact c3
    have d4 : W.cell? ⟨g, o + 4, none⟩ = some (.int .u8 (a4.toNat : Int)) := by rw [hW]; exact c4
    have d5 : W.cell? ⟨g, o + 5, none⟩ = some (.int .u8 (a5.toNat : Int)) := by rw [hW]; exact c5
    have HSW : Hid (Shows W W.heap.size (some ⟨g, o + 6, none⟩) m (cap - 6) (r.take m)) := by rw [hW]; exact HSD.out.keep fun _ _ => rfl
    rw [← hW]
    have HW := Lib.hid hW
    clear hW c0 c1 c2 c3 c4 c5
    first
      | go_quiet ((go_at_call 82; exact Calls.quiet_of_same (refsum_q W _ _ _ _ _ HSW.out (by omega))))
      | fail "the region"
    rw [HFOUR.out]
    have hsu2 := HSU.out
    clear d2 d3 d4 d5
    obtain ⟨V, hV⟩ : ∃ V, V = W.drewN nq := ⟨_, rfl⟩
    have hbV : Below w.heap.size w V := by rw [hV, HW.out]; exact ⟨rfl, rfl, rfl, Nat.le_refl _, fun _ _ => rfl⟩
    have hsV : Shows V V.heap.size (some ⟨g, o + 6, none⟩) m (cap - 6) (r.take m) := by rw [hV]; exact HSW.out.keep fun _ _ => rfl
    rw [← hV]
    have hown0 : (V.alloc (.cells #[] 5)).ownsRow w.heap.size 5 1 (.slice (some ⟨V.heap.size, 0, none⟩) 0 0) 0 (bc []) := World.ownsRow_made V #[] 0 hbV.size (Nat.zero_le _) rfl
    have hba0 : Below V.heap.size V (V.alloc (.cells #[] 5)) := (Below.refl _ _).alloc (Nat.le_refl _) _
    have hsrc := (hsV.below hba0).src (P := Tryz.prog) Tryz.underlying29
    have hVs := hbV.size
    clear hV hsV HSW HW
    go_wp2_with (at_builtin; refine wpList_ap _ rfl (.tmp 54) (.tmp 55) 29 29 rfl w.heap.size 5 i0 Tryz.underlying29 hi0 hz0 hz1 hz2 _ 0 0 [] rfl hown0 _ m (r.take m) rfl hsrc ?c1 ?c2 ?_)
    case c1 => omega
    case c2 => simp; omega
    intro A2 c2 w2 hown2 _ hg2 _
    have hb2 := (hbV.trans (hba0.mono hVs)).grown hg2 (by simp; omega) (by intro k hk; injection hk with hk; omega)
    have hs2 := hown2
    clear hown0 hsrc hba0 hown2 hg2 hbV
    go_wp2
    go_ret3
    exact ⟨A2, c2, rfl, hs2, hb2⟩

theorem refopen_ok (A : Option Addr) (n cap : Nat) (a0 a1 a2 a3 a4 a5 : UInt8) (r : List UInt8) (w : World) (hs : Shows w w.heap.size A n cap (a0 :: a1 :: a2 :: a3 :: a4 :: a5 :: r)) (hn : n ≤ 1000000) (m : Nat) (hmm : a0.toNat + 256 * a1.toNat = m) (hm : m ≤ r.length)
    (hsu : (tn (crc (r.take m)) != (leNat [a2, a3, a4, a5] : Int)) = false) :
    Calls Tryz.prog 81 #[.slice A n cap] w fun e w' => ∃ A2 c2, e = .returned (.tuple #[.slice A2 m c2, .int .i64 (6 + m), .int .i64 0]) ∧ Shows w' w'.heap.size A2 m c2 (r.take m) ∧ Below w.heap.size w w' :=
  (refopen_own A n cap a0 a1 a2 a3 a4 a5 r w hs hn m hmm hm hsu).mono fun _ _ ⟨A2, c2, h1, h2, h3⟩ => ⟨A2, c2, h1, Shows.of_own h2, h3⟩

theorem opened_six (a0 a1 a2 a3 a4 a5 : UInt8) (r : List UInt8) : opened (a0 :: a1 :: a2 :: a3 :: a4 :: a5 :: r) =
    if r.length < a0.toNat + 256 * a1.toNat then ([], 0, 8) else if tn (crc (r.take (a0.toNat + 256 * a1.toNat))) = (leNat [a2, a3, a4, a5] : Int) then (r.take (a0.toNat + 256 * a1.toNat), 6 + (a0.toNat + 256 * a1.toNat), 0) else ([], 0, 10) := by
  have h1 : leNat ((a0 :: a1 :: a2 :: a3 :: a4 :: a5 :: r).take 2) = a0.toNat + 256 * a1.toNat := by simp [leNat]
  have h2 : ((a0 :: a1 :: a2 :: a3 :: a4 :: a5 :: r).drop 2).take 4 = [a2, a3, a4, a5] := rfl
  have h3 : (a0 :: a1 :: a2 :: a3 :: a4 :: a5 :: r).drop 6 = r := rfl
  have h4 : (a0 :: a1 :: a2 :: a3 :: a4 :: a5 :: r).length = r.length + 6 := rfl
  unfold opened
  rw [h1, h2, h3, h4, if_neg (by omega), Nat.add_sub_cancel]

theorem refopen_any (A : Option Addr) (n cap : Nat) (l : List UInt8) (w : World) (hs : Shows w w.heap.size A n cap l) (hn : n ≤ 1000000) :
    Calls Tryz.prog 81 #[.slice A n cap] w fun e w' => ∃ A2 c2, e = .returned (.tuple #[.slice A2 (opened l).1.length c2, .int .i64 ((opened l).2.1 : Nat), .int .i64 (opened l).2.2]) ∧ Shows w' w'.heap.size A2 (opened l).1.length c2 (opened l).1 ∧ Below w.heap.size w w' := by
  have hl := hs.len
  match l, hl, hs with
  | [], hl, _ | [_], hl, _ | [_, _], hl, _ | [_, _, _], hl, _ | [_, _, _, _], hl, _ | [_, _, _, _, _], hl, _ =>
    simp only [List.length_cons, List.length_nil] at hl
    refine (refopen_short A n cap w (by omega)).mono ?_
    rintro e w' ⟨rfl, rfl⟩
    exact ⟨none, 0, rfl, Shows.nil _ _, Below.refl _ _⟩
  | a0 :: a1 :: a2 :: a3 :: a4 :: a5 :: r, hl, hs =>
    rw [opened_six]
    by_cases h1 : r.length < a0.toNat + 256 * a1.toNat
    · rw [if_pos h1]
      refine (refopen_cut A n cap a0 a1 a2 a3 a4 a5 r w hs hn h1).mono ?_
      rintro e w' ⟨rfl, q, rfl⟩
      exact ⟨none, 0, rfl, Shows.nil _ _, ⟨rfl, rfl, rfl, Nat.le_refl _, fun _ _ => rfl⟩⟩
    · rw [if_neg h1]
      by_cases h2 : tn (crc (r.take (a0.toNat + 256 * a1.toNat))) = (leNat [a2, a3, a4, a5] : Int)
      · rw [if_pos h2]
        refine (refopen_ok A n cap a0 a1 a2 a3 a4 a5 r w hs hn _ rfl (by omega) (by simpa using h2)).mono ?_
        rintro e w' ⟨A2, c2, rfl, hs2, hb⟩
        have hlen : (r.take (a0.toNat + 256 * a1.toNat)).length = a0.toNat + 256 * a1.toNat := by rw [List.length_take]; omega
        simp only [hlen]
        exact ⟨A2, c2, by rw [Int.natCast_add]; rfl, hs2, hb⟩
      · rw [if_neg h2]
        refine (refopen_bad A n cap a0 a1 a2 a3 a4 a5 r w hs hn _ rfl (by omega) (by simpa using h2)).mono ?_
        rintro e w' ⟨rfl, q, rfl⟩
        exact ⟨none, 0, rfl, Shows.nil _ _, ⟨rfl, rfl, rfl, Nat.le_refl _, fun _ _ => rfl⟩⟩

/-- What is opened lies in a row of its own. -/
theorem refopen_any_own (A : Option Addr) (n cap : Nat) (l : List UInt8) (w : World) (hs : Shows w w.heap.size A n cap l) (hn : n ≤ 1000000) :
    Calls Tryz.prog 81 #[.slice A n cap] w fun e w' => ∃ A2 c2, e = .returned (.tuple #[.slice A2 (opened l).1.length c2, .int .i64 ((opened l).2.1 : Nat), .int .i64 (opened l).2.2]) ∧ w'.ownsRow w.heap.size 5 1 (.slice A2 (opened l).1.length c2) (opened l).1.length (bc (opened l).1) ∧ Below w.heap.size w w' := by
  have hl := hs.len
  match l, hl, hs with
  | [], hl, _ | [_], hl, _ | [_, _], hl, _ | [_, _, _], hl, _ | [_, _, _, _], hl, _ | [_, _, _, _, _], hl, _ =>
    simp only [List.length_cons, List.length_nil] at hl
    refine (refopen_short A n cap w (by omega)).mono ?_
    rintro e w' ⟨rfl, rfl⟩
    exact ⟨none, 0, rfl, World.ownsRow_nil _ _ _ _, Below.refl _ _⟩
  | a0 :: a1 :: a2 :: a3 :: a4 :: a5 :: r, hl, hs =>
    rw [opened_six]
    by_cases h1 : r.length < a0.toNat + 256 * a1.toNat
    · rw [if_pos h1]
      refine (refopen_cut A n cap a0 a1 a2 a3 a4 a5 r w hs hn h1).mono ?_
      rintro e w' ⟨rfl, q, rfl⟩
      exact ⟨none, 0, rfl, World.ownsRow_nil _ _ _ _, ⟨rfl, rfl, rfl, Nat.le_refl _, fun _ _ => rfl⟩⟩
    · rw [if_neg h1]
      by_cases h2 : tn (crc (r.take (a0.toNat + 256 * a1.toNat))) = (leNat [a2, a3, a4, a5] : Int)
      · rw [if_pos h2]
        refine (refopen_own A n cap a0 a1 a2 a3 a4 a5 r w hs hn _ rfl (by omega) (by simpa using h2)).mono ?_
        rintro e w' ⟨A2, c2, rfl, hs2, hb⟩
        have hlen : (r.take (a0.toNat + 256 * a1.toNat)).length = a0.toNat + 256 * a1.toNat := by rw [List.length_take]; omega
        simp only [hlen]
        exact ⟨A2, c2, by rw [Int.natCast_add]; rfl, hs2, hb⟩
      · rw [if_neg h2]
        refine (refopen_bad A n cap a0 a1 a2 a3 a4 a5 r w hs hn _ rfl (by omega) (by simpa using h2)).mono ?_
        rintro e w' ⟨rfl, q, rfl⟩
        exact ⟨none, 0, rfl, World.ownsRow_nil _ _ _ _, ⟨rfl, rfl, rfl, Nat.le_refl _, fun _ _ => rfl⟩⟩
end Go.Proofs.YtmebdnblobobnaaGreatDoor

namespace Go.Proofs.YtmebdnblobobnaaGreatDoor
set_option maxRecDepth 100000
open Go.RowKit _root_.Go.Proofs.YtmebdnblobobnaaGreatDoor.Wd _root_.Go.Proofs.YtmebdnblobobnaaGreatDoor.Nm _root_.Go.Proofs.YtmebdnblobobnaaGreatDoor.Cm

/-- What one round of divide makes, as the walk has it. -/
theorem mask_yes (c : BitVec 32) (h : c.getLsbD 0 = true) : bits BinOp.xor IntKind.u32 (tn c / (2 : Int)) (bits BinOp.and IntKind.u32 3988292384 4294967295) = tn (bit1 c) := by
  have e : bits BinOp.and IntKind.u32 3988292384 4294967295 = 3988292384 := by decide +kernel
  rw [e, u32_poly, bit1_yes c h]
theorem mask_no (c : BitVec 32) (h : ¬ c.getLsbD 0 = true) : bits BinOp.xor IntKind.u32 (tn c / (2 : Int)) (bits BinOp.and IntKind.u32 3988292384 0) = tn (bit1 c) := by
  have e : bits BinOp.and IntKind.u32 3988292384 0 = tn 0#32 := by decide +kernel
  rw [e, tn_half, u32_xor, bit1_no c h, BitVec.xor_zero]

set_option maxHeartbeats 1000000 in
theorem divide_any (s : BitVec 32) (w : World) :
    Calls Tryz.prog 112 #[.int .u32 (tn s)] w fun e w' => e = .returned (.int .u32 (tn (bitN 8 s))) ∧ w = w' := by
  go_enter Tryz.func112, Tryz.ntmps112
  go_wp2
  have hb0 : s = bitN 0 s := rfl
  go_loop [0, 3] (fun c k => ∃ m : Nat, m ≤ 8 ∧ k = .int .i64 m ∧ c = .int .u32 (tn (bitN m s))) (fun _ k => 8 - (intOf k).toNat)
  case atStart => exact ⟨0, Nat.zero_le _, rfl, rfl⟩
  case round =>
    clear hb0
    obtain ⟨m, hm, rfl, rfl⟩ := hrel
    by_cases hm8 : m < 8
    · have hlow := u32_low (bitN m s)
      have hbd := tn_bd (bitN m s)
      have HN := Lib.hid (show bitN (m + 1) s = bit1 (bitN m s) from rfl)
      by_cases hb : (bitN m s).getLsbD 0 = true
      · rw [if_pos hb] at hlow
        have hmask := mask_yes _ hb
        clear hb
        go_wp2
        go_round
        case rel => exact ⟨m + 1, by omega, by go_num, by rw [HN.out]⟩
        case measure => simp [intOf]; omega
      · rw [if_neg hb] at hlow
        have hmask := mask_no _ hb
        clear hb
        go_wp2
        go_round
        case rel => exact ⟨m + 1, by omega, by go_num, by rw [HN.out]⟩
        case measure => simp [intOf]; omega
    · obtain rfl : m = 8 := by omega
      go_wp2
      go_ret
      exact ⟨rfl, rfl⟩

set_option maxHeartbeats 1000000 in
theorem sum_any (B : Nat) (A : Option Addr) (n cap : Nat) (ps : List Part) (w : World) (hs : LaidAt w B A n ps) (hn : n ≤ 1000000) (hsm : ∀ p ∈ ps, p.n ≤ 1000000000000) :
    Calls Tryz.prog 94 #[.slice A n cap] w fun e w' => e = .returned (.int .u32 (tn (crc (joined ps)))) ∧ w = w' := by
  have HL := Lib.hid hs.len
  go_enter Tryz.func94, Tryz.ntmps94
  go_wp2
  go_loop [3, 5, 10] (fun c _ i => ∃ j : Nat, j ≤ n ∧ i = .int .i64 j ∧ c = .int .u32 (tn (feedAll full (joined (ps.take j))))) (fun _ _ i => n - (intOf i).toNat)
  case atStart => exact ⟨0, Nat.zero_le _, rfl, rfl⟩
  case round =>
    obtain ⟨j, hj, rfl, rfl⟩ := hrel
    by_cases hlt : j < n
    · obtain ⟨g, o, rfl, _, hc⟩ := hs.spot (by omega)
      have hjl : j < ps.length := by have := HL.out; omega
      have hcj := hc j hjl
      have hsh := hs.each ps[j] (List.getElem_mem hjl)
      have hp1 := hsm ps[j] (List.getElem_mem hjl)
      have HJ := Lib.hid (joined_next ps j hjl)
      have hpl := hsh.len
      generalize ps[j] = p at hcj hsh HJ hp1 hpl
      obtain ⟨pA, pn, pc, pl⟩ := p
      simp only at hcj hsh hp1 hpl
      have HPL := Lib.hid hpl
      clear hc hs hsm hpl
      generalize HS0 : joined (ps.take j) = l0 at HJ ⊢
      clear HS0
      go_wp2
      go_loop [3, 7, 16] (fun c _ i => ∃ k : Nat, k ≤ pn ∧ i = .int .i64 k ∧ c = .int .u32 (tn (feedAll full (l0 ++ pl.take k)))) (fun _ _ i => pn - (intOf i).toNat)
      case atStart => exact ⟨0, Nat.zero_le _, rfl, by rw [List.take_zero, List.append_nil]⟩
      case round =>
        obtain ⟨k, hk, rfl, rfl⟩ := hrel
        by_cases hlk : k < pn
        · obtain ⟨b, q, rfl, _, hd⟩ := hsh.spot (by omega)
          have hkl : k < pl.length := by have := HPL.out; omega
          have hdk : w.cell? ⟨b, q + k, none⟩ = some (.int .u8 (pl[k].toNat : Int)) := hd k hkl
          have hfeed := u32_feed (feedAll full (l0 ++ pl.take k)) pl[k]
          have HF := Lib.hid (show feedAll full (l0 ++ pl.take (k + 1)) = bitN 8 (feedAll full (l0 ++ pl.take k) ^^^ wide pl[k]) by
            rw [List.take_succ_eq_append_getElem hkl, ← List.append_assoc, feedAll_snoc]; rfl)
          clear hd hsh hcj
          go_wp2_with ((with_reducible refine (divide_any _ _).mono ?_); rintro e w' ⟨rfl, rfl⟩)
          go_round
          case rel => exact ⟨k + 1, by omega, by go_num, by rw [HF.out]⟩
          case measure => simp [intOf]; omega
        · obtain rfl : k = pn := by omega
          have htk : pl.take pl.length = pl := List.take_length
          have HT := Lib.hid (show feedAll full (joined (ps.take (j + 1))) = feedAll full (l0 ++ pl.take k) by rw [HJ.out, ← HPL.out, htk])
          clear htk hsh hcj
          go_wp2
          go_round
          case rel => exact ⟨j + 1, by omega, by go_num, by rw [HT.out]⟩
          case measure => simp [intOf]; omega
    · obtain rfl : n = j := by omega
      have htk : ps.take n = ps := List.take_of_length_le (by have := HL.out; omega)
      rw [htk]
      have hnot := u32_not (feedAll full (joined ps))
      clear hs hsm htk
      go_wp2
      go_ret
      exact ⟨rfl, rfl⟩
end Go.Proofs.YtmebdnblobobnaaGreatDoor

namespace Go.Proofs.YtmebdnblobobnaaGreatDoor
set_option maxRecDepth 100000
open Go.RowKit _root_.Go.Proofs.YtmebdnblobobnaaGreatDoor.Wd _root_.Go.Proofs.YtmebdnblobobnaaGreatDoor.Nm _root_.Go.Proofs.YtmebdnblobobnaaGreatDoor.Cm

set_option maxHeartbeats 400000 in
theorem clittle_any (n : Int) (k : Nat) (hk : k ≤ 4) (w : World) :
    Calls Tryz.prog 93 #[.int .u32 n, .int .i64 k] w fun e w' => e = .returned (.slice (some ⟨w.heap.size, 0, none⟩) k k) ∧ w.alloc (.cells (Cz (fun i => n / 2 ^ (8 * i) % 256) k k) 5) = w' := by
  obtain ⟨i0, hi0, hz0, hz1, hz2⟩ := info_parts infoByte
  have hmk : ∀ W : World, (Instr.makeSlice 29 (.int .i64 (k : Int)) (.int .i64 (k : Int))).run Tryz.prog W = .ok (.slice (some ⟨W.heap.size, 0, none⟩) k k) (W.alloc (.cells (Cz (fun i => n / 2 ^ (8 * i) % 256) 0 k) 5)) := by
    intro W
    have h := run_make (P := Tryz.prog) W 29 5 i0 _ Tryz.underlying29 hi0 hz0 .i64 .i64 k k (by omega) (by omega) (by rw [hz2]; omega) (by omega)
    simp only [Int.toNat_natCast] at h
    rw [h, hz1, Cz_zero]
    rfl
  go_enter Tryz.func93, Tryz.ntmps93
  go_wp2
  go_loopw [6, 10] (fun _ i wr => ∃ j : Nat, j ≤ k ∧ i = .int .i64 j ∧ wr = w.alloc (.cells (Cz (fun i => n / 2 ^ (8 * i) % 256) j k) 5)) (fun _ i _ => k - (intOf i).toNat)
  case atStart => exact ⟨0, Nat.zero_le _, rfl, rfl⟩
  case round =>
    obtain ⟨j, hj, rfl, rfl⟩ := hrel
    by_cases hlt : j < k
    · have hc := Cz_next (fun i => n / 2 ^ (8 * i) % 256) j k hlt
      have hs := Cz_step (fun i => n / 2 ^ (8 * i) % 256) j k hlt
      go_wp2
      go_roundw
      case rel => exact ⟨j + 1, by omega, by go_num, rfl⟩
      case measure => simp [intOf]; omega
    · obtain rfl : j = k := by omega
      clear hmk
      go_wp2
      go_ret
      exact ⟨rfl, rfl⟩

theorem leNat_u32 (l : List UInt8) (h : l.length ≤ 4) : leNat l < 4294967296 := by
  have h1 := leNat_lt l
  have h2 : 2 ^ (8 * l.length) ≤ 2 ^ 32 := Nat.pow_le_pow_right (by decide) (by omega)
  have h3 : (2 : Nat) ^ 32 = 4294967296 := rfl
  omega
theorem u32_or_at (U c j : Nat) (hU : U < 2 ^ (8 * j)) (hc : c < 256) (hj : j ≤ 3) :
    bits BinOp.or IntKind.u32 (U : Int) ((c : Int) % 4294967296 * 2 ^ (8 * j) % 4294967296) = ((U + 2 ^ (8 * j) * c : Nat) : Int) := by
  have hp : (2 : Nat) ^ (8 * j) ≤ 2 ^ 24 := Nat.pow_le_pow_right (by decide) (by omega)
  have h24 : (2 : Nat) ^ 24 = 16777216 := rfl
  have hm : 2 ^ (8 * j) * c ≤ 16777216 * 255 := Nat.mul_le_mul (by omega) (by omega)
  have e : (c : Int) * 2 ^ (8 * j) = ((2 ^ (8 * j) * c : Nat) : Int) := by rw [Int.natCast_mul, Int.mul_comm]; simp
  have hz : ((2 : Int) ^ (8 * j)) = ((2 ^ (8 * j) : Nat) : Int) := by simp
  have hcm : (c : Int) % 4294967296 = c := by omega
  have hcn : (c : Int) * 2 ^ (8 * j) % 4294967296 = (c : Int) * 2 ^ (8 * j) := by rw [e]; omega
  rw [hcm, hcn, u32_or_up (U : Int) ((c : Int) * 2 ^ (8 * j)) (8 * j) (by omega) (by rw [hz]; omega) (by rw [e]; omega) (by exact Int.mul_emod_left _ _) (by rw [e]; omega) (by omega), e]
  omega

set_option maxHeartbeats 400000 in
theorem number_any (B : Nat) (A : Option Addr) (n cap : Nat) (l : List UInt8) (w : World) (hs : Shows w B A n cap l) (hn : n ≤ 4) :
    Calls Tryz.prog 106 #[.slice A n cap] w fun e w' => e = .returned (.int .u32 (leNat l : Nat)) ∧ w = w' := by
  have HL := Lib.hid hs.len
  go_enter Tryz.func106, Tryz.ntmps106
  go_wp2
  go_loop [3, 4, 5, 8] (fun c _ _ i => ∃ j : Nat, j ≤ n ∧ i = .int .i64 j ∧ c = .int .u32 (leNat (l.take j) : Nat)) (fun _ _ _ i => n - (intOf i).toNat)
  case atStart => exact ⟨0, Nat.zero_le _, rfl, rfl⟩
  case round =>
    obtain ⟨j, hj, rfl, rfl⟩ := hrel
    by_cases hlt : j < n
    · obtain ⟨g, o, rfl, _, hc⟩ := hs.spot (by omega)
      have hjl : j < l.length := by have := HL.out; omega
      have hcj := hc j hjl
      have HN := Lib.hid (leNat_next l j hjl)
      have hU : leNat (l.take j) < 2 ^ (8 * j) := by
        have := leNat_lt (l.take j)
        rwa [List.length_take, Nat.min_eq_left (by omega)] at this
      have hor := u32_or_at (leNat (l.take j)) l[j].toNat j hU l[j].toNat_lt (by omega)
      clear hc hs hU
      go_wp2
      go_round
      case rel => exact ⟨j + 1, by omega, by go_num, by rw [HN.out]; simp⟩
      case measure => simp [intOf]; omega
    · obtain rfl : n = j := by omega
      have htk : l.take n = l := List.take_of_length_le (by have := HL.out; omega)
      rw [htk]
      clear hs htk
      go_wp2
      go_ret
      exact ⟨rfl, rfl⟩

/-- Sum of one part that the call has just laid. -/
theorem laid_one {w : World} {p : Part} (hp : Shows w w.heap.size p.A p.n p.cap p.l) (T : TypeId) :
    Laid (w.alloc (.cells #[.slice p.A p.n p.cap] T)) (w.alloc (.cells #[.slice p.A p.n p.cap] T)).heap.size w.heap.size [p] := by
  have hb : Below w.heap.size w (w.alloc (.cells #[.slice p.A p.n p.cap] T)) := (Below.refl _ _).alloc (Nat.le_refl _) _
  have hn := heap_alloc_new w (.cells #[.slice p.A p.n p.cap] T)
  intro j hj
  match j, hj with
  | 0, _ => exact ⟨by rw [cell_of_row _ _ 0 _ T (0, 0) hn]; rfl, (hp.below hb).more hb.size⟩
theorem sum_one (A : Option Addr) (n cap : Nat) (l : List UInt8) (w : World) (g : Nat) (hg : w.heap.size = g) (hs : Shows w w.heap.size A n cap l) (hn : n ≤ 1000000000000) :
    Calls Tryz.prog 94 #[.slice (some ⟨g, 0, none⟩) 1 1] (w.alloc (.cells #[.slice A n cap] 29)) fun e w' => e = .returned (.int .u32 (tn (crc l))) ∧ w.alloc (.cells #[.slice A n cap] 29) = w' := by
  subst hg
  have h := sum_any _ _ _ 1 [⟨A, n, cap, l⟩] _ (LaidAt.of_laid (laid_one (p := ⟨A, n, cap, l⟩) hs 29) (by simp)) (by simp) (by intro p hp; simp only [List.mem_singleton] at hp; subst hp; exact hn)
  simp only [joined, List.append_nil] at h
  exact h

set_option maxHeartbeats 400000 in
theorem seal_no (A : Option Addr) (n cap : Nat) (w : World) (hn : 65535 < n) :
    Calls Tryz.prog 69 #[.slice A n cap] w fun e w' => e = .returned (.slice none 0 0) ∧ w = w' := by
  go_enter Tryz.func69, Tryz.ntmps69
  go_wp2
  go_ret
  exact ⟨rfl, rfl⟩

set_option maxRecDepth 100000 in
set_option maxHeartbeats 1000000 in
theorem seal_yes (A : Option Addr) (n cap : Nat) (l : List UInt8) (w : World) (hs : Shows w w.heap.size A n cap l) (hn : n ≤ 65535) :
    Calls Tryz.prog 69 #[.slice A n cap] w fun e w' => ∃ A2 c2, e = .returned (.slice A2 (6 + n) c2) ∧ w'.ownsRow w.heap.size 5 1 (.slice A2 (6 + n) c2) (6 + n) (bc (sealed l)) ∧ Below w.heap.size w w' := by
  have HLEN := Lib.hid hs.len
  have hb1 : Below w.heap.size w (w.alloc (.cells (Cz (fun i => (n : Int) / 2 ^ (8 * i) % 256) 2 2) 5)) := (Below.refl _ _).alloc (Nat.le_refl _) _
  have hs1 := shows_lit (n : Int) 2 (by omega) w
  have hsl1 := (hs.below hb1).more (B' := w.heap.size + 1) (by omega)
  have hbd := tn_bd (crc l)
  generalize hw1 : w.alloc (.cells (Cz (fun i => (n : Int) / 2 ^ (8 * i) % 256) 2 2) 5) = w1 at hb1 hs1 hsl1
  have e1 : w1.heap.size = w.heap.size + 1 := by rw [← hw1]; simp
  have hc1 := sum_one A n cap l w1 _ rfl (by rw [e1]; exact hsl1) (by omega)
  have hb2 : Below (w.heap.size + 1) w1 (w1.alloc (.cells #[.slice A n cap] 29)) := (Below.refl _ _).alloc (by omega) _
  have hs2 := (hs1.below hb2).more (B' := w.heap.size + 2) (by omega)
  have hsl2 := (hsl1.below hb2).more (B' := w.heap.size + 2) (by omega)
  generalize hw2 : w1.alloc (.cells #[.slice A n cap] 29) = w2 at hc1 hb2 hs2 hsl2
  have e2 : w2.heap.size = w.heap.size + 2 := by rw [← hw2]; simp [e1]
  have hb3 : Below (w.heap.size + 2) w2 (w2.alloc (.cells (Cz (fun i => tn (crc l) / 2 ^ (8 * i) % 256) 4 4) 5)) := (Below.refl _ _).alloc (by omega) _
  have hs3 := shows_lit (tn (crc l)) 4 (by omega) w2
  have hs3 := hs3.more (B' := w.heap.size + 3) (by omega)
  have hsa := (hs2.below hb3).more (B' := w.heap.size + 3) (by omega)
  have hsb := (hsl2.below hb3).more (B' := w.heap.size + 3) (by omega)
  generalize hw3 : w2.alloc (.cells (Cz (fun i => tn (crc l) / 2 ^ (8 * i) % 256) 4 4) 5) = w3 at hb3 hs3 hsa hsb
  have e3 : w3.heap.size = w.heap.size + 3 := by rw [← hw3]; simp [e2]
  have hc3 := concat_three ⟨some ⟨w.heap.size, 0, none⟩, 2, 2, leb n 2⟩ ⟨some ⟨w2.heap.size, 0, none⟩, 4, 4, leb (tn (crc l)) 4⟩ ⟨A, n, cap, l⟩ w3 _ rfl (by rw [e3]; exact hsa) (by rw [e3]; exact hs3) (by rw [e3]; exact hsb) (by simp; omega)
  have hbel := (hb1.trans (hb2.mono (by omega))).trans (hb3.mono (by omega))
  have HB := Lib.hid hbel
  have H1 := Lib.hid hw1
  have H2 := Lib.hid hw2
  have H3 := Lib.hid hw3
  have E1 := Lib.hid e1
  have E2 := Lib.hid e2
  have E3 := Lib.hid e3
  clear hs hb1 hs1 hsl1 hb2 hs2 hsl2 hb3 hs3 hsa hsb hbel hw1 hw2 hw3 e1 e2 e3
  have hn2 : (n : Int) % 4294967296 = n := by omega
  have HC1 := Lib.hid hc1
  have HC3 := Lib.hid hc3
  have HBD := Lib.hid hbd
  clear hc1 hc3 hbd
  go_enter Tryz.func69, Tryz.ntmps69
  go_wp2_with fail
  refine (clittle_any _ 2 (by omega) _).mono ?_
  rintro e w' ⟨rfl, rfl⟩
  rw [H1.out]
  go_wp2_with fail
  rw [H2.out]
  (with_reducible refine HC1.out.mono ?_)
  rintro e w' ⟨rfl, rfl⟩
  go_wp2_with fail
  refine (clittle_any _ 4 (by omega) _).mono ?_
  rintro e w' ⟨rfl, rfl⟩
  rw [H3.out]
  go_wp2_with fail
  (with_reducible refine HC3.out.mono ?_)
  rintro e w4 ⟨A2, c2, rfl, hown, hb4⟩
  go_wp2
  go_ret
  refine ⟨A2, c2, by rw [show 6 + n = 2 + 4 + n by omega]; rfl, ?_, (HB.out).trans (hb4.mono (by have := E3.out; omega))⟩
  rw [show 6 + n = 2 + 4 + n by omega]
  have : sealed l = leb n 2 ++ leb (tn (crc l)) 4 ++ l := by unfold sealed; rw [HLEN.out]
  rw [this]
  exact own_mono hown (by have := E3.out; omega)
end Go.Proofs.YtmebdnblobobnaaGreatDoor

namespace Go.Proofs.YtmebdnblobobnaaGreatDoor
set_option maxRecDepth 100000
open Go.RowKit _root_.Go.Proofs.YtmebdnblobobnaaGreatDoor.Wd _root_.Go.Proofs.YtmebdnblobobnaaGreatDoor.Nm _root_.Go.Proofs.YtmebdnblobobnaaGreatDoor.Cm

set_option maxHeartbeats 400000 in
theorem open_short (A : Option Addr) (n cap : Nat) (w : World) (hn : n < 6) :
    Calls Tryz.prog 86 #[.slice A n cap] w fun e w' => e = .returned (.tuple #[.slice none 0 0, .int .i64 0, .int .i64 8]) ∧ w = w' := by
  go_enter Tryz.func86, Tryz.ntmps86
  go_wp2
  go_ret3
  exact ⟨rfl, rfl⟩

/-- What number reads of the first two bytes. -/
theorem number_two (A : Option Addr) (n cap : Nat) (l : List UInt8) (w : World) (hs : Shows w w.heap.size A n cap l) (hn : 2 ≤ n) :
    Calls Tryz.prog 106 #[.slice A 2 cap] w fun e w' => e = .returned (.int .u32 (leNat (l.take 2) : Nat)) ∧ w = w' :=
  number_any _ A 2 cap _ w (hs.take hn) (by omega)
theorem number_four (A : Option Addr) (n cap : Nat) (l : List UInt8) (w : World) (hs : Shows w w.heap.size A n cap l) (hn : 6 ≤ n) :
    Calls Tryz.prog 106 #[.slice (A.map (·.add 2)) 4 (cap - 2)] w fun e w' => e = .returned (.int .u32 (leNat ((l.drop 2).take 4) : Nat)) ∧ w = w' := by
  have h := (hs.drop (k := 2) (by omega)).take (k := 4) (by omega)
  rw [if_neg (by have := hs.le; omega)] at h
  exact number_any _ _ 4 _ _ w h (by omega)
theorem two_lt (l : List UInt8) : leNat (l.take 2) < 65536 := by
  have h := leNat_lt (l.take 2)
  have h2 : (l.take 2).length ≤ 2 := by rw [List.length_take]; omega
  have h3 : 2 ^ (8 * (l.take 2).length) ≤ 2 ^ 16 := Nat.pow_le_pow_right (by decide) (by omega)
  have h4 : (2 : Nat) ^ 16 = 65536 := rfl
  omega

set_option maxHeartbeats 400000 in
theorem open_cut (A : Option Addr) (n cap : Nat) (l : List UInt8) (w : World) (hs : Shows w w.heap.size A n cap l) (hn : 6 ≤ n) (hm : n < 6 + leNat (l.take 2)) :
    Calls Tryz.prog 86 #[.slice A n cap] w fun e w' => e = .returned (.tuple #[.slice none 0 0, .int .i64 0, .int .i64 8]) ∧ w = w' := by
  have hc := number_two A n cap l w hs (by omega)
  have h2 := two_lt l
  have hcap := hs.le
  generalize leNat (l.take 2) = m at hc h2 hm
  obtain ⟨g, o, rfl, _, _⟩ := hs.spot (by omega)
  have HC := Lib.hid hc
  have hz : ¬ (n : Int) < 6 := by omega
  have hlt : (n : Int) < 6 + m := by omega
  have h2c : 2 ≤ cap := by omega
  clear hs hc
  go_enter Tryz.func86, Tryz.ntmps86
  go_wp2_with ((with_reducible refine HC.out.mono ?_); rintro e w' ⟨rfl, rfl⟩)
  go_ret3
  exact ⟨rfl, rfl⟩

/-- Sum of one part that lies anywhere. -/
theorem sum_at (w W : World) (g : Nat) (A : Option Addr) (n cap : Nat) (l : List UInt8) (hs : Shows w w.heap.size A n cap l) (hn : n ≤ 1000000000) (hb : Below w.heap.size w W) (hc : W.cell? ⟨g, 0, none⟩ = some (.slice A n cap)) :
    Calls Tryz.prog 94 #[.slice (some ⟨g, 0, none⟩) 1 1] W fun e w' => e = .returned (.int .u32 (tn (crc l))) ∧ W = w' := by
  have hg : g < W.heap.size := World.block_lt_of_cell? W _ hc
  have h := sum_any W.heap.size (some ⟨g, 0, none⟩) 1 1 [⟨A, n, cap, l⟩] W ⟨rfl, fun _ => ⟨g, 0, rfl, hg, fun j hj => by
    match j, hj with
    | 0, _ => exact hc⟩, fun p hp => by
      simp only [List.mem_singleton] at hp
      subst hp
      exact (hs.below hb).more hb.size⟩ (by simp) (by intro p hp; simp only [List.mem_singleton] at hp; subst hp; simp; omega)
  simp only [joined, List.append_nil] at h
  exact h
theorem number_at (w W : World) (A : Option Addr) (n cap : Nat) (l : List UInt8) (hs : Shows w w.heap.size A n cap l) (hn : n ≤ 4) (hb : Below w.heap.size w W) :
    Calls Tryz.prog 106 #[.slice A n cap] W fun e w' => e = .returned (.int .u32 (leNat l : Nat)) ∧ W = w' :=
  number_any _ A n cap l W (hs.below hb) hn

theorem clone_at (w W : World) (A : Option Addr) (n cap : Nat) (l : List UInt8) (hs : Shows w w.heap.size A n cap l) (hn : n ≤ 100000000000) (hb : Below w.heap.size w W) :
    Calls Tryz.prog 56 #[.slice A n cap] W fun e w' => ∃ A2 c2, e = .returned (.slice A2 n c2) ∧ w'.ownsRow w.heap.size 5 1 (.slice A2 n c2) n (bc l) ∧ Below w.heap.size w w' := by
  refine (clone_own A n cap l W ((hs.below hb).more hb.size) hn).mono ?_
  rintro e w' ⟨A2, c2, rfl, h1, h2⟩
  exact ⟨A2, c2, rfl, own_mono h1 hb.size, hb.trans (h2.mono hb.size)⟩

set_option maxHeartbeats 1000000 in
theorem open_bad (A : Option Addr) (n cap : Nat) (l : List UInt8) (w : World) (hs : Shows w w.heap.size A n cap l) (hn : 6 ≤ n) (hn2 : n ≤ 1000000000) (hm : 6 + leNat (l.take 2) ≤ n) (hsu : (tn (crc ((l.drop 6).take (leNat (l.take 2)))) != (leNat ((l.drop 2).take 4) : Int)) = true) :
    Calls Tryz.prog 86 #[.slice A n cap] w fun e w' => e = .returned (.tuple #[.slice none 0 0, .int .i64 0, .int .i64 10]) ∧ Below w.heap.size w w' := by
  have hc := number_two A n cap l w hs (by omega)
  have h2 := two_lt l
  have hcap := hs.le
  have hsn := (hs.drop (k := 2) (by omega)).take (k := 4) (by omega)
  have hss := (hs.drop (k := 6) (by omega)).take (k := leNat (l.take 2)) (by omega)
  rw [if_neg (by omega)] at hsn
  generalize hmm : leNat (l.take 2) = m at hc h2 hm hsu hss
  obtain ⟨g, o, rfl, _, _⟩ := hs.spot (by omega)
  have HC := Lib.hid hc
  simp only [Option.map_some, Addr.add_lit] at hsn hss
  have HSN := Lib.hid (fun (W : World) (hb : Below w.heap.size w W) => number_at w W _ 4 _ _ hsn (by omega) hb)
  have HSS := Lib.hid hss
  have hb0 : Below w.heap.size w w := Below.refl _ _
  have HSU := Lib.hid hsu
  have hz : ¬ (n : Int) < 6 := by omega
  have hlt : ¬ (n : Int) < 6 + m := by omega
  have h2c : 2 ≤ cap := by omega
  have h6m : 6 + m ≤ cap := by omega
  have i0 : cap = 6 → m = 0 ∧ n = 6 := by omega
  have i1 : (0 : Int) ≤ 6 + (m : Int) := by omega
  have i2 : (6 : Int) ≤ 6 + (m : Int) := by omega
  have i3 : 6 + (m : Int) ≤ (cap : Int) := by omega
  have i4 : (6 : Int) ≤ (cap : Int) := by omega
  have i5 : (6 + (m : Int)).toNat - 6 = m := by omega
  clear hs hc hsu hsn hss
  by_cases hcc : cap = 6
  · obtain ⟨rfl, rfl⟩ := i0 hcc
    subst hcc
    have hss2 := HSS.out
    rw [if_pos rfl, List.take_zero] at hss2
    rw [List.take_zero] at HSU
    have HSS2 := Lib.hid (fun (W : World) (g' : Nat) (hb : Below w.heap.size w W) => sum_at w W g' _ _ _ _ hss2 (by omega) hb)
    have HSC := Lib.hid hss2
    clear hss2
    go_enter Tryz.func86, Tryz.ntmps86
    go_wp2_with ((with_reducible refine HC.out.mono ?_); rintro e w' ⟨rfl, rfl⟩)
    go_region_held3 (fun w' => Below w.heap.size w w')
      (repeat (first | (with_reducible assumption) | (with_reducible refine Below.drew ?_) | (with_reducible refine below_new ?_ _)))
      ((first
        | (go_at_call 94; refine (HSS2.out _ _ (by assumption) ?_).mono ?_; (simp); rintro _ _ ⟨rfl, rfl⟩)
        | (go_at_call 106; refine (HSN.out _ (by assumption)).mono ?_; rintro _ _ ⟨rfl, rfl⟩)))
    rename_i hbl
    have hsu := HSU.out
    go_wp2
    go_ret3
    exact ⟨rfl, hbl⟩
  · have hss2 := HSS.out
    rw [if_neg hcc] at hss2
    clear i0
    have HSS2 := Lib.hid (fun (W : World) (g' : Nat) (hb : Below w.heap.size w W) => sum_at w W g' _ _ _ _ hss2 (by omega) hb)
    have HSC := Lib.hid hss2
    clear hss2
    go_enter Tryz.func86, Tryz.ntmps86
    go_wp2_with ((with_reducible refine HC.out.mono ?_); rintro e w' ⟨rfl, rfl⟩)
    go_region_held3 (fun w' => Below w.heap.size w w')
      (repeat (first | (with_reducible assumption) | (with_reducible refine Below.drew ?_) | (with_reducible refine below_new ?_ _)))
      ((first
        | (go_at_call 94; refine (HSS2.out _ _ (by assumption) ?_).mono ?_; (simp); rintro _ _ ⟨rfl, rfl⟩)
        | (go_at_call 106; refine (HSN.out _ (by assumption)).mono ?_; rintro _ _ ⟨rfl, rfl⟩)))
    rename_i hbl
    have hsu := HSU.out
    go_wp2
    go_ret3
    exact ⟨rfl, hbl⟩

set_option maxHeartbeats 1000000 in
theorem open_own (A : Option Addr) (n cap : Nat) (l : List UInt8) (w : World) (hs : Shows w w.heap.size A n cap l) (hn : 6 ≤ n) (hn2 : n ≤ 1000000000) (hm : 6 + leNat (l.take 2) ≤ n) (hsu : (tn (crc ((l.drop 6).take (leNat (l.take 2)))) != (leNat ((l.drop 2).take 4) : Int)) = false) :
    Calls Tryz.prog 86 #[.slice A n cap] w fun e w' => ∃ A2 c2, e = .returned (.tuple #[.slice A2 (leNat (l.take 2)) c2, .int .i64 (6 + (leNat (l.take 2) : Int)), .int .i64 0]) ∧ w'.ownsRow w.heap.size 5 1 (.slice A2 (leNat (l.take 2)) c2) (leNat (l.take 2)) (bc ((l.drop 6).take (leNat (l.take 2)))) ∧ Below w.heap.size w w' := by
  have hc := number_two A n cap l w hs (by omega)
  have h2 := two_lt l
  have hcap := hs.le
  have hsn := (hs.drop (k := 2) (by omega)).take (k := 4) (by omega)
  have hss := (hs.drop (k := 6) (by omega)).take (k := leNat (l.take 2)) (by omega)
  rw [if_neg (by omega)] at hsn
  generalize hmm : leNat (l.take 2) = m at hc h2 hm hsu hss
  obtain ⟨g, o, rfl, _, _⟩ := hs.spot (by omega)
  have HC := Lib.hid hc
  simp only [Option.map_some, Addr.add_lit] at hsn hss
  have HSN := Lib.hid (fun (W : World) (hb : Below w.heap.size w W) => number_at w W _ 4 _ _ hsn (by omega) hb)
  have HSS := Lib.hid hss
  have hb0 : Below w.heap.size w w := Below.refl _ _
  have HSU := Lib.hid hsu
  have hz : ¬ (n : Int) < 6 := by omega
  have hlt : ¬ (n : Int) < 6 + m := by omega
  have h2c : 2 ≤ cap := by omega
  have h6m : 6 + m ≤ cap := by omega
  have i0 : cap = 6 → m = 0 ∧ n = 6 := by omega
  have i1 : (0 : Int) ≤ 6 + (m : Int) := by omega
  have i2 : (6 : Int) ≤ 6 + (m : Int) := by omega
  have i3 : 6 + (m : Int) ≤ (cap : Int) := by omega
  have i4 : (6 : Int) ≤ (cap : Int) := by omega
  have i5 : (6 + (m : Int)).toNat - 6 = m := by omega
  clear hs hc hsu hsn hss
  by_cases hcc : cap = 6
  · obtain ⟨rfl, rfl⟩ := i0 hcc
    subst hcc
    have hss2 := HSS.out
    rw [if_pos rfl, List.take_zero] at hss2
    rw [List.take_zero] at HSU
    have HSS2 := Lib.hid (fun (W : World) (g' : Nat) (hb : Below w.heap.size w W) => sum_at w W g' _ _ _ _ hss2 (by omega) hb)
    have HSC := Lib.hid hss2
    clear hss2
    go_enter Tryz.func86, Tryz.ntmps86
    go_wp2_with ((with_reducible refine HC.out.mono ?_); rintro e w' ⟨rfl, rfl⟩)
    go_region_held3 (fun w' => Below w.heap.size w w')
      (repeat (first | (with_reducible assumption) | (with_reducible refine Below.drew ?_) | (with_reducible refine below_new ?_ _)))
      ((first
        | (go_at_call 94; refine (HSS2.out _ _ (by assumption) ?_).mono ?_; (simp); rintro _ _ ⟨rfl, rfl⟩)
        | (go_at_call 106; refine (HSN.out _ (by assumption)).mono ?_; rintro _ _ ⟨rfl, rfl⟩)))
    rename_i hbl
    have hsu := HSU.out
    have HCL := Lib.hid (fun (W : World) (hb : Below w.heap.size w W) => clone_at w W _ _ _ _ HSC.out (by omega) hb)
    clear hb0
    go_wp2_with ((with_reducible refine (HCL.out _ hbl).mono ?_); rintro e w' ⟨A2, c2, rfl, hs3, hb3⟩)
    go_ret3
    exact ⟨A2, c2, rfl, hs3, hb3⟩
  · have hss2 := HSS.out
    rw [if_neg hcc] at hss2
    clear i0
    have HSS2 := Lib.hid (fun (W : World) (g' : Nat) (hb : Below w.heap.size w W) => sum_at w W g' _ _ _ _ hss2 (by omega) hb)
    have HSC := Lib.hid hss2
    clear hss2
    go_enter Tryz.func86, Tryz.ntmps86
    go_wp2_with ((with_reducible refine HC.out.mono ?_); rintro e w' ⟨rfl, rfl⟩)
    go_region_held3 (fun w' => Below w.heap.size w w')
      (repeat (first | (with_reducible assumption) | (with_reducible refine Below.drew ?_) | (with_reducible refine below_new ?_ _)))
      ((first
        | (go_at_call 94; refine (HSS2.out _ _ (by assumption) ?_).mono ?_; (simp); rintro _ _ ⟨rfl, rfl⟩)
        | (go_at_call 106; refine (HSN.out _ (by assumption)).mono ?_; rintro _ _ ⟨rfl, rfl⟩)))
    rename_i hbl
    have hsu := HSU.out
    have HCL := Lib.hid (fun (W : World) (hb : Below w.heap.size w W) => clone_at w W _ _ _ _ HSC.out (by omega) hb)
    clear hb0
    go_wp2_with ((with_reducible refine (HCL.out _ hbl).mono ?_); rintro e w' ⟨A2, c2, rfl, hs3, hb3⟩)
    go_ret3
    exact ⟨A2, c2, rfl, hs3, hb3⟩

theorem open_ok (A : Option Addr) (n cap : Nat) (l : List UInt8) (w : World) (hs : Shows w w.heap.size A n cap l) (hn : 6 ≤ n) (hn2 : n ≤ 1000000000) (hm : 6 + leNat (l.take 2) ≤ n) (hsu : (tn (crc ((l.drop 6).take (leNat (l.take 2)))) != (leNat ((l.drop 2).take 4) : Int)) = false) :
    Calls Tryz.prog 86 #[.slice A n cap] w fun e w' => ∃ A2 c2, e = .returned (.tuple #[.slice A2 (leNat (l.take 2)) c2, .int .i64 (6 + (leNat (l.take 2) : Int)), .int .i64 0]) ∧ Shows w' w'.heap.size A2 (leNat (l.take 2)) c2 ((l.drop 6).take (leNat (l.take 2))) ∧ Below w.heap.size w w' :=
  (open_own A n cap l w hs hn hn2 hm hsu).mono fun _ _ ⟨A2, c2, h1, h2, h3⟩ => ⟨A2, c2, h1, Shows.of_own h2, h3⟩

/-- What is opened lies in a row of its own. -/
theorem open_any_own (A : Option Addr) (n cap : Nat) (l : List UInt8) (w : World) (hs : Shows w w.heap.size A n cap l) (hn : n ≤ 1000000000) :
    Calls Tryz.prog 86 #[.slice A n cap] w fun e w' => ∃ A2 c2, e = .returned (.tuple #[.slice A2 (opened l).1.length c2, .int .i64 ((opened l).2.1 : Nat), .int .i64 (opened l).2.2]) ∧ w'.ownsRow w.heap.size 5 1 (.slice A2 (opened l).1.length c2) (opened l).1.length (bc (opened l).1) ∧ Below w.heap.size w w' := by
  have hl := hs.len
  unfold opened
  by_cases h6 : n < 6
  · rw [if_pos (by omega)]
    refine (open_short A n cap w h6).mono ?_
    rintro e w' ⟨rfl, rfl⟩
    exact ⟨none, 0, rfl, World.ownsRow_nil _ _ _ _, Below.refl _ _⟩
  · rw [if_neg (by omega)]
    by_cases h1 : n < 6 + leNat (l.take 2)
    · rw [if_pos (by omega)]
      refine (open_cut A n cap l w hs (by omega) h1).mono ?_
      rintro e w' ⟨rfl, rfl⟩
      exact ⟨none, 0, rfl, World.ownsRow_nil _ _ _ _, Below.refl _ _⟩
    · rw [if_neg (by omega)]
      by_cases h2 : tn (crc ((l.drop 6).take (leNat (l.take 2)))) = (leNat ((l.drop 2).take 4) : Int)
      · rw [if_pos h2]
        refine (open_own A n cap l w hs (by omega) hn (by omega) (by simpa using h2)).mono ?_
        rintro e w' ⟨A2, c2, rfl, hs2, hb⟩
        have hlen : ((l.drop 6).take (leNat (l.take 2))).length = leNat (l.take 2) := by rw [List.length_take, List.length_drop]; omega
        simp only [hlen]
        exact ⟨A2, c2, by rw [Int.natCast_add]; rfl, hs2, hb⟩
      · rw [if_neg h2]
        refine (open_bad A n cap l w hs (by omega) hn (by omega) (by simpa using h2)).mono ?_
        rintro e w' ⟨rfl, hb⟩
        exact ⟨none, 0, rfl, World.ownsRow_nil _ _ _ _, hb⟩

theorem open_any (A : Option Addr) (n cap : Nat) (l : List UInt8) (w : World) (hs : Shows w w.heap.size A n cap l) (hn : n ≤ 1000000000) :
    Calls Tryz.prog 86 #[.slice A n cap] w fun e w' => ∃ A2 c2, e = .returned (.tuple #[.slice A2 (opened l).1.length c2, .int .i64 ((opened l).2.1 : Nat), .int .i64 (opened l).2.2]) ∧ Shows w' w'.heap.size A2 (opened l).1.length c2 (opened l).1 ∧ Below w.heap.size w w' := by
  have hl := hs.len
  unfold opened
  by_cases h6 : n < 6
  · rw [if_pos (by omega)]
    refine (open_short A n cap w h6).mono ?_
    rintro e w' ⟨rfl, rfl⟩
    exact ⟨none, 0, rfl, Shows.nil _ _, Below.refl _ _⟩
  · rw [if_neg (by omega)]
    by_cases h1 : n < 6 + leNat (l.take 2)
    · rw [if_pos (by omega)]
      refine (open_cut A n cap l w hs (by omega) h1).mono ?_
      rintro e w' ⟨rfl, rfl⟩
      exact ⟨none, 0, rfl, Shows.nil _ _, Below.refl _ _⟩
    · rw [if_neg (by omega)]
      by_cases h2 : tn (crc ((l.drop 6).take (leNat (l.take 2)))) = (leNat ((l.drop 2).take 4) : Int)
      · rw [if_pos h2]
        refine (open_ok A n cap l w hs (by omega) hn (by omega) (by simpa using h2)).mono ?_
        rintro e w' ⟨A2, c2, rfl, hs2, hb⟩
        have hlen : ((l.drop 6).take (leNat (l.take 2))).length = leNat (l.take 2) := by rw [List.length_take, List.length_drop]; omega
        simp only [hlen]
        exact ⟨A2, c2, by rw [Int.natCast_add]; rfl, hs2, hb⟩
      · rw [if_neg h2]
        refine (open_bad A n cap l w hs (by omega) hn (by omega) (by simpa using h2)).mono ?_
        rintro e w' ⟨rfl, hb⟩
        exact ⟨none, 0, rfl, Shows.nil _ _, hb⟩
theorem seal_any (A : Option Addr) (n cap : Nat) (l : List UInt8) (w : World) (hs : Shows w w.heap.size A n cap l) (hn : n ≤ 65535) :
    Calls Tryz.prog 69 #[.slice A n cap] w fun e w' => ∃ A2 c2, e = .returned (.slice A2 (6 + n) c2) ∧ Shows w' w'.heap.size A2 (6 + n) c2 (sealed l) ∧ Below w.heap.size w w' := by
  refine (seal_yes A n cap l w hs hn).mono ?_
  rintro e w' ⟨A2, c2, rfl, h1, h2⟩
  exact ⟨A2, c2, rfl, Shows.of_own h1, h2⟩

/-- What was sealed is opened as it was, whatever stands behind it. -/
theorem opened_sealed (l r : List UInt8) (h : l.length ≤ 65535) : opened (sealed l ++ r) = (l, 6 + l.length, 0) := by
  have h1 : leNat ((sealed l ++ r).take 2) = l.length := by
    unfold sealed
    rw [List.append_assoc, List.append_assoc, List.take_left' (leb_len _ _)]
    have := leNat_leb (l.length : Int) 2
    have e : (2 : Int) ^ (8 * 2) = 65536 := rfl
    rw [e] at this
    omega
  have h2 : ((sealed l ++ r).drop 2).take 4 = leb (tn (crc l)) 4 := by
    unfold sealed
    rw [List.append_assoc, List.append_assoc, List.drop_left' (leb_len _ _), List.take_left' (leb_len _ _)]
  have h3 : (sealed l ++ r).drop 6 = l ++ r := by
    unfold sealed
    rw [List.append_assoc, List.drop_left' (by rw [List.length_append, leb_len, leb_len])]
  have h4 : (sealed l ++ r).length = 6 + l.length + r.length := by rw [List.length_append, sealed_len]
  have h5 : (leNat (leb (tn (crc l)) 4) : Int) = tn (crc l) := by
    have hb := tn_bd (crc l)
    have e : (2 : Int) ^ (8 * 4) = 4294967296 := rfl
    rw [leNat_leb, e]
    omega
  unfold opened
  rw [h1, h2, h3, h4, if_neg (by omega), if_neg (by omega), List.take_left' rfl, if_pos h5.symm]
end Go.Proofs.YtmebdnblobobnaaGreatDoor

