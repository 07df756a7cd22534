/- Contracts for package crc's little, number and Seal. -/
import Derived.Test.YtolpiklhnafnbaaCrcSum
namespace Go.Proofs.Ytolpiklhnafnbaa
set_option maxRecDepth 100000
open Go.RowKit Wd Nm Cm

set_option maxHeartbeats 400000 in
theorem clittle_any (n : Int) (k : Nat) (hk : k ≤ 4) (w : World) :
    Calls Try.prog 63 #[.int .u32 n, .int .i64 k] w fun e w' => e = .returned (.slice (some ⟨w.heap.size, 0, none⟩) k k) ∧ w.alloc (.cells (Cz (fun i => n / 2 ^ (8 * i) % 256) k k) 5) = w' := by
  obtain ⟨i0, hi0, hz0, hz1, hz2⟩ := info_parts infoByte
  have hmk : ∀ W : World, (Instr.makeSlice 29 (.int .i64 (k : Int)) (.int .i64 (k : Int))).run Try.prog W = .ok (.slice (some ⟨W.heap.size, 0, none⟩) k k) (W.alloc (.cells (Cz (fun i => n / 2 ^ (8 * i) % 256) 0 k) 5)) := by
    intro W
    have h := run_make (P := Try.prog) W 29 5 i0 _ Try.underlying29 hi0 hz0 .i64 .i64 k k (by omega) (by omega) (by rw [hz2]; omega) (by omega)
    simp only [Int.toNat_natCast] at h
    rw [h, hz1, Cz_zero]
    rfl
  go_enter Try.func63, Try.ntmps63
  go_wp2
  go_loopw [6, 10] (fun _ i wr => ∃ j : Nat, j ≤ k ∧ i = .int .i64 j ∧ wr = w.alloc (.cells (Cz (fun i => n / 2 ^ (8 * i) % 256) j k) 5)) (fun _ i _ => k - (intOf i).toNat)
  case atStart => exact ⟨0, Nat.zero_le _, rfl, rfl⟩
  case round =>
    obtain ⟨j, hj, rfl, rfl⟩ := hrel
    by_cases hlt : j < k
    · have hc := Cz_next (fun i => n / 2 ^ (8 * i) % 256) j k hlt
      have hs := Cz_step (fun i => n / 2 ^ (8 * i) % 256) j k hlt
      go_wp2
      go_roundw
      case rel => exact ⟨j + 1, by omega, by go_num, rfl⟩
      case measure => simp [intOf]; omega
    · obtain rfl : j = k := by omega
      clear hmk
      go_wp2
      go_ret
      exact ⟨rfl, rfl⟩

theorem leNat_u32 (l : List UInt8) (h : l.length ≤ 4) : leNat l < 4294967296 := by
  have h1 := leNat_lt l
  have h2 : 2 ^ (8 * l.length) ≤ 2 ^ 32 := Nat.pow_le_pow_right (by decide) (by omega)
  have h3 : (2 : Nat) ^ 32 = 4294967296 := rfl
  omega
theorem u32_or_at (U c j : Nat) (hU : U < 2 ^ (8 * j)) (hc : c < 256) (hj : j ≤ 3) :
    bits BinOp.or IntKind.u32 (U : Int) ((c : Int) % 4294967296 * 2 ^ (8 * j) % 4294967296) = ((U + 2 ^ (8 * j) * c : Nat) : Int) := by
  have hp : (2 : Nat) ^ (8 * j) ≤ 2 ^ 24 := Nat.pow_le_pow_right (by decide) (by omega)
  have h24 : (2 : Nat) ^ 24 = 16777216 := rfl
  have hm : 2 ^ (8 * j) * c ≤ 16777216 * 255 := Nat.mul_le_mul (by omega) (by omega)
  have e : (c : Int) * 2 ^ (8 * j) = ((2 ^ (8 * j) * c : Nat) : Int) := by rw [Int.natCast_mul, Int.mul_comm]; simp
  have hz : ((2 : Int) ^ (8 * j)) = ((2 ^ (8 * j) : Nat) : Int) := by simp
  have hcm : (c : Int) % 4294967296 = c := by omega
  have hcn : (c : Int) * 2 ^ (8 * j) % 4294967296 = (c : Int) * 2 ^ (8 * j) := by rw [e]; omega
  rw [hcm, hcn, u32_or_up (U : Int) ((c : Int) * 2 ^ (8 * j)) (8 * j) (by omega) (by rw [hz]; omega) (by rw [e]; omega) (by exact Int.mul_emod_left _ _) (by rw [e]; omega) (by omega), e]
  omega

set_option maxHeartbeats 400000 in
theorem number_any (B : Nat) (A : Option Addr) (n cap : Nat) (l : List UInt8) (w : World) (hs : Shows w B A n cap l) (hn : n ≤ 4) :
    Calls Try.prog 66 #[.slice A n cap] w fun e w' => e = .returned (.int .u32 (leNat l : Nat)) ∧ w = w' := by
  have HL := Lib.hid hs.len
  go_enter Try.func66, Try.ntmps66
  go_wp2
  go_loop [3, 4, 5, 8] (fun c _ _ i => ∃ j : Nat, j ≤ n ∧ i = .int .i64 j ∧ c = .int .u32 (leNat (l.take j) : Nat)) (fun _ _ _ i => n - (intOf i).toNat)
  case atStart => exact ⟨0, Nat.zero_le _, rfl, rfl⟩
  case round =>
    obtain ⟨j, hj, rfl, rfl⟩ := hrel
    by_cases hlt : j < n
    · obtain ⟨g, o, rfl, _, hc⟩ := hs.spot (by omega)
      have hjl : j < l.length := by have := HL.out; omega
      have hcj := hc j hjl
      have HN := Lib.hid (leNat_next l j hjl)
      have hU : leNat (l.take j) < 2 ^ (8 * j) := by
        have := leNat_lt (l.take j)
        rwa [List.length_take, Nat.min_eq_left (by omega)] at this
      have hor := u32_or_at (leNat (l.take j)) l[j].toNat j hU l[j].toNat_lt (by omega)
      clear hc hs hU
      go_wp2
      go_round
      case rel => exact ⟨j + 1, by omega, by go_num, by rw [HN.out]; simp⟩
      case measure => simp [intOf]; omega
    · obtain rfl : n = j := by omega
      have htk : l.take n = l := List.take_of_length_le (by have := HL.out; omega)
      rw [htk]
      clear hs htk
      go_wp2
      go_ret
      exact ⟨rfl, rfl⟩

/-- Sum of one part that the call has just laid. -/
theorem laid_one {w : World} {p : Part} (hp : Shows w w.heap.size p.A p.n p.cap p.l) (T : TypeId) :
    Laid (w.alloc (.cells #[.slice p.A p.n p.cap] T)) (w.alloc (.cells #[.slice p.A p.n p.cap] T)).heap.size w.heap.size [p] := by
  have hb : Below w.heap.size w (w.alloc (.cells #[.slice p.A p.n p.cap] T)) := (Below.refl _ _).alloc (Nat.le_refl _) _
  have hn := heap_alloc_new w (.cells #[.slice p.A p.n p.cap] T)
  intro j hj
  match j, hj with
  | 0, _ => exact ⟨by rw [cell_of_row _ _ 0 _ T (0, 0) hn]; rfl, (hp.below hb).more hb.size⟩
theorem sum_one (A : Option Addr) (n cap : Nat) (l : List UInt8) (w : World) (g : Nat) (hg : w.heap.size = g) (hs : Shows w w.heap.size A n cap l) (hn : n ≤ 1000000000000) :
    Calls Try.prog 64 #[.slice (some ⟨g, 0, none⟩) 1 1] (w.alloc (.cells #[.slice A n cap] 29)) fun e w' => e = .returned (.int .u32 (tn (crc l))) ∧ w.alloc (.cells #[.slice A n cap] 29) = w' := by
  subst hg
  have h := sum_any _ _ _ 1 [⟨A, n, cap, l⟩] _ (LaidAt.of_laid (laid_one (p := ⟨A, n, cap, l⟩) hs 29) (by simp)) (by simp) (by intro p hp; simp only [List.mem_singleton] at hp; subst hp; exact hn)
  simp only [joined, List.append_nil] at h
  exact h

set_option maxHeartbeats 400000 in
theorem seal_no (A : Option Addr) (n cap : Nat) (w : World) (hn : 65535 < n) :
    Calls Try.prog 47 #[.slice A n cap] w fun e w' => e = .returned (.slice none 0 0) ∧ w = w' := by
  go_enter Try.func47, Try.ntmps47
  go_wp2
  go_ret
  exact ⟨rfl, rfl⟩

set_option maxRecDepth 100000 in
set_option maxHeartbeats 1000000 in
theorem seal_yes (A : Option Addr) (n cap : Nat) (l : List UInt8) (w : World) (hs : Shows w w.heap.size A n cap l) (hn : n ≤ 65535) :
    Calls Try.prog 47 #[.slice A n cap] w fun e w' => ∃ A2 c2, e = .returned (.slice A2 (6 + n) c2) ∧ w'.ownsRow w.heap.size 5 1 (.slice A2 (6 + n) c2) (6 + n) (bc (sealed l)) ∧ Below w.heap.size w w' := by
  have HLEN := Lib.hid hs.len
  have hb1 : Below w.heap.size w (w.alloc (.cells (Cz (fun i => (n : Int) / 2 ^ (8 * i) % 256) 2 2) 5)) := (Below.refl _ _).alloc (Nat.le_refl _) _
  have hs1 := shows_lit (n : Int) 2 (by omega) w
  have hsl1 := (hs.below hb1).more (B' := w.heap.size + 1) (by omega)
  have hbd := tn_bd (crc l)
  generalize hw1 : w.alloc (.cells (Cz (fun i => (n : Int) / 2 ^ (8 * i) % 256) 2 2) 5) = w1 at hb1 hs1 hsl1
  have e1 : w1.heap.size = w.heap.size + 1 := by rw [← hw1]; simp
  have hc1 := sum_one A n cap l w1 _ rfl (by rw [e1]; exact hsl1) (by omega)
  have hb2 : Below (w.heap.size + 1) w1 (w1.alloc (.cells #[.slice A n cap] 29)) := (Below.refl _ _).alloc (by omega) _
  have hs2 := (hs1.below hb2).more (B' := w.heap.size + 2) (by omega)
  have hsl2 := (hsl1.below hb2).more (B' := w.heap.size + 2) (by omega)
  generalize hw2 : w1.alloc (.cells #[.slice A n cap] 29) = w2 at hc1 hb2 hs2 hsl2
  have e2 : w2.heap.size = w.heap.size + 2 := by rw [← hw2]; simp [e1]
  have hb3 : Below (w.heap.size + 2) w2 (w2.alloc (.cells (Cz (fun i => tn (crc l) / 2 ^ (8 * i) % 256) 4 4) 5)) := (Below.refl _ _).alloc (by omega) _
  have hs3 := shows_lit (tn (crc l)) 4 (by omega) w2
  have hs3 := hs3.more (B' := w.heap.size + 3) (by omega)
  have hsa := (hs2.below hb3).more (B' := w.heap.size + 3) (by omega)
  have hsb := (hsl2.below hb3).more (B' := w.heap.size + 3) (by omega)
  generalize hw3 : w2.alloc (.cells (Cz (fun i => tn (crc l) / 2 ^ (8 * i) % 256) 4 4) 5) = w3 at hb3 hs3 hsa hsb
  have e3 : w3.heap.size = w.heap.size + 3 := by rw [← hw3]; simp [e2]
  have hc3 := concat_three ⟨some ⟨w.heap.size, 0, none⟩, 2, 2, leb n 2⟩ ⟨some ⟨w2.heap.size, 0, none⟩, 4, 4, leb (tn (crc l)) 4⟩ ⟨A, n, cap, l⟩ w3 _ rfl (by rw [e3]; exact hsa) (by rw [e3]; exact hs3) (by rw [e3]; exact hsb) (by simp; omega)
  have hbel := (hb1.trans (hb2.mono (by omega))).trans (hb3.mono (by omega))
  have HB := Lib.hid hbel
  have H1 := Lib.hid hw1
  have H2 := Lib.hid hw2
  have H3 := Lib.hid hw3
  have E1 := Lib.hid e1
  have E2 := Lib.hid e2
  have E3 := Lib.hid e3
  clear hs hb1 hs1 hsl1 hb2 hs2 hsl2 hb3 hs3 hsa hsb hbel hw1 hw2 hw3 e1 e2 e3
  have hn2 : (n : Int) % 4294967296 = n := by omega
  have HC1 := Lib.hid hc1
  have HC3 := Lib.hid hc3
  have HBD := Lib.hid hbd
  clear hc1 hc3 hbd
  go_enter Try.func47, Try.ntmps47
  go_wp2_with fail
  refine (clittle_any _ 2 (by omega) _).mono ?_
  rintro e w' ⟨rfl, rfl⟩
  rw [H1.out]
  go_wp2_with fail
  rw [H2.out]
  (with_reducible refine HC1.out.mono ?_)
  rintro e w' ⟨rfl, rfl⟩
  go_wp2_with fail
  refine (clittle_any _ 4 (by omega) _).mono ?_
  rintro e w' ⟨rfl, rfl⟩
  rw [H3.out]
  go_wp2_with fail
  (with_reducible refine HC3.out.mono ?_)
  rintro e w4 ⟨A2, c2, rfl, hown, hb4⟩
  go_wp2
  go_ret
  refine ⟨A2, c2, by rw [show 6 + n = 2 + 4 + n by omega]; rfl, ?_, (HB.out).trans (hb4.mono (by have := E3.out; omega))⟩
  rw [show 6 + n = 2 + 4 + n by omega]
  have : sealed l = leb n 2 ++ leb (tn (crc l)) 4 ++ l := by unfold sealed; rw [HLEN.out]
  rw [this]
  exact own_mono hown (by have := E3.out; omega)
end Go.Proofs.Ytolpiklhnafnbaa
