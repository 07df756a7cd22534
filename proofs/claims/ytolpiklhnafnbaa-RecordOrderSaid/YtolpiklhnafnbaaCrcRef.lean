/- Contracts for the reference's Seal and Open of chapter 2. -/
import Derived.Test.YtolpiklhnafnbaaCrcRefSum
import Derived.Test.YtolpiklhnafnbaaNums
import Derived.Deep.QuietTactic
import Derived.BigQuiet
namespace Go.Proofs.Ytolpiklhnafnbaa
set_option maxRecDepth 100000
open Go.RowKit Wd Nm Cm

/-- Bytes, sealed. -/
def sealed (l : List UInt8) : List UInt8 := leb l.length 2 ++ leb (tn (crc l)) 4 ++ l
theorem sealed_len (l : List UInt8) : (sealed l).length = 6 + l.length := by
  unfold sealed
  rw [List.length_append, List.length_append, leb_len, leb_len]
/-- Bytes, opened: what was sealed at their front, how many they take, the error. -/
def opened (b : List UInt8) : List UInt8 × Nat × Int :=
  if b.length < 6 then ([], 0, 8)
  else if b.length - 6 < leNat (b.take 2) then ([], 0, 8)
  else if tn (crc ((b.drop 6).take (leNat (b.take 2)))) = (leNat ((b.drop 2).take 4) : Int) then ((b.drop 6).take (leNat (b.take 2)), 6 + leNat (b.take 2), 0)
  else ([], 0, 10)

theorem infoByte2 : (Try.prog.info? 5).map (fun i => (i.zero, i.size, i.bytes)) = some (some (.int .u8 0), 1, 1) := by kernel_rfl

/-- Six bytes, as a literal lays them. -/
theorem own_six (w : World) (base : Nat) (a0 a1 a2 a3 a4 a5 : Int) (c0 c1 c2 c3 c4 c5 : UInt8) (h0 : (c0.toNat : Int) = a0) (h1 : (c1.toNat : Int) = a1) (h2 : (c2.toNat : Int) = a2) (h3 : (c3.toNat : Int) = a3) (h4 : (c4.toNat : Int) = a4) (h5 : (c5.toNat : Int) = a5) (hb : base ≤ w.heap.size) :
    (w.alloc (.cells #[.int .u8 a0, .int .u8 a1, .int .u8 a2, .int .u8 a3, .int .u8 a4, .int .u8 a5] 5)).ownsRow base 5 1 (.slice (some ⟨w.heap.size, 0, none⟩) 6 6) 6 (bc [c0, c1, c2, c3, c4, c5]) := by
  subst h0 h1 h2 h3 h4 h5
  exact World.ownsRow_lit w #[.int .u8 (c0.toNat : Int), .int .u8 (c1.toNat : Int), .int .u8 (c2.toNat : Int), .int .u8 (c3.toNat : Int), .int .u8 (c4.toNat : Int), .int .u8 (c5.toNat : Int)] 6 hb (by simp [maxLen]) rfl

theorem leb_four (z : Int) (h0 : 0 ≤ z) (h1 : z < 4294967296) : leb z 4 = [lb z 0, lb z 1, lb z 2, lb z 3] ∧ ((lb z 0).toNat : Int) = z % 256 ∧ ((lb z 1).toNat : Int) = z / 256 % 256 ∧ ((lb z 2).toNat : Int) = z / 65536 % 256 ∧ ((lb z 3).toNat : Int) = z / 16777216 := by
  refine ⟨rfl, ?_, ?_, ?_, ?_⟩ <;> rw [lb_nat]
  · simp
  · rfl
  · rfl
  · have : (2 : Int) ^ (8 * 3) = 16777216 := rfl
    rw [this]
    omega
theorem leb_pair (T : Int) (h0 : 0 ≤ T) (h1 : T < 65536) : leb T 2 = [lb T 0, lb T 1] ∧ ((lb T 0).toNat : Int) = T % 256 ∧ ((lb T 1).toNat : Int) = T / 256 := by
  refine ⟨rfl, ?_, ?_⟩
  · rw [lb_nat]; simp
  · rw [lb_nat]
    have : (2 : Int) ^ (8 * 1) = 256 := rfl
    rw [this]
    omega

set_option maxHeartbeats 1000000 in
theorem refseal_no (A : Option Addr) (n cap : Nat) (w : World) (hn : 65535 < n) (hn2 : n ≤ 1000000000000) :
    Calls Try.prog 48 #[.slice A n cap] w fun e w' => e = .returned (.slice none 0 0) ∧ w = w' := by
  go_enter Try.func48, Try.ntmps48
  go_wp2
  go_ret
  exact ⟨rfl, rfl⟩

set_option maxHeartbeats 1000000 in
theorem refseal_yes (A : Option Addr) (n cap : Nat) (l : List UInt8) (w : World) (hs : Shows w w.heap.size A n cap l) (hn : n ≤ 65535) :
    Calls Try.prog 48 #[.slice A n cap] w fun e w' => ∃ A2 c2, e = .returned (.slice A2 (6 + n) c2) ∧ w'.ownsRow w.heap.size 5 1 (.slice A2 (6 + n) c2) (6 + n) (bc (sealed l)) ∧ Below w.heap.size w w' := by
  obtain ⟨i0, hi0, hz0, hz1, hz2⟩ := info_parts infoByte2
  have HC := Lib.hid (refsum_any _ A n cap l w hs (by omega))
  have HL := Lib.hid hs.len
  go_enter Try.func48, Try.ntmps48
  go_wp2_with fail
  refine HC.out.mono ?_
  rintro _ w1 ⟨rfl, rfl⟩
  clear HC
  have hbd := tn_bd (crc l)
  generalize hz : tn (crc l) = z at hbd ⊢
  obtain ⟨hz0', hz1'⟩ := hbd
  have HZ := Lib.hid hz
  clear hz
  obtain ⟨ep, p0, p1⟩ := leb_pair (n : Int) (by omega) (by omega)
  obtain ⟨eq, q0, q1, q2, q3⟩ := leb_four z hz0' hz1'
  have HO := Lib.hid (own_six w w.heap.size _ _ _ _ _ _ _ _ _ _ _ _ p0 p1 q0 q1 q2 q3 (Nat.le_refl _))
  have hse : sealed l = [lb (n : Int) 0, lb (n : Int) 1, lb z 0, lb z 1, lb z 2, lb z 3] ++ l := by
    unfold sealed
    rw [HZ.out, HL.out, ep, eq]
    rfl
  have HSE := Lib.hid hse
  have hba : Below w.heap.size w (w.alloc (.cells #[Value.int .u8 ((n : Int) % 256), Value.int .u8 ((n : Int) / 256), Value.int .u8 (z % 256), Value.int .u8 (z / 256 % 256), Value.int .u8 (z / 65536 % 256), Value.int .u8 (z / 16777216)] 5)) := (Below.refl _ _).alloc (Nat.le_refl _) _
  have HSRC := Lib.hid ((hs.below hba).src (P := Try.prog) Try.underlying29)
  have HBA := Lib.hid hba
  clear ep p0 p1 eq q0 q1 q2 q3 hse hba hs
  go_wp2_with (at_builtin; refine wpList_ap _ rfl (.tmp 29) (.tmp 30) 29 29 rfl w.heap.size 5 i0 Try.underlying29 hi0 hz0 hz1 hz2 _ 6 6 _ rfl HO.out _ n l rfl HSRC.out ?c1 ?c2 ?_)
  case c1 => omega
  case c2 => simp
  intro A2 c2 w2 hown2 _ hg2 _
  have hb2 := HBA.out.grown hg2 HBA.out.size (by intro k hk; injection hk with hk; omega)
  have HOWN := Lib.hid hown2
  clear hown2 hg2 HBA HO HSRC
  go_wp2
  go_ret
  exact ⟨A2, c2, rfl, by rw [HSE.out]; exact HOWN.out, hb2⟩

theorem refsum_q (w : World) (q : Nat) (A : Option Addr) (n cap : Nat) (l : List UInt8) (hs : Shows w w.heap.size A n cap l) (hn : n ≤ 1000000000000) :
    Calls Try.prog 65 #[.slice A n cap] (w.drewN q) fun e w' => e = .returned (.int .u32 (tn (crc l))) ∧ w' = w.drewN q := by
  refine (refsum_any w.heap.size A n cap l (w.drewN q) (hs.keep fun _ _ => rfl) hn).mono ?_
  rintro e w' ⟨rfl, rfl⟩
  exact ⟨rfl, rfl⟩

set_option maxHeartbeats 1000000 in
theorem refopen_short (A : Option Addr) (n cap : Nat) (w : World) (hn : n < 6) :
    Calls Try.prog 52 #[.slice A n cap] w fun e w' => e = .returned (.tuple #[.slice none 0 0, .int .i64 0, .int .i64 8]) ∧ w = w' := by
  go_enter Try.func52, Try.ntmps52
  go_wp2
  go_ret3
  exact ⟨rfl, rfl⟩

theorem len_sum (x y : UInt8) : wrap64 (wrap64 (x.toNat : Int) + wrap64 (256 * wrap64 (y.toNat : Int))) = ((x.toNat + 256 * y.toNat : Nat) : Int) := by
  have hx := x.toNat_lt
  have hy := y.toNat_lt
  rw [wrap64_of (x.toNat : Int) (by omega) (by omega), wrap64_of (y.toNat : Int) (by omega) (by omega), wrap64_of (256 * (y.toNat : Int)) (by omega) (by omega), wrap64_of _ (by omega) (by omega)]
  omega

set_option maxHeartbeats 2000000 in
theorem refopen_cut (A : Option Addr) (n cap : Nat) (a0 a1 a2 a3 a4 a5 : UInt8) (r : List UInt8) (w : World) (hs : Shows w w.heap.size A n cap (a0 :: a1 :: a2 :: a3 :: a4 :: a5 :: r)) (hn : n ≤ 1000000) (hm : r.length < a0.toNat + 256 * a1.toNat) :
    Calls Try.prog 52 #[.slice A n cap] w fun e w' => e = .returned (.tuple #[.slice none 0 0, .int .i64 0, .int .i64 8]) ∧ ∃ q, w' = w.drewN q := by
  have hl := hs.len
  simp only [List.length_cons] at hl
  have hl' : n = r.length + 6 := by omega
  obtain ⟨g, o, rfl, _, hc⟩ := hs.spot (by omega)
  have c0 : w.cell? ⟨g, o, none⟩ = some (.int .u8 (a0.toNat : Int)) := hc 0 (by simp)
  have c1 : w.cell? ⟨g, o + 1, none⟩ = some (.int .u8 (a1.toNat : Int)) := hc 1 (by simp)
  have hsum := len_sum a0 a1
  have hm2 : a0.toNat + 256 * a1.toNat ≤ 70000 := by have := a0.toNat_lt; have := a1.toNat_lt; omega
  generalize a0.toNat + 256 * a1.toNat = m at hm hsum hm2
  have HSUM := Lib.hid hsum
  have h6 : 6 ≤ n := by omega
  have hlt : (n : Int) - 6 < m := by omega
  clear hc hs hl hl' hsum
  go_enter Try.func52, Try.ntmps52
  go_wp2_with fail
  first
    | go_quiet (fail)
    | fail "the region"
  rw [HSUM.out]
  go_wp2
  go_ret3
  exact ⟨rfl, _, rfl⟩

theorem u32_or_up (a b : Int) (i : Nat) (a0 : 0 ≤ a) (a1 : a < 2 ^ i) (b0 : 0 ≤ b) (b1 : b % 2 ^ i = 0) (b2 : b < 4294967296) (a2 : a < 4294967296) : bits BinOp.or IntKind.u32 a b = a + b := by
  have hc : bits BinOp.or IntKind.u32 a b = bits BinOp.or IntKind.u32 b a := by simp only [bits, BitVec.or_comm]
  have h32 : (2 : Int) ^ 32 = 4294967296 := rfl
  rw [hc, bits_join .u32 32 (by decide) (fun n h0 h1 => by rw [IntKind.wrap_u32]; rw [h32] at h1; omega) i b a b0 b1 (by rw [h32]; exact b2) a0 a1 (by rw [h32]; exact a2)]
  omega
/-- The sum that four bytes say, as the walk has it. -/
theorem four_or (x y z t : UInt8) : bits BinOp.or IntKind.u32 (bits BinOp.or IntKind.u32 (bits BinOp.or IntKind.u32 ((x.toNat : Int) % 4294967296) ((y.toNat : Int) % 4294967296 * 256 % 4294967296)) ((z.toNat : Int) % 4294967296 * 65536 % 4294967296)) ((t.toNat : Int) % 4294967296 * 16777216 % 4294967296) = (leNat [x, y, z, t] : Int) := by
  have hx := x.toNat_lt
  have hy := y.toNat_lt
  have hz := z.toNat_lt
  have ht := t.toNat_lt
  have e8 : (2 : Int) ^ 8 = 256 := rfl
  have e16 : (2 : Int) ^ 16 = 65536 := rfl
  have e24 : (2 : Int) ^ 24 = 16777216 := rfl
  have hl : (leNat [x, y, z, t] : Int) = x.toNat + 256 * y.toNat + 65536 * z.toNat + 16777216 * t.toNat := by
    simp only [leNat]
    omega
  have h1 : (x.toNat : Int) % 4294967296 = x.toNat := by omega
  have h2 : (y.toNat : Int) % 4294967296 * 256 % 4294967296 = 256 * y.toNat := by omega
  have h3 : (z.toNat : Int) % 4294967296 * 65536 % 4294967296 = 65536 * z.toNat := by omega
  have h4 : (t.toNat : Int) % 4294967296 * 16777216 % 4294967296 = 16777216 * t.toNat := by omega
  rw [h1, h2, h3, h4, hl]
  have e1 := u32_or_up (x.toNat : Int) (256 * y.toNat) 8 (by omega) (by rw [e8]; omega) (by omega) (by rw [e8]; omega) (by omega) (by omega)
  have e2 := u32_or_up ((x.toNat : Int) + 256 * y.toNat) (65536 * z.toNat) 16 (by omega) (by rw [e16]; omega) (by omega) (by rw [e16]; omega) (by omega) (by omega)
  have e3 := u32_or_up ((x.toNat : Int) + 256 * y.toNat + 65536 * z.toNat) (16777216 * t.toNat) 24 (by omega) (by rw [e24]; omega) (by omega) (by rw [e24]; omega) (by omega) (by omega)
  rw [e1, e2, e3]

set_option maxHeartbeats 2000000 in
theorem refopen_bad (A : Option Addr) (n cap : Nat) (a0 a1 a2 a3 a4 a5 : UInt8) (r : List UInt8) (w : World) (hs : Shows w w.heap.size A n cap (a0 :: a1 :: a2 :: a3 :: a4 :: a5 :: r)) (hn : n ≤ 1000000) (m : Nat) (hmm : a0.toNat + 256 * a1.toNat = m) (hm : m ≤ r.length)
    (hsu : (tn (crc (r.take m)) != (leNat [a2, a3, a4, a5] : Int)) = true) :
    Calls Try.prog 52 #[.slice A n cap] w fun e w' => e = .returned (.tuple #[.slice none 0 0, .int .i64 0, .int .i64 10]) ∧ ∃ q, w' = w.drewN q := by
  have hl := hs.len
  simp only [List.length_cons] at hl
  have hcap := hs.le
  have hsd := (hs.drop (k := 6) (by omega)).take (k := m) (by omega)
  simp only [List.drop_succ_cons, List.drop_zero] at hsd
  obtain ⟨g, o, rfl, _, hc⟩ := hs.spot (by omega)
  have c0 : w.cell? ⟨g, o, none⟩ = some (.int .u8 (a0.toNat : Int)) := hc 0 (by simp)
  have c1 : w.cell? ⟨g, o + 1, none⟩ = some (.int .u8 (a1.toNat : Int)) := hc 1 (by simp)
  have c2 : w.cell? ⟨g, o + 2, none⟩ = some (.int .u8 (a2.toNat : Int)) := hc 2 (by simp)
  have c3 : w.cell? ⟨g, o + 3, none⟩ = some (.int .u8 (a3.toNat : Int)) := hc 3 (by simp)
  have c4 : w.cell? ⟨g, o + 4, none⟩ = some (.int .u8 (a4.toNat : Int)) := hc 4 (by simp)
  have c5 : w.cell? ⟨g, o + 5, none⟩ = some (.int .u8 (a5.toNat : Int)) := hc 5 (by simp)
  have hsum := len_sum a0 a1
  have hm2 : a0.toNat + 256 * a1.toNat ≤ 70000 := by have := a0.toNat_lt; have := a1.toNat_lt; omega
  rw [hmm] at hsum hm2
  have h6 : 6 ≤ n := by omega
  have h7 : 2 < n := by omega
  have hhi : 6 + (m : Int) ≤ n := by omega
  have hlt : ¬ (n : Int) - 6 < m := by omega
  have hm60 : cap = 6 → m = 0 ∧ n = 6 := fun h => by omega
  have HSUM := Lib.hid hsum
  have HFOUR := Lib.hid (four_or a2 a3 a4 a5)
  have HSU := Lib.hid hsu
  obtain ⟨i0, hi0, hz0, hz1, hz2⟩ := info_parts infoByte2
  clear hc hs hl hmm hm hsum hsu
  by_cases hcc : cap = 6
  · obtain ⟨rfl, rfl⟩ := hm60 hcc
    subst hcc
    have hsd2 := hsd
    rw [if_pos rfl, List.take_zero] at hsd2
    have HSD := Lib.hid hsd2
    clear hsd hsd2 hm60
    go_enter Try.func52, Try.ntmps52
    go_wp2_with fail
    first
      | go_quiet (fail)
      | fail "the region"
    rw [HSUM.out]
    go_wp2
    obtain ⟨W, hW⟩ : ∃ W, W = w.drewN nq := ⟨_, rfl⟩
    have d2 : W.cell? ⟨g, o + 2, none⟩ = some (.int .u8 (a2.toNat : Int)) := by rw [hW]; exact c2
    have d3 : W.cell? ⟨g, o + 3, none⟩ = some (.int .u8 (a3.toNat : Int)) := by rw [hW]; exact c3
    have d4 : W.cell? ⟨g, o + 4, none⟩ = some (.int .u8 (a4.toNat : Int)) := by rw [hW]; exact c4
    have d5 : W.cell? ⟨g, o + 5, none⟩ = some (.int .u8 (a5.toNat : Int)) := by rw [hW]; exact c5
    have HSW : Hid (Shows W W.heap.size (some ⟨g, o, none⟩) 0 0 []) := by rw [hW]; exact HSD.out.keep fun _ _ => rfl
    rw [← hW]
    have HW := Lib.hid hW
    clear hW c0 c1 c2 c3 c4 c5
    first
      | go_quiet ((go_at_call 65; exact Calls.quiet_of_same (refsum_q W _ _ _ _ _ HSW.out (by omega))))
      | fail "the region"
    rw [HFOUR.out]
    have hsu2 := HSU.out
    rw [List.take_zero] at hsu2
    clear d2 d3 d4 d5
    go_wp2
    go_ret3
    rw [HW.out]
    exact ⟨rfl, _, World.drewN_drewN _ _ _⟩
  · rw [if_neg hcc] at hsd
    have HSD := Lib.hid hsd
    clear hsd hm60
    go_enter Try.func52, Try.ntmps52
    go_wp2_with fail
    first
      | go_quiet (fail)
      | fail "the region"
    rw [HSUM.out]
    go_wp2
    obtain ⟨W, hW⟩ : ∃ W, W = w.drewN nq := ⟨_, rfl⟩
    have d2 : W.cell? ⟨g, o + 2, none⟩ = some (.int .u8 (a2.toNat : Int)) := by rw [hW]; exact c2
    have d3 : W.cell? ⟨g, o + 3, none⟩ = some (.int .u8 (a3.toNat : Int)) := by rw [hW]; exact c3
    have d4 : W.cell? ⟨g, o + 4, none⟩ = some (.int .u8 (a4.toNat : Int)) := by rw [hW]; exact c4
    have d5 : W.cell? ⟨g, o + 5, none⟩ = some (.int .u8 (a5.toNat : Int)) := by rw [hW]; exact c5
    have HSW : Hid (Shows W W.heap.size (some ⟨g, o + 6, none⟩) m (cap - 6) (r.take m)) := by rw [hW]; exact HSD.out.keep fun _ _ => rfl
    rw [← hW]
    have HW := Lib.hid hW
    clear hW c0 c1 c2 c3 c4 c5
    first
      | go_quiet ((go_at_call 65; exact Calls.quiet_of_same (refsum_q W _ _ _ _ _ HSW.out (by omega))))
      | fail "the region"
    rw [HFOUR.out]
    have hsu2 := HSU.out
    clear d2 d3 d4 d5
    go_wp2
    go_ret3
    rw [HW.out]
    exact ⟨rfl, _, World.drewN_drewN _ _ _⟩

set_option maxHeartbeats 2000000 in
theorem refopen_own (A : Option Addr) (n cap : Nat) (a0 a1 a2 a3 a4 a5 : UInt8) (r : List UInt8) (w : World) (hs : Shows w w.heap.size A n cap (a0 :: a1 :: a2 :: a3 :: a4 :: a5 :: r)) (hn : n ≤ 1000000) (m : Nat) (hmm : a0.toNat + 256 * a1.toNat = m) (hm : m ≤ r.length)
    (hsu : (tn (crc (r.take m)) != (leNat [a2, a3, a4, a5] : Int)) = false) :
    Calls Try.prog 52 #[.slice A n cap] w fun e w' => ∃ A2 c2, e = .returned (.tuple #[.slice A2 m c2, .int .i64 (6 + m), .int .i64 0]) ∧ w'.ownsRow w.heap.size 5 1 (.slice A2 m c2) m (bc (r.take m)) ∧ Below w.heap.size w w' := by
  have hl := hs.len
  simp only [List.length_cons] at hl
  have hcap := hs.le
  have hsd := (hs.drop (k := 6) (by omega)).take (k := m) (by omega)
  simp only [List.drop_succ_cons, List.drop_zero] at hsd
  obtain ⟨g, o, rfl, _, hc⟩ := hs.spot (by omega)
  have c0 : w.cell? ⟨g, o, none⟩ = some (.int .u8 (a0.toNat : Int)) := hc 0 (by simp)
  have c1 : w.cell? ⟨g, o + 1, none⟩ = some (.int .u8 (a1.toNat : Int)) := hc 1 (by simp)
  have c2 : w.cell? ⟨g, o + 2, none⟩ = some (.int .u8 (a2.toNat : Int)) := hc 2 (by simp)
  have c3 : w.cell? ⟨g, o + 3, none⟩ = some (.int .u8 (a3.toNat : Int)) := hc 3 (by simp)
  have c4 : w.cell? ⟨g, o + 4, none⟩ = some (.int .u8 (a4.toNat : Int)) := hc 4 (by simp)
  have c5 : w.cell? ⟨g, o + 5, none⟩ = some (.int .u8 (a5.toNat : Int)) := hc 5 (by simp)
  have hsum := len_sum a0 a1
  have hm2 : a0.toNat + 256 * a1.toNat ≤ 70000 := by have := a0.toNat_lt; have := a1.toNat_lt; omega
  rw [hmm] at hsum hm2
  have h6 : 6 ≤ n := by omega
  have h7 : 2 < n := by omega
  have hhi : 6 + (m : Int) ≤ n := by omega
  have hlt : ¬ (n : Int) - 6 < m := by omega
  have hm60 : cap = 6 → m = 0 ∧ n = 6 := fun h => by omega
  have HSUM := Lib.hid hsum
  have HFOUR := Lib.hid (four_or a2 a3 a4 a5)
  have HSU := Lib.hid hsu
  obtain ⟨i0, hi0, hz0, hz1, hz2⟩ := info_parts infoByte2
  clear hc hs hl hmm hm hsum hsu
  by_cases hcc : cap = 6
  · obtain ⟨rfl, rfl⟩ := hm60 hcc
    subst hcc
    have hsd2 := hsd
    rw [if_pos rfl, List.take_zero] at hsd2
    have HSD := Lib.hid hsd2
    clear hsd hsd2 hm60
    go_enter Try.func52, Try.ntmps52
    go_wp2_with fail
    first
      | go_quiet (fail)
      | fail "the region"
    rw [HSUM.out]
    go_wp2
    obtain ⟨W, hW⟩ : ∃ W, W = w.drewN nq := ⟨_, rfl⟩
    have d2 : W.cell? ⟨g, o + 2, none⟩ = some (.int .u8 (a2.toNat : Int)) := by rw [hW]; exact c2
    have d3 : W.cell? ⟨g, o + 3, none⟩ = some (.int .u8 (a3.toNat : Int)) := by rw [hW]; exact c3
    have d4 : W.cell? ⟨g, o + 4, none⟩ = some (.int .u8 (a4.toNat : Int)) := by rw [hW]; exact c4
    have d5 : W.cell? ⟨g, o + 5, none⟩ = some (.int .u8 (a5.toNat : Int)) := by rw [hW]; exact c5
    have HSW : Hid (Shows W W.heap.size (some ⟨g, o, none⟩) 0 0 []) := by rw [hW]; exact HSD.out.keep fun _ _ => rfl
    rw [← hW]
    have HW := Lib.hid hW
    clear hW c0 c1 c2 c3 c4 c5
    first
      | go_quiet ((go_at_call 65; exact Calls.quiet_of_same (refsum_q W _ _ _ _ _ HSW.out (by omega))))
      | fail "the region"
    rw [HFOUR.out]
    have hsu2 := HSU.out
    rw [List.take_zero] at hsu2
    clear d2 d3 d4 d5
    obtain ⟨V, hV⟩ : ∃ V, V = W.drewN nq := ⟨_, rfl⟩
    have hbV : Below w.heap.size w V := by rw [hV, HW.out]; exact ⟨rfl, rfl, rfl, Nat.le_refl _, fun _ _ => rfl⟩
    have hsV : Shows V V.heap.size (some ⟨g, o, none⟩) 0 0 [] := by rw [hV]; exact HSW.out.keep fun _ _ => rfl
    rw [← hV]
    have hown0 : (V.alloc (.cells #[] 5)).ownsRow w.heap.size 5 1 (.slice (some ⟨V.heap.size, 0, none⟩) 0 0) 0 (bc []) := World.ownsRow_made V #[] 0 hbV.size (Nat.zero_le _) rfl
    have hba0 : Below V.heap.size V (V.alloc (.cells #[] 5)) := (Below.refl _ _).alloc (Nat.le_refl _) _
    have hsrc := (hsV.below hba0).src (P := Try.prog) Try.underlying29
    have hVs := hbV.size
    clear hV hsV HSW HW
    go_wp2_with (at_builtin; refine wpList_ap _ rfl (.tmp 54) (.tmp 55) 29 29 rfl w.heap.size 5 i0 Try.underlying29 hi0 hz0 hz1 hz2 _ 0 0 [] rfl hown0 _ 0 [] rfl hsrc ?c1 ?c2 ?_)
    case c1 => omega
    case c2 => simp; omega
    intro A2 c2 w2 hown2 _ hg2 _
    have hb2 := (hbV.trans (hba0.mono hVs)).grown hg2 (by simp; omega) (by intro k hk; injection hk with hk; omega)
    have hs2 := hown2
    clear hown0 hsrc hba0 hown2 hg2 hbV
    go_wp2
    go_ret3
    exact ⟨A2, c2, rfl, hs2, hb2⟩
  · rw [if_neg hcc] at hsd
    have HSD := Lib.hid hsd
    clear hsd hm60
    go_enter Try.func52, Try.ntmps52
    go_wp2_with fail
    first
      | go_quiet (fail)
      | fail "the region"
    rw [HSUM.out]
    go_wp2
    rw [Nat.add_sub_cancel_left]
    obtain ⟨W, hW⟩ : ∃ W, W = w.drewN nq := ⟨_, rfl⟩
    have d2 : W.cell? ⟨g, o + 2, none⟩ = some (.int .u8 (a2.toNat : Int)) := by rw [hW]; exact c2
    have d3 : W.cell? ⟨g, o + 3, none⟩ = some (.int .u8 (a3.toNat : Int)) := by rw [hW]; exact c3
    have d4 : W.cell? ⟨g, o + 4, none⟩ = some (.int .u8 (a4.toNat : Int)) := by rw [hW]; exact c4
    have d5 : W.cell? ⟨g, o + 5, none⟩ = some (.int .u8 (a5.toNat : Int)) := by rw [hW]; exact c5
    have HSW : Hid (Shows W W.heap.size (some ⟨g, o + 6, none⟩) m (cap - 6) (r.take m)) := by rw [hW]; exact HSD.out.keep fun _ _ => rfl
    rw [← hW]
    have HW := Lib.hid hW
    clear hW c0 c1 c2 c3 c4 c5
    first
      | go_quiet ((go_at_call 65; exact Calls.quiet_of_same (refsum_q W _ _ _ _ _ HSW.out (by omega))))
      | fail "the region"
    rw [HFOUR.out]
    have hsu2 := HSU.out
    clear d2 d3 d4 d5
    obtain ⟨V, hV⟩ : ∃ V, V = W.drewN nq := ⟨_, rfl⟩
    have hbV : Below w.heap.size w V := by rw [hV, HW.out]; exact ⟨rfl, rfl, rfl, Nat.le_refl _, fun _ _ => rfl⟩
    have hsV : Shows V V.heap.size (some ⟨g, o + 6, none⟩) m (cap - 6) (r.take m) := by rw [hV]; exact HSW.out.keep fun _ _ => rfl
    rw [← hV]
    have hown0 : (V.alloc (.cells #[] 5)).ownsRow w.heap.size 5 1 (.slice (some ⟨V.heap.size, 0, none⟩) 0 0) 0 (bc []) := World.ownsRow_made V #[] 0 hbV.size (Nat.zero_le _) rfl
    have hba0 : Below V.heap.size V (V.alloc (.cells #[] 5)) := (Below.refl _ _).alloc (Nat.le_refl _) _
    have hsrc := (hsV.below hba0).src (P := Try.prog) Try.underlying29
    have hVs := hbV.size
    clear hV hsV HSW HW
    go_wp2_with (at_builtin; refine wpList_ap _ rfl (.tmp 54) (.tmp 55) 29 29 rfl w.heap.size 5 i0 Try.underlying29 hi0 hz0 hz1 hz2 _ 0 0 [] rfl hown0 _ m (r.take m) rfl hsrc ?c1 ?c2 ?_)
    case c1 => omega
    case c2 => simp; omega
    intro A2 c2 w2 hown2 _ hg2 _
    have hb2 := (hbV.trans (hba0.mono hVs)).grown hg2 (by simp; omega) (by intro k hk; injection hk with hk; omega)
    have hs2 := hown2
    clear hown0 hsrc hba0 hown2 hg2 hbV
    go_wp2
    go_ret3
    exact ⟨A2, c2, rfl, hs2, hb2⟩

theorem refopen_ok (A : Option Addr) (n cap : Nat) (a0 a1 a2 a3 a4 a5 : UInt8) (r : List UInt8) (w : World) (hs : Shows w w.heap.size A n cap (a0 :: a1 :: a2 :: a3 :: a4 :: a5 :: r)) (hn : n ≤ 1000000) (m : Nat) (hmm : a0.toNat + 256 * a1.toNat = m) (hm : m ≤ r.length)
    (hsu : (tn (crc (r.take m)) != (leNat [a2, a3, a4, a5] : Int)) = false) :
    Calls Try.prog 52 #[.slice A n cap] w fun e w' => ∃ A2 c2, e = .returned (.tuple #[.slice A2 m c2, .int .i64 (6 + m), .int .i64 0]) ∧ Shows w' w'.heap.size A2 m c2 (r.take m) ∧ Below w.heap.size w w' :=
  (refopen_own A n cap a0 a1 a2 a3 a4 a5 r w hs hn m hmm hm hsu).mono fun _ _ ⟨A2, c2, h1, h2, h3⟩ => ⟨A2, c2, h1, Shows.of_own h2, h3⟩

theorem opened_six (a0 a1 a2 a3 a4 a5 : UInt8) (r : List UInt8) : opened (a0 :: a1 :: a2 :: a3 :: a4 :: a5 :: r) =
    if r.length < a0.toNat + 256 * a1.toNat then ([], 0, 8) else if tn (crc (r.take (a0.toNat + 256 * a1.toNat))) = (leNat [a2, a3, a4, a5] : Int) then (r.take (a0.toNat + 256 * a1.toNat), 6 + (a0.toNat + 256 * a1.toNat), 0) else ([], 0, 10) := by
  have h1 : leNat ((a0 :: a1 :: a2 :: a3 :: a4 :: a5 :: r).take 2) = a0.toNat + 256 * a1.toNat := by simp [leNat]
  have h2 : ((a0 :: a1 :: a2 :: a3 :: a4 :: a5 :: r).drop 2).take 4 = [a2, a3, a4, a5] := rfl
  have h3 : (a0 :: a1 :: a2 :: a3 :: a4 :: a5 :: r).drop 6 = r := rfl
  have h4 : (a0 :: a1 :: a2 :: a3 :: a4 :: a5 :: r).length = r.length + 6 := rfl
  unfold opened
  rw [h1, h2, h3, h4, if_neg (by omega), Nat.add_sub_cancel]

theorem refopen_any (A : Option Addr) (n cap : Nat) (l : List UInt8) (w : World) (hs : Shows w w.heap.size A n cap l) (hn : n ≤ 1000000) :
    Calls Try.prog 52 #[.slice A n cap] w fun e w' => ∃ A2 c2, e = .returned (.tuple #[.slice A2 (opened l).1.length c2, .int .i64 ((opened l).2.1 : Nat), .int .i64 (opened l).2.2]) ∧ Shows w' w'.heap.size A2 (opened l).1.length c2 (opened l).1 ∧ Below w.heap.size w w' := by
  have hl := hs.len
  match l, hl, hs with
  | [], hl, _ | [_], hl, _ | [_, _], hl, _ | [_, _, _], hl, _ | [_, _, _, _], hl, _ | [_, _, _, _, _], hl, _ =>
    simp only [List.length_cons, List.length_nil] at hl
    refine (refopen_short A n cap w (by omega)).mono ?_
    rintro e w' ⟨rfl, rfl⟩
    exact ⟨none, 0, rfl, Shows.nil _ _, Below.refl _ _⟩
  | a0 :: a1 :: a2 :: a3 :: a4 :: a5 :: r, hl, hs =>
    rw [opened_six]
    by_cases h1 : r.length < a0.toNat + 256 * a1.toNat
    · rw [if_pos h1]
      refine (refopen_cut A n cap a0 a1 a2 a3 a4 a5 r w hs hn h1).mono ?_
      rintro e w' ⟨rfl, q, rfl⟩
      exact ⟨none, 0, rfl, Shows.nil _ _, ⟨rfl, rfl, rfl, Nat.le_refl _, fun _ _ => rfl⟩⟩
    · rw [if_neg h1]
      by_cases h2 : tn (crc (r.take (a0.toNat + 256 * a1.toNat))) = (leNat [a2, a3, a4, a5] : Int)
      · rw [if_pos h2]
        refine (refopen_ok A n cap a0 a1 a2 a3 a4 a5 r w hs hn _ rfl (by omega) (by simpa using h2)).mono ?_
        rintro e w' ⟨A2, c2, rfl, hs2, hb⟩
        have hlen : (r.take (a0.toNat + 256 * a1.toNat)).length = a0.toNat + 256 * a1.toNat := by rw [List.length_take]; omega
        simp only [hlen]
        exact ⟨A2, c2, by rw [Int.natCast_add]; rfl, hs2, hb⟩
      · rw [if_neg h2]
        refine (refopen_bad A n cap a0 a1 a2 a3 a4 a5 r w hs hn _ rfl (by omega) (by simpa using h2)).mono ?_
        rintro e w' ⟨rfl, q, rfl⟩
        exact ⟨none, 0, rfl, Shows.nil _ _, ⟨rfl, rfl, rfl, Nat.le_refl _, fun _ _ => rfl⟩⟩

/-- What is opened lies in a row of its own. -/
theorem refopen_any_own (A : Option Addr) (n cap : Nat) (l : List UInt8) (w : World) (hs : Shows w w.heap.size A n cap l) (hn : n ≤ 1000000) :
    Calls Try.prog 52 #[.slice A n cap] w fun e w' => ∃ A2 c2, e = .returned (.tuple #[.slice A2 (opened l).1.length c2, .int .i64 ((opened l).2.1 : Nat), .int .i64 (opened l).2.2]) ∧ w'.ownsRow w.heap.size 5 1 (.slice A2 (opened l).1.length c2) (opened l).1.length (bc (opened l).1) ∧ Below w.heap.size w w' := by
  have hl := hs.len
  match l, hl, hs with
  | [], hl, _ | [_], hl, _ | [_, _], hl, _ | [_, _, _], hl, _ | [_, _, _, _], hl, _ | [_, _, _, _, _], hl, _ =>
    simp only [List.length_cons, List.length_nil] at hl
    refine (refopen_short A n cap w (by omega)).mono ?_
    rintro e w' ⟨rfl, rfl⟩
    exact ⟨none, 0, rfl, World.ownsRow_nil _ _ _ _, Below.refl _ _⟩
  | a0 :: a1 :: a2 :: a3 :: a4 :: a5 :: r, hl, hs =>
    rw [opened_six]
    by_cases h1 : r.length < a0.toNat + 256 * a1.toNat
    · rw [if_pos h1]
      refine (refopen_cut A n cap a0 a1 a2 a3 a4 a5 r w hs hn h1).mono ?_
      rintro e w' ⟨rfl, q, rfl⟩
      exact ⟨none, 0, rfl, World.ownsRow_nil _ _ _ _, ⟨rfl, rfl, rfl, Nat.le_refl _, fun _ _ => rfl⟩⟩
    · rw [if_neg h1]
      by_cases h2 : tn (crc (r.take (a0.toNat + 256 * a1.toNat))) = (leNat [a2, a3, a4, a5] : Int)
      · rw [if_pos h2]
        refine (refopen_own A n cap a0 a1 a2 a3 a4 a5 r w hs hn _ rfl (by omega) (by simpa using h2)).mono ?_
        rintro e w' ⟨A2, c2, rfl, hs2, hb⟩
        have hlen : (r.take (a0.toNat + 256 * a1.toNat)).length = a0.toNat + 256 * a1.toNat := by rw [List.length_take]; omega
        simp only [hlen]
        exact ⟨A2, c2, by rw [Int.natCast_add]; rfl, hs2, hb⟩
      · rw [if_neg h2]
        refine (refopen_bad A n cap a0 a1 a2 a3 a4 a5 r w hs hn _ rfl (by omega) (by simpa using h2)).mono ?_
        rintro e w' ⟨rfl, q, rfl⟩
        exact ⟨none, 0, rfl, World.ownsRow_nil _ _ _ _, ⟨rfl, rfl, rfl, Nat.le_refl _, fun _ _ => rfl⟩⟩
end Go.Proofs.Ytolpiklhnafnbaa
