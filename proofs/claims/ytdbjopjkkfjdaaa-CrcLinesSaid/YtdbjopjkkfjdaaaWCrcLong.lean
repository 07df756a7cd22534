/- The walk of the law CrcLong: what is longer than its two bytes can say is not sealed. -/
import Derived.Test.YtdbjopjkkfjdaaaLaw2Base
namespace Go.Proofs.Ytdbjopjkkfjdaaa
open Go.RowKit Wd Nm Cm

/-- A row of noughts; the same with its last byte set. -/
def Zn (N : Nat) : Array Value := (List.replicate N (Value.int .u8 0)).toArray
def En (b : UInt8) (N : Nat) : List UInt8 := List.replicate (N - 1) 0 ++ [b]
theorem Zn_last (N : Nat) (h : 0 < N) : (Zn N)[N - 1]? = some (.int .u8 0) := by
  unfold Zn
  rw [List.getElem?_toArray, List.getElem?_replicate, if_pos (by omega)]
theorem Zn_set (b : UInt8) (N : Nat) (h : 0 < N) : (Zn N).setIfInBounds (N - 1) (.int .u8 (b.toNat : Int)) = (bc (En b N)).toArray := by
  obtain ⟨m, rfl⟩ : ∃ m, N = m + 1 := ⟨N - 1, by omega⟩
  unfold Zn En bc
  simp only [Nat.add_sub_cancel]
  rw [List.replicate_succ']
  simp
theorem Zn_made (N : Nat) : madeCells #[Value.int .u8 0] (N * 1) = Zn N := by
  apply Array.ext'
  rw [toList_madeCells_one, Nat.mul_one]
  rfl
theorem En_len (b : UInt8) (N : Nat) (h : 0 < N) : (En b N).length = N := by
  unfold En
  rw [List.length_append, List.length_replicate, List.length_singleton]
  omega
theorem seal_at (l : List UInt8) (N : Nat) (h : l.length = N) : ((lb N 0).toNat : Int) = (N : Int) % 256 ∧ ((lb N 1).toNat : Int) = (N : Int) / 256 % 256 ∧ (sealed l).getD 0 0 = lb N 0 ∧ (sealed l).getD 1 0 = lb N 1 := by
  subst h
  refine ⟨by rw [lb_nat]; simp, by rw [lb_nat]; rfl, rfl, rfl⟩
theorem seal_last (b : UInt8) (N : Nat) (h : 0 < N) : (sealed (En b N)).getD (6 + N - 1) 0 = b := by
  have hs : sealed (En b N) = (leb (En b N).length 2 ++ leb (tn (crc (En b N))) 4 ++ List.replicate (N - 1) 0) ++ [b] := by
    unfold sealed
    conv => lhs; rw [show leb (En b N).length 2 ++ leb (tn (crc (En b N))) 4 ++ En b N = leb (En b N).length 2 ++ leb (tn (crc (En b N))) 4 ++ (List.replicate (N - 1) 0 ++ [b]) from rfl]
    rw [← List.append_assoc]
  have hl : (leb (En b N).length 2 ++ leb (tn (crc (En b N))) 4 ++ List.replicate (N - 1) 0).length = 6 + N - 1 := by
    rw [List.length_append, List.length_append, leb_len, leb_len, List.length_replicate]
    omega
  rw [hs, List.getD_eq_getElem?_getD, List.getElem?_append_right (by omega), hl, Nat.sub_self]
  rfl

set_option maxRecDepth 100000 in
set_option maxHeartbeats 1000000 in
theorem crcLong_walk (x b : Int) (w : World) (_hx : (Lit.int .i64 x).wf = true) (hb : (Lit.int .u8 b).wf = true) :
    Calls Try.prog 6 #[.int .i64 x, .int .u8 b] w fun e w' => e = .returned (.bool true) ∧ Below w.heap.size w w' := by
  obtain ⟨hb0, hb255⟩ := u8_of_wf hb
  obtain ⟨i0, hi0, hz0, hz1, hz2⟩ := info_parts infoByte
  obtain ⟨B, rfl⟩ : ∃ B : UInt8, b = (B.toNat : Int) := ⟨UInt8.ofNat b.toNat, by simp; omega⟩
  have hmk : ∀ (W : World) (N : Nat), N ≤ 1000000 → (Instr.makeSlice 25 (.int .i64 (N : Int)) (.int .i64 (N : Int))).run Try.prog W = .ok (.slice (some ⟨W.heap.size, 0, none⟩) N N) (W.alloc (.cells (Zn N) 5)) := by
    intro W N hN
    have h := run_make (P := Try.prog) W 25 5 i0 _ Try.underlying25 hi0 hz0 .i64 .i64 N N (by omega) (by omega) (by rw [hz2]; omega) (by omega)
    simp only [Int.toNat_natCast] at h
    rw [h, hz1, ← Zn_made]
    rfl
  have HMK := Lib.hid hmk
  clear hmk hb
  go_enter Try.func6, Try.ntmps6
  go_wp2_with fail
  refine (known2_any _).mono ?_
  rintro _ w1 ⟨rfl, hb1⟩
  go_wp2_with fail
  refine (within2_any _ _ _ (by omega) (by omega)).mono ?_
  rintro _ w2 ⟨rfl, rfl⟩
  have h5 : 0 ≤ x % 5 ∧ x % 5 < 5 := ⟨Int.emod_nonneg _ (by decide), Int.emod_lt_of_pos _ (by decide)⟩
  obtain ⟨d, hd⟩ : ∃ d : Nat, x % 5 = d := ⟨(x % 5).toNat, by omega⟩
  rw [hd] at h5 ⊢
  obtain ⟨_, h5⟩ := h5
  clear hd
  obtain ⟨N, hN⟩ : ∃ N : Nat, N = 65533 + d := ⟨_, rfl⟩
  have hN' : (65533 : Int) + (d : Int) = (N : Int) := by omega
  have hN1 : 65533 ≤ N := by omega
  have hN2 : N ≤ 65537 := by omega
  clear hN h5
  have hmk := HMK.out w1 N (by omega)
  have hz := Zn_last N (by omega)
  have hset := Zn_set B N (by omega)
  have hpos : (1 : Int) ≤ (N : Int) := by omega
  have hlen := En_len B N (by omega)
  have hs1 := shows_cells w1 5 (0, 0) (En B N) (by rw [hlen]; omega)
  rw [hlen] at hs1
  have hb2 := hb1.alloc hb1.size (.cells (bc (En B N)).toArray 5)
  have hi : ((N : Int) - 1).toNat = N - 1 := by omega
  have HL := Lib.hid hlen
  clear hlen
  go_wp2_with fail
  have ez : (w1.alloc (.cells (bc (En B N)).toArray 5)).heap.size = w1.heap.size + 1 := by simp
  generalize w1.alloc (.cells (bc (En B N)).toArray 5) = w2 at hs1 hb2 ez ⊢
  rw [← ez] at hs1
  clear hmk hz hset hN' hi
  by_cases hc : 65535 < N
  · refine (seal_no _ N N w2 hc).mono ?_
    rintro _ w3 ⟨rfl, rfl⟩
    go_wp2
    go_ret
    exact ⟨rfl, hb2⟩
  · refine (seal_any _ N N _ w2 hs1 (by omega)).mono ?_
    rintro _ w3 ⟨A2, c2, rfl, hs3, hb3⟩
    have hb4 := step_below hb2 hb3
    obtain ⟨p0, p1, p2, p3⟩ := seal_at (En B N) N HL.out
    have p4 := seal_last B N (by omega)
    obtain ⟨g, o, rfl, _, hcl⟩ := hs3.cells (by omega)
    have c0 : w3.cell? ⟨g, o, none⟩ = some (.int .u8 ((N : Int) % 256)) := by
      have h := hcl 0 (by omega)
      rw [p2, p0, Nat.add_zero] at h
      exact h
    have c1 : w3.cell? ⟨g, o + 1, none⟩ = some (.int .u8 ((N : Int) / 256 % 256)) := by
      have h := hcl 1 (by omega)
      rw [p3, p1] at h
      exact h
    have c5 : w3.cell? ⟨g, o + (N + 5), none⟩ = some (.int .u8 (B.toNat : Int)) := by
      have h := hcl (6 + N - 1) (by omega)
      rw [p4, show 6 + N - 1 = N + 5 by omega] at h
      exact h
    have hk : (6 : Int) + (N : Int) = (N : Int) + 6 := by omega
    have q0 : ((((6 + N : Nat) : Int)) == (N : Int) + 6) = true := by simp; omega
    clear p0 p1 p2 p3 p4 hcl hs1 hs3 hb3
    go_wp2
    go_ret
    exact ⟨rfl, hb4⟩
end Go.Proofs.Ytdbjopjkkfjdaaa
