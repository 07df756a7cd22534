/- The walk of the law CrcBits: a sum hangs on each bit; turned back it is as it was. -/
import Derived.Test.YtdbjopjkkfjdaaaLaw2Base
import Derived.Deep.AppendLies
namespace Go.Proofs.Ytdbjopjkkfjdaaa
open Go.RowKit Wd Nm Cm

theorem u8_xor (a b : UInt8) : bits BinOp.xor IntKind.u8 (a.toNat : Int) (b.toNat : Int) = ((a ^^^ b).toNat : Int) := by
  have h : (a ^^^ b).toNat < 256 := (a ^^^ b).toNat_lt
  show IntKind.u8.wrap ((BitVec.ofInt 8 (a.toNat : Int) ^^^ BitVec.ofInt 8 (b.toNat : Int)).toNat : Int) = _
  rw [BitVec.ofInt_natCast, BitVec.ofInt_natCast, BitVec.toNat_xor, BitVec.toNat_ofNat, BitVec.toNat_ofNat, Nat.mod_eq_of_lt a.toNat_lt, Nat.mod_eq_of_lt b.toNat_lt]
  rw [UInt8.toNat_xor] at h ⊢
  rw [IntKind.wrap_u8]
  omega
theorem u8_bit (t : Nat) (h : t < 8) : ∃ M : UInt8, M ≠ 0 ∧ (1 : Int) * 2 ^ t = (M.toNat : Int) := by
  have : ∀ t, t < 8 → (1 : Int) * 2 ^ t = ((UInt8.ofNat (2 ^ t)).toNat : Int) ∧ UInt8.ofNat (2 ^ t) ≠ 0 := by decide
  exact ⟨_, (this t h).2, (this t h).1⟩
theorem xor_ne (a b : UInt8) (h : b ≠ 0) : a ^^^ b ≠ a := by
  intro e
  apply h
  have : a ^^^ (a ^^^ b) = a ^^^ a := by rw [e]
  rwa [← UInt8.xor_assoc, UInt8.xor_self, UInt8.zero_xor] at this
theorem xor_back (a b : UInt8) : (a ^^^ b) ^^^ b = a := by rw [UInt8.xor_assoc, UInt8.xor_self, UInt8.xor_zero]

theorem bc_set (l : List UInt8) (k : Nat) (y : UInt8) : (bc l).set k (.int .u8 (y.toNat : Int)) = bc (l.set k y) := by
  unfold bc
  rw [List.map_set]
/-- Sum of one row of the law's own. -/
theorem sum_own (base g n c : Nat) (l : List UInt8) (w : World) (hown : w.ownsRow base 5 1 (.slice (some ⟨g, 0, none⟩) n c) n (bc l)) (hn : n ≤ 1000000) :
    Calls Try.prog 13 #[.slice (some ⟨w.heap.size, 0, none⟩) 1 1] (w.alloc (.cells #[.slice (some ⟨g, 0, none⟩) n c] 25)) fun e w' => e = .returned (.int .u32 (tn (crc l))) ∧ w'.ownsRow base 5 1 (.slice (some ⟨g, 0, none⟩) n c) n (bc l) ∧ Below w.heap.size w w' := by
  refine (sum_one (some ⟨g, 0, none⟩) n c l w _ rfl (Shows.of_own hown) (by omega)).mono ?_
  rintro e w' ⟨rfl, rfl⟩
  exact ⟨rfl, hown.alloc _, (Below.refl _ _).alloc (Nat.le_refl _) _⟩
theorem tn_ne (a b : BitVec 32) (h : a ≠ b) : (tn a != tn b) = true := by
  have : tn a ≠ tn b := fun e => h (BitVec.eq_of_toNat_eq (by unfold tn at e; omega))
  simpa using this
theorem crc_set (l : List UInt8) (k : Nat) (hk : k < l.length) (y : UInt8) (h : y ≠ l[k]) : crc (l.set k y) ≠ crc l := by
  have e1 : l.set k y = l.take k ++ y :: l.drop (k + 1) := List.set_eq_take_append_cons_drop .. |>.trans (by rw [if_pos hk])
  have e2 : l = l.take k ++ l[k] :: l.drop (k + 1) := by
    rw [List.getElem_cons_drop, List.take_append_drop]
  intro he
  rw [e1] at he
  conv at he => rhs; rw [e2]
  exact crc_turn _ _ _ _ h he

set_option maxRecDepth 100000 in
set_option maxHeartbeats 1000000 in
theorem crcBits_walk (A : Option Addr) (n cap : Nat) (l : List UInt8) (at1 bt : Int) (w : World) (hs : Shows w w.heap.size A n cap l) (_h1 : (Lit.int .i64 at1).wf = true) (_h2 : (Lit.int .i64 bt).wf = true) :
    Calls Try.prog 7 #[.slice A n cap, .int .i64 at1, .int .i64 bt] w fun e w' => e = .returned (.bool true) ∧ Below w.heap.size w w' := by
  obtain ⟨i0, hi0, hz0, hz1, hz2⟩ := info_parts infoByte
  have HLEN := Lib.hid hs.len
  go_enter Try.func7, Try.ntmps7
  go_wp2_with fail
  refine (known2_any _).mono ?_
  rintro _ w1 ⟨rfl, hb1⟩
  have hs1 := (hs.below hb1).more hb1.size
  clear hs
  by_cases h0 : n = 0
  · subst h0
    go_wp2
    go_ret
    exact ⟨rfl, hb1⟩
  · have h0' : ((n : Int) == 0) = false := by simpa using h0
    by_cases h300 : 300 < n
    · go_wp2
      go_ret
      exact ⟨rfl, hb1⟩
    · have hown0 : (w1.alloc (.cells #[] 5)).ownsRow w.heap.size 5 1 (.slice (some ⟨w1.heap.size, 0, none⟩) 0 0) 0 (bc []) := World.ownsRow_made w1 #[] 0 hb1.size (Nat.zero_le _) rfl
      have hba0 : Below w1.heap.size w1 (w1.alloc (.cells #[] 5)) := (Below.refl _ _).alloc (Nat.le_refl _) _
      have hb1a := hb1.trans (hba0.mono hb1.size)
      have hsrc := (hs1.below hba0).src (P := Try.prog) Try.underlying25
      have hn0 : 0 < n := by omega
      clear h0
      go_wp2_with (at_builtin; refine wpList_ap _ rfl _ _ 25 25 rfl w.heap.size 5 i0 Try.underlying25 hi0 hz0 hz1 hz2 _ 0 0 [] rfl hown0 _ n l rfl hsrc ?c1 ?c2 ?_)
      case c1 => omega
      case c2 => exact hb1a.size
      intro A2 c2 w2 hown2 _ hg2 _
      have hb2 := hb1a.grown hg2 hb1a.size (by intro k hk; have := hb1.size; simp at hk; omega)
      clear hown0 hsrc hba0 hb1a hg2 hs1 hb1
      obtain ⟨g, c3, hf, hg1, hg2⟩ := hown2.form (by omega)
      injection hf with hf1 hf2 hf3
      subst hf1 hf3
      go_wp2_with fail
      refine (within2_any _ _ _ (by omega) (by omega)).mono ?_
      rintro _ _ ⟨rfl, rfl⟩
      go_wp2_with fail
      refine (within2_any _ _ _ (by omega) (by omega)).mono ?_
      rintro _ _ ⟨rfl, rfl⟩
      obtain ⟨k, hk⟩ : ∃ k : Nat, at1 % (n : Int) = k := ⟨(at1 % (n : Int)).toNat, by have := Int.emod_nonneg at1 (show (n : Int) ≠ 0 by omega); omega⟩
      have hkn : k < n := by have := Int.emod_lt_of_pos at1 (show (0 : Int) < n by omega); omega
      obtain ⟨t, ht⟩ : ∃ t : Nat, bt % 8 = t := ⟨(bt % 8).toNat, by omega⟩
      have ht8 : t < 8 := by omega
      rw [hk, ht]
      clear hk ht
      obtain ⟨M, hM, hMe⟩ := u8_bit t ht8
      have hkl : k < l.length := by have := HLEN.out; omega
      go_wp2_with fail
      refine (sum_own w.heap.size g n c2 l w2 hown2 (by omega)).mono ?_
      rintro _ w3 ⟨rfl, hown3, hb⟩
      have hb3 := hb2.trans (hb.mono hb2.size)
      clear hown2 hb2 hb
      have hc3 : w3.cell? ⟨g, k, none⟩ = some (.int .u8 (l[k].toNat : Int)) := by rw [hown3.cellAt k (by omega), bc_get l k hkl]
      have hf3 := hown3.frozenAt k
      have hx := u8_xor l[k] M
      have hMm : (M.toNat : Int) % 256 = M.toNat := by have := M.toNat_lt; omega
      have hy := xor_ne l[k] M hM
      have hyb := xor_back l[k] M
      generalize l[k] ^^^ M = y at hx hy hyb
      obtain ⟨hown4, hgr4⟩ := hown3.stored k (.int .u8 (y.toNat : Int))
      rw [bc_set] at hown4
      have HC4 := sum_own w.heap.size g n c2 (l.set k y) _ hown4 (by omega)
      have hb4 := hb3.grown hgr4 hb3.size (by intro q hq; injection hq with hq; omega)
      generalize hw4 : w3.setCell ⟨g, k, none⟩ (.int .u8 (y.toNat : Int)) = w4 at hown4 hgr4 HC4 hb4
      have ez : w4.heap.size = w3.heap.size := by rw [← hw4]; simp
      have HC := Lib.hid HC4
      have HW := Lib.hid hw4
      have HB := Lib.hid hb4
      have HE := Lib.hid ez
      have HYB := Lib.hid hyb
      have hne := tn_ne _ _ (crc_set l k hkl y hy)
      clear HC4 hown4 hgr4 hw4 hb3 hown3 hb4 ez hy hyb
      go_wp2_with fail
      rw [HW.out, ← HE.out]
      (with_reducible refine HC.out.mono ?_)
      rintro _ w5 ⟨rfl, hown5, hb⟩
      have hb5 := HB.out.trans (hb.mono HB.out.size)
      have hkl2 : k < (l.set k y).length := by rw [List.length_set]; exact hkl
      have hc5 : w5.cell? ⟨g, k, none⟩ = some (.int .u8 (y.toNat : Int)) := by
        rw [hown5.cellAt k (by omega), bc_get _ k hkl2, List.getElem_set_self]
      have hf5 := hown5.frozenAt k
      have hx5 := u8_xor y M
      rw [HYB.out] at hx5
      obtain ⟨hown6, hgr6⟩ := hown5.stored k (.int .u8 (l[k].toNat : Int))
      have hll : (l.set k y).set k l[k] = l := by rw [List.set_set, List.set_getElem_self]
      rw [bc_set, hll] at hown6
      have HC6 := sum_own w.heap.size g n c2 l _ hown6 (by omega)
      have hb6 := hb5.grown hgr6 hb5.size (by intro q hq; injection hq with hq; omega)
      generalize hw6 : w5.setCell ⟨g, k, none⟩ (.int .u8 (l[k].toNat : Int)) = w6 at hown6 hgr6 HC6 hb6
      have ez6 : w6.heap.size = w5.heap.size := by rw [← hw6]; simp
      have HW6 := Lib.hid hw6
      have HB6 := Lib.hid hb6
      have HE6 := Lib.hid ez6
      have HCC := Lib.hid HC6
      clear HC6 hown6 hgr6 hw6 hb5 hown5 hb6 ez6 hll hkl2 hb
      go_wp2_with fail
      rw [HW6.out, ← HE6.out]
      (with_reducible refine HCC.out.mono ?_)
      rintro _ w7 ⟨rfl, _, hb7⟩
      go_wp2
      go_ret
      exact ⟨rfl, HB6.out.trans (hb7.mono HB6.out.size)⟩
end Go.Proofs.Ytdbjopjkkfjdaaa
