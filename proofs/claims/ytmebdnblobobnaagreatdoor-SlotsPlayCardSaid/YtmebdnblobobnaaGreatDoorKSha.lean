/- Merged: Contracts for a word turned to the right: package sha's right (over bits.RotateLeft32) and the reference's rot. Contract for package sha's big: a number's lowest bytes, the highest first. Contract for package sha's spread: a block's 64 words. Contract for package sha's mix: the rounds over the words, added to the state. Contract for package sha's fold: the full block is worked into the state. Contract for package sha's take: a part is worked in. Contract for package sha's end: the last block is filled, the state answered as bytes. Contract for package sha's Sum: it is SHA-256 of all parts, one behind the other; nothing that was there turns. -/
import Derived.Test.YtmebdnblobobnaaGreatDoorProg
import Derived.Test.YtmebdnblobobnaaGreatDoorKBase
import Derived.IntWalk
import Derived.Test.YtmebdnblobobnaaGreatDoorKMem
import Derived.StillTailTactics
import Derived.Deep.QuietTactic
import Derived.BigQuiet
import Derived.Deep.DeepCutAuto
import Derived.Deep.CutRange
import Derived.Deep.CutBlock
import Derived.Deep.RegionHeld3
import Derived.Deep.RegionHeld
import Derived.Deep.WholeRow
namespace Go.Proofs.YtmebdnblobobnaaGreatDoor
set_option maxRecDepth 100000
open Go.RowKit _root_.Go.Proofs.YtmebdnblobobnaaGreatDoor.Wd _root_.Go.Proofs.YtmebdnblobobnaaGreatDoor.Cm Sm

theorem ror_back (x : BitVec 32) (n m : Nat) (h : m + n = 32) : bits BinOp.or IntKind.u32 (tn x * 2 ^ m % 4294967296) (tn x / 2 ^ n) = tn (ror x n) := by
  rw [u32_shl, u32_shr, u32_or]
  unfold ror
  rw [BitVec.or_comm, show 32 - n = m by omega]
theorem ror_forth (x : BitVec 32) (n m : Nat) (h : m + n = 32) : bits BinOp.or IntKind.u32 (tn x / 2 ^ n) (tn x * 2 ^ m % 4294967296) = tn (ror x n) := by
  rw [u32_shl, u32_shr, u32_or]
  unfold ror
  rw [show 32 - n = m by omega]
theorem left_count (n m : Nat) (h0 : 0 < n) (h : m + n = 32) : bits BinOp.and IntKind.u64 (IntKind.u64.wrap (-(n : Int))) 31 = (m : Int) := by
  have hall : ∀ k : Nat, k < 33 → 0 < k → bits BinOp.and IntKind.u64 (IntKind.u64.wrap (-(k : Int))) 31 = ((32 - k : Nat) : Int) := by decide +kernel
  rw [hall n (by omega) h0, show 32 - n = m by omega]

theorem left_any (x : BitVec 32) (n : Nat) (h0 : 0 < n) (h1 : n < 32) (w : World) :
    Calls Tryz.prog 124 #[.int .u32 (tn x), .int .i64 (-(n : Int))] w fun e w' => e = .returned (.int .u32 (tn (ror x n))) ∧ w = w' := by
  obtain ⟨m, hm⟩ : ∃ m, m + n = 32 := ⟨32 - n, by omega⟩
  have hc := left_count n m h0 hm
  have h32 : (32 : Int) - (m : Int) = (n : Int) := by omega
  have h33 : IntKind.u64.wrap (n : Int) = (n : Int) := by rw [IntKind.wrap_u64]; omega
  have hr := Lib.hid (ror_back x n m hm)
  go_enter Tryz.func124, Tryz.ntmps124
  go_wp2
  go_ret
  exact ⟨by rw [← hr.out]; rfl, rfl⟩
theorem right_any (x : BitVec 32) (n : Nat) (h0 : 0 < n) (h1 : n < 32) (w : World) :
    Calls Tryz.prog 123 #[.int .u32 (tn x), .int .i64 (n : Int)] w fun e w' => e = .returned (.int .u32 (tn (ror x n))) ∧ w = w' := by
  have hw : wrap64 (-(n : Int)) = -(n : Int) := by unfold wrap64; omega
  go_enter Tryz.func123, Tryz.ntmps123
  go_wp2_with fail
  refine (left_any x n h0 h1 _).mono ?_
  rintro _ w1 ⟨rfl, rfl⟩
  go_wp2
  go_ret
  exact ⟨rfl, rfl⟩
theorem rot_any (x : BitVec 32) (n : Nat) (h0 : 0 < n) (h1 : n < 32) (w : World) :
    Calls Tryz.prog 35 #[.int .u32 (tn x), .int .u64 (n : Int)] w fun e w' => e = .returned (.int .u32 (tn (ror x n))) ∧ w = w' := by
  obtain ⟨m, hm⟩ : ∃ m, m + n = 32 := ⟨32 - n, by omega⟩
  have h32 : (32 : Int) - (n : Int) = (m : Int) := by omega
  have h33 : IntKind.u64.wrap (m : Int) = (m : Int) := by rw [IntKind.wrap_u64]; omega
  have hr := Lib.hid (ror_forth x n m hm)
  go_enter Tryz.func35, Tryz.ntmps35
  go_wp2
  go_ret
  exact ⟨by rw [← hr.out]; rfl, rfl⟩
theorem right_at (x : BitVec 32) (z : Int) (n : Nat) (hz : z = n) (h0 : 0 < n) (h1 : n < 32) (w : World) :
    Calls Tryz.prog 123 #[.int .u32 (tn x), .int .i64 z] w fun e w' => e = .returned (.int .u32 (tn (ror x n))) ∧ w = w' := by
  subst hz
  exact right_any x n h0 h1 w
theorem right_q (x : BitVec 32) (z : Int) (n : Nat) (hz : z = n) (h0 : 0 < n) (h1 : n < 32) (w : World) (q : Nat) :
    Calls Tryz.prog 123 #[.int .u32 (tn x), .int .i64 z] (w.drewN q) fun e w'' => e = .returned (.int .u32 (tn (ror x n))) ∧ ∃ m, w'' = w.drewN m :=
  (right_at x z n hz h0 h1 _).mono fun _ _ h => ⟨h.1, q, h.2.symm⟩
theorem right_2 (x : BitVec 32) (w : World) : Calls Tryz.prog 123 #[.int .u32 (tn x), .int .i64 2] w fun e w' => e = .returned (.int .u32 (tn (ror x 2))) ∧ w = w' := right_at x 2 2 rfl (by decide) (by decide) w
theorem rightq_2 (x : BitVec 32) (w : World) (q : Nat) : Calls Tryz.prog 123 #[.int .u32 (tn x), .int .i64 2] (w.drewN q) fun e w'' => e = .returned (.int .u32 (tn (ror x 2))) ∧ ∃ m, w'' = w.drewN m := right_q x 2 2 rfl (by decide) (by decide) w q
theorem right_3 (x : BitVec 32) (w : World) : Calls Tryz.prog 123 #[.int .u32 (tn x), .int .i64 3] w fun e w' => e = .returned (.int .u32 (tn (ror x 3))) ∧ w = w' := right_at x 3 3 rfl (by decide) (by decide) w
theorem rightq_3 (x : BitVec 32) (w : World) (q : Nat) : Calls Tryz.prog 123 #[.int .u32 (tn x), .int .i64 3] (w.drewN q) fun e w'' => e = .returned (.int .u32 (tn (ror x 3))) ∧ ∃ m, w'' = w.drewN m := right_q x 3 3 rfl (by decide) (by decide) w q
theorem right_6 (x : BitVec 32) (w : World) : Calls Tryz.prog 123 #[.int .u32 (tn x), .int .i64 6] w fun e w' => e = .returned (.int .u32 (tn (ror x 6))) ∧ w = w' := right_at x 6 6 rfl (by decide) (by decide) w
theorem rightq_6 (x : BitVec 32) (w : World) (q : Nat) : Calls Tryz.prog 123 #[.int .u32 (tn x), .int .i64 6] (w.drewN q) fun e w'' => e = .returned (.int .u32 (tn (ror x 6))) ∧ ∃ m, w'' = w.drewN m := right_q x 6 6 rfl (by decide) (by decide) w q
theorem right_7 (x : BitVec 32) (w : World) : Calls Tryz.prog 123 #[.int .u32 (tn x), .int .i64 7] w fun e w' => e = .returned (.int .u32 (tn (ror x 7))) ∧ w = w' := right_at x 7 7 rfl (by decide) (by decide) w
theorem rightq_7 (x : BitVec 32) (w : World) (q : Nat) : Calls Tryz.prog 123 #[.int .u32 (tn x), .int .i64 7] (w.drewN q) fun e w'' => e = .returned (.int .u32 (tn (ror x 7))) ∧ ∃ m, w'' = w.drewN m := right_q x 7 7 rfl (by decide) (by decide) w q
theorem right_10 (x : BitVec 32) (w : World) : Calls Tryz.prog 123 #[.int .u32 (tn x), .int .i64 10] w fun e w' => e = .returned (.int .u32 (tn (ror x 10))) ∧ w = w' := right_at x 10 10 rfl (by decide) (by decide) w
theorem rightq_10 (x : BitVec 32) (w : World) (q : Nat) : Calls Tryz.prog 123 #[.int .u32 (tn x), .int .i64 10] (w.drewN q) fun e w'' => e = .returned (.int .u32 (tn (ror x 10))) ∧ ∃ m, w'' = w.drewN m := right_q x 10 10 rfl (by decide) (by decide) w q
theorem right_11 (x : BitVec 32) (w : World) : Calls Tryz.prog 123 #[.int .u32 (tn x), .int .i64 11] w fun e w' => e = .returned (.int .u32 (tn (ror x 11))) ∧ w = w' := right_at x 11 11 rfl (by decide) (by decide) w
theorem rightq_11 (x : BitVec 32) (w : World) (q : Nat) : Calls Tryz.prog 123 #[.int .u32 (tn x), .int .i64 11] (w.drewN q) fun e w'' => e = .returned (.int .u32 (tn (ror x 11))) ∧ ∃ m, w'' = w.drewN m := right_q x 11 11 rfl (by decide) (by decide) w q
theorem right_13 (x : BitVec 32) (w : World) : Calls Tryz.prog 123 #[.int .u32 (tn x), .int .i64 13] w fun e w' => e = .returned (.int .u32 (tn (ror x 13))) ∧ w = w' := right_at x 13 13 rfl (by decide) (by decide) w
theorem rightq_13 (x : BitVec 32) (w : World) (q : Nat) : Calls Tryz.prog 123 #[.int .u32 (tn x), .int .i64 13] (w.drewN q) fun e w'' => e = .returned (.int .u32 (tn (ror x 13))) ∧ ∃ m, w'' = w.drewN m := right_q x 13 13 rfl (by decide) (by decide) w q
theorem right_17 (x : BitVec 32) (w : World) : Calls Tryz.prog 123 #[.int .u32 (tn x), .int .i64 17] w fun e w' => e = .returned (.int .u32 (tn (ror x 17))) ∧ w = w' := right_at x 17 17 rfl (by decide) (by decide) w
theorem rightq_17 (x : BitVec 32) (w : World) (q : Nat) : Calls Tryz.prog 123 #[.int .u32 (tn x), .int .i64 17] (w.drewN q) fun e w'' => e = .returned (.int .u32 (tn (ror x 17))) ∧ ∃ m, w'' = w.drewN m := right_q x 17 17 rfl (by decide) (by decide) w q
theorem right_18 (x : BitVec 32) (w : World) : Calls Tryz.prog 123 #[.int .u32 (tn x), .int .i64 18] w fun e w' => e = .returned (.int .u32 (tn (ror x 18))) ∧ w = w' := right_at x 18 18 rfl (by decide) (by decide) w
theorem rightq_18 (x : BitVec 32) (w : World) (q : Nat) : Calls Tryz.prog 123 #[.int .u32 (tn x), .int .i64 18] (w.drewN q) fun e w'' => e = .returned (.int .u32 (tn (ror x 18))) ∧ ∃ m, w'' = w.drewN m := right_q x 18 18 rfl (by decide) (by decide) w q
theorem right_19 (x : BitVec 32) (w : World) : Calls Tryz.prog 123 #[.int .u32 (tn x), .int .i64 19] w fun e w' => e = .returned (.int .u32 (tn (ror x 19))) ∧ w = w' := right_at x 19 19 rfl (by decide) (by decide) w
theorem rightq_19 (x : BitVec 32) (w : World) (q : Nat) : Calls Tryz.prog 123 #[.int .u32 (tn x), .int .i64 19] (w.drewN q) fun e w'' => e = .returned (.int .u32 (tn (ror x 19))) ∧ ∃ m, w'' = w.drewN m := right_q x 19 19 rfl (by decide) (by decide) w q
theorem right_22 (x : BitVec 32) (w : World) : Calls Tryz.prog 123 #[.int .u32 (tn x), .int .i64 22] w fun e w' => e = .returned (.int .u32 (tn (ror x 22))) ∧ w = w' := right_at x 22 22 rfl (by decide) (by decide) w
theorem rightq_22 (x : BitVec 32) (w : World) (q : Nat) : Calls Tryz.prog 123 #[.int .u32 (tn x), .int .i64 22] (w.drewN q) fun e w'' => e = .returned (.int .u32 (tn (ror x 22))) ∧ ∃ m, w'' = w.drewN m := right_q x 22 22 rfl (by decide) (by decide) w q
theorem right_25 (x : BitVec 32) (w : World) : Calls Tryz.prog 123 #[.int .u32 (tn x), .int .i64 25] w fun e w' => e = .returned (.int .u32 (tn (ror x 25))) ∧ w = w' := right_at x 25 25 rfl (by decide) (by decide) w
theorem rightq_25 (x : BitVec 32) (w : World) (q : Nat) : Calls Tryz.prog 123 #[.int .u32 (tn x), .int .i64 25] (w.drewN q) fun e w'' => e = .returned (.int .u32 (tn (ror x 25))) ∧ ∃ m, w'' = w.drewN m := right_q x 25 25 rfl (by decide) (by decide) w q
theorem rot_at (x : BitVec 32) (z : Int) (n : Nat) (hz : z = n) (h0 : 0 < n) (h1 : n < 32) (w : World) :
    Calls Tryz.prog 35 #[.int .u32 (tn x), .int .u64 z] w fun e w' => e = .returned (.int .u32 (tn (ror x n))) ∧ w = w' := by
  subst hz
  exact rot_any x n h0 h1 w
theorem rot_q (x : BitVec 32) (z : Int) (n : Nat) (hz : z = n) (h0 : 0 < n) (h1 : n < 32) (w : World) (q : Nat) :
    Calls Tryz.prog 35 #[.int .u32 (tn x), .int .u64 z] (w.drewN q) fun e w'' => e = .returned (.int .u32 (tn (ror x n))) ∧ ∃ m, w'' = w.drewN m :=
  (rot_at x z n hz h0 h1 _).mono fun _ _ h => ⟨h.1, q, h.2.symm⟩
theorem rot_2 (x : BitVec 32) (w : World) : Calls Tryz.prog 35 #[.int .u32 (tn x), .int .u64 2] w fun e w' => e = .returned (.int .u32 (tn (ror x 2))) ∧ w = w' := rot_at x 2 2 rfl (by decide) (by decide) w
theorem rotq_2 (x : BitVec 32) (w : World) (q : Nat) : Calls Tryz.prog 35 #[.int .u32 (tn x), .int .u64 2] (w.drewN q) fun e w'' => e = .returned (.int .u32 (tn (ror x 2))) ∧ ∃ m, w'' = w.drewN m := rot_q x 2 2 rfl (by decide) (by decide) w q
theorem rot_3 (x : BitVec 32) (w : World) : Calls Tryz.prog 35 #[.int .u32 (tn x), .int .u64 3] w fun e w' => e = .returned (.int .u32 (tn (ror x 3))) ∧ w = w' := rot_at x 3 3 rfl (by decide) (by decide) w
theorem rotq_3 (x : BitVec 32) (w : World) (q : Nat) : Calls Tryz.prog 35 #[.int .u32 (tn x), .int .u64 3] (w.drewN q) fun e w'' => e = .returned (.int .u32 (tn (ror x 3))) ∧ ∃ m, w'' = w.drewN m := rot_q x 3 3 rfl (by decide) (by decide) w q
theorem rot_6 (x : BitVec 32) (w : World) : Calls Tryz.prog 35 #[.int .u32 (tn x), .int .u64 6] w fun e w' => e = .returned (.int .u32 (tn (ror x 6))) ∧ w = w' := rot_at x 6 6 rfl (by decide) (by decide) w
theorem rotq_6 (x : BitVec 32) (w : World) (q : Nat) : Calls Tryz.prog 35 #[.int .u32 (tn x), .int .u64 6] (w.drewN q) fun e w'' => e = .returned (.int .u32 (tn (ror x 6))) ∧ ∃ m, w'' = w.drewN m := rot_q x 6 6 rfl (by decide) (by decide) w q
theorem rot_7 (x : BitVec 32) (w : World) : Calls Tryz.prog 35 #[.int .u32 (tn x), .int .u64 7] w fun e w' => e = .returned (.int .u32 (tn (ror x 7))) ∧ w = w' := rot_at x 7 7 rfl (by decide) (by decide) w
theorem rotq_7 (x : BitVec 32) (w : World) (q : Nat) : Calls Tryz.prog 35 #[.int .u32 (tn x), .int .u64 7] (w.drewN q) fun e w'' => e = .returned (.int .u32 (tn (ror x 7))) ∧ ∃ m, w'' = w.drewN m := rot_q x 7 7 rfl (by decide) (by decide) w q
theorem rot_10 (x : BitVec 32) (w : World) : Calls Tryz.prog 35 #[.int .u32 (tn x), .int .u64 10] w fun e w' => e = .returned (.int .u32 (tn (ror x 10))) ∧ w = w' := rot_at x 10 10 rfl (by decide) (by decide) w
theorem rotq_10 (x : BitVec 32) (w : World) (q : Nat) : Calls Tryz.prog 35 #[.int .u32 (tn x), .int .u64 10] (w.drewN q) fun e w'' => e = .returned (.int .u32 (tn (ror x 10))) ∧ ∃ m, w'' = w.drewN m := rot_q x 10 10 rfl (by decide) (by decide) w q
theorem rot_11 (x : BitVec 32) (w : World) : Calls Tryz.prog 35 #[.int .u32 (tn x), .int .u64 11] w fun e w' => e = .returned (.int .u32 (tn (ror x 11))) ∧ w = w' := rot_at x 11 11 rfl (by decide) (by decide) w
theorem rotq_11 (x : BitVec 32) (w : World) (q : Nat) : Calls Tryz.prog 35 #[.int .u32 (tn x), .int .u64 11] (w.drewN q) fun e w'' => e = .returned (.int .u32 (tn (ror x 11))) ∧ ∃ m, w'' = w.drewN m := rot_q x 11 11 rfl (by decide) (by decide) w q
theorem rot_13 (x : BitVec 32) (w : World) : Calls Tryz.prog 35 #[.int .u32 (tn x), .int .u64 13] w fun e w' => e = .returned (.int .u32 (tn (ror x 13))) ∧ w = w' := rot_at x 13 13 rfl (by decide) (by decide) w
theorem rotq_13 (x : BitVec 32) (w : World) (q : Nat) : Calls Tryz.prog 35 #[.int .u32 (tn x), .int .u64 13] (w.drewN q) fun e w'' => e = .returned (.int .u32 (tn (ror x 13))) ∧ ∃ m, w'' = w.drewN m := rot_q x 13 13 rfl (by decide) (by decide) w q
theorem rot_17 (x : BitVec 32) (w : World) : Calls Tryz.prog 35 #[.int .u32 (tn x), .int .u64 17] w fun e w' => e = .returned (.int .u32 (tn (ror x 17))) ∧ w = w' := rot_at x 17 17 rfl (by decide) (by decide) w
theorem rotq_17 (x : BitVec 32) (w : World) (q : Nat) : Calls Tryz.prog 35 #[.int .u32 (tn x), .int .u64 17] (w.drewN q) fun e w'' => e = .returned (.int .u32 (tn (ror x 17))) ∧ ∃ m, w'' = w.drewN m := rot_q x 17 17 rfl (by decide) (by decide) w q
theorem rot_18 (x : BitVec 32) (w : World) : Calls Tryz.prog 35 #[.int .u32 (tn x), .int .u64 18] w fun e w' => e = .returned (.int .u32 (tn (ror x 18))) ∧ w = w' := rot_at x 18 18 rfl (by decide) (by decide) w
theorem rotq_18 (x : BitVec 32) (w : World) (q : Nat) : Calls Tryz.prog 35 #[.int .u32 (tn x), .int .u64 18] (w.drewN q) fun e w'' => e = .returned (.int .u32 (tn (ror x 18))) ∧ ∃ m, w'' = w.drewN m := rot_q x 18 18 rfl (by decide) (by decide) w q
theorem rot_19 (x : BitVec 32) (w : World) : Calls Tryz.prog 35 #[.int .u32 (tn x), .int .u64 19] w fun e w' => e = .returned (.int .u32 (tn (ror x 19))) ∧ w = w' := rot_at x 19 19 rfl (by decide) (by decide) w
theorem rotq_19 (x : BitVec 32) (w : World) (q : Nat) : Calls Tryz.prog 35 #[.int .u32 (tn x), .int .u64 19] (w.drewN q) fun e w'' => e = .returned (.int .u32 (tn (ror x 19))) ∧ ∃ m, w'' = w.drewN m := rot_q x 19 19 rfl (by decide) (by decide) w q
theorem rot_22 (x : BitVec 32) (w : World) : Calls Tryz.prog 35 #[.int .u32 (tn x), .int .u64 22] w fun e w' => e = .returned (.int .u32 (tn (ror x 22))) ∧ w = w' := rot_at x 22 22 rfl (by decide) (by decide) w
theorem rotq_22 (x : BitVec 32) (w : World) (q : Nat) : Calls Tryz.prog 35 #[.int .u32 (tn x), .int .u64 22] (w.drewN q) fun e w'' => e = .returned (.int .u32 (tn (ror x 22))) ∧ ∃ m, w'' = w.drewN m := rot_q x 22 22 rfl (by decide) (by decide) w q
theorem rot_25 (x : BitVec 32) (w : World) : Calls Tryz.prog 35 #[.int .u32 (tn x), .int .u64 25] w fun e w' => e = .returned (.int .u32 (tn (ror x 25))) ∧ w = w' := rot_at x 25 25 rfl (by decide) (by decide) w
theorem rotq_25 (x : BitVec 32) (w : World) (q : Nat) : Calls Tryz.prog 35 #[.int .u32 (tn x), .int .u64 25] (w.drewN q) fun e w'' => e = .returned (.int .u32 (tn (ror x 25))) ∧ ∃ m, w'' = w.drewN m := rot_q x 25 25 rfl (by decide) (by decide) w q
end Go.Proofs.YtmebdnblobobnaaGreatDoor

namespace Go.Proofs.YtmebdnblobobnaaGreatDoor
set_option maxRecDepth 100000
open Go.RowKit _root_.Go.Proofs.YtmebdnblobobnaaGreatDoor.Wd _root_.Go.Proofs.YtmebdnblobobnaaGreatDoor.Nm _root_.Go.Proofs.YtmebdnblobobnaaGreatDoor.Cm Sm

theorem Cz_beb (n : Int) (k : Nat) : (Cz (fun i => n / 2 ^ (8 * (k - 1 - i)) % 256) k k) = (bc (beb n k)).toArray := by
  apply Array.ext'
  simp only [Cz, Nat.sub_self, List.replicate_zero, List.append_nil, bc, beb, List.map_map]
  apply List.map_congr_left
  intro i _
  simp [lb_nat]

set_option maxHeartbeats 400000 in
theorem big_any (n : Int) (k : Nat) (hk : k ≤ 8) (w : World) :
    Calls Tryz.prog 115 #[.int .u64 n, .int .i64 k] w fun e w' => e = .returned (.slice (some ⟨w.heap.size, 0, none⟩) k k) ∧ w.alloc (.cells (bc (beb n k)).toArray 5) = w' := by
  rw [← Cz_beb]
  obtain ⟨i0, hi0, hz0, hz1, hz2⟩ := info_parts infoByte
  have hmk : ∀ W : World, (Instr.makeSlice 29 (.int .i64 (k : Int)) (.int .i64 (k : Int))).run Tryz.prog W = .ok (.slice (some ⟨W.heap.size, 0, none⟩) k k) (W.alloc (.cells (Cz (fun i => n / 2 ^ (8 * (k - 1 - i)) % 256) 0 k) 5)) := by
    intro W
    have h := run_make (P := Tryz.prog) W 29 5 i0 _ Tryz.underlying29 hi0 hz0 .i64 .i64 k k (by omega) (by omega) (by rw [hz2]; omega) (by omega)
    simp only [Int.toNat_natCast] at h
    rw [h, hz1, Cz_zero]
    rfl
  go_enter Tryz.func115, Tryz.ntmps115
  go_wp2
  go_loopw [6, 11] (fun _ i wr => ∃ j : Nat, j ≤ k ∧ i = .int .i64 j ∧ wr = w.alloc (.cells (Cz (fun i => n / 2 ^ (8 * (k - 1 - i)) % 256) j k) 5)) (fun _ i _ => k - (intOf i).toNat)
  case atStart => exact ⟨0, Nat.zero_le _, rfl, rfl⟩
  case round =>
    obtain ⟨j, hj, rfl, rfl⟩ := hrel
    by_cases hlt : j < k
    · have hc := Cz_next (fun i => n / 2 ^ (8 * (k - 1 - i)) % 256) j k hlt
      have hs := Cz_step (fun i => n / 2 ^ (8 * (k - 1 - i)) % 256) j k hlt
      obtain ⟨m, hm⟩ : ∃ m, k - 1 - j = m := ⟨_, rfl⟩
      have h1 : (k : Int) - 1 - (j : Int) = (m : Int) := by omega
      obtain ⟨t, ht⟩ : ∃ t, 8 * m = t := ⟨_, rfl⟩
      have h2 : (8 : Int) * (m : Int) = (t : Int) := by omega
      simp only [hm, ht] at hs
      clear hmk hm ht
      go_wp2
      go_roundw
      case rel => exact ⟨j + 1, by omega, by go_num, rfl⟩
      case measure => simp [intOf]; omega
    · obtain rfl : j = k := by omega
      clear hmk
      go_wp2
      go_ret
      exact ⟨rfl, rfl⟩
end Go.Proofs.YtmebdnblobobnaaGreatDoor

namespace Go.Proofs.YtmebdnblobobnaaGreatDoor
set_option maxRecDepth 100000
open Go.RowKit _root_.Go.Proofs.YtmebdnblobobnaaGreatDoor.Wd _root_.Go.Proofs.YtmebdnblobobnaaGreatDoor.Nm _root_.Go.Proofs.YtmebdnblobobnaaGreatDoor.Cm Sm

/-- The words so far, noughts behind them. -/
def wz (l : List (BitVec 32)) : List (BitVec 32) := l ++ List.replicate (64 - l.length) 0
theorem wz_len (l : List (BitVec 32)) (h : l.length ≤ 64) : (wz l).length = 64 := by simp [wz]; omega
theorem wz_set (l : List (BitVec 32)) (c : BitVec 32) (h : l.length < 64) : (wz l).set l.length c = wz (l ++ [c]) := by
  unfold wz
  rw [List.set_append_right _ _ (Nat.le_refl _), Nat.sub_self, show 64 - l.length = (64 - (l ++ [c]).length) + 1 by simp; omega, List.replicate_succ]
  simp
theorem wz_put (l : List (BitVec 32)) (x c : BitVec 32) : (wz (l ++ [x])).set l.length c = wz (l ++ [c]) := by
  simp [wz]
theorem wz_at (l : List (BitVec 32)) (j : Nat) (h : j < l.length) : (wz l).getD j 0 = l.getD j 0 := by
  simp [wz, List.getD, List.getElem?_append_left h]
theorem wz_last (l : List (BitVec 32)) (c : BitVec 32) : (wz (l ++ [c])).getD l.length 0 = c := by simp [wz, List.getD]
theorem wz_full (l : List (BitVec 32)) (h : l.length = 64) : wz l = l := by simp [wz, h]
theorem wz_end (l : List (BitVec 32)) : wz (l ++ [0]) = wz l ∨ 64 ≤ l.length := by
  by_cases h : l.length < 64
  · left
    unfold wz
    rw [show 64 - l.length = (64 - (l ++ [(0 : BitVec 32)]).length) + 1 by simp; omega, List.replicate_succ]
    simp
  · right; omega
theorem word_next (c : BitVec 32) (x : UInt8) : bits BinOp.or IntKind.u32 (tn c * 256 % 4294967296) ((x.toNat : Int) % 4294967296) = tn ((c <<< 8) ||| wide x) := by
  have h := u32_shl c 8
  have h2 : (x.toNat : Int) % 4294967296 = tn (wide x) := by rw [tn_wide]; have := x.toNat_lt; omega
  rw [h2, show (256 : Int) = 2 ^ 8 by rfl, h, u32_or]
/-- A new array of noughts. -/
theorem Row.zero (w : World) (T : TypeId) (cs : Array Value) (h : cs = (wc (wz [])).toArray) : Row (w.alloc (.cells cs T)) w.heap.size T (wc (wz [])) := by
  subst h
  exact Row.new w T _
theorem range_lt {w : World} {g o : Nat} {bl : List UInt8} (hl : 0 < bl.length) (hr : w.rangeAt g o (bc bl)) : g < w.heap.size :=
  block_lt_of_cell (hr 0 _ (bc_get bl 0 hl))
theorem range_at {w : World} {g o : Nat} {bl : List UInt8} (hr : w.rangeAt g o (bc bl)) (j : Nat) (hj : j < bl.length) : w.cell? ⟨g, o + j, none⟩ = some (.int .u8 ((bl.getD j 0).toNat : Int)) := by
  rw [hr j _ (bc_get bl j hj), List.getD, List.getElem?_eq_getElem hj]
  rfl
theorem range_below {w w' : World} {B g o : Nat} {cs : List Value} (hr : w.rangeAt g o cs) (hb : Below B w w') (hg : g < B) : w'.rangeAt g o cs := fun j v hv => (hb.cell (p := ⟨g, o + j, none⟩) hg).trans (hr j v hv)

/-- Cuts of a block. -/
theorem block_cut (W : World) (g o l h : Nat) (x y : Int) (hx : x = l) (hy : y = h) (h1 : l ≤ h) (h2 : h ≤ 64) (h3 : l < 64) :
    (Instr.sliceAt 136 (.pointer (some ⟨g, o, none⟩)) (some (.int .i64 x)) (some (.int .i64 y)) none).run Tryz.prog W = .ok (.slice (some ⟨g, o + l, none⟩) (h - l) (64 - l)) W := by
  subst hx hy
  have hL : Tryz.prog.arrayLen 136 = 64 := by kernel_rfl
  have hE : Tryz.prog.elem 136 = 5 := by kernel_rfl
  obtain ⟨i0, hi0, hz0, hz1, hz2⟩ := info_parts infoByte
  rw [run_sliceAt_array_lh W _ _ (by rw [hL, hE]; exact Tryz.underlying136) .i64 .i64 l h (by omega) (by omega) (by rw [hL]; omega), hL, hE]
  simp [sizeOf, typeInfo, hi0, hz1, Result.andThen, slicedAt, Addr.add_mid]
  omega

set_option maxHeartbeats 1000000 in
theorem spread_any (g o : Nat) (bl : List UInt8) (w : World) (hl : bl.length = 64) (hr : w.rangeAt g o (bc bl)) :
    Calls Tryz.prog 120 #[.pointer (some ⟨g, o, none⟩)] w fun e w' => e = .returned (.agg (wc (sched bl 64)).toArray) ∧ Below w.heap.size w w' := by
  obtain ⟨N, hN⟩ : ∃ N, 64 = N := ⟨_, rfl⟩
  obtain ⟨S, hS⟩ : ∃ S, sched bl N = S := ⟨_, rfl⟩
  have hSl : S.length = 64 := by rw [← hS, sched_len, hN]
  rw [show sched bl 64 = sched bl N by rw [hN], hS]
  have HS := Lib.hid hS
  have HSL := Lib.hid hSl
  have HN := Lib.hid hN
  clear hS hSl hN
  go_enter Tryz.func120, Tryz.ntmps120
  go_wp2
  have hg := range_lt (by omega) hr
  go_loopw [4, 6, 10] (fun _ _ i wr => ∃ m : Nat, m ≤ 16 ∧ i = .int .i64 m ∧ Row wr (w.heap.size + 1) 137 (wc (wz (sched bl m))) ∧ Row wr w.heap.size 137 (wc (wz [])) ∧ Below w.heap.size w wr) (fun _ _ i _ => 16 - (intOf i).toNat)
  case atStart =>
    refine ⟨0, Nat.zero_le _, rfl, ?_, ?_, ?_⟩
    · have h := Row.zero (w.alloc (.cells (wc (wz [])).toArray 137)) 137 (wc (wz [])).toArray rfl
      rw [show (w.alloc (.cells (wc (wz [])).toArray 137)).heap.size = w.heap.size + 1 by simp] at h
      exact h
    · exact (Row.zero w 137 (wc (wz [])).toArray rfl).alloc _
    · exact below_new (below_new (Below.refl _ _) _) _
  case round =>
    obtain ⟨m, hm, rfl, h1, h0, hb⟩ := hrel
    by_cases hm16 : m < 16
    · obtain ⟨c, hc⟩ : ∃ c, 64 - 4 * m = c := ⟨_, rfl⟩
      have hsl : ∀ W : World, (Instr.sliceAt 136 (.pointer (some ⟨g, o, none⟩)) (some (.int .i64 (4 * (m : Int)))) (some (.int .i64 (4 * ((m : Int) + 1)))) none).run Tryz.prog W = .ok (.slice (some ⟨g, o + 4 * m, none⟩) 4 c) W := by
        intro W
        have h := block_cut W g o (4 * m) (4 * m + 4) (4 * (m : Int)) (4 * ((m : Int) + 1)) (by omega) (by omega) (by omega) (by omega) (by omega)
        rw [h, hc, show 4 * m + 4 - 4 * m = 4 by omega]
      have HS := Lib.hid (show sched bl (m + 1) = sched bl m ++ [wpart bl m 4] by rw [sched, if_pos hm16])
      go_wp2
      go_loopw [6, 22] (fun _ k wr => ∃ j : Nat, j ≤ 4 ∧ k = .int .i64 j ∧ Row wr (w.heap.size + 1) 137 (wc (wz (sched bl m ++ [wpart bl m j]))) ∧ Row wr w.heap.size 137 (wc (wz [])) ∧ Below w.heap.size w wr) (fun _ k _ => 4 - (intOf k).toNat)
      case atStart => exact ⟨0, by omega, rfl, by rw [show wpart bl m 0 = 0 from rfl, (wz_end (sched bl m)).resolve_right (by rw [sched_len]; omega)]; exact h1, h0, hb⟩
      case round =>
        clear h1 h0 hb hsl
        obtain ⟨j, hj, rfl, h1, h0, hb⟩ := hrel
        by_cases hj4 : j < 4
        · have hx := range_at (range_below hr hb hg) (4 * m + j) (by omega)
          have hc1 := h1.cell (wc_get _ m (by rw [wz_len _ (by simp [sched_len]; omega)]; omega))
          have hla := wz_last (sched bl m) (wpart bl m j)
          rw [sched_len] at hla
          rw [hla] at hc1
          have HP := Lib.hid (wz_put (sched bl m) (wpart bl m j) (wpart bl m (j + 1)))
          clear hla
          have hf := h1.frozen m
          have hv := word_next (wpart bl m j) (bl.getD (4 * m + j) 0)
          have HN := Lib.hid (show wpart bl m (j + 1) = (wpart bl m j <<< 8) ||| wide (bl.getD (4 * m + j) 0) from rfl)
          rw [← Nat.add_assoc] at hx
          generalize bl.getD (4 * m + j) 0 = x at hx hv HN
          generalize hcc : wpart bl m j = cc at hc1 hv HN
          have H1 := Lib.hid h1
          have H0 := Lib.hid h0
          clear h1 h0 hcc
          go_wp2
          go_roundw
          case rel => 
            refine ⟨j + 1, by omega, by go_num, ?_, ?_, ?_⟩
            · have := H1.out.set m (.int .u32 (tn (cc <<< 8 ||| wide x)))
              have hp := HP.out
              rw [sched_len] at hp
              rw [wc_set, ← HN.out, hp] at this
              rw [← HN.out]
              exact this
            · exact H0.out.other _ _ (by simp)
            · exact below_set hb _ _ _ (by omega)
          case measure => simp [intOf]; omega
        · obtain rfl : j = 4 := by omega
          go_wp2
          go_roundw
          case rel => exact ⟨m + 1, by omega, by go_num, by rw [HS.out]; exact h1, h0, hb⟩
          case measure => simp [intOf]; omega
    · have hm2 : m = 16 := by omega
      rw [hm2] at h1
      clear hm2 hm
      go_wp2
      go_loopw [7, 8, 9] (fun i _ _ wr => ∃ n : Nat, 16 ≤ n ∧ n ≤ 64 ∧ i = .int .i64 n ∧ Row wr (w.heap.size + 1) 137 (wc (wz (sched bl n))) ∧ Row wr w.heap.size 137 (wc (wz [])) ∧ Below w.heap.size w wr) (fun i _ _ _ => 64 - (intOf i).toNat)
      case atStart => exact ⟨16, by omega, by omega, rfl, h1, h0, hb⟩
      case round =>
        clear h1 h0 hb
        obtain ⟨n, hn, hn64, rfl, h1, h0, hb⟩ := hrel
        by_cases hn6 : n < 64
        · have c2 := h1.cell (wc_get _ (n - 2) (by rw [wz_len _ (by rw [sched_len]; omega)]; omega))
          have c7 := h1.cell (wc_get _ (n - 7) (by rw [wz_len _ (by rw [sched_len]; omega)]; omega))
          have c15 := h1.cell (wc_get _ (n - 15) (by rw [wz_len _ (by rw [sched_len]; omega)]; omega))
          have c16 := h1.cell (wc_get _ (n - 16) (by rw [wz_len _ (by rw [sched_len]; omega)]; omega))
          have cn := h1.cell (wc_get _ n (by rw [wz_len _ (by rw [sched_len]; omega)]; omega))
          rw [wz_at _ _ (by rw [sched_len]; omega)] at c2 c7 c15 c16
          have hf := h1.frozen n
          have HN := Lib.hid (show sched bl (n + 1) = sched bl n ++ [nxt (sched bl n) n] by rw [sched, if_neg (by omega)])
          have HX := Lib.hid (show nxt (sched bl n) n = (ror ((sched bl n).getD (n - 2) 0) 17 ^^^ ror ((sched bl n).getD (n - 2) 0) 19 ^^^ (sched bl n).getD (n - 2) 0 >>> 10) + (sched bl n).getD (n - 7) 0 + (ror ((sched bl n).getD (n - 15) 0) 7 ^^^ ror ((sched bl n).getD (n - 15) 0) 18 ^^^ (sched bl n).getD (n - 15) 0 >>> 3) + (sched bl n).getD (n - 16) 0 from rfl)
          generalize (sched bl n).getD (n - 2) 0 = x2 at c2 HX
          generalize (sched bl n).getD (n - 7) 0 = x7 at c7 HX
          generalize (sched bl n).getD (n - 15) 0 = x15 at c15 HX
          generalize (sched bl n).getD (n - 16) 0 = x16 at c16 HX
          have H1 := Lib.hid h1
          have H0 := Lib.hid h0
          clear h1 h0
          go_wp2_with fail
          go_quiet (fail)
          have c7' : (wr.drewN nq).cell? ⟨w.heap.size + 1, n - 7, none⟩ = some (.int .u32 (tn x7)) := c7
          have c16' : (wr.drewN nq).cell? ⟨w.heap.size + 1, n - 16, none⟩ = some (.int .u32 (tn x16)) := c16
          have cn' : ((wr.drewN nq).cell? ⟨w.heap.size + 1, n, none⟩).isSome = true := by show (wr.cell? _).isSome = true; rw [cn]; rfl
          have hf' : (wr.drewN nq).frozen? ⟨w.heap.size + 1, n, none⟩ = false := hf
          have H1' : Hid (Row (wr.drewN nq) (w.heap.size + 1) 137 (wc (wz (sched bl n)))) := H1.out
          have H0' : Hid (Row (wr.drewN nq) w.heap.size 137 (wc (wz []))) := H0.out
          have hb' : Below w.heap.size w (wr.drewN nq) := ⟨hb.os, hb.tape, hb.output, hb.size, hb.block⟩
          clear c2 c7 c15 c16 cn hf H1 H0 hb
          generalize wr.drewN nq = w2 at c7' c16' cn' hf' H1' H0' hb' ⊢
          obtain ⟨v0, cn⟩ := Option.isSome_iff_exists.1 cn'
          clear cn'
          have ux := u32_xor
          have ua := u32_add
          have s3 := u32_shr3
          have s10 := u32_shr10
          go_wp2_with fail
          refine (right_17 _ _).mono ?_
          rintro _ w1 ⟨rfl, rfl⟩
          go_wp2_with fail
          refine (right_19 _ _).mono ?_
          rintro _ w1 ⟨rfl, rfl⟩
          go_wp2_with fail
          refine (right_7 _ _).mono ?_
          rintro _ w1 ⟨rfl, rfl⟩
          go_wp2_with fail
          refine (right_18 _ _).mono ?_
          rintro _ w1 ⟨rfl, rfl⟩
          go_wp2_with fail
          obtain ⟨p7, q7⟩ : ∃ p, n - 7 = p := ⟨_, rfl⟩
          obtain ⟨p16, q16⟩ : ∃ p, n - 16 = p := ⟨_, rfl⟩
          have i7 : IntKind.i64.wrap ((n : Int) - 7) = (p7 : Int) := by rw [IntKind.wrap_i64]; omega
          have i16 : IntKind.i64.wrap ((n : Int) - 16) = (p16 : Int) := by rw [IntKind.wrap_i64]; omega
          have l7 : (p7 : Int) < 64 := by omega
          have l16 : (p16 : Int) < 64 := by omega
          rw [q7] at c7'
          rw [q16] at c16'
          clear q7 q16
          go_still_tail 15, (by kernel_rfl)
          change wpList _ _ _ _ _ (World.drew _)
          go_wp2
          go_roundw
          case rel =>
            refine ⟨n + 1, by omega, by omega, by go_num, ?_, H0'.out.drew.other _ _ (by simp), below_set (w := w2.drew) ⟨hb'.os, hb'.tape, hb'.output, hb'.size, hb'.block⟩ _ _ _ (by omega)⟩
            have h := H1'.out.drew.set n (.int .u32 (tn (nxt (sched bl n) n)))
            have hz := wz_set (sched bl n) (nxt (sched bl n) n) (by rw [sched_len]; omega)
            rw [sched_len] at hz
            rw [wc_set, hz, ← HN.out, HX.out] at h
            exact h
          case measure => simp [intOf]; omega
        · have hn2 : n = 64 := by omega
          rw [hn2, HN.out, HS.out, wz_full _ HSL.out] at h1
          clear hn2 hn64
          have hi : (Tryz.prog.info? 137).map (·.size) = some (wc S).toArray.size := by
            rw [show (Tryz.prog.info? 137).map (·.size) = some 64 by kernel_rfl]
            simp [wc_len, HSL.out]
          have hs0 : (wc (wz [])).toArray.size = (wc S).toArray.size := by simp [wc_len, wz, HSL.out]
          have hone := all_oneCell_toArray (wc_one S)
          have HI := Lib.hid hi
          have HS0 := Lib.hid hs0
          have HO := Lib.hid hone
          clear hi hs0 hone
          go_wp2_with (first
            | (refine wpList_load_row rfl _ _ rfl (w.heap.size + 1) rfl _ _ (0, 0) _ h1 Tryz.underlying137 rfl HI.out ?_)
            | (refine wpList_store_row rfl _ _ _ rfl w.heap.size _ rfl rfl _ _ h0 HI.out HS0.out HO.out ?_))
          refine bodyPost_ret (v := .agg (wc S).toArray) ?_ rfl ⟨rfl, below_setRow hb (Nat.le_refl _) _⟩
          exact results_cell_row rfl _ _ w.heap.size 137 _ (0, 0) _ rfl (setRow_heap wr _ _ _ _ _ h0) Tryz.underlying137 rfl HI.out
end Go.Proofs.YtmebdnblobobnaaGreatDoor

namespace Go.Proofs.YtmebdnblobobnaaGreatDoor
set_option maxRecDepth 100000
open Go.RowKit _root_.Go.Proofs.YtmebdnblobobnaaGreatDoor.Wd _root_.Go.Proofs.YtmebdnblobobnaaGreatDoor.Nm _root_.Go.Proofs.YtmebdnblobobnaaGreatDoor.Cm Sm

/-- The summer's struct in its block. -/
def cellsOf (s : List (BitVec 32)) (o : List UInt8) (n : Int) (l : List UInt8) (ws : List (BitVec 32)) : List Value := wc s ++ bc o ++ [.int .i64 n] ++ bc l ++ wc ws
theorem tn_of (x : Int) (c : BitVec 32) (h : tn c = x) : Value.int .u32 x = .int .u32 (tn c) := by rw [h]
/-- The table of steps in its block. -/
def StepsAt (w : World) : Prop := ∀ j, j < 64 → w.cell? ⟨2, j, none⟩ = some (.int .u32 (tn (ks.getD j 0)))

theorem St.list_len (s : St) : s.list.length = 8 := rfl
theorem cellsOf_set (s : List (BitVec 32)) (o : List UInt8) (n : Int) (l : List UInt8) (ws : List (BitVec 32)) (j : Nat) (h : j < s.length) (c : BitVec 32) :
    (cellsOf s o n l ws).set j (.int .u32 (tn c)) = cellsOf (s.set j c) o n l ws := by
  unfold cellsOf
  rw [List.set_append_left _ _ (by simp [wc_len]; omega), List.set_append_left _ _ (by simp [wc_len]; omega), List.set_append_left _ _ (by simp [wc_len]; omega), List.set_append_left _ _ (by simp [wc_len]; omega), wc_set]
theorem cellsOf_get (s : List (BitVec 32)) (o : List UInt8) (n : Int) (l : List UInt8) (ws : List (BitVec 32)) (j : Nat) (h : j < s.length) : (cellsOf s o n l ws)[j]? = some (.int .u32 (tn (s.getD j 0))) := by
  unfold cellsOf
  rw [List.getElem?_append_left (by simp [wc_len]; omega), List.getElem?_append_left (by simp [wc_len]; omega), List.getElem?_append_left (by simp [wc_len]; omega), List.getElem?_append_left (by simp [wc_len]; omega), wc_get _ _ h]
theorem upto_set (A B : List (BitVec 32)) (j : Nat) (hA : A.length = 8) (hB : B.length = 8) (h : j < 8) : (A.take j ++ B.drop j).set j (A.getD j 0) = A.take (j + 1) ++ B.drop (j + 1) := by
  rw [List.set_append_right _ _ (by simp; omega), List.drop_eq_getElem_cons (show j < B.length by omega)]
  simp only [List.length_take, hA, Nat.min_eq_left (Nat.le_of_lt h), Nat.sub_self, List.set_cons_zero]
  rw [List.take_succ_eq_append_getElem (show j < A.length by omega), List.append_assoc, List.getD_eq_getElem?_getD, List.getElem?_eq_getElem (show j < A.length by omega)]
  rfl
theorem upto_get (A B : List (BitVec 32)) (j : Nat) (hA : A.length = 8) (h : j < 8) : (A.take j ++ B.drop j).getD j 0 = B.getD j 0 := by
  rw [List.getD_eq_getElem?_getD, List.getElem?_append_right (by simp; omega), List.length_take, hA, Nat.min_eq_left (Nat.le_of_lt h), Nat.sub_self, List.getElem?_drop, List.getD_eq_getElem?_getD]
  rfl
theorem plus_get (s t : St) (j : Nat) : (s.plus t).list.getD j 0 = s.list.getD j 0 + t.list.getD j 0 := by
  match j with
  | 0 | 1 | 2 | 3 | 4 | 5 | 6 | 7 => rfl
  | n + 8 => simp [St.list, List.getD]
theorem grow_setS {w w' : World} {g : Nat} (h : w.grownBy w' (some g)) (i : Nat) (v : Value) : w.grownBy (w'.setCell ⟨g, i, none⟩ v) (some g) :=
  ⟨h.os, h.tape, h.output, by simpa using h.size, fun k hk hne => (heap_setCell_other w' _ k v (fun e => hne (by rw [e]))).trans (h.block k hk hne)⟩

theorem step_x (s : St) (kk wk : BitVec 32) : (tn s.h + bits BinOp.xor IntKind.u32 (bits BinOp.xor IntKind.u32 (tn (ror s.e 6)) (tn (ror s.e 11))) (tn (ror s.e 25)) +
    bits BinOp.xor IntKind.u32 (bits BinOp.and IntKind.u32 (tn s.e) (tn s.f)) (bits BinOp.and IntKind.u32 (bits BinOp.xor IntKind.u32 IntKind.u32.max (tn s.e)) (tn s.g)) + tn kk + tn wk) % 4294967296 = tn (s.x kk wk) := by
  rw [u32_not]
  simp only [u32_xor, u32_and]
  rw [u32_add5]
  rfl
theorem step_y (s : St) : (bits BinOp.xor IntKind.u32 (bits BinOp.xor IntKind.u32 (tn (ror s.a 2)) (tn (ror s.a 13))) (tn (ror s.a 22)) +
    bits BinOp.xor IntKind.u32 (bits BinOp.xor IntKind.u32 (bits BinOp.and IntKind.u32 (tn s.a) (tn s.b)) (bits BinOp.and IntKind.u32 (tn s.a) (tn s.c))) (bits BinOp.and IntKind.u32 (tn s.b) (tn s.c))) % 4294967296 = tn s.y := by
  simp only [u32_xor, u32_and]
  rw [u32_add]
  rfl

set_option maxRecDepth 4000 in
set_option maxHeartbeats 4000000 in
theorem mix_any (g : Nat) (st : St) (o l : List UInt8) (n : Int) (ws : List (BitVec 32)) (w : World) (ho : o.length = 64) (hl : l.length = 64) (hw : ws.length = 64)
    (hr : Row w g 139 (cellsOf st.list o n l ws)) (hk : StepsAt w) :
    Calls Tryz.prog 121 #[.pointer (some ⟨g, 0, none⟩)] w fun e w' => e = .returned (.tuple #[]) ∧ Row w' g 139 (cellsOf (st.plus (rounds ws st 64)).list o n l ws) ∧ w.grownBy w' (some g) := by
  obtain ⟨N, hN⟩ : ∃ N, 64 = N := ⟨_, rfl⟩
  obtain ⟨F, hF⟩ : ∃ F, (st.plus (rounds ws st N)).list = F := ⟨_, rfl⟩
  rw [show rounds ws st 64 = rounds ws st N by rw [hN], hF]
  have HF := Lib.hid hF
  have HN := Lib.hid hN
  clear hF hN
  have q0 : w.cell? ⟨g, 0, none⟩ = some (.int .u32 (tn st.a)) := hr.cell rfl
  have q1 : w.cell? ⟨g, 1, none⟩ = some (.int .u32 (tn st.b)) := hr.cell rfl
  have q2 : w.cell? ⟨g, 2, none⟩ = some (.int .u32 (tn st.c)) := hr.cell rfl
  have q3 : w.cell? ⟨g, 3, none⟩ = some (.int .u32 (tn st.d)) := hr.cell rfl
  have q4 : w.cell? ⟨g, 4, none⟩ = some (.int .u32 (tn st.e)) := hr.cell rfl
  have q5 : w.cell? ⟨g, 5, none⟩ = some (.int .u32 (tn st.f)) := hr.cell rfl
  have q6 : w.cell? ⟨g, 6, none⟩ = some (.int .u32 (tn st.g)) := hr.cell rfl
  have q7 : w.cell? ⟨g, 7, none⟩ = some (.int .u32 (tn st.h)) := hr.cell rfl
  have HR := Lib.hid hr
  clear hr
  go_enter Tryz.func121, Tryz.ntmps121
  go_wp2_with fail
  go_quiet (fail)
  have hw2 : Hid (w.rangeAt g 137 (wc ws)) := HR.out.range 137 (wc ws) (fun j v hj => by
    unfold cellsOf
    rw [List.getElem?_append_right (by simp [wc_len, bc_len, St.list, ho, hl])]
    simpa [wc_len, bc_len, St.list, ho, hl] using hj)
  have hi : Hid ((Tryz.prog.info? 137).map (·.size) = some (wc ws).length) := by
    rw [wc_len, hw]
    exact Lib.hid (by kernel_rfl)
  clear q0 q1 q2 q3 q4 q5 q6 q7
  go_wp2_with (refine wpList_load_mid rfl _ _ rfl g 137 rfl (wc ws) _ (show World.rangeAt (w.drewN nq) g 137 (wc ws) from hw2.out) Tryz.underlying137 rfl hi.out ?_)
  go_loopw [2, 3, 4, 5, 6, 7, 8, 9, 10, 11, 12, 13, 60] (fun a b c d e f g h _ _ _ _ i wr => ∃ k : Nat, k ≤ 64 ∧ i = .int .i64 k ∧ (∃ q, wr = w.drewN q) ∧
    a = .int .u32 (tn (rounds ws st k).a) ∧ b = .int .u32 (tn (rounds ws st k).b) ∧ c = .int .u32 (tn (rounds ws st k).c) ∧ d = .int .u32 (tn (rounds ws st k).d) ∧
    e = .int .u32 (tn (rounds ws st k).e) ∧ f = .int .u32 (tn (rounds ws st k).f) ∧ g = .int .u32 (tn (rounds ws st k).g) ∧ h = .int .u32 (tn (rounds ws st k).h)) (fun _ _ _ _ _ _ _ _ _ _ _ _ i _ => 64 - (intOf i).toNat)
  case atStart => exact ⟨0, by omega, rfl, ⟨nq, rfl⟩, rfl, rfl, rfl, rfl, rfl, rfl, rfl, rfl⟩
  case round =>
    clear hw2
    obtain ⟨k, hk64, rfl, hwr, rfl, rfl, rfl, rfl, rfl, rfl, rfl, rfl⟩ := hrel
    by_cases hk6 : k < 64
    · have hx : ∀ W : World, (Instr.index 137 (.agg (wc ws).toArray) (.int .i64 (k : Int))).run Tryz.prog W = .ok (.int .u32 (tn (ws.getD k 0))) W := fun W =>
        index_cell W _ _ _ 64 Tryz.underlying137 Tryz.underlying67 (by kernel_rfl) _ _ k rfl hk6 _ (wc_get ws k (by omega))
      have hc : wr.cell? ⟨2, k, none⟩ = some (.int .u32 (tn (ks.getD k 0))) := by
        obtain ⟨q, rfl⟩ := hwr
        exact hk k hk6
      have HWR := Lib.hid hwr
      clear hwr
      have HS := Lib.hid (show rounds ws st (k + 1) = (rounds ws st k).step (ks.getD k 0) (ws.getD k 0) from rfl)
      generalize rounds ws st k = s at HS ⊢
      generalize ks.getD k 0 = kk at hc HS
      generalize ws.getD k 0 = wk at hx HS
      have HK := Lib.hid hk
      clear hk
      go_upto_region 4 with fail
      go_quiet (first | (with_reducible exact rightq_6 _ _ _) | (with_reducible exact rightq_11 _ _ _) | (with_reducible exact rightq_25 _ _ _))
      go_wp2_with fail
      refine (right_2 _ _).mono ?_
      rintro _ w1 ⟨rfl, rfl⟩
      go_wp2_with fail
      refine (right_13 _ _).mono ?_
      rintro _ w1 ⟨rfl, rfl⟩
      go_wp2_with fail
      refine (right_22 _ _).mono ?_
      rintro _ w1 ⟨rfl, rfl⟩
      go_wp2
      go_roundw
      case rel =>
        refine ⟨k + 1, by omega, by go_num, ?_, ?_⟩
        · obtain ⟨q, hq⟩ := HWR.out
          exact ⟨q + nq, by rw [hq, World.drewN_drewN]⟩
        · rw [HS.out, step_x, step_y, u32_add, u32_add]
          exact ⟨rfl, rfl, rfl, rfl, rfl, rfl, rfl, rfl⟩
      case measure => simp [intOf]; omega
    · have hk2 : k = 64 := by omega
      clear hk64
      have hrow : Row wr g 139 (cellsOf st.list o n l ws) := by
        obtain ⟨q, rfl⟩ := hwr
        exact HR.out
      have hgr : w.grownBy wr (some g) := by
        obtain ⟨q, rfl⟩ := hwr
        exact ⟨rfl, rfl, rfl, Nat.le_refl _, fun _ _ _ => rfl⟩
      have hF2 := HF.out
      rw [← HN.out, ← hk2] at hF2
      clear hk2 hwr
      generalize rounds ws st k = s at hF2 ⊢
      have HF2 := Lib.hid hF2
      have HROW := Lib.hid hrow
      clear hF2 hrow HF HN HR hk hw ho hl
      go_wp2_with fail
      go_loopw [14, 15, 131] (fun _ _ i wr => ∃ j : Nat, j ≤ 8 ∧ i = .int .i64 j ∧ Row wr g 139 (cellsOf (F.take j ++ st.list.drop j) o n l ws) ∧ w.grownBy wr (some g)) (fun _ _ i _ => 8 - (intOf i).toNat)
      case atStart => exact ⟨0, by omega, rfl, HROW.out, hgr⟩
      case round =>
        clear hgr HROW
        obtain ⟨j, hj8, rfl, h1, hgr⟩ := hrel
        have hFl : F.length = 8 := by rw [← HF2.out]; rfl
        by_cases hj : j < 8
        · have hx : ∀ W : World, (Instr.index 70 (.agg #[.int .u32 (tn s.a), .int .u32 (tn s.b), .int .u32 (tn s.c), .int .u32 (tn s.d), .int .u32 (tn s.e), .int .u32 (tn s.f), .int .u32 (tn s.g), .int .u32 (tn s.h)]) (.int .i64 (j : Int))).run Tryz.prog W = .ok (.int .u32 (tn (s.list.getD j 0))) W := fun W =>
            index_cell W _ _ _ 8 Tryz.underlying70 Tryz.underlying67 (by kernel_rfl) (wc s.list) _ j rfl hj _ (wc_get s.list j hj)
          have hc := h1.cell (cellsOf_get _ o n l ws j (by simp [hFl, St.list_len]; omega))
          rw [upto_get F st.list j hFl hj] at hc
          have hf := h1.frozen j
          have hv : (tn (st.list.getD j 0) + tn (s.list.getD j 0)) % 4294967296 = tn (F.getD j 0) := by
            rw [u32_add, ← HF2.out, plus_get]
          have h2 := h1.drew.set j (.int .u32 (tn (F.getD j 0)))
          rw [cellsOf_set _ o n l ws j (by simp [hFl, St.list_len]; omega), upto_set F st.list j hFl rfl hj] at h2
          have H2 := Lib.hid h2
          generalize F.getD j 0 = fj at hv H2
          generalize st.list.getD j 0 = sj at hv hc
          generalize s.list.getD j 0 = tj at hv hx
          clear h1 h2 hFl
          go_wp2_with fail
          go_still_tail 11, (by kernel_rfl)
          change wpList _ _ _ _ _ (World.drew _)
          go_wp2
          go_roundw
          case rel => exact ⟨j + 1, by omega, by go_num, H2.out, grow_setS (grow_drew hgr) _ _⟩
          case measure => simp [intOf]; omega
        · have hj2 : j = 8 := by omega
          rw [hj2, List.take_of_length_le (by omega), List.drop_eq_nil_of_le (by simp [St.list_len]), List.append_nil] at h1
          clear hj2 hj8 hFl
          go_wp2
          exact bodyPost_end (results_none rfl _ _ _) rfl ⟨rfl, h1, hgr⟩
end Go.Proofs.YtmebdnblobobnaaGreatDoor

namespace Go.Proofs.YtmebdnblobobnaaGreatDoor
set_option maxRecDepth 100000
open Go.RowKit _root_.Go.Proofs.YtmebdnblobobnaaGreatDoor.Wd _root_.Go.Proofs.YtmebdnblobobnaaGreatDoor.Nm _root_.Go.Proofs.YtmebdnblobobnaaGreatDoor.Cm Sm

theorem cellsOf_open (s : List (BitVec 32)) (o : List UInt8) (n : Int) (l : List UInt8) (ws : List (BitVec 32)) (hs : s.length = 8) (j : Nat) (v : Value) (h : (bc o)[j]? = some v) : (cellsOf s o n l ws)[8 + j]? = some v := by
  have hj : j < (bc o).length := (List.getElem?_eq_some_iff.1 h).1
  rw [bc_len] at hj
  unfold cellsOf
  rw [List.getElem?_append_left (by simp [wc_len, bc_len]; omega), List.getElem?_append_left (by simp [wc_len, bc_len]; omega), List.getElem?_append_left (by simp [wc_len, bc_len]; omega), List.getElem?_append_right (by simp [wc_len]; omega), wc_len, hs, Nat.add_sub_cancel_left, h]
theorem cellsOf_n (s : List (BitVec 32)) (o : List UInt8) (n : Int) (l : List UInt8) (ws : List (BitVec 32)) (hs : s.length = 8) (ho : o.length = 64) : (cellsOf s o n l ws)[72]? = some (.int .i64 n) := by
  unfold cellsOf
  rw [List.getElem?_append_left (by simp [wc_len, bc_len, hs, ho]; omega), List.getElem?_append_left (by simp [wc_len, bc_len, hs, ho]), List.getElem?_append_right (by simp [wc_len, bc_len, hs, ho])]
  simp [wc_len, bc_len, hs, ho]
theorem cellsOf_last (s : List (BitVec 32)) (o : List UInt8) (n : Int) (l : List UInt8) (ws : List (BitVec 32)) (hs : s.length = 8) (ho : o.length = 64) (j : Nat) (v : Value) (h : (bc l)[j]? = some v) : (cellsOf s o n l ws)[73 + j]? = some v := by
  have hj : j < (bc l).length := (List.getElem?_eq_some_iff.1 h).1
  rw [bc_len] at hj
  unfold cellsOf
  rw [List.getElem?_append_left (by simp [wc_len, bc_len, hs, ho]; omega), List.getElem?_append_right (by simp [wc_len, bc_len, hs, ho])]
  simpa [wc_len, bc_len, hs, ho] using h
theorem cellsOf_len (s : List (BitVec 32)) (o : List UInt8) (n : Int) (l : List UInt8) (ws : List (BitVec 32)) : (cellsOf s o n l ws).length = s.length + o.length + 1 + l.length + ws.length := by
  simp [cellsOf, wc_len, bc_len]
  omega
theorem splice_mid {α : Type} (A B B2 C : List α) (k : Nat) (hk : A.length = k) (h : B2.length = B.length) : splice (A ++ B ++ C) k B2 = A ++ B2 ++ C := by
  subst hk
  unfold splice
  rw [List.append_assoc, List.take_left' rfl, h]
  simp
theorem cellsOf_splice_last (s : List (BitVec 32)) (o : List UInt8) (n : Int) (l l2 : List UInt8) (ws : List (BitVec 32)) (hs : s.length = 8) (ho : o.length = 64) (h : l2.length = l.length) : splice (cellsOf s o n l ws) 73 (bc l2) = cellsOf s o n l2 ws := by
  unfold cellsOf
  exact splice_mid _ _ _ _ 73 (by simp [wc_len, bc_len, hs, ho]) (by rw [bc_len, bc_len, h])
theorem cellsOf_splice_words (s : List (BitVec 32)) (o : List UInt8) (n : Int) (l : List UInt8) (ws ws2 : List (BitVec 32)) (hs : s.length = 8) (ho : o.length = 64) (hl : l.length = 64) (h : ws2.length = ws.length) : splice (cellsOf s o n l ws) 137 (wc ws2) = cellsOf s o n l ws2 := by
  unfold cellsOf
  have := splice_mid (wc s ++ bc o ++ [.int .i64 n] ++ bc l) (wc ws) (wc ws2) [] 137 (by simp [wc_len, bc_len, hs, ho, hl]) (by rw [wc_len, wc_len, h])
  simpa using this
theorem grow_setCells {w : World} {g : Nat} : ∀ (vs : List Value) (o : Nat) (w' : World), w.grownBy w' (some g) → w.grownBy (w'.setCells g o vs) (some g)
  | [], _, _, h => h
  | v :: r, o, _, h => grow_setCells r (o + 1) _ (grow_setS h o v)
theorem StepsAt.grown {w w' : World} {g : Nat} (h : StepsAt w) (hg : w.grownBy w' (some g)) (h1 : 2 < g) : StepsAt w' := fun j hj => by
  have h0 := h j hj
  have hlt : 2 < w.heap.size := block_lt_of_cell h0
  have e := hg.block 2 hlt (fun e => by injection e; omega)
  simp only [World.cell?, e]
  simpa only [World.cell?] using h0

set_option maxHeartbeats 4000000 in
theorem fold_any (g : Nat) (st : St) (o l : List UInt8) (n : Int) (w : World) (ho : o.length = 64) (hl : l.length = 64)
    (hr : Row w g 139 (cellsOf st.list o n l (sched l 64))) (hk : StepsAt w) (hg : 2 < g) :
    Calls Tryz.prog 114 #[.pointer (some ⟨g, 0, none⟩)] w fun e w' => e = .returned (.tuple #[]) ∧ Row w' g 139 (cellsOf (comp st o).list o n o (sched o 64)) ∧ w.grownBy w' (some g) := by
  obtain ⟨F, hF⟩ : ∃ F, (comp st o).list = F := ⟨_, rfl⟩
  obtain ⟨So, hSo⟩ : ∃ S, sched o 64 = S := ⟨_, rfl⟩
  obtain ⟨Sl, hSl⟩ : ∃ S, sched l 64 = S := ⟨_, rfl⟩
  have HI := Lib.hid (show (Tryz.prog.info? 136).map (·.size) = some 64 by kernel_rfl)
  have HE := Lib.hid (show (Tryz.prog.info? 5).map (·.size) = some 1 by kernel_rfl)
  rw [hF, hSo]
  rw [hSl] at hr
  have hlo : ∀ W : World, (∃ q, W = w.drewN q) → W.rangeAt g 8 (bc o) := by
    rintro W ⟨q, rfl⟩
    exact (show World.rangeAt w g 8 (bc o) from hr.range 8 _ (cellsOf_open _ _ _ _ _ rfl))
  have hll : ∀ W : World, (∃ q, W = w.drewN q) → W.rangeAt g 73 (bc l) := by
    rintro W ⟨q, rfl⟩
    exact (show World.rangeAt w g 73 (bc l) from hr.range 73 _ (cellsOf_last _ _ _ _ _ rfl ho))
  have HLO := Lib.hid hlo
  have HLL := Lib.hid hll
  clear hlo hll
  have HIO := Lib.hid (show (Tryz.prog.info? 136).map (·.size) = some (bc o).length by rw [HI.out, bc_len, ho])
  have HIL := Lib.hid (show (Tryz.prog.info? 136).map (·.size) = some (bc l).length by rw [HI.out, bc_len, hl])
  obtain ⟨b, hb⟩ : ∃ b, (!decide (o = l)) = b := ⟨_, rfl⟩
  have hne : ∀ W : World, (binOp .neq 136 (.agg (bc o).toArray) (.agg (bc l).toArray)).run Tryz.prog W = .ok (.bool b) W := fun W => by
    rw [run_neq_bytes W _ _ 64 Tryz.underlying136 Tryz.underlying5 HE.out o l ho hl, hb]
  have HO := Lib.hid ho
  have HL := Lib.hid hl
  have HF := Lib.hid hF
  have HSO := Lib.hid hSo
  have HSL := Lib.hid hSl
  have HB := Lib.hid hb
  have HR := Lib.hid hr
  have HK := Lib.hid hk
  clear ho hl hF hSo hSl hb hr hk
  go_enter Tryz.func114, Tryz.ntmps114
  go_wp2_with fail
  refine wp_region_quiet_lit (by kernel_rfl) (by kernel_rfl) ?_
  quiet_step (fail)
  quiet_step (fail)
  quiet_step (fail)
  refine quiet_load_mid rfl _ _ rfl g 8 rfl (bc o) _ HLO.out Tryz.underlying136 rfl HIO.out ?_
  quiet_step (fail)
  quiet_step (fail)
  quiet_step (fail)
  refine quiet_load_mid rfl _ _ rfl g 73 rfl (bc l) _ HLL.out Tryz.underlying136 rfl HIL.out ?_
  quiet_step (fail)
  refine wpQuiet_nil ?_
  rintro _ ⟨nq, rfl⟩
  have r0 : Row (w.drewN nq) g 139 (cellsOf st.list o n l Sl) := HR.out
  have k0 : StepsAt (w.drewN nq) := HK.out
  have g0 : w.grownBy (w.drewN nq) (some g) := ⟨rfl, rfl, rfl, Nat.le_refl _, fun _ _ _ => rfl⟩
  clear HR HLO HLL hne
  generalize w.drewN nq = W0 at r0 k0 g0 ⊢
  have R0 := Lib.hid r0
  have K0 := Lib.hid k0
  have HK0 := Lib.hid HK.out
  have RO := Lib.hid (show World.rangeAt W0 g 8 (bc o) from r0.range 8 _ (cellsOf_open _ _ _ _ _ rfl))
  have hlen : (cellsOf st.list o n l Sl).length = 201 := by rw [cellsOf_len, ← HSL.out, sched_len, HO.out, HL.out]; rfl
  have T0 := Lib.hid (show World.there W0 g 73 (bc o).toArray.size from r0.there 73 _ (by rw [hlen]; simp [bc_len, HO.out]))
  have HIS := Lib.hid (show (Tryz.prog.info? 136).map (·.size) = some (bc o).toArray.size by rw [HIO.out]; simp)
  have H1 := Lib.hid (all_oneCell_toArray (bc_one o))
  clear r0 k0 hlen
  cases b with
  | true =>
    go_wp2_with (first
      | (refine wpList_load_mid rfl _ _ rfl g 8 rfl (bc o) _ RO.out Tryz.underlying136 rfl HIO.out ?_)
      | (refine wpList_store_mid rfl _ _ _ rfl g 73 (bc o).toArray rfl rfl T0.out HIS.out H1.out ?_))
    have r1 := setCells_row g _ (bc o) 73 _ _ R0.out (by rw [cellsOf_len, ← HSL.out, sched_len, HO.out, HL.out, bc_len, HO.out, St.list_len]; decide)
    rw [cellsOf_splice_last _ _ _ _ _ _ rfl HO.out (by rw [HO.out, HL.out])] at r1
    have g1 := grow_setCells (bc o) 73 _ g0
    clear g0
    generalize W0.setCells g 73 (bc o) = W1 at r1 g1 ⊢
    have sp := spread_any g 8 o W1 HO.out (r1.range 8 _ (cellsOf_open _ _ _ _ _ rfl))
    rw [HSO.out] at sp
    refine sp.mono ?_
    clear sp
    rintro _ W2 ⟨rfl, b2⟩
    have r2 := r1.below b2 r1.lt
    have g2 := grow_trans g1 (below_grow b2 (some g)) (.inl rfl)
    clear r1 g1 b2
    have hSl : So.length = 64 := by rw [← HSO.out, sched_len]
    have T2 := Lib.hid (show World.there W2 g 137 (wc So).toArray.size from r2.there 137 _ (by rw [cellsOf_len, ← HSL.out, sched_len, HO.out]; simp [wc_len, hSl, St.list_len]))
    have HI2 := Lib.hid (show (Tryz.prog.info? 137).map (·.size) = some (wc So).toArray.size by simp only [List.size_toArray, wc_len, hSl]; kernel_rfl)
    have H2 := Lib.hid (all_oneCell_toArray (wc_one So))
    have R2 := Lib.hid r2
    have HSO2 := Lib.hid hSl
    clear r2 hSl
    go_wp2_with (refine wpList_store_mid rfl _ _ _ rfl g 137 (wc So).toArray rfl rfl T2.out HI2.out H2.out ?_)
    have r3 := setCells_row g _ (wc So) 137 _ _ R2.out (by rw [cellsOf_len, ← HSL.out, sched_len, HO.out, wc_len, HSO2.out, St.list_len]; decide)
    rw [cellsOf_splice_words _ _ _ _ _ _ rfl HO.out HO.out (by rw [HSO2.out, ← HSL.out, sched_len])] at r3
    have g3 := grow_setCells (wc So) 137 _ g2
    clear g2
    have k3 := StepsAt.grown HK0.out g3 hg
    generalize W2.setCells g 137 (wc So) = W3 at r3 g3 k3 ⊢
    refine (mix_any g st o o n So W3 HO.out HO.out HSO2.out r3 k3).mono ?_
    rintro _ W4 ⟨rfl, r4, g4⟩
    have g5 := grow_trans g3 g4 (.inl rfl)
    rw [show st.plus (rounds So st 64) = comp st o by rw [← HSO.out]; rfl, HF.out] at r4
    clear r3 g3 k3 g4
    go_wp2
    exact bodyPost_end (results_none rfl _ _ _) rfl ⟨rfl, r4, g5⟩
  | false =>
    have hol : o = l := by
      have := HB.out
      simpa using this
    subst hol
    have hSS : Sl = So := by rw [← HSO.out, ← HSL.out]
    subst hSS
    have hSl : Sl.length = 64 := by rw [← HSO.out, sched_len]
    have M := mix_any g st o o n Sl W0 HO.out HO.out hSl R0.out K0.out
    rw [show st.plus (rounds Sl st 64) = comp st o by rw [← HSO.out]; rfl, HF.out] at M
    clear hSl
    go_wp2_with fail
    refine M.mono ?_
    clear M
    rintro _ W4 ⟨rfl, r4, g4⟩
    have g5 := grow_trans g0 g4 (.inl rfl)
    go_wp2
    exact bodyPost_end (results_none rfl _ _ _) rfl ⟨rfl, r4, g5⟩
end Go.Proofs.YtmebdnblobobnaaGreatDoor

namespace Go.Proofs.YtmebdnblobobnaaGreatDoor
set_option maxRecDepth 100000
open Go.RowKit _root_.Go.Proofs.YtmebdnblobobnaaGreatDoor.Wd _root_.Go.Proofs.YtmebdnblobobnaaGreatDoor.Nm _root_.Go.Proofs.YtmebdnblobobnaaGreatDoor.Cm Sm

/-- A summer that took the bytes m. -/
def Summer (w : World) (g : Nat) (m : List UInt8) : Prop := ∃ o l, o.length = 64 ∧ l.length = 64 ∧ o.take (m.length % 64) = m.drop (64 * (m.length / 64)) ∧
  Row w g 139 (cellsOf (folded m (m.length / 64)).list o (m.length : Int) l (sched l 64))
theorem Summer.keep {w w' : World} {g : Nat} {m : List UInt8} (h : Summer w g m) (hk : w'.heap[g]? = w.heap[g]?) : Summer w' g m := by
  obtain ⟨o, l, h1, h2, h3, h4⟩ := h
  exact ⟨o, l, h1, h2, h3, hk.trans h4⟩
theorem cellsOf_splice_open (s : List (BitVec 32)) (o : List UInt8) (n : Int) (l : List UInt8) (ws : List (BitVec 32)) (hs : s.length = 8) (k : Nat) (r : List UInt8) (h : k + r.length ≤ o.length) :
    splice (cellsOf s o n l ws) (8 + k) (bc r) = cellsOf s (splice o k r) n l ws := by
  have e : bc (splice o k r) = splice (bc o) k (bc r) := by
    unfold splice
    simp [bc, List.map_take, List.map_drop]
  unfold cellsOf
  rw [e]
  unfold splice
  simp only [List.append_assoc]
  rw [List.take_append, List.take_append]
  rw [show List.take (8 + k) (wc s) = wc s from List.take_of_length_le (by rw [wc_len]; omega)]
  rw [List.drop_append, List.drop_append]
  rw [show List.drop (8 + k + (bc r).length) (wc s) = [] from List.drop_eq_nil_of_le (by rw [wc_len]; omega)]
  simp only [wc_len, hs, bc_len, List.nil_append, List.append_assoc, List.append_cancel_left_eq]
  have h1 : 8 + k - 8 - o.length = 0 := by omega
  have h2 : 8 + k + r.length - 8 - o.length = 0 := by omega
  rw [h1, h2, List.take_zero, List.drop_zero, List.nil_append, show 8 + k - 8 = k by omega, show 8 + k + r.length - 8 = k + r.length by omega]
theorem cellsOf_setn (s : List (BitVec 32)) (o : List UInt8) (n n2 : Int) (l : List UInt8) (ws : List (BitVec 32)) (hs : s.length = 8) (ho : o.length = 64) : (cellsOf s o n l ws).set 72 (.int .i64 n2) = cellsOf s o n2 l ws := by
  unfold cellsOf
  rw [List.set_append_left _ _ (by simp [wc_len, bc_len, hs, ho]; omega), List.set_append_left _ _ (by simp [wc_len, bc_len, hs, ho]), List.set_append_right _ _ (by simp [wc_len, bc_len, hs, ho])]
  simp [wc_len, bc_len, hs, ho]
theorem open_cutS (W : World) (g k : Nat) (x : Int) (hx : x = k) (h1 : k < 64) :
    (Instr.sliceAt 136 (.pointer (some ⟨g, 8, none⟩)) (some (.int .i64 x)) none none).run Tryz.prog W = .ok (.slice (some ⟨g, 8 + k, none⟩) (64 - k) (64 - k)) W := by
  subst hx
  have hL : Tryz.prog.arrayLen 136 = 64 := by kernel_rfl
  have hE : Tryz.prog.elem 136 = 5 := by kernel_rfl
  obtain ⟨i0, hi0, hz0, hz1, hz2⟩ := info_parts infoByte
  rw [run_sliceAt_array_l W _ _ (by rw [hL, hE]; exact Tryz.underlying136) .i64 k (by omega) (by rw [hL]; omega), hL, hE]
  simp [sizeOf, typeInfo, hi0, hz1, Result.andThen, slicedAt, Addr.add_mid]
  omega
theorem bytes_cut (W : World) (A : Option Addr) (n cap c : Nat) (hc : c ≤ n) :
    (Instr.sliceAt 29 (.slice A n cap) (some (.int .i64 (c : Int))) none none).run Tryz.prog W = .ok (.slice (if cap = c then A else A.map (·.add c)) (n - c) (cap - c)) W := by
  have hE : Tryz.prog.elem 29 = 5 := by kernel_rfl
  have hu : Tryz.prog.underlying 29 = some (.slice (Tryz.prog.elem 29)) := by rw [hE]; exact Tryz.underlying29
  obtain ⟨i0, hi0, hz0, hz1, hz2⟩ := info_parts infoByte
  rw [run_sliceAt_slice W _ _ _ _ _ hu, run_slice_l W _ A n cap hu .i64 c (by omega) (by omega), hE]
  simp [sizeOf, typeInfo, hi0, hz1, Result.andThen, sliced]

theorem cell_same {w w' : World} {x : Addr} (e : w'.heap[x.block]? = w.heap[x.block]?) : w'.cell? x = w.cell? x := by
  simp only [World.cell?, e]
theorem shows_at {w w' : World} {B : Nat} {A : Option Addr} {n cap : Nat} {l : List UInt8} (h : Shows w B A n cap l) (hk : ∀ a, A = some a → 0 < n → a.block < B → w'.heap[a.block]? = w.heap[a.block]?) : Shows w' B A n cap l :=
  ⟨h.len, h.le, h.top, fun hn => by
    obtain ⟨g, o, e, hb, hc⟩ := h.spot hn
    exact ⟨g, o, e, hb, fun j hj => (cell_same (x := ⟨g, o + j, none⟩) (show w'.heap[g]? = w.heap[g]? from hk ⟨g, o, none⟩ e hn hb)).trans (hc j hj)⟩⟩

/-! ### what a piece makes of the bytes -/
theorem piece (m r o : List UInt8) (q k c : Nat) (hm : m.length = 64 * q + k) (ho : o.length = 64) (hot : o.take k = m.drop (64 * q)) (hc : c ≤ r.length) (hkc : k + c ≤ 64) :
    (splice o k (r.take c)).length = 64 ∧ (splice o k (r.take c)).take (k + c) = (m ++ r.take c).drop (64 * q) := by
  have hl : (r.take c).length = c := by rw [List.length_take]; omega
  refine ⟨by rw [length_splice _ _ _ (by rw [hl, ho]; omega), ho], ?_⟩
  unfold splice
  rw [← List.append_assoc, hot, List.drop_append_of_le_length (by omega)]
  rw [List.take_append_of_le_length (by rw [List.length_append, List.length_drop, hl]; omega)]
  exact List.take_of_length_le (by rw [List.length_append, List.length_drop, hl]; omega)

set_option maxHeartbeats 2000000 in
theorem take_any (g : Nat) (m p : List UInt8) (A : Option Addr) (n cap : Nat) (w : World) (hS : Summer w g m) (hs : Shows w w.heap.size A n cap p) (hne : ∀ a, A = some a → 0 < n → a.block ≠ g) (hk : StepsAt w) (hg : 2 < g) (hsm : m.length + n ≤ 1000000000000000) :
    Calls Tryz.prog 99 #[.pointer (some ⟨g, 0, none⟩), .slice A n cap] w fun e w' => e = .returned (.tuple #[]) ∧ Summer w' g (m ++ p) ∧ w.grownBy w' (some g) := by
  have HI := Lib.hid infoByte
  go_enter Tryz.func99, Tryz.ntmps99
  go_wp2
  go_loopw [1, 4] (fun v _ wr => ∃ (A' : Option Addr) (n' cap' : Nat) (m' r : List UInt8), v = .slice A' n' cap' ∧ m' ++ r = m ++ p ∧ Summer wr g m' ∧ Shows wr w.heap.size A' n' cap' r ∧ (∀ a, A' = some a → 0 < n' → a.block ≠ g) ∧ w.grownBy wr (some g)) (fun v _ _ => match v with | .slice _ n _ => n | _ => 0)
  case atStart => exact ⟨A, n, cap, m, p, rfl, rfl, hS, hs, hne, grow_refl w _⟩
  case round =>
    have hpl := hs.len
    clear hS hs hne
    obtain ⟨A', n', cap', m', r, rfl, hmr, ⟨o, l, ho, hl, hot, hrow⟩, hsh, hne, hgr⟩ := hrel
    have hrl := hsh.len
    have hlen := congrArg List.length hmr
    simp only [List.length_append] at hlen
    by_cases hn : 0 < n'
    · obtain ⟨q, hq⟩ : ∃ q, m'.length / 64 = q := ⟨_, rfl⟩
      obtain ⟨k, hkk⟩ : ∃ k, m'.length % 64 = k := ⟨_, rfl⟩
      obtain ⟨M, hM⟩ : ∃ M, m'.length = M := ⟨_, rfl⟩
      rw [hq, hkk] at hot
      rw [hq, hM] at hrow
      obtain ⟨b, f, rfl, hbB, hcell⟩ := hsh.spot hn
      have hbg : b ≠ g := hne _ rfl hn
      have hk64 : k < 64 := by omega
      obtain ⟨c, hc⟩ : ∃ c, Nat.min n' (64 - k) = c := ⟨_, rfl⟩
      have hcn : c ≤ n' := by rw [← hc]; exact Nat.min_le_left _ _
      have hck : k + c ≤ 64 := by have : c ≤ 64 - k := by rw [← hc]; exact Nat.min_le_right _ _
                                  omega
      have hc0 : 0 < c := by rw [← hc]; exact Nat.lt_min.2 ⟨hn, by omega⟩
      have hcc : c = n' ∨ k + c = 64 := by rw [← hc]; simp only [Nat.min_def]; split <;> omega
      have hcl : (bc (r.take c)).length = c := by rw [bc_len, List.length_take]; omega
      obtain ⟨pl, pt⟩ := piece m' r o q k c (by omega) ho hot (by omega) hck
      obtain ⟨d, hd⟩ : ∃ d, 64 - k = d := ⟨_, rfl⟩
      obtain ⟨A2, hA2⟩ : ∃ A2, (if cap' = c then some (⟨b, f, none⟩ : Addr) else (some (⟨b, f, none⟩ : Addr)).map (·.add c)) = A2 := ⟨_, rfl⟩
      have hcnn : wr.cell? ⟨g, 72, none⟩ = some (.int .i64 (M : Int)) := hrow.cell (cellsOf_n _ _ _ _ _ rfl ho)
      have hmod : ((M : Int)).tmod 64 = (k : Int) := by rw [Int.tmod_eq_emod_of_nonneg (by omega)]; omega
      have hsl : ∀ W : World, (Instr.sliceAt 136 (.pointer (some ⟨g, 8, none⟩)) (some (.int .i64 (k : Int))) none none).run Tryz.prog W = .ok (.slice (some ⟨g, 8 + k, none⟩) d d) W := fun W => by
        rw [open_cutS W g k k rfl hk64, hd]
      have hlen : m'.length + n' = m.length + n := by omega
      have F1 := Lib.hid (And.intro hmr (And.intro hlen (And.intro hq (And.intro hkk (And.intro hM (And.intro hot (And.intro hc (And.intro hcl (And.intro pl (And.intro pt hA2))))))))))
      have HROW := Lib.hid hrow
      have HSH := Lib.hid hsh
      have HK := Lib.hid hk
      clear hmr hlen hq hkk hM hot hc hcl pl pt hA2 hrow hsh hrl hpl hcell hk
      go_wp2_with fail
      go_still_tail 10, (by kernel_rfl)
      change wpList _ _ _ _ _ wr.drew
      obtain ⟨hmr, hlen, hq, hkk, hM, hot, hc, hcl, pl, pt, hA2⟩ := F1.out
      have hr2 : (wr.drew).heap[g]? = some (.cells (cellsOf (folded m' q).list o (M : Int) l (sched l 64)).toArray 139 (0, 0)) := HROW.out
      refine wpList_copy_own rfl (.tmp 16) (.tmp 17) 29 29 rfl 5 Tryz.underlying29 (by
        obtain ⟨i0, hi0, hz0, hz1, hz2⟩ := info_parts HI.out
        rw [hi0]; simp [hz1]) g (8 + k) d d ⟨b, f, none⟩ n' cap' rfl rfl _ _ hr2 (bc (r.take c)) (by rw [hcl, hd.symm.trans rfl, hc]) ?_ ?_ (bc_one _) ?_
      · intro j v hj
        have hjl : j < (bc (r.take c)).length := (List.getElem?_eq_some_iff.1 hj).1
        rw [hcl] at hjl
        obtain ⟨hj2, rfl⟩ := bc_at hj
        obtain ⟨b2, f2, e, _, hc2⟩ := HSH.out.spot hn
        injection e with e
        injection e with e1 e2
        subst e1 e2
        rw [Addr.add_lit]
        have := hc2 j (by have := HSH.out.len; omega)
        show wr.cell? _ = _
        rw [this, List.getElem_take]
      · rw [hcl]
        simp only [List.size_toArray, cellsOf_len, ho, hl, St.list_len, sched_len]
        omega
      have r1 : Row ((wr.drew).setRow g ((cellsOf (folded m' q).list o (M : Int) l (sched l 64)).toArray.toList.take (8 + k) ++ (bc (r.take c) ++ (cellsOf (folded m' q).list o (M : Int) l (sched l 64)).toArray.toList.drop (8 + k + (bc (r.take c)).length))).toArray) g 139 (cellsOf (folded m' q).list (splice o k (r.take c)) (M : Int) l (sched l 64)) := by
        rw [← cellsOf_splice_open _ o _ _ _ rfl k (r.take c) (by rw [bc_len] at hcl; omega)]
        exact setRow_heap (wr.drew) g _ _ _ _ hr2
      have g1 : w.grownBy ((wr.drew).setRow g ((cellsOf (folded m' q).list o (M : Int) l (sched l 64)).toArray.toList.take (8 + k) ++ (bc (r.take c) ++ (cellsOf (folded m' q).list o (M : Int) l (sched l 64)).toArray.toList.drop (8 + k + (bc (r.take c)).length))).toArray) (some g) := by
        refine grow_trans (grow_drew hgr) ⟨rfl, rfl, rfl, by simp [World.setRow], fun j hj hjg => setRow_other _ g j _ (fun e => hjg (by rw [e]))⟩ (.inl rfl)
      generalize (wr.drew).setRow g _ = W1 at r1 g1 ⊢
      rw [hcl]
      have c72 : W1.cell? ⟨g, 72, none⟩ = some (.int .i64 (M : Int)) := r1.cell (cellsOf_n _ _ _ _ _ rfl pl)
      have f72 := r1.frozen 72
      obtain ⟨M2, hM2⟩ : ∃ M2 : Nat, M + c = M2 := ⟨_, rfl⟩
      obtain ⟨n2, hn2⟩ : ∃ x, n' - c = x := ⟨_, rfl⟩
      obtain ⟨cap2, hcap2⟩ : ∃ x, cap' - c = x := ⟨_, rfl⟩
      have hadd : (M : Int) + (c : Int) = (M2 : Int) := by omega
      have hb2 : (M2 : Int) ≤ 1000000000000000 := by omega
      have hsl2 : ∀ W : World, (Instr.sliceAt 29 (.slice (some ⟨b, f, none⟩) n' cap') (some (.int .i64 (c : Int))) none none).run Tryz.prog W = .ok (.slice A2 n2 cap2) W := fun W => by
        rw [bytes_cut W _ _ _ _ hcn, hA2, hn2, hcap2]
      have hsl3 : ∀ W : World, (Instr.slice 29 (.slice (some ⟨b, f, none⟩) n' cap') (some (.int .i64 (c : Int))) none none).run Tryz.prog W = .ok (.slice A2 n2 cap2) W := fun W => by
        rw [← hsl2 W, run_sliceAt_slice W _ _ _ _ _ (show Tryz.prog.underlying 29 = some (.slice (Tryz.prog.elem 29)) by rw [show Tryz.prog.elem 29 = 5 by kernel_rfl]; exact Tryz.underlying29)]
      have r2 := r1.set 72 (.int .i64 (M2 : Int))
      rw [cellsOf_setn _ _ _ _ _ _ rfl pl] at r2
      have g2 := grow_setS g1 72 (.int .i64 (M2 : Int))
      -- what is left of the part
      have hml : (m' ++ r.take c).length = M2 := by rw [List.length_append, hM, List.length_take]; have := HSH.out.len; omega
      have hmr2 : (m' ++ r.take c) ++ r.drop c = m ++ p := by rw [List.append_assoc, List.take_append_drop]; exact hmr
      have hsh2 : Shows wr w.heap.size A2 n2 cap2 (r.drop c) := by
        have := HSH.out.drop hcn
        rw [hA2, hn2, hcap2] at this
        exact this
      have hne2 : ∀ a, A2 = some a → 0 < n2 → a.block ≠ g := by
        intro a ha _
        rw [← hA2] at ha
        split at ha
        · injection ha with ha; rw [← ha]; exact hbg
        · simp only [Option.map_some, Option.some.injEq] at ha; rw [← ha, Addr.add_lit]; exact hbg
      have hfold : folded (m' ++ r.take c) q = folded m' q := folded_take _ _ _ (by omega)
      have hqk : M2 = 64 * q + k + c := by omega
      have hkeep : ∀ W' : World, w.grownBy W' (some g) → Shows W' w.heap.size A2 n2 cap2 (r.drop c) := fun W' h => shows_at hsh2 fun a ha hp hlt =>
        (h.block _ hlt (fun e => hne2 a ha hp (Option.some.inj e))).trans (hgr.block _ hlt (fun e => hne2 a ha hp (Option.some.inj e))).symm
      have HX := Lib.hid (And.intro hmr2 (And.intro hml (And.intro hfold (And.intro hqk (And.intro pl pt)))))
      have R2 := Lib.hid r2
      clear hr2 hcnn hmr hlen hq hkk hM hot hc hcl pl pt hA2 hgr hsl hmod r1 g1 r2 hM2 hcap2 hml hmr2 hfold hsh2 hqk
      rcases Nat.lt_or_ge (k + c) 64 with hlt | hge
      · have hmod2 : ((M2 : Int)).tmod 64 = ((k + c : Nat) : Int) := by have hqk := HX.out.2.2.2.1; rw [Int.tmod_eq_emod_of_nonneg (by omega)]; omega
        obtain ⟨k2, hk2⟩ : ∃ x, k + c = x := ⟨_, rfl⟩
        rw [hk2] at hmod2
        have hk20 : ¬ (k2 : Int) = 0 := by omega
        have HLT := Lib.hid hlt
        clear hlt hk2
        go_wp2
        go_roundw
        case rel =>
          obtain ⟨hmr2, hml, hfold, hqk, pl, pt⟩ := HX.out
          have hlt := HLT.out
          refine ⟨A2, n2, cap2, m' ++ r.take c, r.drop c, rfl, hmr2, ⟨_, l, pl, hl, ?_, ?_⟩, hkeep _ g2, hne2, g2⟩
          · rw [hml, show M2 % 64 = k + c by omega, show M2 / 64 = q by omega]
            exact pt
          · rw [hml, show M2 / 64 = q by omega, hfold]
            exact R2.out
        case measure => simp; omega
      · have hmod2 : ((M2 : Int)).tmod 64 = 0 := by have hqk := HX.out.2.2.2.1; rw [Int.tmod_eq_emod_of_nonneg (by omega)]; omega
        go_wp2_with fail
        refine (fold_any g (folded m' q) _ l _ _ HX.out.2.2.2.2.1 hl R2.out (StepsAt.grown HK.out g2 hg) hg).mono ?_
        rintro _ W3 ⟨rfl, r3, g3⟩
        have g4 := grow_trans g2 g3 (.inl rfl)
        have R3 := Lib.hid r3
        clear r3 g2 g3
        go_wp2
        go_roundw
        case rel =>
          obtain ⟨hmr2, hml, hfold, hqk, pl, pt⟩ := HX.out
          refine ⟨A2, n2, cap2, m' ++ r.take c, r.drop c, rfl, hmr2, ⟨_, _, pl, pl, ?_, ?_⟩, hkeep _ g4, hne2, g4⟩
          · rw [hml, show M2 % 64 = 0 by omega, show M2 / 64 = q + 1 by omega, List.take_zero, List.drop_eq_nil_of_le (by omega)]
          · rw [hml, show M2 / 64 = q + 1 by omega]
            have e : folded (m' ++ r.take c) (q + 1) = comp (folded m' q) (splice o k (r.take c)) := by
              rw [show folded (m' ++ r.take c) (q + 1) = comp (folded (m' ++ r.take c) q) (((m' ++ r.take c).drop (64 * q)).take 64) from rfl, hfold, ← pt]
              rw [List.take_of_length_le (show (splice o k (r.take c)).length ≤ k + c by omega), List.take_of_length_le (show (splice o k (r.take c)).length ≤ 64 by omega)]
            rw [e]
            exact R3.out
        case measure => simp; omega
    · have hr0 : r = [] := List.eq_nil_of_length_eq_zero (by omega)
      rw [hr0, List.append_nil] at hmr
      have hS2 : Summer wr g m' := ⟨o, l, ho, hl, hot, hrow⟩
      rw [hmr] at hS2
      clear hmr hot hrow hr0 hlen hrl hpl hsh
      go_wp2
      exact bodyPost_end (results_none rfl _ _ _) rfl ⟨rfl, hS2, hgr⟩
end Go.Proofs.YtmebdnblobobnaaGreatDoor

namespace Go.Proofs.YtmebdnblobobnaaGreatDoor
set_option maxRecDepth 100000
open Go.RowKit _root_.Go.Proofs.YtmebdnblobobnaaGreatDoor.Wd _root_.Go.Proofs.YtmebdnblobobnaaGreatDoor.Nm _root_.Go.Proofs.YtmebdnblobobnaaGreatDoor.Cm Sm

theorem make_zeros (W : World) (z : Nat) (h : z ≤ 1000) : (Instr.makeSlice 29 (.int .i64 (z : Int)) (.int .i64 (z : Int))).run Tryz.prog W = .ok (.slice (some ⟨W.heap.size, 0, none⟩) z z) (W.alloc (.cells (bc (List.replicate z 0)).toArray 5)) := by
  obtain ⟨i0, hi0, hz0, hz1, hz2⟩ := info_parts infoByte
  have h := run_make (P := Tryz.prog) W 29 5 i0 _ Tryz.underlying29 hi0 hz0 .i64 .i64 z z (by omega) (by omega) (by rw [hz2]; omega) (by omega)
  simp only [Int.toNat_natCast] at h
  have e := Cz_zero (fun _ => 0) z
  rw [show #[Value.int .u8 0] = (Value.int .u8 0).cells from rfl] at e
  rw [h, hz1, ← e]
  simp [Cz, bc]
theorem Summer.alloc {w : World} {g : Nat} {m : List UInt8} (h : Summer w g m) (o : Obj) : Summer (w.alloc o) g m :=
  h.keep (by obtain ⟨_, _, _, _, _, h4⟩ := h; exact Below.heap_alloc w o g (Array.getElem?_eq_some_iff.1 h4).1)
theorem Summer.lt {w : World} {g : Nat} {m : List UInt8} (h : Summer w g m) : g < w.heap.size := by
  obtain ⟨_, _, _, _, _, h4⟩ := h; exact (Array.getElem?_eq_some_iff.1 h4).1
theorem Summer.n {w : World} {g : Nat} {m : List UInt8} (h : Summer w g m) : w.cell? ⟨g, 72, none⟩ = some (.int .i64 (m.length : Int)) := by
  obtain ⟨o, l, ho, hl, _, h4⟩ := h; exact Row.cell h4 (cellsOf_n _ _ _ _ _ rfl ho)
theorem grow_alloc {w w' : World} {r : Option Nat} (h : w.grownBy w' r) (o : Obj) : w.grownBy (w'.alloc o) r :=
  grow_trans h (below_grow (below_new (Below.refl _ _) o) r) (.inl rfl)
theorem StepsAt.keep {w w' : World} {g : Nat} (h : StepsAt w) (hg : w.grownBy w' (some g)) (h1 : 2 < g) : StepsAt w' := StepsAt.grown h hg h1

theorem Row.grown {w w' : World} {g G : Nat} {T : TypeId} {cs : List Value} (h : Row w G T cs) (hg : w.grownBy w' (some g)) (hne : G ≠ g) : Row w' G T cs :=
  (hg.block G h.lt (fun e => hne (Option.some.inj e))).trans h
/-- take, of bytes that were just laid. -/
theorem take_lit (g : Nat) (m l : List UInt8) (n G : Nat) (w : World) (cs : Array Value) (hcs : cs = (bc l).toArray) (hG : w.heap.size = G) (hn : l.length = n) (hS : Summer w g m) (hk : StepsAt w) (hg : 2 < g) (hsm : m.length ≤ 100000000000100) (hn2 : n ≤ 1000) :
    Calls Tryz.prog 99 #[.pointer (some ⟨g, 0, none⟩), .slice (some ⟨G, 0, none⟩) n n] (w.alloc (.cells cs 5)) fun e w' => e = .returned (.tuple #[]) ∧ Summer w' g (m ++ l) ∧ w.grownBy w' (some g) := by
  subst hcs hG hn
  have hs := shows_cells w 5 (0, 0) l (by omega)
  have e : (w.alloc (.cells (bc l).toArray 5)).heap.size = w.heap.size + 1 := by simp
  rw [← e] at hs
  have g1 : w.grownBy (w.alloc (.cells (bc l).toArray 5)) (some g) := grow_alloc (grow_refl w _) _
  refine (take_any g m l _ _ _ _ (hS.alloc _) hs (fun a ha _ => ?_) (hk.keep g1 hg) hg (by omega)).mono ?_
  · injection ha with ha
    subst ha
    have := hS.lt
    show w.heap.size ≠ g
    omega
  · rintro _ w' ⟨rfl, h2, h3⟩
    exact ⟨rfl, h2, grow_trans g1 h3 (.inl rfl)⟩

theorem grow_on {w a b : World} {g B : Nat} (h : w.grownBy a (some g)) (hb : Below B a b) (hB : w.heap.size ≤ B) : w.grownBy b (some g) :=
  ⟨hb.os.trans h.os, hb.tape.trans h.tape, hb.output.trans h.output, Nat.le_trans h.size hb.size, fun k hk hne => (hb.block k (by omega)).trans (h.block k hk hne)⟩
theorem splice_fill (S : List UInt8) (x n : Nat) (c : List UInt8) (hS : S.length = n) (hx : x + c.length ≤ n) (hc : (S.drop x).take c.length = c) :
    splice (S.take x ++ List.replicate (n - x) 0) x c = S.take (x + c.length) ++ List.replicate (n - (x + c.length)) 0 := by
  unfold splice
  have h1 : (S.take x).length = x := by rw [List.length_take]; omega
  rw [List.take_left' h1, List.drop_append, List.drop_eq_nil_of_le (by omega), List.nil_append, h1, List.drop_replicate, ← List.append_assoc]
  congr 1
  · rw [List.take_add, hc]
  · congr 1
    omega
theorem bc_splice (l : List UInt8) (k : Nat) (r : List UInt8) : splice (bc l) k (bc r) = bc (splice l k r) := by
  unfold splice
  simp [bc, List.map_take, List.map_drop]
theorem out_at (st : St) (j : Nat) (h : j < 8) : ((out st).drop (4 * j)).take 4 = beb (tn (st.list.getD j 0)) 4 := by
  match j, h with
  | 0, _ | 1, _ | 2, _ | 3, _ | 4, _ | 5, _ | 6, _ | 7, _ => rfl
theorem hash_cut (W : World) (g k : Nat) (x : Int) (hx : x = k) (h1 : k < 32) :
    (Instr.sliceAt 39 (.pointer (some ⟨g, 0, none⟩)) (some (.int .i64 x)) none none).run Tryz.prog W = .ok (.slice (some ⟨g, k, none⟩) (32 - k) (32 - k)) W := by
  subst hx
  have hL : Tryz.prog.arrayLen 39 = 32 := by kernel_rfl
  have hE : Tryz.prog.elem 39 = 5 := by kernel_rfl
  obtain ⟨i0, hi0, hz0, hz1, hz2⟩ := info_parts infoByte
  rw [run_sliceAt_array_l W _ _ (by rw [hL, hE]; exact Tryz.underlying39) .i64 k (by omega) (by rw [hL]; omega), hL, hE]
  simp [sizeOf, typeInfo, hi0, hz1, Result.andThen, slicedAt, Addr.add_mid]
  omega

set_option maxHeartbeats 2000000 in
theorem shaend_any (g : Nat) (m : List UInt8) (w : World) (hS : Summer w g m) (hk : StepsAt w) (hg : 2 < g) (hsm : m.length ≤ 100000000000000) :
    Calls Tryz.prog 100 #[.pointer (some ⟨g, 0, none⟩)] w fun e w' => e = .returned (.agg (bc (sha m)).toArray) ∧ w.grownBy w' (some g) := by
  obtain ⟨S, hSS⟩ : ∃ S, sha m = S := ⟨_, rfl⟩
  rw [hSS]
  have HSS := Lib.hid hSS
  clear hSS
  obtain ⟨M, hM⟩ : ∃ M, m.length = M := ⟨_, rfl⟩
  have hglt := hS.lt
  have hn0 := hS.n
  rw [hM] at hn0 hsm
  have h8 : (8 : Int) * (M : Int) % 18446744073709551616 = 8 * (M : Int) := by omega
  have HS := Lib.hid hS
  have HK := Lib.hid hk
  have HM := Lib.hid hM
  clear hS hk hM
  go_enter Tryz.func100, Tryz.ntmps100
  go_wp2_with fail
  have a1 : w.grownBy (w.alloc (.cells (bc (List.replicate 32 0)).toArray 39)) (some g) := grow_alloc (grow_refl w _) _
  have r1 : Row (w.alloc (.cells (bc (List.replicate 32 0)).toArray 39)) w.heap.size 39 (bc (List.replicate 32 0)) := Row.new w _ _
  refine (take_lit g m [128] 1 (w.heap.size + 1) (w.alloc (.cells (bc (List.replicate 32 0)).toArray 39)) _ rfl (by simp) rfl (HS.out.alloc _) (HK.out.keep a1 hg) hg (by rw [HM.out]; omega) (by omega)).mono ?_
  rintro _ W1 ⟨rfl, s1, g1⟩
  have r2 := r1.grown g1 (by omega)
  have g2 := grow_trans a1 g1 (.inl rfl)
  clear a1 r1 g1 hn0 HS
  have hn1 := s1.n
  obtain ⟨k, hk⟩ : ∃ k, (M + 1) % 64 = k := ⟨_, rfl⟩
  obtain ⟨z, hz⟩ : ∃ z, fill M = z := ⟨_, rfl⟩
  have hzk : (120 - k) % 64 = z := by rw [← hz, ← hk]; rfl
  have e1 : (m ++ [128]).length = M + 1 := by simp [HM.out]
  rw [e1] at hn1
  have hm1 : (((M + 1 : Nat) : Int)).tmod 64 = (k : Int) := by rw [Int.tmod_eq_emod_of_nonneg (by omega)]; omega
  have hm2 : ((120 : Int) - (k : Int)).tmod 64 = (z : Int) := by rw [Int.tmod_eq_emod_of_nonneg (by omega)]; omega
  have hz64 : z < 64 := by omega
  have hw : wrap64 ((120 : Int) - (k : Int)) = 120 - (k : Int) := by unfold wrap64; omega
  have hmk := fun W : World => make_zeros W z (by omega)
  obtain ⟨M1, hM1⟩ : ∃ x, M + 1 = x := ⟨_, rfl⟩
  rw [hM1] at hn1 hm1
  have S1 := Lib.hid s1
  have R2 := Lib.hid r2
  have HZ := Lib.hid hz
  clear s1 r2 hk hz hzk hM1 e1
  go_wp2_with fail
  refine (take_lit g (m ++ [128]) (List.replicate z 0) z W1.heap.size W1 _ rfl rfl (by simp) S1.out (HK.out.keep g2 hg) hg (by rw [List.length_append, HM.out]; simp; omega) (by omega)).mono ?_
  rintro _ W2 ⟨rfl, s2, g3⟩
  have r3 := R2.out.grown g3 (by omega)
  have g4 := grow_trans g2 g3 (.inl rfl)
  have S2 := Lib.hid s2
  have R3 := Lib.hid r3
  clear s2 r3 g2 g3 hn1 hm1 hm2 hw hmk S1 R2
  go_wp2_with fail
  refine (big_any (8 * (M : Int)) 8 (by omega) _).mono ?_
  rintro _ W3 ⟨rfl, rfl⟩
  go_wp2_with fail
  refine (take_lit g (m ++ [128] ++ List.replicate z 0) (beb (8 * (M : Int)) 8) 8 W2.heap.size W2 _ rfl rfl (by rw [beb_len]) S2.out (HK.out.keep g4 hg) hg (by simp [HM.out]; omega) (by omega)).mono ?_
  rintro _ W3 ⟨rfl, s3, g5⟩
  have r4 := R3.out.grown g5 (by omega)
  have g6 := grow_trans g4 g5 (.inl rfl)
  have hpad : m ++ [128] ++ List.replicate z 0 ++ beb (8 * (M : Int)) 8 = pad m := by
    unfold pad
    rw [HM.out, HZ.out]
    simp
  rw [hpad] at s3
  obtain ⟨o, l, ho, hl, _, hrow⟩ := s3
  have HF := Lib.hid (show out (folded (pad m) ((pad m).length / 64)) = S from HSS.out)
  generalize (pad m).length / 64 = q at hrow HF
  generalize folded (pad m) q = st at hrow HF
  generalize ((pad m).length : Int) = nn at hrow
  generalize sched l 64 = ws at hrow
  have HRG := Lib.hid (show World.rangeAt W3 g 0 (wc st.list) from Row.range hrow 0 _ (fun j v hj => by
    have hj8 : j < (wc st.list).length := (List.getElem?_eq_some_iff.1 hj).1
    rw [wc_len] at hj8
    rw [Nat.zero_add, cellsOf_get _ _ _ _ _ _ hj8, ← wc_get _ _ hj8]
    exact hj))
  have HI8 := Lib.hid (show (Tryz.prog.info? 70).map (·.size) = some (wc st.list).length by rw [wc_len, St.list_len]; kernel_rfl)
  have R4 := Lib.hid r4
  have hlt0 := r4.lt
  have hlt3 : W2.heap.size ≤ W3.heap.size := g5.size
  clear hpad hrow r4 g4 g5 S2 R3 HZ HSS HK HM
  go_wp2_with (refine wpList_load_mid rfl _ _ rfl g 0 rfl (wc st.list) _ (World.rangeAt_alloc HRG.out _) Tryz.underlying70 rfl HI8.out ?_)
  have hS32 : S.length = 32 := by rw [← HF.out, out_len]
  have HSL := Lib.hid hS32
  go_loopw [5, 6, 34] (fun _ _ i wr => ∃ j : Nat, j ≤ 8 ∧ i = .int .i64 j ∧ Row wr W3.heap.size 39 (bc (S.take (4 * j) ++ List.replicate (32 - 4 * j) 0)) ∧ Row wr w.heap.size 39 (bc (List.replicate 32 0)) ∧ w.grownBy wr (some g)) (fun _ _ i _ => 8 - (intOf i).toNat)
  case atStart =>
    refine ⟨0, by omega, rfl, ?_, R4.out.alloc _, grow_alloc g6 _⟩
    exact Row.new W3 _ (bc (List.replicate 32 0))
  case round =>
    clear g6
    obtain ⟨j, hj8, rfl, r1, r0, hgr⟩ := hrel
    by_cases hj : j < 8
    · have hx : ∀ W : World, (Instr.index 70 (.agg (wc st.list).toArray) (.int .i64 (j : Int))).run Tryz.prog W = .ok (.int .u32 (tn (st.list.getD j 0))) W := fun W =>
        index_cell W _ _ _ 8 Tryz.underlying70 Tryz.underlying67 (by kernel_rfl) (wc st.list) _ j rfl hj _ (wc_get st.list j hj)
      obtain ⟨x4, hx4⟩ : ∃ x, 4 * j = x := ⟨_, rfl⟩
      obtain ⟨d, hd⟩ : ∃ d, 32 - x4 = d := ⟨_, rfl⟩
      have hw4 : IntKind.i64.wrap (4 * (j : Int)) = (x4 : Int) := by rw [IntKind.wrap_i64]; omega
      have hsl : ∀ W : World, (Instr.sliceAt 39 (.pointer (some ⟨W3.heap.size, 0, none⟩)) (some (.int .i64 (x4 : Int))) none none).run Tryz.prog W = .ok (.slice (some ⟨W3.heap.size, x4, none⟩) d d) W := fun W => by
        rw [hash_cut W _ x4 _ rfl (by omega), hd]
      obtain ⟨wj, hwj⟩ : ∃ x, st.list.getD j 0 = x := ⟨_, rfl⟩
      have hcv : IntKind.u64.wrap (tn wj) = tn wj := by have := tn_bd wj; rw [IntKind.wrap_u64]; omega
      rw [hwj] at hx
      rw [hx4] at r1
      have hM0 : Row wr.drew w.heap.size 39 (bc (List.replicate 32 0)) ∧ w.grownBy wr.drew (some g) := ⟨r0, grow_drew hgr⟩
      have RD : Hid (Row wr.drew W3.heap.size 39 (bc (S.take x4 ++ List.replicate (32 - x4) 0))) := Lib.hid r1.drew
      have hHF : (S.drop x4).take 4 = beb (tn wj) 4 := by
        rw [← HF.out, ← hx4, ← hwj]
        exact out_at st j hj
      have F1 := Lib.hid (And.intro hx4 (And.intro hd (And.intro hwj hHF)))
      clear r1 r0 hgr hx4 hd hwj hHF
      go_wp2_with fail
      refine wp_region_held_drew (S := fun W => Row W w.heap.size 39 (bc (List.replicate 32 0)) ∧ w.grownBy W (some g)) (by kernel_rfl) hM0 (fun hH0 => ?_)
      refine wpAnyH_take (i := 0) (v := ?_) rfl (by kernel_rfl) (by kernel_rfl) (by kernel_rfl) (fun _ _ _ h => h) (Or.inl ⟨by rfl, ?_⟩) (by assumption) ?_
      rotate_left
      · intro w' hS'; go_simp; try exact rfl
      try simp only [Act.put, List.getElem_toArray, List.getElem_cons_zero, List.setIfInBounds_toArray, List.set_cons_zero, List.set_cons_succ]
      refine wpAnyH_take (i := 1) (v := ?_) rfl (by kernel_rfl) (by kernel_rfl) (by kernel_rfl) (fun _ _ _ h => h) (Or.inl ⟨by rfl, ?_⟩) (by assumption) ?_
      rotate_left
      · intro w' hS'; go_simp; try exact rfl
      try simp only [Act.put, List.getElem_toArray, List.getElem_cons_succ, List.getElem_cons_zero, List.setIfInBounds_toArray, List.set_cons_zero, List.set_cons_succ]
      refine wpAnyH_take (i := 2) (v := ?_) rfl (by kernel_rfl) (by kernel_rfl) (by kernel_rfl) (fun _ _ _ h => h) (Or.inl ⟨by rfl, ?_⟩) (by assumption) ?_
      rotate_left
      · intro w' hS'; go_simp; try exact rfl
      try simp only [Act.put, List.getElem_toArray, List.getElem_cons_succ, List.getElem_cons_zero, List.setIfInBounds_toArray, List.set_cons_zero, List.set_cons_succ]
      refine wpAnyH_take (i := 3) (v := ?_) rfl (by kernel_rfl) (by kernel_rfl) (by kernel_rfl) (fun _ _ _ h => h) (Or.inl ⟨by rfl, ?_⟩) (by assumption) ?_
      rotate_left
      · intro w' hS'; go_simp; try exact rfl
      try simp only [Act.put, List.getElem_toArray, List.getElem_cons_succ, List.getElem_cons_zero, List.setIfInBounds_toArray, List.set_cons_zero, List.set_cons_succ]
      refine wpAnyH_take (i := 4) (v := ?_) rfl (by kernel_rfl) (by kernel_rfl) (by kernel_rfl) (fun _ _ _ h => h) (Or.inl ⟨by rfl, ?_⟩) (by assumption) ?_
      rotate_left
      · intro w' hS'; go_simp; try exact rfl
      try simp only [Act.put, List.getElem_toArray, List.getElem_cons_succ, List.getElem_cons_zero, List.setIfInBounds_toArray, List.set_cons_zero, List.set_cons_succ]
      refine wpAnyH_ready (rs := [5]) (by kernel_rfl) (by simp) ?_
      refine AllReadyH.cons rfl (fun K hK => ?_) AllReadyH.nil
      go_simp
      refine (big_any (tn wj) 4 (by omega) _).mono ?_
      rintro _ wB ⟨rfl, rfl⟩
      have hnew := Row.new wr.drew 5 (bc (beb (tn wj) 4))
      go_wp2_with fail
      refine hK.out _ _ ⟨hH0.1.alloc _, grow_alloc hH0.2 _⟩ (fun hHB => ?_)
      clear hK K
      try simp only [Act.put, List.getElem_toArray, List.getElem_cons_succ, List.getElem_cons_zero, List.setIfInBounds_toArray, List.set_cons_zero, List.set_cons_succ]
      refine wpAnyH_ready (rs := [6]) (by kernel_rfl) (by simp) ?_
      refine AllReadyH.cons rfl (fun K hK => ?_) AllReadyH.nil
      have hlen4 : (bc (beb (tn wj) 4)).length = 4 := by rw [bc_len, beb_len]
      refine step_copy_splice rfl (.tmp 40) (.tmp 43) 29 29 rfl 5 Tryz.underlying29 (by kernel_rfl) _ _ d d 4 4 rfl rfl W3.heap.size x4 (bc (S.take x4 ++ List.replicate (32 - x4) 0)) 39 (RD.out.alloc _) (bc (beb (tn wj) 4)) ?_ ?_ ?_ (bc_one _) W3.heap.size _ (Below.refl _ _) (Nat.le_refl _) ?_
      · rw [hlen4]
        have := F1.out.2.1
        have := F1.out.1
        exact (Nat.min_eq_left (by omega)).symm
      · exact fun _ => ⟨rfl, ⟨wr.heap.size, 0, none⟩, rfl, fun j v hj => by rw [Addr.add_lit, Nat.zero_add]; exact Row.cell hnew hj⟩
      · rw [hlen4, bc_len, List.length_append, List.length_take, List.length_replicate, HSL.out]
        have := F1.out.1
        omega
      intro w' hg' hb'
      have hr' : Row w' W3.heap.size 39 (bc (S.take (x4 + 4) ++ List.replicate (32 - (x4 + 4)) 0)) := by
        obtain ⟨h1, h2, _, h4⟩ := F1.out
        have h := hg'.out
        rw [bc_splice, splice_fill S x4 32 (beb (tn wj) 4) HSL.out (by rw [beb_len]; omega) (by rw [beb_len]; exact h4), beb_len] at h
        exact h
      refine hK.out _ _ ⟨hHB.1.below hb' (by omega), grow_on hHB.2 hb' (by omega)⟩ (fun hHC => ?_)
      clear hK K
      try simp only [Act.put, List.getElem_toArray, List.getElem_cons_succ, List.getElem_cons_zero, List.setIfInBounds_toArray, List.set_cons_zero, List.set_cons_succ]
      refine wpAnyH_done (by kernel_rfl) ?_ _
      have R' := Lib.hid hr'
      clear hr' hg' hb' hnew
      go_wp2
      go_roundw
      case rel => exact ⟨j + 1, by omega, by go_num, by rw [show 4 * (j + 1) = x4 + 4 by have := F1.out.1; omega]; exact R'.out, hHC.1, hHC.2⟩
      case measure => simp [intOf]; omega
    · have hj2 : j = 8 := by omega
      rw [hj2, List.take_of_length_le (by rw [HSL.out]; decide), show List.replicate (32 - 4 * 8) (0 : UInt8) = [] from rfl, List.append_nil] at r1
      have HIH := Lib.hid (show (Tryz.prog.info? 39).map (·.size) = some (bc S).toArray.size by
        rw [List.size_toArray, bc_len, HSL.out]
        kernel_rfl)
      have HS0 := Lib.hid (show (bc (List.replicate 32 0)).toArray.size = (bc S).toArray.size by simp [bc_len, HSL.out])
      have HO := Lib.hid (all_oneCell_toArray (bc_one S))
      clear hj2 hj8
      go_wp2_with (first
        | (refine wpList_load_row rfl _ _ rfl W3.heap.size rfl _ _ (0, 0) _ r1 Tryz.underlying39 rfl HIH.out ?_)
        | (refine wpList_store_row rfl _ _ _ rfl w.heap.size _ rfl rfl _ _ r0 HIH.out HS0.out HO.out ?_))
      refine bodyPost_ret (v := .agg (bc S).toArray) ?_ rfl ⟨rfl, grow_on hgr (below_setRow (Below.refl _ _) (Nat.le_refl _) _) (Nat.le_refl _)⟩
      exact results_cell_row rfl _ _ w.heap.size 39 _ (0, 0) _ rfl (setRow_heap wr _ _ _ _ _ r0) Tryz.underlying39 rfl HIH.out
end Go.Proofs.YtmebdnblobobnaaGreatDoor

namespace Go.Proofs.YtmebdnblobobnaaGreatDoor
set_option maxRecDepth 100000
open Go.RowKit _root_.Go.Proofs.YtmebdnblobobnaaGreatDoor.Wd _root_.Go.Proofs.YtmebdnblobobnaaGreatDoor.Nm _root_.Go.Proofs.YtmebdnblobobnaaGreatDoor.Cm Sm

/-- The two tables of package sha. -/
def Tables (w : World) : Prop := StepsAt w ∧ w.rangeAt 0 0 (wc ini.list)
theorem Tables.lt {w : World} (h : Tables w) : 2 < w.heap.size := block_lt_of_cell (h.1 0 (by omega))
theorem Tables.below {w w' : World} (h : Tables w) (hb : Below w.heap.size w w') : Tables w' := by
  have := h.lt
  exact ⟨fun j hj => (hb.cell (p := ⟨2, j, none⟩) this).trans (h.1 j hj), range_below h.2 hb (by omega)⟩
def zero64 : List UInt8 := List.replicate 64 0
def zeroCells : List Value := cellsOf (List.replicate 8 0) zero64 0 zero64 (List.replicate 64 0)
def freshCells : List Value := cellsOf ini.list zero64 0 zero64 (List.replicate 64 0)
theorem zero_info : (Tryz.prog.info? 139).map (fun i => (i.zero, i.size)) = some (some (.agg zeroCells.toArray), 201) := by kernel_rfl
theorem built_fresh : Tryz.prog.built 139 [(0, .agg (wc ini.list).toArray)] = some freshCells.toArray := by kernel_rfl
theorem joined_len (ps : List Part) (h : ∀ p ∈ ps, p.l.length = p.n) : (joined ps).length = total ps := by
  induction ps with
  | nil => rfl
  | cons p r ih =>
    rw [joined, total, List.length_append, h p (List.mem_cons_self ..), ih (fun q hq => h q (List.mem_cons_of_mem _ hq))]
theorem joined_next2 (ps : List Part) (j : Nat) (h : j < ps.length) : joined (ps.take (j + 1)) = joined (ps.take j) ++ ps[j].l := joined_next ps j h
theorem Summer.fresh {w : World} {g : Nat} (h : Row w g 139 freshCells) : Summer w g [] :=
  ⟨zero64, zero64, rfl, rfl, rfl, by
    have e : sched zero64 64 = List.replicate 64 0 := sched_nought
    rw [e]
    exact h⟩

set_option maxHeartbeats 2000000 in
theorem shasum_any (A : Option Addr) (n cap : Nat) (ps : List Part) (w : World) (hs : LaidAt w w.heap.size A n ps) (ht : Tables w) (hn : n ≤ 1000000) (hsm : total ps ≤ 10000000000000) :
    Calls Tryz.prog 72 #[.slice A n cap] w fun e w' => e = .returned (.agg (bc (sha (joined ps))).toArray) ∧ Below w.heap.size w w' := by
  obtain ⟨S, hS⟩ : ∃ S, sha (joined ps) = S := ⟨_, rfl⟩
  obtain ⟨ZS, hZS⟩ : ∃ x, zeroCells.toArray = x := ⟨_, rfl⟩
  obtain ⟨IS, hIS⟩ : ∃ x, wc ini.list = x := ⟨_, rfl⟩
  obtain ⟨CS, hCS⟩ : ∃ x, freshCells = x := ⟨_, rfl⟩
  have hzi := zero_info
  have hbu := built_fresh
  have hr0 : w.rangeAt 0 0 (wc ini.list) := ht.2
  have hil : (Tryz.prog.info? 70).map (·.size) = some (wc ini.list).length := by kernel_rfl
  rw [hZS] at hzi
  rw [hIS] at hbu hr0 hil
  rw [hCS] at hbu
  rw [hS]
  obtain ⟨hz, hz2⟩ := zero_of_info hzi
  have hcsl : CS.toArray.size = 201 := by rw [← hCS]; decide +kernel
  have hzsl : ZS.size = 201 := by rw [← hZS]; decide +kernel
  have hone : CS.toArray.all (·.oneCell') = true := by rw [← hCS]; decide +kernel
  have HBU := Lib.hid (show (Tryz.prog.built 139 [(0, .agg IS.toArray)]).isSome = true by rw [hbu]; rfl)
  have HBV := Lib.hid (show (Tryz.prog.built 139 [(0, .agg IS.toArray)]).getD #[] = CS.toArray by rw [hbu]; rfl)
  have HR0 := Lib.hid hr0
  have HIL := Lib.hid hil
  have HZ2 := Lib.hid (show (Tryz.prog.info? 139).map (·.size) = some ((Tryz.prog.built 139 [(0, .agg IS.toArray)]).getD #[]).size by rw [hz2, hbu]; exact congrArg some hcsl.symm)
  have HZS := Lib.hid (show ZS.size = ((Tryz.prog.built 139 [(0, .agg IS.toArray)]).getD #[]).size by rw [hzsl, hbu]; exact hcsl.symm)
  have HONE := Lib.hid (show ((Tryz.prog.built 139 [(0, .agg IS.toArray)]).getD #[]).all (·.oneCell') = true by rw [hbu]; exact hone)
  have HCS := Lib.hid hCS
  have HS := Lib.hid hS
  have HT := Lib.hid ht
  have HP := Lib.hid hs
  have HTL := Lib.hid ht.lt
  clear hS hZS hIS hCS hzi hbu hr0 hil hz2 hcsl hzsl hone ht hs
  go_enter Tryz.func72, Tryz.ntmps72
  go_wp2_with (first
    | (refine wpList_load_mid rfl _ _ rfl 0 0 rfl IS _ (World.rangeAt_alloc HR0.out _) Tryz.underlying70 rfl HIL.out (wpList_build rfl 139 #[(0, .tmp 6)] rfl ?_ ?_); (focus (go_simp; exact HBU.out)))
    | (refine wpList_store_row rfl _ _ _ rfl (w.heap.size + 1) _ rfl rfl 139 ZS (heap_alloc2_new w _ _) HZ2.out HZS.out HONE.out ?_))
  have HBV2 := HBV
  go_loopw [5, 10] (fun _ i wr => ∃ j : Nat, j ≤ n ∧ i = .int .i64 j ∧ Summer wr (w.heap.size + 1) (joined (ps.take j)) ∧ Row wr w.heap.size 39 (bc (List.replicate 32 0)) ∧ Below w.heap.size w wr ∧ w.heap.size + 1 < wr.heap.size) (fun _ i _ => n - (intOf i).toNat)
  case atStart =>
    rw [HBV2.out]
    refine ⟨0, Nat.zero_le _, rfl, ?_, ?_, ?_, ?_⟩
    · refine Summer.fresh ?_
      rw [HCS.out]
      exact setRow_heap _ _ _ _ _ _ (heap_alloc2_new w _ _)
    · refine (setRow_other _ _ _ _ (by omega)).trans ?_
      exact (Row.new w 39 (bc (List.replicate 32 0))).alloc _
    · exact below_setRow (below_new (below_new (Below.refl _ _) _) _) (by omega) _
    · simp
  case round =>
    clear HBV2 HBV
    obtain ⟨j, hj, rfl, s1, r0, hb, hlt⟩ := hrel
    have HP2 := HP.out
    have hpl : ∀ p ∈ ps, p.l.length = p.n := fun p hp => (HP2.each p hp).len
    by_cases hjn : j < n
    · obtain ⟨g, o, rfl, hg, hc⟩ := HP2.spot (by omega)
      have hjl : j < ps.length := by have := HP2.len; omega
      have hcj : wr.cell? ⟨g, o + j, none⟩ = _ := (hb.cell (p := ⟨g, o + j, none⟩) hg).trans (hc j hjl)
      have hsh := (HP2.each ps[j] (List.getElem_mem hjl))
      have HJ := Lib.hid (joined_next ps j hjl)
      have h1 := total_next ps j hjl
      have h2 := total_le ps (j + 1)
      have h3 := total_le ps j
      have h4 : (joined (ps.take j)).length = total (ps.take j) := joined_len _ fun p hp => hpl p (List.mem_of_mem_take hp)
      generalize ps[j] = p at hcj hsh HJ h1
      obtain ⟨pA, pn, pc, pl⟩ := p
      simp only at hcj hsh HJ h1
      have hT := HT.out.below hb
      have hne : ∀ a, pA = some a → 0 < pn → a.block ≠ w.heap.size + 1 := fun a ha hp => by
        obtain ⟨g2, o2, e2, hg2, _⟩ := hsh.spot hp
        rw [ha] at e2
        injection e2 with e2
        rw [e2]
        show g2 ≠ _
        omega
      have TK := take_any (w.heap.size + 1) (joined (ps.take j)) pl pA pn pc wr s1 ((hsh.below hb).more hb.size) hne hT.1 (by have := HTL.out; omega) (by omega)
      have HTK := Lib.hid TK
      have R0 := Lib.hid r0
      clear TK s1 r0 h1 h2 h3 h4 hsh hne hT hpl HP2 hc
      go_wp2_with fail
      refine HTK.out.mono ?_
      rintro _ W2 ⟨rfl, s2, g2⟩
      have b2 : Below w.heap.size w W2 := hb.grown g2 hb.size (by intro k hk; injection hk; omega)
      have r2 := R0.out.grown g2 (by omega)
      have hl2 : w.heap.size + 1 < W2.heap.size := Nat.lt_of_lt_of_le hlt g2.size
      rw [← HJ.out] at s2
      have S2 := Lib.hid s2
      have R2 := Lib.hid r2
      clear s2 r2 g2
      go_wp2
      go_roundw
      case rel => exact ⟨j + 1, by omega, by go_num, S2.out, R2.out, b2, hl2⟩
      case measure => simp [intOf]; omega
    · have hj2 : j = n := by omega
      have hjl : ps.take j = ps := List.take_of_length_le (by have := HP2.len; omega)
      rw [hjl] at s1
      have hl : (joined ps).length ≤ 100000000000000 := by rw [joined_len ps hpl]; omega
      have EN := shaend_any (w.heap.size + 1) (joined ps) wr s1 (HT.out.below hb).1 (by have := HTL.out; omega) hl
      rw [HS.out] at EN
      have HEN := Lib.hid EN
      have HSL := Lib.hid (show S.length = 32 by rw [← HS.out, sha_len])
      have R0 := Lib.hid r0
      clear EN s1 r0 hl hj2 hjl hpl HP2 hj
      go_wp2_with fail
      refine HEN.out.mono ?_
      rintro _ W2 ⟨rfl, g2⟩
      have b2 : Below w.heap.size w W2 := hb.grown g2 hb.size (by intro k hk; injection hk; omega)
      have r2 := R0.out.grown g2 (by omega)
      have HIH := Lib.hid (show (Tryz.prog.info? 39).map (·.size) = some (bc S).toArray.size by
        rw [List.size_toArray, bc_len, HSL.out]
        kernel_rfl)
      have HS0 := Lib.hid (show (bc (List.replicate 32 0)).toArray.size = (bc S).toArray.size by simp [bc_len, HSL.out])
      have HO := Lib.hid (all_oneCell_toArray (bc_one S))
      go_wp2_with (refine wpList_store_row rfl _ _ _ rfl w.heap.size _ rfl rfl _ _ r2 HIH.out HS0.out HO.out ?_)
      refine bodyPost_ret (v := .agg (bc S).toArray) ?_ rfl ⟨rfl, below_setRow b2 (Nat.le_refl _) _⟩
      exact results_cell_row rfl _ _ w.heap.size 39 _ (0, 0) _ rfl (setRow_heap W2 _ _ _ _ _ r2) Tryz.underlying39 rfl HIH.out
end Go.Proofs.YtmebdnblobobnaaGreatDoor

