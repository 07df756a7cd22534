/- Contracts for a word turned to the right: package sha's right (over bits.RotateLeft32) and the reference's rot. -/
import Derived.Test.YtkclbhmjhjfgiaaDoorProg
import Derived.Test.YtkclbhmjhjfgiaaDoorU32
import Derived.Test.YtkclbhmjhjfgiaaDoorShaMath
import Derived.IntWalk
namespace Go.Proofs.YtkclbhmjhjfgiaaDoor
open Go.RowKit Wd Cm Sm

theorem ror_back (x : BitVec 32) (n m : Nat) (h : m + n = 32) : bits BinOp.or IntKind.u32 (tn x * 2 ^ m % 4294967296) (tn x / 2 ^ n) = tn (ror x n) := by
  rw [u32_shl, u32_shr, u32_or]
  unfold ror
  rw [BitVec.or_comm, show 32 - n = m by omega]
theorem ror_forth (x : BitVec 32) (n m : Nat) (h : m + n = 32) : bits BinOp.or IntKind.u32 (tn x / 2 ^ n) (tn x * 2 ^ m % 4294967296) = tn (ror x n) := by
  rw [u32_shl, u32_shr, u32_or]
  unfold ror
  rw [show 32 - n = m by omega]
theorem left_count (n m : Nat) (h0 : 0 < n) (h : m + n = 32) : bits BinOp.and IntKind.u64 (IntKind.u64.wrap (-(n : Int))) 31 = (m : Int) := by
  have hall : ∀ k : Nat, k < 33 → 0 < k → bits BinOp.and IntKind.u64 (IntKind.u64.wrap (-(k : Int))) 31 = ((32 - k : Nat) : Int) := by decide +kernel
  rw [hall n (by omega) h0, show 32 - n = m by omega]

theorem left_any (x : BitVec 32) (n : Nat) (h0 : 0 < n) (h1 : n < 32) (w : World) :
    Calls Tryd.prog 23 #[.int .u32 (tn x), .int .i64 (-(n : Int))] w fun e w' => e = .returned (.int .u32 (tn (ror x n))) ∧ w = w' := by
  obtain ⟨m, hm⟩ : ∃ m, m + n = 32 := ⟨32 - n, by omega⟩
  have hc := left_count n m h0 hm
  have h32 : (32 : Int) - (m : Int) = (n : Int) := by omega
  have h33 : IntKind.u64.wrap (n : Int) = (n : Int) := by rw [IntKind.wrap_u64]; omega
  have hr := Lib.hid (ror_back x n m hm)
  go_enter Tryd.func23, Tryd.ntmps23
  go_wp2
  go_ret
  exact ⟨by rw [← hr.out]; rfl, rfl⟩
theorem right_any (x : BitVec 32) (n : Nat) (h0 : 0 < n) (h1 : n < 32) (w : World) :
    Calls Tryd.prog 22 #[.int .u32 (tn x), .int .i64 (n : Int)] w fun e w' => e = .returned (.int .u32 (tn (ror x n))) ∧ w = w' := by
  have hw : wrap64 (-(n : Int)) = -(n : Int) := by unfold wrap64; omega
  go_enter Tryd.func22, Tryd.ntmps22
  go_wp2_with fail
  refine (left_any x n h0 h1 _).mono ?_
  rintro _ w1 ⟨rfl, rfl⟩
  go_wp2
  go_ret
  exact ⟨rfl, rfl⟩
theorem rot_any (x : BitVec 32) (n : Nat) (h0 : 0 < n) (h1 : n < 32) (w : World) :
    Calls Tryd.prog 17 #[.int .u32 (tn x), .int .u64 (n : Int)] w fun e w' => e = .returned (.int .u32 (tn (ror x n))) ∧ w = w' := by
  obtain ⟨m, hm⟩ : ∃ m, m + n = 32 := ⟨32 - n, by omega⟩
  have h32 : (32 : Int) - (n : Int) = (m : Int) := by omega
  have h33 : IntKind.u64.wrap (m : Int) = (m : Int) := by rw [IntKind.wrap_u64]; omega
  have hr := Lib.hid (ror_forth x n m hm)
  go_enter Tryd.func17, Tryd.ntmps17
  go_wp2
  go_ret
  exact ⟨by rw [← hr.out]; rfl, rfl⟩
theorem right_at (x : BitVec 32) (z : Int) (n : Nat) (hz : z = n) (h0 : 0 < n) (h1 : n < 32) (w : World) :
    Calls Tryd.prog 22 #[.int .u32 (tn x), .int .i64 z] w fun e w' => e = .returned (.int .u32 (tn (ror x n))) ∧ w = w' := by
  subst hz
  exact right_any x n h0 h1 w
theorem right_q (x : BitVec 32) (z : Int) (n : Nat) (hz : z = n) (h0 : 0 < n) (h1 : n < 32) (w : World) (q : Nat) :
    Calls Tryd.prog 22 #[.int .u32 (tn x), .int .i64 z] (w.drewN q) fun e w'' => e = .returned (.int .u32 (tn (ror x n))) ∧ ∃ m, w'' = w.drewN m :=
  (right_at x z n hz h0 h1 _).mono fun _ _ h => ⟨h.1, q, h.2.symm⟩
theorem right_2 (x : BitVec 32) (w : World) : Calls Tryd.prog 22 #[.int .u32 (tn x), .int .i64 2] w fun e w' => e = .returned (.int .u32 (tn (ror x 2))) ∧ w = w' := right_at x 2 2 rfl (by decide) (by decide) w
theorem rightq_2 (x : BitVec 32) (w : World) (q : Nat) : Calls Tryd.prog 22 #[.int .u32 (tn x), .int .i64 2] (w.drewN q) fun e w'' => e = .returned (.int .u32 (tn (ror x 2))) ∧ ∃ m, w'' = w.drewN m := right_q x 2 2 rfl (by decide) (by decide) w q
theorem right_3 (x : BitVec 32) (w : World) : Calls Tryd.prog 22 #[.int .u32 (tn x), .int .i64 3] w fun e w' => e = .returned (.int .u32 (tn (ror x 3))) ∧ w = w' := right_at x 3 3 rfl (by decide) (by decide) w
theorem rightq_3 (x : BitVec 32) (w : World) (q : Nat) : Calls Tryd.prog 22 #[.int .u32 (tn x), .int .i64 3] (w.drewN q) fun e w'' => e = .returned (.int .u32 (tn (ror x 3))) ∧ ∃ m, w'' = w.drewN m := right_q x 3 3 rfl (by decide) (by decide) w q
theorem right_6 (x : BitVec 32) (w : World) : Calls Tryd.prog 22 #[.int .u32 (tn x), .int .i64 6] w fun e w' => e = .returned (.int .u32 (tn (ror x 6))) ∧ w = w' := right_at x 6 6 rfl (by decide) (by decide) w
theorem rightq_6 (x : BitVec 32) (w : World) (q : Nat) : Calls Tryd.prog 22 #[.int .u32 (tn x), .int .i64 6] (w.drewN q) fun e w'' => e = .returned (.int .u32 (tn (ror x 6))) ∧ ∃ m, w'' = w.drewN m := right_q x 6 6 rfl (by decide) (by decide) w q
theorem right_7 (x : BitVec 32) (w : World) : Calls Tryd.prog 22 #[.int .u32 (tn x), .int .i64 7] w fun e w' => e = .returned (.int .u32 (tn (ror x 7))) ∧ w = w' := right_at x 7 7 rfl (by decide) (by decide) w
theorem rightq_7 (x : BitVec 32) (w : World) (q : Nat) : Calls Tryd.prog 22 #[.int .u32 (tn x), .int .i64 7] (w.drewN q) fun e w'' => e = .returned (.int .u32 (tn (ror x 7))) ∧ ∃ m, w'' = w.drewN m := right_q x 7 7 rfl (by decide) (by decide) w q
theorem right_10 (x : BitVec 32) (w : World) : Calls Tryd.prog 22 #[.int .u32 (tn x), .int .i64 10] w fun e w' => e = .returned (.int .u32 (tn (ror x 10))) ∧ w = w' := right_at x 10 10 rfl (by decide) (by decide) w
theorem rightq_10 (x : BitVec 32) (w : World) (q : Nat) : Calls Tryd.prog 22 #[.int .u32 (tn x), .int .i64 10] (w.drewN q) fun e w'' => e = .returned (.int .u32 (tn (ror x 10))) ∧ ∃ m, w'' = w.drewN m := right_q x 10 10 rfl (by decide) (by decide) w q
theorem right_11 (x : BitVec 32) (w : World) : Calls Tryd.prog 22 #[.int .u32 (tn x), .int .i64 11] w fun e w' => e = .returned (.int .u32 (tn (ror x 11))) ∧ w = w' := right_at x 11 11 rfl (by decide) (by decide) w
theorem rightq_11 (x : BitVec 32) (w : World) (q : Nat) : Calls Tryd.prog 22 #[.int .u32 (tn x), .int .i64 11] (w.drewN q) fun e w'' => e = .returned (.int .u32 (tn (ror x 11))) ∧ ∃ m, w'' = w.drewN m := right_q x 11 11 rfl (by decide) (by decide) w q
theorem right_13 (x : BitVec 32) (w : World) : Calls Tryd.prog 22 #[.int .u32 (tn x), .int .i64 13] w fun e w' => e = .returned (.int .u32 (tn (ror x 13))) ∧ w = w' := right_at x 13 13 rfl (by decide) (by decide) w
theorem rightq_13 (x : BitVec 32) (w : World) (q : Nat) : Calls Tryd.prog 22 #[.int .u32 (tn x), .int .i64 13] (w.drewN q) fun e w'' => e = .returned (.int .u32 (tn (ror x 13))) ∧ ∃ m, w'' = w.drewN m := right_q x 13 13 rfl (by decide) (by decide) w q
theorem right_17 (x : BitVec 32) (w : World) : Calls Tryd.prog 22 #[.int .u32 (tn x), .int .i64 17] w fun e w' => e = .returned (.int .u32 (tn (ror x 17))) ∧ w = w' := right_at x 17 17 rfl (by decide) (by decide) w
theorem rightq_17 (x : BitVec 32) (w : World) (q : Nat) : Calls Tryd.prog 22 #[.int .u32 (tn x), .int .i64 17] (w.drewN q) fun e w'' => e = .returned (.int .u32 (tn (ror x 17))) ∧ ∃ m, w'' = w.drewN m := right_q x 17 17 rfl (by decide) (by decide) w q
theorem right_18 (x : BitVec 32) (w : World) : Calls Tryd.prog 22 #[.int .u32 (tn x), .int .i64 18] w fun e w' => e = .returned (.int .u32 (tn (ror x 18))) ∧ w = w' := right_at x 18 18 rfl (by decide) (by decide) w
theorem rightq_18 (x : BitVec 32) (w : World) (q : Nat) : Calls Tryd.prog 22 #[.int .u32 (tn x), .int .i64 18] (w.drewN q) fun e w'' => e = .returned (.int .u32 (tn (ror x 18))) ∧ ∃ m, w'' = w.drewN m := right_q x 18 18 rfl (by decide) (by decide) w q
theorem right_19 (x : BitVec 32) (w : World) : Calls Tryd.prog 22 #[.int .u32 (tn x), .int .i64 19] w fun e w' => e = .returned (.int .u32 (tn (ror x 19))) ∧ w = w' := right_at x 19 19 rfl (by decide) (by decide) w
theorem rightq_19 (x : BitVec 32) (w : World) (q : Nat) : Calls Tryd.prog 22 #[.int .u32 (tn x), .int .i64 19] (w.drewN q) fun e w'' => e = .returned (.int .u32 (tn (ror x 19))) ∧ ∃ m, w'' = w.drewN m := right_q x 19 19 rfl (by decide) (by decide) w q
theorem right_22 (x : BitVec 32) (w : World) : Calls Tryd.prog 22 #[.int .u32 (tn x), .int .i64 22] w fun e w' => e = .returned (.int .u32 (tn (ror x 22))) ∧ w = w' := right_at x 22 22 rfl (by decide) (by decide) w
theorem rightq_22 (x : BitVec 32) (w : World) (q : Nat) : Calls Tryd.prog 22 #[.int .u32 (tn x), .int .i64 22] (w.drewN q) fun e w'' => e = .returned (.int .u32 (tn (ror x 22))) ∧ ∃ m, w'' = w.drewN m := right_q x 22 22 rfl (by decide) (by decide) w q
theorem right_25 (x : BitVec 32) (w : World) : Calls Tryd.prog 22 #[.int .u32 (tn x), .int .i64 25] w fun e w' => e = .returned (.int .u32 (tn (ror x 25))) ∧ w = w' := right_at x 25 25 rfl (by decide) (by decide) w
theorem rightq_25 (x : BitVec 32) (w : World) (q : Nat) : Calls Tryd.prog 22 #[.int .u32 (tn x), .int .i64 25] (w.drewN q) fun e w'' => e = .returned (.int .u32 (tn (ror x 25))) ∧ ∃ m, w'' = w.drewN m := right_q x 25 25 rfl (by decide) (by decide) w q
theorem rot_at (x : BitVec 32) (z : Int) (n : Nat) (hz : z = n) (h0 : 0 < n) (h1 : n < 32) (w : World) :
    Calls Tryd.prog 17 #[.int .u32 (tn x), .int .u64 z] w fun e w' => e = .returned (.int .u32 (tn (ror x n))) ∧ w = w' := by
  subst hz
  exact rot_any x n h0 h1 w
theorem rot_q (x : BitVec 32) (z : Int) (n : Nat) (hz : z = n) (h0 : 0 < n) (h1 : n < 32) (w : World) (q : Nat) :
    Calls Tryd.prog 17 #[.int .u32 (tn x), .int .u64 z] (w.drewN q) fun e w'' => e = .returned (.int .u32 (tn (ror x n))) ∧ ∃ m, w'' = w.drewN m :=
  (rot_at x z n hz h0 h1 _).mono fun _ _ h => ⟨h.1, q, h.2.symm⟩
theorem rot_2 (x : BitVec 32) (w : World) : Calls Tryd.prog 17 #[.int .u32 (tn x), .int .u64 2] w fun e w' => e = .returned (.int .u32 (tn (ror x 2))) ∧ w = w' := rot_at x 2 2 rfl (by decide) (by decide) w
theorem rotq_2 (x : BitVec 32) (w : World) (q : Nat) : Calls Tryd.prog 17 #[.int .u32 (tn x), .int .u64 2] (w.drewN q) fun e w'' => e = .returned (.int .u32 (tn (ror x 2))) ∧ ∃ m, w'' = w.drewN m := rot_q x 2 2 rfl (by decide) (by decide) w q
theorem rot_3 (x : BitVec 32) (w : World) : Calls Tryd.prog 17 #[.int .u32 (tn x), .int .u64 3] w fun e w' => e = .returned (.int .u32 (tn (ror x 3))) ∧ w = w' := rot_at x 3 3 rfl (by decide) (by decide) w
theorem rotq_3 (x : BitVec 32) (w : World) (q : Nat) : Calls Tryd.prog 17 #[.int .u32 (tn x), .int .u64 3] (w.drewN q) fun e w'' => e = .returned (.int .u32 (tn (ror x 3))) ∧ ∃ m, w'' = w.drewN m := rot_q x 3 3 rfl (by decide) (by decide) w q
theorem rot_6 (x : BitVec 32) (w : World) : Calls Tryd.prog 17 #[.int .u32 (tn x), .int .u64 6] w fun e w' => e = .returned (.int .u32 (tn (ror x 6))) ∧ w = w' := rot_at x 6 6 rfl (by decide) (by decide) w
theorem rotq_6 (x : BitVec 32) (w : World) (q : Nat) : Calls Tryd.prog 17 #[.int .u32 (tn x), .int .u64 6] (w.drewN q) fun e w'' => e = .returned (.int .u32 (tn (ror x 6))) ∧ ∃ m, w'' = w.drewN m := rot_q x 6 6 rfl (by decide) (by decide) w q
theorem rot_7 (x : BitVec 32) (w : World) : Calls Tryd.prog 17 #[.int .u32 (tn x), .int .u64 7] w fun e w' => e = .returned (.int .u32 (tn (ror x 7))) ∧ w = w' := rot_at x 7 7 rfl (by decide) (by decide) w
theorem rotq_7 (x : BitVec 32) (w : World) (q : Nat) : Calls Tryd.prog 17 #[.int .u32 (tn x), .int .u64 7] (w.drewN q) fun e w'' => e = .returned (.int .u32 (tn (ror x 7))) ∧ ∃ m, w'' = w.drewN m := rot_q x 7 7 rfl (by decide) (by decide) w q
theorem rot_10 (x : BitVec 32) (w : World) : Calls Tryd.prog 17 #[.int .u32 (tn x), .int .u64 10] w fun e w' => e = .returned (.int .u32 (tn (ror x 10))) ∧ w = w' := rot_at x 10 10 rfl (by decide) (by decide) w
theorem rotq_10 (x : BitVec 32) (w : World) (q : Nat) : Calls Tryd.prog 17 #[.int .u32 (tn x), .int .u64 10] (w.drewN q) fun e w'' => e = .returned (.int .u32 (tn (ror x 10))) ∧ ∃ m, w'' = w.drewN m := rot_q x 10 10 rfl (by decide) (by decide) w q
theorem rot_11 (x : BitVec 32) (w : World) : Calls Tryd.prog 17 #[.int .u32 (tn x), .int .u64 11] w fun e w' => e = .returned (.int .u32 (tn (ror x 11))) ∧ w = w' := rot_at x 11 11 rfl (by decide) (by decide) w
theorem rotq_11 (x : BitVec 32) (w : World) (q : Nat) : Calls Tryd.prog 17 #[.int .u32 (tn x), .int .u64 11] (w.drewN q) fun e w'' => e = .returned (.int .u32 (tn (ror x 11))) ∧ ∃ m, w'' = w.drewN m := rot_q x 11 11 rfl (by decide) (by decide) w q
theorem rot_13 (x : BitVec 32) (w : World) : Calls Tryd.prog 17 #[.int .u32 (tn x), .int .u64 13] w fun e w' => e = .returned (.int .u32 (tn (ror x 13))) ∧ w = w' := rot_at x 13 13 rfl (by decide) (by decide) w
theorem rotq_13 (x : BitVec 32) (w : World) (q : Nat) : Calls Tryd.prog 17 #[.int .u32 (tn x), .int .u64 13] (w.drewN q) fun e w'' => e = .returned (.int .u32 (tn (ror x 13))) ∧ ∃ m, w'' = w.drewN m := rot_q x 13 13 rfl (by decide) (by decide) w q
theorem rot_17 (x : BitVec 32) (w : World) : Calls Tryd.prog 17 #[.int .u32 (tn x), .int .u64 17] w fun e w' => e = .returned (.int .u32 (tn (ror x 17))) ∧ w = w' := rot_at x 17 17 rfl (by decide) (by decide) w
theorem rotq_17 (x : BitVec 32) (w : World) (q : Nat) : Calls Tryd.prog 17 #[.int .u32 (tn x), .int .u64 17] (w.drewN q) fun e w'' => e = .returned (.int .u32 (tn (ror x 17))) ∧ ∃ m, w'' = w.drewN m := rot_q x 17 17 rfl (by decide) (by decide) w q
theorem rot_18 (x : BitVec 32) (w : World) : Calls Tryd.prog 17 #[.int .u32 (tn x), .int .u64 18] w fun e w' => e = .returned (.int .u32 (tn (ror x 18))) ∧ w = w' := rot_at x 18 18 rfl (by decide) (by decide) w
theorem rotq_18 (x : BitVec 32) (w : World) (q : Nat) : Calls Tryd.prog 17 #[.int .u32 (tn x), .int .u64 18] (w.drewN q) fun e w'' => e = .returned (.int .u32 (tn (ror x 18))) ∧ ∃ m, w'' = w.drewN m := rot_q x 18 18 rfl (by decide) (by decide) w q
theorem rot_19 (x : BitVec 32) (w : World) : Calls Tryd.prog 17 #[.int .u32 (tn x), .int .u64 19] w fun e w' => e = .returned (.int .u32 (tn (ror x 19))) ∧ w = w' := rot_at x 19 19 rfl (by decide) (by decide) w
theorem rotq_19 (x : BitVec 32) (w : World) (q : Nat) : Calls Tryd.prog 17 #[.int .u32 (tn x), .int .u64 19] (w.drewN q) fun e w'' => e = .returned (.int .u32 (tn (ror x 19))) ∧ ∃ m, w'' = w.drewN m := rot_q x 19 19 rfl (by decide) (by decide) w q
theorem rot_22 (x : BitVec 32) (w : World) : Calls Tryd.prog 17 #[.int .u32 (tn x), .int .u64 22] w fun e w' => e = .returned (.int .u32 (tn (ror x 22))) ∧ w = w' := rot_at x 22 22 rfl (by decide) (by decide) w
theorem rotq_22 (x : BitVec 32) (w : World) (q : Nat) : Calls Tryd.prog 17 #[.int .u32 (tn x), .int .u64 22] (w.drewN q) fun e w'' => e = .returned (.int .u32 (tn (ror x 22))) ∧ ∃ m, w'' = w.drewN m := rot_q x 22 22 rfl (by decide) (by decide) w q
theorem rot_25 (x : BitVec 32) (w : World) : Calls Tryd.prog 17 #[.int .u32 (tn x), .int .u64 25] w fun e w' => e = .returned (.int .u32 (tn (ror x 25))) ∧ w = w' := rot_at x 25 25 rfl (by decide) (by decide) w
theorem rotq_25 (x : BitVec 32) (w : World) (q : Nat) : Calls Tryd.prog 17 #[.int .u32 (tn x), .int .u64 25] (w.drewN q) fun e w'' => e = .returned (.int .u32 (tn (ror x 25))) ∧ ∃ m, w'' = w.drewN m := rot_q x 25 25 rfl (by decide) (by decide) w q
end Go.Proofs.YtkclbhmjhjfgiaaDoor
