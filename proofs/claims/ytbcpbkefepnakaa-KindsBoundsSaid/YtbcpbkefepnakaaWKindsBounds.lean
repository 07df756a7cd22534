/- The walk of the law KindsBounds: values at the ends of each kind stay, those beyond come in from the other end. -/
import Derived.Test.YtbcpbkefepnakaaKindsBase
namespace Go.Proofs.Ytbcpbkefepnakaa
set_option maxRecDepth 100000
open Go.RowKit

theorem wrapv_any (k n v : Int) (w : World) (h : wrapK k n = v) : Calls Try.prog 7 #[.int .i64 k, .int .i64 n] w fun e w' => e = .returned (.int .i64 v) ∧ w = w' := by
  rw [← h]; exact wrap7_any k n w
theorem wrapt_any (n : Int) (w : World) : Calls Try.prog 7 #[.int .i64 6, .int .i64 n] w fun e w' => e = .returned (.int .i64 n) ∧ w = w' :=
  wrapv_any 6 n n w (by unfold wrapK; simp)
theorem wk1 (n : Int) : wrapK 1 n = if n = 0 then 0 else 1 := by unfold wrapK; simp
theorem wk2 (n : Int) : wrapK 2 n = n % 256 := by unfold wrapK; simp
theorem wk3 (n : Int) : wrapK 3 n = n % 65536 := by unfold wrapK; simp
theorem wk4 (n : Int) : wrapK 4 n = (n + 32768) % 65536 - 32768 := by unfold wrapK; simp
theorem wk5 (n : Int) : wrapK 5 n = (n + 2147483648) % 4294967296 - 2147483648 := by unfold wrapK; simp

set_option maxHeartbeats 2000000 in
theorem bounds1_walk (k n : Int) (w : World) (hk : k % 5 = 0) :
    Calls Try.prog 4 #[.int .i64 k, .int .i64 n] w fun e w' => e = .returned (.bool true) ∧ Below w.heap.size w w' := by
  have h1 := Int.emod_nonneg n (show (100 : Int) ≠ 0 by decide)
  have h2 := Int.emod_lt_of_pos n (show (0 : Int) < 100 by decide)
  obtain ⟨r, hr⟩ : ∃ r, n % 100 = r := ⟨_, rfl⟩
  rw [hr] at h1 h2
  have HR := Lib.hid hr
  have HK := Lib.hid hk
  clear hr hk
  go_enter Try.func4, Try.ntmps4
  go_wp2_with fail
  refine (known7_any _).mono ?_
  rintro _ w1 ⟨rfl, hb⟩
  have HBB := Lib.hid hb
  clear hb
  go_wp2_with fail
  refine (within7_any k 5 _ (by decide) (by decide)).mono ?_
  rintro _ w2 ⟨rfl, rfl⟩
  rw [HK.out]
  go_wp2_with fail
  refine (within7_any n 100 _ (by decide) (by decide)).mono ?_
  rintro _ w2 ⟨rfl, rfl⟩
  rw [HR.out]
  go_wp2_with fail
  refine (wrapv_any 1 _ 0 _ (by rw [wk1]; first | rfl | exact if_neg (by omega))).mono ?_
  rintro _ w2 ⟨rfl, rfl⟩
  go_wp2_with fail
  refine (wrapv_any 1 _ 1 _ (by rw [wk1]; first | rfl | exact if_neg (by omega))).mono ?_
  rintro _ w2 ⟨rfl, rfl⟩
  go_wp2_with fail
  refine (wrapt_any _ _).mono ?_
  rintro _ w2 ⟨rfl, rfl⟩
  go_wp2_with fail
  refine (wrapv_any 1 _ 1 _ (by rw [wk1]; first | rfl | exact if_neg (by omega))).mono ?_
  rintro _ w2 ⟨rfl, rfl⟩
  go_wp2_with fail
  refine (wrapv_any 1 _ 1 _ (by rw [wk1]; first | rfl | exact if_neg (by omega))).mono ?_
  rintro _ w2 ⟨rfl, rfl⟩
  go_wp2_with fail
  go_ret
  exact ⟨rfl, below_new7 (below_new7 HBB.out _) _⟩
set_option maxHeartbeats 2000000 in
theorem bounds2_walk (k n : Int) (w : World) (hk : k % 5 = 1) :
    Calls Try.prog 4 #[.int .i64 k, .int .i64 n] w fun e w' => e = .returned (.bool true) ∧ Below w.heap.size w w' := by
  have h1 := Int.emod_nonneg n (show (100 : Int) ≠ 0 by decide)
  have h2 := Int.emod_lt_of_pos n (show (0 : Int) < 100 by decide)
  obtain ⟨r, hr⟩ : ∃ r, n % 100 = r := ⟨_, rfl⟩
  rw [hr] at h1 h2
  have HR := Lib.hid hr
  have HK := Lib.hid hk
  clear hr hk
  go_enter Try.func4, Try.ntmps4
  go_wp2_with fail
  refine (known7_any _).mono ?_
  rintro _ w1 ⟨rfl, hb⟩
  have HBB := Lib.hid hb
  clear hb
  go_wp2_with fail
  refine (within7_any k 5 _ (by decide) (by decide)).mono ?_
  rintro _ w2 ⟨rfl, rfl⟩
  rw [HK.out]
  go_wp2_with fail
  refine (within7_any n 100 _ (by decide) (by decide)).mono ?_
  rintro _ w2 ⟨rfl, rfl⟩
  rw [HR.out]
  go_wp2_with fail
  refine (wrapv_any 2 _ 0 _ (by rw [wk2]; omega)).mono ?_
  rintro _ w2 ⟨rfl, rfl⟩
  go_wp2_with fail
  refine (wrapv_any 2 _ 255 _ (by rw [wk2]; omega)).mono ?_
  rintro _ w2 ⟨rfl, rfl⟩
  go_wp2_with fail
  refine (wrapt_any _ _).mono ?_
  rintro _ w2 ⟨rfl, rfl⟩
  go_wp2_with fail
  refine (wrapv_any 2 _ 0 _ (by rw [wk2]; omega)).mono ?_
  rintro _ w2 ⟨rfl, rfl⟩
  go_wp2_with fail
  refine (wrapv_any 2 _ 255 _ (by rw [wk2]; omega)).mono ?_
  rintro _ w2 ⟨rfl, rfl⟩
  go_wp2_with fail
  refine (wrapv_any 2 _ 0 _ (by rw [wk2]; omega)).mono ?_
  rintro _ w2 ⟨rfl, rfl⟩
  go_wp2_with fail
  refine (wrapv_any 2 _ 255 _ (by rw [wk2]; omega)).mono ?_
  rintro _ w2 ⟨rfl, rfl⟩
  go_wp2_with fail
  go_ret
  exact ⟨rfl, below_new7 (below_new7 HBB.out _) _⟩
set_option maxHeartbeats 2000000 in
theorem bounds3_walk (k n : Int) (w : World) (hk : k % 5 = 2) :
    Calls Try.prog 4 #[.int .i64 k, .int .i64 n] w fun e w' => e = .returned (.bool true) ∧ Below w.heap.size w w' := by
  have h1 := Int.emod_nonneg n (show (100 : Int) ≠ 0 by decide)
  have h2 := Int.emod_lt_of_pos n (show (0 : Int) < 100 by decide)
  obtain ⟨r, hr⟩ : ∃ r, n % 100 = r := ⟨_, rfl⟩
  rw [hr] at h1 h2
  have HR := Lib.hid hr
  have HK := Lib.hid hk
  clear hr hk
  go_enter Try.func4, Try.ntmps4
  go_wp2_with fail
  refine (known7_any _).mono ?_
  rintro _ w1 ⟨rfl, hb⟩
  have HBB := Lib.hid hb
  clear hb
  go_wp2_with fail
  refine (within7_any k 5 _ (by decide) (by decide)).mono ?_
  rintro _ w2 ⟨rfl, rfl⟩
  rw [HK.out]
  go_wp2_with fail
  refine (within7_any n 100 _ (by decide) (by decide)).mono ?_
  rintro _ w2 ⟨rfl, rfl⟩
  rw [HR.out]
  go_wp2_with fail
  refine (wrapv_any 3 _ 0 _ (by rw [wk3]; omega)).mono ?_
  rintro _ w2 ⟨rfl, rfl⟩
  go_wp2_with fail
  refine (wrapv_any 3 _ 65535 _ (by rw [wk3]; omega)).mono ?_
  rintro _ w2 ⟨rfl, rfl⟩
  go_wp2_with fail
  refine (wrapt_any _ _).mono ?_
  rintro _ w2 ⟨rfl, rfl⟩
  go_wp2_with fail
  refine (wrapv_any 3 _ 0 _ (by rw [wk3]; omega)).mono ?_
  rintro _ w2 ⟨rfl, rfl⟩
  go_wp2_with fail
  refine (wrapv_any 3 _ 65535 _ (by rw [wk3]; omega)).mono ?_
  rintro _ w2 ⟨rfl, rfl⟩
  go_wp2_with fail
  refine (wrapv_any 3 _ 0 _ (by rw [wk3]; omega)).mono ?_
  rintro _ w2 ⟨rfl, rfl⟩
  go_wp2_with fail
  refine (wrapv_any 3 _ 65535 _ (by rw [wk3]; omega)).mono ?_
  rintro _ w2 ⟨rfl, rfl⟩
  go_wp2_with fail
  go_ret
  exact ⟨rfl, below_new7 (below_new7 HBB.out _) _⟩
set_option maxHeartbeats 2000000 in
theorem bounds4_walk (k n : Int) (w : World) (hk : k % 5 = 3) :
    Calls Try.prog 4 #[.int .i64 k, .int .i64 n] w fun e w' => e = .returned (.bool true) ∧ Below w.heap.size w w' := by
  have h1 := Int.emod_nonneg n (show (100 : Int) ≠ 0 by decide)
  have h2 := Int.emod_lt_of_pos n (show (0 : Int) < 100 by decide)
  obtain ⟨r, hr⟩ : ∃ r, n % 100 = r := ⟨_, rfl⟩
  rw [hr] at h1 h2
  have HR := Lib.hid hr
  have HK := Lib.hid hk
  clear hr hk
  go_enter Try.func4, Try.ntmps4
  go_wp2_with fail
  refine (known7_any _).mono ?_
  rintro _ w1 ⟨rfl, hb⟩
  have HBB := Lib.hid hb
  clear hb
  go_wp2_with fail
  refine (within7_any k 5 _ (by decide) (by decide)).mono ?_
  rintro _ w2 ⟨rfl, rfl⟩
  rw [HK.out]
  go_wp2_with fail
  refine (within7_any n 100 _ (by decide) (by decide)).mono ?_
  rintro _ w2 ⟨rfl, rfl⟩
  rw [HR.out]
  go_wp2_with fail
  refine (wrapv_any 4 _ (-32768) _ (by rw [wk4]; omega)).mono ?_
  rintro _ w2 ⟨rfl, rfl⟩
  go_wp2_with fail
  refine (wrapv_any 4 _ 32767 _ (by rw [wk4]; omega)).mono ?_
  rintro _ w2 ⟨rfl, rfl⟩
  go_wp2_with fail
  refine (wrapt_any _ _).mono ?_
  rintro _ w2 ⟨rfl, rfl⟩
  go_wp2_with fail
  refine (wrapv_any 4 _ (-32768) _ (by rw [wk4]; omega)).mono ?_
  rintro _ w2 ⟨rfl, rfl⟩
  go_wp2_with fail
  refine (wrapv_any 4 _ 32767 _ (by rw [wk4]; omega)).mono ?_
  rintro _ w2 ⟨rfl, rfl⟩
  go_wp2_with fail
  refine (wrapv_any 4 _ (-32768) _ (by rw [wk4]; omega)).mono ?_
  rintro _ w2 ⟨rfl, rfl⟩
  go_wp2_with fail
  refine (wrapv_any 4 _ 32767 _ (by rw [wk4]; omega)).mono ?_
  rintro _ w2 ⟨rfl, rfl⟩
  go_wp2_with fail
  go_ret
  exact ⟨rfl, below_new7 (below_new7 HBB.out _) _⟩
set_option maxHeartbeats 2000000 in
theorem bounds5_walk (k n : Int) (w : World) (hk : k % 5 = 4) :
    Calls Try.prog 4 #[.int .i64 k, .int .i64 n] w fun e w' => e = .returned (.bool true) ∧ Below w.heap.size w w' := by
  have h1 := Int.emod_nonneg n (show (100 : Int) ≠ 0 by decide)
  have h2 := Int.emod_lt_of_pos n (show (0 : Int) < 100 by decide)
  obtain ⟨r, hr⟩ : ∃ r, n % 100 = r := ⟨_, rfl⟩
  rw [hr] at h1 h2
  have HR := Lib.hid hr
  have HK := Lib.hid hk
  clear hr hk
  go_enter Try.func4, Try.ntmps4
  go_wp2_with fail
  refine (known7_any _).mono ?_
  rintro _ w1 ⟨rfl, hb⟩
  have HBB := Lib.hid hb
  clear hb
  go_wp2_with fail
  refine (within7_any k 5 _ (by decide) (by decide)).mono ?_
  rintro _ w2 ⟨rfl, rfl⟩
  rw [HK.out]
  go_wp2_with fail
  refine (within7_any n 100 _ (by decide) (by decide)).mono ?_
  rintro _ w2 ⟨rfl, rfl⟩
  rw [HR.out]
  go_wp2_with fail
  refine (wrapv_any 5 _ (-2147483648) _ (by rw [wk5]; omega)).mono ?_
  rintro _ w2 ⟨rfl, rfl⟩
  go_wp2_with fail
  refine (wrapv_any 5 _ 2147483647 _ (by rw [wk5]; omega)).mono ?_
  rintro _ w2 ⟨rfl, rfl⟩
  go_wp2_with fail
  refine (wrapt_any _ _).mono ?_
  rintro _ w2 ⟨rfl, rfl⟩
  go_wp2_with fail
  refine (wrapv_any 5 _ (-2147483648) _ (by rw [wk5]; omega)).mono ?_
  rintro _ w2 ⟨rfl, rfl⟩
  go_wp2_with fail
  refine (wrapv_any 5 _ 2147483647 _ (by rw [wk5]; omega)).mono ?_
  rintro _ w2 ⟨rfl, rfl⟩
  go_wp2_with fail
  refine (wrapv_any 5 _ (-2147483648) _ (by rw [wk5]; omega)).mono ?_
  rintro _ w2 ⟨rfl, rfl⟩
  go_wp2_with fail
  refine (wrapv_any 5 _ 2147483647 _ (by rw [wk5]; omega)).mono ?_
  rintro _ w2 ⟨rfl, rfl⟩
  go_wp2_with fail
  go_ret
  exact ⟨rfl, below_new7 (below_new7 HBB.out _) _⟩
theorem kindsBounds_walk (k n : Int) (w : World) (_hk : (Lit.int .i64 k).wf = true) (_hn : (Lit.int .i64 n).wf = true) :
    Calls Try.prog 4 #[.int .i64 k, .int .i64 n] w fun e w' => e = .returned (.bool true) ∧ Below w.heap.size w w' := by
  have h1 := Int.emod_nonneg k (show (5 : Int) ≠ 0 by decide)
  have h2 := Int.emod_lt_of_pos k (show (0 : Int) < 5 by decide)
  have : k % 5 = 0 ∨ k % 5 = 1 ∨ k % 5 = 2 ∨ k % 5 = 3 ∨ k % 5 = 4 := by omega
  rcases this with h | h | h | h | h
  · exact bounds1_walk k n w h
  · exact bounds2_walk k n w h
  · exact bounds3_walk k n w h
  · exact bounds4_walk k n w h
  · exact bounds5_walk k n w h
end Go.Proofs.Ytbcpbkefepnakaa
