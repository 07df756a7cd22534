/- Chapter 7: numbers as values of kinds, plainly, and what the laws share. -/
import Derived.Test.YtbcpbkefepnakaaChecked
import Derived.WalkKit
import Derived.ProofKit
import Derived.Below
import Derived.IntWalk
import Derived.Lib.Hide
namespace Go.Proofs.Ytbcpbkefepnakaa
set_option maxRecDepth 100000
open Go.RowKit

/-- A number as a value of a kind. -/
def wrapK (k n : Int) : Int :=
  if k = 1 then (if n = 0 then 0 else 1) else if k = 2 then n % 256 else if k = 3 then n % 65536
  else if k = 4 then (n + 32768) % 65536 - 32768 else if k = 5 then (n + 2147483648) % 4294967296 - 2147483648 else if k = 6 then n else 0
theorem ret_int7 {k : IntKind} {a b : Int} (h : a = b) : Ending.returned (.int k a) = .returned (.int k b) := by rw [h]

theorem u16_wrap (n : Int) : IntKind.u16.wrap n = n % 65536 := by
  unfold IntKind.wrap
  simp [IntKind.bits, IntKind.signed]
theorem i16_wrap (n : Int) : IntKind.i16.wrap n = (n + 32768) % 65536 - 32768 := by
  unfold IntKind.wrap
  simp [IntKind.bits, IntKind.signed]
  split <;> omega
theorem wrap_u16 (n : Int) : wrap64 (IntKind.u16.wrap n) = n % 65536 := by
  rw [u16_wrap]; unfold wrap64; omega
theorem wrap_i16 (n : Int) : wrap64 (IntKind.i16.wrap n) = (n + 32768) % 65536 - 32768 := by
  rw [i16_wrap]; unfold wrap64; omega
theorem wrap_i32 (n : Int) : wrap64 (wrap32 n) = (n + 2147483648) % 4294967296 - 2147483648 := by
  unfold wrap64 wrap32; omega
set_option maxHeartbeats 1000000 in
theorem wrap7_any (k n : Int) (w : World) : Calls Try.prog 7 #[.int .i64 k, .int .i64 n] w fun e w' => e = .returned (.int .i64 (wrapK k n)) ∧ w = w' := by
  by_cases h1 : k = 1
  · subst h1
    by_cases hn : n = 0
    · subst hn
      go_enter Try.func7, Try.ntmps7
      go_wp2
      go_ret
      exact ⟨rfl, rfl⟩
    · go_enter Try.func7, Try.ntmps7
      go_wp2
      go_ret
      exact ⟨ret_int7 (by unfold wrapK; rw [if_pos rfl, if_neg hn]), rfl⟩
  by_cases h2 : k = 2
  · subst h2
    go_enter Try.func7, Try.ntmps7
    go_wp2
    go_ret
    exact ⟨ret_int7 (by show _ = wrapK 2 n; unfold wrapK; simp), rfl⟩
  by_cases h3 : k = 3
  · subst h3
    go_enter Try.func7, Try.ntmps7
    go_wp2
    go_ret
    exact ⟨ret_int7 (by show _ = wrapK 3 n; unfold wrapK; simp; exact wrap_u16 n), rfl⟩
  by_cases h4 : k = 4
  · subst h4
    go_enter Try.func7, Try.ntmps7
    go_wp2
    go_ret
    exact ⟨ret_int7 (by show _ = wrapK 4 n; unfold wrapK; simp; exact wrap_i16 n), rfl⟩
  by_cases h5 : k = 5
  · subst h5
    go_enter Try.func7, Try.ntmps7
    go_wp2
    go_ret
    exact ⟨ret_int7 (by show _ = wrapK 5 n; unfold wrapK; simp; exact wrap_i32 n), rfl⟩
  by_cases h6 : k = 6
  · subst h6
    go_enter Try.func7, Try.ntmps7
    go_wp2
    go_ret
    exact ⟨ret_int7 (by show _ = wrapK 6 n; unfold wrapK; simp), rfl⟩
  go_enter Try.func7, Try.ntmps7
  go_wp2
  go_ret
  exact ⟨ret_int7 (by unfold wrapK; rw [if_neg h1, if_neg h2, if_neg h3, if_neg h4, if_neg h5, if_neg h6]), rfl⟩
set_option maxHeartbeats 1000000 in
theorem xwrap7_any (k n : Int) (w : World) : Calls Try.prog 8 #[.int .i64 k, .int .i64 n] w fun e w' => e = .returned (.int .i64 (wrapK k n)) ∧ w = w' := by
  by_cases h1 : k = 1
  · subst h1
    by_cases hn : n = 0
    · subst hn
      go_enter Try.func8, Try.ntmps8
      go_wp2
      go_ret
      exact ⟨rfl, rfl⟩
    · go_enter Try.func8, Try.ntmps8
      go_wp2
      go_ret
      exact ⟨ret_int7 (by unfold wrapK; rw [if_pos rfl, if_neg hn]), rfl⟩
  by_cases h2 : k = 2
  · subst h2
    go_enter Try.func8, Try.ntmps8
    go_wp2
    go_ret
    exact ⟨ret_int7 (by show _ = wrapK 2 n; unfold wrapK; simp), rfl⟩
  by_cases h3 : k = 3
  · subst h3
    go_enter Try.func8, Try.ntmps8
    go_wp2
    go_ret
    exact ⟨ret_int7 (by show _ = wrapK 3 n; unfold wrapK; simp; exact wrap_u16 n), rfl⟩
  by_cases h4 : k = 4
  · subst h4
    go_enter Try.func8, Try.ntmps8
    go_wp2
    go_ret
    exact ⟨ret_int7 (by show _ = wrapK 4 n; unfold wrapK; simp; exact wrap_i16 n), rfl⟩
  by_cases h5 : k = 5
  · subst h5
    go_enter Try.func8, Try.ntmps8
    go_wp2
    go_ret
    exact ⟨ret_int7 (by show _ = wrapK 5 n; unfold wrapK; simp; exact wrap_i32 n), rfl⟩
  by_cases h6 : k = 6
  · subst h6
    go_enter Try.func8, Try.ntmps8
    go_wp2
    go_ret
    exact ⟨ret_int7 (by show _ = wrapK 6 n; unfold wrapK; simp), rfl⟩
  go_enter Try.func8, Try.ntmps8
  go_wp2
  go_ret
  exact ⟨ret_int7 (by unfold wrapK; rw [if_neg h1, if_neg h2, if_neg h3, if_neg h4, if_neg h5, if_neg h6]), rfl⟩
theorem tmod_fix (a n : Int) (hn : 0 < n) : (if a.tmod n < 0 then a.tmod n + n else a.tmod n) = a % n := by
  have h := Int.tmod_add_mul_tdiv a n
  have h1 := Int.lt_tmod_of_pos a hn
  have h2 := Int.tmod_lt_of_pos a hn
  have h3 : a % n = (a.tmod n) % n := by
    conv => lhs; rw [← h]
    rw [Int.add_mul_emod_self_left]
  rw [h3]
  split
  · rw [← Int.add_emod_right, Int.emod_eq_of_lt (by omega) (by omega)]
  · rw [Int.emod_eq_of_lt (by omega) h2]

theorem within7_any (x n : Int) (w : World) (hn : 0 < n) (hm : n ≤ 1000000) :
    Calls Try.prog 6 #[.int .i64 x, .int .i64 n] w fun e w' => e = .returned (.int .i64 (x % n)) ∧ w = w' := by
  have HF := Lib.hid (tmod_fix x n hn)
  have hlo : -n < x.tmod n := Int.lt_tmod_of_pos x hn
  have hhi : x.tmod n < n := Int.tmod_lt_of_pos x hn
  by_cases hs : x.tmod n < 0
  · go_enter Try.func6, Try.ntmps6
    go_wp2
    go_ret
    exact ⟨ret_int7 (by rw [← HF.out, if_pos hs]), rfl⟩
  · go_enter Try.func6, Try.ntmps6
    go_wp2
    go_ret
    exact ⟨ret_int7 (by rw [← HF.out, if_neg (by omega)]), rfl⟩

def typeV (k e n : Int) (A : Option Addr) (l c : Nat) : Value := .agg #[.int .i64 k, .int .i64 e, .int .i64 n, .slice A l c]
theorem single_any (k : Int) (w : World) : Calls Try.prog 10 #[.int .i64 k] w fun e w' => e = .returned (.bool (decide (1 ≤ k ∧ k ≤ 6))) ∧ w = w' := by
  by_cases h1 : 1 ≤ k
  · by_cases h2 : k ≤ 6
    · rw [decide_eq_true ⟨h1, h2⟩]
      go_enter Try.func10, Try.ntmps10
      go_wp2
      go_ret
      exact ⟨rfl, rfl⟩
    · rw [decide_eq_false (fun h => h2 h.2)]
      go_enter Try.func10, Try.ntmps10
      go_wp2
      go_ret
      exact ⟨rfl, rfl⟩
  · rw [decide_eq_false (fun h => h1 h.1)]
    go_enter Try.func10, Try.ntmps10
    go_wp2
    go_ret
    exact ⟨rfl, rfl⟩
theorem below_new7 {w W : World} (h : Below w.heap.size w W) (o : Obj) : Below w.heap.size w (W.alloc o) := h.alloc h.size o
theorem step_below7 {w w1 w2 : World} (h : Below w.heap.size w w1) (h2 : Below w1.heap.size w1 w2) : Below w.heap.size w w2 := h.trans (h2.mono h.size)
set_option maxHeartbeats 1000000 in
theorem fields_ton (w : World) : Calls Try.prog 11 #[typeV 9 0 0 none 0 0] w fun e w' => (∃ A, e = .returned (.slice A 6 6)) ∧ Below w.heap.size w w' := by
  unfold typeV
  go_enter Try.func11, Try.ntmps11
  go_wp2_with fail
  go_ret
  exact ⟨⟨_, rfl⟩, below_new7 (below_new7 (Below.refl _ _) _) _⟩
set_option maxHeartbeats 1000000 in
theorem size_ton (w : World) : Calls Try.prog 9 #[typeV 9 0 0 none 0 0] w fun e w' => e = .returned (.int .i64 6) ∧ Below w.heap.size w w' := by
  unfold typeV
  go_enter Try.func9, Try.ntmps9
  have HS := single_any 9
  have HF := fun W => fields_ton W
  unfold typeV at HF
  go_wp2_with fail
  refine (HS _).mono ?_
  rintro _ w1 ⟨rfl, rfl⟩
  go_wp2_with fail
  refine (HF _).mono ?_
  rintro _ w2 ⟨⟨A, rfl⟩, hb⟩
  have hb2 := step_below7 (below_new7 (Below.refl _ _) _) hb
  clear hb
  go_wp2_with fail
  go_ret
  exact ⟨rfl, hb2⟩
set_option maxHeartbeats 1000000 in
theorem known7_any (w : World) : Calls Try.prog 5 #[] w fun e w' => e = .returned (.bool true) ∧ Below w.heap.size w w' := by
  have HW : ∀ W, Calls Try.prog 7 #[.int .i64 4, .int .i64 40000] W fun e w' => e = .returned (.int .i64 (-25536)) ∧ W = w' := fun W => wrap7_any 4 40000 W
  have HS := fun W => size_ton W
  unfold typeV at HS
  go_enter Try.func5, Try.ntmps5
  go_wp2_with fail
  refine (HW _).mono ?_
  rintro _ w1 ⟨rfl, rfl⟩
  go_wp2_with fail
  refine (HS _).mono ?_
  rintro _ w2 ⟨rfl, hb⟩
  go_wp2_with fail
  go_ret
  exact ⟨rfl, hb⟩
end Go.Proofs.Ytbcpbkefepnakaa
