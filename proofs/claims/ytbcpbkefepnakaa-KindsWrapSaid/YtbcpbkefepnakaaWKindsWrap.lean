/- The walk of the law KindsWrap: any number, as a value of any kind, is the document's; it stays, wrapped again. -/
import Derived.Test.YtbcpbkefepnakaaKindsBase
namespace Go.Proofs.Ytbcpbkefepnakaa
set_option maxRecDepth 100000
open Go.RowKit

theorem wrapK_again (j n : Int) (h1 : 1 ≤ j) (h6 : j ≤ 6) : wrapK j (wrapK j n) = wrapK j n := by
  have : j = 1 ∨ j = 2 ∨ j = 3 ∨ j = 4 ∨ j = 5 ∨ j = 6 := by omega
  unfold wrapK
  rcases this with rfl | rfl | rfl | rfl | rfl | rfl <;> simp <;> first | omega | (by_cases h : n = 0 <;> simp [h])

set_option maxHeartbeats 1000000 in
theorem kindsWrap_walk (k n : Int) (w : World) (_hk : (Lit.int .i64 k).wf = true) (_hn : (Lit.int .i64 n).wf = true) :
    Calls Try.prog 3 #[.int .i64 k, .int .i64 n] w fun e w' => e = .returned (.bool true) ∧ Below w.heap.size w w' := by
  clear _hk _hn
  have h1 := Int.emod_nonneg k (show (6 : Int) ≠ 0 by decide)
  have h2 := Int.emod_lt_of_pos k (show (0 : Int) < 6 by decide)
  obtain ⟨r, hr⟩ : ∃ r, k % 6 = r := ⟨_, rfl⟩
  rw [hr] at h1 h2
  have HR := Lib.hid hr
  have ha := wrapK_again (1 + r) n (by omega) (by omega)
  clear hr
  obtain ⟨a, hwa⟩ : ∃ a, wrapK (1 + r) n = a := ⟨_, rfl⟩
  rw [hwa] at ha
  have HA := Lib.hid (And.intro hwa ha)
  obtain ⟨b, hwb⟩ : ∃ a, wrapK k n = a := ⟨_, rfl⟩
  have HB := Lib.hid hwb
  clear hwa hwb ha
  go_enter Try.func3, Try.ntmps3
  go_wp2_with fail
  refine (known7_any _).mono ?_
  rintro _ w1 ⟨rfl, hb⟩
  have HBB := Lib.hid hb
  clear hb
  go_wp2_with fail
  refine (within7_any k 6 _ (by decide) (by decide)).mono ?_
  rintro _ w2 ⟨rfl, rfl⟩
  rw [HR.out]
  go_wp2_with fail
  refine (wrap7_any _ n _).mono ?_
  rintro _ w2 ⟨rfl, rfl⟩
  rw [HA.out.1]
  go_wp2_with fail
  refine (wrap7_any k n _).mono ?_
  rintro _ w2 ⟨rfl, rfl⟩
  rw [HB.out]
  go_wp2_with fail
  refine (xwrap7_any k n _).mono ?_
  rintro _ w2 ⟨rfl, rfl⟩
  rw [HB.out]
  go_wp2_with fail
  refine (xwrap7_any (1 + r) n _).mono ?_
  rintro _ w2 ⟨rfl, rfl⟩
  rw [HA.out.1]
  go_wp2_with fail
  refine (wrap7_any (1 + r) a _).mono ?_
  rintro _ w2 ⟨rfl, rfl⟩
  rw [HA.out.2]
  go_wp2_with fail
  go_ret
  exact ⟨rfl, HBB.out⟩
end Go.Proofs.Ytbcpbkefepnakaa
