/- The walk of the law RecordPages: how many pages any record takes is the document's. -/
import Derived.Test.YtolpiklhnafnbaaLaw5Base
namespace Go.Proofs.Ytolpiklhnafnbaa
set_option maxRecDepth 100000
open Go.RowKit Wd Fm

set_option maxHeartbeats 1000000 in
theorem recordPages_walk (n : Int) (w : World) (_hn : (Lit.int .i64 n).wf = true) :
    Calls Try.prog 5 #[.int .i64 n] w fun e w' => e = .returned (.bool true) ∧ Below w.heap.size w w' := by
  obtain ⟨k, hk⟩ : ∃ k : Nat, n % 1100 = k := ⟨(n % 1100).toNat, by omega⟩
  have hk1 : k < 1100 := by omega
  have hpz := pagesZ_nat k (by omega)
  obtain ⟨q, hq⟩ : ∃ q, pagesN k = q := ⟨_, rfl⟩
  have hq1 := pagesN_lo k
  have hq2 := pagesN_hi k
  rw [hq] at hpz hq1 hq2
  obtain ⟨z, hz⟩ : ∃ z, pagesZ n = z := ⟨_, rfl⟩
  have HH := Lib.hid (And.intro hk (And.intro hpz hz))
  clear hk hpz hq hz
  go_enter Try.func5, Try.ntmps5
  go_wp2_with fail
  (with_reducible refine (known5_any _).mono ?_)
  rintro _ w1 ⟨rfl, hb⟩
  have HB := Lib.hid hb
  clear hb
  go_wp2_with fail
  (with_reducible refine (within5_any _ 1100 _ (by decide) (by decide)).mono ?_)
  rintro _ w2 ⟨rfl, rfl⟩
  rw [HH.out.1]
  go_wp2_with fail
  (with_reducible refine (pages_any _ _).mono ?_)
  rintro _ w2 ⟨rfl, rfl⟩
  rw [HH.out.2.2]
  go_wp2_with fail
  (with_reducible refine (xpages_any _ _).mono ?_)
  rintro _ w2 ⟨rfl, rfl⟩
  rw [HH.out.2.2]
  go_wp2_with fail
  (with_reducible refine (pages_any _ _).mono ?_)
  rintro _ w2 ⟨rfl, rfl⟩
  rw [HH.out.2.1]
  go_wp2_with fail
  (with_reducible refine (xpages_any _ _).mono ?_)
  rintro _ w2 ⟨rfl, rfl⟩
  rw [HH.out.2.1]
  go_wp2_with fail
  (with_reducible refine (pages_any _ _).mono ?_)
  rintro _ w2 ⟨rfl, rfl⟩
  rw [HH.out.2.1]
  have h1 : decide ((k : Int) + 6 ≤ 16 * (q : Int)) = true := decide_eq_true (by omega)
  have h2 : decide (16 * (q : Int) < (k : Int) + 22) = true := decide_eq_true (by omega)
  go_wp2_with fail
  (with_reducible refine (pages_any _ _).mono ?_)
  rintro _ w2 ⟨rfl, rfl⟩
  rw [HH.out.2.1]
  go_wp2
  go_ret
  exact ⟨rfl, HB.out⟩
end Go.Proofs.Ytolpiklhnafnbaa
