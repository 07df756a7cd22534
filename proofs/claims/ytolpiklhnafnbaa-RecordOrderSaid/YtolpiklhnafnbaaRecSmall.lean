/- Package record and its reference: contracts of blank and Pages, and of a number taken within a bound. -/
import Derived.Test.YtolpiklhnafnbaaRecMath
import Derived.Test.YtolpiklhnafnbaaLaw4Base
namespace Go.Proofs.Ytolpiklhnafnbaa
set_option maxRecDepth 100000
open Go.RowKit Wd Fm

def pagesZ (n : Int) : Int := if n < 0 ∨ 65535 < n then 0 else (n + 21) / 16
theorem pagesZ_nat (n : Nat) (h : n ≤ 65535) : pagesZ n = (pagesN n : Int) := by
  unfold pagesZ pagesN
  rw [if_neg (by omega)]
  omega

theorem within5_any (x n : Int) (w : World) (hn : 0 < n) (hm : n ≤ 1000000) :
    Calls Try.prog 19 #[.int .i64 x, .int .i64 n] w fun e w' => e = .returned (.int .i64 (x % n)) ∧ w = w' := by
  have hf := tmod_fix x n hn
  have HF := Lib.hid hf
  have hlo : -n < x.tmod n := Int.lt_tmod_of_pos x hn
  have hhi : x.tmod n < n := Int.tmod_lt_of_pos x hn
  clear hf
  by_cases hs : x.tmod n < 0
  · go_enter Try.func19, Try.ntmps19
    go_wp2
    go_ret
    exact ⟨ret_int4 (by rw [← HF.out, if_pos hs]), rfl⟩
  · go_enter Try.func19, Try.ntmps19
    go_wp2
    go_ret
    exact ⟨ret_int4 (by rw [← HF.out, if_neg (by omega)]), rfl⟩

theorem pages_any (n : Int) (w : World) :
    Calls Try.prog 25 #[.int .i64 n] w fun e w' => e = .returned (.int .i64 (pagesZ n)) ∧ w = w' := by
  obtain ⟨R, hR⟩ : ∃ R, pagesZ n = R := ⟨_, rfl⟩
  rw [hR]
  by_cases h0 : n < 0
  · have hr : R = 0 := by rw [← hR]; unfold pagesZ; rw [if_pos (Or.inl h0)]
    subst hr
    clear hR
    go_enter Try.func25, Try.ntmps25
    go_wp2
    go_ret
    exact ⟨rfl, rfl⟩
  · by_cases h1 : n > 65535
    · have hr : R = 0 := by rw [← hR]; unfold pagesZ; rw [if_pos (Or.inr h1)]
      subst hr
      clear hR
      go_enter Try.func25, Try.ntmps25
      go_wp2
      go_ret
      exact ⟨rfl, rfl⟩
    · have hr : R = (n + 21) / 16 := by rw [← hR]; unfold pagesZ; rw [if_neg (by omega)]
      have HR := Lib.hid hr
      clear hr hR
      go_enter Try.func25, Try.ntmps25
      go_wp2
      go_ret
      refine ⟨ret_int4 ?_, rfl⟩
      rw [HR.out]
      first
        | omega
        | (rw [Int.tdiv_eq_ediv_of_nonneg (by omega)]; omega)
theorem xpages_any (n : Int) (w : World) :
    Calls Try.prog 26 #[.int .i64 n] w fun e w' => e = .returned (.int .i64 (pagesZ n)) ∧ w = w' := by
  obtain ⟨R, hR⟩ : ∃ R, pagesZ n = R := ⟨_, rfl⟩
  rw [hR]
  by_cases h0 : n < 0
  · have hr : R = 0 := by rw [← hR]; unfold pagesZ; rw [if_pos (Or.inl h0)]
    subst hr
    clear hR
    go_enter Try.func26, Try.ntmps26
    go_wp2
    go_ret
    exact ⟨rfl, rfl⟩
  · by_cases h1 : n > 65535
    · have hr : R = 0 := by rw [← hR]; unfold pagesZ; rw [if_pos (Or.inr h1)]
      subst hr
      clear hR
      go_enter Try.func26, Try.ntmps26
      go_wp2
      go_ret
      exact ⟨rfl, rfl⟩
    · have hr : R = (n + 21) / 16 := by rw [← hR]; unfold pagesZ; rw [if_neg (by omega)]
      have HR := Lib.hid hr
      clear hr hR
      go_enter Try.func26, Try.ntmps26
      go_wp2
      go_ret
      refine ⟨ret_int4 ?_, rfl⟩
      rw [HR.out]
      first
        | omega
        | (rw [Int.tdiv_eq_ediv_of_nonneg (by omega)]; omega)

set_option maxHeartbeats 400000 in
theorem rblank_any (A : Option Addr) (n cap : Nat) (l : List UInt8) (w : World) (hs : Shows w w.heap.size A n cap l) (hn : n ≤ 1000000) :
    Calls Try.prog 49 #[.slice A n cap] w fun e w' => e = .returned (.bool (blankL l)) ∧ w = w' := by
  have HL := Lib.hid hs.len
  obtain ⟨R, hR⟩ : ∃ R, blankL l = R := ⟨_, rfl⟩
  rw [hR]
  have HR := Lib.hid hR
  clear hR
  go_enter Try.func49, Try.ntmps49
  go_wp2_with fail
  go_loop [4, 7] (fun _ i => ∃ k : Nat, k ≤ n ∧ i = .int .i64 k ∧ Hid (∀ j, j < k → l.getD j 0 = 255)) (fun _ i => n - (intOf i).toNat)
  case atStart => exact ⟨0, by omega, rfl, Lib.hid (fun j hj => absurd hj (by omega))⟩
  case round =>
    obtain ⟨k, hk, rfl, hall⟩ := hrel
    by_cases hlt : k < n
    · obtain ⟨g, o, rfl, _, hc⟩ := hs.cells (by omega)
      have c1 := hc k hlt
      obtain ⟨a, ha⟩ : ∃ a, l.getD k 0 = a := ⟨_, rfl⟩
      rw [ha] at c1
      have HA := Lib.hid ha
      have hkn : (k : Int) < (n : Int) := by omega
      clear hc hs ha
      by_cases h0 : a = 255
      · subst h0
        have hz : (((255 : UInt8).toNat : Int) != 255) = false := rfl
        have hall2 : Hid (∀ j, j < k + 1 → l.getD j 0 = 255) := Lib.hid (fun j hj => by
          by_cases hjk : j = k
          · rw [hjk, HA.out]
          · exact hall.out j (by omega))
        clear hall
        go_wp2
        go_round
        case rel => exact ⟨k + 1, by omega, by go_num, hall2⟩
        case measure => simp [intOf]; omega
      · have hz0 : ¬ (a.toNat : Int) = 255 := fun h => h0 (by
          apply UInt8.toNat_inj.1
          show a.toNat = 255
          omega)
        have hz : ((a.toNat : Int) != 255) = true := by simpa using hz0
        have hT : R = false := by
          rw [← HR.out]
          exact blankL_not (i := k) (by rw [HL.out]; exact hlt) (by rw [HA.out]; exact h0)
        clear h0
        subst hT
        go_wp2
        go_ret
        exact ⟨rfl, rfl⟩
    · have hkn : ¬ (k : Int) < (n : Int) := by omega
      have hT : R = true := by
        rw [← HR.out]
        exact blankL_all fun j hj => hall.out j (by rw [HL.out] at hj; omega)
      subst hT
      clear hs
      go_wp2
      go_ret
      exact ⟨rfl, rfl⟩

set_option maxHeartbeats 400000 in
theorem xblank_any (A : Option Addr) (n cap : Nat) (l : List UInt8) (w : World) (hs : Shows w w.heap.size A n cap l) (hn : n ≤ 1000000) :
    Calls Try.prog 51 #[.slice A n cap] w fun e w' => e = .returned (.bool (blankL l)) ∧ w = w' := by
  have HL := Lib.hid hs.len
  obtain ⟨R, hR⟩ : ∃ R, blankL l = R := ⟨_, rfl⟩
  rw [hR]
  have HR := Lib.hid hR
  clear hR
  go_enter Try.func51, Try.ntmps51
  go_wp2_with fail
  go_loop [3] (fun i => ∃ k : Nat, k ≤ n ∧ i = .int .i64 k ∧ Hid (∀ j, j < k → l.getD j 0 = 255)) (fun i => n - (intOf i).toNat)
  case atStart => exact ⟨0, by omega, rfl, Lib.hid (fun j hj => absurd hj (by omega))⟩
  case round =>
    obtain ⟨k, hk, rfl, hall⟩ := hrel
    by_cases hlt : k < n
    · obtain ⟨g, o, rfl, _, hc⟩ := hs.cells (by omega)
      have c1 := hc k hlt
      obtain ⟨a, ha⟩ : ∃ a, l.getD k 0 = a := ⟨_, rfl⟩
      rw [ha] at c1
      have HA := Lib.hid ha
      have hkn : (k : Int) < (n : Int) := by omega
      clear hc hs ha
      by_cases h0 : a = 255
      · subst h0
        have hz : (((255 : UInt8).toNat : Int) != 255) = false := rfl
        have hall2 : Hid (∀ j, j < k + 1 → l.getD j 0 = 255) := Lib.hid (fun j hj => by
          by_cases hjk : j = k
          · rw [hjk, HA.out]
          · exact hall.out j (by omega))
        clear hall
        go_wp2
        go_round
        case rel => exact ⟨k + 1, by omega, by go_num, hall2⟩
        case measure => simp [intOf]; omega
      · have hz0 : ¬ (a.toNat : Int) = 255 := fun h => h0 (by
          apply UInt8.toNat_inj.1
          show a.toNat = 255
          omega)
        have hz : ((a.toNat : Int) != 255) = true := by simpa using hz0
        have hT : R = false := by
          rw [← HR.out]
          exact blankL_not (i := k) (by rw [HL.out]; exact hlt) (by rw [HA.out]; exact h0)
        clear h0
        subst hT
        go_wp2
        go_ret
        exact ⟨rfl, rfl⟩
    · have hkn : ¬ (k : Int) < (n : Int) := by omega
      have hT : R = true := by
        rw [← HR.out]
        exact blankL_all fun j hj => hall.out j (by rw [HL.out] at hj; omega)
      subst hT
      clear hs
      go_wp2
      go_ret
      exact ⟨rfl, rfl⟩
end Go.Proofs.Ytolpiklhnafnbaa
