/- Chapter 6's law: acts that are not too much. -/
import Derived.Test.YtmebdnblobobnaaGreatDoorActs6
import Derived.Test.YtmebdnblobobnaaGreatDoorLaw6Base
namespace Go.Proofs.YtmebdnblobobnaaGreatDoor
set_option maxRecDepth 100000
open Go.RowKit _root_.Go.Proofs.YtmebdnblobobnaaGreatDoor.Wd _root_.Go.Proofs.YtmebdnblobobnaaGreatDoor.Nm

def okW (a : ActW) : Bool := decide (a.n ≤ 200) && decide (a.F.n ≤ 40)
def few6 (acs : List ActW) : Bool := acs.all okW && decide (acs.length ≤ 60)
theorem few6_no {acs : List ActW} {R : Bool} (h : few6 acs = R) (j : Nat) (hj : j < acs.length) (hn : okW acs[j] = false) : R = false := by
  rw [← h]
  unfold few6
  have : acs.all okW = false := by
    rw [List.all_eq_false]
    exact ⟨acs[j], List.getElem_mem hj, by rw [hn]; decide⟩
  rw [this, Bool.false_and]
theorem few6_yes {acs : List ActW} {R : Bool} (h : few6 acs = R) (hn : ∀ k (h : k < acs.length), okW acs[k] = true) : R = decide (acs.length ≤ 60) := by
  rw [← h]
  unfold few6
  have : acs.all okW = true := by
    rw [List.all_eq_true]
    intro a ha
    obtain ⟨k, hk, rfl⟩ := List.mem_iff_getElem.1 ha
    exact hn k hk
  rw [this, Bool.true_and]
set_option maxHeartbeats 2000000 in
theorem few6_any (A : Option Addr) (n cap : Nat) (acs : List ActW) (w : World) (h : LaidActs6 w w.heap.size A n acs) (hn : n ≤ 9223372036854775807) :
    Calls Tryz.prog 6 #[.slice A n cap] w fun e w' => e = .returned (.bool (few6 acs)) ∧ w = w' := by
  have H := Lib.hid h
  have HN := Lib.hid h.len
  obtain ⟨R, hR⟩ : ∃ R, few6 acs = R := ⟨_, rfl⟩
  rw [hR]
  have HR := Lib.hid hR
  clear hR h
  go_enter Tryz.func6, Tryz.ntmps6
  go_wp2_with fail
  go_loopw [3] (fun i wr => ∃ j : Nat, j ≤ n ∧ i = .int .i64 j ∧ wr = w ∧ Hid (∀ k (h : k < acs.length), k < j → okW acs[k] = true)) (fun i _ => n - (intOf i).toNat)
  case atStart => exact ⟨0, by omega, rfl, rfl, Lib.hid (fun k _ h => absurd h (by omega))⟩
  case round =>
    obtain ⟨j, hj, rfl, rfl, HJ⟩ := hrel
    by_cases hlt : j < n
    · have hji : (j : Int) < (n : Int) := by omega
      have hjl : j < acs.length := by have := HN.out; omega
      obtain ⟨g, o, rfl, hg, hcl⟩ := H.out.spot (by omega)
      have c2 := hcl j hjl 2 _ rfl
      have c7 := hcl j hjl 7 _ rfl
      obtain ⟨a, ha⟩ : ∃ a, acs[j] = a := ⟨_, rfl⟩
      rw [ha] at c2 c7
      have HA := Lib.hid ha
      clear hcl
      have fin : okW a = false → R = false := fun h => few6_no HR.out j hjl (by rw [HA.out]; exact h)
      have HF := Lib.hid fin
      clear fin
      by_cases h200 : 200 < a.n
      · have h200i : (200 : Int) < (a.n : Int) := by omega
        clear ha
        go_wp2
        go_ret
        rw [HF.out (by unfold okW; rw [decide_eq_false (by omega)]; rfl)]
        exact ⟨rfl, rfl⟩
      · have h200i : ¬ (200 : Int) < (a.n : Int) := by omega
        by_cases h40 : 40 < a.F.n
        · have h40i : (40 : Int) < (a.F.n : Int) := by omega
          clear ha
          go_wp2
          go_ret
          rw [HF.out (by unfold okW; rw [decide_eq_false (show ¬ a.F.n ≤ 40 by omega), Bool.and_false])]
          exact ⟨rfl, rfl⟩
        · have h40i : ¬ (40 : Int) < (a.F.n : Int) := by omega
          have HJ2 : Hid (∀ k (h : k < acs.length), k < j + 1 → okW acs[k] = true) := Lib.hid (fun k h hk => by
            by_cases hkj : k = j
            · subst hkj
              rw [ha]
              unfold okW
              rw [decide_eq_true (show a.n ≤ 200 by omega), decide_eq_true (show a.F.n ≤ 40 by omega)]
              rfl
            · exact HJ.out k h (by omega))
          clear HJ ha
          go_wp2
          go_roundw
          case rel => exact ⟨j + 1, by omega, by go_num, trivial, HJ2⟩
          case measure => simp [intOf]; omega
    · have hjn : j = n := by omega
      subst hjn
      have hR2 := few6_yes HR.out (fun k hk => HJ.out k hk (by have := HN.out; omega))
      rw [HN.out] at hR2
      have HR2 := Lib.hid hR2
      clear hR2 HR
      by_cases h60 : j ≤ 60
      · have h60i : (j : Int) ≤ 60 := by omega
        go_wp2
        go_ret
        rw [HR2.out, decide_eq_true h60]
        exact ⟨rfl, rfl⟩
      · have h60i : ¬ (j : Int) ≤ 60 := by omega
        go_wp2
        go_ret
        rw [HR2.out, decide_eq_false h60]
        exact ⟨rfl, rfl⟩
end Go.Proofs.YtmebdnblobobnaaGreatDoor
