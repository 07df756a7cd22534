/- Chapter 4's scripts: whether they are few, and whether two memories are the same. -/
import Derived.Test.YtolpiklhnafnbaaRfNew
import Derived.Test.YtolpiklhnafnbaaActs
import Derived.Orders
namespace Go.Proofs.Ytolpiklhnafnbaa
set_option maxRecDepth 100000
open Go.RowKit Wd Fm

def fewActs (acs : List ActV) : Bool := (acs.all fun a => decide (a.n ≤ 40)) && decide (acs.length ≤ 80)

theorem few_no {acs : List ActV} {R : Bool} (h : fewActs acs = R) (j : Nat) (hj : j < acs.length) (h40 : 40 < acs[j].n) : R = false := by
  rw [← h]
  unfold fewActs
  rw [Bool.and_eq_false_iff]
  left
  rw [List.all_eq_false]
  exact ⟨acs[j], List.getElem_mem _, by simp; omega⟩
theorem few_long {acs : List ActV} {R : Bool} (h : fewActs acs = R) (h80 : ¬ acs.length ≤ 80) : R = false := by
  rw [← h]
  unfold fewActs
  rw [Bool.and_eq_false_iff]
  right
  exact decide_eq_false h80
theorem few_yes {acs : List ActV} {R : Bool} (h : fewActs acs = R) (h40 : ∀ a ∈ acs, a.n ≤ 40) (h80 : acs.length ≤ 80) : R = true := by
  rw [← h]
  unfold fewActs
  rw [Bool.and_eq_true, List.all_eq_true]
  exact ⟨fun a ha => decide_eq_true (h40 a ha), decide_eq_true h80⟩
set_option maxHeartbeats 1000000 in
theorem few_any (A : Option Addr) (n cap : Nat) (acs : List ActV) (w : World) (h : LaidActs w w.heap.size A n acs) (_ : n ≤ cap) (hn : n ≤ 9223372036854775807) :
    Calls Try.prog 12 #[.slice A n cap] w fun e w' => e = .returned (.bool (fewActs acs)) ∧ w = w' := by
  have H := Lib.hid h
  have hl := h.len
  have HN := Lib.hid hl
  obtain ⟨R, hR⟩ : ∃ R, fewActs acs = R := ⟨_, rfl⟩
  rw [hR]
  have HR := Lib.hid hR
  clear hR
  clear h hl
  go_enter Try.func12, Try.ntmps12
  go_wp2_with fail
  go_loopw [3] (fun i wr => ∃ j : Nat, j ≤ n ∧ i = .int .i64 j ∧ wr = w ∧ Hid (∀ k (h : k < acs.length), k < j → acs[k].n ≤ 40)) (fun i _ => n - (intOf i).toNat)
  case atStart => exact ⟨0, by omega, rfl, rfl, Lib.hid (fun k _ h => absurd h (by omega))⟩
  case round =>
    obtain ⟨j, hj, rfl, rfl, HJ⟩ := hrel
    by_cases hlt : j < n
    · have hji : (j : Int) < (n : Int) := by omega
      have hjl : j < acs.length := by have := HN.out; omega
      obtain ⟨g, o, rfl, hg, hcl⟩ := H.out.spot (by omega)
      have c4 := (hcl j hjl).c4
      rw [Addr.add_lit] at c4
      obtain ⟨a, ha⟩ : ∃ a, acs[j] = a := ⟨_, rfl⟩
      rw [ha] at c4
      have HA := Lib.hid ha
      by_cases h40 : 40 < a.n
      · have h40i : (a.n : Int) > 40 := by omega
        clear hcl
        go_wp2
        go_ret
        have hf : R = false := few_no HR.out j hjl (by rw [HA.out]; exact h40)
        rw [hf]
        exact ⟨rfl, rfl⟩
      · have h40i : ¬ (a.n : Int) > 40 := by omega
        have HJ2 : Hid (∀ k (h : k < acs.length), k < j + 1 → acs[k].n ≤ 40) := Lib.hid (fun k h hk => by
          by_cases hkj : k = j
          · subst hkj
            rw [ha]
            omega
          · exact HJ.out k h (by omega))
        clear hcl HJ ha
        go_wp2
        go_roundw
        case rel => exact ⟨j + 1, by omega, by go_num, trivial, HJ2⟩
        case measure => simp [intOf]; omega
    · have hjn : j = n := by omega
      have hji : ¬ (j : Int) < (n : Int) := by omega
      have HF : Hid (∀ a ∈ acs, a.n ≤ 40) := Lib.hid (fun a ha => by
        obtain ⟨k, hk, rfl⟩ := List.mem_iff_getElem.1 ha
        exact HJ.out k hk (by have := HN.out; omega))
      clear HJ
      by_cases h80 : n ≤ 80
      · have h80i : (n : Int) ≤ 80 := by omega
        go_wp2
        go_ret
        have hf : R = true := few_yes HR.out HF.out (by have := HN.out; omega)
        rw [hf]
        exact ⟨rfl, rfl⟩
      · have h80i : ¬ (n : Int) ≤ 80 := by omega
        go_wp2
        go_ret
        have hf : R = false := few_long HR.out (by have := HN.out; omega)
        rw [hf]
        exact ⟨rfl, rfl⟩
end Go.Proofs.Ytolpiklhnafnbaa
