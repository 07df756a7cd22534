/- Chapter 6, plain: the entries of a sector's records. -/
import Derived.Test.YtmebdnblobobnaaGreatDoorEntMath
import Derived.Test.YtmebdnblobobnaaGreatDoorKRec
namespace Go.Proofs.YtmebdnblobobnaaGreatDoor
set_option maxRecDepth 100000
open Go.RowKit _root_.Go.Proofs.YtmebdnblobobnaaGreatDoor.Wd _root_.Go.Proofs.YtmebdnblobobnaaGreatDoor.Nm _root_.Go.Proofs.YtmebdnblobobnaaGreatDoor.Cm _root_.Go.Proofs.YtmebdnblobobnaaGreatDoor.Fm

def entsOf (rows : List (List UInt8)) : List Ent := rows.filterMap fun b => if (parse b).2 = 0 then some (parse b).1 else none
theorem entsOf_take (rows : List (List UInt8)) (j : Nat) (h : j < rows.length) : entsOf (rows.take (j + 1)) = entsOf (rows.take j) ++ (if (parse rows[j]).2 = 0 then [(parse rows[j]).1] else []) := by
  unfold entsOf
  rw [List.take_add_one, List.getElem?_eq_getElem h, List.filterMap_append]
  congr 1
  by_cases hp : (parse rows[j]).2 = 0 <;> simp [hp]
theorem parse_sum (b : List UInt8) : (parse b).1.sum.length = 32 := by
  unfold parse
  split
  · rfl
  split
  · rfl
  split
  · simp [entOf]; omega
  · rfl
theorem parse_inside (b : List UInt8) (h : (parse b).2 = 0) : (parse b).1.inside := by
  unfold parse at h ⊢
  split
  · rename_i h1; rw [if_pos h1] at h; cases h
  rename_i h1
  rw [if_neg h1] at h
  split
  · rename_i h2; rw [if_pos h2] at h; cases h
  rename_i h2
  rw [if_neg h2] at h
  split
  · rename_i h3; exact h3
  · rename_i h3; rw [if_neg h3] at h; cases h
theorem entsOf_sum (rows : List (List UInt8)) : ∀ e ∈ entsOf rows, e.sum.length = 32 := by
  intro e he
  unfold entsOf at he
  obtain ⟨b, _, hb⟩ := List.mem_filterMap.1 he
  by_cases hp : (parse b).2 = 0
  · rw [if_pos hp] at hb; injection hb with hb; rw [← hb]; exact parse_sum b
  · rw [if_neg hp] at hb; cases hb
theorem loadF_small : ∀ (k : Nat) (b : List UInt8) (p : Nat), ∀ x ∈ (loadF k b p).1, x.length ≤ 65535
  | 0, _, _ => by intro x hx; simp [loadF] at hx
  | k + 1, b, p => by
    intro x hx
    unfold loadF at hx
    split at hx
    · simp at hx
    · split at hx
      next h0 =>
        rcases List.mem_cons.1 hx with rfl | hx
        · have := opened_le _ h0
          have := leNat_two (b.drop (p * 16))
          omega
        · exact loadF_small k b _ x hx
      · simp at hx
theorem load_small (b : List UInt8) : ∀ x ∈ (loadM b).1, x.length ≤ 65535 := loadF_small 64 b 0
end Go.Proofs.YtmebdnblobobnaaGreatDoor
