/- How many records a sector has at most. Nothing here speaks of one program. -/
import Derived.Test.YtolpiklhnafnbaaRecMath
namespace Go.Proofs.Ytolpiklhnafnbaa
set_option maxRecDepth 100000

theorem loadF_count : ∀ (k : Nat) (b : List UInt8) (p : Nat), (loadF k b p).1.length ≤ k
  | 0, _, _ => Nat.le_refl _
  | k + 1, b, p => by
    unfold loadF
    split
    · simp
    · split
      · have := loadF_count k b (p + pagesN (opened (b.drop (p * 16))).1.length)
        simp only [List.length_cons]
        omega
      · simp
theorem load_count (b : List UInt8) : (loadM b).1.length ≤ 64 := loadF_count 64 b 0
end Go.Proofs.Ytolpiklhnafnbaa
