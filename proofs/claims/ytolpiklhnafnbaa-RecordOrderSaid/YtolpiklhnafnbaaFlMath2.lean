/- The memory of chapter 4, as plain lists: what chapter 4's laws ask of it. Nothing here speaks of one program. -/
import Derived.Test.YtolpiklhnafnbaaFlMath
namespace Go.Proofs.Ytolpiklhnafnbaa.Fm
set_option maxRecDepth 100000
open Go.RowKit

theorem ext_getD {a b : List UInt8} (hl : a.length = b.length) (h : ∀ i, i < a.length → a.getD i 0 = b.getD i 0) : a = b := by
  apply List.ext_getElem hl
  intro i h1 h2
  have := h i h1
  simpa [List.getD, List.getElem?_eq_getElem h1, List.getElem?_eq_getElem h2] using this
theorem rep_getD (n : Nat) (c : UInt8) (i : Nat) (h : i < n) : (List.replicate n c).getD i 0 = c := by
  simp [List.getD, h]
theorem padded_at (b : List UInt8) (i : Nat) (h : i < 16) : (padded b).getD i 0 = if i < b.length then b.getD i 0 else 255 := by
  unfold padded
  simp only [List.getD_eq_getElem?_getD]
  by_cases h1 : i < b.length
  · rw [List.getElem?_append_left h1, if_pos h1]
  · rw [List.getElem?_append_right (by omega), if_neg h1, List.getElem?_replicate, if_pos (by omega)]
    rfl
theorem page_lay (m : Mem) (B : List UInt8) (o : Nat) (x : List UInt8) (hm : m.B = lay B o x) (h : o + x.length ≤ B.length) : m.page o x.length = x := by
  have hl : m.B.length = B.length := by rw [hm, lay_len _ _ _ h]
  apply ext_getD (page_len m o _ (by omega))
  intro i hi
  rw [page_len m o _ (by omega)] at hi
  rw [page_at m o _ i hi, hm, lay_at _ _ _ h, if_pos ⟨by omega, by omega⟩]
  congr 1
  omega
theorem sets_blank (P N : List UInt8) (h : ∀ i, i < N.length → P.getD i 0 = 255) : setsB P N = false := by
  unfold setsB
  rw [List.any_eq_false]
  intro k hk
  rw [h k (by simpa using hk), show ~~~(255 : UInt8) = 0 from rfl, UInt8.and_zero]
  decide
theorem fresh_at (i : Nat) (h : i < 6144) : Mem.fresh.B.getD i 0 = 255 := rep_getD 6144 255 i h
theorem fresh_len : Mem.fresh.B.length = 6144 := List.length_replicate ..
theorem writeM_go {m : Mem} (o : Nat) (x : List UInt8) (h : m.left = 0) : writeM m o x = (0, ⟨lay m.B o x, m.dead, wrap64 (m.ops + 1), 0, m.mask⟩) := by
  unfold writeM
  rw [if_neg (by omega), h]
  rfl
/-- The first program of a page. -/
theorem program_blank {m : Mem} {s p : Nat} {b : List UInt8} (hd : m.dead = false) (hs : s < 6) (hp : p < 64) (hb : b.length ≤ 16) (h0 : m.left = 0) (hc : ∀ i, i < 16 → m.B.getD (s * 1024 + p * 16 + i) 0 = 255) :
    programM m s p b = (0, ⟨lay m.B (s * 1024 + p * 16) (padded b), m.dead, wrap64 (m.ops + 1), 0, m.mask⟩) := by
  rw [programM_ok hd hs hp hb, writeM_go _ _ h0]
  apply sets_blank
  intro i hi
  rw [padded_len b hb] at hi
  rw [page_at m _ 16 i hi]
  exact hc i hi
end Go.Proofs.Ytolpiklhnafnbaa.Fm
