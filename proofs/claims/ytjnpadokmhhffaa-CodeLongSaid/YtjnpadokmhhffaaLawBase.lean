/- What chapter 1's laws share: their known example, and a number taken within a bound. -/
import Derived.Test.YtjnpadokmhhffaaInts
namespace Go.Proofs.Ytjnpadokmhhffaa
open Go.RowKit Wd Nm

theorem int_nil (x : Int) (w : World) :
    Calls Try.prog 11 #[.slice none 0 0, .int .i64 x] w fun e w' => ∃ A2 c2, e = .returned (.slice A2 8 c2) ∧ w'.ownsRow w.heap.size 5 1 (.slice A2 8 c2) 8 (bc (leb x 8)) ∧ Below w.heap.size w w' := by
  have h := int_any none 0 0 [] x w (Shows.nil _ _) (by omega)
  simp only [Nat.zero_add, List.nil_append] at h
  exact h
theorem text_nil (s : ByteArray) (w : World) (h : s.size ≤ 65535) :
    Calls Try.prog 15 #[.slice none 0 0, .string s] w fun e w' => ∃ A2 c2, e = .returned (.slice A2 (2 + s.size) c2) ∧ w'.ownsRow w.heap.size 5 1 (.slice A2 (2 + s.size) c2) (2 + s.size) (bc (leb s.size 2 ++ s.data.toList)) ∧ Below w.heap.size w w' := by
  have h := text_small none 0 0 [] s w (Shows.nil _ _) (by omega) h
  simp only [Nat.zero_add, List.nil_append] at h
  exact h
theorem text_ab (w : World) :
    Calls Try.prog 15 #[.slice none 0 0, .string ⟨#[97, 98]⟩] w fun e w' => ∃ A2 c2, e = .returned (.slice A2 4 c2) ∧ Below w.heap.size w w' := by
  refine (text_nil ⟨#[97, 98]⟩ w (by decide)).mono ?_
  rintro e w' ⟨A2, c2, rfl, _, hb⟩
  exact ⟨A2, c2, rfl, hb⟩

set_option maxHeartbeats 400000 in
theorem known_any (w : World) : Calls Try.prog 10 #[] w fun e w' => e = .returned (.bool true) ∧ Below w.heap.size w w' := by
  go_enter Try.func10, Try.ntmps10
  go_wp2_with fail
  refine (int_nil _ _).mono ?_
  rintro e w1 ⟨A, c, rfl, hown, hb1⟩
  have hs := Shows.of_own hown
  obtain ⟨g, o, rfl, hlt, hc⟩ := hs.cells (by omega)
  have c0 : w1.cell? ⟨g, o, none⟩ = some (.int .u8 254) := hc 0 (by omega)
  have c7 : w1.cell? ⟨g, o + 7, none⟩ = some (.int .u8 255) := hc 7 (by omega)
  clear hc hs hown hlt
  go_wp2_with fail
  refine (text_ab _).mono ?_
  rintro e w2 ⟨A2, c2, rfl, hb2⟩
  have hb := hb1.trans (hb2.mono hb1.size)
  clear c0 c7 hb1 hb2
  go_wp2
  go_ret
  exact ⟨rfl, hb⟩

theorem tmod_fix (a n : Int) (hn : 0 < n) : (if a.tmod n < 0 then a.tmod n + n else a.tmod n) = a % n := by
  have h := Int.tmod_add_mul_tdiv a n
  have h1 := Int.lt_tmod_of_pos a hn
  have h2 := Int.tmod_lt_of_pos a hn
  have h3 : a % n = (a.tmod n) % n := by
    conv => lhs; rw [← h]
    rw [Int.add_mul_emod_self_left]
  rw [h3]
  split
  · rw [← Int.add_emod_right, Int.emod_eq_of_lt (by omega) (by omega)]
  · rw [Int.emod_eq_of_lt (by omega) h2]

theorem ret_int {k : IntKind} {a b : Int} (h : a = b) : Ending.returned (.int k a) = .returned (.int k b) := by rw [h]

theorem within_any (x n : Int) (w : World) (hn : 0 < n) (hm : n ≤ 1000000) :
    Calls Try.prog 19 #[.int .i64 x, .int .i64 n] w fun e w' => e = .returned (.int .i64 (x % n)) ∧ w = w' := by
  have hf := tmod_fix x n hn
  have HF := Lib.hid hf
  have hlo : -n < x.tmod n := Int.lt_tmod_of_pos x hn
  have hhi : x.tmod n < n := Int.tmod_lt_of_pos x hn
  clear hf
  by_cases hs : x.tmod n < 0
  · go_enter Try.func19, Try.ntmps19
    go_wp2
    go_ret
    exact ⟨ret_int (by rw [← HF.out, if_pos hs]), rfl⟩
  · go_enter Try.func19, Try.ntmps19
    go_wp2
    go_ret
    exact ⟨ret_int (by rw [← HF.out, if_neg (by omega)]), rfl⟩
end Go.Proofs.Ytjnpadokmhhffaa
