/- Contracts for package code's New (over bytes.Clone) and the Reader's End. -/
import Derived.Test.YtjnpadokmhhffaaReadOps
namespace Go.Proofs.Ytjnpadokmhhffaa
open Go.RowKit Wd Nm

set_option maxHeartbeats 400000 in
theorem end_any (g : Nat) (l : List UInt8) (er : Int) (w : World) (hr : Rd w g l er) :
    Calls Try.prog 28 #[.pointer (some ⟨g, 0, none⟩)] w fun e w' => e = .returned (.int .i64 (rdEnd l er)) ∧ w = w' := by
  have c1 := hr.cell1
  obtain ⟨A, n, cap, hg, hs⟩ := hr
  have c0 : w.cell? ⟨g, 0, none⟩ = some (.slice A n cap) := by rw [cell_of_row w g 0 _ _ (0, 0) hg]; rfl
  have hl := hs.len
  clear hg hs
  by_cases h0 : er = 0
  · subst h0
    by_cases hn : 0 < n
    · have e1 : rdEnd l 0 = 9 := by unfold rdEnd; rw [if_pos ⟨rfl, by omega⟩]
      rw [e1]
      clear hl e1
      go_enter Try.func28, Try.ntmps28
      go_wp2_with fail
      refine (sound_yes _ _ c1).mono ?_
      rintro e w1 ⟨rfl, rfl⟩
      go_wp2
      go_ret
      exact ⟨rfl, rfl⟩
    · have e1 : rdEnd l 0 = 0 := by unfold rdEnd; rw [if_neg (fun h => hn (by omega))]
      rw [e1]
      obtain rfl : n = 0 := by omega
      clear hl e1 hn
      go_enter Try.func28, Try.ntmps28
      go_wp2_with fail
      refine (sound_yes _ _ c1).mono ?_
      rintro e w1 ⟨rfl, rfl⟩
      go_wp2
      go_ret
      exact ⟨rfl, rfl⟩
  · have e1 : rdEnd l er = er := by unfold rdEnd; rw [if_neg (fun h => h0 h.1)]
    rw [e1]
    have hb : (er == 0) = false := by simpa using h0
    have hs := sound_no g er w c1 hb
    clear hl e1 h0 hb
    go_enter Try.func28, Try.ntmps28
    go_wp2_with fail
    refine hs.mono ?_
    rintro e w1 ⟨rfl, rfl⟩
    clear hs
    go_wp2
    go_ret
    exact ⟨rfl, rfl⟩

set_option maxHeartbeats 400000 in
theorem clone_any (A : Option Addr) (n cap : Nat) (l : List UInt8) (w : World) (hs : Shows w w.heap.size A n cap l) (hn : n ≤ 100000000000) :
    Calls Try.prog 32 #[.slice A n cap] w fun e w' => ∃ A2 c2, e = .returned (.slice A2 n c2) ∧ Shows w' w'.heap.size A2 n c2 l ∧ Below w.heap.size w w' := by
  have q22 : ∀ (w : World) (a : Option Addr) (n c n' c' : Nat), (binOp .eql 22 (.slice a n c) (.slice none n' c')).run Try.prog w = .ok (.bool a.isNone) w := fun w a n c n' c' => Lib.run_eql_slice_nil w _ _ a n c n' c' Try.underlying22
  obtain ⟨i0, hi0, hz0, hz1, hz2⟩ := info_parts infoByte
  rcases A with _ | a
  · have h0 : n = 0 := by
      rcases Nat.eq_zero_or_pos n with h | h
      · exact h
      · obtain ⟨g, o, e, _⟩ := hs.spot h
        cases e
    subst h0
    have hl : l = [] := List.eq_nil_of_length_eq_zero hs.len
    subst hl
    clear hs
    go_enter Try.func32, Try.ntmps32
    go_wp2
    go_ret
    exact ⟨none, 0, rfl, Shows.nil _ _, Below.refl _ _⟩
  · have hown : (w.alloc (.cells #[] 5)).ownsRow w.heap.size 5 1 (.slice (some ⟨w.heap.size, 0, none⟩) 0 0) 0 (bc []) := World.ownsRow_made w #[] 0 (Nat.le_refl _) (Nat.zero_le _) rfl
    have hb : Below w.heap.size w (w.alloc (.cells #[] 5)) := (Below.refl _ _).alloc (Nat.le_refl _) _
    have hsrc := (hs.below hb).src (P := Try.prog) Try.underlying22
    clear hs
    go_enter Try.func32, Try.ntmps32
    go_wp2_with (at_builtin; refine wpList_ap _ rfl _ _ 22 22 rfl w.heap.size 5 i0 Try.underlying22 hi0 hz0 hz1 hz2 _ 0 0 [] rfl hown _ n l rfl hsrc ?c1 ?c2 ?_)
    case c1 => omega
    case c2 => simp
    intro A2 c2 w2 hown2 _ hg2 _
    have hb2 := hb.grown hg2 (by simp) (by intro k hk; simp at hk; omega)
    have hs2 := Shows.of_own hown2
    clear hown hsrc hown2 hg2 hb
    go_wp2
    go_ret
    exact ⟨A2, c2, rfl, hs2, hb2⟩

set_option maxHeartbeats 400000 in
theorem new_any (A : Option Addr) (n cap : Nat) (l : List UInt8) (w : World) (hs : Shows w w.heap.size A n cap l) (hn : n ≤ 100000000000) :
    Calls Try.prog 17 #[.slice A n cap] w fun e w' => ∃ g, e = .returned (.pointer (some ⟨g, 0, none⟩)) ∧ Rd w' g l 0 ∧ w.heap.size ≤ g ∧ Below w.heap.size w w' := by
  have hc := clone_any A n cap l w hs hn
  clear hs
  go_enter Try.func17, Try.ntmps17
  go_wp2_with fail
  refine hc.mono ?_
  rintro e w1 ⟨A2, c2, rfl, hs2, hb2⟩
  clear hc
  go_wp2
  go_ret
  exact ⟨w1.heap.size, rfl, ⟨A2, n, c2, heap_alloc_new w1 _, hs2.below ((Below.refl _ _).alloc (Nat.le_refl _) _)⟩, hb2.size, hb2.alloc hb2.size _⟩
end Go.Proofs.Ytjnpadokmhhffaa
