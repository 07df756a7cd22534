/- Contract for bytes.Clone: it speaks of no package of the program. -/
import Derived.Test.YtolpiklhnafnbaaProg
import Derived.Test.YtolpiklhnafnbaaCz
import Derived.Deep.LoopGhost
import Derived.Lib.Hide
import Derived.Lib.ConvBytes
namespace Go.Proofs.Ytolpiklhnafnbaa
set_option maxRecDepth 100000
open Go.RowKit Wd Nm

/- What it answers is a row of its own. -/
set_option maxHeartbeats 400000 in
theorem clone_own (A : Option Addr) (n cap : Nat) (l : List UInt8) (w : World) (hs : Shows w w.heap.size A n cap l) (hn : n ≤ 100000000000) :
    Calls Try.prog 56 #[.slice A n cap] w fun e w' => ∃ A2 c2, e = .returned (.slice A2 n c2) ∧ w'.ownsRow w.heap.size 5 1 (.slice A2 n c2) n (bc l) ∧ Below w.heap.size w w' := by
  have q22 : ∀ (w : World) (a : Option Addr) (n c n' c' : Nat), (binOp .eql 29 (.slice a n c) (.slice none n' c')).run Try.prog w = .ok (.bool a.isNone) w := fun w a n c n' c' => Lib.run_eql_slice_nil w _ _ a n c n' c' Try.underlying29
  obtain ⟨i0, hi0, hz0, hz1, hz2⟩ := info_parts infoByte
  rcases A with _ | a
  · have h0 : n = 0 := by
      rcases Nat.eq_zero_or_pos n with h | h
      · exact h
      · obtain ⟨g, o, e, _⟩ := hs.spot h
        cases e
    subst h0
    have hl : l = [] := List.eq_nil_of_length_eq_zero hs.len
    subst hl
    clear hs
    go_enter Try.func56, Try.ntmps56
    go_wp2
    go_ret
    exact ⟨none, 0, rfl, World.ownsRow_nil w w.heap.size 5 1, Below.refl _ _⟩
  · have hown : (w.alloc (.cells #[] 5)).ownsRow w.heap.size 5 1 (.slice (some ⟨w.heap.size, 0, none⟩) 0 0) 0 (bc []) := World.ownsRow_made w #[] 0 (Nat.le_refl _) (Nat.zero_le _) rfl
    have hb : Below w.heap.size w (w.alloc (.cells #[] 5)) := (Below.refl _ _).alloc (Nat.le_refl _) _
    have hsrc := (hs.below hb).src (P := Try.prog) Try.underlying29
    clear hs
    go_enter Try.func56, Try.ntmps56
    go_wp2_with (at_builtin; refine wpList_ap _ rfl _ _ 29 29 rfl w.heap.size 5 i0 Try.underlying29 hi0 hz0 hz1 hz2 _ 0 0 [] rfl hown _ n l rfl hsrc ?c1 ?c2 ?_)
    case c1 => omega
    case c2 => simp
    intro A2 c2 w2 hown2 _ hg2 _
    have hb2 := hb.grown hg2 (by simp) (by intro k hk; simp at hk; omega)
    have hs2 := hown2
    clear hown hsrc hown2 hg2 hb
    go_wp2
    go_ret
    exact ⟨A2, c2, rfl, hs2, hb2⟩

theorem clone_any (A : Option Addr) (n cap : Nat) (l : List UInt8) (w : World) (hs : Shows w w.heap.size A n cap l) (hn : n ≤ 100000000000) :
    Calls Try.prog 56 #[.slice A n cap] w fun e w' => ∃ A2 c2, e = .returned (.slice A2 n c2) ∧ Shows w' w'.heap.size A2 n c2 l ∧ Below w.heap.size w w' :=
  (clone_own A n cap l w hs hn).mono fun _ _ ⟨A2, c2, h1, h2, h3⟩ => ⟨A2, c2, h1, Shows.of_own h2, h3⟩
end Go.Proofs.Ytolpiklhnafnbaa
