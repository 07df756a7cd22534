/- The reference's memory of chapter 4: contracts of Start, Stop, Read, New. -/
import Derived.Test.YtolpiklhnafnbaaRfFace
namespace Go.Proofs.Ytolpiklhnafnbaa
set_option maxRecDepth 100000
open Go.RowKit Wd Fm

set_option maxHeartbeats 400000 in
theorem xstart_any (g : Nat) (m : Mem) (w : World) (h : Rf w g m) :
    Calls Try.prog 30 #[.pointer (some ⟨g, 0, none⟩)] w fun e w' => e = .returned (.tuple #[]) ∧ Rf w' g (startM m) ∧ w.grownBy w' (some g) := by
  obtain ⟨xm, A, n, cap, hr, ho, _⟩ := h.spot
  obtain ⟨a0, a1, a2, a3⟩ := rfCells_at m (.slice A n cap) h.size
  have c1 := hr.cell a1
  have c2 := hr.cell a2
  have c3 := hr.cell a3
  have f1 := hr.frozen 6145
  have f2 := hr.frozen 6146
  have f3 := hr.frozen 6147
  have r1 := ((hr.set 6147 (.bool false)).set 6145 (.int .i64 0)).set 6146 (.slice none 0 0)
  rw [(rfCells_set m (.slice A n cap) (.slice none 0 0) h.size false 0).2.2.2] at r1
  rw [(rfCells_set { m with dead := false } (.slice A n cap) (.slice none 0 0) h.size false 0).2.1] at r1
  rw [(rfCells_set { m with dead := false, left := 0 } (.slice A n cap) (.slice none 0 0) h.size false 0).2.2.1] at r1
  have hF : Rf (((w.setCell ⟨g, 6147, none⟩ (.bool false)).setCell ⟨g, 6145, none⟩ (.int .i64 0)).setCell ⟨g, 6146, none⟩ (.slice none 0 0)) g (startM m) :=
    ⟨h.size, Int.le_refl _, (show (0 : Int) ≤ 9223372036854775807 by decide), [], none, 0, 0, r1, World.ownsRow_nil _ _ _ _, fun hh => absurd hh (by show ¬ (0 : Int) < 0; decide)⟩
  have HH := Lib.hid hF
  clear hr ho h r1 a0 a1 a2 a3 hF
  go_enter Try.func30, Try.ntmps30
  go_wp2
  exact bodyPost_end (results_none rfl _ _ _) rfl ⟨rfl, HH.out, grow_set (grow_set (grow_set (grow_refl w _) _ _) _ _) _ _⟩

set_option maxHeartbeats 1000000 in
theorem xstop_any (g : Nat) (m : Mem) (k : Int) (A : Option Addr) (n cap : Nat) (l : List UInt8) (w : World) (h : Rf w g m) (hk : k ≤ 9223372036854775807) (hs : Shows w w.heap.size A n cap l) (hn : n ≤ 10000000000) :
    Calls Try.prog 28 #[.pointer (some ⟨g, 0, none⟩), .int .i64 k, .slice A n cap] w fun e w' => e = .returned (.tuple #[]) ∧ Rf w' g (stopM m k l) ∧ w.grownBy w' (some g) := by
  obtain ⟨i0, hi0, hz0, hz1, hz2⟩ := info_parts infoByte
  have hown0 : (w.alloc (.cells #[] 5)).ownsRow w.heap.size 5 1 (.slice (some ⟨w.heap.size, 0, none⟩) 0 0) 0 (bc []) := World.ownsRow_made w #[] 0 (Nat.le_refl _) (Nat.zero_le _) rfl
  have hsrc := (hs.below (below_new (Below.refl _ _) (.cells #[] 5))).src (P := Try.prog) Try.underlying29
  have HOWN0 := Lib.hid hown0
  have HSRC := Lib.hid hsrc
  have HI0 := Lib.hid hi0
  have HZ0 := Lib.hid hz0
  have HZ1 := Lib.hid hz1
  have HZ2 := Lib.hid hz2
  have H1 := Lib.hid (And.intro h (And.intro hs.len hk))
  clear h hs hown0 hsrc hi0 hz0 hz1 hz2 hk
  go_enter Try.func28, Try.ntmps28
  go_wp2_with (at_builtin; refine wpList_ap _ rfl (.tmp 10) (.tmp 11) 29 29 rfl w.heap.size 5 i0 Try.underlying29 HI0.out HZ0.out HZ1.out HZ2.out _ 0 0 [] rfl HOWN0.out _ n l rfl HSRC.out ?c1 ?c2 ?_)
  case c1 => omega
  case c2 => simp
  intro A1 c1 w1 ho1 _ hg1 _
  have hb1 : Below w.heap.size w w1 := (below_new (Below.refl _ _) _).grown hg1 (by simp) (by intro k hk; simp at hk; omega)
  have f1 := H1.out.1.below hb1
  obtain ⟨xm, A2, n2, cap2, hr, _, _⟩ := f1.spot
  obtain ⟨a0, a1, a2, a3⟩ := rfCells_at m (.slice A2 n2 cap2) f1.size
  have d1 := hr.cell a1
  have d2 := hr.cell a2
  have e1 := hr.frozen 6145
  have e2 := hr.frozen 6146
  have hr1 := hr.set 6145 (.int .i64 (max k 0))
  have o1 := own_set (i := 6145) (.int .i64 (max k 0)) ho1 hr tyx_ne
  rw [(rfCells_set m (.slice A2 n2 cap2) (.slice none 0 0) f1.size false (max k 0)).2.1] at hr1
  have hr2 := hr1.set 6146 (.slice A1 n c1)
  have o2 := own_mono (own_set (i := 6146) (.slice A1 n c1) o1 hr1 tyx_ne) (Nat.zero_le _)
  rw [(rfCells_set { m with left := max k 0 } (.slice A2 n2 cap2) (.slice A1 n c1) f1.size false 0).2.2.1] at hr2
  have hF : Rf ((w1.setCell ⟨g, 6145, none⟩ (.int .i64 (max k 0))).setCell ⟨g, 6146, none⟩ (.slice A1 n c1)) g (stopM m k l) := by
    by_cases h0 : 0 < k
    · have hm : stopM m k l = { m with left := k, mask := l.take 1024 } := by simp [stopM, h0]
      rw [hm]
      rw [show max k 0 = k by omega] at hr2 o2 ⊢
      exact ⟨f1.size, by show (0 : Int) ≤ k; omega, H1.out.2.2, l, A1, n, c1, hr2, o2, fun _ => rfl⟩
    · have hm : stopM m k l = { m with left := 0, mask := [] } := by simp [stopM, h0]
      rw [hm]
      rw [show max k 0 = 0 by omega] at hr2 o2 ⊢
      exact ⟨f1.size, Int.le_refl _, (show (0 : Int) ≤ 9223372036854775807 by decide), l, A1, n, c1, hr2, o2, fun hh => absurd hh (by show ¬ (0 : Int) < 0; decide)⟩
  have hG := grow_set (grow_set (below_grow hb1 (some g)) 6145 (.int .i64 (max k 0))) 6146 (.slice A1 n c1)
  have HF := Lib.hid (And.intro hF hG)
  clear hF hG hr hr1 hr2 o1 o2 ho1 hg1 hb1 f1 a0 a1 a2 a3 HOWN0 HSRC
  go_wp2
  exact bodyPost_end (results_none rfl _ _ _) rfl ⟨rfl, HF.out.1, HF.out.2⟩

set_option maxHeartbeats 1000000 in
theorem xread_any (g : Nat) (m : Mem) (s : Int) (w : World) (h : Rf w g m) :
    Calls Try.prog 43 #[.pointer (some ⟨g, 0, none⟩), .int .i64 s] w fun e w' => ∃ A n cap, e = .returned (.slice A n cap) ∧ w'.ownsRow w.heap.size 5 1 (.slice A n cap) n (bc (readM m s)) ∧ Below w.heap.size w w' := by
  by_cases hs : isSector s
  · obtain ⟨t, rfl⟩ : ∃ t : Nat, s = t := ⟨s.toNat, by have := hs.1; omega⟩
    have ht : t < 6 := by have := hs.2; omega
    have e : readM m (t : Int) = m.page (t * 1024) 1024 := by
      unfold readM placeOf
      rw [if_pos hs]
      simp only [Int.toNat_natCast, Int.toNat_zero, Nat.zero_mul, Nat.add_zero]
    rw [e]
    obtain ⟨L, hL⟩ : ∃ L, m.page (t * 1024) 1024 = L := ⟨_, rfl⟩
    have hsh := h.shows (t * 1024) 1024 1024 (by omega) (Nat.le_refl _) (by decide)
    rw [hL] at hsh ⊢
    obtain ⟨i0, hi0, hz0, hz1, hz2⟩ := info_parts infoByte
    have hown0 : (w.alloc (.cells #[] 5)).ownsRow w.heap.size 5 1 (.slice (some ⟨w.heap.size, 0, none⟩) 0 0) 0 (bc []) := World.ownsRow_made w #[] 0 (Nat.le_refl _) (Nat.zero_le _) rfl
    have hsrc := (hsh.below (below_new (Below.refl _ _) (.cells #[] 5))).src (P := Try.prog) Try.underlying29
    have HOWN0 := Lib.hid hown0
    have HSRC := Lib.hid hsrc
    have HI0 := Lib.hid hi0
    have HZ0 := Lib.hid hz0
    have HZ1 := Lib.hid hz1
    have HZ2 := Lib.hid hz2
    have hti : (t : Int) < 6 := by omega
    clear hs e hL hown0 hsrc hi0 hz0 hz1 hz2 hsh h
    go_enter Try.func43, Try.ntmps43
    go_wp2_with (at_builtin; refine wpList_ap _ rfl (.tmp 11) (.tmp 17) 29 29 rfl w.heap.size 5 i0 Try.underlying29 HI0.out HZ0.out HZ1.out HZ2.out _ 0 0 [] rfl HOWN0.out _ 1024 L rfl HSRC.out ?c1 ?c2 ?_)
    case c1 => omega
    case c2 => simp
    intro A1 c1 w1 ho1 _ hg1 _
    have hb1 : Below w.heap.size w w1 := (below_new (Below.refl _ _) _).grown hg1 (by simp) (by intro k hk; simp at hk; omega)
    have HE := Lib.hid (And.intro ho1 hb1)
    clear ho1 hb1 hg1 HOWN0 HSRC
    go_wp2
    go_ret
    exact ⟨A1, 1024, c1, rfl, HE.out.1, HE.out.2⟩
  · have e : readM m s = [] := by unfold readM; rw [if_neg hs]
    rw [e]
    have hor : s < 0 ∨ (0 ≤ s ∧ 6 ≤ s) := by unfold isSector at hs; omega
    clear hs e h
    rcases hor with h1 | ⟨h1, h2⟩
    all_goals
      go_enter Try.func43, Try.ntmps43
      go_wp2
      go_ret
      exact ⟨none, 0, 0, rfl, World.ownsRow_nil _ _ _ _, Below.refl _ _⟩
end Go.Proofs.Ytolpiklhnafnbaa
