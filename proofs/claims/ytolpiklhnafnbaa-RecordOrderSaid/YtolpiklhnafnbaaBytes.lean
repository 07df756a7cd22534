/- Contracts for slices.Grow, slices.Concat and bytes.Clone on slices of bytes, and what a block of made cells shows. They speak of no package of the program. -/
import Derived.Test.YtolpiklhnafnbaaProg
import Derived.Test.YtolpiklhnafnbaaParts
import Derived.Test.YtolpiklhnafnbaaClone
import Derived.Deep.LoopGhost
import Derived.Lib.Hide
import Derived.Lib.ConvBytes
namespace Go.Proofs.Ytolpiklhnafnbaa
set_option maxRecDepth 100000
open Go.RowKit Wd Nm

set_option maxHeartbeats 400000 in
theorem grow_any (n : Nat) (hm : n ≤ 1000000000000) (w : World) :
    Calls Try.prog 70 #[.slice none 0 0, .int .i64 n] w fun e w' => ∃ A c, e = .returned (.slice A 0 c) ∧ w'.ownsRow w.heap.size 5 1 (.slice A 0 c) 0 (bc []) ∧ w.grownBy w' none := by
  have h5 : Try.t5.bytes = 1 := by kernel_rfl
  rcases Nat.eq_zero_or_pos n with h0 | h0
  · subst h0
    go_enter Try.func70, Try.ntmps70
    go_wp2
    go_ret
    exact ⟨none, 0, rfl, World.ownsRow_nil w _ _ 1, grow_refl w _⟩
  · have hb1 : (n : Int) * (Try.t5.bytes : Int) ≤ 281474976710656 := by rw [h5]; omega
    have hb2 : ¬ 281474976710656 < Builtin.nextslicecap n 0 * Try.t5.bytes := by
      rw [h5]
      have := growslice_fits (need := n) (old := 0) (bytes := 1) h0 (by omega)
      omega
    clear h5
    go_enter Try.func70, Try.ntmps70
    go_wp2
    go_ret
    refine ⟨_, _, rfl, ?_, grow_drew (World.grownBy_alloc w _ none)⟩
    have hge := grownCap_ge w n 0 5
    have hcm := grownCap_le_maxLen w n 0 5 (by simp only [maxLen]; omega)
    refine World.ownsRow_made (w := w.drew) _ _ (Nat.le_refl _) hcm ?_
    have hz1 : (#[Value.int IntKind.u8 0] : Array Value).size = 1 := rfl
    simp only [Array.size_append, size_zeroCells, hz1, Nat.mul_one]
    unfold grownCap at hge
    omega
set_option maxHeartbeats 1000000 in
theorem concat_any (ps : List Part) (g : Nat) (w : World) (hg : g < w.heap.size) (hl : Laid w w.heap.size g ps) (hk : ps.length ≤ 1000) (ht : total ps ≤ 1000000000000) :
    Calls Try.prog 62 #[.slice (some ⟨g, 0, none⟩) ps.length ps.length] w fun e w' => ∃ A c, e = .returned (.slice A (total ps) c) ∧ w'.ownsRow w.heap.size 5 1 (.slice A (total ps) c) (total ps) (bc (joined ps)) ∧ Below w.heap.size w w' := by
  obtain ⟨i0, hi0, hz0, hz1, hz2⟩ := info_parts infoByte
  go_enter Try.func62, Try.ntmps62
  go_wp2
  go_loop [3, 5, 11] (fun s _ i => ∃ j : Nat, j ≤ ps.length ∧ i = .int .i64 j ∧ s = .int .i64 (total (ps.take j) : Nat)) (fun _ _ i => ps.length - (intOf i).toNat)
  case atStart => exact ⟨0, Nat.zero_le _, rfl, rfl⟩
  case round =>
    obtain ⟨j, hj, rfl, rfl⟩ := hrel
    by_cases hlt : j < ps.length
    · have hc := (hl j hlt).1
      have hn := total_next ps j hlt
      have hle := total_le ps (j + 1)
      rw [hn] at hle
      have HN := Lib.hid hn
      clear hn
      go_wp2
      go_round
      case rel => exact ⟨j + 1, by omega, by go_num, by rw [HN.out]; go_num⟩
      case measure => simp [intOf]; omega
    · obtain rfl : j = ps.length := by omega
      have htk : ps.take ps.length = ps := List.take_length
      have HT := Lib.hid htk
      rw [htk]
      clear htk
      go_wp2_with (go_at_call 70; refine (grow_any _ ht _).mono ?_; rintro e w1 ⟨A, c, rfl, hown, hgr⟩)
      have hbel := grow_below hgr (Nat.le_refl w.heap.size) (by intro k hk; cases hk)
      clear hgr
      go_loopw [6, 8, 27] (fun s _ i wr => ∃ j : Nat, ∃ A c, j ≤ ps.length ∧ i = .int .i64 j ∧ s = .slice A (total (ps.take j)) c ∧ wr.ownsRow w.heap.size 5 1 (.slice A (total (ps.take j)) c) (total (ps.take j)) (bc (joined (ps.take j))) ∧ Below w.heap.size w wr) (fun _ _ i _ => ps.length - (intOf i).toNat)
      case atStart => exact ⟨0, A, c, Nat.zero_le _, rfl, rfl, hown, hbel⟩
      case round =>
        clear hown hbel
        obtain ⟨j, A, c, hj, rfl, rfl, hown, hbel⟩ := hrel
        by_cases hlt : j < ps.length
        · obtain ⟨hc, hsh⟩ := hl j hlt
          have hc' : wr.cell? ⟨g, j, none⟩ = some (.slice ps[j].A ps[j].n ps[j].cap) := (hbel.cell (p := ⟨g, j, none⟩) hg).trans hc
          have hsh' := hsh.below hbel
          have hle := total_le ps (j + 1)
          rw [total_next ps j hlt] at hle
          have HN := Lib.hid (total_next ps j hlt)
          have HJ := Lib.hid (joined_next ps j hlt)
          clear hc hsh
          go_wp2_with (at_builtin; refine wpList_ap _ rfl _ _ 29 29 rfl w.heap.size 5 i0 Try.underlying29 hi0 hz0 hz1 hz2 A _ c _ rfl hown _ _ _ rfl (hsh'.src Try.underlying29) ?c1 hbel.size ?_)
          case c1 => omega
          intro A2 c2 w2 hown2 _ hg2 _
          have hb2 := hbel.grown hg2 hbel.size (fun k hk => (own_block hown k hk).1)
          clear hg2 hown hbel
          go_wp2
          go_roundw
          case rel => exact ⟨j + 1, A2, c2, by omega, by go_num, by rw [HN.out], by rw [HN.out, HJ.out]; exact hown2, hb2⟩
          case measure => simp [intOf]; omega
        · obtain rfl : j = ps.length := by omega
          rw [HT.out] at hown ⊢
          go_wp2
          go_ret
          exact ⟨A, c, rfl, hown, hbel⟩

theorem concat_two (p q : Part) (w : World) (g : Nat) (hg : w.heap.size = g) (hp : Shows w g p.A p.n p.cap p.l) (hq : Shows w g q.A q.n q.cap q.l) (hsm : p.n + q.n ≤ 1000000000000) :
    Calls Try.prog 62 #[.slice (some ⟨g, 0, none⟩) 2 2] (w.alloc (.cells #[.slice p.A p.n p.cap, .slice q.A q.n q.cap] 29)) fun e w' => ∃ A c, e = .returned (.slice A (p.n + q.n) c) ∧ w'.ownsRow g 5 1 (.slice A (p.n + q.n) c) (p.n + q.n) (bc (p.l ++ q.l)) ∧ Below g w w' := by
  subst hg
  refine (concat_any [p, q] w.heap.size _ (by simp) (laid_two hp hq _) (by simp) (by simp [total]; omega)).mono ?_
  rintro e w' ⟨A, c, rfl, hown, hbel⟩
  have e1 : total [p, q] = p.n + q.n := by simp [total]
  have e2 : joined [p, q] = p.l ++ q.l := by simp [joined]
  rw [e1, e2] at hown
  rw [e1]
  refine ⟨A, c, rfl, ⟨hown.1, ?_⟩, ((Below.refl _ _).alloc (Nat.le_refl _) _).trans (hbel.mono (by simp))⟩
  rcases hown.2 with h | ⟨g, cap, cur, h1, h2, h3⟩
  · exact .inl h
  · exact .inr ⟨g, cap, cur, h1, by simp at h2; omega, h3⟩

theorem concat_three (p q r : Part) (w : World) (g : Nat) (hg : w.heap.size = g) (hp : Shows w g p.A p.n p.cap p.l) (hq : Shows w g q.A q.n q.cap q.l) (hr : Shows w g r.A r.n r.cap r.l) (hsm : p.n + q.n + r.n ≤ 1000000000000) :
    Calls Try.prog 62 #[.slice (some ⟨g, 0, none⟩) 3 3] (w.alloc (.cells #[.slice p.A p.n p.cap, .slice q.A q.n q.cap, .slice r.A r.n r.cap] 29)) fun e w' => ∃ A c, e = .returned (.slice A (p.n + q.n + r.n) c) ∧ w'.ownsRow g 5 1 (.slice A (p.n + q.n + r.n) c) (p.n + q.n + r.n) (bc (p.l ++ q.l ++ r.l)) ∧ Below g w w' := by
  subst hg
  refine (concat_any [p, q, r] w.heap.size _ (by simp) (laid_three hp hq hr _) (by simp) (by simp [total]; omega)).mono ?_
  rintro e w' ⟨A, c, rfl, hown, hbel⟩
  have e1 : total [p, q, r] = p.n + q.n + r.n := by simp [total]; omega
  have e2 : joined [p, q, r] = p.l ++ q.l ++ r.l := by simp [joined]
  rw [e1, e2] at hown
  rw [e1]
  refine ⟨A, c, rfl, ⟨hown.1, ?_⟩, ((Below.refl _ _).alloc (Nat.le_refl _) _).trans (hbel.mono (by simp))⟩
  rcases hown.2 with h | ⟨g, cap, cur, h1, h2, h3⟩
  · exact .inl h
  · exact .inr ⟨g, cap, cur, h1, by simp at h2; omega, h3⟩

end Go.Proofs.Ytolpiklhnafnbaa
