/- Chapter 4's Same: of two memories that are one it answers true. -/
import Derived.Test.YtolpiklhnafnbaaRfNew
import Derived.Test.YtolpiklhnafnbaaAnyUp
import Derived.Deep.QuietTactic
import Derived.BigQuiet
namespace Go.Proofs.Ytolpiklhnafnbaa
set_option maxRecDepth 100000
open Go.RowKit Wd Fm

theorem below_drewN {B : Nat} {w w' : World} (h : Below B w w') (q : Nat) : Below B w (w'.drewN q) := ⟨h.os, h.tape, h.output, h.size, h.block⟩

set_option maxHeartbeats 2000000 in
theorem same_any (g x : Nat) (m : Mem) (w : World) (hf : Fl w g m) (hx : Rf w x m) :
    Calls Try.prog 17 #[.pointer (some ⟨g, 0, none⟩), .pointer (some ⟨x, 0, none⟩)] w fun e w' => e = .returned (.bool true) ∧ Below w.heap.size w w' := by
  have H := Lib.hid (And.intro hf hx)
  clear hf hx
  go_enter Try.func17, Try.ntmps17
  go_wp2_with fail
  go_loopw [5] (fun i wr => ∃ k : Nat, k ≤ 8 ∧ i = .int .i64 ((k : Int) - 1) ∧ Hid (Below w.heap.size w wr)) (fun i _ => 8 - (intOf i + 1).toNat)
  case atStart => exact ⟨0, by omega, rfl, Lib.hid (Below.refl _ _)⟩
  case round =>
    obtain ⟨k, hk, rfl, HB⟩ := hrel
    by_cases hlt : k < 8
    · have hki : (k : Int) - 1 < 7 := by omega
      obtain ⟨s, hs⟩ : ∃ s, (k : Int) - 1 = s := ⟨_, rfl⟩
      have HS := Lib.hid hs
      obtain ⟨L, hL⟩ : ∃ L, readM m s = L := ⟨_, rfl⟩
      have HL := Lib.hid hL
      have hs1 : -1 ≤ s ∧ s ≤ 6 := by omega
      rw [hs] at hki ⊢
      clear hs hL
      go_wp2_with fail
      have hM0 : Below w.heap.size w wr.drew := HB.out.drew
      refine wp_region_held_drew (S := fun W => Below w.heap.size w W) (by kernel_rfl) hM0 (fun hH0 => ?_)
      refine wpAnyH_take (i := 0) (v := ?_) rfl (by kernel_rfl) (by kernel_rfl) (by kernel_rfl) (fun _ _ _ h => h) (Or.inl ⟨by rfl, ?_⟩) (by assumption) ?_
      rotate_left
      · intro w' hS'; go_simp; try exact rfl
      try simp only [Act.put, List.getElem_toArray, List.getElem_cons_zero, List.setIfInBounds_toArray, List.set_cons_zero, List.set_cons_succ]
      refine wpAnyH_take (i := 1) (v := ?_) rfl (by kernel_rfl) (by kernel_rfl) (by kernel_rfl) (fun _ _ _ h => h) (Or.inl ⟨by rfl, ?_⟩) (by assumption) ?_
      rotate_left
      · intro w' hS'; go_simp; try exact rfl
      try simp only [Act.put, List.getElem_toArray, List.getElem_cons_succ, List.getElem_cons_zero, List.setIfInBounds_toArray, List.set_cons_zero, List.set_cons_succ]
      refine wpAnyH_take (i := 4) (v := ?_) rfl (by kernel_rfl) (by kernel_rfl) (by kernel_rfl) (fun _ _ _ h => h) (Or.inl ⟨by rfl, ?_⟩) (by assumption) ?_
      rotate_left
      · intro w' hS'; go_simp; try exact rfl
      try simp only [Act.put, List.getElem_toArray, List.getElem_cons_succ, List.getElem_cons_zero, List.setIfInBounds_toArray, List.set_cons_zero, List.set_cons_succ]
      refine wpAnyH_take (i := 5) (v := ?_) rfl (by kernel_rfl) (by kernel_rfl) (by kernel_rfl) (fun _ _ _ h => h) (Or.inl ⟨by rfl, ?_⟩) (by assumption) ?_
      rotate_left
      · intro w' hS'; go_simp; try exact rfl
      try simp only [Act.put, List.getElem_toArray, List.getElem_cons_succ, List.getElem_cons_zero, List.setIfInBounds_toArray, List.set_cons_zero, List.set_cons_succ]
      refine wpAnyH_ready (rs := [2]) (by kernel_rfl) (by simp) ?_
      refine AllReadyH.cons rfl (fun K hK => ?_) AllReadyH.nil
      go_simp
      (with_reducible refine (read_any g m s _ (H.out.1.below hH0)).mono ?_)
      rintro _ wB ⟨A1, n1, c1, rfl, ho1, hb1⟩
      rw [HL.out] at ho1
      have hB1 := step_below hH0 hb1
      have hs1 := Shows.of_own ho1
      go_wp2_with fail
      refine hK.out _ _ hB1 (fun hH1 => ?_)
      clear hK K
      try simp only [Act.put, List.getElem_toArray, List.getElem_cons_succ, List.getElem_cons_zero, List.setIfInBounds_toArray, List.set_cons_zero, List.set_cons_succ]
      refine wpAnyH_up (S' := fun W => Below w.heap.size w W ∧ Below wB.heap.size wB W) (fun W h => h.1) _ _ _ _ ?_
      have hHC : Below w.heap.size w wB ∧ Below wB.heap.size wB wB := ⟨hH1, Below.refl _ _⟩
      refine wpAnyH_take (i := 3) (v := ?_) rfl (by kernel_rfl) (by kernel_rfl) (by kernel_rfl) (fun _ _ _ h => h) (Or.inl ⟨by rfl, ?_⟩) (by assumption) ?_
      rotate_left
      · intro w' hS'; have hcv := (hs1.below hS'.2).conv (P := Try.prog) Try.underlying29 Try.underlying5 Try.underlying9; go_simp; try exact rfl
      try simp only [Act.put, List.getElem_toArray, List.getElem_cons_succ, List.getElem_cons_zero, List.setIfInBounds_toArray, List.set_cons_zero, List.set_cons_succ]
      refine wpAnyH_ready (rs := [6]) (by kernel_rfl) (by simp) ?_
      refine AllReadyH.cons rfl (fun K hK => ?_) AllReadyH.nil
      go_simp
      (with_reducible refine (xread_any x m s _ (H.out.2.below hH1)).mono ?_)
      rintro _ wC ⟨A2, n2, c2, rfl, ho2, hb2⟩
      rw [HL.out] at ho2
      have hB2 := step_below hH1 hb2
      have hs2 := Shows.of_own ho2
      go_wp2_with fail
      refine hK.out _ _ ⟨hB2, hb2⟩ (fun hH2 => ?_)
      clear hK K
      try simp only [Act.put, List.getElem_toArray, List.getElem_cons_succ, List.getElem_cons_zero, List.setIfInBounds_toArray, List.set_cons_zero, List.set_cons_succ]
      refine wpAnyH_up (S' := fun W => (Below w.heap.size w W ∧ Below wB.heap.size wB W) ∧ Below wC.heap.size wC W) (fun W h => h.1) _ _ _ _ ?_
      have hHD : (Below w.heap.size w wC ∧ Below wB.heap.size wB wC) ∧ Below wC.heap.size wC wC := ⟨hH2, Below.refl _ _⟩
      refine wpAnyH_take (i := 7) (v := ?_) rfl (by kernel_rfl) (by kernel_rfl) (by kernel_rfl) (fun _ _ _ h => h) (Or.inl ⟨by rfl, ?_⟩) (by assumption) ?_
      rotate_left
      · intro w' hS'; have hcv := (hs2.below hS'.2).conv (P := Try.prog) Try.underlying29 Try.underlying5 Try.underlying9; go_simp; try exact rfl
      try simp only [Act.put, List.getElem_toArray, List.getElem_cons_succ, List.getElem_cons_zero, List.setIfInBounds_toArray, List.set_cons_zero, List.set_cons_succ]
      refine wpAnyH_take (i := 8) (v := ?_) rfl (by kernel_rfl) (by kernel_rfl) (by kernel_rfl) (fun _ _ _ h => h) (Or.inl ⟨by rfl, ?_⟩) (by assumption) ?_
      rotate_left
      · intro w' hS'; go_simp; try exact rfl
      try simp only [Act.put, List.getElem_toArray, List.getElem_cons_succ, List.getElem_cons_zero, List.setIfInBounds_toArray, List.set_cons_zero, List.set_cons_succ]
      refine wpAnyH_done (by kernel_rfl) ?_ _
      have HE := Lib.hid hHD.1.1
      clear hHD hH0 hH1 hH2 hM0 hB1 hB2 hHC hs1 hs2 ho1 ho2 hb1 hb2 HB HL
      go_wp2
      go_roundw
      case rel => exact ⟨k + 1, by omega, by rw [← HS.out]; go_num, HE⟩
      case measure => simp [intOf]; have := HS.out; omega
    · have hk8 : k = 8 := by omega
      subst hk8
      have hF := H.out.1.below HB.out
      have hX := H.out.2.below HB.out
      obtain ⟨xm, A, n, cap, hr, _, _⟩ := hX.spot
      obtain ⟨a0, _, _, a3⟩ := rfCells_at m (.slice A n cap) hX.size
      have c0 := hr.cell a0
      have c3 := hr.cell a3
      have HD : Hid (∀ q, Calls Try.prog 44 #[.pointer (some ⟨g, 0, none⟩)] (wr.drewN q) fun e w' => e = .returned (.bool m.dead) ∧ w' = wr.drewN q) := Lib.hid (fun q => by
        refine (dead_any g m (wr.drewN q) (hF.below (below_drewN (Below.refl _ _) q))).mono ?_
        rintro _ _ ⟨rfl, rfl⟩
        exact ⟨rfl, rfl⟩)
      have HO : Hid (∀ q, Calls Try.prog 31 #[.pointer (some ⟨g, 0, none⟩)] (wr.drewN q) fun e w' => e = .returned (.int .i64 m.ops) ∧ w' = wr.drewN q) := Lib.hid (fun q => by
        refine (ops_any g m (wr.drewN q) (hF.below (below_drewN (Below.refl _ _) q))).mono ?_
        rintro _ _ ⟨rfl, rfl⟩
        exact ⟨rfl, rfl⟩)
      clear hF hX hr a0 a3
      go_wp2_with fail
      go_quiet ((first | (go_at_call 44; exact Calls.quiet_of_same (HD.out _)) | (go_at_call 31; exact Calls.quiet_of_same (HO.out _))))
      go_wp2
      go_ret
      exact ⟨rfl, below_drewN HB.out _⟩
end Go.Proofs.Ytolpiklhnafnbaa
