/- The walk of the law SlotsRows: slots that are none, images that are too long, are refused, and change nothing. -/
import Derived.Test.YtnbahpcajnjieaaDoorLaw6Base
namespace Go.Proofs.YtnbahpcajnjieaaDoor
set_option maxRecDepth 100000
open Go.RowKit _root_.Go.Proofs.YtnbahpcajnjieaaDoor.Wd _root_.Go.Proofs.YtnbahpcajnjieaaDoor.Nm _root_.Go.Proofs.YtnbahpcajnjieaaDoor.Cm _root_.Go.Proofs.YtnbahpcajnjieaaDoor.Fm _root_.Go.Proofs.YtnbahpcajnjieaaDoor.Sm

theorem programM_ops (m : Mem) (s p : Int) (b : List UInt8) (h0 : 0 ≤ m.ops) (h1 : m.ops ≤ 1000000000) : m.ops ≤ (programM m s p b).2.ops ∧ (programM m s p b).2.ops ≤ m.ops + 1 := by
  have hw : wrap64 (m.ops + 1) = m.ops + 1 := by unfold wrap64; omega
  unfold programM
  split
  · exact ⟨Int.le_refl _, by show m.ops ≤ m.ops + 1; omega⟩
  split
  · exact ⟨Int.le_refl _, by show m.ops ≤ m.ops + 1; omega⟩
  split
  · exact ⟨Int.le_refl _, by show m.ops ≤ m.ops + 1; omega⟩
  split
  · exact ⟨Int.le_refl _, by show m.ops ≤ m.ops + 1; omega⟩
  unfold writeM
  split
  · simp only [hw]; exact ⟨by omega, Int.le_refl _⟩
  · simp only [hw]; exact ⟨by omega, Int.le_refl _⟩
theorem progX_ops : ∀ (k : Nat) (m : Mem) (s p : Int) (x : List UInt8), 0 ≤ m.ops → m.ops + k ≤ 1000000000 → m.ops ≤ (progX k m s p x).2.ops
  | 0, m, _, _, _, _, _ => Int.le_refl _
  | k + 1, m, s, p, x, h0, h1 => by
    unfold progX
    obtain ⟨a1, a2⟩ := programM_ops m s p (x.take 16) h0 (by omega)
    split
    · exact Int.le_refl _
    split
    · exact Int.le_trans a1 (progX_ops k _ s (p + 1) (x.drop 16) (by omega) (by omega))
    · exact a1
theorem appendM_ops (m : Mem) (s : Int) (b : List UInt8) (h0 : 0 ≤ m.ops) (h1 : m.ops + 6 + b.length ≤ 1000000000) : m.ops ≤ (appendM m s b).2.ops := by
  unfold appendM
  split
  · exact Int.le_refl _
  split
  · exact Int.le_refl _
  split
  · exact Int.le_refl _
  exact progX_ops _ _ _ _ _ h0 (by omega)
theorem store_fresh_ops (slot : Nat) (hs : slot < 2) (b : List UInt8) (hb : b.length ≤ 1000) : 0 < (storeM Mem.fresh slot b).2.ops := by
  have e := eraseM_ok (m := Mem.fresh) (2 + slot) rfl (by omega)
  rw [writeM_go _ _ rfl] at e
  have ec : (2 : Int) + (slot : Int) = ((2 + slot : Nat) : Int) := by omega
  unfold storeM
  rw [if_neg (by omega), if_neg (by omega), ec, e, if_neg (show ¬ ((0 : Int) ≠ 0) by decide)]
  have h1 : wrap64 (Mem.fresh.ops + 1) = 1 := by show wrap64 ((0 : Int) + 1) = 1; unfold wrap64; omega
  rw [h1]
  have h := appendM_ops ⟨lay Mem.fresh.B ((2 + slot) * 1024) (List.replicate 1024 255), Mem.fresh.dead, 1, 0, Mem.fresh.mask⟩ ((2 + slot : Nat) : Int) b (show (0 : Int) ≤ 1 by decide) (show (1 : Int) + 6 + (b.length : Int) ≤ 1000000000 by omega)
  exact Int.lt_of_lt_of_le (show (0 : Int) < 1 by decide) h

set_option maxHeartbeats 4000000 in
theorem slotsRows_walk (slot n0 : Int) (w : World) (hT : Tables w) (hs : (Lit.int .i64 slot).wf = true) (_hn : (Lit.int .i64 n0).wf = true) :
    Calls Tryd.prog 4 #[.int .i64 slot, .int .i64 n0] w fun e w' => e = .returned (.bool true) ∧ Below w.heap.size w w' := by
  have hsb : -9223372036854775808 ≤ slot ∧ slot ≤ 9223372036854775807 := by
    simp [Lit.wf, IntKind.min, IntKind.max, IntKind.signed, IntKind.bits] at hs
    omega
  obtain ⟨k, hk⟩ : ∃ k : Nat, n0 % 10 = k := ⟨(n0 % 10).toNat, by omega⟩
  have hk10 : k < 10 := by omega
  obtain ⟨n, hn⟩ : ∃ n : Nat, 995 + k = n := ⟨_, rfl⟩
  have hnk : (995 : Int) + (k : Int) = (n : Int) := by omega
  have hnb : n ≤ 1004 := by omega
  obtain ⟨b, hb⟩ : ∃ b : List UInt8, List.replicate n 0 = b := ⟨_, rfl⟩
  have hbl : b.length = n := by rw [← hb, List.length_replicate]
  have hmk := fun W => make_bytes W n (by omega)
  have hms := fun W => made_shows W n (by omega)
  rw [hb] at hmk hms
  have HB := Lib.hid (And.intro hk (And.intro hnk hT))
  have HMS := Lib.hid hms
  -- what becomes of both calls
  have hcase : ∃ (e g : Int) (m1 m2 : Mem), storeM Mem.fresh slot b = (e, m1) ∧ markM m1 slot (List.replicate 32 0) = (g, m2) ∧
      ((slot < 0 ∧ e = 1 ∧ m1.ops = 0 ∧ g = 1 ∧ m2 = m1) ∨ (2 < slot ∧ e = 1 ∧ m1.ops = 0 ∧ g = 1 ∧ m2 = m1) ∨ (1 < slot ∧ slot ≤ 2 ∧ e = 1 ∧ m1.ops = 0 ∧ g = 0) ∨ (0 ≤ slot ∧ slot ≤ 1 ∧ 1000 < n ∧ e = 5 ∧ m1.ops = 0 ∧ g = 0) ∨ (0 ≤ slot ∧ slot ≤ 1 ∧ n ≤ 1000 ∧ e = 0 ∧ 0 < m1.ops ∧ g = 0)) := by
    have hfr : ∀ m1 : Mem, Two m1 [] [] → 0 ≤ slot → slot ≤ 2 → ∃ m2, markM m1 slot (List.replicate 32 0) = (0, m2) := fun m1 h2 h3 h4 => by
      obtain ⟨m2, h5, _⟩ := h2.mark0 0 (by rw [h2.lat]; rfl) (by decide) (by decide) slot h3 h4 (List.replicate 32 0) (by simp) (by simp)
      exact ⟨m2, h5⟩
    by_cases h1 : slot < 0
    · exact ⟨1, 1, Mem.fresh, Mem.fresh, by unfold storeM; rw [if_pos (.inl h1)], by unfold markM; rw [if_pos (.inl h1)], .inl ⟨h1, rfl, rfl, rfl, rfl⟩⟩
    by_cases h2 : 2 < slot
    · exact ⟨1, 1, Mem.fresh, Mem.fresh, by unfold storeM; rw [if_pos (.inr (by omega))], by unfold markM; rw [if_pos (.inr h2)], .inr (.inl ⟨h2, rfl, rfl, rfl, rfl⟩)⟩
    by_cases h3 : slot = 2
    · obtain ⟨m2, h5⟩ := hfr Mem.fresh two_fresh (by omega) (by omega)
      exact ⟨1, 0, Mem.fresh, m2, by unfold storeM; rw [if_pos (.inr (by omega))], h5, .inr (.inr (.inl ⟨by omega, by omega, rfl, rfl, rfl⟩))⟩
    by_cases h4 : 1000 < n
    · obtain ⟨m2, h5⟩ := hfr Mem.fresh two_fresh (by omega) (by omega)
      exact ⟨5, 0, Mem.fresh, m2, by unfold storeM; rw [if_neg (by omega), if_pos (by omega)], h5, .inr (.inr (.inr (.inl ⟨by omega, by omega, h4, rfl, rfl, rfl⟩)))⟩
    · obtain ⟨s, rfl⟩ : ∃ s : Nat, slot = s := ⟨slot.toNat, by omega⟩
      obtain ⟨m1, a1, a2, _⟩ := two_fresh.store s (by omega) b (by omega)
      obtain ⟨m2, h5⟩ := hfr m1 a2 (by omega) (by omega)
      have hops := store_fresh_ops s (by omega) b (by omega)
      rw [a1] at hops
      exact ⟨0, 0, m1, m2, a1, h5, .inr (.inr (.inr (.inr ⟨by omega, by omega, by omega, rfl, hops, rfl⟩)))⟩
  obtain ⟨e, g, m1, m2, hst, hmm, hc⟩ := hcase
  have hnbl := noneB_built
  obtain ⟨BS, hBS⟩ : ∃ B, bc (List.replicate 32 0) = B := ⟨_, rfl⟩
  rw [hBS] at hnbl
  have HX := Lib.hid (And.intro hst (And.intro hmm (And.intro hnbl hBS)))
  clear hs hk hn hnk hb hbl hms hst hmm hnbl hBS hT
  rcases hc with ⟨c1, rfl, c2, rfl, rfl⟩ | ⟨c1, rfl, c2, rfl, rfl⟩ | ⟨c1, c3, rfl, c2, rfl⟩ | ⟨c1, c3, c4, rfl, c2, rfl⟩ | ⟨c1, c3, c4, rfl, c2, rfl⟩
  all_goals (
    have HC2 := Lib.hid c2
    clear c2
    go_enter Tryd.func4, Tryd.ntmps4
    go_wp2_with fail
    (with_reducible refine (known6_any w HB.out.2.2).mono ?_)
    rintro _ w1 ⟨rfl, hb1⟩
    have H1 := Lib.hid hb1
    clear hb1
    go_wp2_with fail
    (with_reducible refine (new_any _).mono ?_)
    rintro _ w2 ⟨rfl, hf2, hb2⟩
    obtain ⟨x, hx⟩ : ∃ x, w1.heap.size = x := ⟨_, rfl⟩
    rw [hx] at hf2 ⊢
    have H2 := Lib.hid (And.intro hf2 (And.intro (step_below H1.out hb2) (show w.heap.size ≤ x by have := H1.out.size; omega)))
    clear hf2 hb2 hx H1
    go_wp2_with fail
    (with_reducible refine (within6_any _ 10 _ (by decide) (by decide)).mono ?_)
    rintro _ w3 ⟨rfl, rfl⟩
    rw [HB.out.1]
    go_upto_region 5 with fail
    rw [HB.out.2.1]
    have b3 := below_new (Below.refl w2.heap.size w2) (.cells (bc b).toArray 5)
    have hxl := H2.out.1.lt
    have HST := Lib.hid (store_any x Mem.fresh slot (some ⟨w2.heap.size, 0, none⟩) n n b _ (H2.out.1.below b3) (HMS.out w2) (by omega) (fun p hp _ => by injection hp with hp; subst hp; show w2.heap.size ≠ x; omega))
    rw [HX.out.1] at HST
    have H3 := Lib.hid (step_below H2.out.2.1 b3)
    clear b3 hxl
    go_wp2_with fail
    refine HST.out.mono ?_
    rintro _ w4 ⟨rfl, hf4, hg4⟩
    have hb4 := step_grow H3.out hg4 H2.out.2.2
    have HO := Lib.hid (ops_any x _ w4 hf4)
    have HMK := Lib.hid (mark_any x _ slot (List.replicate 32 0) w4 hf4 (by simp) hsb.1 hsb.2)
    rw [HX.out.2.1, HX.out.2.2.2] at HMK
    have H4 := Lib.hid hb4
    clear hf4 hg4 hb4 HST H3
    go_wp2_with fail
    refine HO.out.mono ?_
    rintro _ w5 ⟨rfl, rfl⟩
    go_wp2_with (first
      | (refine wpList_build_is rfl 31 #[] rfl BS.toArray ?_ ?_; (focus (go_simp; exact HX.out.2.2.1))))
    refine HMK.out.mono ?_
    rintro _ w6 ⟨rfl, hf6, hg6⟩
    have HB6 := Lib.hid (step_grow H4.out hg6 H2.out.2.2)
    have HOPS := Lib.hid (ops_any x _ w6 hf6)
    clear hf6 hg6 HMK HO H4
    have hc2 := HC2.out
    (first | (have hd : decide (slot ≤ 2) = false := decide_eq_false (by omega)) | (have hd : decide (slot ≤ 2) = true := decide_eq_true (by omega)))
    go_wp2_with fail
    try (refine HOPS.out.mono ?_; rintro _ w7 ⟨rfl, rfl⟩; go_wp2_with fail)
    go_ret
    exact ⟨rfl, HB6.out⟩)
end Go.Proofs.YtnbahpcajnjieaaDoor
