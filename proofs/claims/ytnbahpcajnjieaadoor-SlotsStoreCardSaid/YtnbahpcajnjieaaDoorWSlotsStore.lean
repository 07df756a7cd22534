/- The walk of the law SlotsStore: what was stored last in a slot is what an entry of its sum boots; the other slot stays. -/
import Derived.Test.YtnbahpcajnjieaaDoorLaw6Base
import Derived.Test.YtnbahpcajnjieaaDoorKShaRef
namespace Go.Proofs.YtnbahpcajnjieaaDoor
set_option maxRecDepth 100000
open Go.RowKit _root_.Go.Proofs.YtnbahpcajnjieaaDoor.Wd _root_.Go.Proofs.YtnbahpcajnjieaaDoor.Nm _root_.Go.Proofs.YtnbahpcajnjieaaDoor.Cm _root_.Go.Proofs.YtnbahpcajnjieaaDoor.Fm _root_.Go.Proofs.YtnbahpcajnjieaaDoor.Sm

theorem fl_not_entry {w : World} {g E : Nat} {m : Mem} {C : List Value} (hf : Fl w g m) (hr : Row w E 36 C) : E ≠ g := fun e => by
  obtain ⟨A1, n1, c1, h2, _⟩ := hf.spot
  rw [e] at hr
  unfold Row at hr h2
  rw [hr] at h2
  injection h2 with h2
  injection h2 with _ h3 _
  exact absurd h3 (by decide)

set_option maxHeartbeats 4000000 in
theorem slotsStore_good (A0 : Option Addr) (n0 c0 : Nat) (l0 : List UInt8) (A1 : Option Addr) (n1 c1 : Nat) (l1 : List UInt8) (A2 : Option Addr) (n2 c2 : Nat) (l2 : List UInt8) (slot : Int) (w : World) (hT : Tables w)
    (h0 : Shows w w.heap.size A0 n0 c0 l0) (h1 : Shows w w.heap.size A1 n1 c1 l1) (h2 : Shows w w.heap.size A2 n2 c2 l2) (e0 : n0 ≠ 0) (e1 : n1 ≠ 0) (e2 : n2 ≠ 0) (e3 : n0 + n1 + n2 ≤ 2000) (e4 : n0 ≤ 1000) (e5 : n1 ≤ 1000) (e6 : n2 ≤ 1000) :
    Calls Tryd.prog 5 #[.slice A0 n0 c0, .slice A1 n1 c1, .slice A2 n2 c2, .int .i64 slot] w fun e w' => e = .returned (.bool true) ∧ Below w.heap.size w w' := by
  have hm0 : n0 ≤ 9223372036854775807 := by have := h0.le; have := h0.top; unfold maxLen at *; omega
  have hm1 : n1 ≤ 9223372036854775807 := by have := h1.le; have := h1.top; unfold maxLen at *; omega
  have hm2 : n2 ≤ 9223372036854775807 := by have := h2.le; have := h2.top; unfold maxLen at *; omega
  have HT := Lib.hid hT
  have HS := Lib.hid (And.intro h0 (And.intro h1 h2))
  clear hT h0 h1 h2
  obtain ⟨k, hk⟩ : ∃ k : Nat, slot % 2 = k := ⟨(slot % 2).toNat, by omega⟩
  have hk2 : k < 2 := by omega
  obtain ⟨j, hj⟩ : ∃ j : Nat, (1 : Int) - (k : Int) = j := ⟨1 - k, by omega⟩
  have hj2 : j < 2 := by omega
  have hjk : j ≠ k := by omega
  have hl0 := HS.out.1.len
  have hl1 := HS.out.2.1.len
  have hl2 := HS.out.2.2.len
  obtain ⟨E, hE⟩ : ∃ E : Nat → Ent, (fun i : Nat => if i = 1 then (⟨1, j, sha l1⟩ : Ent) else ⟨i, k, sha l2⟩) = E := ⟨_, rfl⟩
  have hE1 : E 1 = ⟨1, j, sha l1⟩ := by rw [← hE]; rfl
  have hE2 : E 2 = ⟨2, k, sha l2⟩ := by rw [← hE]; rfl
  obtain ⟨m1, a1, M1, _, _⟩ := (marked_fresh E).store k hk2 l0 (by omega)
  obtain ⟨m2, a2, M2, i2, _⟩ := M1.store j hj2 l1 (by omega)
  obtain ⟨m3, a3, M3, i3, o3⟩ := M2.store k hk2 l2 (by omega)
  obtain ⟨m4, t4, n4, a4, s4, M4, k4, p4⟩ := M3.mark (by decide) j (by omega) (by omega) (sha l1) (sha_len l1) hE1
  obtain ⟨m5, t5, n5, a5, s5, M5, k5, p5⟩ := M4.mark (by omega) k (by omega) (by omega) (sha l2) (sha_len l2) (by rw [k4]; exact hE2)
  rw [k4] at k5
  have b4 := M4.boot_img p4 j hj2 l1 (by rw [s4.img j hj2, o3 j hj2 hjk]; exact i2) (by rw [k4]; exact congrArg Ent.slot hE1) (by rw [k4]; exact congrArg Ent.sum hE1)
  have b5 := M5.boot_img p5 k hk2 l2 (by rw [s5.img k hk2, s4.img k hk2]; exact i3) (by rw [k5]; exact congrArg Ent.slot hE2) (by rw [k5]; exact congrArg Ent.sum hE2)
  rw [k4] at b4
  rw [k5] at b5
  rw [← hj] at a2 a4
  obtain ⟨C4, hC4⟩ : ∃ C, (E (16 * 0 + 0 + 1)).cells = C := ⟨_, rfl⟩
  obtain ⟨C5, hC5⟩ : ∃ C, (E (16 * 0 + 0 + 1 + 1)).cells = C := ⟨_, rfl⟩
  have hc4 : C4.length = 34 ∧ ∀ v ∈ C4, v.oneCell' = true := by
    rw [← hC4]
    exact ⟨ent_len _ (by show (E 1).sum.length = 32; rw [hE1]; exact sha_len _), sent_one _⟩
  have hc5 : C5.length = 34 ∧ ∀ v ∈ C5, v.oneCell' = true := by
    rw [← hC5]
    exact ⟨ent_len _ (by show (E 2).sum.length = 32; rw [hE2]; exact sha_len _), sent_one _⟩
  obtain ⟨S1, hS1⟩ : ∃ S, (bc (sha l1)).toArray = S := ⟨_, rfl⟩
  obtain ⟨S2, hS2⟩ : ∃ S, (bc (sha l2)).toArray = S := ⟨_, rfl⟩
  have HM := Lib.hid (And.intro a1 (And.intro a2 (And.intro a3 (And.intro a4 (And.intro a5 (And.intro b4 b5))))))
  have HC := Lib.hid (And.intro hc4 (And.intro hc5 (And.intro hC4 (And.intro hC5 (And.intro hS1 hS2)))))
  obtain ⟨Z, hzl, hz0, hz⟩ := sent_zero
  have HZ := Lib.hid (And.intro hz (And.intro (show Z.length = C4.length by rw [hzl, hc4.1]) (show Z.length = C5.length by rw [hzl, hc5.1])))
  have HI4 := Lib.hid (sent_size C4 hc4.1)
  have HI5 := Lib.hid (sent_size C5 hc5.1)
  have HK := Lib.hid (And.intro hk hj)
  have b0 : ((n0 : Int) == 0) = false := by simpa using e0
  have b1 : ((n1 : Int) == 0) = false := by simpa using e1
  have b2 : ((n2 : Int) == 0) = false := by simpa using e2
  have f3 : ¬ (2000 : Int) < (n0 : Int) + (n1 : Int) + (n2 : Int) := by omega
  have f4 : ¬ (1000 : Int) < (n0 : Int) := by omega
  have f5 : ¬ (1000 : Int) < (n1 : Int) := by omega
  have f6 : ¬ (1000 : Int) < (n2 : Int) := by omega
  clear hk hj hE hE1 hE2 a1 a2 a3 a4 a5 b4 b5 M1 M2 M3 M4 M5 i2 i3 o3 s4 s5 k4 k5 p4 p5 hC4 hC5 hc4 hc5 hS1 hS2 hz hzl hz0 hl0 hl1 hl2 hjk
  go_enter Tryd.func5, Tryd.ntmps5
  go_wp2_with fail
  (with_reducible refine (known6_any w HT.out).mono ?_)
  rintro _ w1 ⟨rfl, hb1⟩
  have HB1 := Lib.hid hb1
  clear hb1
  go_wp2_with fail
  (with_reducible refine (within6_any _ 2 _ (by decide) (by decide)).mono ?_)
  rintro _ w2 ⟨rfl, rfl⟩
  rw [HK.out.1]
  go_wp2_with fail
  (with_reducible refine (new_any _).mono ?_)
  rintro _ w2 ⟨rfl, hf2, hb2⟩
  obtain ⟨x, hx⟩ : ∃ x, w1.heap.size = x := ⟨_, rfl⟩
  rw [hx] at hf2 ⊢
  have HX := Lib.hid (show w.heap.size ≤ x by have := HB1.out.size; omega)
  have HB2 := Lib.hid (step_below HB1.out hb2)
  have HST := Lib.hid (store_any x Mem.fresh k A0 n0 c0 l0 w2 hf2 (shows_later HS.out.1 HB2.out) (by omega) (shows_apart HS.out.1 HX.out))
  rw [HM.out.1] at HST
  clear hf2 hb2 hx HB1
  go_wp2_with fail
  refine HST.out.mono ?_
  rintro _ w3 ⟨rfl, hf3, hg3⟩
  have HB3 := Lib.hid (step_grow HB2.out hg3 HX.out)
  have HST := Lib.hid (store_any x m1 (1 - (k : Int)) A1 n1 c1 l1 w3 hf3 (shows_later HS.out.2.1 HB3.out) (by omega) (shows_apart HS.out.2.1 HX.out))
  rw [HM.out.2.1] at HST
  clear hf3 hg3 HB2
  go_wp2_with fail
  refine HST.out.mono ?_
  rintro _ w4 ⟨rfl, hf4, hg4⟩
  have HB4 := Lib.hid (step_grow HB3.out hg4 HX.out)
  have HST := Lib.hid (store_any x m2 k A2 n2 c2 l2 w4 hf4 (shows_later HS.out.2.2 HB4.out) (by omega) (shows_apart HS.out.2.2 HX.out))
  rw [HM.out.2.2.1] at HST
  clear hf4 hg4 HB3
  go_wp2_with fail
  refine HST.out.mono ?_
  rintro _ w5 ⟨rfl, hf5, hg5⟩
  have HB5 := Lib.hid (step_grow HB4.out hg5 HX.out)
  have HSU := Lib.hid (refsum3_any A1 n1 c1 l1 w5 (shows_later HS.out.2.1 HB5.out) (by omega))
  rw [HC.out.2.2.2.2.1] at HSU
  have HF5 := Lib.hid hf5
  clear hf5 hg5 HB4 HST
  go_wp2_with fail
  refine HSU.out.mono ?_
  rintro _ w6 ⟨rfl, hb6⟩
  have HB6 := Lib.hid (step_below HB5.out hb6)
  have HMK := Lib.hid (mark_any x m3 (1 - (k : Int)) (sha l1) w6 (HF5.out.below hb6) (sha_len l1) (by omega) (by omega))
  rw [HM.out.2.2.2.1, HC.out.2.2.2.2.1] at HMK
  clear hb6 HSU HB5 HF5
  go_wp2_with fail
  refine HMK.out.mono ?_
  rintro _ w7 ⟨rfl, hf7, hg7⟩
  have HB7 := Lib.hid (step_grow HB6.out hg7 HX.out)
  have HBO := Lib.hid (boot_any x m4 w7 hf7 (HT.out.below HB7.out))
  have HF7 := Lib.hid (And.intro hf7 hf7.lt)
  clear hf7 hg7 HB6 HMK
  go_wp2_with fail
  refine HBO.out.mono ?_
  rintro _ w8 ⟨A8, n8, c8, rfl, hs8, hb8, ha8⟩
  rw [HM.out.2.2.2.2.2.1] at hs8 ⊢
  simp only at hs8 ⊢
  rw [HC.out.2.2.1]
  have H8 := Lib.hid (And.intro hs8 (And.intro ha8 (And.intro (step_below HB7.out hb8) (HF7.out.1.below hb8))))
  clear hs8 hb8 ha8 HBO
  go_wp2_with (refine wpList_alloc_row rfl 36 rfl Z HZ.out.1 ?_)
  intro w9 hrow9 hb9 hsz9
  go_wp2_with (refine wpList_store_as rfl _ _ _ rfl w8.heap.size C4 rfl rfl 36 Z hrow9 HI4.out HZ.out.2.1 HC.out.1.2 ?_)
  intro w10 hrow10 hoth10 hg10 hsz10
  have hb810 : Below w8.heap.size w8 w10 := step_grow hb9 hg10 (Nat.le_refl _)
  have H10 := Lib.hid (And.intro (shows_later H8.out.1 hb810) (And.intro (step_below H8.out.2.2.1 hb810) (H8.out.2.2.2.below hb810)))
  have HSU := Lib.hid (refsum3_any A2 n2 c2 l2 w10 (shows_later HS.out.2.2 H10.out.2.1) (by omega))
  rw [HC.out.2.2.2.2.2] at HSU
  clear hrow9 hb9 hsz9 hrow10 hoth10 hg10 hsz10 hb810
  go_wp2_with fail
  refine HSU.out.mono ?_
  rintro _ w11 ⟨rfl, hb11⟩
  have HMK := Lib.hid (mark_any x m4 k (sha l2) w11 (H10.out.2.2.below hb11) (sha_len l2) (by omega) (by omega))
  rw [HM.out.2.2.2.2.1, HC.out.2.2.2.2.2] at HMK
  have H11 := Lib.hid (And.intro (shows_later H10.out.1 hb11) (step_below H10.out.2.1 hb11))
  clear hb11 HSU H10
  go_wp2_with fail
  refine HMK.out.mono ?_
  rintro _ w12 ⟨rfl, hf12, hg12⟩
  have H12 := Lib.hid (And.intro (shows_beside H11.out.1 hg12 (fun p hp _ => by have := H8.out.2.1 p hp; have := HF7.out.2; omega)) (step_grow H11.out.2 hg12 HX.out))
  have HBO := Lib.hid (boot_any x m5 w12 hf12 (HT.out.below H12.out.2))
  clear hf12 hg12 HMK H11
  go_wp2_with fail
  refine HBO.out.mono ?_
  rintro _ w13 ⟨A13, n13, c13, rfl, hs13, hb13, _⟩
  rw [HM.out.2.2.2.2.2.2] at hs13 ⊢
  simp only at hs13 ⊢
  rw [HC.out.2.2.2.1]
  have H13 := Lib.hid (And.intro hs13 (And.intro (shows_later H12.out.1 hb13) (step_below H12.out.2 hb13)))
  clear hs13 hb13 HBO H12
  go_wp2_with (refine wpList_alloc_row rfl 36 rfl Z HZ.out.1 ?_)
  intro w14 hrow14 hb14 hsz14
  go_wp2_with (refine wpList_store_as rfl _ _ _ rfl w13.heap.size C5 rfl rfl 36 Z hrow14 HI5.out HZ.out.2.2 HC.out.2.1.2 ?_)
  intro w15 hrow15 hoth15 hg15 hsz15
  have hb1315 : Below w13.heap.size w13 w15 := step_grow hb14 hg15 (Nat.le_refl _)
  have HB15 := Lib.hid (step_below H13.out.2.2 hb1315)
  have v1 := (shows_later H13.out.2.1 hb1315).conv (P := Tryd.prog) Tryd.underlying26 Tryd.underlying5 Tryd.underlying9
  have v2 := (shows_later H13.out.1 hb1315).conv (P := Tryd.prog) Tryd.underlying26 Tryd.underlying5 Tryd.underlying9
  have v3 := (shows_later HS.out.2.1 HB15.out).conv (P := Tryd.prog) Tryd.underlying26 Tryd.underlying5 Tryd.underlying9
  have v4 := (shows_later HS.out.2.2 HB15.out).conv (P := Tryd.prog) Tryd.underlying26 Tryd.underlying5 Tryd.underlying9
  obtain ⟨B1, hB1⟩ : ∃ B : ByteArray, (⟨l1.toArray⟩ : ByteArray) = B := ⟨_, rfl⟩
  obtain ⟨B2, hB2⟩ : ∃ B : ByteArray, (⟨l2.toArray⟩ : ByteArray) = B := ⟨_, rfl⟩
  rw [hB1] at v1 v3
  rw [hB2] at v2 v4
  clear hB1 hB2 hrow14 hb14 hsz14 hrow15 hoth15 hg15 hsz15 hb1315 H13
  go_wp2_with fail
  go_ret
  exact ⟨rfl, HB15.out⟩
set_option maxHeartbeats 4000000 in
theorem slotsStore_early (A0 : Option Addr) (n0 c0 : Nat) (A1 : Option Addr) (n1 c1 : Nat) (A2 : Option Addr) (n2 c2 : Nat) (slot : Int) (w : World) (hT : Tables w)
    
    (early : (n0 = 0) ∨ (n0 ≠ 0 ∧ n1 = 0) ∨ (n0 ≠ 0 ∧ n1 ≠ 0 ∧ n2 = 0) ∨ (n0 ≠ 0 ∧ n1 ≠ 0 ∧ n2 ≠ 0 ∧ 2000 < n0 + n1 + n2 ∧ n0 ≤ 1000 ∧ n1 ≤ 1000 ∧ n2 ≤ 1000) ∨ (n0 ≠ 0 ∧ n1 ≠ 0 ∧ n2 ≠ 0 ∧ 1000 < n0) ∨ (n0 ≠ 0 ∧ n1 ≠ 0 ∧ n2 ≠ 0 ∧ n0 ≤ 1000 ∧ 1000 < n1) ∨ (n0 ≠ 0 ∧ n1 ≠ 0 ∧ n2 ≠ 0 ∧ n0 ≤ 1000 ∧ n1 ≤ 1000 ∧ 1000 < n2)) :
    Calls Tryd.prog 5 #[.slice A0 n0 c0, .slice A1 n1 c1, .slice A2 n2 c2, .int .i64 slot] w fun e w' => e = .returned (.bool true) ∧ Below w.heap.size w w' := by
  have HT := Lib.hid hT
  clear hT
  rcases early with e0 | ⟨e0, e1⟩ | ⟨e0, e1, e2⟩ | ⟨e0, e1, e2, e3, e4, e5, e6⟩ | ⟨e0, e1, e2, e4⟩ | ⟨e0, e1, e2, e4, e5⟩ | ⟨e0, e1, e2, e4, e5, e6⟩
  case inr.inr.inr.inr.inl =>
    have b0 : ((n0 : Int) == 0) = false := by simpa using e0
    have b1 : ((n1 : Int) == 0) = false := by simpa using e1
    have b2 : ((n2 : Int) == 0) = false := by simpa using e2
    obtain ⟨S1, hS1⟩ : ∃ S, wrap64 ((n0 : Int) + (n1 : Int)) = S := ⟨_, rfl⟩
    obtain ⟨S2, hS2⟩ : ∃ S, wrap64 (S1 + (n2 : Int)) = S := ⟨_, rfl⟩
    by_cases hsum : (2000 : Int) < S2
    all_goals (
      go_enter Tryd.func5, Tryd.ntmps5
      go_wp2_with fail
      (with_reducible refine (known6_any w HT.out).mono ?_)
      rintro _ w1 ⟨rfl, hb1⟩
      have HB1 := Lib.hid hb1
      clear hb1
      go_wp2_with fail
      all_goals (go_ret; exact ⟨rfl, HB1.out⟩))
  case inr.inr.inr.inr.inr.inl =>
    have b0 : ((n0 : Int) == 0) = false := by simpa using e0
    have b1 : ((n1 : Int) == 0) = false := by simpa using e1
    have b2 : ((n2 : Int) == 0) = false := by simpa using e2
    obtain ⟨S1, hS1⟩ : ∃ S, wrap64 ((n0 : Int) + (n1 : Int)) = S := ⟨_, rfl⟩
    obtain ⟨S2, hS2⟩ : ∃ S, wrap64 (S1 + (n2 : Int)) = S := ⟨_, rfl⟩
    by_cases hsum : (2000 : Int) < S2
    all_goals (
      go_enter Tryd.func5, Tryd.ntmps5
      go_wp2_with fail
      (with_reducible refine (known6_any w HT.out).mono ?_)
      rintro _ w1 ⟨rfl, hb1⟩
      have HB1 := Lib.hid hb1
      clear hb1
      go_wp2_with fail
      all_goals (go_ret; exact ⟨rfl, HB1.out⟩))
  case inr.inr.inr.inr.inr.inr =>
    have b0 : ((n0 : Int) == 0) = false := by simpa using e0
    have b1 : ((n1 : Int) == 0) = false := by simpa using e1
    have b2 : ((n2 : Int) == 0) = false := by simpa using e2
    obtain ⟨S2, hS2⟩ : ∃ S, wrap64 ((n0 : Int) + (n1 : Int) + (n2 : Int)) = S := ⟨_, rfl⟩
    by_cases hsum : (2000 : Int) < S2
    all_goals (
      go_enter Tryd.func5, Tryd.ntmps5
      go_wp2_with fail
      (with_reducible refine (known6_any w HT.out).mono ?_)
      rintro _ w1 ⟨rfl, hb1⟩
      have HB1 := Lib.hid hb1
      clear hb1
      go_wp2_with fail
      all_goals (go_ret; exact ⟨rfl, HB1.out⟩))
  all_goals (
    (try have b0 : ((n0 : Int) == 0) = false := by simpa using e0)
    (try have b1 : ((n1 : Int) == 0) = false := by simpa using e1)
    (try have b2 : ((n2 : Int) == 0) = false := by simpa using e2)
    (try subst e0)
    (try subst e1)
    (try subst e2)
    go_enter Tryd.func5, Tryd.ntmps5
    go_wp2_with fail
    (with_reducible refine (known6_any w HT.out).mono ?_)
    rintro _ w1 ⟨rfl, hb1⟩
    have HB1 := Lib.hid hb1
    clear hb1
    go_wp2_with fail
    all_goals (go_ret; exact ⟨rfl, HB1.out⟩))
set_option maxHeartbeats 4000000 in
theorem slotsStore_walk (A0 : Option Addr) (n0 c0 : Nat) (l0 : List UInt8) (A1 : Option Addr) (n1 c1 : Nat) (l1 : List UInt8) (A2 : Option Addr) (n2 c2 : Nat) (l2 : List UInt8) (slot : Int) (w : World) (hT : Tables w)
    (h0 : Shows w w.heap.size A0 n0 c0 l0) (h1 : Shows w w.heap.size A1 n1 c1 l1) (h2 : Shows w w.heap.size A2 n2 c2 l2) (_hs : (Lit.int .i64 slot).wf = true) :
    Calls Tryd.prog 5 #[.slice A0 n0 c0, .slice A1 n1 c1, .slice A2 n2 c2, .int .i64 slot] w fun e w' => e = .returned (.bool true) ∧ Below w.heap.size w w' := by
  by_cases hg : n0 ≠ 0 ∧ n1 ≠ 0 ∧ n2 ≠ 0 ∧ n0 + n1 + n2 ≤ 2000 ∧ n0 ≤ 1000 ∧ n1 ≤ 1000 ∧ n2 ≤ 1000
  · obtain ⟨e0, e1, e2, e3, e4, e5, e6⟩ := hg
    exact slotsStore_good A0 n0 c0 l0 A1 n1 c1 l1 A2 n2 c2 l2 slot w hT h0 h1 h2 e0 e1 e2 e3 e4 e5 e6
  · exact slotsStore_early A0 n0 c0 A1 n1 c1 A2 n2 c2 slot w hT (by omega)
end Go.Proofs.YtnbahpcajnjieaaDoor
