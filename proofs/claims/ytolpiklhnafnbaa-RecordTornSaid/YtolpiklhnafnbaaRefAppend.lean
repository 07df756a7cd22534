/- The reference's records of chapter 5: the contract of Append. -/
import Derived.Test.YtolpiklhnafnbaaRecAppend
import Derived.Test.YtolpiklhnafnbaaRefLoad
namespace Go.Proofs.Ytolpiklhnafnbaa
set_option maxRecDepth 100000
open Go.RowKit Wd Fm

theorem OwnRow.beside {w w' : World} {base g n : Nat} {A : Option Addr} {cap : Nat} {xs : List Value} {m : Mem} (h : w.ownsRow base 5 1 (.slice A n cap) n xs) (hf : Rf w g m) (hg : w.grownBy w' (some g)) : w'.ownsRow base 5 1 (.slice A n cap) n xs := by
  obtain ⟨xm, A1, n1, cap1, hr, _⟩ := hf.spot
  exact grow_own h hg (own_other h hr tyx_ne)

set_option maxHeartbeats 1000000 in
theorem xappend_any (g : Nat) (m : Mem) (s : Int) (A : Option Addr) (n cap : Nat) (b : List UInt8) (w : World) (h : Rf w g m) (hb : Shows w w.heap.size A n cap b) (hn : n ≤ 1000000) :
    Calls Try.prog 21 #[.pointer (some ⟨g, 0, none⟩), .int .i64 s, .slice A n cap] w fun e w' => e = .returned (.int .i64 (appendM m s b).1) ∧ Rf w' g (appendM m s b).2 ∧ w.grownBy w' (some g) := by
  have hbl := hb.len
  have HH := Lib.hid (And.intro h hb)
  by_cases h1 : 1018 < n
  · rw [appendM_long (by omega)]
    have h1i : (n : Int) > 1018 := by omega
    clear h hb
    go_enter Try.func21, Try.ntmps21
    go_wp2
    go_ret
    exact ⟨rfl, HH.out.1, grow_refl _ _⟩
  · have h1i : ¬ (n : Int) > 1018 := by omega
    by_cases hs : isSector s
    · have hs1 : ¬ s < 0 := by have := hs.1; omega
      have hs2 : ¬ 6 ≤ s := by have := hs.2; omega
      have HL := Lib.hid (xload_any g m s w h)
      have HLEN := Lib.hid (readM_len h.size s)
      obtain ⟨fr, hfr⟩ : ∃ fr, (loadM (readM m s)).2 = fr := ⟨_, rfl⟩
      have hfr64 : fr ≤ 64 := by
        rw [← hfr]
        rcases HLEN.out with h2 | h2
        · exact (load_bd h2 64 0 (by omega) (by omega)).2
        · rw [h2, show loadM [] = ([], 0) from load_blank [] (by omega) rfl]
          simp
      rw [hfr] at HL
      have hpz := pagesZ_nat n (by omega)
      obtain ⟨q, hq⟩ : ∃ q, pagesN n = q := ⟨_, rfl⟩
      have hq70 : q ≤ 70 := by have := pagesN_hi n; omega
      rw [hq] at hpz
      have HPZ := Lib.hid hpz
      by_cases h3 : 64 < fr + q
      · rw [appendM_many (by omega) hs (by rw [hfr, hbl, hq]; exact h3)]
        have h3i : (fr : Int) + (q : Int) > 64 := by omega
        clear h hb hs hfr hq hpz
        go_enter Try.func21, Try.ntmps21
        go_wp2_with fail
        (with_reducible refine HL.out.mono ?_)
        rintro _ w1 ⟨A1, n1, cap1, ps, rfl, _, _, hb1⟩
        have HB1 := Lib.hid hb1
        clear hb1
        go_wp2_with fail
        (with_reducible refine (xpages_any _ _).mono ?_)
        rintro _ w2 ⟨rfl, rfl⟩
        rw [HPZ.out]
        go_wp2
        go_ret
        exact ⟨rfl, HH.out.1.below HB1.out, below_grow HB1.out _⟩
      · have hgo := appendM_go (m := m) (s := s) (b := b) (by omega) hs (by rw [hfr, hbl, hq]; exact h3)
        rw [hfr] at hgo
        obtain ⟨R, hR⟩ : ∃ R, appendM m s b = R := ⟨_, rfl⟩
        rw [hR] at hgo ⊢
        have HG := Lib.hid hgo
        have h3i : ¬ (fr : Int) + (q : Int) > 64 := by omega
        have hsl := sealed_len b
        rw [hbl] at hsl
        have HSL := Lib.hid hsl
        clear h hb hs hfr hq hpz hR hgo hsl
        go_enter Try.func21, Try.ntmps21
        go_wp2_with fail
        (with_reducible refine HL.out.mono ?_)
        rintro _ w1 ⟨A1, n1, cap1, ps, rfl, _, _, hb1⟩
        have HB1 := Lib.hid hb1
        clear hb1 HL
        go_wp2_with fail
        (with_reducible refine (xpages_any _ _).mono ?_)
        rintro _ w2 ⟨rfl, rfl⟩
        rw [HPZ.out]
        have HSE := Lib.hid (refseal_yes A n cap b w1 ((HH.out.2.below HB1.out).more HB1.out.size) (by omega))
        go_wp2_with fail
        (with_reducible refine HSE.out.mono ?_)
        rintro _ w2 ⟨A2, cap2, rfl, hs2', hb2⟩
        have HB2 := Lib.hid (And.intro hs2' (And.intro (HH.out.1.below (step_below HB1.out hb2)) (step_below HB1.out hb2)))
        obtain ⟨x, hx⟩ : ∃ x, sealed b = x := ⟨_, rfl⟩
        rw [hx] at HG HSL HB2
        obtain ⟨N, hN⟩ : ∃ N, 6 + n = N := ⟨_, rfl⟩
        rw [hN] at HSL HB2 ⊢
        have hN2 : N ≤ 1024 := by omega
        clear hs2' hb2 HSE hx hN
        go_wp2_with fail
        go_loopw [10] (fun i wr => ∃ (j : Nat), 16 * j < N + 16 ∧ i = .int .i64 j ∧ Hid (∃ mj : Mem, Rf wr g mj ∧ wr.ownsRow w1.heap.size 5 1 (.slice A2 N cap2) N (bc x) ∧ w.grownBy wr (some g) ∧ R = progX (x.length - j) mj s ((fr : Int) + (j : Int)) (x.drop (16 * j)))) (fun i _ => 100 - (intOf i).toNat)
        case atStart => exact ⟨0, by omega, rfl, Lib.hid ⟨m, HB2.out.2.1, HB2.out.1, below_grow HB2.out.2.2 _, by rw [HG.out]; simp⟩⟩
        case round =>
          obtain ⟨j, hj, rfl, HJ⟩ := hrel
          obtain ⟨mj, hf, ho, hg, hRj⟩ := HJ.out
          clear HJ
          by_cases hlt : 16 * j < N
          · have hji : (j : Int) * 16 < (N : Int) := by omega
            rw [progX_step x j (by rw [HSL.out]; exact hlt)] at hRj
            obtain ⟨t, ht⟩ : ∃ t, min ((j + 1) * 16) N = t := ⟨_, rfl⟩
            have ht1 : j * 16 ≤ t ∧ t ≤ N ∧ t - j * 16 ≤ 16 := by omega
            have hso := Shows.of_own ho
            have hcap := hso.le
            obtain ⟨G, o, rfl, _, _⟩ := hso.spot (by omega)
            have hsd := (hso.drop (k := j * 16) (by omega)).take (k := t - j * 16) (by omega)
            rw [if_neg (by omega), Option.map_some, Addr.add_lit] at hsd
            have hcut : (x.drop (j * 16)).take (t - j * 16) = cutAt x j := by
              unfold cutAt
              rw [Nat.mul_comm j 16]
              rcases Nat.lt_or_ge N ((j + 1) * 16) with h5 | h5
              · rw [List.take_of_length_le (by rw [List.length_drop, HSL.out]; omega), List.take_of_length_le (by rw [List.length_drop, HSL.out]; omega)]
              · congr 1
                omega
            rw [hcut] at hsd
            have hcall := xprogram_any g mj s ((fr : Int) + (j : Int)) _ _ _ (cutAt x j) wr hf hsd (by omega)
            obtain ⟨Q, hQ⟩ : ∃ Q, programM mj s ((fr : Int) + (j : Int)) (cutAt x j) = Q := ⟨_, rfl⟩
            rw [hQ] at hRj hcall
            have HC := Lib.hid hcall
            have HX := Lib.hid (And.intro hRj (And.intro hf (And.intro ho hg)))
            have hmin : min (((j : Int) + 1) * 16) (N : Int) = (t : Int) := by omega
            clear hso hsd hcut hRj hcall hQ hf ho hg
            go_wp2_with fail
            (with_reducible refine HC.out.mono ?_)
            rintro _ w3 ⟨rfl, hf2, hg2⟩
            have ho2 := OwnRow.beside HX.out.2.2.1 HX.out.2.1 hg2
            have hg3 := grow_trans HX.out.2.2.2 hg2 (.inl rfl)
            obtain ⟨z, mq⟩ := Q
            have hRj := HX.out.1
            simp only at hRj hf2 ⊢
            by_cases hz : z = 0
            · subst hz
              rw [if_pos rfl] at hRj
              have HN := Lib.hid (And.intro hf2 (And.intro ho2 (And.intro hg3 hRj)))
              clear hf2 hg2 ho2 hg3 hRj HC HX
              go_wp2
              go_roundw
              case rel => exact ⟨j + 1, by omega, by go_num, Lib.hid ⟨mq, HN.out.1, HN.out.2.1, HN.out.2.2.1, by rw [HN.out.2.2.2]; congr 1⟩⟩
              case measure => simp [intOf]; omega
            · rw [if_neg hz] at hRj
              have HN := Lib.hid (And.intro hf2 (And.intro hg3 hRj))
              clear hf2 hg2 ho2 hg3 hRj HC HX
              go_wp2
              go_ret
              rw [HN.out.2.2]
              exact ⟨rfl, HN.out.1, HN.out.2.1⟩
          · have hji : ¬ (j : Int) * 16 < (N : Int) := by omega
            rw [progX_end _ x j (by rw [HSL.out]; omega)] at hRj
            have HN := Lib.hid (And.intro hf (And.intro hg hRj))
            clear hf ho hg hRj
            go_wp2
            go_ret
            rw [HN.out.2.2]
            exact ⟨rfl, HN.out.1, HN.out.2.1⟩
    · rw [appendM_addr (by omega) hs]
      have hor : s < 0 ∨ (0 ≤ s ∧ 6 ≤ s) := by unfold isSector at hs; omega
      clear h hb hs
      rcases hor with h1 | ⟨h1, h2⟩
      all_goals
        go_enter Try.func21, Try.ntmps21
        go_wp2
        go_ret
        exact ⟨rfl, HH.out.1, grow_refl _ _⟩
end Go.Proofs.Ytolpiklhnafnbaa
