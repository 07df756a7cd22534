/- Package record: the contracts of program and Append. -/
import Derived.Test.YtolpiklhnafnbaaRecSplit
namespace Go.Proofs.Ytolpiklhnafnbaa
set_option maxRecDepth 100000
open Go.RowKit Wd Fm

theorem padded_padded (b : List UInt8) (h : b.length ≤ 16) : padded (padded b) = padded b := by
  have hl := padded_len b h
  have e : padded (padded b) = padded b ++ List.replicate (16 - (padded b).length) 255 := rfl
  rw [e, hl, Nat.sub_self, List.replicate_zero, List.append_nil]
theorem programM_pad (m : Mem) (s p : Int) (b : List UInt8) (h : b.length ≤ 16) : programM m s p (padded b) = programM m s p b := by
  unfold programM
  rw [padded_padded b h, padded_len b h]
  by_cases h1 : m.dead = true
  · rw [if_pos h1, if_pos h1]
  · rw [if_neg h1, if_neg h1]
    by_cases h2 : ¬ isPage s p
    · rw [if_pos h2, if_pos h2]
    · rw [if_neg h2, if_neg h2, if_neg (show ¬ 16 < 16 by omega), if_neg (show ¬ 16 < b.length by omega)]
theorem progX_step (x : List UInt8) (i : Nat) (h : 16 * i < x.length) (m : Mem) (s p : Int) : progX (x.length - i) m s p (x.drop (16 * i)) =
    if (programM m s p (cutAt x i)).1 = 0 then progX (x.length - (i + 1)) (programM m s p (cutAt x i)).2 s (p + 1) (x.drop (16 * (i + 1))) else programM m s p (cutAt x i) := by
  rw [show x.length - i = (x.length - (i + 1)) + 1 by omega]
  have hne : ¬ x.drop (16 * i) = [] := by
    intro e
    have := congrArg List.length e
    rw [List.length_drop] at this
    simp at this
    omega
  conv => lhs; unfold progX
  rw [if_neg hne, List.drop_drop, show 16 * i + 16 = 16 * (i + 1) by omega]
  rfl
theorem progX_end (k : Nat) (x : List UInt8) (i : Nat) (h : x.length ≤ 16 * i) (m : Mem) (s p : Int) : progX k m s p (x.drop (16 * i)) = (0, m) := by
  rw [List.drop_eq_nil_of_le h]
  cases k with
  | zero => rfl
  | succ k => unfold progX; rw [if_pos rfl]

theorem OwnParts.beside {w w' : World} {base g : Nat} {A : Option Addr} {n cap : Nat} {ps : List Part} {m : Mem} (h : OwnParts w base A n cap ps) (hf : Fl w g m) (hg : w.grownBy w' (some g)) : OwnParts w' base A n cap ps := by
  refine h.kept hg (fun k cs T e hT hc => ?_)
  injection e with e
  subst e
  obtain ⟨A1, n1, cap1, hr, _⟩ := hf.spot
  unfold Row at hr
  rw [hr] at hc
  injection hc with hc
  injection hc with _ h2 _
  rcases hT with rfl | rfl
  · exact absurd h2 (by decide)
  · exact absurd h2 (by decide)

set_option maxHeartbeats 1000000 in
theorem rprogram_any (g : Nat) (m : Mem) (s : Int) (p : Nat) (A : Option Addr) (k cap base : Nat) (ps : List Part) (x : List UInt8) (w : World) (h : Fl w g m) (ho : OwnParts w base A k cap ps) (hx : Pages x ps) (h1 : x.length ≤ 16 * k) (h2 : 16 * k < x.length + 16) (hp : p ≤ 64) (hl : x.length ≤ 100000) :
    Calls Try.prog 45 #[.pointer (some ⟨g, 0, none⟩), .int .i64 s, .int .i64 (p : Int), .slice A k cap] w fun e w' => e = .returned (.int .i64 (progX x.length m s p x).1) ∧ Fl w' g (progX x.length m s p x).2 ∧ w.grownBy w' (some g) := by
  have HH := Lib.hid (And.intro h (And.intro ho (And.intro hx (And.intro h1 h2))))
  obtain ⟨R, hR⟩ : ∃ R, progX x.length m s p x = R := ⟨_, rfl⟩
  rw [hR]
  have HR := Lib.hid hR
  have hk : k ≤ 10000 := by omega
  clear h ho hx hR h1 h2
  go_enter Try.func45, Try.ntmps45
  go_wp2_with fail
  go_loopw [14] (fun i wr => ∃ (j : Nat), j ≤ k ∧ i = .int .i64 j ∧ Hid (∃ mj : Mem, Fl wr g mj ∧ OwnParts wr base A k cap ps ∧ w.grownBy wr (some g) ∧ R = progX (x.length - j) mj s ((p : Int) + (j : Int)) (x.drop (16 * j)))) (fun i _ => k - (intOf i).toNat)
  case atStart => exact ⟨0, by omega, rfl, Lib.hid ⟨m, HH.out.1, HH.out.2.1, grow_refl _ _, by rw [← HR.out]; simp⟩⟩
  case round =>
    obtain ⟨j, hj, rfl, HJ⟩ := hrel
    obtain ⟨mj, hf, ho, hg, hRj⟩ := HJ.out
    clear HJ
    by_cases hlt : j < k
    · have hji : (j : Int) < (k : Int) := by omega
      have hjl : j < ps.length := by rw [ho.len]; exact hlt
      obtain ⟨G, o, rfl, _, hc⟩ := ho.laid.spot (by omega)
      have hcj := hc j hjl
      have hsh := (ho.each ps[j] (List.getElem_mem hjl)).shows
      obtain ⟨hpl, hpn⟩ := HH.out.2.2.1.each j hjl
      obtain ⟨P, hP⟩ : ∃ P, ps[j] = P := ⟨_, rfl⟩
      rw [hP] at hcj hsh hpl hpn
      obtain ⟨pA, pn, pc, pl⟩ := P
      simp only at hcj hsh hpl hpn
      subst hpl hpn
      have hlt16 : 16 * j < x.length := by have := HH.out.2.2.2.2; omega
      rw [progX_step x j hlt16] at hRj
      have hcall := program_any g mj s ((p : Int) + (j : Int)) pA 16 pc (padded (cutAt x j)) wr hf hsh (by decide)
      rw [programM_pad _ _ _ _ (cutAt_le x j)] at hcall
      obtain ⟨Q, hQ⟩ : ∃ Q, programM mj s ((p : Int) + (j : Int)) (cutAt x j) = Q := ⟨_, rfl⟩
      rw [hQ] at hRj hcall
      have HC := Lib.hid hcall
      have HX := Lib.hid (And.intro hRj (And.intro hf (And.intro ho hg)))
      clear hc hsh hP hjl hlt16 hRj hcall hQ hf ho hg
      go_wp2_with fail
      (with_reducible refine HC.out.mono ?_)
      rintro _ w2 ⟨rfl, hf2, hg2⟩
      have ho2 := HX.out.2.2.1.beside HX.out.2.1 hg2
      have hg3 := grow_trans HX.out.2.2.2 hg2 (.inl rfl)
      obtain ⟨q, mq⟩ := Q
      have hRj := HX.out.1
      simp only at hRj hf2 ⊢
      by_cases hz : q = 0
      · subst hz
        rw [if_pos rfl] at hRj
        have HN := Lib.hid (And.intro hf2 (And.intro ho2 (And.intro hg3 hRj)))
        clear hf2 hg2 ho2 hg3 hRj HC HX
        go_wp2
        go_roundw
        case rel => exact ⟨j + 1, by omega, by go_num, Lib.hid ⟨mq, HN.out.1, HN.out.2.1, HN.out.2.2.1, by rw [HN.out.2.2.2]; congr 1⟩⟩
        case measure => simp [intOf]; omega
      · rw [if_neg hz] at hRj
        have HN := Lib.hid (And.intro hf2 (And.intro hg3 hRj))
        clear hf2 hg2 ho2 hg3 hRj HC HX
        go_wp2
        go_ret
        rw [HN.out.2.2]
        exact ⟨rfl, HN.out.1, HN.out.2.1⟩
    · have hjk : j = k := by omega
      have hji : ¬ (j : Int) < (k : Int) := by omega
      rw [progX_end _ x j (by rw [hjk]; exact HH.out.2.2.2.1)] at hRj
      have HN := Lib.hid (And.intro hf (And.intro hg hRj))
      clear hf ho hg hRj
      go_wp2
      go_ret
      rw [HN.out.2.2]
      exact ⟨rfl, HN.out.1, HN.out.2.1⟩

theorem appendM_long {m : Mem} {s : Int} {b : List UInt8} (h : 1018 < b.length) : appendM m s b = (5, m) := by unfold appendM; rw [if_pos h]
theorem appendM_addr {m : Mem} {s : Int} {b : List UInt8} (h : ¬ 1018 < b.length) (hs : ¬ isSector s) : appendM m s b = (12, m) := by unfold appendM; rw [if_neg h, if_pos hs]
theorem appendM_many {m : Mem} {s : Int} {b : List UInt8} (h : ¬ 1018 < b.length) (hs : isSector s) (hm : 64 < (loadM (readM m s)).2 + pagesN b.length) : appendM m s b = (4, m) := by
  unfold appendM
  rw [if_neg h, if_neg (not_not_intro hs), if_pos hm]
theorem appendM_go {m : Mem} {s : Int} {b : List UInt8} (h : ¬ 1018 < b.length) (hs : isSector s) (hm : ¬ 64 < (loadM (readM m s)).2 + pagesN b.length) : appendM m s b = progX (sealed b).length m s ((loadM (readM m s)).2 : Int) (sealed b) := by
  unfold appendM
  rw [if_neg h, if_neg (not_not_intro hs), if_neg hm, sealed_len]

set_option maxHeartbeats 1000000 in
theorem append_any (g : Nat) (m : Mem) (s : Int) (A : Option Addr) (n cap : Nat) (b : List UInt8) (w : World) (h : Fl w g m) (hb : Shows w w.heap.size A n cap b) (hn : n ≤ 1000000) :
    Calls Try.prog 20 #[.pointer (some ⟨g, 0, none⟩), .int .i64 s, .slice A n cap] w fun e w' => e = .returned (.int .i64 (appendM m s b).1) ∧ Fl w' g (appendM m s b).2 ∧ w.grownBy w' (some g) := by
  have hbl := hb.len
  have HH := Lib.hid (And.intro h hb)
  by_cases h1 : 1018 < n
  · rw [appendM_long (by omega)]
    have h1i : (n : Int) > 1018 := by omega
    clear h hb
    go_enter Try.func20, Try.ntmps20
    go_wp2
    go_ret
    exact ⟨rfl, HH.out.1, grow_refl _ _⟩
  · have h1i : ¬ (n : Int) > 1018 := by omega
    by_cases hs : isSector s
    · have hs1 : ¬ s < 0 := by have := hs.1; omega
      have hs2 : ¬ s ≥ 6 := by have := hs.2; omega
      have HL := Lib.hid (load_any g m s w h)
      have HLEN := Lib.hid (readM_len h.size s)
      obtain ⟨fr, hfr⟩ : ∃ fr, (loadM (readM m s)).2 = fr := ⟨_, rfl⟩
      have hfr64 : fr ≤ 64 := by
        rw [← hfr]
        rcases HLEN.out with h2 | h2
        · exact (load_bd h2 64 0 (by omega) (by omega)).2
        · rw [h2, show loadM [] = ([], 0) from load_blank [] (by omega) rfl]
          simp
      rw [hfr] at HL
      have hpz := pagesZ_nat n (by omega)
      obtain ⟨q, hq⟩ : ∃ q, pagesN n = q := ⟨_, rfl⟩
      have hq70 : q ≤ 70 := by have := pagesN_hi n; omega
      rw [hq] at hpz
      have HPZ := Lib.hid hpz
      by_cases h3 : 64 < fr + q
      · rw [appendM_many (by omega) hs (by rw [hfr, hbl, hq]; exact h3)]
        have h3i : (fr : Int) + (q : Int) > 64 := by omega
        clear h hb hs hfr hq hpz
        go_enter Try.func20, Try.ntmps20
        go_wp2_with fail
        (with_reducible refine HL.out.mono ?_)
        rintro _ w1 ⟨A1, n1, cap1, ps, rfl, _, _, hb1⟩
        have HB1 := Lib.hid hb1
        clear hb1
        go_wp2_with fail
        (with_reducible refine (pages_any _ _).mono ?_)
        rintro _ w2 ⟨rfl, rfl⟩
        rw [HPZ.out]
        go_wp2
        go_ret
        exact ⟨rfl, HH.out.1.below HB1.out, below_grow HB1.out _⟩
      · have hgo := appendM_go (m := m) (s := s) (b := b) (by omega) hs (by rw [hfr, hbl, hq]; exact h3)
        rw [hfr] at hgo
        obtain ⟨R, hR⟩ : ∃ R, appendM m s b = R := ⟨_, rfl⟩
        rw [hR] at hgo ⊢
        have HG := Lib.hid hgo
        have h3i : ¬ (fr : Int) + (q : Int) > 64 := by omega
        have hsl := sealed_len b
        rw [hbl] at hsl
        have HSL := Lib.hid hsl
        clear h hb hs hfr hq hpz hR hgo hsl
        go_enter Try.func20, Try.ntmps20
        go_wp2_with fail
        (with_reducible refine HL.out.mono ?_)
        rintro _ w1 ⟨A1, n1, cap1, ps, rfl, _, _, hb1⟩
        have HB1 := Lib.hid hb1
        clear hb1 HL
        go_wp2_with fail
        (with_reducible refine (pages_any _ _).mono ?_)
        rintro _ w2 ⟨rfl, rfl⟩
        rw [HPZ.out]
        have HSE := Lib.hid (seal_any A n cap b w1 ((HH.out.2.below HB1.out).more HB1.out.size) (by omega))
        go_wp2_with fail
        (with_reducible refine HSE.out.mono ?_)
        rintro _ w2 ⟨A2, cap2, rfl, hs2', hb2⟩
        have HB2 := Lib.hid (And.intro hs2' (step_below HB1.out hb2))
        clear hs2' hb2 HSE
        have HSP := Lib.hid (split_any A2 (6 + n) cap2 (sealed b) w2 HB2.out.1 (by omega))
        go_wp2_with fail
        (with_reducible refine HSP.out.mono ?_)
        rintro _ w3 ⟨A3, k, cap3, qs, rfl, ho3, hpg, hk1, hk2, hb3⟩
        have hb4 := step_below HB2.out.2 hb3
        have HPR := Lib.hid (rprogram_any g m s fr A3 k cap3 _ qs (sealed b) w3 (HH.out.1.below hb4) ho3 hpg (by rw [HSL.out]; exact hk1) (by rw [HSL.out]; exact hk2) hfr64 (by rw [HSL.out]; omega))
        rw [← HG.out] at HPR
        have HB4 := Lib.hid hb4
        clear ho3 hpg hk1 hk2 hb3 hb4 HSP
        go_wp2_with fail
        (with_reducible refine HPR.out.mono ?_)
        rintro _ w4 ⟨rfl, hf4, hg4⟩
        have HE := Lib.hid (And.intro hf4 (grow_trans (below_grow HB4.out (some g)) hg4 (.inl rfl)))
        clear hf4 hg4
        go_wp2
        go_ret
        exact ⟨rfl, HE.out.1, HE.out.2⟩
    · rw [appendM_addr (by omega) hs]
      have hor : s < 0 ∨ (0 ≤ s ∧ s ≥ 6) := by unfold isSector at hs; omega
      clear h hb hs
      rcases hor with h1 | ⟨h1, h2⟩
      all_goals
        go_enter Try.func20, Try.ntmps20
        go_wp2
        go_ret
        exact ⟨rfl, HH.out.1, grow_refl _ _⟩
end Go.Proofs.Ytolpiklhnafnbaa
