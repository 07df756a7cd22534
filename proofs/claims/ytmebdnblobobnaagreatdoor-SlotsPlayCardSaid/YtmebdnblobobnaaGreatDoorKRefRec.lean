/- Merged: The reference's records of chapter 5: the contract of Load. The reference's records of chapter 5: the contract of Append. -/
import Derived.Test.YtmebdnblobobnaaGreatDoorKRec
import Derived.Test.YtmebdnblobobnaaGreatDoorKRf
namespace Go.Proofs.YtmebdnblobobnaaGreatDoor
set_option maxRecDepth 100000
open Go.RowKit _root_.Go.Proofs.YtmebdnblobobnaaGreatDoor.Wd _root_.Go.Proofs.YtmebdnblobobnaaGreatDoor.Fm

set_option maxHeartbeats 1000000 in
theorem xload_any (g : Nat) (m : Mem) (s : Int) (w : World) (h : Rf w g m) :
    Calls Tryz.prog 58 #[.pointer (some ⟨g, 0, none⟩), .int .i64 s] w fun e w' => ∃ A n cap ps, e = .returned (.tuple #[.slice A n cap, .int .i64 ((loadM (readM m s)).2 : Nat)]) ∧ OwnParts w' w.heap.size A n cap ps ∧ ps.map (·.l) = (loadM (readM m s)).1 ∧ Below w.heap.size w w' := by
  by_cases hs : isSector s
  · have hlen := readM_len h.size s
    have hL4 : (readM m s).length = 1024 := by
      rcases hlen with h1 | h1
      · exact h1
      · unfold readM at h1 ⊢
        rw [if_pos hs]
        refine page_len m _ _ ?_
        have := h.size
        unfold isSector at hs
        unfold placeOf
        simp only [Int.toNat_zero]
        omega
    obtain ⟨L, hL⟩ : ∃ L, readM m s = L := ⟨_, rfl⟩
    have HR := Lib.hid (xread_any g m s w h)
    rw [hL] at hL4 HR ⊢
    obtain ⟨R, hR⟩ : ∃ R, loadM L = R := ⟨_, rfl⟩
    rw [hR]
    have HL := Lib.hid (And.intro hL4 hR)
    obtain ⟨i0, hi0, hz0, hz1, hz2⟩ := info_parts infoSlice
    have HI0 := Lib.hid hi0
    have HZ0 := Lib.hid hz0
    have HZ1 := Lib.hid hz1
    have HZ2 := Lib.hid hz2
    have hs1 : ¬ s < 0 := by have := hs.1; omega
    have hs2 : ¬ 6 ≤ s := by have := hs.2; omega
    clear h hL hlen hR hi0 hz0 hz1 hz2 hL4 hs
    go_enter Tryz.func58, Tryz.ntmps58
    go_wp2_with fail
    (with_reducible refine HR.out.mono ?_)
    rintro _ w1 ⟨A, n, cap, rfl, ho, hb⟩
    have hln : L.length = n := by have := ho.1; rw [bc_len] at this; omega
    have HS := Lib.hid (And.intro (Shows.of_own ho) (And.intro hb hln))
    have hn4 : n = 1024 := by have := HL.out.1; omega
    subst hn4
    clear ho hb hln
    go_wp2_with fail
    go_loopw [7, 8] (fun l i wr => ∃ (p : Nat) (A2 : Option Addr) (k cap2 : Nat) (ps : List Part), p ≤ 64 ∧ k ≤ p ∧ i = .int .i64 p ∧ l = .slice A2 k cap2 ∧ Hid (OwnParts wr w1.heap.size A2 k cap2 ps ∧ Below w1.heap.size w1 wr ∧ R = (ps.map (·.l) ++ (loadFrom L p).1, (loadFrom L p).2))) (fun _ i _ => 64 - (intOf i).toNat)
    case atStart => exact ⟨0, none, 0, 0, [], by omega, by omega, rfl, rfl, Lib.hid ⟨OwnParts.nil _ _, Below.refl _ _, by rw [← HL.out.2]; rfl⟩⟩
    case round =>
      obtain ⟨p, A2, k, cap2, ps, hp, hkp, rfl, rfl, HJ⟩ := hrel
      by_cases hp4 : p < 64
      · have hsw := HS.out.1.below HJ.out.2.1
        have hcap := hsw.le
        obtain ⟨G, o, rfl, _, _⟩ := hsw.spot (by omega)
        have hd := (hsw.drop (k := p * 16) (by omega)).more HJ.out.2.1.size
        rw [if_neg (by omega), Option.map_some, Addr.add_lit] at hd
        have ht := hd.take (k := 16) (by omega)
        have HD := Lib.hid (And.intro hd ht)
        have hpi : (p : Int) < 64 := by omega
        have hc1 : ¬ (cap = p * 16) := by omega
        have hc2 : p * 16 ≤ cap := by omega
        have hc3 : (p + 1) * 16 ≤ cap := by omega
        clear hsw hd ht
        have HBX := Lib.hid (xblank_any _ _ _ _ wr HD.out.2 (by decide))
        go_wp2_with fail
        rw [show (p + 1) * 16 - p * 16 = 16 by omega]
        (with_reducible refine HBX.out.mono ?_)
        rintro _ w2 ⟨rfl, rfl⟩
        clear HBX
        by_cases hB : blankL ((L.drop (p * 16)).take 16) = true
        · have hE : R = (ps.map (·.l), p) := by
            rw [HJ.out.2.2, load_blank L hp4 hB, List.append_nil]
          have HE := Lib.hid hE
          rw [hB]
          clear hB hE
          go_wp2
          go_ret2
          rw [HE.out]
          exact ⟨A2, k, cap2, ps, rfl, ⟨own_mono HJ.out.1.own HS.out.2.1.size, fun q hq => (HJ.out.1.each q hq).mono HS.out.2.1.size⟩, rfl, step_below HS.out.2.1 HJ.out.2.1⟩
        · have hB2 : blankL ((L.drop (p * 16)).take 16) = false := by simpa using hB
          have HO := Lib.hid (refopen_any_own _ _ _ _ wr HD.out.1 (by omega))
          rw [hB2]
          have HB2 := Lib.hid hB2
          clear hB hB2
          go_wp2_with fail
          (with_reducible refine HO.out.mono ?_)
          rintro _ w3 ⟨A3, cap3, rfl, ho3, hb3⟩
          clear HO
          obtain ⟨x, y, z, hx⟩ : ∃ x y z, opened (L.drop (p * 16)) = (x, y, z) := ⟨_, _, _, rfl⟩
          rw [hx] at ho3 ⊢
          simp only at ho3 ⊢
          have HO3 := Lib.hid (And.intro ho3 (And.intro hb3 hx))
          clear ho3 hb3 hx
          by_cases hz : z = 0
          · subst hz
            have hone := load_one HL.out.1 hp4 (HL.out.2.trans HJ.out.2.2) HB2.out (by rw [HO3.out.2.2])
            rw [HO3.out.2.2] at hone
            simp only at hone
            rw [HL.out.2] at hone
            have hj := HJ.out.1.below HO3.out.2.1
            have hpo : PartOk w3 w1.heap.size ⟨A3, x.length, cap3, x⟩ := (PartOk.of_own HO3.out.1).mono HJ.out.2.1.size
            have hx16 : x.length ≤ 65535 := by
              have h := opened_le (L.drop (p * 16)) (by rw [HO3.out.2.2])
              rw [HO3.out.2.2] at h
              simp only at h
              have := leNat_two (L.drop (p * 16))
              omega
            have hpz := pagesZ_nat x.length hx16
            have hpp := pagesN_pos x.length
            obtain ⟨q, hq⟩ : ∃ q, pagesN x.length = q := ⟨_, rfl⟩
            rw [hq] at hone hpz hpp
            have hb4 := step_below HJ.out.2.1 HO3.out.2.1
            have HX := Lib.hid (And.intro hj (And.intro hpo (And.intro hone.1 hb4)))
            have hq64 := hone.2
            have HOWN := Lib.hid (hj.own.alloc (.cells #[.slice A3 x.length cap3] 29))
            have HPZ := Lib.hid hpz
            clear hone hj hpo hb4 hq hpz
            go_wp2_with (at_builtin; refine wpList_append_own _ rfl (.tmp 45) (.tmp 47) 98 rfl w1.heap.size 29 i0 (.slice none 0 0) 1 24 Tryz.underlying98 HI0.out HZ0.out HZ1.out HZ2.out rfl (by decide) _ _ _ rfl HOWN.out ⟨w3.heap.size, 0, none⟩ 1 1 [.slice A3 x.length cap3] rfl rfl ?c1 ?c2 ?c3 ?c4 ?c5 ?_)
            case c1 => exact new_one w3 _ _
            case c2 => intro u hu; simp only [List.mem_singleton] at hu; subst hu; rfl
            case c3 => unfold maxLen; omega
            case c4 => omega
            case c5 => exact Nat.le_trans HX.out.2.2.2.size (by simp)
            intro v' w4 hown4 hg4 _
            obtain ⟨A4, cap4, rfl, hP4⟩ := HX.out.1.step ⟨A3, x.length, cap3, x⟩ HX.out.2.1 _ v' hown4 hg4
            have hb4 : Below w1.heap.size w1 w4 := (below_new HX.out.2.2.2 (.cells #[.slice A3 x.length cap3] 29)).grown hg4 (Nat.le_trans HX.out.2.2.2.size (by simp)) (fun k hk => (HX.out.1.own.lt k hk).1)
            have hR4 : R = ((ps ++ [(⟨A3, x.length, cap3, x⟩ : Part)]).map (fun q : Part => q.l) ++ (loadFrom L (p + q)).1, (loadFrom L (p + q)).2) := by
              rw [HX.out.2.2.1, List.map_append]
              rfl
            have HN := Lib.hid (And.intro hP4 (And.intro hb4 hR4))
            clear hown4 hg4 hP4 hb4 hR4 HOWN
            go_wp2_with fail
            (with_reducible refine (xpages_any _ _).mono ?_)
            rintro _ w5 ⟨rfl, rfl⟩
            rw [HPZ.out]
            go_wp2_with fail
            go_roundw
            case rel => exact ⟨p + q, A4, k + 1, cap4, ps ++ [⟨A3, x.length, cap3, x⟩], hq64, by omega, by go_num, rfl, Lib.hid ⟨HN.out.1, HN.out.2.1, HN.out.2.2⟩⟩
            case measure => simp [intOf]; omega
          · have hE : R = (ps.map (·.l), 64) := by
              rw [HJ.out.2.2, load_bad L hp4 HB2.out (by rw [HO3.out.2.2]; exact hz), List.append_nil]
            have HE := Lib.hid hE
            clear hE
            go_wp2
            go_ret2
            rw [HE.out]
            have hj := HJ.out.1.below HO3.out.2.1
            exact ⟨A2, k, cap2, ps, rfl, ⟨own_mono hj.own HS.out.2.1.size, fun q hq => (hj.each q hq).mono HS.out.2.1.size⟩, rfl, step_below (step_below HS.out.2.1 HJ.out.2.1) HO3.out.2.1⟩
      · have hp64 : p = 64 := by omega
        subst hp64
        have hE : R = (ps.map (·.l), 64) := by
          rw [HJ.out.2.2, load_end L (Nat.le_refl 64), List.append_nil]
        have HE := Lib.hid hE
        clear hE
        go_wp2
        go_ret2
        rw [HE.out]
        exact ⟨A2, k, cap2, ps, rfl, ⟨own_mono HJ.out.1.own HS.out.2.1.size, fun q hq => (HJ.out.1.each q hq).mono HS.out.2.1.size⟩, rfl, step_below HS.out.2.1 HJ.out.2.1⟩
  · have hor : s < 0 ∨ (0 ≤ s ∧ 6 ≤ s) := by unfold isSector at hs; omega
    have hR : readM m s = [] := by unfold readM; rw [if_neg hs]
    have hl : loadM (readM m s) = ([], 0) := by rw [hR]; exact load_blank [] (by omega) rfl
    rw [hl]
    clear hs hR hl h
    rcases hor with h1 | ⟨h1, h2⟩
    all_goals
      go_enter Tryz.func58, Tryz.ntmps58
      go_wp2
      go_ret2
      exact ⟨none, 0, 0, [], rfl, OwnParts.nil _ _, rfl, Below.refl _ _⟩
end Go.Proofs.YtmebdnblobobnaaGreatDoor

namespace Go.Proofs.YtmebdnblobobnaaGreatDoor
set_option maxRecDepth 100000
open Go.RowKit _root_.Go.Proofs.YtmebdnblobobnaaGreatDoor.Wd _root_.Go.Proofs.YtmebdnblobobnaaGreatDoor.Fm

theorem OwnRow.beside {w w' : World} {base g n : Nat} {A : Option Addr} {cap : Nat} {xs : List Value} {m : Mem} (h : w.ownsRow base 5 1 (.slice A n cap) n xs) (hf : Rf w g m) (hg : w.grownBy w' (some g)) : w'.ownsRow base 5 1 (.slice A n cap) n xs := by
  obtain ⟨xm, A1, n1, cap1, hr, _⟩ := hf.spot
  exact grow_own h hg (own_other h hr tyx_ne)

set_option maxHeartbeats 1000000 in
theorem xappend_any (g : Nat) (m : Mem) (s : Int) (A : Option Addr) (n cap : Nat) (b : List UInt8) (w : World) (h : Rf w g m) (hb : Shows w w.heap.size A n cap b) (hn : n ≤ 1000000) :
    Calls Tryz.prog 33 #[.pointer (some ⟨g, 0, none⟩), .int .i64 s, .slice A n cap] w fun e w' => e = .returned (.int .i64 (appendM m s b).1) ∧ Rf w' g (appendM m s b).2 ∧ w.grownBy w' (some g) := by
  have hbl := hb.len
  have HH := Lib.hid (And.intro h hb)
  by_cases h1 : 1018 < n
  · rw [appendM_long (by omega)]
    have h1i : (n : Int) > 1018 := by omega
    clear h hb
    go_enter Tryz.func33, Tryz.ntmps33
    go_wp2
    go_ret
    exact ⟨rfl, HH.out.1, grow_refl _ _⟩
  · have h1i : ¬ (n : Int) > 1018 := by omega
    by_cases hs : isSector s
    · have hs1 : ¬ s < 0 := by have := hs.1; omega
      have hs2 : ¬ 6 ≤ s := by have := hs.2; omega
      have HL := Lib.hid (xload_any g m s w h)
      have HLEN := Lib.hid (readM_len h.size s)
      obtain ⟨fr, hfr⟩ : ∃ fr, (loadM (readM m s)).2 = fr := ⟨_, rfl⟩
      have hfr64 : fr ≤ 64 := by
        rw [← hfr]
        rcases HLEN.out with h2 | h2
        · exact (load_bd h2 64 0 (by omega) (by omega)).2
        · rw [h2, show loadM [] = ([], 0) from load_blank [] (by omega) rfl]
          simp
      rw [hfr] at HL
      have hpz := pagesZ_nat n (by omega)
      obtain ⟨q, hq⟩ : ∃ q, pagesN n = q := ⟨_, rfl⟩
      have hq70 : q ≤ 70 := by have := pagesN_hi n; omega
      rw [hq] at hpz
      have HPZ := Lib.hid hpz
      by_cases h3 : 64 < fr + q
      · rw [appendM_many (by omega) hs (by rw [hfr, hbl, hq]; exact h3)]
        have h3i : (fr : Int) + (q : Int) > 64 := by omega
        clear h hb hs hfr hq hpz
        go_enter Tryz.func33, Tryz.ntmps33
        go_wp2_with fail
        (with_reducible refine HL.out.mono ?_)
        rintro _ w1 ⟨A1, n1, cap1, ps, rfl, _, _, hb1⟩
        have HB1 := Lib.hid hb1
        clear hb1
        go_wp2_with fail
        (with_reducible refine (xpages_any _ _).mono ?_)
        rintro _ w2 ⟨rfl, rfl⟩
        rw [HPZ.out]
        go_wp2
        go_ret
        exact ⟨rfl, HH.out.1.below HB1.out, below_grow HB1.out _⟩
      · have hgo := appendM_go (m := m) (s := s) (b := b) (by omega) hs (by rw [hfr, hbl, hq]; exact h3)
        rw [hfr] at hgo
        obtain ⟨R, hR⟩ : ∃ R, appendM m s b = R := ⟨_, rfl⟩
        rw [hR] at hgo ⊢
        have HG := Lib.hid hgo
        have h3i : ¬ (fr : Int) + (q : Int) > 64 := by omega
        have hsl := sealed_len b
        rw [hbl] at hsl
        have HSL := Lib.hid hsl
        clear h hb hs hfr hq hpz hR hgo hsl
        go_enter Tryz.func33, Tryz.ntmps33
        go_wp2_with fail
        (with_reducible refine HL.out.mono ?_)
        rintro _ w1 ⟨A1, n1, cap1, ps, rfl, _, _, hb1⟩
        have HB1 := Lib.hid hb1
        clear hb1 HL
        go_wp2_with fail
        (with_reducible refine (xpages_any _ _).mono ?_)
        rintro _ w2 ⟨rfl, rfl⟩
        rw [HPZ.out]
        have HSE := Lib.hid (refseal_yes A n cap b w1 ((HH.out.2.below HB1.out).more HB1.out.size) (by omega))
        go_wp2_with fail
        (with_reducible refine HSE.out.mono ?_)
        rintro _ w2 ⟨A2, cap2, rfl, hs2', hb2⟩
        have HB2 := Lib.hid (And.intro hs2' (And.intro (HH.out.1.below (step_below HB1.out hb2)) (step_below HB1.out hb2)))
        obtain ⟨x, hx⟩ : ∃ x, sealed b = x := ⟨_, rfl⟩
        rw [hx] at HG HSL HB2
        obtain ⟨N, hN⟩ : ∃ N, 6 + n = N := ⟨_, rfl⟩
        rw [hN] at HSL HB2 ⊢
        have hN2 : N ≤ 1024 := by omega
        clear hs2' hb2 HSE hx hN
        go_wp2_with fail
        go_loopw [10] (fun i wr => ∃ (j : Nat), 16 * j < N + 16 ∧ i = .int .i64 j ∧ Hid (∃ mj : Mem, Rf wr g mj ∧ wr.ownsRow w1.heap.size 5 1 (.slice A2 N cap2) N (bc x) ∧ w.grownBy wr (some g) ∧ R = progX (x.length - j) mj s ((fr : Int) + (j : Int)) (x.drop (16 * j)))) (fun i _ => 100 - (intOf i).toNat)
        case atStart => exact ⟨0, by omega, rfl, Lib.hid ⟨m, HB2.out.2.1, HB2.out.1, below_grow HB2.out.2.2 _, by rw [HG.out]; simp⟩⟩
        case round =>
          obtain ⟨j, hj, rfl, HJ⟩ := hrel
          obtain ⟨mj, hf, ho, hg, hRj⟩ := HJ.out
          clear HJ
          by_cases hlt : 16 * j < N
          · have hji : (j : Int) * 16 < (N : Int) := by omega
            rw [progX_step x j (by rw [HSL.out]; exact hlt)] at hRj
            obtain ⟨t, ht⟩ : ∃ t, min ((j + 1) * 16) N = t := ⟨_, rfl⟩
            have ht1 : j * 16 ≤ t ∧ t ≤ N ∧ t - j * 16 ≤ 16 := by omega
            have hso := Shows.of_own ho
            have hcap := hso.le
            obtain ⟨G, o, rfl, _, _⟩ := hso.spot (by omega)
            have hsd := (hso.drop (k := j * 16) (by omega)).take (k := t - j * 16) (by omega)
            rw [if_neg (by omega), Option.map_some, Addr.add_lit] at hsd
            have hcut : (x.drop (j * 16)).take (t - j * 16) = cutAt x j := by
              unfold cutAt
              rw [Nat.mul_comm j 16]
              rcases Nat.lt_or_ge N ((j + 1) * 16) with h5 | h5
              · rw [List.take_of_length_le (by rw [List.length_drop, HSL.out]; omega), List.take_of_length_le (by rw [List.length_drop, HSL.out]; omega)]
              · congr 1
                omega
            rw [hcut] at hsd
            have hcall := xprogram_any g mj s ((fr : Int) + (j : Int)) _ _ _ (cutAt x j) wr hf hsd (by omega)
            obtain ⟨Q, hQ⟩ : ∃ Q, programM mj s ((fr : Int) + (j : Int)) (cutAt x j) = Q := ⟨_, rfl⟩
            rw [hQ] at hRj hcall
            have HC := Lib.hid hcall
            have HX := Lib.hid (And.intro hRj (And.intro hf (And.intro ho hg)))
            have hmin : min (((j : Int) + 1) * 16) (N : Int) = (t : Int) := by omega
            clear hso hsd hcut hRj hcall hQ hf ho hg
            go_wp2_with fail
            (with_reducible refine HC.out.mono ?_)
            rintro _ w3 ⟨rfl, hf2, hg2⟩
            have ho2 := OwnRow.beside HX.out.2.2.1 HX.out.2.1 hg2
            have hg3 := grow_trans HX.out.2.2.2 hg2 (.inl rfl)
            obtain ⟨z, mq⟩ := Q
            have hRj := HX.out.1
            simp only at hRj hf2 ⊢
            by_cases hz : z = 0
            · subst hz
              rw [if_pos rfl] at hRj
              have HN := Lib.hid (And.intro hf2 (And.intro ho2 (And.intro hg3 hRj)))
              clear hf2 hg2 ho2 hg3 hRj HC HX
              go_wp2
              go_roundw
              case rel => exact ⟨j + 1, by omega, by go_num, Lib.hid ⟨mq, HN.out.1, HN.out.2.1, HN.out.2.2.1, by rw [HN.out.2.2.2]; congr 1⟩⟩
              case measure => simp [intOf]; omega
            · rw [if_neg hz] at hRj
              have HN := Lib.hid (And.intro hf2 (And.intro hg3 hRj))
              clear hf2 hg2 ho2 hg3 hRj HC HX
              go_wp2
              go_ret
              rw [HN.out.2.2]
              exact ⟨rfl, HN.out.1, HN.out.2.1⟩
          · have hji : ¬ (j : Int) * 16 < (N : Int) := by omega
            rw [progX_end _ x j (by rw [HSL.out]; omega)] at hRj
            have HN := Lib.hid (And.intro hf (And.intro hg hRj))
            clear hf ho hg hRj
            go_wp2
            go_ret
            rw [HN.out.2.2]
            exact ⟨rfl, HN.out.1, HN.out.2.1⟩
    · rw [appendM_addr (by omega) hs]
      have hor : s < 0 ∨ (0 ≤ s ∧ 6 ≤ s) := by unfold isSector at hs; omega
      clear h hb hs
      rcases hor with h1 | ⟨h1, h2⟩
      all_goals
        go_enter Tryz.func33, Tryz.ntmps33
        go_wp2
        go_ret
        exact ⟨rfl, HH.out.1, grow_refl _ _⟩
end Go.Proofs.YtmebdnblobobnaaGreatDoor

