/- Package record: the contract of Load. -/
import Derived.Test.YtolpiklhnafnbaaRecSmall
import Derived.Test.YtolpiklhnafnbaaOwnParts
import Derived.Test.YtolpiklhnafnbaaCrcOpen
namespace Go.Proofs.Ytolpiklhnafnbaa
set_option maxRecDepth 100000
open Go.RowKit Wd Fm

theorem readM_len {m : Mem} (hm : m.B.length = 6144) (s : Int) : (readM m s).length = 1024 ∨ readM m s = [] := by
  unfold readM placeOf
  split
  · rename_i h
    left
    refine page_len m _ _ ?_
    unfold isSector at h
    simp only [Int.toNat_zero]
    omega
  · exact Or.inr rfl
theorem load_stop {L : List UInt8} (hL : L.length = 1024 ∨ L = []) {p : Nat} (h1 : ¬ p * 16 < L.length) (h2 : p * 16 ≤ L.length) : loadFrom L p = ([], p) := by
  rcases hL with hL | rfl
  · exact load_end L (by omega)
  · have : p = 0 := by
      simp at h2
      omega
    subst this
    exact load_blank [] (by omega) rfl
theorem load_one {L : List UInt8} (hL : L.length = 1024) {p : Nat} (hp : p < 64) {l0 : List (List UInt8)} (h : loadM L = (l0 ++ (loadFrom L p).1, (loadFrom L p).2)) (hb : blankL (pageL L p) = false) (he : (opened (L.drop (p * 16))).2.2 = 0) :
    loadM L = (l0 ++ [(opened (L.drop (p * 16))).1] ++ (loadFrom L (p + pagesN (opened (L.drop (p * 16))).1.length)).1, (loadFrom L (p + pagesN (opened (L.drop (p * 16))).1.length)).2) ∧ p + pagesN (opened (L.drop (p * 16))).1.length ≤ 64 := by
  rw [h, load_rec hL hp hb he]
  refine ⟨by simp, ?_⟩
  obtain ⟨o1, _, _⟩ := opened_le _ he
  rw [List.length_drop, hL] at o1
  have := pagesN_hi (opened (L.drop (p * 16))).1.length
  omega

set_option maxHeartbeats 1000000 in
theorem load_any (g : Nat) (m : Mem) (s : Int) (w : World) (h : Fl w g m) :
    Calls Try.prog 22 #[.pointer (some ⟨g, 0, none⟩), .int .i64 s] w fun e w' => ∃ A n cap ps, e = .returned (.tuple #[.slice A n cap, .int .i64 ((loadM (readM m s)).2 : Nat)]) ∧ OwnParts w' w.heap.size A n cap ps ∧ ps.map (·.l) = (loadM (readM m s)).1 ∧ Below w.heap.size w w' := by
  have hlen := readM_len h.size s
  obtain ⟨L, hL⟩ : ∃ L, readM m s = L := ⟨_, rfl⟩
  have HR := Lib.hid (read_any g m s w h)
  rw [hL] at hlen HR ⊢
  obtain ⟨R, hR⟩ : ∃ R, loadM L = R := ⟨_, rfl⟩
  rw [hR]
  have HL := Lib.hid (And.intro hlen hR)
  obtain ⟨i0, hi0, hz0, hz1, hz2⟩ := info_parts infoSlice
  have HI0 := Lib.hid hi0
  have HZ0 := Lib.hid hz0
  have HZ1 := Lib.hid hz1
  have HZ2 := Lib.hid hz2
  clear h hL hlen hR hi0 hz0 hz1 hz2
  go_enter Try.func22, Try.ntmps22
  go_wp2_with fail
  (with_reducible refine HR.out.mono ?_)
  rintro _ w1 ⟨A, n, cap, rfl, ho, hb⟩
  have hln : L.length = n := by have := ho.1; rw [bc_len] at this; omega
  have HS := Lib.hid (And.intro (Shows.of_own ho) (And.intro hb hln))
  have hn2 : n ≤ 1024 := by rcases HL.out.1 with h | h <;> simp [← hln, h]
  clear ho hb hln
  go_wp2_with fail
  go_loopw [4, 5] (fun l i wr => ∃ (p : Nat) (A2 : Option Addr) (k cap2 : Nat) (ps : List Part), p ≤ 64 ∧ k ≤ p ∧ i = .int .i64 p ∧ l = .slice A2 k cap2 ∧ Hid (p * 16 ≤ n ∧ OwnParts wr w1.heap.size A2 k cap2 ps ∧ Below w1.heap.size w1 wr ∧ R = (ps.map (·.l) ++ (loadFrom L p).1, (loadFrom L p).2))) (fun _ i _ => 64 - (intOf i).toNat)
  case atStart => exact ⟨0, none, 0, 0, [], by omega, by omega, rfl, rfl, Lib.hid ⟨by omega, OwnParts.nil _ _, Below.refl _ _, by rw [← HL.out.2]; rfl⟩⟩
  case round =>
    obtain ⟨p, A2, k, cap2, ps, hp, hkp, rfl, rfl, HJ⟩ := hrel
    by_cases hlt : p * 16 < n
    · have hL4 : L.length = 1024 := by
        rcases HL.out.1 with h | h
        · exact h
        · have := HS.out.2.2
          rw [h] at this
          simp at this
          omega
      have hn4 : n = 1024 := by have := HS.out.2.2; omega
      subst hn4
      have hp4 : p < 64 := by omega
      have hsw := HS.out.1.below HJ.out.2.2.1
      have hcap := hsw.le
      obtain ⟨G, o, rfl, _, _⟩ := hsw.spot (by omega)
      have hd := (hsw.drop (k := p * 16) (by omega)).more HJ.out.2.2.1.size
      rw [if_neg (by omega), Option.map_some, Addr.add_lit] at hd
      have ht := hd.take (k := 16) (by omega)
      have HD := Lib.hid (And.intro hd ht)
      have hpi : (p : Int) * 16 < 1024 := by omega
      have hc1 : ¬ (cap = p * 16) := by omega
      have hc2 : p * 16 ≤ cap := by omega
      have HL4 := Lib.hid hL4
      clear hsw hd ht hL4
      have HBL := Lib.hid (rblank_any _ _ _ _ wr HD.out.2 (by decide))
      go_wp2_with fail
      (with_reducible refine HBL.out.mono ?_)
      rintro _ w2 ⟨rfl, rfl⟩
      clear HBL
      by_cases hB : blankL ((L.drop (p * 16)).take 16) = true
      · have hE : R = (ps.map (·.l), p) := by
          rw [HJ.out.2.2.2, load_blank L hp4 hB, List.append_nil]
        have HE := Lib.hid hE
        rw [hB]
        clear hB hE
        go_wp2
        go_ret2
        rw [HE.out]
        exact ⟨A2, k, cap2, ps, rfl, ⟨own_mono HJ.out.2.1.own HS.out.2.1.size, fun q hq => (HJ.out.2.1.each q hq).mono HS.out.2.1.size⟩, rfl, step_below HS.out.2.1 HJ.out.2.2.1⟩
      · have hB2 : blankL ((L.drop (p * 16)).take 16) = false := by simpa using hB
        have HO := Lib.hid (open_any_own _ _ _ _ wr HD.out.1 (by omega))
        rw [hB2]
        have HB2 := Lib.hid hB2
        clear hB hB2
        go_wp2_with fail
        (with_reducible refine HO.out.mono ?_)
        rintro _ w3 ⟨A3, cap3, rfl, ho3, hb3⟩
        clear HO
        obtain ⟨x, y, z, hx⟩ : ∃ x y z, opened (L.drop (p * 16)) = (x, y, z) := ⟨_, _, _, rfl⟩
        rw [hx] at ho3 ⊢
        simp only at ho3 ⊢
        have HO3 := Lib.hid (And.intro ho3 (And.intro hb3 hx))
        clear ho3 hb3 hx
        by_cases hz : z = 0
        · subst hz
          have hone := load_one HL4.out hp4 (HL.out.2.trans HJ.out.2.2.2) HB2.out (by rw [HO3.out.2.2])
          rw [HO3.out.2.2] at hone
          simp only at hone
          rw [HL.out.2] at hone
          have hj := HJ.out.2.1.below HO3.out.2.1
          have hpo : PartOk w3 w1.heap.size ⟨A3, x.length, cap3, x⟩ := (PartOk.of_own HO3.out.1).mono HJ.out.2.2.1.size
          have hx16 : x.length ≤ 65535 := by
            have h := opened_le (L.drop (p * 16)) (by rw [HO3.out.2.2])
            rw [HO3.out.2.2] at h
            simp only at h
            have := leNat_two (L.drop (p * 16))
            omega
          have hpz := pagesZ_nat x.length hx16
          have hpp := pagesN_pos x.length
          obtain ⟨q, hq⟩ : ∃ q, pagesN x.length = q := ⟨_, rfl⟩
          rw [hq] at hone hpz hpp
          have hb4 := step_below HJ.out.2.2.1 HO3.out.2.1
          have HX := Lib.hid (And.intro hj (And.intro hpo (And.intro hone.1 hb4)))
          have hq64 := hone.2
          have HOWN := Lib.hid (hj.own.alloc (.cells #[.slice A3 x.length cap3] 29))
          have HPZ := Lib.hid hpz
          clear hone hj hpo hb4 hq hpz
          go_wp2_with (at_builtin; refine wpList_append_own _ rfl (.tmp 37) (.tmp 39) 39 rfl w1.heap.size 29 i0 (.slice none 0 0) 1 24 Try.underlying39 HI0.out HZ0.out HZ1.out HZ2.out rfl (by decide) _ _ _ rfl HOWN.out ⟨w3.heap.size, 0, none⟩ 1 1 [.slice A3 x.length cap3] rfl rfl ?c1 ?c2 ?c3 ?c4 ?c5 ?_)
          case c1 => exact new_one w3 _ _
          case c2 => intro u hu; simp only [List.mem_singleton] at hu; subst hu; rfl
          case c3 => unfold maxLen; omega
          case c4 => omega
          case c5 => exact Nat.le_trans HX.out.2.2.2.size (by simp)
          intro v' w4 hown4 hg4 _
          obtain ⟨A4, cap4, rfl, hP4⟩ := HX.out.1.step ⟨A3, x.length, cap3, x⟩ HX.out.2.1 _ v' hown4 hg4
          have hb4 : Below w1.heap.size w1 w4 := (below_new HX.out.2.2.2 (.cells #[.slice A3 x.length cap3] 29)).grown hg4 (Nat.le_trans HX.out.2.2.2.size (by simp)) (fun k hk => (HX.out.1.own.lt k hk).1)
          have hR4 : R = ((ps ++ [(⟨A3, x.length, cap3, x⟩ : Part)]).map (fun q : Part => q.l) ++ (loadFrom L (p + q)).1, (loadFrom L (p + q)).2) := by
            rw [HX.out.2.2.1, List.map_append]
            rfl
          have HN := Lib.hid (And.intro hP4 (And.intro hb4 hR4))
          clear hown4 hg4 hP4 hb4 hR4 HOWN
          go_wp2_with fail
          (with_reducible refine (pages_any _ _).mono ?_)
          rintro _ w5 ⟨rfl, rfl⟩
          rw [HPZ.out]
          go_wp2_with fail
          go_roundw
          case rel => exact ⟨p + q, A4, k + 1, cap4, ps ++ [⟨A3, x.length, cap3, x⟩], hq64, by omega, by go_num, rfl, Lib.hid ⟨by omega, HN.out.1, HN.out.2.1, HN.out.2.2⟩⟩
          case measure => simp [intOf]; omega
        · have hE : R = (ps.map (·.l), 64) := by
            rw [HJ.out.2.2.2, load_bad L hp4 HB2.out (by rw [HO3.out.2.2]; exact hz), List.append_nil]
          have HE := Lib.hid hE
          clear hE
          go_wp2
          go_ret2
          rw [HE.out]
          have hj := HJ.out.2.1.below HO3.out.2.1
          exact ⟨A2, k, cap2, ps, rfl, ⟨own_mono hj.own HS.out.2.1.size, fun q hq => (hj.each q hq).mono HS.out.2.1.size⟩, rfl, step_below (step_below HS.out.2.1 HJ.out.2.2.1) HO3.out.2.1⟩
    · have hE : R = (ps.map (·.l), p) := by
        rw [HJ.out.2.2.2, load_stop HL.out.1 (by rw [HS.out.2.2]; exact hlt) (by rw [HS.out.2.2]; exact HJ.out.1), List.append_nil]
      have HE := Lib.hid hE
      have hpi : ¬ (p : Int) * 16 < n := by omega
      clear hE
      go_wp2
      go_ret2
      rw [HE.out]
      exact ⟨A2, k, cap2, rfl, ps, ⟨own_mono HJ.out.2.1.own HS.out.2.1.size, fun q hq => (HJ.out.2.1.each q hq).mono HS.out.2.1.size⟩, rfl, step_below HS.out.2.1 HJ.out.2.2.1⟩
end Go.Proofs.Ytolpiklhnafnbaa
