/- The walk of the law SlotsTorn: wherever the power goes within Mark, Boot tells what it told, or the new entry. -/
import Derived.Test.YtmebdnblobobnaaGreatDoorLaw6Of
import Derived.Test.YtmebdnblobobnaaGreatDoorSlTornMath
import Derived.Test.YtmebdnblobobnaaGreatDoorKShaRef
import Derived.Test.YtmebdnblobobnaaGreatDoorKAct
namespace Go.Proofs.YtmebdnblobobnaaGreatDoor
set_option maxRecDepth 100000
open Go.RowKit _root_.Go.Proofs.YtmebdnblobobnaaGreatDoor.Wd _root_.Go.Proofs.YtmebdnblobobnaaGreatDoor.Nm _root_.Go.Proofs.YtmebdnblobobnaaGreatDoor.Cm _root_.Go.Proofs.YtmebdnblobobnaaGreatDoor.Fm _root_.Go.Proofs.YtmebdnblobobnaaGreatDoor.Sm

theorem torn_zero (BZ : List Value) (h : bc (List.replicate 32 0) = BZ) : ∀ w : World, (zeroValue 39).run Tryz.prog w = .ok (.agg BZ.toArray) w := by
  subst h
  obtain ⟨hz, _⟩ := zero_of_info (show (Tryz.prog.info? 39).map (fun i => (i.zero, i.size)) = some (some (.agg (bc (List.replicate 32 0)).toArray), 32) by kernel_rfl)
  exact hz
/-- Both memories, and the sum's own block. -/
structure St6 (w wr : World) (f x S : Nat) (BX : List Value) (mf mx : Mem) : Prop where
  pf : Fl wr f mf
  px : Rf wr x mx
  sr : Row wr S 39 BX
  low : Below w.heap.size w wr
  pd : w.heap.size ≤ f ∧ f < x ∧ x < S
theorem St6.below {w wr wr' : World} {f x S : Nat} {BX : List Value} {mf mx : Mem} (h : St6 w wr f x S BX mf mx) (hb : Below wr.heap.size wr wr') : St6 w wr' f x S BX mf mx :=
  ⟨h.pf.below hb, h.px.below hb, h.sr.below hb h.sr.lt, step_below h.low hb, h.pd⟩
theorem St6.goF {w wr wr' : World} {f x S : Nat} {BX : List Value} {mf mx mf' : Mem} (h : St6 w wr f x S BX mf mx) (hf : Fl wr' f mf') (hg : wr.grownBy wr' (some f)) : St6 w wr' f x S BX mf' mx :=
  ⟨hf, h.px.other h.pf hg (by have := h.pd; omega), h.sr.grown hg (by have := h.pd; omega), step_grow h.low hg h.pd.1, h.pd⟩
theorem St6.goX {w wr wr' : World} {f x S : Nat} {BX : List Value} {mf mx mx' : Mem} (h : St6 w wr f x S BX mf mx) (hx : Rf wr' x mx') (hg : wr.grownBy wr' (some x)) : St6 w wr' f x S BX mf mx' :=
  ⟨h.pf.other h.px hg (by have := h.pd; omega), hx, h.sr.grown hg (by have := h.pd; omega), step_grow h.low hg (by have := h.pd; omega), h.pd⟩
theorem EntT_next (S : List UInt8) (k : Nat) : EntT S (k + 1) = ⟨((k : Nat) : Int) + 1, 2 * ((k : Int) % 2), S⟩ := by
  unfold EntT
  congr 1
  by_cases h : (k + 1) % 2 = 1
  · rw [if_pos h]; omega
  · rw [if_neg h]; omega

theorem EntT_slot (S : List UInt8) (i : Nat) : (EntT S i).slot = 0 ∨ (EntT S i).slot = 2 := by
  unfold EntT
  simp only
  split
  · exact .inl rfl
  · exact .inr rfl
theorem booted_out {w w' : World} {m : Mem} {r : Ending} {e : Ent} {C : List Value} (h : Booted w m r w') (h1 : (bootM m).1 = e) (h2 : e.cells = C) :
    ∃ A n cap, r = .returned (.tuple #[.agg C.toArray, .slice A n cap]) ∧ Below w.heap.size w w' := by
  obtain ⟨A, n, cap, h3, _, h4, _⟩ := h
  rw [h1, h2] at h3
  exact ⟨A, n, cap, h3, h4⟩

set_option maxHeartbeats 4000000 in
theorem slotsTorn_good (A : Option Addr) (n cap : Nat) (a : List UInt8) (marks at0 : Int) (A3 : Option Addr) (n3 cap3 : Nat) (mask : List UInt8) (w : World) (hT : Tables w)
    (ha : Shows w w.heap.size A n cap a) (hk : Shows w w.heap.size A3 n3 cap3 mask) (e0 : n ≠ 0) (e1 : n ≤ 200) (e2 : n3 ≤ 20) :
    Calls Tryz.prog 4 #[.slice A n cap, .int .i64 marks, .int .i64 at0, .slice A3 n3 cap3] w fun e w' => e = .returned (.bool true) ∧ Below w.heap.size w w' := by
  have hal := ha.len
  have HT := Lib.hid hT
  have HS := Lib.hid (And.intro ha hk)
  clear hT ha hk
  obtain ⟨K, hK⟩ : ∃ k : Nat, marks % 40 = k := ⟨(marks % 40).toNat, by omega⟩
  have hK40 : K < 40 := by omega
  obtain ⟨T7, hT7⟩ : ∃ k : Nat, at0 % 7 = k := ⟨(at0 % 7).toNat, by omega⟩
  have hT7b : T7 < 7 := by omega
  have HK := Lib.hid (And.intro hK hT7)
  obtain ⟨m1, a1, M1, i1, _⟩ := (marked_fresh (EntT (sha a))).store 0 (by decide) a (by omega)
  rw [show ((0 : Nat) : Int) = 0 from rfl] at a1
  have HM := Lib.hid (And.intro a1 (And.intro M1 i1))
  have hsl := sha_len a
  obtain ⟨BX, hBX⟩ : ∃ B, bc (sha a) = B := ⟨_, rfl⟩
  obtain ⟨BZ, hBZ⟩ : ∃ B, bc (List.replicate 32 0) = B := ⟨_, rfl⟩
  have hxl : BX.length = 32 := by rw [← hBX, bc_len, hsl]
  have hxo : ∀ v ∈ BX, v.oneCell' = true := by rw [← hBX]; exact bc_one _
  have HBX := Lib.hid (And.intro hBX (And.intro hxo (show BZ.length = BX.length by rw [hxl, ← hBZ, bc_len]; simp)))
  have HIX := Lib.hid (hash_size BX hxl)
  have HZZ := Lib.hid (torn_zero BZ hBZ)
  have b0 : ((n : Int) == 0) = false := by simpa using e0
  have b1 : ¬ (200 : Int) < (n : Int) := by omega
  have b2 : ¬ (20 : Int) < (n3 : Int) := by omega
  clear hK hT7 a1 M1 i1 hBX hBZ hxl hxo hsl
  go_enter Tryz.func4, Tryz.ntmps4
  go_wp2_with fail
  (with_reducible refine (known6_any w HT.out).mono ?_)
  rintro _ w1 ⟨rfl, hb1⟩
  have HB1 := Lib.hid hb1
  clear hb1
  go_wp2_with fail
  (with_reducible refine (new_any _).mono ?_)
  rintro _ w2 ⟨rfl, hf2, hb2⟩
  obtain ⟨f, hf⟩ : ∃ x, w1.heap.size = x := ⟨_, rfl⟩
  rw [hf] at hf2 ⊢
  have H2 := Lib.hid (And.intro hf2 (And.intro (step_below HB1.out hb2) (show w.heap.size ≤ f by have := HB1.out.size; omega)))
  clear hf2 hb2 hf HB1
  go_wp2_with fail
  (with_reducible refine (xnew_any _).mono ?_)
  rintro _ w3 ⟨rfl, hf3, hb3⟩
  obtain ⟨x, hx⟩ : ∃ x, w2.heap.size = x := ⟨_, rfl⟩
  have hfx : f < x := by have := H2.out.1.lt; omega
  rw [hx] at hf3 ⊢
  have H3 := Lib.hid (And.intro (H2.out.1.below hb3) (And.intro hf3 (And.intro (step_below H2.out.2.1 hb3) (And.intro H2.out.2.2 hfx))))
  have HST := Lib.hid (store_any f Mem.fresh 0 A n cap a w3 H3.out.1 (shows_later HS.out.1 H3.out.2.2.1) (by omega) (shows_apart HS.out.1 H3.out.2.2.2.1))
  rw [HM.out.1] at HST
  clear hf3 hb3 hx H2
  go_wp2_with fail
  refine HST.out.mono ?_
  rintro _ w4 ⟨rfl, hf4, hg4⟩
  have hb4 := step_grow H3.out.2.2.1 hg4 H3.out.2.2.2.1
  have hr4 := H3.out.2.1.other H3.out.1 hg4 (by omega)
  have HXS := Lib.hid (xstore6_any x Mem.fresh 0 A n cap a w4 hr4 (shows_later HS.out.1 hb4) (by omega) (shows_apart HS.out.1 (by have := H3.out.2.2.2.1; omega)) (by decide) (by decide))
  rw [HM.out.1] at HXS
  have H4 := Lib.hid (And.intro hf4 (And.intro hr4 hb4))
  clear hf4 hg4 hb4 hr4 HST
  go_wp2_with fail
  refine HXS.out.mono ?_
  rintro _ w5 ⟨rfl, hf5, hg5⟩
  have hf5' := H4.out.1.other H4.out.2.1 hg5 (by omega)
  have hb5 := step_grow H4.out.2.2 hg5 (by have := H3.out.2.2.2.1; omega)
  have HSU := Lib.hid (refsum3_any A n cap a w5 (shows_later HS.out.1 hb5) (by omega))
  rw [HBX.out.1] at HSU
  have H5 := Lib.hid (And.intro hf5' (And.intro hf5 hb5))
  clear hf5 hg5 hf5' hb5 HXS H4
  go_wp2_with fail
  refine HSU.out.mono ?_
  rintro _ w6 ⟨rfl, hb6⟩
  have HB6 := Lib.hid hb6
  clear hb6
  go_wp2_with (refine wpList_alloc_row rfl 39 rfl BZ HZZ.out ?_)
  intro w7 hrow7 hb7 hsz7
  go_wp2_with (refine wpList_store_as rfl _ _ _ rfl w6.heap.size BX rfl rfl 39 BZ hrow7 HIX.out HBX.out.2.2 HBX.out.2.1 ?_)
  intro w8 hrow8 hoth8 hg8 hsz8
  have hb68 : Below w6.heap.size w6 w8 := step_grow hb7 hg8 (Nat.le_refl _)
  have hb58 : Below w5.heap.size w5 w8 := step_below HB6.out hb68
  obtain ⟨S, hS⟩ : ∃ S, w6.heap.size = S := ⟨_, rfl⟩
  have hxS : x < S := by have := H5.out.2.1.lt; have := HB6.out.size; omega
  rw [hS] at hrow8 ⊢
  have HJ0 : Hid (∃ m t c, St6 w w8 f x S BX m m ∧ Marked m (EntT (sha a)) t c ∧ 16 * t + c = 0 ∧ imgM m 0 = some a) :=
    Lib.hid ⟨m1, 0, 0, ⟨H5.out.1.below hb58, H5.out.2.1.below hb58, hrow8, step_below H5.out.2.2 hb58, H3.out.2.2.2.1, hfx, hxS⟩, HM.out.2.1, rfl, HM.out.2.2⟩
  clear hrow7 hb7 hsz7 hrow8 hoth8 hg8 hsz8 hb68 hb58 hS H5 H3 HB6 HSU
  go_wp2_with fail
  go_loopw [12] (fun c wr => ∃ k : Nat, k ≤ K + 1 ∧ c = .int .i64 k ∧ Hid (∃ m t c, St6 w wr f x S BX m m ∧ Marked m (EntT (sha a)) t c ∧ 16 * t + c = k ∧ imgM m 0 = some a)) (fun c _ => K + 1 - (intOf c).toNat)
  case atStart => exact ⟨0, by omega, rfl, HJ0⟩
  case round =>
    clear HJ0
    obtain ⟨k, hk, rfl, HJ⟩ := hrel
    go_wp2_with fail
    (with_reducible refine (within6_any _ 40 _ (by decide) (by decide)).mono ?_)
    rintro _ wq ⟨rfl, rfl⟩
    rw [HK.out.1]
    by_cases hlt : k ≤ K
    · have hki : (k : Int) ≤ (K : Int) := by omega
      obtain ⟨m, t, c, st, hM, hkc, hi⟩ := HJ.out
      obtain ⟨r, hr⟩ : ∃ r, (k : Int) % 2 = r := ⟨_, rfl⟩
      have hmod : (k : Int).tmod 2 = r := by rw [Int.tmod_eq_emod_of_nonneg (by omega), hr]
      have hr0 : 0 ≤ r := by omega
      have hr1 : r ≤ 1 := by omega
      have hen := EntT_next (sha a) k
      rw [hr] at hen
      obtain ⟨m', t', c', a3, s3, M3, k3, p3⟩ := hM.mark (by omega) (2 * r) (by omega) (by omega) (sha a) (sha_len a) (by rw [hkc]; exact hen)
      have hi' : imgM m' 0 = some a := (s3.img 0 (by decide)).trans hi
      have HMK := Lib.hid (mark_any f m (2 * r) (sha a) wr st.pf (sha_len a) (by omega) (by omega))
      rw [a3, HBX.out.1] at HMK
      have HRS := Lib.hid (st.sr.range 0 BX (fun j v hv => by rw [Nat.zero_add]; exact hv))
      have HQ := Lib.hid (And.intro st (And.intro a3 (And.intro M3 (And.intro (show 16 * t' + c' = k + 1 by omega) hi'))))
      clear st hM hkc hi hr hen a3 s3 M3 k3 p3 hi' HJ
      go_wp2_with (refine wpList_load_mid rfl 39 (.tmp 11) rfl S 0 rfl BX _ HRS.out Tryz.underlying39 rfl HIX.out ?_)
      refine HMK.out.mono ?_
      rintro _ wa ⟨rfl, hfa, hga⟩
      have sta := HQ.out.1.goF hfa hga
      have HXM := Lib.hid (xmark6_any x m (2 * r) (sha a) wa sta.px (sha_len a) (by omega) (by omega))
      rw [HQ.out.2.1, HBX.out.1] at HXM
      have HRA := Lib.hid (sta.sr.range 0 BX (fun j v hv => by rw [Nat.zero_add]; exact hv))
      have HSA := Lib.hid sta
      clear hfa hga sta HMK HRS
      go_wp2_with (refine wpList_load_mid_g rfl 39 (.tmp 11) rfl S 0 rfl BX _ HRA.out Tryz.underlying39 rfl HIX.out ?_)
      refine HXM.out.mono ?_
      rintro _ wb ⟨rfl, hxb, hgb⟩
      have HJ1 : Hid (∃ m t c, St6 w wb f x S BX m m ∧ Marked m (EntT (sha a)) t c ∧ 16 * t + c = k + 1 ∧ imgM m 0 = some a) :=
        Lib.hid ⟨m', t', c', HSA.out.goX hxb hgb, HQ.out.2.2.1, HQ.out.2.2.2.1, HQ.out.2.2.2.2⟩
      clear hxb hgb HXM HRA HSA
      go_wp2_with fail
      go_roundw
      case rel => exact ⟨k + 1, by omega, by go_num, HJ1⟩
      case measure => simp [intOf]; omega
    · obtain rfl : k = K + 1 := by omega
      have hki : ¬ ((K + 1 : Nat) : Int) ≤ (K : Int) := by omega
      obtain ⟨m, t, c, st, hM, hkc, hi⟩ := HJ.out
      have hc1 : 1 ≤ c := by rcases hM.start with h | h <;> omega
      obtain ⟨r, m', hx1, hq, hsm, hz⟩ := torn_boot hM (by omega) hc1 hi rfl (EntT_slot _ _) (1 + (T7 : Int)) (by omega) mask
      rw [hkc] at hq hz
      have hbo := boot_any f m wr st.pf (HT.out.below st.low)
      have hws := bootM_sum m
      have hns := bootM_sum (startM m')
      obtain ⟨was, hwas⟩ : ∃ e, (bootM m).1 = e := ⟨_, rfl⟩
      obtain ⟨now, hnow⟩ : ∃ e, (bootM (startM m')).1 = e := ⟨_, rfl⟩
      rw [hwas] at hq hws
      rw [hnow] at hsm hz hns
      have hwl := ent_len was hws
      have hnl := ent_len now hns
      have hwo := sent_one was
      have hno := sent_one now
      obtain ⟨Z, hzl, hz0, hzz⟩ := sent_zero
      have hzx := (zero_of_info ent_zero_info).1
      rw [hz0] at hzx
      obtain ⟨CW, hCW⟩ : ∃ C, was.cells = C := ⟨_, rfl⟩
      obtain ⟨CN, hCN⟩ : ∃ C, now.cells = C := ⟨_, rfl⟩
      rw [hCW] at hwl hwo
      rw [hCN] at hnl hno
      have HZ := Lib.hid (And.intro hzz (And.intro hzx (And.intro (show Z.length = CW.length by rw [hzl, hwl]) (show Z.length = CN.length by rw [hzl, hnl]))))
      have HIW := Lib.hid (And.intro (sent_size CW hwl) (show (Tryz.prog.info? 45).map (·.size) = some CW.toArray.size by rw [sent_size CW hwl]; simp))
      have HIN := Lib.hid (And.intro (sent_size CN hnl) (show (Tryz.prog.info? 45).map (·.size) = some CN.toArray.size by rw [sent_size CN hnl]; simp))
      have HIG := Lib.hid (And.intro (ent_size CN hnl) (show (Tryz.prog.info? 49).map (·.size) = some CN.toArray.size by rw [ent_size CN hnl]; simp))
      have HO := Lib.hid (And.intro hwo hno)
      have HE := Lib.hid (And.intro hwas (And.intro hnow (And.intro hCW (And.intro hCN (And.intro hws hns)))))
      have HR := Lib.hid (And.intro hq (And.intro hsm (And.intro hz hx1)))
      have HBO := Lib.hid hbo
      have HST := Lib.hid st
      clear hx1 hq hsm hz hbo hws hns hwas hnow hwl hnl hwo hno hzl hz0 hzz hzx hCW hCN st hM hkc hi hc1 HJ
      go_wp2_with fail
      refine HBO.out.mono ?_
      intro r8 wa hB8
      obtain ⟨A8, n8, c8, rfl, hb8⟩ := booted_out hB8 HE.out.1 HE.out.2.2.1
      have st1 := HST.out.below hb8
      have HS1 := Lib.hid st1
      clear hb8 st1 HBO HST
      go_wp2_with (refine wpList_alloc_row rfl 45 rfl Z HZ.out.1 ?_)
      intro wb hrowb hbb hszb
      go_wp2_with (refine wpList_store_as rfl _ _ _ rfl wa.heap.size CW rfl rfl 45 Z hrowb HIW.out.1 HZ.out.2.2.1 HO.out.1 ?_)
      intro wc hrowc hothc hgc hszc
      obtain ⟨P, hP⟩ : ∃ P, wa.heap.size = P := ⟨_, rfl⟩
      have st2 := HS1.out.below (step_grow hbb hgc (Nat.le_refl _))
      have hSP : S < P := by have := HS1.out.sr.lt; omega
      rw [hP] at hrowc ⊢
      have H2 := Lib.hid (And.intro st2 hrowc)
      have hstp := stop_any f m (1 + (T7 : Int)) A3 n3 cap3 mask wc st2.pf (by omega) (shows_later HS.out.2 st2.low) (shows_apart HS.out.2 st2.pd.1) (by omega)
      have HSP := Lib.hid hstp
      clear hrowb hbb hszb hrowc hothc hgc hszc hP st2 hstp HS1
      go_wp2_with fail
      (with_reducible refine (within6_any _ 7 _ (by decide) (by decide)).mono ?_)
      rintro _ wq ⟨rfl, rfl⟩
      rw [HK.out.2]
      go_wp2_with fail
      refine HSP.out.mono ?_
      rintro _ wd ⟨rfl, hfd, hgd⟩
      have st3 := H2.out.1.goF hfd hgd
      have hr3 := H2.out.2.grown hgd (by have := H2.out.1.pd; omega)
      have HXP := Lib.hid (xstop_any x m (1 + (T7 : Int)) A3 n3 cap3 mask wd st3.px (by omega) (shows_later HS.out.2 st3.low) (by omega))
      have H3 := Lib.hid (And.intro st3 hr3)
      clear hfd hgd st3 hr3 HSP H2
      go_wp2_with fail
      (with_reducible refine (within6_any _ 7 _ (by decide) (by decide)).mono ?_)
      rintro _ wq ⟨rfl, rfl⟩
      rw [HK.out.2]
      go_wp2_with fail
      refine HXP.out.mono ?_
      rintro _ we ⟨rfl, hxe, hge⟩
      have st4 := H3.out.1.goX hxe hge
      have hr4 := H3.out.2.grown hge (by have := H3.out.1.pd; omega)
      have hmk := mark_any f (stopM m (1 + (T7 : Int)) mask) 0 (sha a) we st4.pf (sha_len a) (by omega) (by omega)
      rw [HR.out.2.2.2, HBX.out.1] at hmk
      have HMK := Lib.hid hmk
      have HRS := Lib.hid (st4.sr.range 0 BX (fun j v hv => by rw [Nat.zero_add]; exact hv))
      have H4 := Lib.hid (And.intro st4 hr4)
      clear hxe hge st4 hr4 hmk HXP H3
      go_wp2_with (refine wpList_load_mid rfl 39 (.tmp 11) rfl S 0 rfl BX _ HRS.out Tryz.underlying39 rfl HIX.out ?_)
      refine HMK.out.mono ?_
      rintro _ wf ⟨rfl, hff, hgf⟩
      have st5 := H4.out.1.goF hff hgf
      have hr5 := H4.out.2.grown hgf (by have := H4.out.1.pd; omega)
      have hmk := xmark6_any x (stopM m (1 + (T7 : Int)) mask) 0 (sha a) wf st5.px (sha_len a) (by omega) (by omega)
      rw [HR.out.2.2.2, HBX.out.1] at hmk
      have HXM := Lib.hid hmk
      have HRA := Lib.hid (st5.sr.range 0 BX (fun j v hv => by rw [Nat.zero_add]; exact hv))
      have H5 := Lib.hid (And.intro st5 hr5)
      clear hff hgf st5 hr5 hmk HMK HRS H4
      go_wp2_with (refine wpList_load_mid rfl 39 (.tmp 11) rfl S 0 rfl BX _ HRA.out Tryz.underlying39 rfl HIX.out ?_)
      refine HXM.out.mono ?_
      rintro _ wg ⟨rfl, hxg, hgg⟩
      have st6 := H5.out.1.goX hxg hgg
      have hr6 := H5.out.2.grown hgg (by have := H5.out.1.pd; omega)
      have HSA := Lib.hid (start_any f m' wg st6.pf)
      have H6 := Lib.hid (And.intro st6 hr6)
      clear hxg hgg st6 hr6 HXM HRA H5
      go_wp2_with fail
      refine HSA.out.mono ?_
      rintro _ wh ⟨rfl, hfh, hgh⟩
      have st7 := H6.out.1.goF hfh hgh
      have hr7 := H6.out.2.grown hgh (by have := H6.out.1.pd; omega)
      have HXA := Lib.hid (xstart_any x m' wh st7.px)
      have H7 := Lib.hid (And.intro st7 hr7)
      clear hfh hgh st7 hr7 HSA H6
      go_wp2_with fail
      refine HXA.out.mono ?_
      rintro _ wi ⟨rfl, hxi, hgi⟩
      have st8 := H7.out.1.goX hxi hgi
      have hr8 := H7.out.2.grown hgi (by have := H7.out.1.pd; omega)
      have hbo := boot_any f (startM m') wi st8.pf (HT.out.below st8.low)
      have HBO := Lib.hid hbo
      have H8 := Lib.hid (And.intro st8 hr8)
      clear hxi hgi st8 hr8 hbo HXA H7
      go_wp2_with fail
      refine HBO.out.mono ?_
      intro r9 wj hB9
      obtain ⟨A9, n9, c9, rfl, hbj⟩ := booted_out hB9 HE.out.2.1 HE.out.2.2.2.1
      have st9 := H8.out.1.below hbj
      have hr9 := H8.out.2.below hbj H8.out.2.lt
      have H9 := Lib.hid (And.intro st9 hr9)
      clear hbj st9 hr9 HBO H8
      go_wp2_with (refine wpList_alloc_row rfl 45 rfl Z HZ.out.1 ?_)
      intro wk hrowk hbk hszk
      go_wp2_with (refine wpList_store_as rfl _ _ _ rfl wj.heap.size CN rfl rfl 45 Z hrowk HIN.out.1 HZ.out.2.2.2 HO.out.2 ?_)
      intro wl hrowl hothl hgl hszl
      obtain ⟨Q, hQ⟩ : ∃ P, wj.heap.size = P := ⟨_, rfl⟩
      have hPQ : P < Q := by have := H9.out.2.lt; omega
      have hbl : Below wj.heap.size wj wl := step_grow hbk hgl (Nat.le_refl _)
      rw [hQ] at hrowl ⊢
      have st10 := H9.out.1.below hbl
      have hr10 := H9.out.2.below hbl H9.out.2.lt
      have hbo := fun W hrf => xboot_any x (startM m') W hrf
      have HXB := Lib.hid hbo
      have H10 := Lib.hid (And.intro st10 (And.intro hr10 hrowl))
      clear hrowk hbk hszk hrowl hothl hgl hszl hQ hbl st10 hr10 hbo H9
      go_wp2_with fail
      refine (HXB.out _ H10.out.1.px).mono ?_
      intro r10 wm hB10
      obtain ⟨A10, n10, c10, rfl, hbm⟩ := booted_out hB10 HE.out.2.1 HE.out.2.2.2.1
      have st11 := H10.out.1.below hbm
      have hr11 := H10.out.2.1.below hbm H10.out.2.1.lt
      have hq11 := H10.out.2.2.below hbm H10.out.2.2.lt
      have H11 := Lib.hid (And.intro st11 (And.intro hr11 hq11))
      clear hbm st11 hr11 hq11 H10
      go_wp2_with (refine wpList_alloc_row rfl 49 rfl Z HZ.out.2.1 ?_)
      intro wn hrown hbn hszn
      go_wp2_with (refine wpList_store_as rfl _ _ _ rfl wm.heap.size CN rfl rfl 49 Z hrown HIG.out.1 HZ.out.2.2.2 HO.out.2 ?_)
      intro wo hrowo hotho hgo hszo
      obtain ⟨G, hG⟩ : ∃ P, wm.heap.size = P := ⟨_, rfl⟩
      have hQG : Q < G := by have := H11.out.2.2.lt; omega
      have hbo : Below wm.heap.size wm wo := step_grow hbn hgo (Nat.le_refl _)
      rw [hG] at hrowo ⊢
      have H12 := Lib.hid (And.intro (H11.out.1.below hbo) (And.intro (H11.out.2.1.below hbo H11.out.2.1.lt) (And.intro (H11.out.2.2.below hbo H11.out.2.2.lt) hrowo)))
      clear hrown hbn hszn hrowo hotho hgo hszo hG hbo H11
      go_wp2_with fail
      have hof := fun W => of_any now W HE.out.2.2.2.2.2
      have hofw := fun W => of_any was W HE.out.2.2.2.2.1
      have hnn := xent_neq now now HE.out.2.2.2.2.2 HE.out.2.2.2.2.2
      have hnw := xent_neq now was HE.out.2.2.2.2.2 HE.out.2.2.2.2.1
      have hnq := ent_eql now was HE.out.2.2.2.2.2 HE.out.2.2.2.2.1
      rw [same_ent] at hnn
      rw [sameE_refl, Bool.not_true] at hnn
      have hdd := same_ent now was
      rw [hdd] at hnw
      rw [hdd] at hnq
      rw [HE.out.2.2.2.1] at hof hnn hnw hnq
      rw [HE.out.2.2.1] at hofw hnw hnq
      have HOF := Lib.hid (And.intro hof hofw)
      have HNN := Lib.hid hnn
      have HNW := Lib.hid (And.intro hnw hnq)
      have hQl := H12.out.2.2.1.lt
      have hGl := H12.out.2.2.2.lt
      have hS0 : wo.drew.rangeAt Q 0 CN ∧ wo.drew.rangeAt G 0 CN := ⟨H12.out.2.2.1.range 0 CN (fun j v hv => by rw [Nat.zero_add]; exact hv), H12.out.2.2.2.range 0 CN (fun j v hv => by rw [Nat.zero_add]; exact hv)⟩
      clear hof hofw hnn hnw hnq hdd hB8 hB9 hB10
      refine wp_region_held_drew (S := fun U => U.rangeAt Q 0 CN ∧ U.rangeAt G 0 CN) (by kernel_rfl) hS0 (fun hH0 => ?_)
      refine wpAnyH_take (i := 0) (v := .agg CN.toArray) rfl (by kernel_rfl) (by kernel_rfl) (by kernel_rfl) (fun _ _ _ h => h) (yieldsIf_load_mid rfl 45 (.tmp 16) rfl Q 0 rfl CN _ (fun U hU => hU.1) Tryz.underlying45 rfl HIN.out.1) (by assumption) ?_
      try simp only [Act.put, List.getElem_toArray, List.getElem_cons_zero, List.setIfInBounds_toArray, List.set_cons_zero, List.set_cons_succ]
      refine wpAnyH_take (i := 2) (v := .agg CN.toArray) rfl (by kernel_rfl) (by kernel_rfl) (by kernel_rfl) (fun _ _ _ h => h) (yieldsIf_load_mid rfl 49 (.tmp 18) rfl G 0 rfl CN _ (fun U hU => hU.2) Tryz.underlying49 rfl HIG.out.1) (by assumption) ?_
      try simp only [Act.put, List.getElem_toArray, List.getElem_cons_succ, List.getElem_cons_zero, List.setIfInBounds_toArray, List.set_cons_zero, List.set_cons_succ]
      refine wpAnyH_ready (rs := [1]) (by kernel_rfl) (by simp) ?_
      refine AllReadyH.cons rfl (fun K hK => ?_) AllReadyH.nil
      go_simp
      refine (HOF.out.1 _).mono ?_
      rintro _ wp ⟨rfl, hbp⟩
      have hbop : Below wo.heap.size wo wp := ⟨hbp.os, hbp.tape, hbp.output, hbp.size, hbp.block⟩
      have hSp : wp.rangeAt Q 0 CN ∧ wp.rangeAt G 0 CN := ⟨range_over hS0.1 hbp hQl, range_over hS0.2 hbp hGl⟩
      go_wp2_with fail
      refine hK.out _ _ hSp (fun _ => ?_)
      clear hK K
      try simp only [Act.put, List.getElem_toArray, List.getElem_cons_succ, List.getElem_cons_zero, List.setIfInBounds_toArray, List.set_cons_zero, List.set_cons_succ]
      have hne := HNN.out
      refine wpAnyH_take (i := 3) (v := ?_) rfl (by kernel_rfl) (by kernel_rfl) (by kernel_rfl) (fun _ _ _ h => h) (Or.inl ⟨by rfl, ?_⟩) (by assumption) ?_
      rotate_left
      · intro w' hS'; go_simp; try exact rfl
      try simp only [Act.put, List.getElem_toArray, List.getElem_cons_succ, List.getElem_cons_zero, List.setIfInBounds_toArray, List.set_cons_zero, List.set_cons_succ]
      refine wpAnyH_done (by kernel_rfl) ?_ _
      have H13 := Lib.hid (show St6 w wp f x S BX (startM m') (startM m') ∧ Row wp P 45 CW ∧ Row wp Q 45 CN from
        ⟨H12.out.1.below hbop, H12.out.2.1.below hbop H12.out.2.1.lt, H12.out.2.2.1.below hbop hQl⟩)
      clear hS0 hH0 hbp hbop hSp hne hQl hGl HNN H12
      go_wp2_with fail
      refine (HXB.out _ H13.out.1.px).mono ?_
      intro r11 wr2 hB11
      obtain ⟨A11, n11, c11, rfl, hbr⟩ := booted_out hB11 HE.out.2.1 HE.out.2.2.2.1
      have H14 := Lib.hid (And.intro (H13.out.1.below hbr) (And.intro (H13.out.2.1.below hbr H13.out.2.1.lt) (H13.out.2.2.below hbr H13.out.2.2.lt)))
      clear hbr H13 hB11 HXB
      go_wp2_with (refine wpList_alloc_row rfl 49 rfl Z HZ.out.2.1 ?_)
      intro ws hrows hbs hszs
      go_wp2_with (refine wpList_store_as rfl _ _ _ rfl wr2.heap.size CN rfl rfl 49 Z hrows HIG.out.1 HZ.out.2.2.2 HO.out.2 ?_)
      intro wt hrowt hotht hgt hszt
      obtain ⟨G2, hG2⟩ : ∃ P, wr2.heap.size = P := ⟨_, rfl⟩
      have hbt : Below wr2.heap.size wr2 wt := step_grow hbs hgt (Nat.le_refl _)
      rw [hG2] at hrowt ⊢
      have H15 := Lib.hid (And.intro (H14.out.1.below hbt) (And.intro (H14.out.2.1.below hbt H14.out.2.1.lt) (And.intro (H14.out.2.2.below hbt H14.out.2.2.lt) hrowt)))
      clear hrows hbs hszs hrowt hotht hgt hszt hG2 hbt H14
      go_wp2_with fail
      obtain ⟨ns, hns⟩ : ∃ v, now.seq = v := ⟨_, rfl⟩
      obtain ⟨k1, hk1⟩ : ∃ v, was.seq = v := ⟨_, rfl⟩
      have hk1b : 1 ≤ k1 := by have := HR.out.1; omega
      have hk1c : k1 ≤ 41 := by have := HR.out.1; omega
      obtain ⟨nl, hnl⟩ : ∃ v, now.slot = v := ⟨_, rfl⟩
      have hcn0 : CN[0]? = some (.int .i64 ns) := by rw [← HE.out.2.2.2.1, ← hns]; rfl
      have hcn1 : CN[1]? = some (.int .i64 nl) := by rw [← HE.out.2.2.2.1, ← hnl]; rfl
      have hcw0 : CW[0]? = some (.int .i64 k1) := by rw [← HE.out.2.2.1, ← hk1]; rfl
      have hS0 : wt.drew.rangeAt G2 0 CN ∧ wt.drew.rangeAt P 0 CW ∧ wt.drew.cell? ⟨G2, 0, none⟩ = some (.int .i64 ns) ∧ wt.drew.cell? ⟨G2, 1, none⟩ = some (.int .i64 nl) ∧ wt.drew.cell? ⟨P, 0, none⟩ = some (.int .i64 k1) :=
        ⟨H15.out.2.2.2.range 0 CN (fun j v hv => by rw [Nat.zero_add]; exact hv), H15.out.2.1.range 0 CW (fun j v hv => by rw [Nat.zero_add]; exact hv), H15.out.2.2.2.cell hcn0, H15.out.2.2.2.cell hcn1, H15.out.2.1.cell hcw0⟩
      have HCE := Lib.hid (And.intro hcn0 (And.intro hcn1 (And.intro hcw0 (And.intro hns (And.intro hnl hk1)))))
      have hG2l := H15.out.2.2.2.lt
      have hPl := H15.out.2.1.lt
      clear hcn0 hcn1 hcw0 hns hnl hk1
      refine wp_region_held_drew (S := fun U => U.rangeAt G2 0 CN ∧ U.rangeAt P 0 CW ∧ U.cell? ⟨G2, 0, none⟩ = some (.int .i64 ns) ∧ U.cell? ⟨G2, 1, none⟩ = some (.int .i64 nl) ∧ U.cell? ⟨P, 0, none⟩ = some (.int .i64 k1)) (by kernel_rfl) hS0 (fun hH0 => ?_)
      refine wpAnyH_take (i := 0) (v := .agg CN.toArray) rfl (by kernel_rfl) (by kernel_rfl) (by kernel_rfl) (fun _ _ _ h => h) (yieldsIf_load_mid rfl 49 (.tmp 20) rfl G2 0 rfl CN _ (fun U hU => hU.1) Tryz.underlying49 rfl HIG.out.1) (by assumption) ?_
      try simp only [Act.put, List.getElem_toArray, List.getElem_cons_zero, List.setIfInBounds_toArray, List.set_cons_zero, List.set_cons_succ]
      refine wpAnyH_take (i := 1) (v := .agg CW.toArray) rfl (by kernel_rfl) (by kernel_rfl) (by kernel_rfl) (fun _ _ _ h => h) (yieldsIf_load_mid rfl 45 (.tmp 13) rfl P 0 rfl CW _ (fun U hU => hU.2.1) Tryz.underlying45 rfl HIW.out.1) (by assumption) ?_
      try simp only [Act.put, List.getElem_toArray, List.getElem_cons_succ, List.getElem_cons_zero, List.setIfInBounds_toArray, List.set_cons_zero, List.set_cons_succ]
      refine wpAnyH_ready (rs := [2]) (by kernel_rfl) (by simp) ?_
      refine AllReadyH.cons rfl (fun K hK => ?_) AllReadyH.nil
      go_simp
      refine (HOF.out.2 _).mono ?_
      rintro _ wu ⟨rfl, hbu⟩
      have hbtu : Below wt.heap.size wt wu := ⟨hbu.os, hbu.tape, hbu.output, hbu.size, hbu.block⟩
      have hSu : wu.rangeAt G2 0 CN ∧ wu.rangeAt P 0 CW ∧ wu.cell? ⟨G2, 0, none⟩ = some (.int .i64 ns) ∧ wu.cell? ⟨G2, 1, none⟩ = some (.int .i64 nl) ∧ wu.cell? ⟨P, 0, none⟩ = some (.int .i64 k1) :=
        ⟨range_over hS0.1 hbu hG2l, range_over hS0.2.1 hbu hPl, (hbu.cell (p := ⟨G2, 0, none⟩) hG2l).trans hS0.2.2.1, (hbu.cell (p := ⟨G2, 1, none⟩) hG2l).trans hS0.2.2.2.1, (hbu.cell (p := ⟨P, 0, none⟩) hPl).trans hS0.2.2.2.2⟩
      go_wp2_with fail
      refine hK.out _ _ hSu (fun _ => ?_)
      clear hK K
      try simp only [Act.put, List.getElem_toArray, List.getElem_cons_succ, List.getElem_cons_zero, List.setIfInBounds_toArray, List.set_cons_zero, List.set_cons_succ]
      have HB5 := Lib.hid (show St6 w wu f x S BX (startM m') (startM m') ∧ Row wu P 45 CW ∧ Row wu Q 45 CN from
        ⟨H15.out.1.below hbtu, H15.out.2.1.below hbtu hPl, H15.out.2.2.1.below hbtu H15.out.2.2.1.lt⟩)
      have hnw := HNW.out.1
      have hnq0 := HNW.out.2
      obtain ⟨sb, hsb⟩ : ∃ b, sameE now was = b := ⟨_, rfl⟩
      rw [hsb] at hnw hnq0
      have HNQ := Lib.hid hnq0
      clear hS0 hH0 hbu hbtu hG2l hPl H15 HNW HOF hnq0
      cases sb with
      | true =>
        have hsm := sameE_yes hsb
        rw [Bool.not_true] at hnw
        clear hsb
        refine wpAnyH_take (i := 3) (v := ?_) rfl (by kernel_rfl) (by kernel_rfl) (by kernel_rfl) (fun _ _ _ h => h) (Or.inl ⟨by rfl, ?_⟩) (by assumption) ?_
        rotate_left
        · intro w' hS'; go_simp; try exact rfl
        try simp only [Act.put, List.getElem_toArray, List.getElem_cons_succ, List.getElem_cons_zero, List.setIfInBounds_toArray, List.set_cons_zero, List.set_cons_succ]
        refine wpAnyH_take (i := 4) (v := ?_) rfl (by kernel_rfl) (by kernel_rfl) (by kernel_rfl) (fun _ _ _ h => h) (Or.inl ⟨by rfl, ?_⟩) (by assumption) ?_
        rotate_left
        · intro w' hS'; go_simp; try exact rfl
        try simp only [Act.put, List.getElem_toArray, List.getElem_cons_succ, List.getElem_cons_zero, List.setIfInBounds_toArray, List.set_cons_zero, List.set_cons_succ]
        refine wpAnyH_take (i := 5) (v := undef) rfl (by kernel_rfl) (by kernel_rfl) (by kernel_rfl) (fun _ _ _ h => h) (Or.inr ⟨by rfl, rfl⟩) (by assumption) ?_
        try simp only [Act.put, List.getElem_toArray, List.getElem_cons_succ, List.getElem_cons_zero, List.setIfInBounds_toArray, List.set_cons_zero, List.set_cons_succ]
        refine wpAnyH_take (i := 6) (v := undef) rfl (by kernel_rfl) (by kernel_rfl) (by kernel_rfl) (fun _ _ _ h => h) (Or.inr ⟨by rfl, rfl⟩) (by assumption) ?_
        try simp only [Act.put, List.getElem_toArray, List.getElem_cons_succ, List.getElem_cons_zero, List.setIfInBounds_toArray, List.set_cons_zero, List.set_cons_succ]
        refine wpAnyH_take (i := 7) (v := undef) rfl (by kernel_rfl) (by kernel_rfl) (by kernel_rfl) (fun _ _ _ h => h) (Or.inr ⟨by rfl, rfl⟩) (by assumption) ?_
        try simp only [Act.put, List.getElem_toArray, List.getElem_cons_succ, List.getElem_cons_zero, List.setIfInBounds_toArray, List.set_cons_zero, List.set_cons_succ]
        refine wpAnyH_take (i := 8) (v := undef) rfl (by kernel_rfl) (by kernel_rfl) (by kernel_rfl) (fun _ _ _ h => h) (Or.inr ⟨by rfl, rfl⟩) (by assumption) ?_
        try simp only [Act.put, List.getElem_toArray, List.getElem_cons_succ, List.getElem_cons_zero, List.setIfInBounds_toArray, List.set_cons_zero, List.set_cons_succ]
        refine wpAnyH_take (i := 9) (v := undef) rfl (by kernel_rfl) (by kernel_rfl) (by kernel_rfl) (fun _ _ _ h => h) (Or.inr ⟨by rfl, rfl⟩) (by assumption) ?_
        try simp only [Act.put, List.getElem_toArray, List.getElem_cons_succ, List.getElem_cons_zero, List.setIfInBounds_toArray, List.set_cons_zero, List.set_cons_succ]
        refine wpAnyH_take (i := 10) (v := undef) rfl (by kernel_rfl) (by kernel_rfl) (by kernel_rfl) (fun _ _ _ h => h) (Or.inr ⟨by rfl, rfl⟩) (by assumption) ?_
        try simp only [Act.put, List.getElem_toArray, List.getElem_cons_succ, List.getElem_cons_zero, List.setIfInBounds_toArray, List.set_cons_zero, List.set_cons_succ]
        refine wpAnyH_take (i := 11) (v := undef) rfl (by kernel_rfl) (by kernel_rfl) (by kernel_rfl) (fun _ _ _ h => h) (Or.inr ⟨by rfl, rfl⟩) (by assumption) ?_
        try simp only [Act.put, List.getElem_toArray, List.getElem_cons_succ, List.getElem_cons_zero, List.setIfInBounds_toArray, List.set_cons_zero, List.set_cons_succ]
        refine wpAnyH_take (i := 12) (v := undef) rfl (by kernel_rfl) (by kernel_rfl) (by kernel_rfl) (fun _ _ _ h => h) (Or.inr ⟨by rfl, rfl⟩) (by assumption) ?_
        try simp only [Act.put, List.getElem_toArray, List.getElem_cons_succ, List.getElem_cons_zero, List.setIfInBounds_toArray, List.set_cons_zero, List.set_cons_succ]
        refine wpAnyH_take (i := 13) (v := undef) rfl (by kernel_rfl) (by kernel_rfl) (by kernel_rfl) (fun _ _ _ h => h) (Or.inr ⟨by rfl, rfl⟩) (by assumption) ?_
        try simp only [Act.put, List.getElem_toArray, List.getElem_cons_succ, List.getElem_cons_zero, List.setIfInBounds_toArray, List.set_cons_zero, List.set_cons_succ]
        refine wpAnyH_take (i := 14) (v := undef) rfl (by kernel_rfl) (by kernel_rfl) (by kernel_rfl) (fun _ _ _ h => h) (Or.inr ⟨by rfl, rfl⟩) (by assumption) ?_
        try simp only [Act.put, List.getElem_toArray, List.getElem_cons_succ, List.getElem_cons_zero, List.setIfInBounds_toArray, List.set_cons_zero, List.set_cons_succ]
        refine wpAnyH_take (i := 15) (v := undef) rfl (by kernel_rfl) (by kernel_rfl) (by kernel_rfl) (fun _ _ _ h => h) (Or.inr ⟨by rfl, rfl⟩) (by assumption) ?_
        try simp only [Act.put, List.getElem_toArray, List.getElem_cons_succ, List.getElem_cons_zero, List.setIfInBounds_toArray, List.set_cons_zero, List.set_cons_succ]
        refine wpAnyH_take (i := 16) (v := ?_) rfl (by kernel_rfl) (by kernel_rfl) (by kernel_rfl) (fun _ _ _ h => h) (Or.inl ⟨by rfl, ?_⟩) (by assumption) ?_
        rotate_left
        · intro w' hS'; go_simp; try exact rfl
        try simp only [Act.put, List.getElem_toArray, List.getElem_cons_succ, List.getElem_cons_zero, List.setIfInBounds_toArray, List.set_cons_zero, List.set_cons_succ]
        refine wpAnyH_done (by kernel_rfl) ?_ _
        clear hSu hnw
        have hr : r ≠ 0 := fun h0 => by
          have h1 := HR.out.2.2.1 h0
          have h2 := HR.out.1
          rw [← hsm, h1] at h2
          simp only at h2
          omega
        have HRW := Lib.hid (And.intro (HB5.out.2.2.range 0 CN (fun j v hv => by rw [Nat.zero_add]; exact hv)) (HB5.out.2.1.range 0 CW (fun j v hv => by rw [Nat.zero_add]; exact hv)))
        have HLO := Lib.hid HB5.out.1.low
        have hnq := HNQ.out
        clear hsm HB5 HNQ
        go_wp2_with (first
          | (refine wpList_load_mid rfl 45 (.tmp 16) rfl Q 0 rfl CN _ HRW.out.1 Tryz.underlying45 rfl HIN.out.1 ?_)
          | (refine wpList_load_mid rfl 45 (.tmp 13) rfl P 0 rfl CW _ HRW.out.2 Tryz.underlying45 rfl HIW.out.1 ?_))
        go_ret
        exact ⟨rfl, HLO.out⟩
      | false =>
        rw [Bool.not_false] at hnw
        have hw1 : IntKind.i64.wrap (k1 + 1) = k1 + 1 := by rw [IntKind.wrap_i64]; omega
        refine wpAnyH_take (i := 3) (v := ?_) rfl (by kernel_rfl) (by kernel_rfl) (by kernel_rfl) (fun _ _ _ h => h) (Or.inl ⟨by rfl, ?_⟩) (by assumption) ?_
        rotate_left
        · intro w' hS'; go_simp; try exact rfl
        try simp only [Act.put, List.getElem_toArray, List.getElem_cons_succ, List.getElem_cons_zero, List.setIfInBounds_toArray, List.set_cons_zero, List.set_cons_succ]
        refine wpAnyH_take (i := 4) (v := ?_) rfl (by kernel_rfl) (by kernel_rfl) (by kernel_rfl) (fun _ _ _ h => h) (Or.inl ⟨by rfl, ?_⟩) (by assumption) ?_
        rotate_left
        · intro w' hS'; go_simp; try exact rfl
        try simp only [Act.put, List.getElem_toArray, List.getElem_cons_succ, List.getElem_cons_zero, List.setIfInBounds_toArray, List.set_cons_zero, List.set_cons_succ]
        refine wpAnyH_take (i := 5) (v := ?_) rfl (by kernel_rfl) (by kernel_rfl) (by kernel_rfl) (fun _ _ _ h => h) (Or.inl ⟨by rfl, ?_⟩) (by assumption) ?_
        rotate_left
        · intro w' hS'; go_simp; try exact rfl
        try simp only [Act.put, List.getElem_toArray, List.getElem_cons_succ, List.getElem_cons_zero, List.setIfInBounds_toArray, List.set_cons_zero, List.set_cons_succ]
        refine wpAnyH_take (i := 6) (v := ?_) rfl (by kernel_rfl) (by kernel_rfl) (by kernel_rfl) (fun _ _ _ h => h) (Or.inl ⟨by rfl, ?_⟩) (by assumption) ?_
        rotate_left
        · intro w' hS'; obtain ⟨_, _, e1, e2, e3⟩ := hS'; go_simp; try exact rfl
        try simp only [Act.put, List.getElem_toArray, List.getElem_cons_succ, List.getElem_cons_zero, List.setIfInBounds_toArray, List.set_cons_zero, List.set_cons_succ]
        refine wpAnyH_take (i := 7) (v := ?_) rfl (by kernel_rfl) (by kernel_rfl) (by kernel_rfl) (fun _ _ _ h => h) (Or.inl ⟨by rfl, ?_⟩) (by assumption) ?_
        rotate_left
        · intro w' hS'; go_simp; try exact rfl
        try simp only [Act.put, List.getElem_toArray, List.getElem_cons_succ, List.getElem_cons_zero, List.setIfInBounds_toArray, List.set_cons_zero, List.set_cons_succ]
        refine wpAnyH_take (i := 8) (v := ?_) rfl (by kernel_rfl) (by kernel_rfl) (by kernel_rfl) (fun _ _ _ h => h) (Or.inl ⟨by rfl, ?_⟩) (by assumption) ?_
        rotate_left
        · intro w' hS'; obtain ⟨_, _, e1, e2, e3⟩ := hS'; go_simp; try exact rfl
        try simp only [Act.put, List.getElem_toArray, List.getElem_cons_succ, List.getElem_cons_zero, List.setIfInBounds_toArray, List.set_cons_zero, List.set_cons_succ]
        refine wpAnyH_take (i := 9) (v := ?_) rfl (by kernel_rfl) (by kernel_rfl) (by kernel_rfl) (fun _ _ _ h => h) (Or.inl ⟨by rfl, ?_⟩) (by assumption) ?_
        rotate_left
        · intro w' hS'; go_simp; try exact rfl
        try simp only [Act.put, List.getElem_toArray, List.getElem_cons_succ, List.getElem_cons_zero, List.setIfInBounds_toArray, List.set_cons_zero, List.set_cons_succ]
        by_cases hsq : ns = k1 + 1
        · subst hsq
          refine wpAnyH_take (i := 10) (v := ?_) rfl (by kernel_rfl) (by kernel_rfl) (by kernel_rfl) (fun _ _ _ h => h) (Or.inl ⟨by rfl, ?_⟩) (by assumption) ?_
          rotate_left
          · intro w' hS'; go_simp; try exact rfl
          try simp only [Act.put, List.getElem_toArray, List.getElem_cons_succ, List.getElem_cons_zero, List.setIfInBounds_toArray, List.set_cons_zero, List.set_cons_succ]
          refine wpAnyH_take (i := 11) (v := ?_) rfl (by kernel_rfl) (by kernel_rfl) (by kernel_rfl) (fun _ _ _ h => h) (Or.inl ⟨by rfl, ?_⟩) (by assumption) ?_
          rotate_left
          · intro w' hS'; go_simp; try exact rfl
          try simp only [Act.put, List.getElem_toArray, List.getElem_cons_succ, List.getElem_cons_zero, List.setIfInBounds_toArray, List.set_cons_zero, List.set_cons_succ]
          refine wpAnyH_take (i := 12) (v := ?_) rfl (by kernel_rfl) (by kernel_rfl) (by kernel_rfl) (fun _ _ _ h => h) (Or.inl ⟨by rfl, ?_⟩) (by assumption) ?_
          rotate_left
          · intro w' hS'; go_simp; try exact rfl
          try simp only [Act.put, List.getElem_toArray, List.getElem_cons_succ, List.getElem_cons_zero, List.setIfInBounds_toArray, List.set_cons_zero, List.set_cons_succ]
          refine wpAnyH_take (i := 13) (v := ?_) rfl (by kernel_rfl) (by kernel_rfl) (by kernel_rfl) (fun _ _ _ h => h) (Or.inl ⟨by rfl, ?_⟩) (by assumption) ?_
          rotate_left
          · intro w' hS'; obtain ⟨_, _, e1, e2, e3⟩ := hS'; go_simp; try exact rfl
          try simp only [Act.put, List.getElem_toArray, List.getElem_cons_succ, List.getElem_cons_zero, List.setIfInBounds_toArray, List.set_cons_zero, List.set_cons_succ]
          by_cases hz0 : nl = 0
          · subst hz0
            refine wpAnyH_take (i := 14) (v := ?_) rfl (by kernel_rfl) (by kernel_rfl) (by kernel_rfl) (fun _ _ _ h => h) (Or.inl ⟨by rfl, ?_⟩) (by assumption) ?_
            rotate_left
            · intro w' hS'; go_simp; try exact rfl
            try simp only [Act.put, List.getElem_toArray, List.getElem_cons_succ, List.getElem_cons_zero, List.setIfInBounds_toArray, List.set_cons_zero, List.set_cons_succ]
            refine wpAnyH_take (i := 15) (v := ?_) rfl (by kernel_rfl) (by kernel_rfl) (by kernel_rfl) (fun _ _ _ h => h) (Or.inl ⟨by rfl, ?_⟩) (by assumption) ?_
            rotate_left
            · intro w' hS'; go_simp; try exact rfl
            try simp only [Act.put, List.getElem_toArray, List.getElem_cons_succ, List.getElem_cons_zero, List.setIfInBounds_toArray, List.set_cons_zero, List.set_cons_succ]
            refine wpAnyH_take (i := 16) (v := ?_) rfl (by kernel_rfl) (by kernel_rfl) (by kernel_rfl) (fun _ _ _ h => h) (Or.inl ⟨by rfl, ?_⟩) (by assumption) ?_
            rotate_left
            · intro w' hS'; go_simp; try exact rfl
            try simp only [Act.put, List.getElem_toArray, List.getElem_cons_succ, List.getElem_cons_zero, List.setIfInBounds_toArray, List.set_cons_zero, List.set_cons_succ]
            refine wpAnyH_done (by kernel_rfl) ?_ _
            have hsum : now.sum = sha a := HR.out.2.1 HCE.out.2.2.2.2.1
            have hrq : wu.rangeAt Q 2 BX := by
              have h := HB5.out.2.2
              rw [← HE.out.2.2.2.1] at h
              have h2 := row_sum h
              rwa [hsum, HBX.out.1] at h2
            have hq39 := hash_eql2 (sha a) (sha a) (sha_len a) (sha_len a)
            rw [HBX.out.1, decide_eq_true rfl] at hq39
            have c0 : wu.cell? ⟨Q, 0, none⟩ = some (.int .i64 (k1 + 1)) := HB5.out.2.2.cell HCE.out.1
            have c1 : wu.cell? ⟨Q, 1, none⟩ = some (.int .i64 0) := HB5.out.2.2.cell HCE.out.2.1
            have c2 : wu.cell? ⟨P, 0, none⟩ = some (.int .i64 k1) := HB5.out.2.1.cell HCE.out.2.2.1
            have HRW := Lib.hid (And.intro (HB5.out.2.2.range 0 CN (fun j v hv => by rw [Nat.zero_add]; exact hv)) (And.intro (HB5.out.2.1.range 0 CW (fun j v hv => by rw [Nat.zero_add]; exact hv)) (And.intro hrq (HB5.out.1.sr.range 0 BX (fun j v hv => by rw [Nat.zero_add]; exact hv)))))
            have HLO := Lib.hid HB5.out.1.low
            have hnq := HNQ.out
            clear hsum hrq hSu hnw HB5 HNQ hsb
            go_wp2_with (first
              | (refine wpList_load_mid rfl 45 (.tmp 16) rfl Q 0 rfl CN _ HRW.out.1 Tryz.underlying45 rfl HIN.out.1 ?_)
              | (refine wpList_load_mid rfl 45 (.tmp 13) rfl P 0 rfl CW _ HRW.out.2.1 Tryz.underlying45 rfl HIW.out.1 ?_)
              | (refine wpList_load_mid_g rfl 39 (.tmp 154) rfl Q 2 rfl BX _ HRW.out.2.2.1 Tryz.underlying39 rfl HIX.out ?_)
              | (refine wpList_load_mid_g rfl 39 (.tmp 11) rfl S 0 rfl BX _ HRW.out.2.2.2 Tryz.underlying39 rfl HIX.out ?_))
            go_ret
            exact ⟨rfl, HLO.out⟩
          · have hzb : (nl == 0) = false := by simpa using hz0
            have hzb2 : (nl != 0) = true := by simpa using hz0
            refine wpAnyH_take (i := 14) (v := ?_) rfl (by kernel_rfl) (by kernel_rfl) (by kernel_rfl) (fun _ _ _ h => h) (Or.inl ⟨by rfl, ?_⟩) (by assumption) ?_
            rotate_left
            · intro w' hS'; go_simp; try exact rfl
            try simp only [Act.put, List.getElem_toArray, List.getElem_cons_succ, List.getElem_cons_zero, List.setIfInBounds_toArray, List.set_cons_zero, List.set_cons_succ]
            refine wpAnyH_take (i := 15) (v := ?_) rfl (by kernel_rfl) (by kernel_rfl) (by kernel_rfl) (fun _ _ _ h => h) (Or.inl ⟨by rfl, ?_⟩) (by assumption) ?_
            rotate_left
            · intro w' hS'; go_simp; try exact rfl
            try simp only [Act.put, List.getElem_toArray, List.getElem_cons_succ, List.getElem_cons_zero, List.setIfInBounds_toArray, List.set_cons_zero, List.set_cons_succ]
            refine wpAnyH_take (i := 16) (v := ?_) rfl (by kernel_rfl) (by kernel_rfl) (by kernel_rfl) (fun _ _ _ h => h) (Or.inl ⟨by rfl, ?_⟩) (by assumption) ?_
            rotate_left
            · intro w' hS'; go_simp; try exact rfl
            try simp only [Act.put, List.getElem_toArray, List.getElem_cons_succ, List.getElem_cons_zero, List.setIfInBounds_toArray, List.set_cons_zero, List.set_cons_succ]
            refine wpAnyH_done (by kernel_rfl) ?_ _
            have HLO := Lib.hid HB5.out.1.low
            clear hSu hnw
            go_wp2_with fail
            go_ret
            exact ⟨rfl, HLO.out⟩
        · have hsqb : (ns == k1 + 1) = false := by simpa using hsq
          have hsqb2 : (ns != k1 + 1) = true := by simpa using hsq
          refine wpAnyH_take (i := 10) (v := ?_) rfl (by kernel_rfl) (by kernel_rfl) (by kernel_rfl) (fun _ _ _ h => h) (Or.inl ⟨by rfl, ?_⟩) (by assumption) ?_
          rotate_left
          · intro w' hS'; go_simp; try exact rfl
          try simp only [Act.put, List.getElem_toArray, List.getElem_cons_succ, List.getElem_cons_zero, List.setIfInBounds_toArray, List.set_cons_zero, List.set_cons_succ]
          refine wpAnyH_take (i := 11) (v := ?_) rfl (by kernel_rfl) (by kernel_rfl) (by kernel_rfl) (fun _ _ _ h => h) (Or.inl ⟨by rfl, ?_⟩) (by assumption) ?_
          rotate_left
          · intro w' hS'; go_simp; try exact rfl
          try simp only [Act.put, List.getElem_toArray, List.getElem_cons_succ, List.getElem_cons_zero, List.setIfInBounds_toArray, List.set_cons_zero, List.set_cons_succ]
          refine wpAnyH_take (i := 12) (v := undef) rfl (by kernel_rfl) (by kernel_rfl) (by kernel_rfl) (fun _ _ _ h => h) (Or.inr ⟨by rfl, rfl⟩) (by assumption) ?_
          try simp only [Act.put, List.getElem_toArray, List.getElem_cons_succ, List.getElem_cons_zero, List.setIfInBounds_toArray, List.set_cons_zero, List.set_cons_succ]
          refine wpAnyH_take (i := 13) (v := undef) rfl (by kernel_rfl) (by kernel_rfl) (by kernel_rfl) (fun _ _ _ h => h) (Or.inr ⟨by rfl, rfl⟩) (by assumption) ?_
          try simp only [Act.put, List.getElem_toArray, List.getElem_cons_succ, List.getElem_cons_zero, List.setIfInBounds_toArray, List.set_cons_zero, List.set_cons_succ]
          refine wpAnyH_take (i := 14) (v := undef) rfl (by kernel_rfl) (by kernel_rfl) (by kernel_rfl) (fun _ _ _ h => h) (Or.inr ⟨by rfl, rfl⟩) (by assumption) ?_
          try simp only [Act.put, List.getElem_toArray, List.getElem_cons_succ, List.getElem_cons_zero, List.setIfInBounds_toArray, List.set_cons_zero, List.set_cons_succ]
          refine wpAnyH_take (i := 15) (v := ?_) rfl (by kernel_rfl) (by kernel_rfl) (by kernel_rfl) (fun _ _ _ h => h) (Or.inl ⟨by rfl, ?_⟩) (by assumption) ?_
          rotate_left
          · intro w' hS'; go_simp; try exact rfl
          try simp only [Act.put, List.getElem_toArray, List.getElem_cons_succ, List.getElem_cons_zero, List.setIfInBounds_toArray, List.set_cons_zero, List.set_cons_succ]
          refine wpAnyH_take (i := 16) (v := ?_) rfl (by kernel_rfl) (by kernel_rfl) (by kernel_rfl) (fun _ _ _ h => h) (Or.inl ⟨by rfl, ?_⟩) (by assumption) ?_
          rotate_left
          · intro w' hS'; go_simp; try exact rfl
          try simp only [Act.put, List.getElem_toArray, List.getElem_cons_succ, List.getElem_cons_zero, List.setIfInBounds_toArray, List.set_cons_zero, List.set_cons_succ]
          refine wpAnyH_done (by kernel_rfl) ?_ _
          have HLO := Lib.hid HB5.out.1.low
          clear hSu hnw
          go_wp2_with fail
          go_ret
          exact ⟨rfl, HLO.out⟩
set_option maxHeartbeats 4000000 in
theorem slotsTorn_early (A : Option Addr) (n cap : Nat) (marks at0 : Int) (A3 : Option Addr) (n3 cap3 : Nat) (w : World) (hT : Tables w)
    (early : n = 0 ∨ (n ≠ 0 ∧ 200 < n) ∨ (n ≠ 0 ∧ n ≤ 200 ∧ 20 < n3)) (hn : n ≤ 9223372036854775807) (hn3 : n3 ≤ 9223372036854775807) :
    Calls Tryz.prog 4 #[.slice A n cap, .int .i64 marks, .int .i64 at0, .slice A3 n3 cap3] w fun e w' => e = .returned (.bool true) ∧ Below w.heap.size w w' := by
  have HT := Lib.hid hT
  clear hT
  rcases early with e0 | ⟨e0, e1⟩ | ⟨e0, e1, e2⟩
  · subst e0
    go_enter Tryz.func4, Tryz.ntmps4
    go_wp2_with fail
    (with_reducible refine (known6_any w HT.out).mono ?_)
    rintro _ w1 ⟨rfl, hb1⟩
    have HB1 := Lib.hid hb1
    clear hb1
    go_wp2_with fail
    all_goals (go_ret; exact ⟨rfl, HB1.out⟩)
  · have b0 : ((n : Int) == 0) = false := by simpa using e0
    have b1 : (200 : Int) < (n : Int) := by omega
    go_enter Tryz.func4, Tryz.ntmps4
    go_wp2_with fail
    (with_reducible refine (known6_any w HT.out).mono ?_)
    rintro _ w1 ⟨rfl, hb1⟩
    have HB1 := Lib.hid hb1
    clear hb1
    go_wp2_with fail
    all_goals (go_ret; exact ⟨rfl, HB1.out⟩)
  · have b0 : ((n : Int) == 0) = false := by simpa using e0
    have b1 : ¬ (200 : Int) < (n : Int) := by omega
    have b2 : (20 : Int) < (n3 : Int) := by omega
    go_enter Tryz.func4, Tryz.ntmps4
    go_wp2_with fail
    (with_reducible refine (known6_any w HT.out).mono ?_)
    rintro _ w1 ⟨rfl, hb1⟩
    have HB1 := Lib.hid hb1
    clear hb1
    go_wp2_with fail
    all_goals (go_ret; exact ⟨rfl, HB1.out⟩)
theorem slotsTorn_walk (A : Option Addr) (n cap : Nat) (a : List UInt8) (marks at0 : Int) (A3 : Option Addr) (n3 cap3 : Nat) (mask : List UInt8) (w : World) (hT : Tables w)
    (ha : Shows w w.heap.size A n cap a) (_hm : (Lit.int .i64 marks).wf = true) (_hat : (Lit.int .i64 at0).wf = true) (hk : Shows w w.heap.size A3 n3 cap3 mask) :
    Calls Tryz.prog 4 #[.slice A n cap, .int .i64 marks, .int .i64 at0, .slice A3 n3 cap3] w fun e w' => e = .returned (.bool true) ∧ Below w.heap.size w w' := by
  have hn : n ≤ 9223372036854775807 := by have := ha.le; have := ha.top; unfold maxLen at this; omega
  have hn3 : n3 ≤ 9223372036854775807 := by have := hk.le; have := hk.top; unfold maxLen at this; omega
  by_cases e0 : n = 0
  · exact slotsTorn_early A n cap marks at0 A3 n3 cap3 w hT (.inl e0) hn hn3
  · by_cases e1 : n ≤ 200
    · by_cases e2 : n3 ≤ 20
      · exact slotsTorn_good A n cap a marks at0 A3 n3 cap3 mask w hT ha hk e0 e1 e2
      · exact slotsTorn_early A n cap marks at0 A3 n3 cap3 w hT (.inr (.inr ⟨e0, e1, by omega⟩)) hn hn3
    · exact slotsTorn_early A n cap marks at0 A3 n3 cap3 w hT (.inr (.inl ⟨e0, by omega⟩)) hn hn3
end Go.Proofs.YtmebdnblobobnaaGreatDoor
