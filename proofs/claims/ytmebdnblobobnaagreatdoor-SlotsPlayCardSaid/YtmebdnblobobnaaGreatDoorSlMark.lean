/- Chapter 6: Store and Mark (the program's own functions). -/
import Derived.Test.YtmebdnblobobnaaGreatDoorSlBoot
import Derived.Test.YtmebdnblobobnaaGreatDoorSlBytes
namespace Go.Proofs.YtmebdnblobobnaaGreatDoor
set_option maxRecDepth 100000
open Go.RowKit _root_.Go.Proofs.YtmebdnblobobnaaGreatDoor.Wd _root_.Go.Proofs.YtmebdnblobobnaaGreatDoor.Nm _root_.Go.Proofs.YtmebdnblobobnaaGreatDoor.Cm _root_.Go.Proofs.YtmebdnblobobnaaGreatDoor.Fm _root_.Go.Proofs.YtmebdnblobobnaaGreatDoor.Sm

def renewM (m : Mem) (s : Int) (b : List UInt8) : Int × Mem := if (eraseM m s).1 ≠ 0 then eraseM m s else appendM (eraseM m s).2 s b
theorem shows_beside {w w' : World} {g : Nat} {A : Option Addr} {n cap : Nat} {l : List UInt8} (h : Shows w w.heap.size A n cap l) (hg : w.grownBy w' (some g)) (hne : ∀ p, A = some p → 0 < n → p.block ≠ g) : Shows w' w'.heap.size A n cap l :=
  ⟨h.len, h.le, h.top, fun hn => by
    obtain ⟨b, o, rfl, hb, hc⟩ := h.spot hn
    have h1 := hne _ rfl hn
    refine ⟨b, o, rfl, Nat.lt_of_lt_of_le hb hg.size, fun j hj => ?_⟩
    exact hg.cell (hc j hj) (by simp; exact h1)⟩

set_option maxHeartbeats 1000000 in
theorem renew_any (x : Nat) (m : Mem) (s : Int) (A : Option Addr) (n cap : Nat) (b : List UInt8) (w : World) (h : Fl w x m) (hb : Shows w w.heap.size A n cap b) (hn : n ≤ 1000000) (hne : ∀ p, A = some p → 0 < n → p.block ≠ x) :
    Calls Tryz.prog 31 #[.pointer (some ⟨x, 0, none⟩), .int .i64 s, .slice A n cap] w fun e w' => e = .returned (.int .i64 (renewM m s b).1) ∧ Fl w' x (renewM m s b).2 ∧ w.grownBy w' (some x) := by
  have HER := Lib.hid (erase_any x m s w h)
  have HH := Lib.hid (And.intro hb hne)
  have HM := Lib.hid (show renewM m s b = if (eraseM m s).1 ≠ 0 then eraseM m s else appendM (eraseM m s).2 s b from rfl)
  obtain ⟨RR, hRR⟩ : ∃ R, renewM m s b = R := ⟨_, rfl⟩
  rw [hRR] at HM ⊢
  clear h hb hne hRR
  generalize eraseM m s = q at HER HM
  obtain ⟨e, m1⟩ := q
  go_enter Tryz.func31, Tryz.ntmps31
  go_wp2_with fail
  refine HER.out.mono ?_
  rintro _ w1 ⟨rfl, hr1, hg1⟩
  have hs1 := shows_beside HH.out.1 hg1 HH.out.2
  have HAP := Lib.hid (append_any x m1 s A n cap b w1 hr1 hs1 hn)
  have HG := Lib.hid (And.intro hr1 hg1)
  clear hr1 hg1 hs1 HER
  by_cases he : e = 0
  · subst he
    have hR : RR = appendM m1 s b := by have := HM.out; simpa using this
    have HR := Lib.hid hR
    clear hR
    go_wp2_with fail
    refine HAP.out.mono ?_
    rintro _ w2 ⟨rfl, hr2, hg2⟩
    have hfin : w.grownBy w2 (some x) := HG.out.2.trans hg2
    go_wp2
    go_ret
    rw [HR.out]
    exact ⟨rfl, hr2, hfin⟩
  · have hbe : (e != 0) = true := by simpa using he
    have hR : RR = (e, m1) := by have := HM.out; rw [if_pos he] at this; exact this
    have HR := Lib.hid hR
    clear hR
    go_wp2
    go_ret
    rw [HR.out]
    exact ⟨rfl, HG.out.1, HG.out.2⟩

set_option maxHeartbeats 1000000 in
theorem store_any (x : Nat) (m : Mem) (slot : Int) (A : Option Addr) (n cap : Nat) (b : List UInt8) (w : World) (h : Fl w x m) (hb : Shows w w.heap.size A n cap b) (hn : n ≤ 1000000) (hne : ∀ p, A = some p → 0 < n → p.block ≠ x) :
    Calls Tryz.prog 12 #[.pointer (some ⟨x, 0, none⟩), .int .i64 slot, .slice A n cap] w fun e w' => e = .returned (.int .i64 (storeM m slot b).1) ∧ Fl w' x (storeM m slot b).2 ∧ w.grownBy w' (some x) := by
  have hbl := hb.len
  have HH := Lib.hid (And.intro h (And.intro hb hne))
  have HBL := Lib.hid hbl
  have HREN := Lib.hid (renew_any x m (2 + slot) A n cap b w h hb hn hne)
  obtain ⟨RR, hRR⟩ : ∃ R, storeM m slot b = R := ⟨_, rfl⟩
  have HM := Lib.hid (show RR = if slot < 0 ∨ 1 < slot then (1, m) else if 1000 < b.length then (5, m) else renewM m (2 + slot) b by rw [← hRR]; rfl)
  rw [hRR]
  clear h hb hne hbl hRR
  by_cases h1 : slot < 0 ∨ 1 < slot
  · have hR : RR = (1, m) := by rw [HM.out, if_pos h1]
    subst hR
    rcases h1 with h1 | h1
    · go_enter Tryz.func12, Tryz.ntmps12
      go_wp2
      go_ret
      exact ⟨rfl, HH.out.1, grow_refl _ _⟩
    · have h0 : ¬ slot < 0 := by omega
      have h2 : 2 ≤ slot := by omega
      go_enter Tryz.func12, Tryz.ntmps12
      go_wp2
      go_ret
      exact ⟨rfl, HH.out.1, grow_refl _ _⟩
  · have e1 : ¬ slot < 0 := by omega
    have e2 : ¬ 2 ≤ slot := by omega
    have hsw : IntKind.i64.wrap (2 + slot) = 2 + slot := by rw [IntKind.wrap_i64]; omega
    by_cases h2 : 1000 < b.length
    · have hR : RR = (5, m) := by rw [HM.out, if_neg h1, if_pos h2]
      subst hR
      have hni : (1000 : Int) < (n : Int) := by have := HBL.out; omega
      clear h1 h2
      go_enter Tryz.func12, Tryz.ntmps12
      go_wp2
      go_ret
      exact ⟨rfl, HH.out.1, grow_refl _ _⟩
    · have hR : RR = renewM m (2 + slot) b := by rw [HM.out, if_neg h1, if_neg h2]
      have hni : ¬ (1000 : Int) < (n : Int) := by have := HBL.out; omega
      have h3 : 0 ≤ slot := by omega
      have h4 : slot ≤ 1 := by omega
      rw [← hR] at HREN
      clear h1 h2 hR
      go_enter Tryz.func12, Tryz.ntmps12
      go_wp2_with fail
      refine HREN.out.mono ?_
      rintro _ w2 ⟨rfl, hr2, hg2⟩
      go_wp2
      go_ret
      exact ⟨rfl, hr2, hg2⟩
theorem other_any (s : Nat) (h : s ≤ 1) (w : World) : Calls Tryz.prog 40 #[.int .i64 (s : Int)] w fun e w' => e = .returned (.int .i64 (1 - (s : Int))) ∧ w = w' := by
  go_enter Tryz.func40, Tryz.ntmps40
  go_wp2
  go_ret
  exact ⟨rfl, rfl⟩
theorem sent_built3 (q s : Int) (l : List UInt8) (h : l.length = 32) : Tryz.prog.built 45 [(0, .int .i64 q), (1, .int .i64 s), (2, .agg (bc l).toArray)] = some (Ent.cells ⟨q, s, l⟩).toArray := by
  obtain ⟨f, rfl⟩ := of_fn32 l h
  clear h
  kernel_rfl
theorem newest_ok (m : Mem) : (newestP (plM m)).e.sum.length = 32 ∧ 0 ≤ (newestP (plM m)).e.seq ∧ (newestP (plM m)).e.seq ≤ 1073741824 ∧ (newestP (plM m)).sec ≤ 1 := by
  by_cases h : plM m = []
  · rw [h]; exact ⟨rfl, Int.le_refl 0, by decide, Nat.zero_le 1⟩
  · obtain ⟨h1, h2, h3, h4⟩ := plM_in m _ (newest_mem _ h)
    exact ⟨h3, by have := h4.1; omega, h4.2.1, h1⟩

theorem markM_eq {m : Mem} {slot : Int} {sum : List UInt8} {q s : Int} (h1 : ¬ (slot < 0 ∨ 2 < slot)) (hl : latest m = (q, s)) :
    markM m slot sum = if 1073741824 ≤ q then (11, m) else if (appendM m s (Ent.bytes ⟨q + 1, slot, sum⟩)).1 ≠ 4 then appendM m s (Ent.bytes ⟨q + 1, slot, sum⟩) else renewM (appendM m s (Ent.bytes ⟨q + 1, slot, sum⟩)).2 (1 - s) (Ent.bytes ⟨q + 1, slot, sum⟩) := by
  unfold markM
  rw [if_neg h1, hl]
  rfl
set_option maxHeartbeats 2000000 in
theorem mark_any (x : Nat) (m : Mem) (slot : Int) (sum : List UInt8) (w : World) (h : Fl w x m) (hl : sum.length = 32) (hs1 : -9223372036854775808 ≤ slot) (hs2 : slot ≤ 9223372036854775807) :
    Calls Tryz.prog 16 #[.pointer (some ⟨x, 0, none⟩), .int .i64 slot, .agg (bc sum).toArray] w fun e w' => e = .returned (.int .i64 (markM m slot sum).1) ∧ Fl w' x (markM m slot sum).2 ∧ w.grownBy w' (some x) := by
  have H := Lib.hid h
  have hx := h.lt
  clear h
  obtain ⟨RR, hRR⟩ : ∃ R, markM m slot sum = R := ⟨_, rfl⟩
  rw [hRR]
  by_cases h1 : slot < 0 ∨ 2 < slot
  · have hR : RR = (1, m) := by rw [← hRR]; unfold markM; rw [if_pos h1]
    subst hR
    clear hRR
    have hfin : Fl (w.alloc (.cells (bc sum).toArray 39)) x m := H.out.below ((Below.refl _ _).alloc (Nat.le_refl _) _)
    rcases h1 with h1 | h1
    · go_enter Tryz.func16, Tryz.ntmps16
      go_wp2
      go_ret
      exact ⟨rfl, hfin, World.grownBy_alloc _ _ _⟩
    · have h0 : ¬ slot < 0 := by omega
      go_enter Tryz.func16, Tryz.ntmps16
      go_wp2
      go_ret
      exact ⟨rfl, hfin, World.grownBy_alloc _ _ _⟩
  · have h3 : 0 ≤ slot := by omega
    have h4 : slot ≤ 2 := by omega
    have e1 : ¬ slot < 0 := by omega
    have e2 : ¬ 2 < slot := by omega
    have hlat := latest_newest m
    obtain ⟨n1, n2, n3, n4⟩ := newest_ok m
    have hme := markM_eq (sum := sum) h1 hlat
    rw [hRR] at hme
    obtain ⟨p, hp⟩ : ∃ p, newestP (plM m) = p := ⟨_, rfl⟩
    rw [hp] at hme n1 n2 n3 n4
    have hpl := p.cells_len n1
    have hpo := p.one
    obtain ⟨hc0, _, hc34, _⟩ := pl_cell p n1
    obtain ⟨CP, hCP⟩ : ∃ C, p.cells = C := ⟨_, rfl⟩
    rw [hCP] at hpl hpo hc0 hc34
    obtain ⟨q, hq⟩ : ∃ q, p.e.seq = q := ⟨_, rfl⟩
    obtain ⟨s, hs⟩ : ∃ s, p.sec = s := ⟨_, rfl⟩
    rw [hq] at hc0 n2 n3 hme
    rw [hs] at hc34 n4 hme
    have HP := Lib.hid (And.intro hp (And.intro hCP (And.intro hpo hpl)))
    have HCC := Lib.hid (And.intro hc0 hc34)
    obtain ⟨Z, hzl, hz0, hz⟩ := pl_zero
    have HZ := Lib.hid (And.intro hz (show Z.length = CP.length by rw [hzl, hpl]))
    have HI := Lib.hid (pl_size CP hpl)
    obtain ⟨BS, hBS⟩ : ∃ B, bc sum = B := ⟨_, rfl⟩
    have hbl : BS.length = 32 := by rw [← hBS, bc_len, hl]
    have HIS := Lib.hid (show (Tryz.prog.info? 39).map (·.size) = some BS.toArray.size by rw [List.size_toArray, hbl]; kernel_rfl)
    have hbu := sent_built3 (q + 1) slot sum hl
    have hby := fun W => slbytes_any ⟨q + 1, slot, sum⟩ W hl
    obtain ⟨CE, hCE⟩ : ∃ C, Ent.cells ⟨q + 1, slot, sum⟩ = C := ⟨_, rfl⟩
    obtain ⟨b, hb⟩ : ∃ b, Ent.bytes ⟨q + 1, slot, sum⟩ = b := ⟨_, rfl⟩
    simp only [hCE, hb] at hby
    rw [hCE, hBS] at hbu
    rw [hb] at hme
    rw [hBS]
    have HM := Lib.hid hme
    have HBU := Lib.hid (And.intro hbu hby)
    clear hme hRR h1 hlat n1 hp hpl hpo hc0 hc34 hCP hq hs hzl hz0 hz hBS hbl hbu hby hCE hb
    go_enter Tryz.func16, Tryz.ntmps16
    obtain ⟨W, hW⟩ : ∃ W, w.alloc (Obj.cells BS.toArray 39) = W := ⟨_, rfl⟩
    have hrow : Row W w.heap.size 39 BS := by rw [← hW]; exact Row.new _ _ _
    have hbW : Below w.heap.size w W := by rw [← hW]; exact (Below.refl _ _).alloc (Nat.le_refl _) _
    have HROW := Lib.hid (And.intro hrow hbW)
    have HX := Lib.hid (show Fl W x m from H.out.below hbW)
    have HW := Lib.hid hW
    clear hW hrow hbW
    go_upto_region 1 with fail
    rw [HW.out]
    obtain ⟨B, hB⟩ : ∃ B, w.heap.size = B := ⟨_, rfl⟩
    have HB := Lib.hid hB
    rw [hB] at HROW ⊢
    clear hB
    have HEN := Lib.hid (entries_any x m W HX.out)
    go_wp2_with fail
    refine HEN.out.mono ?_
    rintro _ w2 ⟨A, n, cap, rfl, hO, hb2⟩
    have hn : n ≤ 1000 := by have := plM_len m; have := hO.len; omega
    have hnw := newest_any A n cap W.heap.size (plM m) w2 hO hn
    rw [HP.out.1, HP.out.2.1] at hnw
    have HN := Lib.hid hnw
    have HB2 := Lib.hid hb2
    clear hO hnw hb2 HEN
    go_wp2_with fail
    refine HN.out.mono ?_
    rintro _ w3 ⟨rfl, hb3⟩
    have HB3 := Lib.hid (step_below HB2.out hb3)
    clear hb3 HN HB2
    go_wp2_with (refine wpList_alloc_row rfl 75 rfl Z HZ.out.1 ?_)
    intro w4 hrow4 hb4 hsz4
    go_wp2_with (refine wpList_store_as rfl _ _ _ rfl w3.heap.size CP rfl rfl 75 Z hrow4 HI.out HZ.out.2 HP.out.2.2.1 ?_)
    intro w5 hrow5 hoth5 hg5 hsz5
    have hb35 : Below w3.heap.size w3 w5 := step_grow hb4 hg5 (Nat.le_refl _)
    have hbW5 : Below W.heap.size W w5 := step_below HB3.out hb35
    have k0 := hrow5.cell HCC.out.1
    have k34 := hrow5.cell HCC.out.2
    obtain ⟨E, hE⟩ : ∃ E, w3.heap.size = E := ⟨_, rfl⟩
    have hBl := HROW.out.1.lt
    have HK := Lib.hid (show Row w5 E 75 CP ∧ Row w5 B 39 BS ∧ Below W.heap.size W w5 ∧ Below w.heap.size w w5 ∧ Fl w5 x m from by
      have e := HB.out
      refine ⟨by rw [← hE]; exact hrow5, HROW.out.1.below hbW5 hBl, hbW5, ?_, HX.out.below hbW5⟩
      rw [e]
      exact HROW.out.2.trans (hbW5.mono (Nat.le_of_lt hBl)))
    rw [hE] at k0 k34 ⊢
    clear hrow4 hb4 hsz4 hrow5 hoth5 hg5 hsz5 hb35 hbW5 hE HB3 hBl
    by_cases hov : 1073741824 ≤ q
    · have hR : RR = (11, m) := by rw [HM.out, if_pos hov]
      subst hR
      go_wp2_with fail
      go_ret
      exact ⟨rfl, HK.out.2.2.2.2, below_grow HK.out.2.2.2.1 _⟩
    · have hm2 := HM.out
      rw [if_neg hov] at hm2
      have HM2 := Lib.hid hm2
      clear hm2
      clear HM
      have hw1 : IntKind.i64.wrap (q + 1) = q + 1 := by rw [IntKind.wrap_i64]; omega
      go_wp2_with (first
        | (refine wpList_load_row rfl 39 _ rfl B rfl 39 BS.toArray (0, 0) _ HK.out.2.1 Tryz.underlying39 rfl HIS.out ?_)
        | (refine wpList_build_is rfl 45 #[(0, .tmp 26), (1, .tmp 27), (2, .tmp 28)] rfl CE.toArray ?_ ?_; (focus (go_simp; exact HBU.out.1))))
      refine (HBU.out.2 w5).mono ?_
      rintro _ w6 ⟨A6, c6, rfl, hs6, hb6, ha6⟩
      have hf6 := HK.out.2.2.2.2.below hb6
      have hxl : x < w5.heap.size := HK.out.2.2.2.2.lt
      have HAP := Lib.hid (append_any x m s A6 48 c6 b w6 hf6 hs6 (by decide))
      have hrE6 := HK.out.1.below hb6 HK.out.1.lt
      have HQ := Lib.hid (And.intro hs6 (And.intro (show ∀ a, A6 = some a → 0 < 48 → a.block ≠ x from fun a ha _ => by have := ha6 a ha; omega) (And.intro hrE6 (And.intro (step_below HK.out.2.2.2.1 hb6) hf6))))
      have j34 := hrE6.cell HCC.out.2
      clear hs6 hb6 ha6 hf6 hrE6 hxl k0 k34
      generalize appendM m s b = r at HAP HM2
      obtain ⟨er, m1⟩ := r
      go_wp2_with fail
      refine HAP.out.mono ?_
      rintro _ w7 ⟨rfl, hf7, hg7⟩
      have hne : E ≠ x := fun e => by
        obtain ⟨A1, n1, c1, hr, _⟩ := HQ.out.2.2.2.2.spot
        have h1 := HQ.out.2.2.1
        rw [e] at h1
        unfold Row at h1 hr
        rw [h1] at hr
        injection hr with hr
        injection hr with _ h2 _
        exact absurd h2 (by decide)
      have i34 : w7.cell? ⟨E, 34, none⟩ = some (.int .i64 (s : Int)) := hg7.cell j34 (by simp; exact hne)
      have hg07 : w.grownBy w7 (some x) := (below_grow HQ.out.2.2.2.1 _).trans hg7
      have HG := Lib.hid (And.intro hf7 hg07)
      by_cases h5 : er = 4
      · subst h5
        have hR : RR = renewM m1 (1 - (s : Int)) b := by have := HM2.out; simpa using this
        have hs7 := shows_beside HQ.out.1 hg7 HQ.out.2.1
        have HREN := Lib.hid (renew_any x m1 (1 - (s : Int)) A6 48 c6 b w7 hf7 hs7 (by decide) HQ.out.2.1)
        rw [← hR] at HREN
        clear hf7 hg7 hs7 hg07 j34 hne hR HAP HM2
        go_wp2_with fail
        (with_reducible refine (other_any s n4 _).mono ?_)
        rintro _ w8 ⟨rfl, rfl⟩
        go_wp2_with fail
        refine HREN.out.mono ?_
        rintro _ w9 ⟨rfl, hf9, hg9⟩
        have hfin := HG.out.2.trans hg9
        go_wp2_with fail
        go_ret
        exact ⟨rfl, hf9, hfin⟩
      · have hbe : (er == 4) = false := by simpa using h5
        have hR : RR = (er, m1) := by have := HM2.out; rw [if_pos h5] at this; exact this
        subst hR
        clear hf7 hg7 hg07 j34 i34 hne HAP HM2
        go_wp2_with fail
        go_ret
        exact ⟨rfl, HG.out.1, HG.out.2⟩
end Go.Proofs.YtmebdnblobobnaaGreatDoor
