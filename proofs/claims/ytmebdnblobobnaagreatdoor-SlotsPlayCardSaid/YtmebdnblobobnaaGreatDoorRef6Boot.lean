/- Chapter 6: Boot (the document's own function). -/
import Derived.Test.YtmebdnblobobnaaGreatDoorRef6BootMath
import Derived.Test.YtmebdnblobobnaaGreatDoorSlBoot
import Derived.BigQuiet
import Derived.Deep.Cut
import Derived.Deep.CutRange
namespace Go.Proofs.YtmebdnblobobnaaGreatDoor
set_option maxRecDepth 100000
open Go.RowKit _root_.Go.Proofs.YtmebdnblobobnaaGreatDoor.Wd _root_.Go.Proofs.YtmebdnblobobnaaGreatDoor.Nm _root_.Go.Proofs.YtmebdnblobobnaaGreatDoor.Cm _root_.Go.Proofs.YtmebdnblobobnaaGreatDoor.Fm _root_.Go.Proofs.YtmebdnblobobnaaGreatDoor.Sm

theorem ent_built2 : Tryz.prog.built 49 [(1, .int .i64 2)] = some (Ent.cells ⟨0, 2, List.replicate 32 0⟩).toArray := by kernel_rfl
theorem ent_size (cs : List Value) (h : cs.length = 34) : (Tryz.prog.info? 49).map (·.size) = some cs.length := by
  obtain ⟨_, hz⟩ := zero_of_info ent_zero_info
  rw [hz, h]
/-- What is known between two steps: the best one so far stands in block R + 1, its image apart. -/
structure BInv (W wr : World) (R : Nat) (q : Ent × List UInt8) (A : Option Addr) (n cap : Nat) : Prop where
  grow : W.grownBy wr (some (R + 1))
  row : Row wr (R + 1) 49 q.1.cells
  img : Shows wr wr.heap.size A n cap q.2
  new : ∀ a, A = some a → R + 2 ≤ a.block
  sum : q.1.sum.length = 32
theorem BInv.below {W wr wr' : World} {R : Nat} {q : Ent × List UInt8} {A : Option Addr} {n cap : Nat} (h : BInv W wr R q A n cap) (hb : Below wr.heap.size wr wr') : BInv W wr' R q A n cap :=
  ⟨h.grow.trans (below_grow hb _), h.row.below hb h.row.lt, (h.img.below hb).more hb.size, h.new, h.sum⟩
theorem BInv.low {w W wr : World} {R : Nat} {q : Ent × List UInt8} {A : Option Addr} {n cap : Nat} (hb : BInv W wr R q A n cap) (hW : Below w.heap.size w W) (hR : w.heap.size = R) : Below w.heap.size w wr :=
  step_grow hW hb.grow (by omega)
theorem xbelow_drewN {B : Nat} {w w' : World} (h : Below B w w') (q : Nat) : Below B w (w'.drewN q) := ⟨h.os, h.tape, h.output, h.size, h.block⟩
theorem bscan_take (m : Mem) (F : Bool) (was : Int) (es : List Ent) (q : Ent × List UInt8) (j : Nat) (h : j < es.length) :
    bscan m F was (es.take (j + 1)) q = bstep m F was (bscan m F was (es.take j) q) es[j] := by
  unfold bscan
  rw [List.take_add_one, List.getElem?_eq_getElem h, List.foldl_append]
  rfl
theorem bstep_is (m : Mem) (F : Bool) (was : Int) (q : Ent × List UInt8) (e : Ent) :
    bstep m F was q e = if (decide (e.seq < q.1.seq) || (F && decide (e.seq = was))) = true then q else if countsM m e = true then (e, heldM m e) else q := by
  unfold bstep
  refine ite_cond_congr ?_
  simp

set_option maxHeartbeats 4000000 in
theorem xboot_any (x : Nat) (m : Mem) (w : World) (h : Rf w x m) :
    Calls Tryz.prog 23 #[.pointer (some ⟨x, 0, none⟩)] w (Booted w m) := by
  have H := Lib.hid h
  obtain ⟨hz, _⟩ := zero_of_info ent_zero_info
  have hb2 := ent_built2
  have hzl := ent_len Ent.zero rfl
  have h2l := ent_len ⟨0, 2, List.replicate 32 0⟩ rfl
  have h2o := ent_one ⟨0, 2, List.replicate 32 0⟩
  obtain ⟨Z, hZ⟩ : ∃ Z, Ent.zero.cells = Z := ⟨_, rfl⟩
  obtain ⟨C2, hC2⟩ : ∃ Z, Ent.cells ⟨0, 2, List.replicate 32 0⟩ = Z := ⟨_, rfl⟩
  rw [hZ] at hz hzl
  rw [hC2] at hb2 h2l h2o
  have HZ := Lib.hid (And.intro hz hzl)
  have HC2 := Lib.hid (And.intro hb2 (And.intro h2o hC2))
  have HI2 := Lib.hid (And.intro (ent_size C2 h2l) (show Z.length = C2.length by rw [hzl, h2l]))
  clear hz hb2 hzl h2l h2o hZ hC2 h
  go_enter Tryz.func23, Tryz.ntmps23
  go_wp2_with (refine wpList_alloc_row rfl 49 rfl Z HZ.out.1 ?_)
  intro w1 hrow1 hb1 hsz1
  have H1 := Lib.hid (And.intro hrow1 (And.intro hb1 hsz1))
  clear hrow1 hb1 hsz1
  go_wp2_with (first
    | (refine wpList_build_is rfl 49 #[(1, .const (.int .i64 2))] rfl C2.toArray ?_ ?_; (focus (go_simp; exact HC2.out.1)))
    | (refine wpList_alloc_row rfl 49 rfl Z HZ.out.1 ?_))
  intro w2 hrow2 hb2 hsz2
  go_wp2_with (refine wpList_store_as rfl _ _ _ rfl w1.heap.size C2 rfl rfl 49 Z hrow2 HI2.out.1 HI2.out.2 HC2.out.2.1 ?_)
  intro W hrow3 hoth3 hg3 hsz3
  obtain ⟨R, hR⟩ : ∃ R, w.heap.size = R := ⟨_, rfl⟩
  have hs1 : w1.heap.size = R + 1 := by rw [H1.out.2.2, hR]
  have hxR : x < R := by have := H.out.lt; omega
  have hb13 : Below w1.heap.size w1 W := step_grow hb2 hg3 (Nat.le_refl _)
  have hbW : Below w.heap.size w W := step_below H1.out.2.1 hb13
  rw [hs1] at hrow3 ⊢
  have HW := Lib.hid (show Row W R 49 Z ∧ Below w.heap.size w W ∧ W.heap.size = R + 2 ∧ Rf W x m ∧ w.heap.size = R ∧ x < R from
    ⟨by have := H1.out.1.below hb13 H1.out.1.lt; rwa [hR] at this, hbW, by omega, H.out.below hbW, hR, hxR⟩)
  have h0 : BInv W W R (bupto m 0) none 0 0 := ⟨World.grownBy.refl W _, by rw [show (bupto m 0).1.cells = C2 from HC2.out.2.2]; exact hrow3, Shows.nil _ _, (fun a ha => by cases ha), rfl⟩
  rw [hR]
  have HB0 := Lib.hid h0
  clear hrow2 hb2 hsz2 hrow3 hoth3 hg3 hsz3 hs1 hxR hb13 hbW hR h0 H1
  go_wp2_with fail
  go_loopw [5, 6] (fun b c wr => ∃ (k : Nat) (A : Option Addr) (n cap : Nat), k ≤ 2 ∧ c = .int .i64 k ∧ b = .slice A n cap ∧ Hid (BInv W wr R (bupto m k) A n cap)) (fun _ c _ => 2 - (intOf c).toNat)
  case atStart => exact ⟨0, none, 0, 0, by omega, rfl, rfl, HB0⟩
  case round =>
    obtain ⟨k, A, n, cap, hk, rfl, rfl, HB⟩ := hrel
    by_cases hlt : k < 2
    · have hki : (k : Int) < 2 := by omega
      have hnx : bupto m (k + 1) = bscan m (decide (k = 1) && decide (0 < (bupto m k).1.seq)) (bupto m k).1.seq (entsM m k) (bupto m k) := rfl
      obtain ⟨q, hq⟩ : ∃ q, bupto m k = q := ⟨_, rfl⟩
      rw [hq] at hnx HB
      obtain ⟨was, hwas⟩ : ∃ v, q.1.seq = v := ⟨_, rfl⟩
      have hc0 : wr.cell? ⟨R + 1, 0, none⟩ = some (.int .i64 was) := by rw [← hwas]; exact HB.out.row.cell (j := 0) rfl
      rw [hwas] at hnx
      obtain ⟨F, hF⟩ : ∃ F, (decide (k = 1) && decide (0 < was)) = F := ⟨_, rfl⟩
      have HF := Lib.hid hF
      rw [hF] at hnx
      have HNX := Lib.hid hnx
      have HQ := Lib.hid hwas
      clear hq hnx hwas hF
      go_upto_region 5 with fail
      go_cut [7] from 14 to 70 (fun v wx => v = .bool F ∧ wx = wr)
      case first =>
        have hf := HF.out
        by_cases h1 : k = 1
        · subst h1
          rw [decide_eq_true rfl, Bool.true_and] at hf
          go_wp2_with fail
          go_meet
          exact ⟨rfl, rfl⟩
        · obtain rfl : k = 0 := by omega
          rw [decide_eq_false h1, Bool.false_and] at hf
          subst hf
          go_wp2_with fail
          go_meet
          exact ⟨rfl, rfl⟩
      case rest =>
        obtain ⟨rfl, rfl⟩ := hcut
        have hen := xentries_any x m k wc (H.out.below (HB.out.low HW.out.2.1 HW.out.2.2.2.2.1))
        have hec : (entsOf (loadM (readM m k)).1).length ≤ 64 := Nat.le_trans (List.length_filterMap_le _ _) (load_count (readM m k))
        have hins := entsOf_inside (loadM (readM m k)).1
        have hem : entsM m k = entsOf (loadM (readM m k)).1 := rfl
        obtain ⟨es, hes⟩ : ∃ es, entsOf (loadM (readM m k)).1 = es := ⟨_, rfl⟩
        rw [hes] at hen hec hins hem
        have hnx := HNX.out
        rw [hem] at hnx
        have HN2 := Lib.hid hnx
        have HEN := Lib.hid hen
        have HIN := Lib.hid hins
        clear hen hes hnx hem hins HNX HF
        go_wp2_with fail
        refine HEN.out.mono ?_
        rintro _ w2 ⟨A2, N, cap2, rfl, hE, hb2⟩
        have hN64 : N ≤ 64 := by have := hE.len; omega
        have hB2 := HB.out.below hb2
        have hsp := fun h0 => hE.spot (hn := h0)
        have HE := Lib.hid (And.intro hE.len (And.intro hE.sum (And.intro hsp (show R + 2 ≤ wc.heap.size from by have := HB.out.grow.size; have := HW.out.2.2.1; omega))))
        have HB2 := Lib.hid hB2
        clear hE hb2 hB2 hsp HEN
        go_wp2_with fail
        go_loopw [5, 10] (fun b c wr2 => ∃ (j : Nat) (A : Option Addr) (n cap : Nat), j ≤ N ∧ c = .int .i64 j ∧ b = .slice A n cap ∧ Hid (BInv W wr2 R (bscan m F was (es.take j) q) A n cap ∧ w2.grownBy wr2 (some (R + 1)))) (fun _ c _ => N - (intOf c).toNat)
        case atStart => exact ⟨0, A, n, cap, by omega, rfl, rfl, Lib.hid ⟨HB2.out, World.grownBy.refl w2 _⟩⟩
        case round =>
          obtain ⟨j, A3, n3, cap3, hj, rfl, rfl, HJ⟩ := hrel
          by_cases hjn : j < N
          · have hji : (j : Int) < (N : Int) := by omega
            have hjl : j < es.length := by rw [HE.out.1]; exact hjn
            obtain ⟨g, rfl, hg1, hg2, hcell⟩ := HE.out.2.2.1 (by omega)
            have hes := hcell j hjl
            have hel := HE.out.2.1 _ (List.getElem_mem hjl)
            have hei := HIN.out _ (List.getElem_mem hjl)
            have hnt := bscan_take m F was es q j hjl
            obtain ⟨e, he⟩ : ∃ e, es[j] = e := ⟨_, rfl⟩
            rw [he] at hes hel hei hnt
            rw [bstep_is] at hnt
            have hgne : g ≠ R + 1 := by have := HE.out.2.2.2; omega
            have hcw : ∀ i v, i < 34 → e.cells[i]? = some v → wr.cell? ⟨g, j * 34 + i, none⟩ = some v := fun i v hi hv => HJ.out.2.cell (hes i v hi hv) (by simp; exact hgne)
            obtain ⟨p, hp⟩ : ∃ p, bscan m F was (es.take j) q = p := ⟨_, rfl⟩
            rw [hp] at hnt HJ
            obtain ⟨v, hv⟩ : ∃ v, e.seq = v := ⟨_, rfl⟩
            obtain ⟨pv, hpv⟩ : ∃ v, p.1.seq = v := ⟨_, rfl⟩
            rw [hv, hpv] at hnt
            have hv0 : wr.cell? ⟨g, j * 34, none⟩ = some (.int .i64 v) := by rw [← hv]; exact hcw 0 _ (by omega) rfl
            have hc1 : wr.cell? ⟨R + 1, 0, none⟩ = some (.int .i64 pv) := by rw [← hpv]; exact HJ.out.1.row.cell (j := 0) rfl
            obtain ⟨SK, hSK⟩ : ∃ b, (decide (v < pv) || (F && decide (v = was))) = b := ⟨_, rfl⟩
            rw [hSK] at hnt
            have HNT := Lib.hid (And.intro hnt (And.intro hSK (And.intro hel (And.intro hei (And.intro hcw (And.intro hg2 hgne))))))
            clear hnt hSK hel hei hcw hg1 hg2 hcell hes he hp hv hpv hc0 hgne hjl
            go_upto_region 11 with fail
            go_cut [55] from 30 to 70 (fun s wx => s = .bool SK ∧ ∃ nq, wx = wr.drewN nq)
            case first =>
              have hsk := HNT.out.2.1
              by_cases h1 : v < pv
              · rw [decide_eq_true h1, Bool.true_or] at hsk
                subst hsk
                have hd : decide (v < pv) = true := decide_eq_true h1
                go_quiet (fail)
                go_wp2_with fail
                go_meet
                exact ⟨rfl, _, rfl⟩
              · have hd : decide (v < pv) = false := decide_eq_false h1
                rw [hd, Bool.false_or] at hsk
                cases F with
                | false =>
                  rw [Bool.false_and] at hsk
                  subst hsk
                  go_quiet (fail)
                  go_wp2_with fail
                  go_meet
                  exact ⟨rfl, _, rfl⟩
                | true =>
                  rw [Bool.true_and] at hsk
                  subst hsk
                  go_quiet (fail)
                  go_wp2_with fail
                  go_meet
                  exact ⟨rfl, _, rfl⟩
            case rest =>
              obtain ⟨rfl, nq, hwd⟩ := hcut
              obtain ⟨hnt, hsk, hel, hei, hcw, hg2, hgne⟩ := HNT.out
              have hbd : Below wr.heap.size wr wc := by rw [hwd]; exact xbelow_drewN (Below.refl _ _) nq
              have hJ := HJ.out.1.below hbd
              have hG := HJ.out.2.trans (below_grow hbd _)
              have hgw : g < wr.heap.size := Nat.lt_of_lt_of_le hg2 HJ.out.2.size
              have hR0 : wc.rangeAt g (j * 34) e.cells := fun i u hu => (hbd.cell (p := ⟨g, j * 34 + i, none⟩) hgw).trans (hcw i u (by have := (List.getElem?_eq_some_iff.1 hu).1; rw [ent_len e hel] at this; exact this) hu)
              have hst := xstored_any x m e wc (H.out.below (hJ.low HW.out.2.1 HW.out.2.2.2.2.1)) hel hei
              have hcl := ent_len e hel
              have hco := ent_one e
              have hgc : g < wc.heap.size := Nat.lt_of_lt_of_le hgw hbd.size
              have hRc : R + 2 ≤ wc.heap.size := by have := hJ.grow.size; have := HW.out.2.2.1; omega
              have hpl := ent_len p.1 hJ.sum
              obtain ⟨CE, hCE⟩ : ∃ C, e.cells = C := ⟨_, rfl⟩
              rw [hCE] at hR0 hst hcl hco
              have HST := Lib.hid hst
              have HR := Lib.hid hR0
              have HI := Lib.hid (ent_size CE hcl)
              have HCE := Lib.hid (And.intro hCE (And.intro hcl (And.intro hco (And.intro hel (And.intro hgc (And.intro hRc hpl))))))
              have HJ2 := Lib.hid (And.intro hJ hG)
              have HN := Lib.hid hnt
              clear hnt hsk hel hei hcw hg2 hgne hbd hJ hG hgw hR0 hst hcl hco hgc hRc hCE hwd hv0 hc1 HNT hpl
              cases SK with
              | true =>
                go_wp2_with fail
                go_roundw
                case rel => exact ⟨j + 1, A3, n3, cap3, by omega, by go_num, rfl, Lib.hid ⟨by rw [HN.out, if_pos rfl]; exact HJ2.out.1, HJ2.out.2⟩⟩
                case measure => simp [intOf]; omega
              | false =>
                go_wp2_with (refine wpList_load_mid rfl 49 (.tmp 60) rfl g (j * 34) rfl CE _ HR.out Tryz.underlying49 rfl HI.out ?_)
                refine HST.out.mono ?_
                rintro _ w5 ⟨A5, n5, cap5, rfl, hs5, hb5, ha5⟩
                have hJ5 := HJ2.out.1.below hb5
                have hG5 := HJ2.out.2.trans (below_grow hb5 _)
                have hR5 : w5.rangeAt g (j * 34) CE := range_over HR.out hb5 HCE.out.2.2.2.2.1
                have H5 := Lib.hid (And.intro hJ5 (And.intro hG5 (And.intro hR5 (And.intro hs5 (show ∀ a, A5 = some a → R + 2 ≤ a.block from fun a ha => Nat.le_trans HCE.out.2.2.2.2.2.1 (ha5 a ha))))))
                obtain ⟨ct, hct⟩ : ∃ b, countsM m e = b := ⟨_, rfl⟩
                have hn2 := HN.out
                rw [hct] at hn2 ⊢
                have HN3 := Lib.hid hn2
                clear hJ5 hG5 hR5 hs5 hb5 ha5 HST HN hn2 hct
                cases ct with
                | true =>
                  go_wp2_with (first
                    | (refine wpList_load_mid rfl 49 (.tmp 68) rfl g (j * 34) rfl CE _ H5.out.2.2.1 Tryz.underlying49 rfl HI.out ?_)
                    | (refine wpList_store_as rfl _ _ _ rfl (R + 1) CE rfl rfl 49 p.1.cells H5.out.1.row HI.out (HCE.out.2.2.2.2.2.2.trans HCE.out.2.1.symm) HCE.out.2.2.1 ?_))
                  intro w6 hrow6 hoth6 hg6 hsz6
                  have hB6 : BInv W w6 R (e, heldM m e) A5 n5 cap5 := ⟨H5.out.1.grow.trans hg6, by rw [HCE.out.1]; exact hrow6, shows_aside H5.out.2.2.2.1 hg6 (fun a ha _ => by have := H5.out.2.2.2.2 a ha; omega), H5.out.2.2.2.2, HCE.out.2.2.2.1⟩
                  have H6 := Lib.hid (And.intro hB6 (H5.out.2.1.trans hg6))
                  clear hrow6 hoth6 hg6 hsz6 hB6
                  go_wp2_with fail
                  go_roundw
                  case rel => exact ⟨j + 1, A5, n5, cap5, by omega, by go_num, rfl, Lib.hid ⟨by rw [HN3.out, if_neg (by decide), if_pos trivial]; exact H6.out.1, H6.out.2⟩⟩
                  case measure => simp [intOf]; omega
                | false =>
                  go_wp2_with fail
                  go_roundw
                  case rel => exact ⟨j + 1, A3, n3, cap3, by omega, by go_num, rfl, Lib.hid ⟨by rw [HN3.out, if_neg (by decide), if_neg (by decide)]; exact H5.out.1, H5.out.2.1⟩⟩
                  case measure => simp [intOf]; omega
          · obtain rfl : j = N := by omega
            have hall : es.take j = es := List.take_of_length_le (by rw [HE.out.1]; exact Nat.le_refl _)
            have hB := HJ.out.1
            rw [hall, ← HN2.out] at hB
            have HB9 := Lib.hid hB
            clear hB hall
            go_wp2_with fail
            go_roundw
            case rel => exact ⟨k + 1, A3, n3, cap3, by omega, by go_num, rfl, HB9⟩
            case measure => simp [intOf]; omega
    · obtain rfl : k = 2 := by omega
      have hB := HB.out
      rw [← boot_upto] at hB
      have hcl := ent_len (bootM m).1 hB.sum
      have hco := ent_one (bootM m).1
      have hrR : Row wr R 49 Z := HW.out.1.grown hB.grow (by omega)
      have hrow := hB.row
      have hlow := hB.low HW.out.2.1 HW.out.2.2.2.2.1
      obtain ⟨CE, hCE⟩ : ∃ C, (bootM m).1.cells = C := ⟨_, rfl⟩
      rw [hCE] at hcl hco hrow
      have HI := Lib.hid (And.intro (ent_size CE hcl) (show (Tryz.prog.info? 49).map (·.size) = some CE.toArray.size by rw [ent_size CE hcl]; simp))
      have HC := Lib.hid (And.intro hCE (And.intro hrow (And.intro hrR (And.intro (show Z.length = CE.length by rw [HZ.out.2, hcl]) (And.intro hco hlow)))))
      have HIM := Lib.hid (And.intro hB.img hB.new)
      clear hB hcl hco hrR hrow hlow hCE HB
      go_wp2_with (first
        | (refine wpList_load_row rfl 49 _ rfl (R + 1) rfl 49 CE.toArray (0, 0) _ HC.out.2.1 Tryz.underlying49 rfl HI.out.2 ?_)
        | (refine wpList_store_as rfl _ _ _ rfl R CE rfl rfl 49 Z HC.out.2.2.1 HI.out.1 HC.out.2.2.2.1 HC.out.2.2.2.2.1 ?_))
      intro w9 hrow9 hoth9 hg9 hsz9
      have hs9 := shows_aside HIM.out.1 hg9 (fun a ha _ => by have := HIM.out.2 a ha; omega)
      have hb9 : Below w.heap.size w w9 := step_grow HC.out.2.2.2.2.2 hg9 (by have := HW.out.2.2.2.2.1; omega)
      have H9 := Lib.hid (And.intro hs9 hb9)
      clear hs9 hb9 hoth9 hg9 hsz9
      go_wp2_with fail
      refine bodyPost_ret (v := .tuple #[.agg CE.toArray, .slice A n cap]) ?_ rfl ⟨A, n, cap, by rw [HC.out.1], H9.out.1, H9.out.2, fun a ha => by have := HIM.out.2 a ha; have := HW.out.2.2.2.2.1; omega⟩
      exact xresults_row_tmp (P := Tryz.prog) rfl _ w9 R 49 _ (0, 0) _ _ rfl rfl hrow9 Tryz.underlying49 rfl HI.out.2
end Go.Proofs.YtmebdnblobobnaaGreatDoor
