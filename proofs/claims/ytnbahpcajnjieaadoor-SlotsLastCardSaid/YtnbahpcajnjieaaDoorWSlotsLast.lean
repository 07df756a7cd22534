/- The walk of the law SlotsLast: what was marked last is booted, as long as its image stands; an entry whose image was written over does not count. -/
import Derived.Test.YtnbahpcajnjieaaDoorLaw6Base
import Derived.Test.YtnbahpcajnjieaaDoorKShaRef
import Derived.Lib.SlBytesConst
namespace Go.Proofs.YtnbahpcajnjieaaDoor
set_option maxRecDepth 100000
open Go.RowKit _root_.Go.Proofs.YtnbahpcajnjieaaDoor.Wd _root_.Go.Proofs.YtnbahpcajnjieaaDoor.Nm _root_.Go.Proofs.YtnbahpcajnjieaaDoor.Cm _root_.Go.Proofs.YtnbahpcajnjieaaDoor.Fm _root_.Go.Proofs.YtnbahpcajnjieaaDoor.Sm

def iOne : List UInt8 := [111, 110, 101]
def iOther : List UInt8 := [111, 116, 104, 101, 114]
def iThird : List UInt8 := [116, 104, 105, 114, 100]
theorem sha_parts : sha iThird ≠ sha iOne ∧ sha iThird ≠ sha iOther := by
  have h : (decide (sha iThird ≠ sha iOne) && decide (sha iThird ≠ sha iOther)) = true := by kernel_rfl
  simpa using h
/-- The i-th entry, by what was asked. -/
def lastE (zs : List Int) (i : Nat) : Ent :=
  ⟨i, zs.getD (i - 1) 0 % 3, if zs.getD (i - 1) 0 % 3 = 0 then sha iOne else if zs.getD (i - 1) 0 % 3 = 1 then sha iOther else List.replicate 32 0⟩
theorem lastE_sum (zs : List Int) (i : Nat) : (lastE zs i).sum.length = 32 := by
  unfold lastE
  simp only
  split
  · exact sha_len _
  split
  · exact sha_len _
  · simp
/-- When the image of the last one's slot is another one, none of that slot is booted. -/
theorem last_gone {m : Mem} {zs : List Int} {t c : Nat} (h : Marked m (lastE zs) t c) (d : Nat) (hd : d < 2) (hi : imgM m d = some iThird) (ho : ∀ k : Nat, k < 2 → k ≠ d → imgM m k = some (if k = 0 then iOne else iOther)) :
    (bootM m).1.slot ≠ d ∧ ((bootM m).2 = [] ∨ (bootM m).2 = iOne ∨ (bootM m).2 = iOther) := by
  unfold bootM
  cases hb : bootE m with
  | none => exact ⟨by simp only; omega, .inl rfl⟩
  | some x =>
    simp only
    have hx := best_mem _ _ hb
    obtain ⟨h1, h2⟩ := List.mem_filter.1 hx
    obtain ⟨i, _, _, h3⟩ := h.mem x h1
    rw [h3] at h2 ⊢
    have hsl : (lastE zs i).slot = 0 ∨ (lastE zs i).slot = 1 ∨ (lastE zs i).slot = 2 := by
      unfold lastE
      simp only
      omega
    have hsum : ((lastE zs i).slot = 0 → (lastE zs i).sum = sha iOne) ∧ ((lastE zs i).slot = 1 → (lastE zs i).sum = sha iOther) := by
      unfold lastE
      simp only
      exact ⟨fun h => by rw [if_pos h], fun h => by rw [if_neg (by omega), if_pos h]⟩
    obtain ⟨q1, q2⟩ := sha_parts
    by_cases h2' : (lastE zs i).slot = 2
    · refine ⟨by omega, .inl ?_⟩
      rw [if_pos h2']
    · obtain ⟨b, hb1, hb2⟩ := counts_img h2 h2'
      rw [if_neg h2', hb1]
      by_cases hdd : (lastE zs i).slot = d
      · exfalso
        rw [hdd, hi] at hb1
        injection hb1 with hb1
        subst hb1
        rcases hsl with h5 | h5 | h5
        · exact q1 (hb2.trans (hsum.1 h5))
        · exact q2 (hb2.trans (hsum.2 h5))
        · exact h2' h5
      · refine ⟨hdd, .inr ?_⟩
        rcases hsl with h5 | h5 | h5
        · have := ho 0 (by decide) (by omega)
          rw [h5, show (0 : Int) = ((0 : Nat) : Int) from rfl, this] at hb1
          injection hb1 with hb1
          left
          exact hb1.symm
        · have := ho 1 (by decide) (by omega)
          rw [h5, show (1 : Int) = ((1 : Nat) : Int) from rfl, this] at hb1
          injection hb1 with hb1
          right
          exact hb1.symm
        · exact absurd h5 h2'
theorem hash_zero (B : List Value) (h : bc (List.replicate 32 0) = B) : ∀ w : World, (zeroValue 31).run Tryd.prog w = .ok (.agg B.toArray) w := by
  subst h
  exact (zero_of_info (show (Tryd.prog.info? 31).map (fun i => (i.zero, i.size)) = some (some (.agg (bc (List.replicate 32 0)).toArray), 32) by kernel_rfl)).1
theorem lays_cell {w w' : World} {A : Option Addr} {n cap : Nat} {zs : List Int} (h : Lays w w.heap.size A n cap (zs.map (Value.int .i64))) (hb : Below w.heap.size w w') (r : Nat) (hr : r < n) : ∃ g o, A = some ⟨g, o, none⟩ ∧ w'.cell? ⟨g, o + r, none⟩ = some (.int .i64 (zs.getD r 0)) := by
  obtain ⟨g, o, e, hg, hc⟩ := h.spot (by omega)
  have hl := h.len
  rw [List.length_map] at hl
  refine ⟨g, o, e, (hb.cell (p := ⟨g, o + r, none⟩) hg).trans ?_⟩
  rw [hc r (by rw [List.length_map]; omega), List.getElem_map, List.getD_eq_getElem?_getD, List.getElem?_eq_getElem (by omega)]
  rfl
theorem lastE_next (zs : List Int) (r d : Nat) (h : zs.getD r 0 % 3 = d) : lastE zs (r + 1) = ⟨((r : Nat) : Int) + 1, d, if (d : Int) = 0 then sha iOne else if (d : Int) = 1 then sha iOther else List.replicate 32 0⟩ := by
  unfold lastE
  rw [show r + 1 - 1 = r by omega, h]
  rfl

theorem grow_new8 {w a b : World} {x g : Nat} (h : w.grownBy a (some x)) (hg : a.grownBy b (some g)) (hB : w.heap.size ≤ g) : w.grownBy b (some x) :=
  ⟨hg.os.trans h.os, hg.tape.trans h.tape, hg.output.trans h.output, Nat.le_trans h.size hg.size, fun k hk hne => (hg.block k (Nat.lt_of_lt_of_le hk h.size) (by simp; omega)).trans (h.block k hk hne)⟩
abbrev cOne : Array Value := #[.int .u8 111, .int .u8 110, .int .u8 101]
abbrev cOther : Array Value := #[.int .u8 111, .int .u8 116, .int .u8 104, .int .u8 101, .int .u8 114]
theorem two_lits (w : World) : Shows ((w.alloc (.cells cOne 5 (3, 4))).alloc (.cells cOther 5 (5, 6))) ((w.alloc (.cells cOne 5 (3, 4))).alloc (.cells cOther 5 (5, 6))).heap.size (some ⟨w.heap.size, 0, none⟩) 3 3 iOne ∧
    Shows ((w.alloc (.cells cOne 5 (3, 4))).alloc (.cells cOther 5 (5, 6))) ((w.alloc (.cells cOne 5 (3, 4))).alloc (.cells cOther 5 (5, 6))).heap.size (some ⟨w.heap.size + 1, 0, none⟩) 5 5 iOther ∧
    Below w.heap.size w ((w.alloc (.cells cOne 5 (3, 4))).alloc (.cells cOther 5 (5, 6))) := by
  have h1 := shows_cells w 5 (3, 4) iOne (by decide)
  have h2 := shows_cells (w.alloc (.cells cOne 5 (3, 4))) 5 (5, 6) iOther (by decide)
  have b1 := below_new (Below.refl w.heap.size w) (.cells cOne 5 (3, 4))
  have b2 := below_new (Below.refl (w.alloc (.cells cOne 5 (3, 4))).heap.size (w.alloc (.cells cOne 5 (3, 4)))) (.cells cOther 5 (5, 6))
  have e1 : (bc iOne).toArray = cOne := rfl
  have e2 : (bc iOther).toArray = cOther := rfl
  rw [e1] at h1
  rw [e2] at h2
  have z1 : (w.alloc (.cells cOne 5 (3, 4))).heap.size = w.heap.size + 1 := by simp
  have z2 : ((w.alloc (.cells cOne 5 (3, 4))).alloc (.cells cOther 5 (5, 6))).heap.size = w.heap.size + 1 + 1 := by simp
  rw [z1] at h2 b2
  rw [z2]
  exact ⟨(h1.below b2).more (by omega), h2, b1.trans (b2.mono (by omega))⟩

set_option maxHeartbeats 8000000 in
theorem slotsLast_walk (A : Option Addr) (n cap : Nat) (zs : List Int) (w : World) (hT : Tables w) (hx : Lays w w.heap.size A n cap (zs.map (Value.int .i64))) (_hxr : ∀ z ∈ zs, (Lit.int .i64 z).wf = true) :
    Calls Tryd.prog 3 #[.slice A n cap] w fun e w' => e = .returned (.bool true) ∧ Below w.heap.size w w' := by
  have kc := fun (w : World) (C : Array Value) (n c : Nat) => Lib.run_convert_bytes_const (P := Tryd.prog) w 26 5 C n c Tryd.underlying26 Tryd.underlying5
  have kd : ∀ (w : World) (O : Obj) (C : Array Value) (n c : Nat), (convert 26 26 (.slice (some ⟨w.heap.size + 1, 0, none⟩) n c)).run Tryd.prog ((w.alloc O).alloc (.cells C 5)) = .ok (.slice (some ⟨w.heap.size + 1, 0, none⟩) n c) ((w.alloc O).alloc (.cells C 5 (C.size, C.size + 1))) := by
    intro w O C n c
    have := kc (w.alloc O) C n c
    simpa using this
  have HT := Lib.hid hT
  have HX := Lib.hid hx
  obtain ⟨E, hE⟩ : ∃ E, lastE zs = E := ⟨_, rfl⟩
  obtain ⟨m1, a1, M1, i1, _⟩ := (marked_fresh E).store 0 (by decide) iOne (by decide)
  obtain ⟨m2, a2, M2, i2, o2⟩ := M1.store 1 (by decide) iOther (by decide)
  have i02 : imgM m2 0 = some iOne := (o2 0 (by decide) (by decide)).trans i1
  have i12 : imgM m2 1 = some iOther := i2
  rw [show ((0 : Nat) : Int) = 0 from rfl] at a1
  rw [show ((1 : Nat) : Int) = 1 from rfl] at a2
  have HM := Lib.hid (And.intro a1 (And.intro a2 (And.intro M2 (And.intro i02 (And.intro i12 hE)))))
  clear hT hx hE a1 a2 M1 M2 i1 i2 o2 i02 i12
  go_enter Tryd.func3, Tryd.ntmps3
  go_wp2_with fail
  (with_reducible refine (known6_any w HT.out).mono ?_)
  rintro _ w1 ⟨rfl, hb1⟩
  have HB1 := Lib.hid hb1
  clear hb1
  go_wp2_with fail
  (with_reducible refine (new_any _).mono ?_)
  rintro _ w2 ⟨rfl, hf2, hb2⟩
  obtain ⟨x, hx⟩ : ∃ x, w1.heap.size = x := ⟨_, rfl⟩
  have hxl := hf2.lt
  rw [hx] at hf2 hxl ⊢
  have H2 := Lib.hid (And.intro hf2 (And.intro (step_below HB1.out hb2) (And.intro (show w.heap.size ≤ x by have := HB1.out.size; omega) hxl)))
  clear hf2 hb2 hx hxl HB1
  go_upto_region 5 with fail
  obtain ⟨t1, t2, t3⟩ := two_lits w2
  obtain ⟨L, hL⟩ : ∃ L, w2.heap.size = L := ⟨_, rfl⟩
  obtain ⟨W, hW⟩ : ∃ W, (w2.alloc (.cells cOne 5 (3, 4))).alloc (.cells cOther 5 (5, 6)) = W := ⟨_, rfl⟩
  have hxL : x < L := by rw [← hL]; exact H2.out.2.2.2
  have hbW : Below w.heap.size w W := by rw [← hW]; exact step_below H2.out.2.1 t3
  have hfW : Fl W x Mem.fresh := by rw [← hW]; exact H2.out.1.below t3
  change Code.wp _ _ _ _ ((w2.alloc (.cells cOne 5 (3, 4))).alloc (.cells cOther 5 (5, 6)))
  rw [hL, hW] at t1 t2
  rw [hL, hW]
  have HW := Lib.hid (And.intro t1 (And.intro t2 (And.intro hbW (And.intro (show x ≠ L by omega) (And.intro (show x ≠ L + 1 by omega) H2.out.2.2.1)))))
  have HST := Lib.hid (store_any x Mem.fresh 0 (some ⟨L, 0, none⟩) 3 3 iOne W hfW t1 (by decide) (fun p hp _ => by injection hp with hp; subst hp; show L ≠ x; omega))
  rw [HM.out.1] at HST
  clear t1 t2 t3 hL hW hbW hfW H2
  go_wp2_with fail
  refine HST.out.mono ?_
  rintro _ w3 ⟨rfl, hf3, hg3⟩
  have HST := Lib.hid (store_any x m1 1 (some ⟨L + 1, 0, none⟩) 5 5 iOther w3 hf3 (shows_beside HW.out.2.1 hg3 (fun p hp _ => by injection hp with hp; subst hp; show L + 1 ≠ x; omega)) (by decide) (fun p hp _ => by injection hp with hp; subst hp; show L + 1 ≠ x; omega))
  rw [HM.out.2.1] at HST
  have HG3 := Lib.hid hg3
  clear hf3 hg3
  go_wp2_with fail
  refine HST.out.mono ?_
  rintro _ w4 ⟨rfl, hf4, hg4⟩
  have HJ0 : Hid (∃ m t c, Fl w4 x m ∧ Marked m E t c ∧ 16 * t + c = 0 ∧ imgM m 0 = some iOne ∧ imgM m 1 = some iOther ∧ W.grownBy w4 (some x)) :=
    Lib.hid ⟨m2, 0, 0, hf4, HM.out.2.2.1, rfl, HM.out.2.2.2.1, HM.out.2.2.2.2.1, HG3.out.trans hg4⟩
  clear hf4 hg4 HST HG3
  go_wp2_with fail
  go_loopw [6, 7] (fun a i wr => ∃ r d : Nat, r ≤ n ∧ r ≤ 50 ∧ d ≤ 2 ∧ i = .int .i64 r ∧ a = .int .i64 d ∧ Hid (∃ m t c, Fl wr x m ∧ Marked m E t c ∧ 16 * t + c = r ∧ imgM m 0 = some iOne ∧ imgM m 1 = some iOther ∧ W.grownBy wr (some x))) (fun _ i _ => 50 - (intOf i).toNat)
  case atStart => exact ⟨0, 2, by omega, by omega, by omega, rfl, rfl, HJ0⟩
  case round =>
    clear HJ0
    obtain ⟨r, dd, hrn, hr50, hd2, rfl, rfl, HJ⟩ := hrel
    by_cases hlt : r < n ∧ r < 50
    · obtain ⟨hr1, hr2⟩ := hlt
      have hri1 : (r : Int) < (n : Int) := by omega
      have hri2 : (r : Int) < 50 := by omega
      obtain ⟨m, t, c, hf, hM, hk3, hi0, hi1, hg⟩ := HJ.out
      have hbw : Below w.heap.size w wr := step_grow HW.out.2.2.1 hg HW.out.2.2.2.2.2
      obtain ⟨g, o, rfl, hcell⟩ := lays_cell HX.out hbw r hr1
      obtain ⟨z, hz⟩ : ∃ z, zs.getD r 0 = z := ⟨_, rfl⟩
      rw [hz] at hcell
      obtain ⟨d, hd⟩ : ∃ d : Nat, z % 3 = d := ⟨(z % 3).toNat, by omega⟩
      have hd3 : d < 3 := by omega
      have hEr : E (r + 1) = ⟨((r : Nat) : Int) + 1, d, if (d : Int) = 0 then sha iOne else if (d : Int) = 1 then sha iOther else List.replicate 32 0⟩ := by
        rw [← HM.out.2.2.2.2.2]
        exact lastE_next zs r d (by rw [hz, hd])
      have HD := Lib.hid hd
      have HR := Lib.hid (And.intro hf (And.intro hM (And.intro hk3 (And.intro hi0 (And.intro hi1 (And.intro hg (And.intro hbw hEr)))))))
      have hnb := noneB_built
      obtain ⟨BZ, hBZ⟩ : ∃ B, bc (List.replicate 32 0) = B := ⟨_, rfl⟩
      rw [hBZ] at hnb
      have hzl : BZ.length = 32 := by rw [← hBZ, bc_len]; simp
      have hzo : ∀ v ∈ BZ, v.oneCell' = true := by rw [← hBZ]; exact bc_one _
      have HN := Lib.hid (And.intro hnb (And.intro hBZ (And.intro hzl (And.intro hzo (hash_zero BZ hBZ)))))
      have HIZ := Lib.hid (hash_size BZ hzl)
      clear hd hz hf hM hk3 hi0 hi1 hg hbw hEr HJ hnb hBZ hzl hzo
      go_wp2_with fail
      (with_reducible refine (within6_any _ 3 _ (by decide) (by decide)).mono ?_)
      rintro _ w5 ⟨rfl, rfl⟩
      rw [HD.out]
      go_wp2_with (first
        | (refine wpList_build_is rfl 31 #[] rfl BZ.toArray ?_ ?_; (focus (go_simp; exact HN.out.1)))
        | (refine wpList_alloc_row rfl 31 rfl BZ HN.out.2.2.2.2 ?_))
      intro w5 hrow5 hb5 hsz5
      go_wp2_with (refine wpList_store_as rfl _ _ _ rfl wr.heap.size BZ rfl rfl 31 BZ hrow5 HIZ.out rfl HN.out.2.2.2.1 ?_)
      intro w6 hrow6 hoth6 hg6 hsz6
      have hb6 : Below wr.heap.size wr w6 := step_grow hb5 hg6 (Nat.le_refl _)
      obtain ⟨B8, hB8⟩ : ∃ B, wr.heap.size = B := ⟨_, rfl⟩
      have HQ := Lib.hid (And.intro (show Row w6 B8 31 BZ by rw [← hB8]; exact hrow6) (And.intro hb6 (show x < B8 by rw [← hB8]; exact HR.out.1.lt)))
      rw [hB8]
      have HB8 := Lib.hid hB8
      clear hrow5 hb5 hsz5 hrow6 hoth6 hg6 hsz6 hb6 hB8
      by_cases hdd : d = 2
      · subst hdd
        have hSl : (List.replicate 32 (0 : UInt8)).length = 32 := by simp
        have hf := HR.out.1
        have hM := HR.out.2.1
        have hk3 := HR.out.2.2.1
        have hEr : E (r + 1) = ⟨((r : Nat) : Int) + 1, 2, (List.replicate 32 0)⟩ := by rw [HR.out.2.2.2.2.2.2.2]; rfl
        obtain ⟨m', t', c', a3, s3, M3, k3, p3⟩ := hM.mark (by omega) 2 (by decide) (by decide) (List.replicate 32 0) hSl (by rw [hk3]; exact hEr)
        rw [hk3] at k3
        have j0 : imgM m' 0 = some iOne := (s3.img 0 (by decide)).trans HR.out.2.2.2.1
        have j1 : imgM m' 1 = some iOther := (s3.img 1 (by decide)).trans HR.out.2.2.2.2.1
        have hbm : bootM m' = (E (16 * t' + c'), []) := by rw [M3.boot p3 (by rw [k3, hEr]; rfl), if_pos (by rw [k3, hEr])]
        rw [k3, hEr] at hbm
        obtain ⟨CE, hCE⟩ : ∃ C, Ent.cells ⟨((r : Nat) : Int) + 1, 2, (List.replicate 32 0)⟩ = C := ⟨_, rfl⟩
        have hcl : CE.length = 34 := by rw [← hCE]; exact ent_len _ hSl
        have hco : ∀ v ∈ CE, v.oneCell' = true := by rw [← hCE]; exact sent_one _
        have hc0 : CE[0]? = some (.int .i64 (((r : Nat) : Int) + 1)) := by rw [← hCE]; rfl
        have hc1 : CE[1]? = some (.int .i64 2) := by rw [← hCE]; rfl
        obtain ⟨Z, hzl, hz0, hz⟩ := sent_zero
        have HZ := Lib.hid (And.intro hz (show Z.length = CE.length by rw [hzl, hcl]))
        have HIE := Lib.hid (sent_size CE hcl)
        have HMD := Lib.hid (And.intro hbm (And.intro hCE (And.intro hco (And.intro hc0 (And.intro hc1 (And.intro M3 (And.intro k3 (And.intro j0 j1))))))))
        have HMK := Lib.hid (mark_any x m 2 (List.replicate 32 0) w6 (hf.below HQ.out.2.1) hSl (by decide) (by decide))
        rw [a3, HN.out.2.1] at HMK
        have HRS := Lib.hid (HQ.out.1.range 0 BZ (fun j v hv => by rw [Nat.zero_add]; exact hv))
        have HGS := Lib.hid (HR.out.2.2.2.2.2.1.trans (below_grow HQ.out.2.1 (some x)))
        have HIX := HIZ
        clear hf hM hk3 hEr a3 s3 M3 k3 p3 j0 j1 hbm hCE hcl hco hc0 hc1 hz hzl hz0 hSl

        go_wp2_with (first
          | (refine wpList_load_mid rfl 31 (.tmp 8) rfl B8 0 rfl BZ _ HRS.out Tryd.underlying31 rfl HIX.out ?_))
        refine HMK.out.mono ?_
        rintro _ wa ⟨rfl, hfa, hga⟩
        have HGA := Lib.hid (HGS.out.trans hga)
        have hba : Below w.heap.size w wa := step_grow HW.out.2.2.1 HGA.out HW.out.2.2.2.2.2
        have HBO := Lib.hid (boot_any x m' wa hfa (HT.out.below hba))
        have HFA := Lib.hid (And.intro hfa hfa.lt)
        clear hfa hga hba HMK HRS
        go_wp2_with fail
        refine HBO.out.mono ?_
        rintro _ wb ⟨A8, n8, c8, rfl, hs8, hb8, _⟩
        rw [HMD.out.1] at hs8 ⊢
        simp only at hs8 ⊢
        rw [HMD.out.2.1]
        have H8 := Lib.hid (And.intro hs8 hb8)
        clear hs8 hb8 HBO
        go_wp2_with (refine wpList_alloc_row rfl 36 rfl Z HZ.out.1 ?_)
        intro wc hrowc hbc hszc
        go_wp2_with (refine wpList_store_as rfl _ _ _ rfl wb.heap.size CE rfl rfl 36 Z hrowc HIE.out HZ.out.2 HMD.out.2.2.1 ?_)
        intro wd hrowd hothd hgd hszd
        have hbd : Below wb.heap.size wb wd := step_grow hbc hgd (Nat.le_refl _)
        have hbad : Below wa.heap.size wa wd := step_below H8.out.2 hbd
        have k0 := hrowd.cell HMD.out.2.2.2.1
        have k1 := hrowd.cell HMD.out.2.2.2.2.1
        have v1 := (shows_later H8.out.1 hbd).conv (P := Tryd.prog) Tryd.underlying26 Tryd.underlying5 Tryd.underlying9
        have HJ1 := Lib.hid (show ∃ m t c, Fl wd x m ∧ Marked m E t c ∧ 16 * t + c = r + 1 ∧ imgM m 0 = some iOne ∧ imgM m 1 = some iOther ∧ W.grownBy wd (some x) from
          ⟨m', t', c', HFA.out.1.below hbad, HMD.out.2.2.2.2.2.1, HMD.out.2.2.2.2.2.2.1, HMD.out.2.2.2.2.2.2.2.1, HMD.out.2.2.2.2.2.2.2.2, HGA.out.trans (below_grow hbad _)⟩)
        have hwr : IntKind.i64.wrap ((r : Int) + 1) = (r : Int) + 1 := by rw [IntKind.wrap_i64]; omega
        clear hrowc hbc hszc hrowd hothd hgd hszd hbd hbad HFA HGA H8
        
        go_wp2_with fail
        go_roundw
        case rel => exact ⟨r + 1, 2, by omega, by omega, by omega, by go_num, rfl, HJ1⟩
        case measure => simp [intOf]; omega
      · have h01 : d = 0 ∨ d = 1 := by omega
        rcases h01 with h01 | h01
        · subst h01
          have hSl : (sha iOne).length = 32 := sha_len _
          have hf := HR.out.1
          have hM := HR.out.2.1
          have hk3 := HR.out.2.2.1
          have hEr : E (r + 1) = ⟨((r : Nat) : Int) + 1, 0, (sha iOne)⟩ := by rw [HR.out.2.2.2.2.2.2.2]; rfl
          obtain ⟨m', t', c', a3, s3, M3, k3, p3⟩ := hM.mark (by omega) 0 (by decide) (by decide) (sha iOne) hSl (by rw [hk3]; exact hEr)
          rw [hk3] at k3
          have j0 : imgM m' 0 = some iOne := (s3.img 0 (by decide)).trans HR.out.2.2.2.1
          have j1 : imgM m' 1 = some iOther := (s3.img 1 (by decide)).trans HR.out.2.2.2.2.1
          have hbm : bootM m' = (E (16 * t' + c'), iOne) := M3.boot_img p3 0 (by decide) iOne j0 (by rw [k3, hEr]; rfl) (by rw [k3, hEr])
          rw [k3, hEr] at hbm
          obtain ⟨CE, hCE⟩ : ∃ C, Ent.cells ⟨((r : Nat) : Int) + 1, 0, (sha iOne)⟩ = C := ⟨_, rfl⟩
          have hcl : CE.length = 34 := by rw [← hCE]; exact ent_len _ hSl
          have hco : ∀ v ∈ CE, v.oneCell' = true := by rw [← hCE]; exact sent_one _
          have hc0 : CE[0]? = some (.int .i64 (((r : Nat) : Int) + 1)) := by rw [← hCE]; rfl
          have hc1 : CE[1]? = some (.int .i64 0) := by rw [← hCE]; rfl
          obtain ⟨Z, hzl, hz0, hz⟩ := sent_zero
          have HZ := Lib.hid (And.intro hz (show Z.length = CE.length by rw [hzl, hcl]))
          have HIE := Lib.hid (sent_size CE hcl)
          have HMD := Lib.hid (And.intro hbm (And.intro hCE (And.intro hco (And.intro hc0 (And.intro hc1 (And.intro M3 (And.intro k3 (And.intro j0 j1))))))))
          obtain ⟨BX, hBX⟩ : ∃ B, bc (sha iOne) = B := ⟨_, rfl⟩
          have hxl : BX.length = 32 := by rw [← hBX, bc_len]; exact sha_len _
          have hxo : ∀ v ∈ BX, v.oneCell' = true := by rw [← hBX]; exact bc_one _
          have HIX := Lib.hid (hash_size BX hxl)
          have HBX := Lib.hid (And.intro hBX (And.intro hxo (show BZ.length = BX.length by rw [HN.out.2.2.1, hxl])))
          have HA3 := Lib.hid a3
          have HF := Lib.hid hf
          clear hf hM hk3 hEr a3 s3 M3 k3 p3 j0 j1 hbm hCE hcl hco hc0 hc1 hz hzl hz0 hSl
          clear hBX hxl hxo
          go_wp2_with fail
          have hb7 := below_new (Below.refl w6.heap.size w6) (.cells #[.slice (some ⟨L, 0, none⟩) 3 3, .slice (some ⟨L + 1, 0, none⟩) 5 5] 26)
          have hg7 : W.grownBy (w6.alloc (.cells #[.slice (some ⟨L, 0, none⟩) 3 3, .slice (some ⟨L + 1, 0, none⟩) 5 5] 26)) (some x) := (HR.out.2.2.2.2.2.1.trans (below_grow HQ.out.2.1 (some x))).trans (below_grow hb7 (some x))
          have HSU := Lib.hid (refsum3_any (some ⟨L, 0, none⟩) 3 3 iOne _ (shows_beside HW.out.1 hg7 (fun p hp _ => by injection hp with hp; subst hp; show L ≠ x; have := HW.out.2.2.2.1; have := HW.out.2.2.2.2.1; omega)) (by decide))
          rw [HBX.out.1] at HSU
          have HG7 := Lib.hid (And.intro hg7 hb7)
          clear hb7 hg7
          refine HSU.out.mono ?_
          rintro _ w8 ⟨rfl, hb8⟩
          have hr8 : Row w8 B8 31 BZ := (HQ.out.1.below HG7.out.2 HQ.out.1.lt).below hb8 (Nat.lt_of_lt_of_le HQ.out.1.lt HG7.out.2.size)
          have hb68 : Below w6.heap.size w6 w8 := step_below HG7.out.2 hb8
          have hg8 : W.grownBy w8 (some x) := (HR.out.2.2.2.2.2.1.trans (below_grow HQ.out.2.1 (some x))).trans (below_grow hb68 (some x))
          have H8s := Lib.hid (And.intro hr8 (And.intro hb68 hg8))
          clear hr8 hb8 hb68 hg8 HSU HG7
          go_wp2_with (first
            | (refine wpList_store_as rfl _ _ _ rfl B8 BX rfl rfl 31 BZ H8s.out.1 HIX.out HBX.out.2.2 HBX.out.2.1 ?_))
          intro w9 hrow9 hoth9 hg9 hsz9
          have hf9 : Fl w9 x m := ((HF.out.below HQ.out.2.1).below H8s.out.2.1).kept hg9 (by have := HQ.out.2.2; omega) _ _ H8s.out.1 (by decide)
          have HMK := Lib.hid (mark_any x m 0 (sha iOne) w9 hf9 (sha_len _) (by decide) (by decide))
          rw [HA3.out, HBX.out.1] at HMK
          have HRS := Lib.hid (hrow9.range 0 BX (fun j v hv => by rw [Nat.zero_add]; exact hv))
          have HGS := Lib.hid (show W.grownBy w9 (some x) from grow_new8 H8s.out.2.2 hg9 (by
            have h1 := HR.out.2.2.2.2.2.1.size
            have h2 := HQ.out.2.2
            exact HB8.out ▸ h1))
          clear hrow9 hoth9 hg9 hsz9 hf9 H8s HA3 HF

          go_wp2_with (first
            | (refine wpList_load_mid rfl 31 (.tmp 8) rfl B8 0 rfl BX _ HRS.out Tryd.underlying31 rfl HIX.out ?_))
          refine HMK.out.mono ?_
          rintro _ wa ⟨rfl, hfa, hga⟩
          have HGA := Lib.hid (HGS.out.trans hga)
          have hba : Below w.heap.size w wa := step_grow HW.out.2.2.1 HGA.out HW.out.2.2.2.2.2
          have HBO := Lib.hid (boot_any x m' wa hfa (HT.out.below hba))
          have HFA := Lib.hid (And.intro hfa hfa.lt)
          clear hfa hga hba HMK HRS
          go_wp2_with fail
          refine HBO.out.mono ?_
          rintro _ wb ⟨A8, n8, c8, rfl, hs8, hb8, _⟩
          rw [HMD.out.1] at hs8 ⊢
          simp only at hs8 ⊢
          rw [HMD.out.2.1]
          have H8 := Lib.hid (And.intro hs8 hb8)
          clear hs8 hb8 HBO
          go_wp2_with (refine wpList_alloc_row rfl 36 rfl Z HZ.out.1 ?_)
          intro wc hrowc hbc hszc
          go_wp2_with (refine wpList_store_as rfl _ _ _ rfl wb.heap.size CE rfl rfl 36 Z hrowc HIE.out HZ.out.2 HMD.out.2.2.1 ?_)
          intro wd hrowd hothd hgd hszd
          have hbd : Below wb.heap.size wb wd := step_grow hbc hgd (Nat.le_refl _)
          have hbad : Below wa.heap.size wa wd := step_below H8.out.2 hbd
          have HV := Lib.hid (And.intro hrowd (And.intro (shows_later H8.out.1 hbd) hrowd.lt))
          have HJ1 := Lib.hid (show ∃ m t c, Fl wd x m ∧ Marked m E t c ∧ 16 * t + c = r + 1 ∧ imgM m 0 = some iOne ∧ imgM m 1 = some iOther ∧ W.grownBy wd (some x) from
            ⟨m', t', c', HFA.out.1.below hbad, HMD.out.2.2.2.2.2.1, HMD.out.2.2.2.2.2.2.1, HMD.out.2.2.2.2.2.2.2.1, HMD.out.2.2.2.2.2.2.2.2, HGA.out.trans (below_grow hbad _)⟩)
          have hwr : IntKind.i64.wrap ((r : Int) + 1) = (r : Int) + 1 := by rw [IntKind.wrap_i64]; omega
          clear hrowc hbc hszc hrowd hothd hgd hszd hbd hbad HFA HGA H8
          obtain ⟨E9, hE9⟩ : ∃ E9, wb.heap.size = E9 := ⟨_, rfl⟩
          rw [hE9] at HV ⊢
          clear hE9
          go_upto_region 21 with fail
          have hbs := below_new (Below.refl wd.heap.size wd) (.cells #[.string ⟨#[111, 110, 101]⟩, .string ⟨#[111, 116, 104, 101, 114]⟩] 9)
          have k0 := (HV.out.1.below hbs HV.out.2.2).cell HMD.out.2.2.2.1
          have k1 := (HV.out.1.below hbs HV.out.2.2).cell HMD.out.2.2.2.2.1
          have v1 := (shows_later HV.out.2.1 hbs).conv (P := Tryd.prog) Tryd.underlying26 Tryd.underlying5 Tryd.underlying9
          have HJ2 := Lib.hid (show ∃ m t c, Fl (wd.alloc (.cells #[.string ⟨#[111, 110, 101]⟩, .string ⟨#[111, 116, 104, 101, 114]⟩] 9)) x m ∧ Marked m E t c ∧ 16 * t + c = r + 1 ∧ imgM m 0 = some iOne ∧ imgM m 1 = some iOther ∧ W.grownBy (wd.alloc (.cells #[.string ⟨#[111, 110, 101]⟩, .string ⟨#[111, 116, 104, 101, 114]⟩] 9)) (some x) from by
            obtain ⟨m, t, c, h1, h2, h3, h4, h5, h6⟩ := HJ1.out
            exact ⟨m, t, c, h1.below hbs, h2, h3, h4, h5, h6.trans (below_grow hbs _)⟩)
          clear hbs HV HJ1
          go_wp2_with fail
          go_roundw
          case rel => exact ⟨r + 1, 0, by omega, by omega, by omega, by go_num, rfl, HJ2⟩
          case measure => simp [intOf]; omega

        · subst h01
          have hSl : (sha iOther).length = 32 := sha_len _
          have hf := HR.out.1
          have hM := HR.out.2.1
          have hk3 := HR.out.2.2.1
          have hEr : E (r + 1) = ⟨((r : Nat) : Int) + 1, 1, (sha iOther)⟩ := by rw [HR.out.2.2.2.2.2.2.2]; rfl
          obtain ⟨m', t', c', a3, s3, M3, k3, p3⟩ := hM.mark (by omega) 1 (by decide) (by decide) (sha iOther) hSl (by rw [hk3]; exact hEr)
          rw [hk3] at k3
          have j0 : imgM m' 0 = some iOne := (s3.img 0 (by decide)).trans HR.out.2.2.2.1
          have j1 : imgM m' 1 = some iOther := (s3.img 1 (by decide)).trans HR.out.2.2.2.2.1
          have hbm : bootM m' = (E (16 * t' + c'), iOther) := M3.boot_img p3 1 (by decide) iOther j1 (by rw [k3, hEr]; rfl) (by rw [k3, hEr])
          rw [k3, hEr] at hbm
          obtain ⟨CE, hCE⟩ : ∃ C, Ent.cells ⟨((r : Nat) : Int) + 1, 1, (sha iOther)⟩ = C := ⟨_, rfl⟩
          have hcl : CE.length = 34 := by rw [← hCE]; exact ent_len _ hSl
          have hco : ∀ v ∈ CE, v.oneCell' = true := by rw [← hCE]; exact sent_one _
          have hc0 : CE[0]? = some (.int .i64 (((r : Nat) : Int) + 1)) := by rw [← hCE]; rfl
          have hc1 : CE[1]? = some (.int .i64 1) := by rw [← hCE]; rfl
          obtain ⟨Z, hzl, hz0, hz⟩ := sent_zero
          have HZ := Lib.hid (And.intro hz (show Z.length = CE.length by rw [hzl, hcl]))
          have HIE := Lib.hid (sent_size CE hcl)
          have HMD := Lib.hid (And.intro hbm (And.intro hCE (And.intro hco (And.intro hc0 (And.intro hc1 (And.intro M3 (And.intro k3 (And.intro j0 j1))))))))
          obtain ⟨BX, hBX⟩ : ∃ B, bc (sha iOther) = B := ⟨_, rfl⟩
          have hxl : BX.length = 32 := by rw [← hBX, bc_len]; exact sha_len _
          have hxo : ∀ v ∈ BX, v.oneCell' = true := by rw [← hBX]; exact bc_one _
          have HIX := Lib.hid (hash_size BX hxl)
          have HBX := Lib.hid (And.intro hBX (And.intro hxo (show BZ.length = BX.length by rw [HN.out.2.2.1, hxl])))
          have HA3 := Lib.hid a3
          have HF := Lib.hid hf
          clear hf hM hk3 hEr a3 s3 M3 k3 p3 j0 j1 hbm hCE hcl hco hc0 hc1 hz hzl hz0 hSl
          clear hBX hxl hxo
          go_wp2_with fail
          have hb7 := below_new (Below.refl w6.heap.size w6) (.cells #[.slice (some ⟨L, 0, none⟩) 3 3, .slice (some ⟨L + 1, 0, none⟩) 5 5] 26)
          have hg7 : W.grownBy (w6.alloc (.cells #[.slice (some ⟨L, 0, none⟩) 3 3, .slice (some ⟨L + 1, 0, none⟩) 5 5] 26)) (some x) := (HR.out.2.2.2.2.2.1.trans (below_grow HQ.out.2.1 (some x))).trans (below_grow hb7 (some x))
          have HSU := Lib.hid (refsum3_any (some ⟨L + 1, 0, none⟩) 5 5 iOther _ (shows_beside HW.out.2.1 hg7 (fun p hp _ => by injection hp with hp; subst hp; show L + 1 ≠ x; have := HW.out.2.2.2.1; have := HW.out.2.2.2.2.1; omega)) (by decide))
          rw [HBX.out.1] at HSU
          have HG7 := Lib.hid (And.intro hg7 hb7)
          clear hb7 hg7
          refine HSU.out.mono ?_
          rintro _ w8 ⟨rfl, hb8⟩
          have hr8 : Row w8 B8 31 BZ := (HQ.out.1.below HG7.out.2 HQ.out.1.lt).below hb8 (Nat.lt_of_lt_of_le HQ.out.1.lt HG7.out.2.size)
          have hb68 : Below w6.heap.size w6 w8 := step_below HG7.out.2 hb8
          have hg8 : W.grownBy w8 (some x) := (HR.out.2.2.2.2.2.1.trans (below_grow HQ.out.2.1 (some x))).trans (below_grow hb68 (some x))
          have H8s := Lib.hid (And.intro hr8 (And.intro hb68 hg8))
          clear hr8 hb8 hb68 hg8 HSU HG7
          go_wp2_with (first
            | (refine wpList_store_as rfl _ _ _ rfl B8 BX rfl rfl 31 BZ H8s.out.1 HIX.out HBX.out.2.2 HBX.out.2.1 ?_))
          intro w9 hrow9 hoth9 hg9 hsz9
          have hf9 : Fl w9 x m := ((HF.out.below HQ.out.2.1).below H8s.out.2.1).kept hg9 (by have := HQ.out.2.2; omega) _ _ H8s.out.1 (by decide)
          have HMK := Lib.hid (mark_any x m 1 (sha iOther) w9 hf9 (sha_len _) (by decide) (by decide))
          rw [HA3.out, HBX.out.1] at HMK
          have HRS := Lib.hid (hrow9.range 0 BX (fun j v hv => by rw [Nat.zero_add]; exact hv))
          have HGS := Lib.hid (show W.grownBy w9 (some x) from grow_new8 H8s.out.2.2 hg9 (by
            have h1 := HR.out.2.2.2.2.2.1.size
            have h2 := HQ.out.2.2
            exact HB8.out ▸ h1))
          clear hrow9 hoth9 hg9 hsz9 hf9 H8s HA3 HF

          go_wp2_with (first
            | (refine wpList_load_mid rfl 31 (.tmp 8) rfl B8 0 rfl BX _ HRS.out Tryd.underlying31 rfl HIX.out ?_))
          refine HMK.out.mono ?_
          rintro _ wa ⟨rfl, hfa, hga⟩
          have HGA := Lib.hid (HGS.out.trans hga)
          have hba : Below w.heap.size w wa := step_grow HW.out.2.2.1 HGA.out HW.out.2.2.2.2.2
          have HBO := Lib.hid (boot_any x m' wa hfa (HT.out.below hba))
          have HFA := Lib.hid (And.intro hfa hfa.lt)
          clear hfa hga hba HMK HRS
          go_wp2_with fail
          refine HBO.out.mono ?_
          rintro _ wb ⟨A8, n8, c8, rfl, hs8, hb8, _⟩
          rw [HMD.out.1] at hs8 ⊢
          simp only at hs8 ⊢
          rw [HMD.out.2.1]
          have H8 := Lib.hid (And.intro hs8 hb8)
          clear hs8 hb8 HBO
          go_wp2_with (refine wpList_alloc_row rfl 36 rfl Z HZ.out.1 ?_)
          intro wc hrowc hbc hszc
          go_wp2_with (refine wpList_store_as rfl _ _ _ rfl wb.heap.size CE rfl rfl 36 Z hrowc HIE.out HZ.out.2 HMD.out.2.2.1 ?_)
          intro wd hrowd hothd hgd hszd
          have hbd : Below wb.heap.size wb wd := step_grow hbc hgd (Nat.le_refl _)
          have hbad : Below wa.heap.size wa wd := step_below H8.out.2 hbd
          have HV := Lib.hid (And.intro hrowd (And.intro (shows_later H8.out.1 hbd) hrowd.lt))
          have HJ1 := Lib.hid (show ∃ m t c, Fl wd x m ∧ Marked m E t c ∧ 16 * t + c = r + 1 ∧ imgM m 0 = some iOne ∧ imgM m 1 = some iOther ∧ W.grownBy wd (some x) from
            ⟨m', t', c', HFA.out.1.below hbad, HMD.out.2.2.2.2.2.1, HMD.out.2.2.2.2.2.2.1, HMD.out.2.2.2.2.2.2.2.1, HMD.out.2.2.2.2.2.2.2.2, HGA.out.trans (below_grow hbad _)⟩)
          have hwr : IntKind.i64.wrap ((r : Int) + 1) = (r : Int) + 1 := by rw [IntKind.wrap_i64]; omega
          clear hrowc hbc hszc hrowd hothd hgd hszd hbd hbad HFA HGA H8
          obtain ⟨E9, hE9⟩ : ∃ E9, wb.heap.size = E9 := ⟨_, rfl⟩
          rw [hE9] at HV ⊢
          clear hE9
          go_upto_region 21 with fail
          have hbs := below_new (Below.refl wd.heap.size wd) (.cells #[.string ⟨#[111, 110, 101]⟩, .string ⟨#[111, 116, 104, 101, 114]⟩] 9)
          have k0 := (HV.out.1.below hbs HV.out.2.2).cell HMD.out.2.2.2.1
          have k1 := (HV.out.1.below hbs HV.out.2.2).cell HMD.out.2.2.2.2.1
          have v1 := (shows_later HV.out.2.1 hbs).conv (P := Tryd.prog) Tryd.underlying26 Tryd.underlying5 Tryd.underlying9
          have HJ2 := Lib.hid (show ∃ m t c, Fl (wd.alloc (.cells #[.string ⟨#[111, 110, 101]⟩, .string ⟨#[111, 116, 104, 101, 114]⟩] 9)) x m ∧ Marked m E t c ∧ 16 * t + c = r + 1 ∧ imgM m 0 = some iOne ∧ imgM m 1 = some iOther ∧ W.grownBy (wd.alloc (.cells #[.string ⟨#[111, 110, 101]⟩, .string ⟨#[111, 116, 104, 101, 114]⟩] 9)) (some x) from by
            obtain ⟨m, t, c, h1, h2, h3, h4, h5, h6⟩ := HJ1.out
            exact ⟨m, t, c, h1.below hbs, h2, h3, h4, h5, h6.trans (below_grow hbs _)⟩)
          clear hbs HV HJ1
          go_wp2_with fail
          go_roundw
          case rel => exact ⟨r + 1, 1, by omega, by omega, by omega, by go_num, rfl, HJ2⟩
          case measure => simp [intOf]; omega

    · obtain ⟨m, t, c, hf, hM, hk3, hi0, hi1, hg⟩ := HJ.out
      have hbw : Below w.heap.size w wr := step_grow HW.out.2.2.1 hg HW.out.2.2.2.2.2
      have HBW := Lib.hid hbw
      have hend : (¬ (r : Int) < (n : Int)) ∨ ((r : Int) < (n : Int) ∧ ¬ (r : Int) < 50) := by omega
      by_cases hdd : dd = 2
      · subst hdd
        clear hf hM hk3 hi0 hi1 hg hbw HJ hlt
        rcases hend with h1 | ⟨h1, h2⟩
        all_goals (
          go_wp2_with fail
          go_ret
          exact ⟨rfl, HBW.out⟩)
      · have hd1 : dd < 2 := by omega
        obtain ⟨m', a3, M3, j0, j1⟩ := hM.store dd hd1 iThird (by decide)
        have M3' := M3
        rw [← HM.out.2.2.2.2.2] at M3'
        obtain ⟨g1, g2⟩ := last_gone M3' dd hd1 j0 (fun k hk hne => by
          rw [j1 k hk hne]
          match k, hk with
          | 0, _ => exact hi0
          | 1, _ => exact hi1)
        have hsum := bootM_sum m'
        obtain ⟨sl, hsl⟩ : ∃ sl, (bootM m').1.slot = sl := ⟨_, rfl⟩
        rw [hsl] at g1
        obtain ⟨CE, hCE⟩ : ∃ C, (bootM m').1.cells = C := ⟨_, rfl⟩
        have hcl : CE.length = 34 := by rw [← hCE]; exact ent_len _ hsum
        have hco : ∀ v ∈ CE, v.oneCell' = true := by rw [← hCE]; exact sent_one _
        have hc1 : CE[1]? = some (.int .i64 sl) := by rw [← hCE, ← hsl]; rfl
        obtain ⟨Z, hzl, hz0, hz⟩ := sent_zero
        have HZ := Lib.hid (And.intro hz (show Z.length = CE.length by rw [hzl, hcl]))
        have HIE := Lib.hid (sent_size CE hcl)
        have HMD := Lib.hid (And.intro hCE (And.intro hco (And.intro hc1 g2)))
        have hslb : (sl != (dd : Int)) = true := by simpa using g1
        have hddb : ((dd : Int) == 2) = false := by
          have : ¬ (dd : Int) = 2 := by omega
          simpa using this
        have hsh : Shows (wr.alloc (.cells (bc iThird).toArray 5 (5, 6))) (wr.alloc (.cells (bc iThird).toArray 5 (5, 6))).heap.size (some ⟨wr.heap.size, 0, none⟩) 5 5 iThird := by
          have h := shows_cells wr 5 (5, 6) iThird (by decide)
          have e : (wr.alloc (.cells (bc iThird).toArray 5 (5, 6))).heap.size = wr.heap.size + 1 := by simp
          rw [e]
          exact h
        have hbt := below_new (Below.refl wr.heap.size wr) (.cells (bc iThird).toArray 5 (5, 6))
        have hxl := hf.lt
        have HST := Lib.hid (store_any x m dd (some ⟨wr.heap.size, 0, none⟩) 5 5 iThird _ (hf.below hbt) hsh (by decide) (fun p hp _ => by injection hp with hp; subst hp; show wr.heap.size ≠ x; omega))
        rw [a3] at HST
        have HBT := Lib.hid (step_below hbw hbt)
        clear hf hM hk3 hi0 hi1 hg hbw HJ a3 M3 M3' j0 j1 g1 g2 hsum hsl hCE hcl hco hc1 hz hzl hz0 hsh hbt hxl hlt hdd
        rcases hend with h1 | ⟨h1, h2⟩
        all_goals (
          go_wp2_with fail
          refine HST.out.mono ?_
          rintro _ wa ⟨rfl, hfa, hga⟩
          have HBA := Lib.hid (step_grow HBT.out hga HW.out.2.2.2.2.2)
          have HBO := Lib.hid (boot_any x m' wa hfa (HT.out.below HBA.out))
          clear hfa hga HST
          go_wp2_with fail
          refine HBO.out.mono ?_
          rintro _ wb ⟨A8, n8, c8, rfl, hs8, hb8, _⟩
          rw [HMD.out.1]
          have HSH := Lib.hid hs8
          have HBB := Lib.hid (step_below HBA.out hb8)
          clear hs8 hb8 HBO
          go_wp2_with (refine wpList_alloc_row rfl 36 rfl Z HZ.out.1 ?_)
          intro wc hrowc hbc hszc
          go_wp2_with (refine wpList_store_as rfl _ _ _ rfl wb.heap.size CE rfl rfl 36 Z hrowc HIE.out HZ.out.2 HMD.out.2.1 ?_)
          intro wd hrowd hothd hgd hszd
          have hbd : Below wb.heap.size wb wd := step_grow hbc hgd (Nat.le_refl _)
          have HBD := Lib.hid (step_below HBB.out hbd)
          have k1 := hrowd.cell HMD.out.2.2.1
          clear hrowc hbc hszc hrowd hothd hgd hszd
          have him := HMD.out.2.2.2
          rcases him with him | him | him
          · rw [him] at HSH
            clear him
            have v1 : (convert 26 9 (.slice A8 n8 c8)).run Tryd.prog wd = .ok (.string ⟨#[]⟩) wd := (shows_later HSH.out hbd).conv (P := Tryd.prog) Tryd.underlying26 Tryd.underlying5 Tryd.underlying9
            clear hbd
            go_wp2_with fail
            go_ret
            exact ⟨rfl, HBD.out⟩
          · rw [him] at HSH
            clear him
            have v1 : (convert 26 9 (.slice A8 n8 c8)).run Tryd.prog wd = .ok (.string ⟨#[111, 110, 101]⟩) wd := (shows_later HSH.out hbd).conv (P := Tryd.prog) Tryd.underlying26 Tryd.underlying5 Tryd.underlying9
            clear hbd
            go_wp2_with fail
            go_ret
            exact ⟨rfl, HBD.out⟩
          · rw [him] at HSH
            clear him
            have v1 : (convert 26 9 (.slice A8 n8 c8)).run Tryd.prog wd = .ok (.string ⟨#[111, 116, 104, 101, 114]⟩) wd := (shows_later HSH.out hbd).conv (P := Tryd.prog) Tryd.underlying26 Tryd.underlying5 Tryd.underlying9
            clear hbd
            go_wp2_with fail
            go_ret
            exact ⟨rfl, HBD.out⟩)
end Go.Proofs.YtnbahpcajnjieaaDoor
