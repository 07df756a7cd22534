/- Chapter 6: the newest of some entries (the program's own function, and the library's MaxFunc at it). -/
import Derived.Test.YtmebdnblobobnaaGreatDoorSlEnts
import Derived.Test.YtmebdnblobobnaaGreatDoorSlCmp
import Derived.Deep.MidRow
import Derived.Laws.ResultCell
namespace Go.Proofs.YtmebdnblobobnaaGreatDoor
set_option maxRecDepth 100000
open Go.RowKit _root_.Go.Proofs.YtmebdnblobobnaaGreatDoor.Wd _root_.Go.Proofs.YtmebdnblobobnaaGreatDoor.Nm _root_.Go.Proofs.YtmebdnblobobnaaGreatDoor.Cm _root_.Go.Proofs.YtmebdnblobobnaaGreatDoor.Fm

theorem flat_pl : ∀ (ps : List Pl), (∀ p ∈ ps, p.e.sum.length = 32) → ∀ (j : Nat) (h : j < ps.length) (i : Nat), i < 36 → (ps.flatMap Pl.cells)[j * 36 + i]? = ps[j].cells[i]?
  | [], _, j, h, _, _ => absurd h (Nat.not_lt_zero j)
  | p :: r, hs, 0, _, i, hi => by
    have hl := p.cells_len (hs p (List.mem_cons_self ..))
    rw [List.flatMap_cons, Nat.zero_mul, Nat.zero_add, List.getElem?_append_left (by omega)]
    rfl
  | p :: r, hs, j + 1, h, i, hi => by
    have hl := p.cells_len (hs p (List.mem_cons_self ..))
    have ih := flat_pl r (fun y hy => hs y (List.mem_cons_of_mem _ hy)) j (by simpa using h) i hi
    rw [List.flatMap_cons, List.getElem?_append_right (by omega), hl, show (j + 1) * 36 + i - 36 = j * 36 + i by omega, ih]
    rfl
theorem OwnPl.spot {w : World} {base : Nat} {A : Option Addr} {n cap : Nat} {ps : List Pl} (h : OwnPl w base A n cap ps) (hn : 0 < n) :
    ∃ g, A = some ⟨g, 0, none⟩ ∧ base ≤ g ∧ g < w.heap.size ∧ ∀ j (hj : j < ps.length), w.rangeAt g (j * 36) ps[j].cells := by
  rcases h.own.2 with ⟨h', h0⟩ | ⟨g, cap', cur, h', hb, hg, _⟩
  · omega
  · injection h' with h1 h2 h3
    refine ⟨g, h1, hb, (Array.getElem?_eq_some_iff.1 hg).1, fun j hj i v hv => ?_⟩
    have hl := ps[j].cells_len (h.sum _ (List.getElem_mem hj))
    have hi : i < 36 := by
      have := (List.getElem?_eq_some_iff.1 hv).1
      omega
    have := h.own.cells (g := g) (by rw [h1]; rfl) (j * 36 + i) v (by rw [flat_pl ps h.sum j hj i hi]; exact hv)
    rw [Addr.add_lit, Nat.zero_add] at this
    exact this
theorem range_over {w w' : World} {B g o : Nat} {cs : List Value} (h : w.rangeAt g o cs) (hb : Below B w w') (hg : g < B) : w'.rangeAt g o cs := fun j v hv => (hb.cell (p := ⟨g, o + j, none⟩) hg).trans (h j v hv)
theorem pl_size (cs : List Value) (h : cs.length = 36) : (Tryz.prog.info? 75).map (·.size) = some cs.length := by
  obtain ⟨i0, hi0, hz0, hz1, hz2⟩ := info_parts pl_info
  rw [hi0, h]
  simp [hz1]
theorem pl_zero : ∃ Z : List Value, Z.length = 36 ∧ Pl.zero.cells = Z ∧ ∀ w : World, (zeroValue 75).run Tryz.prog w = .ok (.agg Z.toArray) w := by
  obtain ⟨i0, hi0, hz0, hz1, hz2⟩ := info_parts pl_info
  refine ⟨Pl.zero.cells, by simp [Pl.zero, Pl.cells, Ent.zero, Ent.cells, bc_len], rfl, fun w => ?_⟩
  simp [zeroValue, typeInfo, hi0, hz0]
theorem maxP_take (m : Pl) (r : List Pl) (j : Nat) (h : j < r.length) : maxP m (r.take (j + 1)) = if 0 < cmpP r[j] (maxP m (r.take j)) then r[j] else maxP m (r.take j) := by
  have happ : ∀ (a b : List Pl) (q : Pl), maxP q (a ++ b) = maxP (maxP q a) b := by
    intro a
    induction a with
    | nil => intro b q; rfl
    | cons x r ih => intro b q; exact ih b _
  rw [List.take_succ_eq_append_getElem h, happ]
  rfl

/-- A result cell of many words, alone. -/
theorem results_row_one {P : Program} {fn : Func} {p : Tmp} {ty : TypeId} (h : fn.results = #[.cell p ty]) (tmps : Array Value) (w : World) (g : Nat) (t : TypeId) (cs : Array Value) (fr : Nat × Nat) (d : TypeDesc)
    (hp : tmps.getD p undef = .pointer (some ⟨g, 0, none⟩)) (hg : w.heap[g]? = some (.cells cs t fr))
    (hu : P.underlying ty = some d) (hd : (match d with | .struct _ | .array _ _ => true | _ => false) = true) (hi : (P.info? ty).map (·.size) = some cs.size) :
    (results fn tmps).run P w = .ok (.agg cs) w := by
  have hp' : tmps[p]?.getD undef = .pointer (some ⟨g, 0, none⟩) := by simpa using hp
  simp only [results, h]
  simp [hp', asAddr, run_loadVar_row w g t ty cs fr d hg hu hd hi]

set_option maxHeartbeats 4000000 in
theorem max_any (A : Option Addr) (n cap base : Nat) (m : Pl) (r : List Pl) (w : World) (h : OwnPl w base A n cap (m :: r)) (hn : n ≤ 1000) :
    Calls Tryz.prog 61 #[.slice A n cap, .func (.func 62) #[] #[]] w fun e w' => e = .returned (.agg (maxP m r).cells.toArray) ∧ Below w.heap.size w w' := by
  have hlen := h.len
  simp only [List.length_cons] at hlen
  obtain ⟨g, rfl, _, hg, hc⟩ := h.spot (by omega)
  have hsum := h.sum
  have hm0 := hsum m (List.mem_cons_self ..)
  have hmax : ∀ k, (maxP m (r.take k)).e.sum.length = 32 := fun k => by
    rcases maxP_mem (r.take k) m with h' | h'
    · rw [h']; exact hm0
    · exact hsum _ (List.mem_cons_of_mem _ (List.mem_of_mem_take h'))
  have r0 := hc 0 (by simp)
  rw [Nat.zero_mul] at r0
  have e0 : (m :: r)[0].cells = m.cells := rfl
  rw [e0] at r0
  have hr : ∀ j (hj : j < r.length), w.rangeAt g ((j + 1) * 36) r[j].cells := fun j hj => hc (j + 1) (by simpa using hj)
  have hrs : ∀ j (hj : j < r.length), r[j].e.sum.length = 32 := fun j hj => hsum _ (List.mem_cons_of_mem _ (List.getElem_mem hj))
  obtain ⟨R0, hR0⟩ : ∃ R, maxP m r = R := ⟨_, rfl⟩
  obtain ⟨C0, hC0⟩ : ∃ C, m.cells = C := ⟨_, rfl⟩
  have hc0l := m.cells_len hm0
  have hc0o := m.one
  rw [hC0] at r0 hc0l hc0o
  rw [hR0]
  have HH := Lib.hid (And.intro hr (And.intro hrs (And.intro hmax hR0)))
  have H0 := Lib.hid (And.intro r0 (And.intro hc0l (And.intro hc0o hC0)))
  obtain ⟨Z, hzl, hz0, hz⟩ := pl_zero
  have HZ := Lib.hid (And.intro hz hzl)
  have hni : ¬ (n : Int) < 1 := by omega
  clear hc hsum hm0 hmax r0 e0 hr hrs hR0 hC0 hc0l hc0o h hz hzl hz0
  have HL := Lib.hid hlen
  clear hlen
  go_enter Tryz.func61, Tryz.ntmps61
  go_wp2_with (refine wpList_alloc_row rfl 75 rfl Z HZ.out.1 ?_)
  intro w1 hrow1 hb1 hsz1
  have hn0 : 0 < n := by have := HL.out; omega
  obtain ⟨R, hR⟩ : ∃ R, w.heap.size = R := ⟨_, rfl⟩
  have HB1 := Lib.hid (And.intro hrow1 (And.intro hb1 (And.intro hsz1 hR)))
  have HR := Lib.hid (range_over H0.out.1 hb1 hg)
  have HI := Lib.hid (pl_size C0 H0.out.2.1)
  have HZL := Lib.hid (show Z.length = C0.length by rw [HZ.out.2, H0.out.2.1])
  clear hrow1 hb1 hsz1
  rw [hR]
  clear hR
  go_wp2_with (first
    | (refine wpList_load_mid rfl 75 (.tmp 12) rfl g 0 rfl C0 _ HR.out Tryz.underlying75 rfl HI.out ?_)
    | (refine wpList_alloc_row rfl 75 rfl Z HZ.out.1 ?_))
  intro w2 hrow2 hb2 hsz2
  go_wp2_with (refine wpList_store_as rfl _ _ _ rfl w1.heap.size C0 rfl rfl 75 Z hrow2 HI.out HZL.out H0.out.2.2.1 ?_)
  intro w3 hrow3 hoth3 hg3 hsz3
  obtain ⟨E, hE⟩ : ∃ E, w1.heap.size = E := ⟨_, rfl⟩
  have HJ0 : Hid (Row w3 R 75 Z ∧ Row w3 E 75 (maxP m (r.take 0)).cells ∧ Below R w w3 ∧ R < E) := by
    obtain ⟨k1, k2, k3, k4⟩ := HB1.out
    rw [k4] at k1 k2 k3
    rw [hE] at hrow2 hb2 hsz2 hrow3 hoth3 hg3 hsz3 k3
    have l1 := k1.lt
    refine Lib.hid ⟨(hoth3 R (by omega)).trans ((hb2.block R (by omega)).trans k1), ?_, ?_, by omega⟩
    · show Row w3 E 75 m.cells
      rw [H0.out.2.2.2]; exact hrow3
    · exact ⟨hg3.os.trans (hb2.os.trans k2.os), hg3.tape.trans (hb2.tape.trans k2.tape), hg3.output.trans (hb2.output.trans k2.output), Nat.le_trans k2.size (Nat.le_trans hb2.size hg3.size), fun k hk => (hoth3 k (by omega)).trans ((hb2.block k (by omega)).trans (k2.block k hk))⟩
  have hgR : g < R := by have := HB1.out.2.2.2; omega
  have HRE := Lib.hid HB1.out.2.2.2
  rw [hE]
  clear hrow2 hb2 hsz2 hrow3 hoth3 hg3 hsz3 HB1 HR HI HZL hE
  go_wp2_with fail
  go_loopw [6] (fun i wr => ∃ p : Nat, 1 ≤ p ∧ p ≤ n ∧ i = .int .i64 p ∧ Hid (Row wr R 75 Z ∧ Row wr E 75 (maxP m (r.take (p - 1))).cells ∧ Below R w wr ∧ R < E)) (fun i _ => n - (intOf i).toNat)
  case atStart => exact ⟨1, by omega, by omega, rfl, HJ0⟩
  case round =>
    clear HJ0
    obtain ⟨p, hp1, hp, rfl, HJ⟩ := hrel
    by_cases hlt : p < n
    · have hpi : (p : Int) < (n : Int) := by omega
      have hpr : p - 1 < r.length := by have := HL.out; omega
      have hx := HH.out.1 (p - 1) hpr
      rw [show p - 1 + 1 = p by omega] at hx
      have hx2 : wr.rangeAt g (p * 36) r[p - 1].cells := range_over hx HJ.out.2.2.1 hgR
      have hxs := HH.out.2.1 (p - 1) hpr
      have hms := HH.out.2.2.1 (p - 1)
      have hnx := maxP_take m r (p - 1) hpr
      rw [show p - 1 + 1 = p by omega] at hnx
      have hxl := r[p - 1].cells_len hxs
      have hxo := r[p - 1].one
      obtain ⟨x, hxe⟩ : ∃ x, r[p - 1] = x := ⟨_, rfl⟩
      obtain ⟨y, hye⟩ : ∃ y, maxP m (r.take (p - 1)) = y := ⟨_, rfl⟩
      have HCMP := Lib.hid (compare_any x y wr.drew (by rw [← hxe]; exact hxs) (by rw [← hye]; exact hms))
      have hrowE := HJ.out.2.1
      rw [hxe, hye] at hnx
      rw [hxe] at hx2 hxl hxo
      rw [hye] at hrowE hms
      have hyl := y.cells_len hms
      obtain ⟨CX, hCX⟩ : ∃ C, x.cells = C := ⟨_, rfl⟩
      obtain ⟨CY, hCY⟩ : ∃ C, y.cells = C := ⟨_, rfl⟩
      rw [hCX] at hx2 hxl hxo HCMP
      rw [hCY] at hrowE hyl HCMP
      have HX := Lib.hid (And.intro hx2 (And.intro hxl (And.intro hxo (And.intro hrowE (And.intro hyl (And.intro hnx (And.intro hCX hCY)))))))
      have hIX := pl_size CX hxl
      have hIY := pl_size CY hyl
      have HI := Lib.hid (And.intro hIX hIY)
      have hEl := hrowE.lt
      have hgl : g < wr.heap.size := Nat.lt_of_lt_of_le hgR (Nat.le_trans (Nat.le_of_lt HJ.out.2.2.2) (Nat.le_of_lt hEl))
      clear hx hx2 hxs hms hnx hxl hxo hxe hye hrowE hyl hCX hCY hIX hIY
      go_wp2_with fail
      have hS0 : Below wr.heap.size wr wr.drew := (Below.refl _ wr).drew
      refine wp_region_held_drew (S := fun U => Below wr.heap.size wr U) (by kernel_rfl) hS0 (fun hH0 => ?_)
      refine wpAnyH_take (i := 0) (v := ?_) rfl (by kernel_rfl) (by kernel_rfl) (by kernel_rfl) (fun _ _ _ h => h) (Or.inl ⟨by rfl, ?_⟩) (by assumption) ?_
      rotate_left
      · intro w' hS'; go_simp; try exact rfl
      try simp only [Act.put, List.getElem_toArray, List.getElem_cons_zero, List.setIfInBounds_toArray, List.set_cons_zero, List.set_cons_succ]
      refine wpAnyH_take (i := 1) (v := ?_) rfl (by kernel_rfl) (by kernel_rfl) (by kernel_rfl) (fun _ _ _ h => h) (Or.inl ⟨by rfl, ?_⟩) (by assumption) ?_
      rotate_left
      · intro w' hS'; go_simp; try exact rfl
      try simp only [Act.put, List.getElem_toArray, List.getElem_cons_succ, List.getElem_cons_zero, List.setIfInBounds_toArray, List.set_cons_zero, List.set_cons_succ]
      refine wpAnyH_take (i := 2) (v := ?_) rfl (by kernel_rfl) (by kernel_rfl) (by kernel_rfl) (fun _ _ _ h => h) (Or.inl ⟨by rfl, ?_⟩) (by assumption) ?_
      rotate_left
      · intro w' hS'; go_simp; try exact rfl
      try simp only [Act.put, List.getElem_toArray, List.getElem_cons_succ, List.getElem_cons_zero, List.setIfInBounds_toArray, List.set_cons_zero, List.set_cons_succ]
      refine wpAnyH_take (i := 3) (v := ?_) rfl (by kernel_rfl) (by kernel_rfl) (by kernel_rfl) (fun _ _ _ h => h) (Or.inl ⟨by rfl, ?_⟩) (by assumption) ?_
      rotate_left
      · intro w' hS'; go_simp; try exact rfl
      try simp only [Act.put, List.getElem_toArray, List.getElem_cons_succ, List.getElem_cons_zero, List.setIfInBounds_toArray, List.set_cons_zero, List.set_cons_succ]
      refine wpAnyH_take (i := 4) (v := .agg CX.toArray) rfl (by kernel_rfl) (by kernel_rfl) (by kernel_rfl) (fun _ _ _ h => h) (yieldsIf_load_mid rfl 75 (.tmp 23) rfl g (p * 36) rfl CX _ (fun U hU => range_over HX.out.1 hU hgl) Tryz.underlying75 rfl HI.out.1) (by assumption) ?_
      try simp only [Act.put, List.getElem_toArray, List.getElem_cons_succ, List.getElem_cons_zero, List.setIfInBounds_toArray, List.set_cons_zero, List.set_cons_succ]
      refine wpAnyH_take (i := 5) (v := .agg CY.toArray) rfl (by kernel_rfl) (by kernel_rfl) (by kernel_rfl) (fun _ _ _ h => h) (yieldsIf_load_mid rfl 75 (.tmp 5) rfl E 0 rfl CY _ (fun U hU => range_over (HX.out.2.2.2.1.range 0 CY (fun j v hv => by rw [Nat.zero_add]; exact hv)) hU hEl) Tryz.underlying75 rfl HI.out.2) (by assumption) ?_
      try simp only [Act.put, List.getElem_toArray, List.getElem_cons_succ, List.getElem_cons_zero, List.setIfInBounds_toArray, List.set_cons_zero, List.set_cons_succ]
      refine wpAnyH_ready (rs := [6]) (by kernel_rfl) (by simp) ?_
      refine AllReadyH.cons rfl (fun K hK => ?_) AllReadyH.nil
      go_simp
      obtain ⟨c, hcc⟩ : ∃ c, cmpP x y = c := ⟨_, rfl⟩
      rw [hcc] at HCMP
      refine HCMP.out.mono ?_
      rintro _ w4 ⟨rfl, hb4⟩
      have hb4' : Below wr.heap.size wr w4 := ⟨hb4.os, hb4.tape, hb4.output, hb4.size, hb4.block⟩
      have HC := Lib.hid hcc
      clear hb4 HCMP hcc
      go_wp2_with fail
      refine hK.out _ _ hb4' (fun _ => ?_)
      clear hK K
      try simp only [Act.put, List.getElem_toArray, List.getElem_cons_succ, List.getElem_cons_zero, List.setIfInBounds_toArray, List.set_cons_zero, List.set_cons_succ]
      refine wpAnyH_take (i := 7) (v := ?_) rfl (by kernel_rfl) (by kernel_rfl) (by kernel_rfl) (fun _ _ _ h => h) (Or.inl ⟨by rfl, ?_⟩) (by assumption) ?_
      rotate_left
      · intro w' hS'; go_simp; try exact rfl
      try simp only [Act.put, List.getElem_toArray, List.getElem_cons_succ, List.getElem_cons_zero, List.setIfInBounds_toArray, List.set_cons_zero, List.set_cons_succ]
      refine wpAnyH_done (by kernel_rfl) ?_ _
      have hRr := HJ.out.1.below hb4' (Nat.lt_trans HJ.out.2.2.2 hEl)
      have hEr := HX.out.2.2.2.1.below hb4' hEl
      have hbr := HJ.out.2.2.1.trans (hb4'.mono (Nat.le_of_lt (Nat.lt_trans HJ.out.2.2.2 hEl)))
      have hxr := range_over HX.out.1 hb4' hgl
      have HN := Lib.hid (And.intro hRr (And.intro hEr (And.intro hbr (And.intro hxr HJ.out.2.2.2))))
      clear hS0 hH0 hb4' hRr hEr hbr hxr HJ
      by_cases hgt : 0 < c
      · have hX := HX.out.2.2.2.2.2.1
        have hcy : maxP m (r.take p) = x := by rw [hX, HC.out, if_pos hgt]
        have HXY := Lib.hid hcy
        have HLL := Lib.hid (show CY.length = CX.length by rw [HX.out.2.2.2.2.1, HX.out.2.1])
        clear hX hcy
        go_wp2_with (first
          | (refine wpList_load_mid rfl 75 (.tmp 30) rfl g (p * 36) rfl CX _ HN.out.2.2.2.1 Tryz.underlying75 rfl HI.out.1 ?_)
          | (refine wpList_store_as rfl _ _ _ rfl E CX rfl rfl 75 CY HN.out.2.1 HI.out.1 HLL.out HX.out.2.2.1 ?_))
        intro w5 hrow5 hoth5 hg5 hsz5
        have HM := Lib.hid (show Row w5 R 75 Z ∧ Row w5 E 75 CX ∧ Below R w w5 ∧ R < E from by
          obtain ⟨k1, k2, k3, _, k5⟩ := HN.out
          have l2 := k2.lt
          exact ⟨(hoth5 R (by omega)).trans k1, hrow5, ⟨hg5.os.trans k3.os, hg5.tape.trans k3.tape, hg5.output.trans k3.output, Nat.le_trans k3.size hg5.size, fun k hk => (hoth5 k (by omega)).trans (k3.block k hk)⟩, k5⟩)
        clear hrow5 hoth5 hg5 hsz5 HN
        go_wp2_with fail
        go_roundw
        case rel => exact ⟨p + 1, by omega, by omega, by go_num, by rw [show p + 1 - 1 = p by omega, HXY.out, HX.out.2.2.2.2.2.2.1]; exact HM⟩
        case measure => simp [intOf]; omega
      · have hX := HX.out.2.2.2.2.2.1
        have hcy : maxP m (r.take p) = y := by rw [hX, HC.out, if_neg hgt]
        have HXY := Lib.hid hcy
        clear hX hcy
        go_wp2_with fail
        go_roundw
        case rel => exact ⟨p + 1, by omega, by omega, by go_num, by rw [show p + 1 - 1 = p by omega, HXY.out, HX.out.2.2.2.2.2.2.2]; exact Lib.hid ⟨HN.out.1, HN.out.2.1, HN.out.2.2.1, HN.out.2.2.2.2⟩⟩
        case measure => simp [intOf]; omega
    · have hpn : p = n := by omega
      subst hpn
      have hall : r.take (p - 1) = r := List.take_of_length_le (by have := HL.out; omega)
      rw [hall] at HJ
      have hml := HH.out.2.2.1 r.length
      rw [List.take_of_length_le (Nat.le_refl _)] at hml
      have hmc := (maxP m r).cells_len hml
      have hmo := (maxP m r).one
      rw [HH.out.2.2.2] at HJ hmc hmo
      obtain ⟨CR, hCR⟩ : ∃ C, R0.cells = C := ⟨_, rfl⟩
      rw [hCR] at HJ hmc hmo
      have HI := Lib.hid (pl_size CR hmc)
      have HI2 := Lib.hid (show (Tryz.prog.info? 75).map (·.size) = some CR.toArray.size by rw [pl_size CR hmc]; simp)
      have HO := Lib.hid (And.intro hmo (And.intro (show Z.length = CR.length by rw [HZ.out.2, hmc]) hCR))
      clear hall hml hmc hmo hCR
      go_wp2_with (first
        | (refine wpList_load_row rfl 75 _ rfl E rfl 75 CR.toArray (0, 0) _ HJ.out.2.1 Tryz.underlying75 rfl HI2.out ?_)
        | (refine wpList_store_as rfl _ _ _ rfl R CR rfl rfl 75 Z HJ.out.1 HI.out HO.out.2.1 HO.out.1 ?_))
      intro w5 hrow5 hoth5 hg5 hsz5
      have hb5 : Below R w w5 := by
        have k3 := HJ.out.2.2.1
        exact ⟨hg5.os.trans k3.os, hg5.tape.trans k3.tape, hg5.output.trans k3.output, Nat.le_trans k3.size hg5.size, fun k hk => (hoth5 k (by omega)).trans (k3.block k hk)⟩
      go_wp2_with fail
      refine bodyPost_ret (v := .agg CR.toArray) ?_ rfl ⟨by rw [HO.out.2.2], by rw [HRE.out]; exact hb5⟩
      exact results_row_one (P := Tryz.prog) rfl _ w5 R 75 _ (0, 0) _ rfl hrow5 Tryz.underlying75 rfl HI2.out
end Go.Proofs.YtmebdnblobobnaaGreatDoor
