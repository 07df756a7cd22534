/- Chapter 6: does an entry count, and its image (the document's own function stored). -/
import Derived.Test.YtmebdnblobobnaaGreatDoorRef6Mark
import Derived.Test.YtmebdnblobobnaaGreatDoorKShaRef
namespace Go.Proofs.YtmebdnblobobnaaGreatDoor
set_option maxRecDepth 100000
open Go.RowKit _root_.Go.Proofs.YtmebdnblobobnaaGreatDoor.Wd _root_.Go.Proofs.YtmebdnblobobnaaGreatDoor.Nm _root_.Go.Proofs.YtmebdnblobobnaaGreatDoor.Cm _root_.Go.Proofs.YtmebdnblobobnaaGreatDoor.Fm _root_.Go.Proofs.YtmebdnblobobnaaGreatDoor.Sm

/-- An entry's image, if it counts. -/
def heldM (m : Mem) (e : Ent) : List UInt8 := if countsM m e = true then (if e.slot = 2 then [] else (imgM m e.slot).getD []) else []
def Stored (w : World) (m : Mem) (e : Ent) (r : Ending) (w' : World) : Prop :=
  ∃ A n cap, r = .returned (.tuple #[.slice A n cap, .bool (countsM m e)]) ∧ Shows w' w'.heap.size A n cap (heldM m e) ∧ Below w.heap.size w w' ∧ ∀ a, A = some a → w.heap.size ≤ a.block
def holds6 (o : Option (List UInt8)) (s : List UInt8) : Bool := match o with | none => false | some b => decide (sha b = s)
theorem hash_sz (cs : List Value) (h : cs.length = 32) : (Tryz.prog.info? 39).map (·.size) = some cs.length := by rw [h]; kernel_rfl
theorem counts_slot {m : Mem} {e : Ent} (h2 : e.slot ≠ 2) : countsM m e = holds6 (imgM m e.slot) e.sum := by
  unfold countsM holds6
  rw [decide_eq_false h2, Bool.false_or]
  cases imgM m e.slot <;> rfl
theorem ent_range {w : World} {g : Nat} {T : TypeId} {C : List Value} {e : Ent} (h : Row w g T C) (hC : e.cells = C) : w.rangeAt g 2 (bc e.sum) := h.range 2 _ (fun j v hv => by rw [← hC, Nat.add_comm 2 j]; exact hv)

set_option maxHeartbeats 4000000 in
theorem xstored_any (x : Nat) (m : Mem) (e : Ent) (w : World) (h : Rf w x m) (hs : e.sum.length = 32) (hin : e.inside) :
    Calls Tryz.prog 48 #[.pointer (some ⟨x, 0, none⟩), .agg e.cells.toArray] w (Stored w m e) := by
  obtain ⟨_, _, i1, i2⟩ := hin
  obtain ⟨CE, hCE⟩ : ∃ C, e.cells = C := ⟨_, rfl⟩
  have hc1 : CE[1]? = some (.int .i64 e.slot) := by rw [← hCE]; rfl
  have H := Lib.hid h
  by_cases h2 : e.slot = 2
  · have hcn : countsM m e = true := by unfold countsM; rw [decide_eq_true h2]; rfl
    have hh : heldM m e = [] := by unfold heldM; rw [if_pos hcn, if_pos h2]
    have HE := Lib.hid (And.intro hcn hh)
    rw [h2] at hc1
    have HC := Lib.hid hc1
    rw [hCE]
    clear hcn hh hc1 hCE h2 h i1 i2 hs
    go_enter Tryz.func48, Tryz.ntmps48
    obtain ⟨W, hW⟩ : ∃ W, w.alloc (Obj.cells CE.toArray 49) = W := ⟨_, rfl⟩
    have hrow : Row W w.heap.size 49 CE := by rw [← hW]; exact Row.new _ _ _
    have hbW : Below w.heap.size w W := by rw [← hW]; exact (Below.refl _ _).alloc (Nat.le_refl _) _
    have c1 := hrow.cell HC.out
    have HW := Lib.hid hW
    have HB := Lib.hid hbW
    clear hrow hbW hW
    go_upto_region 1 with fail
    rw [HW.out]
    go_wp2_with fail
    go_ret2
    exact ⟨none, 0, 0, by rw [HE.out.1]; rfl, by rw [HE.out.2]; exact Shows.nil _ _, HB.out, fun a ha => by cases ha⟩
  · obtain ⟨k, hk⟩ : ∃ k : Nat, e.slot = k := ⟨e.slot.toNat, by omega⟩
    have hk2 : k < 2 := by omega
    have hcn : countsM m e = holds6 (imgM m k) e.sum := by rw [counts_slot h2, hk]
    have hh : countsM m e = true → heldM m e = (imgM m k).getD [] := fun hc => by unfold heldM; rw [if_pos hc, if_neg h2, hk]
    have hh2 : countsM m e = false → heldM m e = [] := fun hc => by unfold heldM; rw [hc]; rfl
    rw [hk] at hc1
    have HC := Lib.hid hc1
    have HE := Lib.hid (And.intro hcn (And.intro hh hh2))
    have HCE := Lib.hid (And.intro hCE hs)
    rw [hCE]
    have hki : ¬ (k : Int) = 2 := by omega
    have hkb : ((k : Int) == 2) = false := by simpa using hki
    clear hcn hh hh2 hc1 hk h2 h i1 i2 hs hCE
    go_enter Tryz.func48, Tryz.ntmps48
    obtain ⟨W, hW⟩ : ∃ W, w.alloc (Obj.cells CE.toArray 49) = W := ⟨_, rfl⟩
    have hrow : Row W w.heap.size 49 CE := by rw [← hW]; exact Row.new _ _ _
    have hbW : Below w.heap.size w W := by rw [← hW]; exact (Below.refl _ _).alloc (Nat.le_refl _) _
    have c1 := hrow.cell HC.out
    have HW := Lib.hid hW
    have HB := Lib.hid (And.intro hbW hrow)
    have hl := xload_any x m ((2 : Int) + k) W (H.out.below hbW)
    have himg : imgM m k = (loadM (readM m ((2 : Int) + k))).1.head? := rfl
    have hsmall := load_small (readM m ((2 : Int) + k))
    obtain ⟨F, hF⟩ : ∃ F, (loadM (readM m ((2 : Int) + k))).2 = F := ⟨_, rfl⟩
    obtain ⟨rows, hrows⟩ : ∃ rows, (loadM (readM m ((2 : Int) + k))).1 = rows := ⟨_, rfl⟩
    rw [hF, hrows] at hl
    rw [hrows] at hsmall himg
    have HL := Lib.hid hl
    have HS := Lib.hid (And.intro hsmall himg)
    obtain ⟨B, hB⟩ : ∃ B, w.heap.size = B := ⟨_, rfl⟩
    rw [hB] at c1
    have HBB := Lib.hid hB
    clear hrow hbW hW hl himg hsmall hF hrows
    go_upto_region 1 with fail
    rw [HW.out]
    clear hB
    go_wp2_with fail
    refine HL.out.mono ?_
    rintro _ w3 ⟨A, n, cap, ps, rfl, hp, hps, hb3⟩
    have hn := hp.len
    have H3 := Lib.hid (And.intro hp (And.intro hps (And.intro (HB.out.2.below hb3 HB.out.2.lt) (And.intro (show Below w.heap.size w w3 from HB.out.1.trans (hb3.mono HB.out.1.size)) (And.intro hn (show w.heap.size ≤ W.heap.size from HB.out.1.size))))))
    clear hp hps hb3 hn HL c1
    by_cases h0 : n = 0
    · subst h0
      have hnone : imgM m k = none := by
        have hps0 : ps = [] := List.eq_nil_of_length_eq_zero H3.out.2.2.2.2.1
        have := H3.out.2.1
        rw [hps0] at this
        rw [HS.out.2, ← this]
        rfl
      have hcf : countsM m e = false := by rw [HE.out.1, hnone]; rfl
      have HF := Lib.hid (And.intro hcf (HE.out.2.2 hcf))
      clear hnone hcf
      go_wp2_with fail
      refine wp_region_held_drew (S := fun U => True) (by kernel_rfl) trivial (fun hH0 => ?_)
      refine wpAnyH_take (i := 0) (v := ?_) rfl (by kernel_rfl) (by kernel_rfl) (by kernel_rfl) (fun _ _ _ h => h) (Or.inl ⟨by rfl, ?_⟩) (by assumption) ?_
      rotate_left
      · intro w' hS'; go_simp; try exact rfl
      try simp only [Act.put, List.getElem_toArray, List.getElem_cons_zero, List.setIfInBounds_toArray, List.set_cons_zero, List.set_cons_succ]
      refine wpAnyH_take (i := 1) (v := ?_) rfl (by kernel_rfl) (by kernel_rfl) (by kernel_rfl) (fun _ _ _ h => h) (Or.inl ⟨by rfl, ?_⟩) (by assumption) ?_
      rotate_left
      · intro w' hS'; go_simp; try exact rfl
      try simp only [Act.put, List.getElem_toArray, List.getElem_cons_succ, List.getElem_cons_zero, List.setIfInBounds_toArray, List.set_cons_zero, List.set_cons_succ]
      refine wpAnyH_take (i := 2) (v := ?_) rfl (by kernel_rfl) (by kernel_rfl) (by kernel_rfl) (fun _ _ _ h => h) (Or.inl ⟨by rfl, ?_⟩) (by assumption) ?_
      rotate_left
      · intro w' hS'; go_simp; try exact rfl
      try simp only [Act.put, List.getElem_toArray, List.getElem_cons_succ, List.getElem_cons_zero, List.setIfInBounds_toArray, List.set_cons_zero, List.set_cons_succ]
      refine wpAnyH_take (i := 3) (v := ?_) rfl (by kernel_rfl) (by kernel_rfl) (by kernel_rfl) (fun _ _ _ h => h) (Or.inl ⟨by rfl, ?_⟩) (by assumption) ?_
      rotate_left
      · intro w' hS'; go_simp; try exact rfl
      try simp only [Act.put, List.getElem_toArray, List.getElem_cons_succ, List.getElem_cons_zero, List.setIfInBounds_toArray, List.set_cons_zero, List.set_cons_succ]
      refine wpAnyH_take (i := 4) (v := undef) rfl (by kernel_rfl) (by kernel_rfl) (by kernel_rfl) (fun _ _ _ h => h) (Or.inr ⟨by rfl, rfl⟩) (by assumption) ?_
      try simp only [Act.put, List.getElem_toArray, List.getElem_cons_succ, List.getElem_cons_zero, List.setIfInBounds_toArray, List.set_cons_zero, List.set_cons_succ]
      refine wpAnyH_take (i := 5) (v := undef) rfl (by kernel_rfl) (by kernel_rfl) (by kernel_rfl) (fun _ _ _ h => h) (Or.inr ⟨by rfl, rfl⟩) (by assumption) ?_
      try simp only [Act.put, List.getElem_toArray, List.getElem_cons_succ, List.getElem_cons_zero, List.setIfInBounds_toArray, List.set_cons_zero, List.set_cons_succ]
      refine wpAnyH_take (i := 6) (v := undef) rfl (by kernel_rfl) (by kernel_rfl) (by kernel_rfl) (fun _ _ _ h => h) (Or.inr ⟨by rfl, rfl⟩) (by assumption) ?_
      try simp only [Act.put, List.getElem_toArray, List.getElem_cons_succ, List.getElem_cons_zero, List.setIfInBounds_toArray, List.set_cons_zero, List.set_cons_succ]
      refine wpAnyH_take (i := 8) (v := undef) rfl (by kernel_rfl) (by kernel_rfl) (by kernel_rfl) (fun _ _ _ h => h) (Or.inr ⟨by rfl, rfl⟩) (by assumption) ?_
      try simp only [Act.put, List.getElem_toArray, List.getElem_cons_succ, List.getElem_cons_zero, List.setIfInBounds_toArray, List.set_cons_zero, List.set_cons_succ]
      refine wpAnyH_take (i := 9) (v := undef) rfl (by kernel_rfl) (by kernel_rfl) (by kernel_rfl) (fun _ _ _ h => h) (Or.inr ⟨by rfl, rfl⟩) (by assumption) ?_
      try simp only [Act.put, List.getElem_toArray, List.getElem_cons_succ, List.getElem_cons_zero, List.setIfInBounds_toArray, List.set_cons_zero, List.set_cons_succ]
      refine wpAnyH_take (i := 7) (v := undef) rfl (by kernel_rfl) (by kernel_rfl) (by kernel_rfl) (fun _ _ _ h => h) (Or.inr ⟨by rfl, rfl⟩) (by assumption) ?_
      try simp only [Act.put, List.getElem_toArray, List.getElem_cons_succ, List.getElem_cons_zero, List.setIfInBounds_toArray, List.set_cons_zero, List.set_cons_succ]
      refine wpAnyH_take (i := 10) (v := undef) rfl (by kernel_rfl) (by kernel_rfl) (by kernel_rfl) (fun _ _ _ h => h) (Or.inr ⟨by rfl, rfl⟩) (by assumption) ?_
      try simp only [Act.put, List.getElem_toArray, List.getElem_cons_succ, List.getElem_cons_zero, List.setIfInBounds_toArray, List.set_cons_zero, List.set_cons_succ]
      refine wpAnyH_take (i := 11) (v := ?_) rfl (by kernel_rfl) (by kernel_rfl) (by kernel_rfl) (fun _ _ _ h => h) (Or.inl ⟨by rfl, ?_⟩) (by assumption) ?_
      rotate_left
      · intro w' hS'; go_simp; try exact rfl
      try simp only [Act.put, List.getElem_toArray, List.getElem_cons_succ, List.getElem_cons_zero, List.setIfInBounds_toArray, List.set_cons_zero, List.set_cons_succ]
      refine wpAnyH_done (by kernel_rfl) ?_ _
      have HFIN := Lib.hid (show Below w.heap.size w w3.drew from H3.out.2.2.2.1.drew)
      clear hH0
      go_wp2_with fail
      go_ret2
      exact ⟨none, 0, 0, by rw [HF.out.1]; rfl, by rw [HF.out.2]; exact Shows.nil _ _, HFIN.out, fun a ha => by cases ha⟩
    · have hn0 : ((n : Int) == 0) = false := by simpa using h0
      obtain ⟨G, o, rfl, hG, hc⟩ := H3.out.1.laid.spot (by omega)
      have hjl : 0 < ps.length := by have := H3.out.1.len; omega
      have hcj := hc 0 hjl
      have hok := H3.out.1.each _ (List.getElem_mem hjl)
      have hpr : rows.head? = some (ps[0].l) := by
        rw [← H3.out.2.1, List.head?_map, List.head?_eq_getElem?, List.getElem?_eq_getElem hjl]
        rfl
      obtain ⟨p, hp⟩ : ∃ p, ps[0] = p := ⟨_, rfl⟩
      rw [hp] at hcj hok hpr
      obtain ⟨pA, pn, pc, pl⟩ := p
      simp only [Nat.add_zero] at hcj hpr
      have hpl := hok.shows.len
      simp only at hpl
      have hpn : pn ≤ 1000000000 := by
        have := HS.out.1 pl (List.mem_of_mem_head? (by rw [hpr]; exact rfl))
        omega
      have himg2 : imgM m k = some pl := by rw [HS.out.2, hpr]
      obtain ⟨BS, hBS⟩ : ∃ B, bc e.sum = B := ⟨_, rfl⟩
      have hS0 : w3.drew.rangeAt B 2 BS ∧ w3.drew.cell? ⟨G, o, none⟩ = some (.slice pA pn pc) := ⟨by rw [← hBS, ← HBB.out]; exact ent_range H3.out.2.2.1 HCE.out.1, hcj⟩
      have hBl : BS.length = 32 := by rw [← hBS, bc_len]; exact HCE.out.2
      have HIH := Lib.hid (hash_sz BS hBl)
      have hne := hash_neq2 (sha pl) e.sum (sha_len pl) HCE.out.2
      obtain ⟨BP, hBP⟩ : ∃ B, bc (sha pl) = B := ⟨_, rfl⟩
      rw [hBS, hBP] at hne
      have HNE := Lib.hid hne
      have hji : 0 < n := by omega
      have HBP := Lib.hid hBP
      have hsp : Shows w3.drew w3.drew.heap.size pA pn pc pl := (hok.shows.below (Below.refl _ w3).drew).more (Below.refl w3.heap.size w3).drew.size
      have HSU := Lib.hid (refsum3_any pA pn pc pl w3.drew hsp hpn)
      rw [hBP] at HSU
      have HP := Lib.hid (And.intro hok (And.intro himg2 (And.intro hcj (And.intro hG hpl))))
      clear hok hcj hc hpr hp hpl hpn himg2 hne hBl hBS hBP hsp
      go_wp2_with fail
      refine wp_region_held_drew (S := fun U => U.rangeAt B 2 BS ∧ U.cell? ⟨G, o, none⟩ = some (.slice pA pn pc)) (by kernel_rfl) hS0 (fun hH0 => ?_)
      refine wpAnyH_take (i := 0) (v := ?_) rfl (by kernel_rfl) (by kernel_rfl) (by kernel_rfl) (fun _ _ _ h => h) (Or.inl ⟨by rfl, ?_⟩) (by assumption) ?_
      rotate_left
      · intro w' hS'; go_simp; try exact rfl
      try simp only [Act.put, List.getElem_toArray, List.getElem_cons_zero, List.setIfInBounds_toArray, List.set_cons_zero, List.set_cons_succ]
      refine wpAnyH_take (i := 1) (v := ?_) rfl (by kernel_rfl) (by kernel_rfl) (by kernel_rfl) (fun _ _ _ h => h) (Or.inl ⟨by rfl, ?_⟩) (by assumption) ?_
      rotate_left
      · intro w' hS'; go_simp; try exact rfl
      try simp only [Act.put, List.getElem_toArray, List.getElem_cons_succ, List.getElem_cons_zero, List.setIfInBounds_toArray, List.set_cons_zero, List.set_cons_succ]
      refine wpAnyH_take (i := 2) (v := ?_) rfl (by kernel_rfl) (by kernel_rfl) (by kernel_rfl) (fun _ _ _ h => h) (Or.inl ⟨by rfl, ?_⟩) (by assumption) ?_
      rotate_left
      · intro w' hS'; go_simp; try exact rfl
      try simp only [Act.put, List.getElem_toArray, List.getElem_cons_succ, List.getElem_cons_zero, List.setIfInBounds_toArray, List.set_cons_zero, List.set_cons_succ]
      refine wpAnyH_take (i := 3) (v := ?_) rfl (by kernel_rfl) (by kernel_rfl) (by kernel_rfl) (fun _ _ _ h => h) (Or.inl ⟨by rfl, ?_⟩) (by assumption) ?_
      rotate_left
      · intro w' hS'; go_simp; try exact rfl
      try simp only [Act.put, List.getElem_toArray, List.getElem_cons_succ, List.getElem_cons_zero, List.setIfInBounds_toArray, List.set_cons_zero, List.set_cons_succ]
      refine wpAnyH_take (i := 4) (v := ?_) rfl (by kernel_rfl) (by kernel_rfl) (by kernel_rfl) (fun _ _ _ h => h) (Or.inl ⟨by rfl, ?_⟩) (by assumption) ?_
      rotate_left
      · intro w' hS'; go_simp; try exact rfl
      try simp only [Act.put, List.getElem_toArray, List.getElem_cons_succ, List.getElem_cons_zero, List.setIfInBounds_toArray, List.set_cons_zero, List.set_cons_succ]
      refine wpAnyH_take (i := 5) (v := ?_) rfl (by kernel_rfl) (by kernel_rfl) (by kernel_rfl) (fun _ _ _ h => h) (Or.inl ⟨by rfl, ?_⟩) (by assumption) ?_
      rotate_left
      · intro w' hS'; go_simp; try exact rfl
      try simp only [Act.put, List.getElem_toArray, List.getElem_cons_succ, List.getElem_cons_zero, List.setIfInBounds_toArray, List.set_cons_zero, List.set_cons_succ]
      refine wpAnyH_take (i := 6) (v := ?_) rfl (by kernel_rfl) (by kernel_rfl) (by kernel_rfl) (fun _ _ _ h => h) (Or.inl ⟨by rfl, ?_⟩) (by assumption) ?_
      rotate_left
      · intro w' hS'; have hq := hS'.2; go_simp; try exact rfl
      try simp only [Act.put, List.getElem_toArray, List.getElem_cons_succ, List.getElem_cons_zero, List.setIfInBounds_toArray, List.set_cons_zero, List.set_cons_succ]
      refine wpAnyH_take (i := 8) (v := ?_) rfl (by kernel_rfl) (by kernel_rfl) (by kernel_rfl) (fun _ _ _ h => h) (Or.inl ⟨by rfl, ?_⟩) (by assumption) ?_
      rotate_left
      · intro w' hS'; go_simp; try exact rfl
      try simp only [Act.put, List.getElem_toArray, List.getElem_cons_succ, List.getElem_cons_zero, List.setIfInBounds_toArray, List.set_cons_zero, List.set_cons_succ]
      refine wpAnyH_take (i := 9) (v := .agg BS.toArray) rfl (by kernel_rfl) (by kernel_rfl) (by kernel_rfl) (fun _ _ _ h => h) (yieldsIf_load_mid rfl 39 (.tmp 27) rfl B 2 rfl BS _ (fun U hU => hU.1) Tryz.underlying39 rfl HIH.out) (by assumption) ?_
      try simp only [Act.put, List.getElem_toArray, List.getElem_cons_succ, List.getElem_cons_zero, List.setIfInBounds_toArray, List.set_cons_zero, List.set_cons_succ]
      refine wpAnyH_ready (rs := [7]) (by kernel_rfl) (by simp) ?_
      refine AllReadyH.cons rfl (fun K hK => ?_) AllReadyH.nil
      go_simp
      refine HSU.out.mono ?_
      rintro _ w4 ⟨rfl, hb4⟩
      have hb34 : Below w3.heap.size w3 w4 := ⟨hb4.os, hb4.tape, hb4.output, hb4.size, hb4.block⟩
      have hBl : B < w3.heap.size := by rw [← HBB.out]; exact H3.out.2.2.1.lt
      have hS4 : w4.rangeAt B 2 BS ∧ w4.cell? ⟨G, o, none⟩ = some (.slice pA pn pc) :=
        ⟨range_over hS0.1 hb4 hBl, (hb34.cell (p := ⟨G, o, none⟩) HP.out.2.2.2.1).trans HP.out.2.2.1⟩
      go_wp2_with fail
      refine hK.out _ _ hS4 (fun _ => ?_)
      clear hK K
      try simp only [Act.put, List.getElem_toArray, List.getElem_cons_succ, List.getElem_cons_zero, List.setIfInBounds_toArray, List.set_cons_zero, List.set_cons_succ]
      have hne := HNE.out
      refine wpAnyH_take (i := 10) (v := ?_) rfl (by kernel_rfl) (by kernel_rfl) (by kernel_rfl) (fun _ _ _ h => h) (Or.inl ⟨by rfl, ?_⟩) (by assumption) ?_
      rotate_left
      · intro w' hS'; go_simp; try exact rfl
      try simp only [Act.put, List.getElem_toArray, List.getElem_cons_succ, List.getElem_cons_zero, List.setIfInBounds_toArray, List.set_cons_zero, List.set_cons_succ]
      refine wpAnyH_take (i := 11) (v := ?_) rfl (by kernel_rfl) (by kernel_rfl) (by kernel_rfl) (fun _ _ _ h => h) (Or.inl ⟨by rfl, ?_⟩) (by assumption) ?_
      rotate_left
      · intro w' hS'; go_simp; try exact rfl
      try simp only [Act.put, List.getElem_toArray, List.getElem_cons_succ, List.getElem_cons_zero, List.setIfInBounds_toArray, List.set_cons_zero, List.set_cons_succ]
      refine wpAnyH_done (by kernel_rfl) ?_ _
      have hc4 := hS4.2
      have HFIN := Lib.hid (And.intro (show Below w.heap.size w w4 from step_below H3.out.2.2.2.1 hb34) (show Shows w4 w4.heap.size pA pn pc pl from (HP.out.1.shows.below hb34).more hb34.size))
      clear hS0 hH0 hb4 hb34 hS4 HSU hBl HNE hne hn0
      have hst : countsM m e = decide (sha pl = e.sum) := by rw [HE.out.1, HP.out.2.1]; rfl
      by_cases hsame : sha pl = e.sum
      · rw [decide_eq_true hsame] at hst ⊢
        have hhl : heldM m e = pl := by rw [HE.out.2.1 hst, HP.out.2.1]; rfl
        have HR := Lib.hid (And.intro hst hhl)
        clear hst hhl hsame
        go_wp2_with fail
        go_ret2
        exact ⟨pA, pn, pc, by rw [HR.out.1]; rfl, by rw [HR.out.2]; exact HFIN.out.2, HFIN.out.1, fun a ha => Nat.le_trans H3.out.2.2.2.2.2 (HP.out.1.blk a ha).1⟩
      · rw [decide_eq_false hsame] at hst ⊢
        have HR := Lib.hid (And.intro hst (HE.out.2.2 hst))
        clear hst hsame hc4
        go_wp2_with fail
        go_ret2
        exact ⟨none, 0, 0, by rw [HR.out.1]; rfl, by rw [HR.out.2]; exact Shows.nil _ _, HFIN.out.1, fun a ha => by cases ha⟩
end Go.Proofs.YtmebdnblobobnaaGreatDoor
