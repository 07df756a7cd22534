/- Chapter 6's law: both memories boot the same. -/
import Derived.Test.YtmebdnblobobnaaGreatDoorLaw6Of
import Derived.Test.YtmebdnblobobnaaGreatDoorKAct
namespace Go.Proofs.YtmebdnblobobnaaGreatDoor
set_option maxRecDepth 100000
open Go.RowKit _root_.Go.Proofs.YtmebdnblobobnaaGreatDoor.Wd _root_.Go.Proofs.YtmebdnblobobnaaGreatDoor.Nm _root_.Go.Proofs.YtmebdnblobobnaaGreatDoor.Cm _root_.Go.Proofs.YtmebdnblobobnaaGreatDoor.Fm _root_.Go.Proofs.YtmebdnblobobnaaGreatDoor.Sm

theorem xent_eq (a : Ent) (ha : a.sum.length = 32) (w : World) : (binOp .eql 49 (.agg a.cells.toArray) (.agg a.cells.toArray)).run Tryz.prog w = .ok (.bool true) w := by
  rw [xent_eql a a ha ha, same_ent, sameE_refl]
set_option maxHeartbeats 4000000 in
theorem boots6_any (f x : Nat) (m : Mem) (w : World) (hf : Fl w f m) (hx : Rf w x m) (hT : Tables w) :
    Calls Tryz.prog 11 #[.pointer (some ⟨f, 0, none⟩), .pointer (some ⟨x, 0, none⟩)] w fun e w' => e = .returned (.bool true) ∧ Below w.heap.size w w' := by
  have hns := bootM_sum m
  have HBO := Lib.hid (boot_any f m w hf hT)
  have HXB := Lib.hid (fun W (h : Below w.heap.size w W) => xboot_any x m W (hx.below h))
  have hof := fun W => of_any (bootM m).1 W hns
  have heq := xent_eq (bootM m).1 hns
  have hcl := ent_len (bootM m).1 hns
  have hco := sent_one (bootM m).1
  obtain ⟨Z, hzl, hz0, hzz⟩ := sent_zero
  have hzx := (zero_of_info ent_zero_info).1
  rw [hz0] at hzx
  obtain ⟨C, hC⟩ : ∃ C, (bootM m).1.cells = C := ⟨_, rfl⟩
  rw [hC] at hof heq hcl hco
  have HZ := Lib.hid (And.intro hzz (And.intro hzx (show Z.length = C.length by rw [hzl, hcl])))
  have HIN := Lib.hid (sent_size C hcl)
  have HIG := Lib.hid (ent_size C hcl)
  have HC := Lib.hid (And.intro hC (And.intro hco (And.intro hof heq)))
  clear hf hx hT hns hof heq hcl hco hzl hz0 hzz hzx hC
  go_enter Tryz.func11, Tryz.ntmps11
  go_wp2_with fail
  refine HBO.out.mono ?_
  rintro _ w1 ⟨A1, n1, c1, rfl, hs1, hb1, _⟩
  rw [HC.out.1]
  have H1 := Lib.hid (And.intro hs1 hb1)
  clear hs1 hb1 HBO
  go_wp2_with (refine wpList_alloc_row rfl 45 rfl Z HZ.out.1 ?_)
  intro w2 hrow2 hb2 hsz2
  go_wp2_with (refine wpList_store_as rfl _ _ _ rfl w1.heap.size C rfl rfl 45 Z hrow2 HIN.out HZ.out.2.2 HC.out.2.1 ?_)
  intro w3 hrow3 hoth3 hg3 hsz3
  obtain ⟨P, hP⟩ : ∃ P, w1.heap.size = P := ⟨_, rfl⟩
  have hb13 : Below w1.heap.size w1 w3 := step_grow hb2 hg3 (Nat.le_refl _)
  rw [hP] at hrow3 ⊢
  have H3 := Lib.hid (And.intro (shows_later H1.out.1 hb13) (And.intro (step_below H1.out.2 hb13) hrow3))
  clear hrow2 hb2 hsz2 hrow3 hoth3 hg3 hsz3 hP hb13 H1
  go_wp2_with fail
  refine (HXB.out _ H3.out.2.1).mono ?_
  rintro _ w4 ⟨A2, n2, c2, rfl, hs4, hb4, _⟩
  rw [HC.out.1]
  have H4 := Lib.hid (And.intro (shows_later H3.out.1 hb4) (And.intro hs4 (And.intro (step_below H3.out.2.1 hb4) (H3.out.2.2.below hb4 H3.out.2.2.lt))))
  clear hs4 hb4 HXB H3
  go_wp2_with (refine wpList_alloc_row rfl 49 rfl Z HZ.out.2.1 ?_)
  intro w5 hrow5 hb5 hsz5
  go_wp2_with (refine wpList_store_as rfl _ _ _ rfl w4.heap.size C rfl rfl 49 Z hrow5 HIG.out HZ.out.2.2 HC.out.2.1 ?_)
  intro w6 hrow6 hoth6 hg6 hsz6
  obtain ⟨G, hG⟩ : ∃ P, w4.heap.size = P := ⟨_, rfl⟩
  have hb46 : Below w4.heap.size w4 w6 := step_grow hb5 hg6 (Nat.le_refl _)
  rw [hG] at hrow6 ⊢
  have H6 := Lib.hid (And.intro (shows_later H4.out.1 hb46) (And.intro (shows_later H4.out.2.1 hb46) (And.intro (step_below H4.out.2.2.1 hb46) (And.intro (H4.out.2.2.2.below hb46 H4.out.2.2.2.lt) hrow6))))
  clear hrow5 hb5 hsz5 hrow6 hoth6 hg6 hsz6 hG hb46 H4
  go_wp2_with fail
  have hPl := H6.out.2.2.2.1.lt
  have hGl := H6.out.2.2.2.2.lt
  obtain ⟨M, hM⟩ : ∃ M, w6.heap.size = M := ⟨_, rfl⟩
  have hd : Below w6.heap.size w6 w6.drew := (Below.refl _ w6).drew
  have hS0 : w6.drew.rangeAt P 0 C ∧ w6.drew.rangeAt G 0 C ∧ Shows w6.drew M A1 n1 c1 (bootM m).2 ∧ Shows w6.drew M A2 n2 c2 (bootM m).2 :=
    ⟨H6.out.2.2.2.1.range 0 C (fun j v hv => by rw [Nat.zero_add]; exact hv), H6.out.2.2.2.2.range 0 C (fun j v hv => by rw [Nat.zero_add]; exact hv), by rw [← hM]; exact H6.out.1.below hd, by rw [← hM]; exact H6.out.2.1.below hd⟩
  refine wp_region_held_drew (S := fun U => U.rangeAt P 0 C ∧ U.rangeAt G 0 C ∧ Shows U M A1 n1 c1 (bootM m).2 ∧ Shows U M A2 n2 c2 (bootM m).2) (by kernel_rfl) hS0 (fun hH0 => ?_)
  refine wpAnyH_take (i := 0) (v := .agg C.toArray) rfl (by kernel_rfl) (by kernel_rfl) (by kernel_rfl) (fun _ _ _ h => h) (yieldsIf_load_mid rfl 45 (.tmp 5) rfl P 0 rfl C _ (fun U hU => hU.1) Tryz.underlying45 rfl HIN.out) (by assumption) ?_
  try simp only [Act.put, List.getElem_toArray, List.getElem_cons_zero, List.setIfInBounds_toArray, List.set_cons_zero, List.set_cons_succ]
  refine wpAnyH_take (i := 2) (v := .agg C.toArray) rfl (by kernel_rfl) (by kernel_rfl) (by kernel_rfl) (fun _ _ _ h => h) (yieldsIf_load_mid rfl 49 (.tmp 7) rfl G 0 rfl C _ (fun U hU => hU.2.1) Tryz.underlying49 rfl HIG.out) (by assumption) ?_
  try simp only [Act.put, List.getElem_toArray, List.getElem_cons_succ, List.getElem_cons_zero, List.setIfInBounds_toArray, List.set_cons_zero, List.set_cons_succ]
  refine wpAnyH_ready (rs := [1]) (by kernel_rfl) (by simp) ?_
  refine AllReadyH.cons rfl (fun K hK => ?_) AllReadyH.nil
  go_simp
  refine (HC.out.2.2.1 _).mono ?_
  rintro _ w7 ⟨rfl, hb7⟩
  have hb67 : Below w6.heap.size w6 w7 := ⟨hb7.os, hb7.tape, hb7.output, hb7.size, hb7.block⟩
  have hS7 : w7.rangeAt P 0 C ∧ w7.rangeAt G 0 C ∧ Shows w7 M A1 n1 c1 (bootM m).2 ∧ Shows w7 M A2 n2 c2 (bootM m).2 :=
    ⟨range_over hS0.1 hb7 hPl, range_over hS0.2.1 hb7 hGl, by rw [← hM]; exact H6.out.1.below hb67, by rw [← hM]; exact H6.out.2.1.below hb67⟩
  go_wp2_with fail
  refine hK.out _ _ hS7 (fun _ => ?_)
  clear hK K
  try simp only [Act.put, List.getElem_toArray, List.getElem_cons_succ, List.getElem_cons_zero, List.setIfInBounds_toArray, List.set_cons_zero, List.set_cons_succ]
  have heq := HC.out.2.2.2
  refine wpAnyH_take (i := 3) (v := ?_) rfl (by kernel_rfl) (by kernel_rfl) (by kernel_rfl) (fun _ _ _ h => h) (Or.inl ⟨by rfl, ?_⟩) (by assumption) ?_
  rotate_left
  · intro w' hS'; go_simp; try exact rfl
  try simp only [Act.put, List.getElem_toArray, List.getElem_cons_succ, List.getElem_cons_zero, List.setIfInBounds_toArray, List.set_cons_zero, List.set_cons_succ]
  refine wpAnyH_take (i := 4) (v := ?_) rfl (by kernel_rfl) (by kernel_rfl) (by kernel_rfl) (fun _ _ _ h => h) (Or.inl ⟨by rfl, ?_⟩) (by assumption) ?_
  rotate_left
  · intro w' hS'; go_simp; try exact rfl
  try simp only [Act.put, List.getElem_toArray, List.getElem_cons_succ, List.getElem_cons_zero, List.setIfInBounds_toArray, List.set_cons_zero, List.set_cons_succ]
  refine wpAnyH_take (i := 5) (v := ?_) rfl (by kernel_rfl) (by kernel_rfl) (by kernel_rfl) (fun _ _ _ h => h) (Or.inl ⟨by rfl, ?_⟩) (by assumption) ?_
  rotate_left
  · intro w' hS'; go_simp; try exact rfl
  try simp only [Act.put, List.getElem_toArray, List.getElem_cons_succ, List.getElem_cons_zero, List.setIfInBounds_toArray, List.set_cons_zero, List.set_cons_succ]
  refine wpAnyH_take (i := 6) (v := ?_) rfl (by kernel_rfl) (by kernel_rfl) (by kernel_rfl) (fun _ _ _ h => h) (Or.inl ⟨by rfl, ?_⟩) (by assumption) ?_
  rotate_left
  · intro w' hS'; have cv := hS'.2.2.1.conv (P := Tryz.prog) Tryz.underlying29 Tryz.underlying5 Tryz.underlying9; go_simp; try exact rfl
  try simp only [Act.put, List.getElem_toArray, List.getElem_cons_succ, List.getElem_cons_zero, List.setIfInBounds_toArray, List.set_cons_zero, List.set_cons_succ]
  refine wpAnyH_take (i := 7) (v := ?_) rfl (by kernel_rfl) (by kernel_rfl) (by kernel_rfl) (fun _ _ _ h => h) (Or.inl ⟨by rfl, ?_⟩) (by assumption) ?_
  rotate_left
  · intro w' hS'; go_simp; try exact rfl
  try simp only [Act.put, List.getElem_toArray, List.getElem_cons_succ, List.getElem_cons_zero, List.setIfInBounds_toArray, List.set_cons_zero, List.set_cons_succ]
  refine wpAnyH_take (i := 8) (v := ?_) rfl (by kernel_rfl) (by kernel_rfl) (by kernel_rfl) (fun _ _ _ h => h) (Or.inl ⟨by rfl, ?_⟩) (by assumption) ?_
  rotate_left
  · intro w' hS'; have cv := hS'.2.2.2.conv (P := Tryz.prog) Tryz.underlying29 Tryz.underlying5 Tryz.underlying9; go_simp; try exact rfl
  try simp only [Act.put, List.getElem_toArray, List.getElem_cons_succ, List.getElem_cons_zero, List.setIfInBounds_toArray, List.set_cons_zero, List.set_cons_succ]
  refine wpAnyH_take (i := 9) (v := ?_) rfl (by kernel_rfl) (by kernel_rfl) (by kernel_rfl) (fun _ _ _ h => h) (Or.inl ⟨by rfl, ?_⟩) (by assumption) ?_
  rotate_left
  · intro w' hS'; go_simp; try exact rfl
  try simp only [Act.put, List.getElem_toArray, List.getElem_cons_succ, List.getElem_cons_zero, List.setIfInBounds_toArray, List.set_cons_zero, List.set_cons_succ]
  refine wpAnyH_take (i := 10) (v := ?_) rfl (by kernel_rfl) (by kernel_rfl) (by kernel_rfl) (fun _ _ _ h => h) (Or.inl ⟨by rfl, ?_⟩) (by assumption) ?_
  rotate_left
  · intro w' hS'; go_simp; try exact rfl
  try simp only [Act.put, List.getElem_toArray, List.getElem_cons_succ, List.getElem_cons_zero, List.setIfInBounds_toArray, List.set_cons_zero, List.set_cons_succ]
  refine wpAnyH_take (i := 11) (v := ?_) rfl (by kernel_rfl) (by kernel_rfl) (by kernel_rfl) (fun _ _ _ h => h) (Or.inl ⟨by rfl, ?_⟩) (by assumption) ?_
  rotate_left
  · intro w' hS'; go_simp; try exact rfl
  try simp only [Act.put, List.getElem_toArray, List.getElem_cons_succ, List.getElem_cons_zero, List.setIfInBounds_toArray, List.set_cons_zero, List.set_cons_succ]
  refine wpAnyH_done (by kernel_rfl) ?_ _
  have HL := Lib.hid (step_below H6.out.2.2.1 hb67)
  clear hS0 hH0 hb7 hb67 hS7 heq hPl hGl hM hd H6
  go_wp2_with fail
  go_ret
  exact ⟨by simp, HL.out⟩
end Go.Proofs.YtmebdnblobobnaaGreatDoor
