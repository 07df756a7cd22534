/- Chapter 6: Boot (the program's own function). -/
import Derived.Test.YtmebdnblobobnaaGreatDoorSlEq
namespace Go.Proofs.YtmebdnblobobnaaGreatDoor
set_option maxRecDepth 100000
open Go.RowKit _root_.Go.Proofs.YtmebdnblobobnaaGreatDoor.Wd _root_.Go.Proofs.YtmebdnblobobnaaGreatDoor.Nm _root_.Go.Proofs.YtmebdnblobobnaaGreatDoor.Cm _root_.Go.Proofs.YtmebdnblobobnaaGreatDoor.Fm _root_.Go.Proofs.YtmebdnblobobnaaGreatDoor.Sm

theorem field_ent (p : Pl) (h : p.e.sum.length = 32) (w : World) : (Instr.field 75 (.agg p.cells.toArray) 0).run Tryz.prog w = .ok (.agg p.e.cells.toArray) w := by
  obtain ⟨⟨q, t, l⟩, s, k⟩ := p
  obtain ⟨f, rfl⟩ := of_fn32 l h
  clear h
  kernel_rfl
theorem sent_size (cs : List Value) (h : cs.length = 34) : (Tryz.prog.info? 45).map (·.size) = some cs.length := by
  obtain ⟨_, hz⟩ := zero_of_info sent_zero_info
  rw [hz, h]
theorem sent_built2 : Tryz.prog.built 45 [(1, .int .i64 2)] = some (Ent.cells ⟨0, 2, List.replicate 32 0⟩).toArray := by kernel_rfl
theorem sent_zero : ∃ Z : List Value, Z.length = 34 ∧ Ent.zero.cells = Z ∧ ∀ w : World, (zeroValue 45).run Tryz.prog w = .ok (.agg Z.toArray) w := by
  obtain ⟨hz, _⟩ := zero_of_info sent_zero_info
  exact ⟨Ent.zero.cells, by simp [Ent.zero, Ent.cells, bc_len], rfl, hz⟩
theorem ent_len (e : Ent) (h : e.sum.length = 32) : e.cells.length = 34 := by simp [Ent.cells, bc_len, h]
theorem pick_sh (s0 s1 : Sh) (hl0 : s0.cells.length = 34) (k : Nat) (hk : k < 2) : ∃ s : Sh, (k = 0 → s = s0) ∧ (k = 1 → s = s1) ∧ ∀ j v, s.cells[j]? = some v → (s0.cells ++ s1.cells)[k * 34 + j]? = some v := by
  match k, hk with
  | 0, _ => exact ⟨s0, fun _ => rfl, fun h => (by cases h), fun j v hv => by
      have hj := (List.getElem?_eq_some_iff.1 hv).1
      rw [Nat.zero_mul, Nat.zero_add, List.getElem?_append_left hj]; exact hv⟩
  | 1, _ => exact ⟨s1, fun h => (by cases h), fun _ => rfl, fun j v hv => by
      rw [Nat.one_mul, List.getElem?_append_right (by omega), hl0, Nat.add_sub_cancel_left]; exact hv⟩
theorem bootM_none (m : Mem) (h : (plM m).filter (fun p => countsM m p.e) = []) : bootM m = (⟨0, 2, List.replicate 32 0⟩, []) := by
  unfold bootM
  rw [boot_newest, if_pos h]
theorem bootM_some (m : Mem) (h : ¬ (plM m).filter (fun p => countsM m p.e) = []) : bootM m = ((newestP ((plM m).filter fun p => countsM m p.e)).e, if (newestP ((plM m).filter fun p => countsM m p.e)).e.slot = 2 then [] else (imgM m (newestP ((plM m).filter fun p => countsM m p.e)).e.slot).getD []) := by
  unfold bootM
  rw [boot_newest, if_neg h]
  rfl
theorem counts_img {m : Mem} {e : Ent} (h : countsM m e = true) (h2 : e.slot ≠ 2) : ∃ b, imgM m e.slot = some b ∧ sha b = e.sum := by
  unfold countsM at h
  rw [decide_eq_false h2, Bool.false_or] at h
  cases hi : imgM m e.slot with
  | none => rw [hi] at h; cases h
  | some b => rw [hi] at h; exact ⟨b, rfl, of_decide_eq_true h⟩

section
variable {P : Program}
theorem yieldsIf_field {ops : Array Oper} {S : World → Prop} {op : Oper} {a : Act} (hw : Region.wanted op (yielded ops a.tmps) = true) (t : TypeId) (x : Operand) (i : Nat) (ho : op.op = .field t x i) (v0 v : Value) (hx : a.eval x = v0)
    (hr : ∀ w, (Instr.field t v0 i).run P w = .ok v w) : YieldsIf P ops S op v a :=
  .inl ⟨hw, fun w _ => by
    unfold execOp
    simp only [ho, hx, Sem.run_bind, hr, Result.andThen_ok]
    rfl⟩
/-- A whole array or struct into a block, in a region that draws its order. -/
theorem wp_store_as {o : Oper} {a : Act} {w : World} {K : Act → World → Prop} {Q : Exit → Act → World → Prop} (ty : TypeId) (x y : Operand) (ho : o.op = .store ty x y)
    (g : Nat) (cells : List Value) (hx : a.eval x = .pointer (some ⟨g, 0, none⟩)) (hy : a.eval y = .agg cells.toArray)
    (t : TypeId) (old : List Value) (hg : Row w g t old) (hi : (P.info? ty).map (·.size) = some cells.length) (hold : old.length = cells.length) (h1 : ∀ v ∈ cells, v.oneCell' = true)
    (h : ∀ w', Row w' g t cells → (∀ k, k ≠ g → w'.heap[k]? = w.heap[k]?) → w.grownBy w' (some g) → w'.heap.size = w.heap.size → K (a.put o.dst undef) w') : o.wp P a w K Q := by
  refine wp_store_row ty x y ho g cells.toArray hx hy t old.toArray hg (by simpa using hi) (by simpa using hold) (all_oneCell_toArray h1) ?_
  refine h _ (setRow_heap w g _ _ t _ hg) (fun k hk => setRow_other w g k _ hk) ⟨rfl, rfl, rfl, by simp, fun k _ hk => setRow_other w g k _ (fun e => hk (by rw [e]))⟩ (by simp)
end
/-- What Boot makes, at the end. -/
def Booted (w : World) (m : Mem) (e : Ending) (w' : World) : Prop :=
  ∃ A n cap, e = .returned (.tuple #[.agg (bootM m).1.cells.toArray, .slice A n cap]) ∧ Shows w' w'.heap.size A n cap (bootM m).2 ∧ Below w.heap.size w w' ∧ ∀ a, A = some a → w.heap.size ≤ a.block

set_option maxHeartbeats 4000000 in
theorem boot_any (x : Nat) (m : Mem) (w : World) (h : Fl w x m) (ht : Tables w) :
    Calls Tryz.prog 18 #[.pointer (some ⟨x, 0, none⟩)] w (Booted w m) := by
  have H := Lib.hid (And.intro h ht)
  clear h ht
  obtain ⟨Z, hzl, hz0, hz⟩ := sent_zero
  have HZ := Lib.hid (And.intro hz (And.intro hzl hz0))
  obtain ⟨ZS, hsl, hs0, hs⟩ := sh_zero
  have HZS := Lib.hid (And.intro hs (And.intro hsl hs0))
  clear hz hzl hz0 hs hsl hs0
  go_enter Tryz.func18, Tryz.ntmps18
  go_wp2_with (refine wpList_alloc_row rfl 45 rfl Z HZ.out.1 ?_)
  intro w1 hrow1 hb1 hsz1
  have HL := Lib.hid (look_any x m w1 (H.out.1.below hb1) (H.out.2.below hb1))
  obtain ⟨R, hR⟩ : ∃ R, w.heap.size = R := ⟨_, rfl⟩
  have H1 := Lib.hid (And.intro hrow1 (And.intro hb1 (And.intro hrow1.lt hR)))
  have HLE := Lib.hid hb1.size
  clear hrow1 hb1 hsz1
  rw [hR]
  clear hR
  go_wp2_with fail
  refine HL.out.mono ?_
  rintro _ w2 ⟨s0, s1, rfl, hs0, hs1, hb2⟩
  have hl0 := s0.cells_len hs0.sum
  have hl1 := s1.cells_len hs1.sum
  have hcl : (s0.cells ++ s1.cells).length = 68 := by rw [List.length_append, hl0, hl1]
  have hone : ∀ v ∈ s0.cells ++ s1.cells, v.oneCell' = true := fun v hv => by
    rcases List.mem_append.1 hv with h | h
    · exact s0.one v h
    · exact s1.one v h
  have hlack := fun p W h1 h2 => lack_any m s0 s1 p W hs0.is hs1.is h1 h2
  have hpick := pick_sh s0 s1 hl0
  obtain ⟨CS, hCS⟩ : ∃ C, s0.cells ++ s1.cells = C := ⟨_, rfl⟩
  rw [hCS] at hcl hone hlack hpick ⊢
  have HCS := Lib.hid (And.intro hlack (And.intro hpick (And.intro hone hcl)))
  have H2 := Lib.hid (And.intro hs0 (And.intro hs1 (And.intro (H1.out.1.below hb2 H1.out.2.2.1) (And.intro (step_below H1.out.2.1 hb2) (Nat.lt_of_lt_of_le H1.out.2.2.1 hb2.size)))))
  have HI := Lib.hid (shs_size CS hcl)
  have HZL := Lib.hid (show ZS.length = CS.length by rw [HZS.out.2.1, hcl])
  clear hs0 hs1 hb2 hl0 hl1 hcl hone hlack hpick hCS HL
  go_wp2_with (refine wpList_alloc_row rfl 86 rfl ZS HZS.out.1 ?_)
  intro w3 hrow3 hb3 hsz3
  go_wp2_with (refine wpList_store_as rfl _ _ _ rfl w2.heap.size CS rfl rfl 86 ZS hrow3 HI.out HZL.out HCS.out.2.2.1 ?_)
  intro w4 hrow4 hoth4 hg4 hsz4
  have hb24 : Below w2.heap.size w2 w4 := step_grow hb3 hg4 (Nat.le_refl _)
  obtain ⟨E, hE⟩ : ∃ E, w2.heap.size = E := ⟨_, rfl⟩
  have HW := Lib.hid (show ShOk w4 w1.heap.size (imgM m 0) s0 ∧ ShOk w4 w1.heap.size (imgM m 1) s1 ∧ Row w4 R 45 Z ∧ Row w4 E 86 CS ∧ Below w.heap.size w w4 ∧ R < E ∧ w.heap.size = R from by
    obtain ⟨k0, k1, k2, k3, k4⟩ := H2.out
    have e := H1.out.2.2.2
    rw [e] at k2 k4
    rw [← hE]
    exact ⟨k0.below hb24, k1.below hb24, k2.below hb24 k4, hrow4, step_below k3 hb24, k4, e⟩)
  rw [hE]
  clear hrow3 hb3 hsz3 hrow4 hoth4 hg4 hsz4 hb24 hE H1 H2 HZL
  go_wp2_with fail
  have hElt : E < w4.heap.size := HW.out.2.2.2.1.lt
  have hRlt : R < w4.heap.size := HW.out.2.2.1.lt
  have hS0 : Below w4.heap.size w4 w4.drew := (Below.refl _ w4).drew
  refine wp_region_held_drew (S := fun U => U.rangeAt E 0 CS) (by kernel_rfl) (range_over (HW.out.2.2.2.1.range 0 CS (fun j v hv => by rw [Nat.zero_add]; exact hv)) hS0 hElt) (fun hH0 => ?_)
  refine wpAnyH_take (i := 0) (v := ?_) rfl (by kernel_rfl) (by kernel_rfl) (by kernel_rfl) (fun _ _ _ h => h) (Or.inl ⟨by rfl, ?_⟩) (by assumption) ?_
  rotate_left
  · intro w' hS'; go_simp; try exact rfl
  try simp only [Act.put, List.getElem_toArray, List.getElem_cons_zero, List.setIfInBounds_toArray, List.set_cons_zero, List.set_cons_succ]
  refine wpAnyH_take (i := 2) (v := .agg CS.toArray) rfl (by kernel_rfl) (by kernel_rfl) (by kernel_rfl) (fun _ _ _ h => h) (yieldsIf_load_mid rfl 86 (.tmp 4) rfl E 0 rfl CS _ (fun U hU => hU) Tryz.underlying86 rfl HI.out) (by assumption) ?_
  try simp only [Act.put, List.getElem_toArray, List.getElem_cons_succ, List.getElem_cons_zero, List.setIfInBounds_toArray, List.set_cons_zero, List.set_cons_succ]
  refine wpAnyH_take (i := 3) (v := ?_) rfl (by kernel_rfl) (by kernel_rfl) (by kernel_rfl) (fun _ _ _ h => h) (Or.inl ⟨by rfl, ?_⟩) (by assumption) ?_
  rotate_left
  · intro w' hS'; go_simp; try exact rfl
  try simp only [Act.put, List.getElem_toArray, List.getElem_cons_succ, List.getElem_cons_zero, List.setIfInBounds_toArray, List.set_cons_zero, List.set_cons_succ]
  refine wpAnyH_ready (rs := [1]) (by kernel_rfl) (by simp) ?_
  refine AllReadyH.cons rfl (fun K hK => ?_) AllReadyH.nil
  go_simp
  have hb04 : Below w.heap.size w w4.drew := HW.out.2.2.2.2.1.drew
  (with_reducible refine (entries_any x m w4.drew (H.out.1.below hb04)).mono ?_)
  rintro _ w5 ⟨A, n, cap, rfl, hO5, hb5⟩
  have hb45 : Below w4.heap.size w4 w5 := ⟨hb5.os, hb5.tape, hb5.output, hb5.size, hb5.block⟩
  have hR5 : w5.rangeAt E 0 CS := range_over hH0 hb5 hElt
  have hn : n ≤ 1000 := by have := plM_len m; have := hO5.len; omega
  have hO5' : OwnPl w5 w4.heap.size A n cap (plM m) := hO5
  go_wp2_with fail
  refine hK.out _ _ hR5 (fun _ => ?_)
  clear hK K
  try simp only [Act.put, List.getElem_toArray, List.getElem_cons_succ, List.getElem_cons_zero, List.setIfInBounds_toArray, List.set_cons_zero, List.set_cons_succ]
  refine wpAnyH_ready (rs := [4]) (by kernel_rfl) (by simp) ?_
  refine AllReadyH.cons rfl (fun K hK => ?_) AllReadyH.nil
  go_simp
  have hdel := del_any (fun p => !countsM m p.e) CS.toArray A n cap w4.heap.size (plM m) w5 hO5' hn hb45.size (fun p hp W => HCS.out.1 p W (plM_in m p hp).2.2.1 (plM_in m p hp).2.2.2)
  have hff : ((plM m).filter fun p => !(!countsM m p.e)) = (plM m).filter fun p => countsM m p.e := by simp
  rw [hff] at hdel
  obtain ⟨F, hF⟩ : ∃ F, ((plM m).filter fun p => countsM m p.e) = F := ⟨_, rfl⟩
  rw [hF] at hdel
  have HF := Lib.hid hF
  have HD := Lib.hid hdel
  clear hff hF hdel hO5 hO5'
  refine HD.out.mono ?_
  rintro _ w6 ⟨k, rfl, hO6, hkn, hb6⟩
  have hb46 : Below w4.heap.size w4 w6 := hb45.trans hb6
  have hR6 : w6.rangeAt E 0 CS := range_over hR5 hb6 hElt
  go_wp2_with fail
  refine hK.out _ _ hR6 (fun _ => ?_)
  clear hK K HD
  try simp only [Act.put, List.getElem_toArray, List.getElem_cons_succ, List.getElem_cons_zero, List.setIfInBounds_toArray, List.set_cons_zero, List.set_cons_succ]
  refine wpAnyH_ready (rs := [5]) (by kernel_rfl) (by simp) ?_
  refine AllReadyH.cons rfl (fun K hK => ?_) AllReadyH.nil
  go_simp
  have hnw := newest_any A k cap w4.heap.size F w6 hO6 (Nat.le_trans hkn hn)
  have hns := newest_sum F hO6.sum
  obtain ⟨p, hp⟩ : ∃ p, newestP F = p := ⟨_, rfl⟩
  rw [hp] at hnw hns
  have hfe := field_ent p hns
  have hel := ent_len p.e hns
  obtain ⟨CP, hCP⟩ : ∃ C, p.cells = C := ⟨_, rfl⟩
  obtain ⟨CE, hCE⟩ : ∃ C, p.e.cells = C := ⟨_, rfl⟩
  rw [hCP] at hnw hfe
  rw [hCE] at hfe hel
  have HN := Lib.hid hnw
  have HFE := Lib.hid hfe
  have HP := Lib.hid (And.intro hns (And.intro hp (And.intro hCE hel)))
  clear hnw hns hp hfe hel hCP hCE
  refine HN.out.mono ?_
  rintro _ w7 ⟨rfl, hb7⟩
  have hb47 : Below w4.heap.size w4 w7 := hb46.trans (hb7.mono hb46.size)
  have hR7 : w7.rangeAt E 0 CS := range_over hR6 hb7 (Nat.lt_of_lt_of_le hElt hb46.size)
  go_wp2_with fail
  refine hK.out _ _ hR7 (fun _ => ?_)
  clear hK K HN
  try simp only [Act.put, List.getElem_toArray, List.getElem_cons_succ, List.getElem_cons_zero, List.setIfInBounds_toArray, List.set_cons_zero, List.set_cons_succ]
  refine wpAnyH_take (i := 6) (v := .agg CE.toArray) rfl (by kernel_rfl) (by kernel_rfl) (by kernel_rfl) (fun _ _ _ h => h) (yieldsIf_field rfl 75 (.tmp 12) 0 rfl (.agg CP.toArray) (.agg CE.toArray) rfl HFE.out) (by assumption) ?_
  try simp only [Act.put, List.getElem_toArray, List.getElem_cons_succ, List.getElem_cons_zero, List.setIfInBounds_toArray, List.set_cons_zero, List.set_cons_succ]
  refine wpAnyH_ready (rs := [7]) (by kernel_rfl) (by simp) ?_
  refine AllReadyH.cons rfl (fun K hK => ?_) AllReadyH.nil
  rw [if_pos (by simp [Region.wanted])]
  have hIE := sent_size CE HP.out.2.2.2
  have hZE : Z.length = CE.length := by rw [HZ.out.2.1, HP.out.2.2.2]
  have hoE : ∀ v ∈ CE, v.oneCell' = true := by rw [← HP.out.2.2.1]; exact sent_one p.e
  refine wp_store_as 45 (.tmp 2) (.tmp 13) rfl R CE rfl rfl 45 Z (HW.out.2.2.1.below hb47 hRlt) hIE hZE hoE ?_
  intro w8 hrow8 hoth8 hg8 hsz8
  have hER : E ≠ R := by have := HW.out.2.2.2.2.2.1; omega
  have hR8 : w8.rangeAt E 0 CS := fun j v hv => hg8.cell (hR7 j v hv) (by simp; exact hER)
  refine hK.out _ _ hR8 (fun _ => ?_)
  clear hK K
  refine wpAnyH_done (by kernel_rfl) ?_ _
  have hkeep : ∀ q, PartOk w4 w1.heap.size q → PartOk w8 w1.heap.size q := fun q hq => (hq.below hb47).beside hg8 (HW.out.2.2.1.below hb47 hRlt) (by decide)
  have HX := Lib.hid (show ShOk w8 w1.heap.size (imgM m 0) s0 ∧ ShOk w8 w1.heap.size (imgM m 1) s1 ∧ Row w8 R 45 CE ∧ Row w8 E 86 CS ∧ Below R w w8 from by
    have hw4 := HW.out.2.2.2.2.1
    rw [HW.out.2.2.2.2.2.2] at hw4
    have h7 : Below R w w7 := hw4.trans (hb47.mono (Nat.le_of_lt hRlt))
    exact ⟨HW.out.1.kept hkeep, HW.out.2.1.kept hkeep, hrow8, (hoth8 E hER).trans (HW.out.2.2.2.1.below hb47 hElt), ⟨hg8.os.trans h7.os, hg8.tape.trans h7.tape, hg8.output.trans h7.output, Nat.le_trans h7.size hg8.size, fun q hq => (hoth8 q (by omega)).trans (h7.block q hq)⟩⟩)
  have HIE := Lib.hid (And.intro hIE (And.intro (show (Tryz.prog.info? 45).map (·.size) = some CE.toArray.size by rw [hIE]; simp) hoE))
  have HFM := Lib.hid (show ∀ q ∈ F, countsM m q.e = true ∧ q.e.inside from fun q hq => by
    rw [← HF.out] at hq
    obtain ⟨h1, h2⟩ := List.mem_filter.1 hq
    exact ⟨h2, (plM_in m q h1).2.2.2⟩)
  clear hb04 hb5 hb45 hR5 hO6 hkn hb6 hb46 hR6 hb7 hb47 hR7 hrow8 hoth8 hg8 hsz8 hER hR8 hkeep hH0 hS0 hElt hRlt hIE hZE hoE HI HFE hn
  have HPK := Lib.hid HCS.out.2.1
  clear HCS
  by_cases hF0 : F = []
  · -- none counts
    have hpe : p.e = Ent.zero := by rw [← HP.out.2.1, hF0]; rfl
    have hCEZ : CE = Z := by rw [← HP.out.2.2.1, hpe]; exact HZ.out.2.2
    have heq := ent_eql Ent.zero Ent.zero rfl rfl
    rw [HZ.out.2.2] at heq
    have htr : (decide (Ent.zero.seq = Ent.zero.seq) && decide (Ent.zero.slot = Ent.zero.slot) && decide (Ent.zero.sum = Ent.zero.sum)) = true := by simp
    rw [htr] at heq
    have hbm := bootM_none m (by rw [HF.out]; exact hF0)
    obtain ⟨C2, hC2⟩ : ∃ C, Ent.cells ⟨0, 2, List.replicate 32 0⟩ = C := ⟨_, rfl⟩
    have hb2 := sent_built2
    have hl2 := ent_len ⟨0, 2, List.replicate 32 0⟩ rfl
    have ho2 := sent_one ⟨0, 2, List.replicate 32 0⟩
    have hbz := sent_built0
    rw [hC2] at hb2 hl2 ho2
    rw [HZ.out.2.2] at hbz
    have HQ := Lib.hid (And.intro heq (And.intro hbm (And.intro hb2 (And.intro ho2 (And.intro hbz hC2)))))
    have HI2 := Lib.hid (And.intro (sent_size C2 hl2) (And.intro (show Z.length = C2.length by rw [HZ.out.2.1, hl2]) (show (Tryz.prog.info? 45).map (·.size) = some C2.toArray.size by rw [sent_size C2 hl2]; simp)))
    subst hCEZ
    clear hpe heq htr hbm hb2 hl2 ho2 hbz hC2 hF0
    have heq2 := HQ.out.1
    go_wp2_with (first
      | (refine wpList_load_row rfl 45 _ rfl R rfl 45 CE.toArray (0, 0) _ HX.out.2.2.1 Tryz.underlying45 rfl HIE.out.2.1 ?_)
      | (refine wpList_build_is rfl 45 #[] rfl CE.toArray ?_ ?_; (focus (go_simp; exact HQ.out.2.2.2.2.1)))
      | (refine wpList_build_is rfl 45 #[(1, .const (.int .i64 2))] rfl C2.toArray ?_ ?_; (focus (go_simp; exact HQ.out.2.2.1)))
      | (refine wpList_store_as rfl _ _ _ rfl R C2 rfl rfl 45 CE HX.out.2.2.1 HI2.out.1 HI2.out.2.1 HQ.out.2.2.2.1 ?_))
    intro w9 hrow9 hoth9 hg9 hsz9
    have hb9 : Below w.heap.size w w9 := by
      have h8 := HX.out.2.2.2.2
      rw [HW.out.2.2.2.2.2.2]
      exact ⟨hg9.os.trans h8.os, hg9.tape.trans h8.tape, hg9.output.trans h8.output, Nat.le_trans h8.size hg9.size, fun q hq => (hoth9 q (by omega)).trans (h8.block q hq)⟩
    go_wp2_with fail
    refine bodyPost_ret (v := .tuple #[.agg C2.toArray, .slice none 0 0]) ?_ rfl ⟨none, 0, 0, by rw [HQ.out.2.1]; simp only; rw [HQ.out.2.2.2.2.2], by rw [HQ.out.2.1]; exact Shows.nil _ _, hb9, fun a ha => by cases ha⟩
    exact results_row_tmp (P := Tryz.prog) rfl _ w9 R 45 _ (0, 0) _ _ rfl rfl hrow9 Tryz.underlying45 rfl HI2.out.2.2
  · -- the newest of those that count
    have hpm : p ∈ F := by rw [← HP.out.2.1]; exact newest_mem F hF0
    obtain ⟨hcnt, hin1, hin2, hin3, hin4⟩ := HFM.out p hpm
    have heq := ent_eql p.e Ent.zero HP.out.1 rfl
    rw [HZ.out.2.2, HP.out.2.2.1] at heq
    have hfa : (decide (p.e.seq = Ent.zero.seq) && decide (p.e.slot = Ent.zero.slot) && decide (p.e.sum = Ent.zero.sum)) = false := by
      rw [decide_eq_false (show ¬ p.e.seq = Ent.zero.seq from fun h => by have : p.e.seq = 0 := h; omega)]
      rfl
    rw [hfa] at heq
    have hbm := bootM_some m (by rw [HF.out]; exact hF0)
    rw [HF.out, HP.out.2.1] at hbm
    have hbz := sent_built0
    rw [HZ.out.2.2] at hbz
    have hc1 : w8.cell? ⟨R, 1, none⟩ = some (.int .i64 p.e.slot) := HX.out.2.2.1.cell (j := 1) (by rw [← HP.out.2.2.1]; rfl)
    have hZE : Z.length = CE.length := by rw [HZ.out.2.1, HP.out.2.2.2]
    have HB := Lib.hid (And.intro hbm (And.intro hcnt (And.intro heq hbz)))
    have heq2 := HB.out.2.2.1
    clear hpm hcnt heq hfa hbm hbz hF0
    by_cases h2 : p.e.slot = 2
    · have hbm2 : bootM m = (p.e, []) := by rw [HB.out.1, if_pos h2]
      have HB2 := Lib.hid hbm2
      rw [h2] at hc1
      clear hbm2 h2
      go_wp2_with (first
        | (refine wpList_load_row rfl 45 _ rfl R rfl 45 CE.toArray (0, 0) _ HX.out.2.2.1 Tryz.underlying45 rfl HIE.out.2.1 ?_)
        | (refine wpList_build_is rfl 45 #[] rfl Z.toArray ?_ ?_; (focus (go_simp; exact HB.out.2.2.2)))
        | (refine wpList_store_as rfl _ _ _ rfl R CE rfl rfl 45 CE HX.out.2.2.1 HIE.out.1 rfl HIE.out.2.2 ?_))
      intro w9 hrow9 hoth9 hg9 hsz9
      have hb9 : Below w.heap.size w w9 := by
        have h8 := HX.out.2.2.2.2
        rw [HW.out.2.2.2.2.2.2]
        exact ⟨hg9.os.trans h8.os, hg9.tape.trans h8.tape, hg9.output.trans h8.output, Nat.le_trans h8.size hg9.size, fun q hq => (hoth9 q (by omega)).trans (h8.block q hq)⟩
      go_wp2_with fail
      refine bodyPost_ret (v := .tuple #[.agg CE.toArray, .slice none 0 0]) ?_ rfl ⟨none, 0, 0, by rw [HB2.out]; simp only; rw [HP.out.2.2.1], by rw [HB2.out]; exact Shows.nil _ _, hb9, fun a ha => by cases ha⟩
      exact results_row_tmp (P := Tryz.prog) rfl _ w9 R 45 _ (0, 0) _ _ rfl rfl hrow9 Tryz.underlying45 rfl HIE.out.2.1
    · obtain ⟨kk, hkk⟩ : ∃ k : Nat, p.e.slot = k := ⟨p.e.slot.toNat, by omega⟩
      have hk2 : kk < 2 := by omega
      obtain ⟨b, hib, _⟩ := counts_img HB.out.2.1 h2
      have hbm2 : bootM m = (p.e, b) := by rw [HB.out.1, if_neg h2, hib]; rfl
      rw [hkk] at hib hc1
      obtain ⟨s, hsk, hcs⟩ : ∃ s : Sh, ShOk w8 w1.heap.size (some b) s ∧ CS[kk * 34 + 1]? = some (.slice s.A s.n s.cap) := by
        obtain ⟨s, e0, e1, hr⟩ := HPK.out kk hk2
        refine ⟨s, ?_, hr 1 _ rfl⟩
        match kk, hk2 with
        | 0, _ => rw [e0 rfl]; have := HX.out.1; rw [show imgM m 0 = some b from hib] at this; exact this
        | 1, _ => rw [e1 rfl]; have := HX.out.2.1; rw [show imgM m 1 = some b from hib] at this; exact this
      have hcE : w8.cell? ⟨E, kk * 34 + 1, none⟩ = some (.slice s.A s.n s.cap) := HX.out.2.2.2.1.cell hcs
      have HB2 := Lib.hid (And.intro hbm2 hsk.2.2)
      have hkn : ¬ (kk : Int) = 2 := by omega
      have hkb : ((kk : Int) == 2) = false := by simpa using hkn
      have hk3 : (kk : Int) < 2 := by omega
      clear hbm2 hsk hcs hib hkk h2 hin3 hin4
      go_wp2_with (first
        | (refine wpList_load_row rfl 45 _ rfl R rfl 45 CE.toArray (0, 0) _ HX.out.2.2.1 Tryz.underlying45 rfl HIE.out.2.1 ?_)
        | (refine wpList_build_is rfl 45 #[] rfl Z.toArray ?_ ?_; (focus (go_simp; exact HB.out.2.2.2))))
      have hRl := HX.out.2.2.1.lt
      have hrR : w8.drew.rangeAt R 0 CE := HX.out.2.2.1.range 0 CE (fun j v hv => by rw [Nat.zero_add]; exact hv)
      have hS0 : w8.drew.rangeAt R 0 CE ∧ w8.drew.cell? ⟨R, 1, none⟩ = some (.int .i64 kk) ∧ w8.drew.cell? ⟨E, kk * 34 + 1, none⟩ = some (.slice s.A s.n s.cap) := ⟨hrR, hc1, hcE⟩
      refine wp_region_held_drew (S := fun U => U.rangeAt R 0 CE ∧ U.cell? ⟨R, 1, none⟩ = some (.int .i64 kk) ∧ U.cell? ⟨E, kk * 34 + 1, none⟩ = some (.slice s.A s.n s.cap)) (by kernel_rfl) hS0 (fun hH0 => ?_)
      refine wpAnyH_take (i := 0) (v := .agg CE.toArray) rfl (by kernel_rfl) (by kernel_rfl) (by kernel_rfl) (fun _ _ _ h => h) (yieldsIf_load_mid rfl 45 (.tmp 2) rfl R 0 rfl CE _ (fun U hU => hU.1) Tryz.underlying45 rfl HIE.out.1) (by assumption) ?_
      try simp only [Act.put, List.getElem_toArray, List.getElem_cons_zero, List.setIfInBounds_toArray, List.set_cons_zero, List.set_cons_succ]
      refine wpAnyH_take (i := 1) (v := ?_) rfl (by kernel_rfl) (by kernel_rfl) (by kernel_rfl) (fun _ _ _ h => h) (Or.inl ⟨by rfl, ?_⟩) (by assumption) ?_
      rotate_left
      · intro w' hS'; go_simp; try exact rfl
      try simp only [Act.put, List.getElem_toArray, List.getElem_cons_succ, List.getElem_cons_zero, List.setIfInBounds_toArray, List.set_cons_zero, List.set_cons_succ]
      refine wpAnyH_take (i := 2) (v := ?_) rfl (by kernel_rfl) (by kernel_rfl) (by kernel_rfl) (fun _ _ _ h => h) (Or.inl ⟨by rfl, ?_⟩) (by assumption) ?_
      rotate_left
      · intro w' hS'; obtain ⟨_, e1, e2⟩ := hS'; go_simp; try exact rfl
      try simp only [Act.put, List.getElem_toArray, List.getElem_cons_succ, List.getElem_cons_zero, List.setIfInBounds_toArray, List.set_cons_zero, List.set_cons_succ]
      refine wpAnyH_take (i := 3) (v := ?_) rfl (by kernel_rfl) (by kernel_rfl) (by kernel_rfl) (fun _ _ _ h => h) (Or.inl ⟨by rfl, ?_⟩) (by assumption) ?_
      rotate_left
      · intro w' hS'; go_simp; try exact rfl
      try simp only [Act.put, List.getElem_toArray, List.getElem_cons_succ, List.getElem_cons_zero, List.setIfInBounds_toArray, List.set_cons_zero, List.set_cons_succ]
      refine wpAnyH_take (i := 4) (v := ?_) rfl (by kernel_rfl) (by kernel_rfl) (by kernel_rfl) (fun _ _ _ h => h) (Or.inl ⟨by rfl, ?_⟩) (by assumption) ?_
      rotate_left
      · intro w' hS'; go_simp; try exact rfl
      try simp only [Act.put, List.getElem_toArray, List.getElem_cons_succ, List.getElem_cons_zero, List.setIfInBounds_toArray, List.set_cons_zero, List.set_cons_succ]
      refine wpAnyH_take (i := 5) (v := ?_) rfl (by kernel_rfl) (by kernel_rfl) (by kernel_rfl) (fun _ _ _ h => h) (Or.inl ⟨by rfl, ?_⟩) (by assumption) ?_
      rotate_left
      · intro w' hS'; obtain ⟨_, e1, e2⟩ := hS'; go_simp; try exact rfl
      try simp only [Act.put, List.getElem_toArray, List.getElem_cons_succ, List.getElem_cons_zero, List.setIfInBounds_toArray, List.set_cons_zero, List.set_cons_succ]
      refine wpAnyH_ready (rs := [6]) (by kernel_rfl) (by simp) ?_
      refine AllReadyH.cons rfl (fun K hK => ?_) AllReadyH.nil
      rw [if_pos (by simp [Region.wanted])]
      refine wp_store_as 45 (.tmp 2) (.tmp 24) rfl R CE rfl rfl 45 CE (show Row w8.drew R 45 CE from HX.out.2.2.1) HIE.out.1 rfl HIE.out.2.2 ?_
      intro w9 hrow9 hoth9 hg9 hsz9
      have hER : E ≠ R := by have := HW.out.2.2.2.2.2.1; omega
      have hS9 : w9.rangeAt R 0 CE ∧ w9.cell? ⟨R, 1, none⟩ = some (.int .i64 kk) ∧ w9.cell? ⟨E, kk * 34 + 1, none⟩ = some (.slice s.A s.n s.cap) :=
        ⟨hrow9.range 0 CE (fun j v hv => by rw [Nat.zero_add]; exact hv), hrow9.cell (j := 1) (by
          have h1 := hc1
          rw [cell_of_row _ _ _ _ _ (0, 0) HX.out.2.2.1, List.getElem?_toArray] at h1
          exact h1), hg9.cell (show w8.drew.cell? ⟨E, kk * 34 + 1, none⟩ = _ from hcE) (by simp; exact hER)⟩
      refine hK.out _ _ hS9 (fun _ => ?_)
      clear hK K
      refine wpAnyH_take (i := 7) (v := ?_) rfl (by kernel_rfl) (by kernel_rfl) (by kernel_rfl) (fun _ _ _ h => h) (Or.inl ⟨by rfl, ?_⟩) (by assumption) ?_
      rotate_left
      · intro w' hS'; go_simp; try exact rfl
      try simp only [Act.put, List.getElem_toArray, List.getElem_cons_succ, List.getElem_cons_zero, List.setIfInBounds_toArray, List.set_cons_zero, List.set_cons_succ]
      refine wpAnyH_done (by kernel_rfl) ?_ _
      have hp9 : PartOk w9 w1.heap.size ⟨s.A, s.n, s.cap, b⟩ := (show PartOk w8.drew w1.heap.size _ from HB2.out.2.below (Below.refl _ w8).drew).beside hg9 (show w8.drew.heap[R]? = _ from HX.out.2.2.1) (by decide)
      have hb9 : Below w.heap.size w w9 := by
        have h8 := HX.out.2.2.2.2
        rw [HW.out.2.2.2.2.2.2]
        exact ⟨hg9.os.trans h8.os, hg9.tape.trans h8.tape, hg9.output.trans h8.output, Nat.le_trans h8.size hg9.size, fun q hq => (hoth9 q (by omega)).trans (h8.block q hq)⟩
      clear hS9 hS0 hH0 hrR hcE hc1 hER hoth9 hg9 hsz9
      go_wp2_with fail
      refine bodyPost_ret (v := .tuple #[.agg CE.toArray, .slice s.A s.n s.cap]) ?_ rfl ⟨s.A, s.n, s.cap, by rw [HB2.out.1]; simp only; rw [HP.out.2.2.1], by rw [HB2.out.1]; exact hp9.shows, hb9, fun a ha => Nat.le_trans HLE.out (hp9.blk a ha).1⟩
      exact results_row_tmp (P := Tryz.prog) rfl _ w9 R 45 _ (0, 0) _ _ rfl rfl hrow9 Tryz.underlying45 rfl HIE.out.2.1
end Go.Proofs.YtmebdnblobobnaaGreatDoor
