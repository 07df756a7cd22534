/- Chapter 6: an entry's bytes (the program's own function). -/
import Derived.Test.YtmebdnblobobnaaGreatDoorEntMath
import Derived.Test.YtmebdnblobobnaaGreatDoorKCode
import Derived.Deep.RegionHeld3
import Derived.Deep.QuietTactic
namespace Go.Proofs.YtmebdnblobobnaaGreatDoor
set_option maxRecDepth 100000
open Go.RowKit _root_.Go.Proofs.YtmebdnblobobnaaGreatDoor.Wd _root_.Go.Proofs.YtmebdnblobobnaaGreatDoor.Nm

set_option maxHeartbeats 1000000 in
theorem slbytes_any (e : Ent) (w : World) (hl : e.sum.length = 32) :
    Calls Tryz.prog 38 #[.agg e.cells.toArray] w fun r w' => ∃ A c, r = .returned (.slice A 48 c) ∧ Shows w' w'.heap.size A 48 c e.bytes ∧ Below w.heap.size w w' ∧ ∀ a, A = some a → w.heap.size ≤ a.block := by
  obtain ⟨i0, hi0, hz0, hz1, hz2⟩ := info_parts infoByte
  have HC : Hid (e.cells.toArray.size = 34) := Lib.hid (e.cells_len hl)
  go_enter Tryz.func38, Tryz.ntmps38
  go_wp2_with fail
  obtain ⟨W, hW⟩ : ∃ W, w.alloc (Obj.cells e.cells.toArray 45) = W := ⟨_, rfl⟩
  have hrow : W.heap[w.heap.size]? = some (Obj.cells e.cells.toArray 45 (0, 0)) := by rw [← hW]; exact heap_alloc_new _ _
  have hbW : Below w.heap.size w W := by rw [← hW]; exact (Below.refl _ _).alloc (Nat.le_refl _) _
  have hlt : w.heap.size < W.heap.size := by rw [← hW]; simp
  rw [hW]
  obtain ⟨g, hg⟩ : ∃ g, w.heap.size = g := ⟨_, rfl⟩
  have HGE := Lib.hid hg
  rw [hg] at hrow hbW hlt ⊢
  clear hg
  have hcell : ∀ j v, e.cells[j]? = some v → W.cell? ⟨g, j, none⟩ = some v := fun j v hv => by
    rw [cell_of_row _ _ _ _ _ (0, 0) hrow, List.getElem?_toArray, hv]
  have c0 : W.cell? ⟨g, 0, none⟩ = some (.int .i64 e.seq) := hcell 0 _ rfl
  have c1 : W.cell? ⟨g, 1, none⟩ = some (.int .i64 e.slot) := hcell 1 _ rfl
  have HCELL := Lib.hid hcell
  have HROW := Lib.hid hrow
  clear hW hcell hrow
  have hS0 : W.drew.cell? ⟨g, 0, none⟩ = some (.int .i64 e.seq) ∧ W.drew.cell? ⟨g, 1, none⟩ = some (.int .i64 e.slot) := ⟨c0, c1⟩
  refine wp_region_held_drew (S := fun U => U.cell? ⟨g, 0, none⟩ = some (.int .i64 e.seq) ∧ U.cell? ⟨g, 1, none⟩ = some (.int .i64 e.slot)) (by kernel_rfl) hS0 (fun hH0 => ?_)
  refine wpAnyH_take (i := 0) (v := ?_) rfl (by kernel_rfl) (by kernel_rfl) (by kernel_rfl) (fun _ _ _ h => h) (Or.inl ⟨by rfl, ?_⟩) (by assumption) ?_
  rotate_left
  · intro w' hS'; go_simp; try exact rfl
  try simp only [Act.put, List.getElem_toArray, List.getElem_cons_zero, List.setIfInBounds_toArray, List.set_cons_zero, List.set_cons_succ]
  refine wpAnyH_take (i := 1) (v := ?_) rfl (by kernel_rfl) (by kernel_rfl) (by kernel_rfl) (fun _ _ _ h => h) (Or.inl ⟨by rfl, ?_⟩) (by assumption) ?_
  rotate_left
  · intro w' hS'; obtain ⟨e0, e1⟩ := hS'; go_simp; try exact rfl
  try simp only [Act.put, List.getElem_toArray, List.getElem_cons_succ, List.getElem_cons_zero, List.setIfInBounds_toArray, List.set_cons_zero, List.set_cons_succ]
  refine wpAnyH_take (i := 3) (v := ?_) rfl (by kernel_rfl) (by kernel_rfl) (by kernel_rfl) (fun _ _ _ h => h) (Or.inl ⟨by rfl, ?_⟩) (by assumption) ?_
  rotate_left
  · intro w' hS'; go_simp; try exact rfl
  try simp only [Act.put, List.getElem_toArray, List.getElem_cons_succ, List.getElem_cons_zero, List.setIfInBounds_toArray, List.set_cons_zero, List.set_cons_succ]
  refine wpAnyH_take (i := 4) (v := ?_) rfl (by kernel_rfl) (by kernel_rfl) (by kernel_rfl) (fun _ _ _ h => h) (Or.inl ⟨by rfl, ?_⟩) (by assumption) ?_
  rotate_left
  · intro w' hS'; obtain ⟨e0, e1⟩ := hS'; go_simp; try exact rfl
  try simp only [Act.put, List.getElem_toArray, List.getElem_cons_succ, List.getElem_cons_zero, List.setIfInBounds_toArray, List.set_cons_zero, List.set_cons_succ]
  refine wpAnyH_take (i := 6) (v := ?_) rfl (by kernel_rfl) (by kernel_rfl) (by kernel_rfl) (fun _ _ _ h => h) (Or.inl ⟨by rfl, ?_⟩) (by assumption) ?_
  rotate_left
  · intro w' hS'; go_simp; try exact rfl
  try simp only [Act.put, List.getElem_toArray, List.getElem_cons_succ, List.getElem_cons_zero, List.setIfInBounds_toArray, List.set_cons_zero, List.set_cons_succ]
  refine wpAnyH_take (i := 7) (v := ?_) rfl (by kernel_rfl) (by kernel_rfl) (by kernel_rfl) (fun _ _ _ h => h) (Or.inl ⟨by rfl, ?_⟩) (by assumption) ?_
  rotate_left
  · intro w' hS'; go_simp; try exact rfl
  try simp only [Act.put, List.getElem_toArray, List.getElem_cons_succ, List.getElem_cons_zero, List.setIfInBounds_toArray, List.set_cons_zero, List.set_cons_succ]
  refine wpAnyH_ready (rs := [2]) (by kernel_rfl) (by simp) ?_
  refine AllReadyH.cons rfl (fun K hK => ?_) AllReadyH.nil
  go_simp
  (with_reducible refine (int_any none 0 0 [] e.seq W.drew (Shows.nil _ _) (by decide)).mono ?_)
  rintro _ wa ⟨A1, d1, rfl, ho1, hb1⟩
  have hltd : g < W.drew.heap.size := hlt
  have hH1 : wa.cell? ⟨g, 0, none⟩ = some (.int .i64 e.seq) ∧ wa.cell? ⟨g, 1, none⟩ = some (.int .i64 e.slot) := ⟨(hb1.cell (p := ⟨g, 0, none⟩) hltd).trans hH0.1, (hb1.cell (p := ⟨g, 1, none⟩) hltd).trans hH0.2⟩
  have hs1 := Shows.of_own ho1
  go_wp2_with fail
  refine hK.out _ _ hH1 (fun hH1 => ?_)
  clear hK K
  try simp only [Act.put, List.getElem_toArray, List.getElem_cons_succ, List.getElem_cons_zero, List.setIfInBounds_toArray, List.set_cons_zero, List.set_cons_succ]
  refine wpAnyH_ready (rs := [5]) (by kernel_rfl) (by simp) ?_
  refine AllReadyH.cons rfl (fun K hK => ?_) AllReadyH.nil
  go_simp
  (with_reducible refine (int_any A1 (0 + 8) d1 ([] ++ leb e.seq 8) e.slot wa hs1 (by decide)).mono ?_)
  rintro _ wb ⟨A2, d2, rfl, ho2, hb2⟩
  have hlta : g < wa.heap.size := Nat.lt_of_lt_of_le hlt hb1.size
  have hH2 : wb.cell? ⟨g, 0, none⟩ = some (.int .i64 e.seq) ∧ wb.cell? ⟨g, 1, none⟩ = some (.int .i64 e.slot) := ⟨(hb2.cell (p := ⟨g, 0, none⟩) hlta).trans hH1.1, (hb2.cell (p := ⟨g, 1, none⟩) hlta).trans hH1.2⟩
  go_wp2_with fail
  refine hK.out _ _ hH2 (fun hH2 => ?_)
  clear hK K
  try simp only [Act.put, List.getElem_toArray, List.getElem_cons_succ, List.getElem_cons_zero, List.setIfInBounds_toArray, List.set_cons_zero, List.set_cons_succ]
  refine wpAnyH_ready (rs := [8]) (by kernel_rfl) (by simp) ?_
  refine AllReadyH.cons rfl (fun K hK => ?_) AllReadyH.nil
  rw [if_pos (by simp [Region.wanted])]
  have hbw : Below W.heap.size W wa := ⟨hb1.os, hb1.tape, hb1.output, hb1.size, hb1.block⟩
  have hbb : Below W.heap.size W wb := step_below hbw hb2
  have hgl : g < wb.heap.size := Nat.lt_of_lt_of_le hlt hbb.size
  have hrb : wb.heap[g]? = some (Obj.cells e.cells.toArray 45 (0, 0)) := (hbb.block g hlt).trans HROW.out
  have hss : Shows wb wb.heap.size (some ⟨g, 2, none⟩) 32 32 e.sum := ⟨hl, Nat.le_refl _, by decide, fun _ => ⟨g, 2, rfl, hgl, fun j hj => by
    rw [cell_of_row _ _ _ _ _ (0, 0) hrb, List.getElem?_toArray]
    rw [Nat.add_comm 2 j]
    exact bc_get e.sum j hj⟩⟩
  refine wp_ap wb (.tmp 8) (.tmp 10) 29 29 rfl wa.heap.size 5 i0 Tryz.underlying29 hi0 hz0 hz1 hz2 A2 (0 + 8 + 8) d2 _ rfl ho2 _ 32 e.sum rfl (hss.src Tryz.underlying29) (by decide) hb2.size ?_
  intro A3 d3 w3 ho3 _ hg3 _
  have hk2 := fun k hk => (own_block ho2 k hk).1
  have hne : some g ≠ A2.map (·.block) := fun h => by have := hk2 _ h.symm; omega
  have hH3 : w3.cell? ⟨g, 0, none⟩ = some (.int .i64 e.seq) ∧ w3.cell? ⟨g, 1, none⟩ = some (.int .i64 e.slot) := ⟨hg3.cell hH2.1 hne, hg3.cell hH2.2 hne⟩
  refine hK.out _ _ hH3 (fun hH3 => ?_)
  clear hK K
  try simp only [Act.put, List.getElem_toArray, List.getElem_cons_succ, List.getElem_cons_zero, List.setIfInBounds_toArray, List.set_cons_zero, List.set_cons_succ]
  refine wpAnyH_take (i := 9) (v := ?_) rfl (by kernel_rfl) (by kernel_rfl) (by kernel_rfl) (fun _ _ _ h => h) (Or.inl ⟨by rfl, ?_⟩) (by assumption) ?_
  rotate_left
  · intro w' hS'; go_simp; try exact rfl
  try simp only [Act.put, List.getElem_toArray, List.getElem_cons_succ, List.getElem_cons_zero, List.setIfInBounds_toArray, List.set_cons_zero, List.set_cons_succ]
  refine wpAnyH_done (by kernel_rfl) ?_ _
  have hb3 : Below W.heap.size W w3 := hbb.grown hg3 hbb.size (fun k hk => Nat.le_trans hbw.size (hk2 k hk))
  have HS3 := Lib.hid (Shows.of_own ho3)
  have HA3 := Lib.hid (show ∀ a, A3 = some a → g ≤ a.block from fun a ha => by
    have h1 := (own_block ho3 a.block (by rw [ha]; rfl)).1
    exact Nat.le_trans (Nat.le_of_lt hlt) (Nat.le_trans hbw.size h1))
  have HB4 := Lib.hid (hbW.trans (hb3.mono (Nat.le_of_lt hlt)))
  clear ho3 hg3 hH3 hH2 hH1 hH0 hb3 hbb hbw hb1 hb2 ho1 ho2 hs1 hss hrb hk2 hne hS0 c0 c1
  go_wp2
  go_ret
  exact ⟨A3, d3, rfl, by unfold Ent.bytes; rw [List.append_assoc]; exact HS3.out, by rw [HGE.out]; exact HB4.out, by rw [HGE.out]; exact HA3.out⟩
end Go.Proofs.YtmebdnblobobnaaGreatDoor
