/- Chapter 6: an entry, and its bytes (the document's own functions). -/
import Derived.Test.YtmebdnblobobnaaGreatDoorEntMath
import Derived.Deep.RegionHeld3
import Derived.Deep.QuietTactic
namespace Go.Proofs.YtmebdnblobobnaaGreatDoor
set_option maxRecDepth 100000
open Go.RowKit _root_.Go.Proofs.YtmebdnblobobnaaGreatDoor.Wd _root_.Go.Proofs.YtmebdnblobobnaaGreatDoor.Nm _root_.Go.Proofs.YtmebdnblobobnaaGreatDoor.Cm

theorem wrote_block {w w' : World} {base : Nat} {A A2 : Option Addr} {n cap m c2 : Nat} {l more : List UInt8} (h : Wrote w w' base A n cap l A2 m c2 more) : ∀ k, A2.map (·.block) = some k → base ≤ k := by
  intro k hk
  rcases own_form h.1 with ⟨rfl, _⟩ | ⟨g, cur, rfl, hb, _⟩
  · cases hk
  · simp at hk; omega

set_option maxHeartbeats 1000000 in
theorem xbytes6_any (e : Ent) (w : World) (hl : e.sum.length = 32) :
    Calls Tryz.prog 42 #[.agg e.cells.toArray] w fun r w' => ∃ A c, r = .returned (.slice A 48 c) ∧ Shows w' w'.heap.size A 48 c e.bytes ∧ Below w.heap.size w w' ∧ ∀ a, A = some a → w.heap.size ≤ a.block := by
  obtain ⟨i0, hi0, hz0, hz1, hz2⟩ := info_parts infoByte
  have HC : Hid (e.cells.toArray.size = 34) := Lib.hid (e.cells_len hl)
  go_enter Tryz.func42, Tryz.ntmps42
  go_wp2_with fail
  obtain ⟨W, hW⟩ : ∃ W, w.alloc (Obj.cells e.cells.toArray 49) = W := ⟨_, rfl⟩
  have hrow : W.heap[w.heap.size]? = some (Obj.cells e.cells.toArray 49 (0, 0)) := by rw [← hW]; exact heap_alloc_new _ _
  have hbW : Below w.heap.size w W := by rw [← hW]; exact (Below.refl _ _).alloc (Nat.le_refl _) _
  have hlt : w.heap.size < W.heap.size := by rw [← hW]; simp
  rw [hW]
  obtain ⟨g, hg⟩ : ∃ g, w.heap.size = g := ⟨_, rfl⟩
  have HGE := Lib.hid hg
  rw [hg] at hrow hbW hlt ⊢
  clear hg
  have hcell : ∀ j v, e.cells[j]? = some v → W.cell? ⟨g, j, none⟩ = some v := fun j v hv => by
    rw [cell_of_row _ _ _ _ _ (0, 0) hrow, List.getElem?_toArray, hv]
  have c0 : W.cell? ⟨g, 0, none⟩ = some (.int .i64 e.seq) := hcell 0 _ rfl
  have c1 : W.cell? ⟨g, 1, none⟩ = some (.int .i64 e.slot) := hcell 1 _ rfl
  have HCELL := Lib.hid hcell
  have HROW := Lib.hid hrow
  clear hW hcell hrow
  have hn0 : W.drew.ownsRow W.heap.size 5 1 (.slice none 0 0) 0 (bc []) := World.ownsRow_nil W.drew W.heap.size 5 1
  have hS0 : W.drew.cell? ⟨g, 0, none⟩ = some (.int .i64 e.seq) ∧ W.drew.cell? ⟨g, 1, none⟩ = some (.int .i64 e.slot) := ⟨c0, c1⟩
  refine wp_region_held_drew (S := fun U => U.cell? ⟨g, 0, none⟩ = some (.int .i64 e.seq) ∧ U.cell? ⟨g, 1, none⟩ = some (.int .i64 e.slot)) (by kernel_rfl) hS0 (fun hH0 => ?_)
  refine wpAnyH_take (i := 0) (v := ?_) rfl (by kernel_rfl) (by kernel_rfl) (by kernel_rfl) (fun _ _ _ h => h) (Or.inl ⟨by rfl, ?_⟩) (by assumption) ?_
  rotate_left
  · intro w' hS'; go_simp; try exact rfl
  try simp only [Act.put, List.getElem_toArray, List.getElem_cons_zero, List.setIfInBounds_toArray, List.set_cons_zero, List.set_cons_succ]
  refine wpAnyH_take (i := 1) (v := ?_) rfl (by kernel_rfl) (by kernel_rfl) (by kernel_rfl) (fun _ _ _ h => h) (Or.inl ⟨by rfl, ?_⟩) (by assumption) ?_
  rotate_left
  · intro w' hS'; obtain ⟨e0, e1⟩ := hS'; go_simp; try exact rfl
  try simp only [Act.put, List.getElem_toArray, List.getElem_cons_succ, List.getElem_cons_zero, List.setIfInBounds_toArray, List.set_cons_zero, List.set_cons_succ]
  refine wpAnyH_take (i := 3) (v := ?_) rfl (by kernel_rfl) (by kernel_rfl) (by kernel_rfl) (fun _ _ _ h => h) (Or.inl ⟨by rfl, ?_⟩) (by assumption) ?_
  rotate_left
  · intro w' hS'; go_simp; try exact rfl
  try simp only [Act.put, List.getElem_toArray, List.getElem_cons_succ, List.getElem_cons_zero, List.setIfInBounds_toArray, List.set_cons_zero, List.set_cons_succ]
  refine wpAnyH_take (i := 4) (v := ?_) rfl (by kernel_rfl) (by kernel_rfl) (by kernel_rfl) (fun _ _ _ h => h) (Or.inl ⟨by rfl, ?_⟩) (by assumption) ?_
  rotate_left
  · intro w' hS'; obtain ⟨e0, e1⟩ := hS'; go_simp; try exact rfl
  try simp only [Act.put, List.getElem_toArray, List.getElem_cons_succ, List.getElem_cons_zero, List.setIfInBounds_toArray, List.set_cons_zero, List.set_cons_succ]
  refine wpAnyH_ready (rs := [2]) (by kernel_rfl) (by simp) ?_
  refine AllReadyH.cons rfl (fun K hK => ?_) AllReadyH.nil
  go_simp
  (with_reducible refine (refwint_any W.heap.size none 0 0 [] e.seq W.drew hn0 (Nat.le_refl _) (by omega)).mono ?_)
  rintro _ wa ⟨A1, d1, rfl, hwa⟩
  have hg1 := hwa.2.2.1
  have hH1 : wa.cell? ⟨g, 0, none⟩ = some (.int .i64 e.seq) ∧ wa.cell? ⟨g, 1, none⟩ = some (.int .i64 e.slot) := ⟨hg1.cell hH0.1 (by simp), hg1.cell hH0.2 (by simp)⟩
  have ho1 := hwa.1
  have hsz1 : W.heap.size ≤ wa.heap.size := hg1.size
  have hk1 := wrote_block hwa
  go_wp2_with fail
  refine hK.out _ _ hH1 (fun hH1 => ?_)
  clear hK K
  try simp only [Act.put, List.getElem_toArray, List.getElem_cons_succ, List.getElem_cons_zero, List.setIfInBounds_toArray, List.set_cons_zero, List.set_cons_succ]
  refine wpAnyH_ready (rs := [5]) (by kernel_rfl) (by simp) ?_
  refine AllReadyH.cons rfl (fun K hK => ?_) AllReadyH.nil
  go_simp
  (with_reducible refine (refwint_any W.heap.size A1 (0 + 8) d1 ([] ++ leb e.seq 8) e.slot wa ho1 hsz1 (by omega)).mono ?_)
  rintro _ wb ⟨A2, d2, rfl, hwb⟩
  have hg2 := hwb.2.2.1
  have hne : some g ≠ A1.map (·.block) := fun h => by have := hk1 _ h.symm; omega
  have hH2 : wb.cell? ⟨g, 0, none⟩ = some (.int .i64 e.seq) ∧ wb.cell? ⟨g, 1, none⟩ = some (.int .i64 e.slot) := ⟨hg2.cell hH1.1 hne, hg2.cell hH1.2 hne⟩
  have ho2 := hwb.1
  have hk2 := wrote_block hwb
  go_wp2_with fail
  refine hK.out _ _ hH2 (fun hH2 => ?_)
  clear hK K
  try simp only [Act.put, List.getElem_toArray, List.getElem_cons_succ, List.getElem_cons_zero, List.setIfInBounds_toArray, List.set_cons_zero, List.set_cons_succ]
  refine wpAnyH_take (i := 6) (v := ?_) rfl (by kernel_rfl) (by kernel_rfl) (by kernel_rfl) (fun _ _ _ h => h) (Or.inl ⟨by rfl, ?_⟩) (by assumption) ?_
  rotate_left
  · intro w' hS'; go_simp; try exact rfl
  try simp only [Act.put, List.getElem_toArray, List.getElem_cons_succ, List.getElem_cons_zero, List.setIfInBounds_toArray, List.set_cons_zero, List.set_cons_succ]
  refine wpAnyH_done (by kernel_rfl) ?_ _
  have hb1 : Below W.heap.size W wa := ⟨hg1.os, hg1.tape, hg1.output, hg1.size, fun k hk => hg1.block k hk (by simp)⟩
  have hb2 : Below W.heap.size W wb := ⟨hg2.os.trans hb1.os, hg2.tape.trans hb1.tape, hg2.output.trans hb1.output, Nat.le_trans hb1.size hg2.size, fun k hk => (hg2.block k (Nat.lt_of_lt_of_le hk hb1.size) (fun h => by have := hk1 _ h.symm; omega)).trans (hb1.block k hk)⟩
  have HW := Lib.hid ho2
  have HB2 := Lib.hid hb2
  have hgl : g < wb.heap.size := Nat.lt_of_lt_of_le hlt hb2.size
  have hrb : wb.heap[g]? = some (Obj.cells e.cells.toArray 49 (0, 0)) := (hb2.block g hlt).trans HROW.out
  have hss : Shows wb wb.heap.size (some ⟨g, 2, none⟩) 32 32 e.sum := ⟨hl, Nat.le_refl _, by decide, fun _ => ⟨g, 2, rfl, hgl, fun j hj => by
    rw [cell_of_row _ _ _ _ _ (0, 0) hrb, List.getElem?_toArray]
    rw [Nat.add_comm 2 j]
    exact bc_get e.sum j hj⟩⟩
  have HSRC := Lib.hid (hss.src (P := Tryz.prog) Tryz.underlying29)
  have HK2 := Lib.hid hk2
  clear hk2 ho2 hb2 hss hrb hb1 hg1 hg2 hwa hwb hk1 hH0 hH1 hH2 hS0 ho1 hne hn0
  go_wp2_with (at_builtin; refine wpList_ap _ rfl (.tmp 10) (.tmp 12) 29 29 rfl W.heap.size 5 i0 Tryz.underlying29 hi0 hz0 hz1 hz2 A2 (0 + 8 + 8) d2 _ rfl HW.out _ 32 e.sum rfl HSRC.out ?c1 ?c2 ?_)
  case c1 => omega
  case c2 => exact HB2.out.size
  intro A3 d3 w3 ho3 hold3 hg3 hat3
  have hb3 : Below W.heap.size W w3 := ⟨hg3.os.trans HB2.out.os, hg3.tape.trans HB2.out.tape, hg3.output.trans HB2.out.output, Nat.le_trans HB2.out.size hg3.size, fun k hk => (hg3.block k (Nat.lt_of_lt_of_le hk HB2.out.size) (fun h => by have := HK2.out _ h.symm; omega)).trans (HB2.out.block k hk)⟩
  have hs3 := Shows.of_own ho3
  have HA3 := Lib.hid (show ∀ a, A3 = some a → g ≤ a.block from fun a ha => Nat.le_trans (Nat.le_of_lt hlt) (own_block ho3 a.block (by rw [ha]; rfl)).1)
  have hb4 := hbW.trans (hb3.mono (Nat.le_of_lt hlt))
  clear ho3 hold3 hg3 hat3 HW HSRC hb3
  go_wp2
  go_ret
  exact ⟨A3, d3, rfl, by unfold Ent.bytes; rw [List.append_assoc]; exact hs3, by rw [HGE.out]; exact hb4, by rw [HGE.out]; exact HA3.out⟩
end Go.Proofs.YtmebdnblobobnaaGreatDoor
