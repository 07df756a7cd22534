/- Chapter 6: the order of entries in their places (the program's own functions). -/
import Derived.Test.YtmebdnblobobnaaGreatDoorSlotMath
import Derived.Deep.RegionHeld3
import Derived.Deep.QuietTactic
namespace Go.Proofs.YtmebdnblobobnaaGreatDoor
set_option maxRecDepth 100000
open Go.RowKit _root_.Go.Proofs.YtmebdnblobobnaaGreatDoor.Wd _root_.Go.Proofs.YtmebdnblobobnaaGreatDoor.Nm _root_.Go.Proofs.YtmebdnblobobnaaGreatDoor.Cm _root_.Go.Proofs.YtmebdnblobobnaaGreatDoor.Fm

theorem isNaN_any (x : Int) (w : World) : Calls Tryz.prog 105 #[.int .i64 x] w fun e w' => e = .returned (.bool false) ∧ w = w' := by
  go_enter Tryz.func105, Tryz.ntmps105
  go_wp2
  go_ret
  exact ⟨rfl, rfl⟩
theorem cmpI_any (x y : Int) (w : World) : Calls Tryz.prog 84 #[.int .i64 x, .int .i64 y] w fun e w' => e = .returned (.int .i64 (cmpI x y)) ∧ w = w' := by
  obtain ⟨R, hR⟩ : ∃ R, cmpI x y = R := ⟨_, rfl⟩
  rw [hR]
  by_cases h1 : x < y
  · have hd : R = -1 := by rw [← hR]; unfold cmpI; rw [if_pos h1]
    subst hd
    clear hR
    go_enter Tryz.func84, Tryz.ntmps84
    go_wp2_with fail
    (with_reducible refine (isNaN_any _ _).mono ?_)
    rintro _ w1 ⟨rfl, rfl⟩
    go_wp2_with fail
    (with_reducible refine (isNaN_any _ _).mono ?_)
    rintro _ w1 ⟨rfl, rfl⟩
    go_wp2
    go_ret
    exact ⟨rfl, rfl⟩
  · by_cases h2 : y < x
    · have hd : R = 1 := by rw [← hR]; unfold cmpI; rw [if_neg h1, if_pos h2]
      subst hd
      clear hR
      go_enter Tryz.func84, Tryz.ntmps84
      go_wp2_with fail
      (with_reducible refine (isNaN_any _ _).mono ?_)
      rintro _ w1 ⟨rfl, rfl⟩
      go_wp2_with fail
      (with_reducible refine (isNaN_any _ _).mono ?_)
      rintro _ w1 ⟨rfl, rfl⟩
      go_wp2
      go_ret
      exact ⟨rfl, rfl⟩
    · have hd : R = 0 := by rw [← hR]; unfold cmpI; rw [if_neg h1, if_neg h2]
      subst hd
      clear hR
      go_enter Tryz.func84, Tryz.ntmps84
      go_wp2_with fail
      (with_reducible refine (isNaN_any _ _).mono ?_)
      rintro _ w1 ⟨rfl, rfl⟩
      go_wp2_with fail
      (with_reducible refine (isNaN_any _ _).mono ?_)
      rintro _ w1 ⟨rfl, rfl⟩
      go_wp2
      go_ret
      exact ⟨rfl, rfl⟩
/-- The first of three that is not nought. -/
def orI (a b c : Int) : Int := if a ≠ 0 then a else if b ≠ 0 then b else c
def three (a b c : Int) (j : Nat) : Int := match j with | 0 => a | 1 => b | _ => c
theorem or_any (g : Nat) (a b c : Int) (w : World) (h0 : w.cell? ⟨g, 0, none⟩ = some (.int .i64 a)) (h1 : w.cell? ⟨g, 1, none⟩ = some (.int .i64 b)) (h2 : w.cell? ⟨g, 2, none⟩ = some (.int .i64 c)) :
    Calls Tryz.prog 83 #[.slice (some ⟨g, 0, none⟩) 3 3] w fun e w' => e = .returned (.int .i64 (orI a b c)) ∧ w = w' := by
  have hall : ∀ j : Nat, j < 3 → w.cell? ⟨g, j, none⟩ = some (.int .i64 (three a b c j)) := fun j hj => by
    match j, hj with
    | 0, _ => exact h0
    | 1, _ => exact h1
    | 2, _ => exact h2
  have HA := Lib.hid hall
  obtain ⟨R, hR⟩ : ∃ R, orI a b c = R := ⟨_, rfl⟩
  rw [hR]
  have HR := Lib.hid hR
  clear h0 h1 h2 hall hR
  go_enter Tryz.func83, Tryz.ntmps83
  go_wp2_with fail
  go_loop [8] (fun i => ∃ j : Nat, j ≤ 3 ∧ i = .int .i64 j ∧ Hid (∀ k, k < j → three a b c k = 0)) (fun i => 3 - (intOf i).toNat)
  case atStart => exact ⟨0, by omega, rfl, Lib.hid fun k hk => absurd hk (Nat.not_lt_zero k)⟩
  case round =>
    obtain ⟨j, hj, rfl, HZ⟩ := hrel
    by_cases hlt : j < 3
    · have hji : (j : Int) < 3 := by omega
      have hc := HA.out j hlt
      obtain ⟨x, hx⟩ : ∃ x, three a b c j = x := ⟨_, rfl⟩
      rw [hx] at hc
      have HX := Lib.hid hx
      clear hx
      by_cases h0 : x = 0
      · subst h0
        go_wp2
        go_round
        case rel => exact ⟨j + 1, by omega, by go_num, Lib.hid fun k hk => by
          by_cases hkj : k = j
          · rw [hkj]; exact HX.out
          · exact HZ.out k (by omega)⟩
        case measure => simp [intOf]; omega
      · have hb : (x != 0) = true := by simpa using h0
        have hfin : x = R := by
          rw [← HX.out, ← HR.out]
          have h1 := HZ.out
          have h3 := HX.out
          unfold orI
          match j, hlt with
          | 0, _ => simp only [three] at h3 ⊢; rw [if_pos (by rw [h3]; exact h0)]
          | 1, _ =>
            have e0 := h1 0 (by omega)
            simp only [three] at h3 e0 ⊢
            rw [if_neg (by rw [e0]; simp), if_pos (by rw [h3]; exact h0)]
          | 2, _ =>
            have e0 := h1 0 (by omega)
            have e1 := h1 1 (by omega)
            simp only [three] at h3 e0 e1 ⊢
            rw [if_neg (by rw [e0]; simp), if_neg (by rw [e1]; simp)]
        subst hfin
        go_wp2
        go_ret
        exact ⟨rfl, rfl⟩
    · have hj3 : j = 3 := by omega
      subst hj3
      have hfin : R = 0 := by
        rw [← HR.out]
        have e0 := HZ.out 0 (by omega)
        have e1 := HZ.out 1 (by omega)
        have e2 := HZ.out 2 (by omega)
        simp only [three] at e0 e1 e2
        unfold orI
        rw [if_neg (by rw [e0]; simp), if_neg (by rw [e1]; simp), e2]
      subst hfin
      go_wp2
      go_ret
      exact ⟨rfl, rfl⟩
theorem cmpP_or (p q : Pl) : cmpP p q = orI (cmpI p.e.seq q.e.seq) (cmpI q.sec p.sec) (cmpI p.pos q.pos) := rfl

theorem pl_cell (p : Pl) (h : p.e.sum.length = 32) : p.cells[0]? = some (.int .i64 p.e.seq) ∧ p.cells[1]? = some (.int .i64 p.e.slot) ∧ p.cells[34]? = some (.int .i64 p.sec) ∧ p.cells[35]? = some (.int .i64 p.pos) := by
  have hl : p.e.cells.length = 34 := by simp [Ent.cells, bc_len, h]
  refine ⟨rfl, rfl, ?_, ?_⟩
  · unfold Pl.cells; rw [List.getElem?_append_right (by omega), hl]; rfl
  · unfold Pl.cells; rw [List.getElem?_append_right (by omega), hl]; rfl
set_option maxHeartbeats 4000000 in
theorem compare_any (p q : Pl) (w : World) (hp : p.e.sum.length = 32) (hq : q.e.sum.length = 32) :
    Calls Tryz.prog 62 #[.agg p.cells.toArray, .agg q.cells.toArray] w fun e w' => e = .returned (.int .i64 (cmpP p q)) ∧ Below w.heap.size w w' := by
  rw [cmpP_or]
  obtain ⟨p0, _, p1, p2⟩ := pl_cell p hp
  obtain ⟨q0, _, q1, q2⟩ := pl_cell q hq
  generalize p.cells = P at p0 p1 p2 ⊢
  generalize q.cells = Q at q0 q1 q2 ⊢
  generalize p.e.seq = a at p0 ⊢
  generalize q.e.seq = b at q0 ⊢
  generalize (p.sec : Int) = a1 at p1 ⊢
  generalize (q.sec : Int) = b1 at q1 ⊢
  generalize (p.pos : Int) = a2 at p2 ⊢
  generalize (q.pos : Int) = b2 at q2 ⊢
  have HP := Lib.hid (And.intro p0 (And.intro p1 (And.intro p2 (And.intro q0 (And.intro q1 q2)))))
  clear p0 p1 p2 q0 q1 q2 hp hq
  go_enter Tryz.func62, Tryz.ntmps62
  go_wp2_with fail
  obtain ⟨W, hW⟩ : ∃ W, (w.alloc (Obj.cells P.toArray 75)).alloc (Obj.cells Q.toArray 75) = W := ⟨_, rfl⟩
  have hr1 : Row W w.heap.size 75 P := by rw [← hW]; exact (Row.new w _ P).alloc _
  have hr2 : Row W (w.heap.size + 1) 75 Q := by rw [← hW]; have := Row.new (w.alloc (Obj.cells P.toArray 75)) 75 Q; simpa using this
  have hbW : Below w.heap.size w W := by rw [← hW]; exact below_new (below_new (Below.refl _ _) _) _
  rw [hW]
  have HB := Lib.hid hbW
  obtain ⟨G, hG⟩ : ∃ G, w.heap.size = G := ⟨_, rfl⟩
  have HG := Lib.hid hG
  simp only [hG] at hr1 hr2 ⊢
  try simp only [heap_size_alloc, hG]
  have l1 := hr1.lt
  have l2 := hr2.lt
  obtain ⟨p0, p1, p2, q0, q1, q2⟩ := HP.out
  have HC := Lib.hid (And.intro (hr1.cell p0) (And.intro (hr1.cell p1) (And.intro (hr1.cell p2) (And.intro (hr2.cell q0) (And.intro (hr2.cell q1) (hr2.cell q2))))))
  clear hW hr1 hr2 hbW hG p0 p1 p2 q0 q1 q2 HP
  have hS0 : Below W.heap.size W W.drew := (Below.refl _ W).drew
  refine wp_region_held_drew (S := fun U => Below W.heap.size W U) (by kernel_rfl) hS0 (fun hH0 => ?_)
  refine wpAnyH_take (i := 0) (v := ?_) rfl (by kernel_rfl) (by kernel_rfl) (by kernel_rfl) (fun _ _ _ h => h) (Or.inl ⟨by rfl, ?_⟩) (by assumption) ?_
  rotate_left
  · intro w' hS'; go_simp; try exact rfl
  try simp only [Act.put, List.getElem_toArray, List.getElem_cons_zero, List.setIfInBounds_toArray, List.set_cons_zero, List.set_cons_succ]
  refine wpAnyH_take (i := 1) (v := ?_) rfl (by kernel_rfl) (by kernel_rfl) (by kernel_rfl) (fun _ _ _ h => h) (Or.inl ⟨by rfl, ?_⟩) (by assumption) ?_
  rotate_left
  · intro w' hS'; go_simp; try exact rfl
  try simp only [Act.put, List.getElem_toArray, List.getElem_cons_succ, List.getElem_cons_zero, List.setIfInBounds_toArray, List.set_cons_zero, List.set_cons_succ]
  refine wpAnyH_take (i := 2) (v := ?_) rfl (by kernel_rfl) (by kernel_rfl) (by kernel_rfl) (fun _ _ _ h => h) (Or.inl ⟨by rfl, ?_⟩) (by assumption) ?_
  rotate_left
  · intro w' hS'; obtain ⟨e0, e1, e2, e3, e4, e5⟩ := HC.out; have e := (hS'.cell (p := ⟨G, 0, none⟩) l1).trans e0; go_simp; try exact rfl
  try simp only [Act.put, List.getElem_toArray, List.getElem_cons_succ, List.getElem_cons_zero, List.setIfInBounds_toArray, List.set_cons_zero, List.set_cons_succ]
  refine wpAnyH_take (i := 3) (v := ?_) rfl (by kernel_rfl) (by kernel_rfl) (by kernel_rfl) (fun _ _ _ h => h) (Or.inl ⟨by rfl, ?_⟩) (by assumption) ?_
  rotate_left
  · intro w' hS'; go_simp; try exact rfl
  try simp only [Act.put, List.getElem_toArray, List.getElem_cons_succ, List.getElem_cons_zero, List.setIfInBounds_toArray, List.set_cons_zero, List.set_cons_succ]
  refine wpAnyH_take (i := 4) (v := ?_) rfl (by kernel_rfl) (by kernel_rfl) (by kernel_rfl) (fun _ _ _ h => h) (Or.inl ⟨by rfl, ?_⟩) (by assumption) ?_
  rotate_left
  · intro w' hS'; go_simp; try exact rfl
  try simp only [Act.put, List.getElem_toArray, List.getElem_cons_succ, List.getElem_cons_zero, List.setIfInBounds_toArray, List.set_cons_zero, List.set_cons_succ]
  refine wpAnyH_take (i := 5) (v := ?_) rfl (by kernel_rfl) (by kernel_rfl) (by kernel_rfl) (fun _ _ _ h => h) (Or.inl ⟨by rfl, ?_⟩) (by assumption) ?_
  rotate_left
  · intro w' hS'; obtain ⟨e0, e1, e2, e3, e4, e5⟩ := HC.out; have e := (hS'.cell (p := ⟨G + 1, 0, none⟩) l2).trans e3; go_simp; try exact rfl
  try simp only [Act.put, List.getElem_toArray, List.getElem_cons_succ, List.getElem_cons_zero, List.setIfInBounds_toArray, List.set_cons_zero, List.set_cons_succ]
  refine wpAnyH_take (i := 7) (v := ?_) rfl (by kernel_rfl) (by kernel_rfl) (by kernel_rfl) (fun _ _ _ h => h) (Or.inl ⟨by rfl, ?_⟩) (by assumption) ?_
  rotate_left
  · intro w' hS'; go_simp; try exact rfl
  try simp only [Act.put, List.getElem_toArray, List.getElem_cons_succ, List.getElem_cons_zero, List.setIfInBounds_toArray, List.set_cons_zero, List.set_cons_succ]
  refine wpAnyH_take (i := 8) (v := ?_) rfl (by kernel_rfl) (by kernel_rfl) (by kernel_rfl) (fun _ _ _ h => h) (Or.inl ⟨by rfl, ?_⟩) (by assumption) ?_
  rotate_left
  · intro w' hS'; obtain ⟨e0, e1, e2, e3, e4, e5⟩ := HC.out; have e := (hS'.cell (p := ⟨G + 1, 34, none⟩) l2).trans e4; go_simp; try exact rfl
  try simp only [Act.put, List.getElem_toArray, List.getElem_cons_succ, List.getElem_cons_zero, List.setIfInBounds_toArray, List.set_cons_zero, List.set_cons_succ]
  refine wpAnyH_take (i := 9) (v := ?_) rfl (by kernel_rfl) (by kernel_rfl) (by kernel_rfl) (fun _ _ _ h => h) (Or.inl ⟨by rfl, ?_⟩) (by assumption) ?_
  rotate_left
  · intro w' hS'; go_simp; try exact rfl
  try simp only [Act.put, List.getElem_toArray, List.getElem_cons_succ, List.getElem_cons_zero, List.setIfInBounds_toArray, List.set_cons_zero, List.set_cons_succ]
  refine wpAnyH_take (i := 10) (v := ?_) rfl (by kernel_rfl) (by kernel_rfl) (by kernel_rfl) (fun _ _ _ h => h) (Or.inl ⟨by rfl, ?_⟩) (by assumption) ?_
  rotate_left
  · intro w' hS'; obtain ⟨e0, e1, e2, e3, e4, e5⟩ := HC.out; have e := (hS'.cell (p := ⟨G, 34, none⟩) l1).trans e1; go_simp; try exact rfl
  try simp only [Act.put, List.getElem_toArray, List.getElem_cons_succ, List.getElem_cons_zero, List.setIfInBounds_toArray, List.set_cons_zero, List.set_cons_succ]
  refine wpAnyH_take (i := 12) (v := ?_) rfl (by kernel_rfl) (by kernel_rfl) (by kernel_rfl) (fun _ _ _ h => h) (Or.inl ⟨by rfl, ?_⟩) (by assumption) ?_
  rotate_left
  · intro w' hS'; go_simp; try exact rfl
  try simp only [Act.put, List.getElem_toArray, List.getElem_cons_succ, List.getElem_cons_zero, List.setIfInBounds_toArray, List.set_cons_zero, List.set_cons_succ]
  refine wpAnyH_take (i := 13) (v := ?_) rfl (by kernel_rfl) (by kernel_rfl) (by kernel_rfl) (fun _ _ _ h => h) (Or.inl ⟨by rfl, ?_⟩) (by assumption) ?_
  rotate_left
  · intro w' hS'; obtain ⟨e0, e1, e2, e3, e4, e5⟩ := HC.out; have e := (hS'.cell (p := ⟨G, 35, none⟩) l1).trans e2; go_simp; try exact rfl
  try simp only [Act.put, List.getElem_toArray, List.getElem_cons_succ, List.getElem_cons_zero, List.setIfInBounds_toArray, List.set_cons_zero, List.set_cons_succ]
  refine wpAnyH_take (i := 14) (v := ?_) rfl (by kernel_rfl) (by kernel_rfl) (by kernel_rfl) (fun _ _ _ h => h) (Or.inl ⟨by rfl, ?_⟩) (by assumption) ?_
  rotate_left
  · intro w' hS'; go_simp; try exact rfl
  try simp only [Act.put, List.getElem_toArray, List.getElem_cons_succ, List.getElem_cons_zero, List.setIfInBounds_toArray, List.set_cons_zero, List.set_cons_succ]
  refine wpAnyH_take (i := 15) (v := ?_) rfl (by kernel_rfl) (by kernel_rfl) (by kernel_rfl) (fun _ _ _ h => h) (Or.inl ⟨by rfl, ?_⟩) (by assumption) ?_
  rotate_left
  · intro w' hS'; obtain ⟨e0, e1, e2, e3, e4, e5⟩ := HC.out; have e := (hS'.cell (p := ⟨G + 1, 35, none⟩) l2).trans e5; go_simp; try exact rfl
  try simp only [Act.put, List.getElem_toArray, List.getElem_cons_succ, List.getElem_cons_zero, List.setIfInBounds_toArray, List.set_cons_zero, List.set_cons_succ]
  clear HC
  refine wpAnyH_ready (rs := [6]) (by kernel_rfl) (by simp) ?_
  refine AllReadyH.cons rfl (fun K hK => ?_) AllReadyH.nil
  go_simp
  (with_reducible refine (cmpI_any _ _ _).mono ?_)
  rintro _ w1 ⟨rfl, rfl⟩
  go_wp2_with fail
  refine hK.out _ _ hH0 (fun _ => ?_)
  clear hK K
  try simp only [Act.put, List.getElem_toArray, List.getElem_cons_succ, List.getElem_cons_zero, List.setIfInBounds_toArray, List.set_cons_zero, List.set_cons_succ]
  refine wpAnyH_ready (rs := [11]) (by kernel_rfl) (by simp) ?_
  refine AllReadyH.cons rfl (fun K hK => ?_) AllReadyH.nil
  go_simp
  (with_reducible refine (cmpI_any _ _ _).mono ?_)
  rintro _ w1 ⟨rfl, rfl⟩
  go_wp2_with fail
  refine hK.out _ _ hH0 (fun _ => ?_)
  clear hK K
  try simp only [Act.put, List.getElem_toArray, List.getElem_cons_succ, List.getElem_cons_zero, List.setIfInBounds_toArray, List.set_cons_zero, List.set_cons_succ]
  refine wpAnyH_ready (rs := [16]) (by kernel_rfl) (by simp) ?_
  refine AllReadyH.cons rfl (fun K hK => ?_) AllReadyH.nil
  go_simp
  (with_reducible refine (cmpI_any _ _ _).mono ?_)
  rintro _ w1 ⟨rfl, rfl⟩
  go_wp2_with fail
  refine hK.out _ _ hH0 (fun _ => ?_)
  clear hK K
  try simp only [Act.put, List.getElem_toArray, List.getElem_cons_succ, List.getElem_cons_zero, List.setIfInBounds_toArray, List.set_cons_zero, List.set_cons_succ]
  refine wpAnyH_ready (rs := [17]) (by kernel_rfl) (by simp) ?_
  refine AllReadyH.cons rfl (fun K hK => ?_) AllReadyH.nil
  go_simp
  obtain ⟨x0, hx0⟩ : ∃ x, cmpI a b = x := ⟨_, rfl⟩
  obtain ⟨x1, hx1⟩ : ∃ x, cmpI b1 a1 = x := ⟨_, rfl⟩
  obtain ⟨x2, hx2⟩ : ∃ x, cmpI a2 b2 = x := ⟨_, rfl⟩
  rw [hx0, hx1, hx2]
  have HX := Lib.hid (And.intro hx0 (And.intro hx1 hx2))
  clear hx0 hx1 hx2
  have k0 := cell_newn W #[.int .i64 x0, .int .i64 x1, .int .i64 x2] 3 W.heap.size 0 (.int .i64 x0) rfl rfl
  have k1 := cell_newn W #[.int .i64 x0, .int .i64 x1, .int .i64 x2] 3 W.heap.size 1 (.int .i64 x1) rfl rfl
  have k2 := cell_newn W #[.int .i64 x0, .int .i64 x1, .int .i64 x2] 3 W.heap.size 2 (.int .i64 x2) rfl rfl
  have hb2 : Below W.heap.size W ((W.alloc (.cells #[.int .i64 x0, .int .i64 x1, .int .i64 x2] 3)).drew) := (below_new (Below.refl _ _) _).drew
  generalize (W.alloc (.cells #[.int .i64 x0, .int .i64 x1, .int .i64 x2] 3)).drew = W2 at k0 k1 k2 hb2 ⊢
  refine hK.out _ _ hb2 (fun _ => ?_)
  clear hK K
  try simp only [Act.put, List.getElem_toArray, List.getElem_cons_succ, List.getElem_cons_zero, List.setIfInBounds_toArray, List.set_cons_zero, List.set_cons_succ]
  refine wpAnyH_ready (rs := [18]) (by kernel_rfl) (by simp) ?_
  refine AllReadyH.cons rfl (fun K hK => ?_) AllReadyH.nil
  go_simp
  (with_reducible refine (or_any _ _ _ _ _ k0 k1 k2).mono ?_)
  rintro _ w1 ⟨rfl, rfl⟩
  clear k0 k1 k2
  go_wp2_with fail
  refine hK.out _ _ hb2 (fun _ => ?_)
  clear hK K
  try simp only [Act.put, List.getElem_toArray, List.getElem_cons_succ, List.getElem_cons_zero, List.setIfInBounds_toArray, List.set_cons_zero, List.set_cons_succ]
  refine wpAnyH_take (i := 19) (v := ?_) rfl (by kernel_rfl) (by kernel_rfl) (by kernel_rfl) (fun _ _ _ h => h) (Or.inl ⟨by rfl, ?_⟩) (by assumption) ?_
  rotate_left
  · intro w' hS'; go_simp; try exact rfl
  try simp only [Act.put, List.getElem_toArray, List.getElem_cons_succ, List.getElem_cons_zero, List.setIfInBounds_toArray, List.set_cons_zero, List.set_cons_succ]
  refine wpAnyH_done (by kernel_rfl) ?_ _
  have HB2 := Lib.hid (HB.out.trans (hb2.mono HB.out.size))
  clear hb2 hS0 hH0
  go_wp2
  go_ret
  exact ⟨by rw [HX.out.1, HX.out.2.1, HX.out.2.2]; rfl, HB2.out⟩
end Go.Proofs.YtmebdnblobobnaaGreatDoor
