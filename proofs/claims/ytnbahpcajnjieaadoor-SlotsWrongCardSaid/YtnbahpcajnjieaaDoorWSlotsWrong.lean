/- The walk of the law SlotsWrong: an entry whose sum is not the stored image's does not count; the one before it does. -/
import Derived.Test.YtnbahpcajnjieaaDoorLaw6Base
import Derived.Test.YtnbahpcajnjieaaDoorKShaRef
import Derived.Lib.SlBytesConst
namespace Go.Proofs.YtnbahpcajnjieaaDoor
set_option maxRecDepth 100000
open Go.RowKit _root_.Go.Proofs.YtnbahpcajnjieaaDoor.Wd _root_.Go.Proofs.YtnbahpcajnjieaaDoor.Nm _root_.Go.Proofs.YtnbahpcajnjieaaDoor.Cm _root_.Go.Proofs.YtnbahpcajnjieaaDoor.Fm _root_.Go.Proofs.YtnbahpcajnjieaaDoor.Sm

theorem img_fresh (slot : Nat) (hs : slot < 2) : imgM Mem.fresh slot = none := by
  unfold imgM rowsM
  have e : (2 : Int) + (slot : Int) = ((2 + slot : Nat) : Int) := by omega
  rw [e, readM_nat _ _ (by omega), (good_fresh (2 + slot) (by omega)).is]
  rfl
/-- Of all entries the first alone counts. -/
theorem Marked.boot_first {m : Mem} {E : Nat → Ent} {t n : Nat} (h : Marked m E t n) (hk : 16 * t + n ≤ 16) (hn : 1 ≤ n) (slot : Nat) (hs : slot < 2) (b : List UInt8) (hi : imgM m slot = some b) (h1 : (E 1).slot = slot) (h2 : (E 1).sum = sha b)
    (ho : ∀ i, 2 ≤ i → i ≤ 16 * t + n → countsM m (E i) = false) : bootM m = (E 1, b) := by
  have ht : t = 0 := by omega
  subst ht
  have h3 := h.two
  rw [if_pos rfl] at h3
  obtain ⟨j, rfl⟩ : ∃ j, n = j + 1 := ⟨n - 1, by omega⟩
  have hall : allE m = (E 1, 0) :: ((List.range j).map fun i => (E (i + 2), 0)) := by
    rw [h3.all]
    unfold blockE elder
    rw [if_pos rfl, List.range_succ_eq_map]
    simp [List.map_map, Function.comp_def, Nat.add_comm]
    intro a _
    rw [show 1 + (a + 1) = a + 2 by omega]
  have hc1 := counts_yes slot hs b hi h1 h2
  have hb : bootE m = some (E 1, 0) := by
    unfold bootE
    rw [hall, List.filter_cons_of_pos (by exact hc1)]
    have hnil : ((List.range j).map fun i => (E (i + 2), 0)).filter (fun x => countsM m x.1) = [] := by
      rw [List.filter_eq_nil_iff]
      intro x hx
      obtain ⟨i, hi2, rfl⟩ := List.mem_map.1 hx
      have := List.mem_range.1 hi2
      rw [ho (i + 2) (by omega) (by omega)]
      decide
    rw [hnil]
    rfl
  unfold bootM
  rw [hb]
  simp only
  rw [if_neg (by rw [h1]; omega), h1, hi]
  rfl

theorem counts_no {m : Mem} {e : Ent} (slot : Nat) (hs : slot < 2) (h1 : e.slot = slot) (hi : ∀ b, imgM m slot = some b → e.sum ≠ sha b) : countsM m e = false := by
  unfold countsM
  rw [decide_eq_false (by omega), Bool.false_or, h1]
  cases h : imgM m slot with
  | none => rfl
  | some b => exact decide_eq_false (fun h' => hi b h h'.symm)

set_option maxHeartbeats 4000000 in
theorem slotsWrong_walk (n0 : Int) (h : List UInt8) (slot : Int) (w : World) (hT : Tables w) (_hn : (Lit.int .i64 n0).wf = true) (hl : h.length = 32) (_hs : (Lit.int .i64 slot).wf = true) :
    Calls Tryd.prog 6 #[.int .i64 n0, .agg (bc h).toArray, .int .i64 slot] w fun e w' => e = .returned (.bool true) ∧ Below w.heap.size w w' := by
  have kc := fun (w : World) (C : Array Value) (n c : Nat) => Lib.run_convert_bytes_const (P := Tryd.prog) w 26 5 C n c Tryd.underlying26 Tryd.underlying5
  obtain ⟨q, hq⟩ : ∃ q : Nat, n0 % 5 = q := ⟨(n0 % 5).toNat, by omega⟩
  have hq5 : q < 5 := by omega
  obtain ⟨k, hk⟩ : ∃ k : Nat, slot % 2 = k := ⟨(slot % 2).toNat, by omega⟩
  have hk2 : k < 2 := by omega
  obtain ⟨j, hj⟩ : ∃ j : Nat, (1 : Int) - (k : Int) = j := ⟨1 - k, by omega⟩
  have hj2 : j < 2 := by omega
  have hjk : j ≠ k := by omega
  obtain ⟨img, himg⟩ : ∃ l : List UInt8, [105, 109, 97, 103, 101] = l := ⟨_, rfl⟩
  have hil : img.length = 5 := by rw [← himg]; rfl
  have hbi : bc img = [.int .u8 105, .int .u8 109, .int .u8 97, .int .u8 103, .int .u8 101] := by rw [← himg]; rfl
  obtain ⟨BH, hBH⟩ : ∃ B, bc h = B := ⟨_, rfl⟩
  obtain ⟨BS, hBS⟩ : ∃ B, bc (sha img) = B := ⟨_, rfl⟩
  have hBl : BH.length = 32 := by rw [← hBH, bc_len, hl]
  have heq := hash_eql2 h (sha img) hl (sha_len img)
  rw [hBH, hBS] at heq
  have HT := Lib.hid hT
  have HK := Lib.hid (And.intro hq (And.intro hk hj))
  have HI := Lib.hid (And.intro hil (And.intro hbi himg))
  have HBH := Lib.hid (And.intro hBH (And.intro hBS hBl))
  have HIH := Lib.hid (hash_size BH hBl)
  have HEQ := Lib.hid heq
  rw [hBH]
  clear hT hq hk hj hil hbi himg hBH hBS hBl heq _hn _hs
  go_enter Tryd.func6, Tryd.ntmps6
  obtain ⟨W, hW⟩ : ∃ W, w.alloc (Obj.cells BH.toArray 31) = W := ⟨_, rfl⟩
  have hrow : Row W w.heap.size 31 BH := by rw [← hW]; exact Row.new _ _ _
  have hbW : Below w.heap.size w W := by rw [← hW]; exact (Below.refl _ _).alloc (Nat.le_refl _) _
  have HROW := Lib.hid (And.intro hrow (And.intro hbW hrow.lt))
  have HW := Lib.hid hW
  clear hW hrow hbW
  go_upto_region 1 with fail
  rw [HW.out]
  obtain ⟨B, hB⟩ : ∃ B, w.heap.size = B := ⟨_, rfl⟩
  have HB := Lib.hid hB
  rw [hB] at HROW ⊢
  clear hB
  go_wp2_with fail
  (with_reducible refine (known6_any W (HT.out.below (by rw [HB.out]; exact HROW.out.2.1))).mono ?_)
  rintro _ w1 ⟨rfl, hb1⟩
  have HB1 := Lib.hid (And.intro (HROW.out.1.below hb1 HROW.out.2.2) (And.intro (show Below w.heap.size w w1 by rw [HB.out]; exact HROW.out.2.1.trans (hb1.mono (Nat.le_of_lt HROW.out.2.2))) (Nat.lt_of_lt_of_le HROW.out.2.2 hb1.size)))
  clear hb1 HROW HW
  go_wp2_with fail
  (with_reducible refine (within6_any _ 5 _ (by decide) (by decide)).mono ?_)
  rintro _ w2 ⟨rfl, rfl⟩
  rw [HK.out.1]
  go_wp2_with fail
  (with_reducible refine (within6_any _ 2 _ (by decide) (by decide)).mono ?_)
  rintro _ w2 ⟨rfl, rfl⟩
  rw [HK.out.2.1]
  go_upto_region 5 with fail
  obtain ⟨L, hL⟩ : ∃ L, w1.heap.size = L := ⟨_, rfl⟩
  have hsh := shows_cells w1 5 (5, 6) img (by rw [HI.out.1]; decide)
  have hba := below_new (Below.refl w1.heap.size w1) (.cells (bc img).toArray 5 (5, 6))
  have hsz : (w1.alloc (.cells (bc img).toArray 5 (5, 6))).heap.size = L + 1 := by rw [← hL]; simp
  rw [HI.out.2.1, HI.out.1, hL] at hsh
  rw [HI.out.2.1, hL] at hba
  rw [HI.out.2.1] at hsz
  obtain ⟨W2, hW2⟩ : ∃ W, w1.alloc (Obj.cells #[Value.int IntKind.u8 105, Value.int IntKind.u8 109, Value.int IntKind.u8 97, Value.int IntKind.u8 103, Value.int IntKind.u8 101] 5 (5, 6)) = W := ⟨_, rfl⟩
  rw [hL, hW2]
  change Shows (w1.alloc (Obj.cells #[Value.int IntKind.u8 105, Value.int IntKind.u8 109, Value.int IntKind.u8 97, Value.int IntKind.u8 103, Value.int IntKind.u8 101] 5 (5, 6))) _ _ _ _ _ at hsh
  change Below _ _ (w1.alloc (Obj.cells #[Value.int IntKind.u8 105, Value.int IntKind.u8 109, Value.int IntKind.u8 97, Value.int IntKind.u8 103, Value.int IntKind.u8 101] 5 (5, 6))) at hba
  change (w1.alloc (Obj.cells #[Value.int IntKind.u8 105, Value.int IntKind.u8 109, Value.int IntKind.u8 97, Value.int IntKind.u8 103, Value.int IntKind.u8 101] 5 (5, 6))).heap.size = _ at hsz
  rw [hW2] at hsh hba hsz
  have hrowB : Row W2 B 31 BH := HB1.out.1.below hba (by rw [← hL]; exact HB1.out.2.2)
  have HW2 := Lib.hid (And.intro hrowB (And.intro (show Shows W2 W2.heap.size (some ⟨L, 0, none⟩) 5 5 img by rw [hsz]; exact hsh) (And.intro (show Below w.heap.size w W2 from step_below HB1.out.2.1 (by rw [hL]; exact hba)) (show L < W2.heap.size by omega))))
  clear hL hsh hba hsz hW2 hrowB
  have hBl : B < W2.heap.size := HW2.out.1.lt
  have hS0 : W2.drew.rangeAt B 0 BH := HW2.out.1.range 0 BH (fun j v hv => by rw [Nat.zero_add]; exact hv)
  refine wp_region_held_drew (S := fun U => U.rangeAt B 0 BH) (by kernel_rfl) hS0 (fun hH0 => ?_)
  refine wpAnyH_take (i := 0) (v := .agg BH.toArray) rfl (by kernel_rfl) (by kernel_rfl) (by kernel_rfl) (fun _ _ _ h => h) (yieldsIf_load_mid rfl 31 (.tmp 4) rfl B 0 rfl BH _ (fun U hU => hU) Tryd.underlying31 rfl HIH.out) (by assumption) ?_
  try simp only [Act.put, List.getElem_toArray, List.getElem_cons_zero, List.setIfInBounds_toArray, List.set_cons_zero, List.set_cons_succ]
  refine wpAnyH_take (i := 1) (v := ?_) rfl (by kernel_rfl) (by kernel_rfl) (by kernel_rfl) (fun _ _ _ h => h) (Or.inl ⟨by rfl, ?_⟩) (by assumption) ?_
  rotate_left
  · intro w' hS'; go_simp; try exact rfl
  try simp only [Act.put, List.getElem_toArray, List.getElem_cons_succ, List.getElem_cons_zero, List.setIfInBounds_toArray, List.set_cons_zero, List.set_cons_succ]
  refine wpAnyH_ready (rs := [2]) (by kernel_rfl) (by simp) ?_
  refine AllReadyH.cons rfl (fun K hK => ?_) AllReadyH.nil
  go_simp
  have hsd : Shows W2.drew W2.drew.heap.size (some ⟨L, 0, none⟩) 5 5 img := shows_later HW2.out.2.1 (Below.refl _ W2).drew
  have HSU := Lib.hid (refsum3_any (some ⟨L, 0, none⟩) 5 5 img W2.drew hsd (by decide))
  rw [HBH.out.2.1] at HSU
  refine HSU.out.mono ?_
  rintro _ w3 ⟨rfl, hb3⟩
  have hb23 : Below W2.heap.size W2 w3 := ⟨hb3.os, hb3.tape, hb3.output, hb3.size, hb3.block⟩
  have hS3 : w3.rangeAt B 0 BH := range_over hS0 hb3 hBl
  go_wp2_with fail
  refine hK.out _ _ hS3 (fun _ => ?_)
  clear hK K
  try simp only [Act.put, List.getElem_toArray, List.getElem_cons_succ, List.getElem_cons_zero, List.setIfInBounds_toArray, List.set_cons_zero, List.set_cons_succ]
  have heq2 := HEQ.out
  refine wpAnyH_take (i := 3) (v := ?_) rfl (by kernel_rfl) (by kernel_rfl) (by kernel_rfl) (fun _ _ _ h => h) (Or.inl ⟨by rfl, ?_⟩) (by assumption) ?_
  rotate_left
  · intro w' hS'; go_simp; try exact rfl
  try simp only [Act.put, List.getElem_toArray, List.getElem_cons_succ, List.getElem_cons_zero, List.setIfInBounds_toArray, List.set_cons_zero, List.set_cons_succ]
  refine wpAnyH_done (by kernel_rfl) ?_ _
  have HW3 := Lib.hid (And.intro (HW2.out.1.below hb23 hBl) (And.intro (shows_later HW2.out.2.1 hb23) (And.intro (step_below HW2.out.2.2.1 hb23) (And.intro (Nat.lt_of_lt_of_le HW2.out.2.2.2 hb23.size) (Nat.lt_of_lt_of_le hBl hb23.size)))))
  clear hS0 hH0 hsd hb3 hb23 hS3 HSU hBl HW2 heq2
  by_cases hsame : h = sha img
  · rw [decide_eq_true hsame]
    clear hsame
    go_wp2_with fail
    go_ret
    exact ⟨rfl, HW3.out.2.2.1⟩
  · rw [decide_eq_false hsame]
    have HNE := Lib.hid hsame
    clear hsame
    obtain ⟨E, hE⟩ : ∃ E : Nat → Ent, (fun i : Nat => if i % 2 = 0 then (⟨i, k, h⟩ : Ent) else if i = 1 then ⟨1, k, sha img⟩ else ⟨i, j, sha img⟩) = E := ⟨_, rfl⟩
    have hE1 : E 1 = ⟨1, k, sha img⟩ := by rw [← hE]; rfl
    have hEe : ∀ i, i % 2 = 0 → E i = ⟨i, k, h⟩ := fun i hi => by rw [← hE]; simp only; rw [if_pos hi]
    have hEo : ∀ i, i % 2 = 1 → i ≠ 1 → E i = ⟨i, j, sha img⟩ := fun i hi h1 => by rw [← hE]; simp only; rw [if_neg (by omega), if_neg h1]
    obtain ⟨m1, a1, M1, i1, o1⟩ := (marked_fresh E).store k hk2 img (by rw [HI.out.1]; decide)
    obtain ⟨m2, t2, c2, a2, s2, M2, k2, p2⟩ := M1.mark (by decide) k (by omega) (by omega) (sha img) (sha_len img) hE1
    have i2 : imgM m2 k = some img := by rw [s2.img k hk2]; exact i1
    have o2 : imgM m2 j = none := by rw [s2.img j hj2, o1 j hj2 hjk]; exact img_fresh j hj2
    have HM := Lib.hid (And.intro a1 (And.intro a2 (And.intro M2 (And.intro k2 (And.intro p2 (And.intro i2 o2))))))
    have HE := Lib.hid (And.intro hE1 (And.intro hEe hEo))
    clear hE hE1 hEe hEo a1 M1 i1 o1 a2 s2 M2 k2 p2 i2 o2
    go_wp2_with fail
    (with_reducible refine (new_any _).mono ?_)
    rintro _ w4 ⟨rfl, hf4, hb4⟩
    obtain ⟨x, hx⟩ : ∃ x, w3.heap.size = x := ⟨_, rfl⟩
    have hLx : L ≠ x := by have := HW3.out.2.2.2.1; omega
    have HB4 := Lib.hid hb4
    have HST := Lib.hid (store_any x Mem.fresh k (some ⟨L, 0, none⟩) 5 5 img w4 (by rw [← hx]; exact hf4) (shows_later HW3.out.2.1 hb4) (by decide) (fun p hp _ => by injection hp with hp; subst hp; exact hLx))
    rw [HM.out.1] at HST
    have HX := Lib.hid (And.intro hx hLx)
    rw [hx]
    clear hf4 hb4 hx hLx
    go_wp2_with fail
    refine HST.out.mono ?_
    rintro _ w5 ⟨rfl, hf5, hg5⟩
    have HB5 := Lib.hid (step_grow HB4.out hg5 (by rw [HX.out.1]; exact Nat.le_refl _))
    have HSU := Lib.hid (refsum3_any (some ⟨L, 0, none⟩) 5 5 img w5 (shows_later HW3.out.2.1 HB5.out) (by decide))
    rw [HBH.out.2.1] at HSU
    have HF5 := Lib.hid hf5
    clear hf5 hg5 HST HB4
    go_wp2_with fail
    refine HSU.out.mono ?_
    rintro _ w6 ⟨rfl, hb6⟩
    have HB6 := Lib.hid (step_below HB5.out hb6)
    have HMK := Lib.hid (mark_any x m1 k (sha img) w6 (HF5.out.below hb6) (sha_len img) (by omega) (by omega))
    rw [HM.out.2.1, HBH.out.2.1] at HMK
    clear hb6 HSU HB5 HF5
    go_wp2_with fail
    refine HMK.out.mono ?_
    rintro _ w7 ⟨rfl, hf7, hg7⟩
    have HJ0 : Hid (∃ m t c, Fl w7 x m ∧ Marked m E t c ∧ 16 * t + c = 1 + 2 * 0 ∧ 1 ≤ c ∧ imgM m k = some img ∧ imgM m j = none ∧ Below w3.heap.size w3 w7) :=
      Lib.hid ⟨m2, t2, c2, hf7, HM.out.2.2.1, by have := HM.out.2.2.2.1; omega, HM.out.2.2.2.2.1, HM.out.2.2.2.2.2.1, HM.out.2.2.2.2.2.2, step_grow HB6.out hg7 (by rw [HX.out.1]; exact Nat.le_refl _)⟩
    clear hf7 hg7 HMK HB6
    go_wp2_with fail
    go_loopw [9] (fun i wr => ∃ r : Nat, r ≤ q ∧ i = .int .i64 r ∧ Hid (∃ m t c, Fl wr x m ∧ Marked m E t c ∧ 16 * t + c = 1 + 2 * r ∧ 1 ≤ c ∧ imgM m k = some img ∧ imgM m j = none ∧ Below w3.heap.size w3 wr)) (fun i _ => q - (intOf i).toNat)
    case atStart => exact ⟨0, by omega, rfl, HJ0⟩
    case round =>
      clear HJ0
      obtain ⟨r, hr, rfl, HJ⟩ := hrel
      obtain ⟨m, t, c, hf, hM, hk3, hc1, hik, hij, hb⟩ := HJ.out
      clear HJ
      by_cases hlt : r < q
      · have hri : (r : Int) < (q : Int) := by omega
        obtain ⟨m', t', c', a3, s3, M3, k3, p3⟩ := hM.mark (by omega) k (by omega) (by omega) h hl (by rw [hk3, HE.out.2.1 _ (by omega)]; rfl)
        obtain ⟨m'', t'', c'', a4, s4, M4, k4, p4⟩ := M3.mark (by omega) j (by omega) (by omega) (sha img) (sha_len img) (by rw [k3, hk3, HE.out.2.2 _ (by omega) (by omega)]; rfl)
        rw [← HK.out.2.2] at a4
        have HRB := Lib.hid ((HW3.out.1.below hb HW3.out.2.2.2.2).range 0 BH (fun j v hv => by rw [Nat.zero_add]; exact hv))
        have HMK := Lib.hid (mark_any x m k h wr hf hl (by omega) (by omega))
        rw [a3, HBH.out.1] at HMK
        have HN := Lib.hid (And.intro a4 (And.intro M4 (And.intro (show 16 * t'' + c'' = 1 + 2 * (r + 1) by omega) (And.intro p4 (And.intro (show imgM m'' k = some img by rw [s4.img k hk2, s3.img k hk2]; exact hik) (show imgM m'' j = none by rw [s4.img j hj2, s3.img j hj2]; exact hij))))))
        have HBR := Lib.hid hb
        clear hf hM hk3 hc1 hik hij hb a3 s3 M3 k3 p3 a4 s4 M4 k4 p4
        go_wp2_with (first
          | (refine wpList_load_mid rfl 31 (.tmp 4) rfl B 0 rfl BH _ HRB.out Tryd.underlying31 rfl HIH.out ?_))
        refine HMK.out.mono ?_
        rintro _ wa ⟨rfl, hfa, hga⟩
        have HBA := Lib.hid (step_grow HBR.out hga (by rw [HX.out.1]; exact Nat.le_refl _))
        have HSU := Lib.hid (refsum3_any (some ⟨L, 0, none⟩) 5 5 img wa (shows_later HW3.out.2.1 HBA.out) (by decide))
        rw [HBH.out.2.1] at HSU
        have HFA := Lib.hid hfa
        clear hfa hga HMK HBR HRB
        go_wp2_with fail
        refine HSU.out.mono ?_
        rintro _ wb ⟨rfl, hbb⟩
        have HBB := Lib.hid (step_below HBA.out hbb)
        have HMK := Lib.hid (mark_any x m' (1 - (k : Int)) (sha img) wb (HFA.out.below hbb) (sha_len img) (by omega) (by omega))
        rw [HN.out.1, HBH.out.2.1] at HMK
        clear hbb HSU HBA HFA
        go_wp2_with fail
        refine HMK.out.mono ?_
        rintro _ wc ⟨rfl, hfc, hgc⟩
        have HJ1 := Lib.hid (show ∃ m t c, Fl wc x m ∧ Marked m E t c ∧ 16 * t + c = 1 + 2 * (r + 1) ∧ 1 ≤ c ∧ imgM m k = some img ∧ imgM m j = none ∧ Below w3.heap.size w3 wc from
          ⟨m'', t'', c'', hfc, HN.out.2.1, HN.out.2.2.1, HN.out.2.2.2.1, HN.out.2.2.2.2.1, HN.out.2.2.2.2.2, step_grow HBB.out hgc (by rw [HX.out.1]; exact Nat.le_refl _)⟩)
        clear hfc hgc HMK HBB HN
        go_wp2_with fail
        go_roundw
        case rel => exact ⟨r + 1, by omega, by go_num, HJ1⟩
        case measure => simp [intOf]; omega
      · have hrq : r = q := by omega
        subst hrq
        have hbm := hM.boot_first (by omega) hc1 k hk2 img hik (by rw [HE.out.1]) (by rw [HE.out.1]) (fun i h1 h2 => by
          by_cases he : i % 2 = 0
          · rw [HE.out.2.1 i he]
            exact counts_no k hk2 rfl (fun b hb' => by rw [hik] at hb'; injection hb' with hb'; rw [← hb']; exact HNE.out)
          · rw [HE.out.2.2 i (by omega) (by omega)]
            exact counts_no j hj2 rfl (fun b hb' => by rw [hij] at hb'; cases hb'))
        rw [HE.out.1] at hbm
        obtain ⟨CE, hCE⟩ : ∃ C, Ent.cells ⟨1, k, sha img⟩ = C := ⟨_, rfl⟩
        have hcl : CE.length = 34 := by rw [← hCE]; exact ent_len _ (sha_len img)
        have hco : ∀ v ∈ CE, v.oneCell' = true := by rw [← hCE]; exact sent_one _
        have hc01 : CE[0]? = some (.int .i64 1) ∧ CE[1]? = some (.int .i64 k) := by rw [← hCE]; exact ⟨rfl, rfl⟩
        obtain ⟨Z, hzl, hz0, hz⟩ := sent_zero
        have HZ := Lib.hid (And.intro hz (show Z.length = CE.length by rw [hzl, hcl]))
        have HIE := Lib.hid (sent_size CE hcl)
        have HCE := Lib.hid (And.intro hCE (And.intro hco (And.intro hc01 hbm)))
        have HBO := Lib.hid (boot_any x m wr hf (HT.out.below (step_below HW3.out.2.2.1 hb)))
        have HBR := Lib.hid (step_below HW3.out.2.2.1 hb)
        clear hbm hCE hcl hco hc01 hz hzl hz0 hf hM hk3 hc1 hik hij hb
        go_wp2_with fail
        refine HBO.out.mono ?_
        rintro _ wa ⟨A8, n8, c8, rfl, hs8, hb8, _⟩
        rw [HCE.out.2.2.2] at hs8 ⊢
        simp only at hs8 ⊢
        rw [HCE.out.1]
        have H8 := Lib.hid (And.intro hs8 (step_below HBR.out hb8))
        clear hs8 hb8 HBO HBR
        go_wp2_with (refine wpList_alloc_row rfl 36 rfl Z HZ.out.1 ?_)
        intro wb hrowb hbb hszb
        go_wp2_with (refine wpList_store_as rfl _ _ _ rfl wa.heap.size CE rfl rfl 36 Z hrowb HIE.out HZ.out.2 HCE.out.2.1 ?_)
        intro wc hrowc hothc hgc hszc
        have hbac : Below wa.heap.size wa wc := step_grow hbb hgc (Nat.le_refl _)
        have HBC := Lib.hid (step_below H8.out.2 hbac)
        have v1 := (shows_later H8.out.1 hbac).conv (P := Tryd.prog) Tryd.underlying26 Tryd.underlying5 Tryd.underlying9
        rw [← HI.out.2.2] at v1
        have k0 := hrowc.cell HCE.out.2.2.1.1
        have k1 := hrowc.cell HCE.out.2.2.1.2
        clear hrowb hbb hszb hrowc hothc hgc hszc hbac H8
        go_wp2_with fail
        go_ret
        exact ⟨rfl, HBC.out⟩
end Go.Proofs.YtnbahpcajnjieaaDoor
