/- The acts of chapter 6, kind by kind. -/
import Derived.Test.YtmebdnblobobnaaGreatDoorDo6Base
namespace Go.Proofs.YtmebdnblobobnaaGreatDoor
set_option maxRecDepth 100000
open Go.RowKit _root_.Go.Proofs.YtmebdnblobobnaaGreatDoor.Wd _root_.Go.Proofs.YtmebdnblobobnaaGreatDoor.Nm _root_.Go.Proofs.YtmebdnblobobnaaGreatDoor.Cm _root_.Go.Proofs.YtmebdnblobobnaaGreatDoor.Fm _root_.Go.Proofs.YtmebdnblobobnaaGreatDoor.Sm

set_option maxHeartbeats 4000000 in
theorem do6_6 (f x : Nat) (m : Mem) (aK aN : Int) (A : Option Addr) (n cap : Nat) (l : List UInt8) (FK FS FP FN : Int) (FA : Option Addr) (Fn Fcap : Nat) (FL : List UInt8) (w0 w : World) (B : Nat)
    (hf : Fl w f m) (hx : Rf w x m) (hfx : f < x) (hBf : B ≤ f) (hlow : Below B w0 w) (hs : Shows w0 B A n cap l) (hF : ActWf w0 B ⟨FK, FS, FP, FN, FA, Fn, Fcap, FL⟩) (hn : n ≤ 200) (hFn : Fn ≤ 40) (hk : aK % 11 = 6) :
    Calls Tryz.prog 9 #[.agg #[.int .i64 aK, .int .i64 aN, .slice A n cap, .int .i64 FK, .int .i64 FS, .int .i64 FP, .int .i64 FN, .slice FA Fn Fcap], .pointer (some ⟨f, 0, none⟩), .pointer (some ⟨x, 0, none⟩)] w (Did w0 B f x) := by
  obtain ⟨C, hC⟩ : ∃ C : List Value, [.int .i64 aK, .int .i64 aN, .slice A n cap, .int .i64 FK, .int .i64 FS, .int .i64 FP, .int .i64 FN, .slice FA Fn Fcap] = C := ⟨_, rfl⟩
  have hb := below_new (Below.refl w.heap.size w) (.cells #[.int .i64 aK, .int .i64 aN, .slice A n cap, .int .i64 FK, .int .i64 FS, .int .i64 FP, .int .i64 FN, .slice FA Fn Fcap] 33)
  have hr := Row.new w 33 [.int .i64 aK, .int .i64 aN, .slice A n cap, .int .i64 FK, .int .i64 FS, .int .i64 FP, .int .i64 FN, .slice FA Fn Fcap]
  change Row (w.alloc (.cells #[.int .i64 aK, .int .i64 aN, .slice A n cap, .int .i64 FK, .int .i64 FS, .int .i64 FP, .int .i64 FN, .slice FA Fn Fcap] 33)) w.heap.size _ _ at hr
  obtain ⟨W, hW⟩ : ∃ W, w.alloc (.cells #[.int .i64 aK, .int .i64 aN, .slice A n cap, .int .i64 FK, .int .i64 FS, .int .i64 FP, .int .i64 FN, .slice FA Fn Fcap] 33) = W := ⟨_, rfl⟩
  obtain ⟨D, hD⟩ : ∃ D, w.heap.size = D := ⟨_, rfl⟩
  have hxD : x < D := by have := hx.lt; omega
  have hfD : f < w.heap.size := hf.lt
  rw [hW] at hb hr
  rw [hC, hD] at hr
  have sd : Sd w0 W B f x D C m m := ⟨hf.below hb, hx.below hb, hr, hlow.trans (hb.mono (by omega)), hBf, hfx, hxD⟩
  have e0 : C[0]? = some (.int .i64 aK) := by rw [← hC]; rfl
  have e1 : C[1]? = some (.int .i64 aN) := by rw [← hC]; rfl
  have e2 : C[2]? = some (.slice A n cap) := by rw [← hC]; rfl
  have e7 : C[7]? = some (.slice FA Fn Fcap) := by rw [← hC]; rfl
  have e3 : C[3]? = some (.int .i64 FK) ∧ C[4]? = some (.int .i64 FS) ∧ C[5]? = some (.int .i64 FP) ∧ C[6]? = some (.int .i64 FN) := by rw [← hC]; exact ⟨rfl, rfl, rfl, rfl⟩
  have HE := Lib.hid (And.intro e0 (And.intro e1 (And.intro e2 (And.intro e7 e3))))
  have HS := Lib.hid (And.intro sd.low (And.intro hs (And.intro hF (And.intro hn hFn))))
  have HW := Lib.hid hW
  have HD := Lib.hid hD
  have HK := Lib.hid hk
  have hS0 : W.drew.cell? ⟨D, 1, none⟩ = some (.int .i64 aN) := sd.row.cell e1
  have H1 := Lib.hid sd
  clear hf hx hfx hBf hlow hs hF hn hFn hk hC hb hr hW hD hxD hfD sd e0 e1 e2 e7 e3
  go_enter Tryz.func9, Tryz.ntmps9
  go_wp2_with fail
  try rw [HW.out]
  try rw [HD.out]
  refine wp_region_held_drew (S := fun U => U.cell? ⟨D, 1, none⟩ = some (.int .i64 aN)) (by kernel_rfl) hS0 (fun hH0 => ?_)
  refine wpAnyH_take (i := 0) (v := ?_) rfl (by kernel_rfl) (by kernel_rfl) (by kernel_rfl) (fun _ _ _ h => h) (Or.inl ⟨by rfl, ?_⟩) (by assumption) ?_
  rotate_left
  · intro w' hS'; go_simp; try exact rfl
  try simp only [Act.put, List.getElem_toArray, List.getElem_cons_zero, List.setIfInBounds_toArray, List.set_cons_zero, List.set_cons_succ]
  refine wpAnyH_take (i := 1) (v := ?_) rfl (by kernel_rfl) (by kernel_rfl) (by kernel_rfl) (fun _ _ _ h => h) (Or.inl ⟨by rfl, ?_⟩) (by assumption) ?_
  rotate_left
  · intro w' hS'; go_simp; try exact rfl
  try simp only [Act.put, List.getElem_toArray, List.getElem_cons_succ, List.getElem_cons_zero, List.setIfInBounds_toArray, List.set_cons_zero, List.set_cons_succ]
  refine wpAnyH_take (i := 3) (v := ?_) rfl (by kernel_rfl) (by kernel_rfl) (by kernel_rfl) (fun _ _ _ h => h) (Or.inl ⟨by rfl, ?_⟩) (by assumption) ?_
  rotate_left
  · intro w' hS'; go_simp; try exact rfl
  try simp only [Act.put, List.getElem_toArray, List.getElem_cons_succ, List.getElem_cons_zero, List.setIfInBounds_toArray, List.set_cons_zero, List.set_cons_succ]
  refine wpAnyH_take (i := 4) (v := ?_) rfl (by kernel_rfl) (by kernel_rfl) (by kernel_rfl) (fun _ _ _ h => h) (Or.inl ⟨by rfl, ?_⟩) (by assumption) ?_
  rotate_left
  · intro w' hS'; go_simp; try exact rfl
  try simp only [Act.put, List.getElem_toArray, List.getElem_cons_succ, List.getElem_cons_zero, List.setIfInBounds_toArray, List.set_cons_zero, List.set_cons_succ]
  refine wpAnyH_ready (rs := [2]) (by kernel_rfl) (by simp) ?_
  refine AllReadyH.cons rfl (fun K hK => ?_) AllReadyH.nil
  go_simp
  (with_reducible refine (within6_any _ 4 _ (by decide) (by decide)).mono ?_)
  rintro _ w5 ⟨rfl, rfl⟩
  go_wp2_with fail
  refine hK.out _ _ (by assumption) (fun hH1 => ?_)
  clear hK K
  try simp only [Act.put, List.getElem_toArray, List.getElem_cons_succ, List.getElem_cons_zero, List.setIfInBounds_toArray, List.set_cons_zero, List.set_cons_succ]
  refine wpAnyH_ready (rs := [5]) (by kernel_rfl) (by simp) ?_
  refine AllReadyH.cons rfl (fun K hK => ?_) AllReadyH.nil
  go_simp
  (with_reducible refine (within6_any _ 50 _ (by decide) (by decide)).mono ?_)
  rintro _ w5 ⟨rfl, rfl⟩
  go_wp2_with fail
  refine hK.out _ _ (by assumption) (fun hH2 => ?_)
  clear hK K
  try simp only [Act.put, List.getElem_toArray, List.getElem_cons_succ, List.getElem_cons_zero, List.setIfInBounds_toArray, List.set_cons_zero, List.set_cons_succ]
  refine wpAnyH_take (i := 6) (v := ?_) rfl (by kernel_rfl) (by kernel_rfl) (by kernel_rfl) (fun _ _ _ h => h) (Or.inl ⟨by rfl, ?_⟩) (by assumption) ?_
  rotate_left
  · intro w' hS'; go_simp; try exact rfl
  try simp only [Act.put, List.getElem_toArray, List.getElem_cons_succ, List.getElem_cons_zero, List.setIfInBounds_toArray, List.set_cons_zero, List.set_cons_succ]
  refine wpAnyH_take (i := 7) (v := ?_) rfl (by kernel_rfl) (by kernel_rfl) (by kernel_rfl) (fun _ _ _ h => h) (Or.inl ⟨by rfl, ?_⟩) (by assumption) ?_
  rotate_left
  · intro w' hS'; go_simp; try exact rfl
  try simp only [Act.put, List.getElem_toArray, List.getElem_cons_succ, List.getElem_cons_zero, List.setIfInBounds_toArray, List.set_cons_zero, List.set_cons_succ]
  refine wpAnyH_take (i := 8) (v := ?_) rfl (by kernel_rfl) (by kernel_rfl) (by kernel_rfl) (fun _ _ _ h => h) (Or.inl ⟨by rfl, ?_⟩) (by assumption) ?_
  rotate_left
  · intro w' hS'; go_simp; try exact rfl
  try simp only [Act.put, List.getElem_toArray, List.getElem_cons_succ, List.getElem_cons_zero, List.setIfInBounds_toArray, List.set_cons_zero, List.set_cons_succ]
  refine wpAnyH_done (by kernel_rfl) ?_ _
  obtain ⟨V, hV⟩ : ∃ V, W.drew = V := ⟨_, rfl⟩
  rw [hV]
  have sv1 : Sd w0 V B f x D C m m := by rw [← hV]; exact H1.out.below (Below.refl _ W).drew
  obtain ⟨sv, hsv⟩ : ∃ sv, IntKind.i64.wrap (aN % 4 - IntKind.i64.wrap ((aN % 50).tdiv 49)) = sv := ⟨_, rfl⟩
  have hsb : -1 ≤ sv ∧ sv ≤ 3 := by
    have ht : (aN % 50).tdiv 49 = (aN % 50) / 49 := Int.tdiv_eq_ediv_of_nonneg (by omega)
    have ha : (aN % 50) / 49 = 0 ∨ (aN % 50) / 49 = 1 := by omega
    obtain ⟨q, hq⟩ : ∃ q, aN % 4 = q := ⟨_, rfl⟩
    have hq1 : 0 ≤ q ∧ q ≤ 3 := by omega
    have hw0 : IntKind.i64.wrap 0 = 0 := by decide
    have hw1 : IntKind.i64.wrap 1 = 1 := by decide
    rw [← hsv, ht, hq]
    clear hsv hq ht
    rcases ha with ha | ha
    · rw [ha, hw0, IntKind.wrap_i64]; clear ha; omega
    · rw [ha, hw1, IntKind.wrap_i64]; clear ha; omega
  obtain ⟨hs1, hs2⟩ := hsb
  rw [hsv]
  have c0 : V.cell? ⟨D, 0, none⟩ = some (.int .i64 aK) := sv1.row.cell HE.out.1
  have H2 := Lib.hid sv1
  clear hS0 hH0 hH1 hH2 hV hsv sv1 H1 HW HD
  go_wp2_with fail
  (with_reducible refine (within6_any aK 11 _ (by decide) (by decide)).mono ?_)
  rintro _ w5 ⟨rfl, rfl⟩
  rw [HK.out]
  clear c0
  have hbu := oneB_built 9 9 rfl
  have hbl := oneB_len 9
  obtain ⟨s9, hs9⟩ : ∃ s, oneB 9 = s := ⟨_, rfl⟩
  rw [hs9] at hbu hbl
  obtain ⟨B9, hB9⟩ : ∃ s, bc s9 = s := ⟨_, rfl⟩
  rw [hB9] at hbu
  have HB9 := Lib.hid (And.intro hbu (And.intro hbl hB9))
  obtain ⟨Q, hQ⟩ : ∃ R, markM m sv s9 = R := ⟨_, rfl⟩
  have HQ := Lib.hid hQ
  clear hbu hbl hs9 hB9 hQ
  go_wp2_with (refine wpList_build_is rfl 39 #[(0, .const (.int .u8 9))] rfl B9.toArray ?_ ?_; (focus (go_simp; exact HB9.out.1)))
  have hmk := mark_any f m sv s9 V H2.out.pf HB9.out.2.1 (by omega) (by omega)
  rw [HB9.out.2.2, HQ.out] at hmk
  refine hmk.mono ?_
  rintro _ wd ⟨rfl, hfd, hgd⟩
  have H3 := Lib.hid (H2.out.goF hfd hgd)
  clear hmk hfd hgd
  go_wp2_with (refine wpList_build_is rfl 39 #[(0, .const (.int .u8 9))] rfl B9.toArray ?_ ?_; (focus (go_simp; exact HB9.out.1)))
  have hmk := xmark6_any x m sv s9 wd H3.out.px HB9.out.2.1 (by omega) (by omega)
  rw [HB9.out.2.2, HQ.out] at hmk
  refine hmk.mono ?_
  rintro _ we ⟨rfl, hxe, hge⟩
  have H7 := Lib.hid (H3.out.goX hxe hge)
  clear hmk hxe hge
  go_wp2_with fail
  go_ret
  exact ⟨by simp, _, H7.out.pf, H7.out.px, H7.out.low⟩
set_option maxHeartbeats 4000000 in
theorem do6_7 (f x : Nat) (m : Mem) (aK aN : Int) (A : Option Addr) (n cap : Nat) (l : List UInt8) (FK FS FP FN : Int) (FA : Option Addr) (Fn Fcap : Nat) (FL : List UInt8) (w0 w : World) (B : Nat)
    (hf : Fl w f m) (hx : Rf w x m) (hfx : f < x) (hBf : B ≤ f) (hlow : Below B w0 w) (hs : Shows w0 B A n cap l) (hF : ActWf w0 B ⟨FK, FS, FP, FN, FA, Fn, Fcap, FL⟩) (hn : n ≤ 200) (hFn : Fn ≤ 40) (hk : aK % 11 = 7) :
    Calls Tryz.prog 9 #[.agg #[.int .i64 aK, .int .i64 aN, .slice A n cap, .int .i64 FK, .int .i64 FS, .int .i64 FP, .int .i64 FN, .slice FA Fn Fcap], .pointer (some ⟨f, 0, none⟩), .pointer (some ⟨x, 0, none⟩)] w (Did w0 B f x) := by
  obtain ⟨C, hC⟩ : ∃ C : List Value, [.int .i64 aK, .int .i64 aN, .slice A n cap, .int .i64 FK, .int .i64 FS, .int .i64 FP, .int .i64 FN, .slice FA Fn Fcap] = C := ⟨_, rfl⟩
  have hb := below_new (Below.refl w.heap.size w) (.cells #[.int .i64 aK, .int .i64 aN, .slice A n cap, .int .i64 FK, .int .i64 FS, .int .i64 FP, .int .i64 FN, .slice FA Fn Fcap] 33)
  have hr := Row.new w 33 [.int .i64 aK, .int .i64 aN, .slice A n cap, .int .i64 FK, .int .i64 FS, .int .i64 FP, .int .i64 FN, .slice FA Fn Fcap]
  change Row (w.alloc (.cells #[.int .i64 aK, .int .i64 aN, .slice A n cap, .int .i64 FK, .int .i64 FS, .int .i64 FP, .int .i64 FN, .slice FA Fn Fcap] 33)) w.heap.size _ _ at hr
  obtain ⟨W, hW⟩ : ∃ W, w.alloc (.cells #[.int .i64 aK, .int .i64 aN, .slice A n cap, .int .i64 FK, .int .i64 FS, .int .i64 FP, .int .i64 FN, .slice FA Fn Fcap] 33) = W := ⟨_, rfl⟩
  obtain ⟨D, hD⟩ : ∃ D, w.heap.size = D := ⟨_, rfl⟩
  have hxD : x < D := by have := hx.lt; omega
  have hfD : f < w.heap.size := hf.lt
  rw [hW] at hb hr
  rw [hC, hD] at hr
  have sd : Sd w0 W B f x D C m m := ⟨hf.below hb, hx.below hb, hr, hlow.trans (hb.mono (by omega)), hBf, hfx, hxD⟩
  have e0 : C[0]? = some (.int .i64 aK) := by rw [← hC]; rfl
  have e1 : C[1]? = some (.int .i64 aN) := by rw [← hC]; rfl
  have e2 : C[2]? = some (.slice A n cap) := by rw [← hC]; rfl
  have e7 : C[7]? = some (.slice FA Fn Fcap) := by rw [← hC]; rfl
  have e3 : C[3]? = some (.int .i64 FK) ∧ C[4]? = some (.int .i64 FS) ∧ C[5]? = some (.int .i64 FP) ∧ C[6]? = some (.int .i64 FN) := by rw [← hC]; exact ⟨rfl, rfl, rfl, rfl⟩
  have HE := Lib.hid (And.intro e0 (And.intro e1 (And.intro e2 (And.intro e7 e3))))
  have HS := Lib.hid (And.intro sd.low (And.intro hs (And.intro hF (And.intro hn hFn))))
  have HW := Lib.hid hW
  have HD := Lib.hid hD
  have HK := Lib.hid hk
  have hS0 : W.drew.cell? ⟨D, 1, none⟩ = some (.int .i64 aN) := sd.row.cell e1
  have H1 := Lib.hid sd
  clear hf hx hfx hBf hlow hs hF hn hFn hk hC hb hr hW hD hxD hfD sd e0 e1 e2 e7 e3
  go_enter Tryz.func9, Tryz.ntmps9
  go_wp2_with fail
  try rw [HW.out]
  try rw [HD.out]
  refine wp_region_held_drew (S := fun U => U.cell? ⟨D, 1, none⟩ = some (.int .i64 aN)) (by kernel_rfl) hS0 (fun hH0 => ?_)
  refine wpAnyH_take (i := 0) (v := ?_) rfl (by kernel_rfl) (by kernel_rfl) (by kernel_rfl) (fun _ _ _ h => h) (Or.inl ⟨by rfl, ?_⟩) (by assumption) ?_
  rotate_left
  · intro w' hS'; go_simp; try exact rfl
  try simp only [Act.put, List.getElem_toArray, List.getElem_cons_zero, List.setIfInBounds_toArray, List.set_cons_zero, List.set_cons_succ]
  refine wpAnyH_take (i := 1) (v := ?_) rfl (by kernel_rfl) (by kernel_rfl) (by kernel_rfl) (fun _ _ _ h => h) (Or.inl ⟨by rfl, ?_⟩) (by assumption) ?_
  rotate_left
  · intro w' hS'; go_simp; try exact rfl
  try simp only [Act.put, List.getElem_toArray, List.getElem_cons_succ, List.getElem_cons_zero, List.setIfInBounds_toArray, List.set_cons_zero, List.set_cons_succ]
  refine wpAnyH_take (i := 3) (v := ?_) rfl (by kernel_rfl) (by kernel_rfl) (by kernel_rfl) (fun _ _ _ h => h) (Or.inl ⟨by rfl, ?_⟩) (by assumption) ?_
  rotate_left
  · intro w' hS'; go_simp; try exact rfl
  try simp only [Act.put, List.getElem_toArray, List.getElem_cons_succ, List.getElem_cons_zero, List.setIfInBounds_toArray, List.set_cons_zero, List.set_cons_succ]
  refine wpAnyH_take (i := 4) (v := ?_) rfl (by kernel_rfl) (by kernel_rfl) (by kernel_rfl) (fun _ _ _ h => h) (Or.inl ⟨by rfl, ?_⟩) (by assumption) ?_
  rotate_left
  · intro w' hS'; go_simp; try exact rfl
  try simp only [Act.put, List.getElem_toArray, List.getElem_cons_succ, List.getElem_cons_zero, List.setIfInBounds_toArray, List.set_cons_zero, List.set_cons_succ]
  refine wpAnyH_ready (rs := [2]) (by kernel_rfl) (by simp) ?_
  refine AllReadyH.cons rfl (fun K hK => ?_) AllReadyH.nil
  go_simp
  (with_reducible refine (within6_any _ 4 _ (by decide) (by decide)).mono ?_)
  rintro _ w5 ⟨rfl, rfl⟩
  go_wp2_with fail
  refine hK.out _ _ (by assumption) (fun hH1 => ?_)
  clear hK K
  try simp only [Act.put, List.getElem_toArray, List.getElem_cons_succ, List.getElem_cons_zero, List.setIfInBounds_toArray, List.set_cons_zero, List.set_cons_succ]
  refine wpAnyH_ready (rs := [5]) (by kernel_rfl) (by simp) ?_
  refine AllReadyH.cons rfl (fun K hK => ?_) AllReadyH.nil
  go_simp
  (with_reducible refine (within6_any _ 50 _ (by decide) (by decide)).mono ?_)
  rintro _ w5 ⟨rfl, rfl⟩
  go_wp2_with fail
  refine hK.out _ _ (by assumption) (fun hH2 => ?_)
  clear hK K
  try simp only [Act.put, List.getElem_toArray, List.getElem_cons_succ, List.getElem_cons_zero, List.setIfInBounds_toArray, List.set_cons_zero, List.set_cons_succ]
  refine wpAnyH_take (i := 6) (v := ?_) rfl (by kernel_rfl) (by kernel_rfl) (by kernel_rfl) (fun _ _ _ h => h) (Or.inl ⟨by rfl, ?_⟩) (by assumption) ?_
  rotate_left
  · intro w' hS'; go_simp; try exact rfl
  try simp only [Act.put, List.getElem_toArray, List.getElem_cons_succ, List.getElem_cons_zero, List.setIfInBounds_toArray, List.set_cons_zero, List.set_cons_succ]
  refine wpAnyH_take (i := 7) (v := ?_) rfl (by kernel_rfl) (by kernel_rfl) (by kernel_rfl) (fun _ _ _ h => h) (Or.inl ⟨by rfl, ?_⟩) (by assumption) ?_
  rotate_left
  · intro w' hS'; go_simp; try exact rfl
  try simp only [Act.put, List.getElem_toArray, List.getElem_cons_succ, List.getElem_cons_zero, List.setIfInBounds_toArray, List.set_cons_zero, List.set_cons_succ]
  refine wpAnyH_take (i := 8) (v := ?_) rfl (by kernel_rfl) (by kernel_rfl) (by kernel_rfl) (fun _ _ _ h => h) (Or.inl ⟨by rfl, ?_⟩) (by assumption) ?_
  rotate_left
  · intro w' hS'; go_simp; try exact rfl
  try simp only [Act.put, List.getElem_toArray, List.getElem_cons_succ, List.getElem_cons_zero, List.setIfInBounds_toArray, List.set_cons_zero, List.set_cons_succ]
  refine wpAnyH_done (by kernel_rfl) ?_ _
  obtain ⟨V, hV⟩ : ∃ V, W.drew = V := ⟨_, rfl⟩
  rw [hV]
  have sv1 : Sd w0 V B f x D C m m := by rw [← hV]; exact H1.out.below (Below.refl _ W).drew
  obtain ⟨sv, hsv⟩ : ∃ sv, IntKind.i64.wrap (aN % 4 - IntKind.i64.wrap ((aN % 50).tdiv 49)) = sv := ⟨_, rfl⟩
  have hsb : -1 ≤ sv ∧ sv ≤ 3 := by
    have ht : (aN % 50).tdiv 49 = (aN % 50) / 49 := Int.tdiv_eq_ediv_of_nonneg (by omega)
    have ha : (aN % 50) / 49 = 0 ∨ (aN % 50) / 49 = 1 := by omega
    obtain ⟨q, hq⟩ : ∃ q, aN % 4 = q := ⟨_, rfl⟩
    have hq1 : 0 ≤ q ∧ q ≤ 3 := by omega
    have hw0 : IntKind.i64.wrap 0 = 0 := by decide
    have hw1 : IntKind.i64.wrap 1 = 1 := by decide
    rw [← hsv, ht, hq]
    clear hsv hq ht
    rcases ha with ha | ha
    · rw [ha, hw0, IntKind.wrap_i64]; clear ha; omega
    · rw [ha, hw1, IntKind.wrap_i64]; clear ha; omega
  obtain ⟨hs1, hs2⟩ := hsb
  rw [hsv]
  have c0 : V.cell? ⟨D, 0, none⟩ = some (.int .i64 aK) := sv1.row.cell HE.out.1
  have H2 := Lib.hid sv1
  clear hS0 hH0 hH1 hH2 hV hsv sv1 H1 HW HD
  go_wp2_with fail
  (with_reducible refine (within6_any aK 11 _ (by decide) (by decide)).mono ?_)
  rintro _ w5 ⟨rfl, rfl⟩
  rw [HK.out]
  clear c0
  have c0 : V.cell? ⟨D, 0, none⟩ = some (.int .i64 aK) := H2.out.row.cell HE.out.1
  go_wp2_with fail
  (with_reducible refine (within6_any aK 11 _ (by decide) (by decide)).mono ?_)
  rintro _ w5 ⟨rfl, rfl⟩
  rw [HK.out]
  clear c0
  go_wp2_with fail
  obtain ⟨U0, hU0⟩ : ∃ U, V.drew = U := ⟨_, rfl⟩
  have sd3 : Sd w0 U0 B f x D C m m := by rw [← hU0]; exact H2.out.below (Below.refl _ V).drew
  have hSs : V.drew.cell? ⟨D, 2, none⟩ = some (.slice A n cap) := H2.out.row.cell HE.out.2.2.1
  rw [hU0] at hSs
  have HSD3 := Lib.hid sd3
  have HSH := Lib.hid (sd3.shows HS.out.2.1)
  have HOWN0 := Lib.hid (show (U0.alloc (.cells #[] 5)).ownsRow U0.heap.size 5 1 (.slice (some ⟨U0.heap.size, 0, none⟩) 0 0) 0 (bc []) from World.ownsRow_made U0 #[] 0 (Nat.le_refl _) (Nat.zero_le _) rfl)
  have HSRC := Lib.hid (((sd3.shows HS.out.2.1).below (below_new (Below.refl _ _) (.cells #[] 5))).src (P := Tryz.prog) Tryz.underlying29)
  obtain ⟨i0, hi0, hz0, hz1, hz2⟩ := info_parts infoByte
  have HI0 := Lib.hid (And.intro hi0 (And.intro hz0 (And.intro hz1 hz2)))
  obtain ⟨R, hR⟩ : ∃ R, storeM m sv l = R := ⟨_, rfl⟩
  have HR := Lib.hid hR
  clear sd3 hi0 hz0 hz1 hz2 hR
  refine wp_region_held_drew (S := fun U => U.cell? ⟨D, 2, none⟩ = some (.slice A n cap)) (by kernel_rfl) (show V.drew.cell? ⟨D, 2, none⟩ = some (.slice A n cap) by rw [hU0]; exact hSs) (fun hH0 => ?_)
  rw [hU0]
  clear hH0 hU0
  refine wpAnyH_take (i := 0) (v := ?_) rfl (by kernel_rfl) (by kernel_rfl) (by kernel_rfl) (fun _ _ _ h => h) (Or.inl ⟨by rfl, ?_⟩) (by assumption) ?_
  rotate_left
  · intro w' hS'; go_simp; try exact rfl
  try simp only [Act.put, List.getElem_toArray, List.getElem_cons_zero, List.setIfInBounds_toArray, List.set_cons_zero, List.set_cons_succ]
  refine wpAnyH_take (i := 1) (v := ?_) rfl (by kernel_rfl) (by kernel_rfl) (by kernel_rfl) (fun _ _ _ h => h) (Or.inl ⟨by rfl, ?_⟩) (by assumption) ?_
  rotate_left
  · intro w' hS'; go_simp; try exact rfl
  try simp only [Act.put, List.getElem_toArray, List.getElem_cons_succ, List.getElem_cons_zero, List.setIfInBounds_toArray, List.set_cons_zero, List.set_cons_succ]
  refine wpAnyH_take (i := 3) (v := ?_) rfl (by kernel_rfl) (by kernel_rfl) (by kernel_rfl) (fun _ _ _ h => h) (Or.inl ⟨by rfl, ?_⟩) (by assumption) ?_
  rotate_left
  · intro w' hS'; go_simp; try exact rfl
  try simp only [Act.put, List.getElem_toArray, List.getElem_cons_succ, List.getElem_cons_zero, List.setIfInBounds_toArray, List.set_cons_zero, List.set_cons_succ]
  refine wpAnyH_take (i := 4) (v := ?_) rfl (by kernel_rfl) (by kernel_rfl) (by kernel_rfl) (fun _ _ _ h => h) (Or.inl ⟨by rfl, ?_⟩) (by assumption) ?_
  rotate_left
  · intro w' hS'; go_simp; try exact rfl
  try simp only [Act.put, List.getElem_toArray, List.getElem_cons_succ, List.getElem_cons_zero, List.setIfInBounds_toArray, List.set_cons_zero, List.set_cons_succ]
  refine wpAnyH_take (i := 7) (v := ?_) rfl (by kernel_rfl) (by kernel_rfl) (by kernel_rfl) (fun _ _ _ h => h) (Or.inl ⟨by rfl, ?_⟩) (by assumption) ?_
  rotate_left
  · intro w' hS'; go_simp; try exact rfl
  try simp only [Act.put, List.getElem_toArray, List.getElem_cons_succ, List.getElem_cons_zero, List.setIfInBounds_toArray, List.set_cons_zero, List.set_cons_succ]
  refine wpAnyH_take (i := 8) (v := ?_) rfl (by kernel_rfl) (by kernel_rfl) (by kernel_rfl) (fun _ _ _ h => h) (Or.inl ⟨by rfl, ?_⟩) (by assumption) ?_
  rotate_left
  · intro w' hS'; go_simp; try exact rfl
  try simp only [Act.put, List.getElem_toArray, List.getElem_cons_succ, List.getElem_cons_zero, List.setIfInBounds_toArray, List.set_cons_zero, List.set_cons_succ]
  refine wpAnyH_take (i := 9) (v := ?_) rfl (by kernel_rfl) (by kernel_rfl) (by kernel_rfl) (fun _ _ _ h => h) (Or.inl ⟨by rfl, ?_⟩) (by assumption) ?_
  rotate_left
  · intro w' hS'; go_simp; try exact rfl
  try simp only [Act.put, List.getElem_toArray, List.getElem_cons_succ, List.getElem_cons_zero, List.setIfInBounds_toArray, List.set_cons_zero, List.set_cons_succ]
  refine wpAnyH_take (i := 10) (v := ?_) rfl (by kernel_rfl) (by kernel_rfl) (by kernel_rfl) (fun _ _ _ h => h) (Or.inl ⟨by rfl, ?_⟩) (by assumption) ?_
  rotate_left
  · intro w' hS'; go_simp; try exact rfl
  try simp only [Act.put, List.getElem_toArray, List.getElem_cons_succ, List.getElem_cons_zero, List.setIfInBounds_toArray, List.set_cons_zero, List.set_cons_succ]
  refine wpAnyH_ready (rs := [2]) (by kernel_rfl) (by simp) ?_
  refine AllReadyH.cons rfl (fun K hK => ?_) AllReadyH.nil
  rw [if_pos (by simp [Region.wanted])]
  go_simp
  have sd4 := HSD3.out.below (below_new (Below.refl U0.heap.size U0) (.cells #[] 5))
  refine hK.out _ _ (sd4.row.cell HE.out.2.2.1) (fun _ => ?_)
  clear hK K sd4
  try simp only [Act.put, List.getElem_toArray, List.getElem_cons_succ, List.getElem_cons_zero, List.setIfInBounds_toArray, List.set_cons_zero, List.set_cons_succ]
  refine wpAnyH_ready (rs := [5]) (by kernel_rfl) (by simp) ?_
  refine AllReadyH.cons rfl (fun K hK => ?_) AllReadyH.nil
  rw [if_pos (by simp [Region.wanted])]
  refine wp_ap _ (.tmp 49) (.tmp 51) 29 29 rfl U0.heap.size 5 i0 Tryz.underlying29 HI0.out.1 HI0.out.2.1 HI0.out.2.2.1 HI0.out.2.2.2 _ 0 0 [] rfl HOWN0.out _ n l rfl HSRC.out (by have := HS.out.2.2.2.1; omega) (by simp) ?_
  intro A1 c1 w5 ho1 _ hg1 _
  rw [Nat.zero_add, List.nil_append] at ho1
  rw [Nat.zero_add]
  have hb5 : Below U0.heap.size U0 w5 := (below_new (Below.refl _ _) _).grown hg1 (by simp) (by intro k hk; simp at hk; omega)
  have sd5 := HSD3.out.below hb5
  have H5 := Lib.hid (And.intro sd5 (And.intro (Shows.of_own ho1) (show ∀ p, A1 = some p → 0 < n → p.block ≠ f from fun p hp h0 => by have := own_base ho1 p hp h0; have := HSD3.out.pf.lt; omega)))
  refine hK.out _ _ (sd5.row.cell HE.out.2.2.1) (fun _ => ?_)
  clear hK K sd5 ho1 hg1 hb5
  try simp only [Act.put, List.getElem_toArray, List.getElem_cons_succ, List.getElem_cons_zero, List.setIfInBounds_toArray, List.set_cons_zero, List.set_cons_succ]
  refine wpAnyH_ready (rs := [6]) (by kernel_rfl) (by simp) ?_
  refine AllReadyH.cons rfl (fun K hK => ?_) AllReadyH.nil
  go_simp
  refine (store_any f m sv A1 n c1 l w5 H5.out.1.pf H5.out.2.1 (by have := HS.out.2.2.2.1; omega) H5.out.2.2).mono ?_
  rintro _ w6 ⟨rfl, hf6, hg6⟩
  rw [HR.out] at hf6 ⊢
  have sd6 := H5.out.1.goF hf6 hg6
  have H6 := Lib.hid sd6
  go_wp2_with fail
  refine hK.out _ _ (sd6.row.cell HE.out.2.2.1) (fun _ => ?_)
  clear hK K hf6 hg6 sd6
  try simp only [Act.put, List.getElem_toArray, List.getElem_cons_succ, List.getElem_cons_zero, List.setIfInBounds_toArray, List.set_cons_zero, List.set_cons_succ]
  refine wpAnyH_ready (rs := [11]) (by kernel_rfl) (by simp) ?_
  refine AllReadyH.cons rfl (fun K hK => ?_) AllReadyH.nil
  go_simp
  refine (xstore6_any x m sv A n cap l w6 H6.out.px (H6.out.shows HS.out.2.1) (by have := HS.out.2.2.2.1; omega) (shows_in HS.out.2.1 (by have := H6.out.pd; omega)) (by omega) (by omega)).mono ?_
  rintro _ w7 ⟨rfl, hx7, hg7⟩
  rw [HR.out] at hx7 ⊢
  have sd7 := H6.out.goX hx7 hg7
  have H7 := Lib.hid sd7
  go_wp2_with fail
  refine hK.out _ _ (sd7.row.cell HE.out.2.2.1) (fun _ => ?_)
  clear hK K hx7 hg7 sd7
  try simp only [Act.put, List.getElem_toArray, List.getElem_cons_succ, List.getElem_cons_zero, List.setIfInBounds_toArray, List.set_cons_zero, List.set_cons_succ]
  refine wpAnyH_take (i := 12) (v := ?_) rfl (by kernel_rfl) (by kernel_rfl) (by kernel_rfl) (fun _ _ _ h => h) (Or.inl ⟨by rfl, ?_⟩) (by assumption) ?_
  rotate_left
  · intro w' hS'; go_simp; try exact rfl
  try simp only [Act.put, List.getElem_toArray, List.getElem_cons_succ, List.getElem_cons_zero, List.setIfInBounds_toArray, List.set_cons_zero, List.set_cons_succ]
  refine wpAnyH_take (i := 13) (v := ?_) rfl (by kernel_rfl) (by kernel_rfl) (by kernel_rfl) (fun _ _ _ h => h) (Or.inl ⟨by rfl, ?_⟩) (by assumption) ?_
  rotate_left
  · intro w' hS'; go_simp; try exact rfl
  try simp only [Act.put, List.getElem_toArray, List.getElem_cons_succ, List.getElem_cons_zero, List.setIfInBounds_toArray, List.set_cons_zero, List.set_cons_succ]
  refine wpAnyH_done (by kernel_rfl) ?_ _
  clear HSD3 HSH HOWN0 HSRC HI0 H5 H6 HR H2
  go_wp2_with fail
  obtain ⟨m1, hm1⟩ : ∃ q, R.2 = q := ⟨_, rfl⟩
  rw [hm1] at H7
  clear hm1
  have c2 : w7.cell? ⟨D, 2, none⟩ = some (.slice A n cap) := H7.out.row.cell HE.out.2.2.1
  have hsl := sha_len l
  obtain ⟨BX, hBX⟩ : ∃ B, bc (sha l) = B := ⟨_, rfl⟩
  obtain ⟨BZ, hBZ⟩ : ∃ B, bc (List.replicate 32 0) = B := ⟨_, rfl⟩
  have hxl : BX.length = 32 := by rw [← hBX, bc_len, hsl]
  have hxo : ∀ v ∈ BX, v.oneCell' = true := by rw [← hBX]; exact bc_one _
  have HBX := Lib.hid (And.intro hBX (And.intro hxo (show BZ.length = BX.length by rw [hxl, ← hBZ, bc_len]; simp)))
  have HIX := Lib.hid (hash_size BX hxl)
  have HZZ := Lib.hid (hash_zero6 BZ hBZ)
  have hsu := refsum3_any A n cap l w7 (H7.out.shows HS.out.2.1) (by have := HS.out.2.2.2.1; omega)
  rw [hBX] at hsu
  have HSU := Lib.hid hsu
  obtain ⟨Q, hQ⟩ : ∃ R, markM m1 sv (sha l) = R := ⟨_, rfl⟩
  have HQ := Lib.hid hQ
  clear hBX hBZ hxl hxo hsl hsu hQ
  go_wp2_with fail
  refine HSU.out.mono ?_
  rintro _ wa ⟨rfl, hba⟩
  have HB := Lib.hid hba
  clear hba c2 HSU
  go_wp2_with (refine wpList_alloc_row rfl 39 rfl BZ HZZ.out ?_)
  intro wb hrowb hbb hszb
  go_wp2_with (refine wpList_store_as rfl _ _ _ rfl wa.heap.size BX rfl rfl 39 BZ hrowb HIX.out HBX.out.2.2 HBX.out.2.1 ?_)
  intro wc hrowc hothc hgc hszc
  obtain ⟨S, hS⟩ : ∃ S, wa.heap.size = S := ⟨_, rfl⟩
  have hbc : Below w7.heap.size w7 wc := step_below HB.out (step_grow hbb hgc (Nat.le_refl _))
  rw [hS] at hrowc ⊢
  have hxS : x < S := by have := H7.out.px.lt; have := HB.out.size; omega
  have hfx : f < x := H7.out.pd.2.1
  have HC := Lib.hid (And.intro (H7.out.below hbc) hrowc)
  clear hrowb hbb hszb hrowc hothc hgc hszc hbc hS HB
  go_wp2_with fail
  have hd : Below wc.heap.size wc wc.drew := (Below.refl _ wc).drew
  have HD := Lib.hid (show Sd w0 wc.drew B f x D C m1 m1 ∧ Row wc.drew S 39 BX from ⟨HC.out.1.below hd, HC.out.2.below hd HC.out.2.lt⟩)
  refine wp_region_held_drew (S := fun U => U.rangeAt S 0 BX) (by kernel_rfl) (HD.out.2.range 0 BX (fun j v hv => by rw [Nat.zero_add]; exact hv)) (fun hH0 => ?_)
  clear hd
  refine wpAnyH_take (i := 0) (v := ?_) rfl (by kernel_rfl) (by kernel_rfl) (by kernel_rfl) (fun _ _ _ h => h) (Or.inl ⟨by rfl, ?_⟩) (by assumption) ?_
  rotate_left
  · intro w' hS'; go_simp; try exact rfl
  try simp only [Act.put, List.getElem_toArray, List.getElem_cons_zero, List.setIfInBounds_toArray, List.set_cons_zero, List.set_cons_succ]
  refine wpAnyH_take (i := 1) (v := ?_) rfl (by kernel_rfl) (by kernel_rfl) (by kernel_rfl) (fun _ _ _ h => h) (Or.inl ⟨by rfl, ?_⟩) (by assumption) ?_
  rotate_left
  · intro w' hS'; go_simp; try exact rfl
  try simp only [Act.put, List.getElem_toArray, List.getElem_cons_succ, List.getElem_cons_zero, List.setIfInBounds_toArray, List.set_cons_zero, List.set_cons_succ]
  refine wpAnyH_take (i := 2) (v := ?_) rfl (by kernel_rfl) (by kernel_rfl) (by kernel_rfl) (fun _ _ _ h => h) (Or.inl ⟨by rfl, ?_⟩) (by assumption) ?_
  rotate_left
  · intro w' hS'; go_simp; try exact rfl
  try simp only [Act.put, List.getElem_toArray, List.getElem_cons_succ, List.getElem_cons_zero, List.setIfInBounds_toArray, List.set_cons_zero, List.set_cons_succ]
  refine wpAnyH_take (i := 3) (v := ?_) rfl (by kernel_rfl) (by kernel_rfl) (by kernel_rfl) (fun _ _ _ h => h) (Or.inl ⟨by rfl, ?_⟩) (by assumption) ?_
  rotate_left
  · intro w' hS'; go_simp; try exact rfl
  try simp only [Act.put, List.getElem_toArray, List.getElem_cons_succ, List.getElem_cons_zero, List.setIfInBounds_toArray, List.set_cons_zero, List.set_cons_succ]
  refine wpAnyH_take (i := 4) (v := .agg BX.toArray) rfl (by kernel_rfl) (by kernel_rfl) (by kernel_rfl) (fun _ _ _ h => h) (yieldsIf_load_mid rfl 39 (.tmp 9) rfl S 0 rfl BX _ (fun U hU => hU) Tryz.underlying39 rfl HIX.out) (by assumption) ?_
  try simp only [Act.put, List.getElem_toArray, List.getElem_cons_succ, List.getElem_cons_zero, List.setIfInBounds_toArray, List.set_cons_zero, List.set_cons_succ]
  refine wpAnyH_take (i := 6) (v := ?_) rfl (by kernel_rfl) (by kernel_rfl) (by kernel_rfl) (fun _ _ _ h => h) (Or.inl ⟨by rfl, ?_⟩) (by assumption) ?_
  rotate_left
  · intro w' hS'; go_simp; try exact rfl
  try simp only [Act.put, List.getElem_toArray, List.getElem_cons_succ, List.getElem_cons_zero, List.setIfInBounds_toArray, List.set_cons_zero, List.set_cons_succ]
  refine wpAnyH_take (i := 7) (v := ?_) rfl (by kernel_rfl) (by kernel_rfl) (by kernel_rfl) (fun _ _ _ h => h) (Or.inl ⟨by rfl, ?_⟩) (by assumption) ?_
  rotate_left
  · intro w' hS'; go_simp; try exact rfl
  try simp only [Act.put, List.getElem_toArray, List.getElem_cons_succ, List.getElem_cons_zero, List.setIfInBounds_toArray, List.set_cons_zero, List.set_cons_succ]
  refine wpAnyH_take (i := 8) (v := .agg BX.toArray) rfl (by kernel_rfl) (by kernel_rfl) (by kernel_rfl) (fun _ _ _ h => h) (yieldsIf_load_mid rfl 39 (.tmp 9) rfl S 0 rfl BX _ (fun U hU => hU) Tryz.underlying39 rfl HIX.out) (by assumption) ?_
  try simp only [Act.put, List.getElem_toArray, List.getElem_cons_succ, List.getElem_cons_zero, List.setIfInBounds_toArray, List.set_cons_zero, List.set_cons_succ]
  refine wpAnyH_ready (rs := [5]) (by kernel_rfl) (by simp) ?_
  refine AllReadyH.cons rfl (fun K hK => ?_) AllReadyH.nil
  go_simp
  have hmk := mark_any f m1 sv (sha l) wc.drew HD.out.1.pf (sha_len l) (by omega) (by omega)
  rw [HBX.out.1, HQ.out] at hmk
  refine hmk.mono ?_
  rintro _ wd ⟨rfl, hfd, hgd⟩
  have HE1 := Lib.hid (And.intro (HD.out.1.goF hfd hgd) (HD.out.2.grown hgd (by omega)))
  clear hmk hfd hgd
  go_wp2_with fail
  refine hK.out _ _ (HE1.out.2.range 0 BX (fun j v hv => by rw [Nat.zero_add]; exact hv)) (fun _ => ?_)
  clear hK K
  try simp only [Act.put, List.getElem_toArray, List.getElem_cons_succ, List.getElem_cons_zero, List.setIfInBounds_toArray, List.set_cons_zero, List.set_cons_succ]
  refine wpAnyH_ready (rs := [9]) (by kernel_rfl) (by simp) ?_
  refine AllReadyH.cons rfl (fun K hK => ?_) AllReadyH.nil
  go_simp
  have hmk := xmark6_any x m1 sv (sha l) wd HE1.out.1.px (sha_len l) (by omega) (by omega)
  rw [HBX.out.1, HQ.out] at hmk
  refine hmk.mono ?_
  rintro _ we ⟨rfl, hxe, hge⟩
  have HE2 := Lib.hid (And.intro (HE1.out.1.goX hxe hge) (HE1.out.2.grown hge (by omega)))
  clear hmk hxe hge
  go_wp2_with fail
  refine hK.out _ _ (HE2.out.2.range 0 BX (fun j v hv => by rw [Nat.zero_add]; exact hv)) (fun _ => ?_)
  clear hK K
  try simp only [Act.put, List.getElem_toArray, List.getElem_cons_succ, List.getElem_cons_zero, List.setIfInBounds_toArray, List.set_cons_zero, List.set_cons_succ]
  refine wpAnyH_take (i := 10) (v := ?_) rfl (by kernel_rfl) (by kernel_rfl) (by kernel_rfl) (fun _ _ _ h => h) (Or.inl ⟨by rfl, ?_⟩) (by assumption) ?_
  rotate_left
  · intro w' hS'; go_simp; try exact rfl
  try simp only [Act.put, List.getElem_toArray, List.getElem_cons_succ, List.getElem_cons_zero, List.setIfInBounds_toArray, List.set_cons_zero, List.set_cons_succ]
  refine wpAnyH_take (i := 11) (v := ?_) rfl (by kernel_rfl) (by kernel_rfl) (by kernel_rfl) (fun _ _ _ h => h) (Or.inl ⟨by rfl, ?_⟩) (by assumption) ?_
  rotate_left
  · intro w' hS'; go_simp; try exact rfl
  try simp only [Act.put, List.getElem_toArray, List.getElem_cons_succ, List.getElem_cons_zero, List.setIfInBounds_toArray, List.set_cons_zero, List.set_cons_succ]
  refine wpAnyH_take (i := 12) (v := ?_) rfl (by kernel_rfl) (by kernel_rfl) (by kernel_rfl) (fun _ _ _ h => h) (Or.inl ⟨by rfl, ?_⟩) (by assumption) ?_
  rotate_left
  · intro w' hS'; go_simp; try exact rfl
  try simp only [Act.put, List.getElem_toArray, List.getElem_cons_succ, List.getElem_cons_zero, List.setIfInBounds_toArray, List.set_cons_zero, List.set_cons_succ]
  refine wpAnyH_done (by kernel_rfl) ?_ _
  clear HC HD HE1
  go_wp2_with fail
  go_ret
  exact ⟨by simp, _, HE2.out.1.pf, HE2.out.1.px, HE2.out.1.low⟩
set_option maxHeartbeats 4000000 in
theorem do6_8 (f x : Nat) (m : Mem) (aK aN : Int) (A : Option Addr) (n cap : Nat) (l : List UInt8) (FK FS FP FN : Int) (FA : Option Addr) (Fn Fcap : Nat) (FL : List UInt8) (w0 w : World) (B : Nat)
    (hf : Fl w f m) (hx : Rf w x m) (hfx : f < x) (hBf : B ≤ f) (hlow : Below B w0 w) (hs : Shows w0 B A n cap l) (hF : ActWf w0 B ⟨FK, FS, FP, FN, FA, Fn, Fcap, FL⟩) (hn : n ≤ 200) (hFn : Fn ≤ 40) (hk : aK % 11 = 8) :
    Calls Tryz.prog 9 #[.agg #[.int .i64 aK, .int .i64 aN, .slice A n cap, .int .i64 FK, .int .i64 FS, .int .i64 FP, .int .i64 FN, .slice FA Fn Fcap], .pointer (some ⟨f, 0, none⟩), .pointer (some ⟨x, 0, none⟩)] w (Did w0 B f x) := by
  obtain ⟨C, hC⟩ : ∃ C : List Value, [.int .i64 aK, .int .i64 aN, .slice A n cap, .int .i64 FK, .int .i64 FS, .int .i64 FP, .int .i64 FN, .slice FA Fn Fcap] = C := ⟨_, rfl⟩
  have hb := below_new (Below.refl w.heap.size w) (.cells #[.int .i64 aK, .int .i64 aN, .slice A n cap, .int .i64 FK, .int .i64 FS, .int .i64 FP, .int .i64 FN, .slice FA Fn Fcap] 33)
  have hr := Row.new w 33 [.int .i64 aK, .int .i64 aN, .slice A n cap, .int .i64 FK, .int .i64 FS, .int .i64 FP, .int .i64 FN, .slice FA Fn Fcap]
  change Row (w.alloc (.cells #[.int .i64 aK, .int .i64 aN, .slice A n cap, .int .i64 FK, .int .i64 FS, .int .i64 FP, .int .i64 FN, .slice FA Fn Fcap] 33)) w.heap.size _ _ at hr
  obtain ⟨W, hW⟩ : ∃ W, w.alloc (.cells #[.int .i64 aK, .int .i64 aN, .slice A n cap, .int .i64 FK, .int .i64 FS, .int .i64 FP, .int .i64 FN, .slice FA Fn Fcap] 33) = W := ⟨_, rfl⟩
  obtain ⟨D, hD⟩ : ∃ D, w.heap.size = D := ⟨_, rfl⟩
  have hxD : x < D := by have := hx.lt; omega
  have hfD : f < w.heap.size := hf.lt
  rw [hW] at hb hr
  rw [hC, hD] at hr
  have sd : Sd w0 W B f x D C m m := ⟨hf.below hb, hx.below hb, hr, hlow.trans (hb.mono (by omega)), hBf, hfx, hxD⟩
  have e0 : C[0]? = some (.int .i64 aK) := by rw [← hC]; rfl
  have e1 : C[1]? = some (.int .i64 aN) := by rw [← hC]; rfl
  have e2 : C[2]? = some (.slice A n cap) := by rw [← hC]; rfl
  have e7 : C[7]? = some (.slice FA Fn Fcap) := by rw [← hC]; rfl
  have e3 : C[3]? = some (.int .i64 FK) ∧ C[4]? = some (.int .i64 FS) ∧ C[5]? = some (.int .i64 FP) ∧ C[6]? = some (.int .i64 FN) := by rw [← hC]; exact ⟨rfl, rfl, rfl, rfl⟩
  have HE := Lib.hid (And.intro e0 (And.intro e1 (And.intro e2 (And.intro e7 e3))))
  have HS := Lib.hid (And.intro sd.low (And.intro hs (And.intro hF (And.intro hn hFn))))
  have HW := Lib.hid hW
  have HD := Lib.hid hD
  have HK := Lib.hid hk
  have hS0 : W.drew.cell? ⟨D, 1, none⟩ = some (.int .i64 aN) := sd.row.cell e1
  have H1 := Lib.hid sd
  clear hf hx hfx hBf hlow hs hF hn hFn hk hC hb hr hW hD hxD hfD sd e0 e1 e2 e7 e3
  go_enter Tryz.func9, Tryz.ntmps9
  go_wp2_with fail
  try rw [HW.out]
  try rw [HD.out]
  refine wp_region_held_drew (S := fun U => U.cell? ⟨D, 1, none⟩ = some (.int .i64 aN)) (by kernel_rfl) hS0 (fun hH0 => ?_)
  refine wpAnyH_take (i := 0) (v := ?_) rfl (by kernel_rfl) (by kernel_rfl) (by kernel_rfl) (fun _ _ _ h => h) (Or.inl ⟨by rfl, ?_⟩) (by assumption) ?_
  rotate_left
  · intro w' hS'; go_simp; try exact rfl
  try simp only [Act.put, List.getElem_toArray, List.getElem_cons_zero, List.setIfInBounds_toArray, List.set_cons_zero, List.set_cons_succ]
  refine wpAnyH_take (i := 1) (v := ?_) rfl (by kernel_rfl) (by kernel_rfl) (by kernel_rfl) (fun _ _ _ h => h) (Or.inl ⟨by rfl, ?_⟩) (by assumption) ?_
  rotate_left
  · intro w' hS'; go_simp; try exact rfl
  try simp only [Act.put, List.getElem_toArray, List.getElem_cons_succ, List.getElem_cons_zero, List.setIfInBounds_toArray, List.set_cons_zero, List.set_cons_succ]
  refine wpAnyH_take (i := 3) (v := ?_) rfl (by kernel_rfl) (by kernel_rfl) (by kernel_rfl) (fun _ _ _ h => h) (Or.inl ⟨by rfl, ?_⟩) (by assumption) ?_
  rotate_left
  · intro w' hS'; go_simp; try exact rfl
  try simp only [Act.put, List.getElem_toArray, List.getElem_cons_succ, List.getElem_cons_zero, List.setIfInBounds_toArray, List.set_cons_zero, List.set_cons_succ]
  refine wpAnyH_take (i := 4) (v := ?_) rfl (by kernel_rfl) (by kernel_rfl) (by kernel_rfl) (fun _ _ _ h => h) (Or.inl ⟨by rfl, ?_⟩) (by assumption) ?_
  rotate_left
  · intro w' hS'; go_simp; try exact rfl
  try simp only [Act.put, List.getElem_toArray, List.getElem_cons_succ, List.getElem_cons_zero, List.setIfInBounds_toArray, List.set_cons_zero, List.set_cons_succ]
  refine wpAnyH_ready (rs := [2]) (by kernel_rfl) (by simp) ?_
  refine AllReadyH.cons rfl (fun K hK => ?_) AllReadyH.nil
  go_simp
  (with_reducible refine (within6_any _ 4 _ (by decide) (by decide)).mono ?_)
  rintro _ w5 ⟨rfl, rfl⟩
  go_wp2_with fail
  refine hK.out _ _ (by assumption) (fun hH1 => ?_)
  clear hK K
  try simp only [Act.put, List.getElem_toArray, List.getElem_cons_succ, List.getElem_cons_zero, List.setIfInBounds_toArray, List.set_cons_zero, List.set_cons_succ]
  refine wpAnyH_ready (rs := [5]) (by kernel_rfl) (by simp) ?_
  refine AllReadyH.cons rfl (fun K hK => ?_) AllReadyH.nil
  go_simp
  (with_reducible refine (within6_any _ 50 _ (by decide) (by decide)).mono ?_)
  rintro _ w5 ⟨rfl, rfl⟩
  go_wp2_with fail
  refine hK.out _ _ (by assumption) (fun hH2 => ?_)
  clear hK K
  try simp only [Act.put, List.getElem_toArray, List.getElem_cons_succ, List.getElem_cons_zero, List.setIfInBounds_toArray, List.set_cons_zero, List.set_cons_succ]
  refine wpAnyH_take (i := 6) (v := ?_) rfl (by kernel_rfl) (by kernel_rfl) (by kernel_rfl) (fun _ _ _ h => h) (Or.inl ⟨by rfl, ?_⟩) (by assumption) ?_
  rotate_left
  · intro w' hS'; go_simp; try exact rfl
  try simp only [Act.put, List.getElem_toArray, List.getElem_cons_succ, List.getElem_cons_zero, List.setIfInBounds_toArray, List.set_cons_zero, List.set_cons_succ]
  refine wpAnyH_take (i := 7) (v := ?_) rfl (by kernel_rfl) (by kernel_rfl) (by kernel_rfl) (fun _ _ _ h => h) (Or.inl ⟨by rfl, ?_⟩) (by assumption) ?_
  rotate_left
  · intro w' hS'; go_simp; try exact rfl
  try simp only [Act.put, List.getElem_toArray, List.getElem_cons_succ, List.getElem_cons_zero, List.setIfInBounds_toArray, List.set_cons_zero, List.set_cons_succ]
  refine wpAnyH_take (i := 8) (v := ?_) rfl (by kernel_rfl) (by kernel_rfl) (by kernel_rfl) (fun _ _ _ h => h) (Or.inl ⟨by rfl, ?_⟩) (by assumption) ?_
  rotate_left
  · intro w' hS'; go_simp; try exact rfl
  try simp only [Act.put, List.getElem_toArray, List.getElem_cons_succ, List.getElem_cons_zero, List.setIfInBounds_toArray, List.set_cons_zero, List.set_cons_succ]
  refine wpAnyH_done (by kernel_rfl) ?_ _
  obtain ⟨V, hV⟩ : ∃ V, W.drew = V := ⟨_, rfl⟩
  rw [hV]
  have sv1 : Sd w0 V B f x D C m m := by rw [← hV]; exact H1.out.below (Below.refl _ W).drew
  obtain ⟨sv, hsv⟩ : ∃ sv, IntKind.i64.wrap (aN % 4 - IntKind.i64.wrap ((aN % 50).tdiv 49)) = sv := ⟨_, rfl⟩
  have hsb : -1 ≤ sv ∧ sv ≤ 3 := by
    have ht : (aN % 50).tdiv 49 = (aN % 50) / 49 := Int.tdiv_eq_ediv_of_nonneg (by omega)
    have ha : (aN % 50) / 49 = 0 ∨ (aN % 50) / 49 = 1 := by omega
    obtain ⟨q, hq⟩ : ∃ q, aN % 4 = q := ⟨_, rfl⟩
    have hq1 : 0 ≤ q ∧ q ≤ 3 := by omega
    have hw0 : IntKind.i64.wrap 0 = 0 := by decide
    have hw1 : IntKind.i64.wrap 1 = 1 := by decide
    rw [← hsv, ht, hq]
    clear hsv hq ht
    rcases ha with ha | ha
    · rw [ha, hw0, IntKind.wrap_i64]; clear ha; omega
    · rw [ha, hw1, IntKind.wrap_i64]; clear ha; omega
  obtain ⟨hs1, hs2⟩ := hsb
  rw [hsv]
  have c0 : V.cell? ⟨D, 0, none⟩ = some (.int .i64 aK) := sv1.row.cell HE.out.1
  have H2 := Lib.hid sv1
  clear hS0 hH0 hH1 hH2 hV hsv sv1 H1 HW HD
  go_wp2_with fail
  (with_reducible refine (within6_any aK 11 _ (by decide) (by decide)).mono ?_)
  rintro _ w5 ⟨rfl, rfl⟩
  rw [HK.out]
  clear c0
  obtain ⟨T6, hT6⟩ : ∃ k : Nat, aN % 6 = k := ⟨(aN % 6).toNat, by omega⟩
  have hT6b : T6 < 6 := by omega
  have hw6 : IntKind.i64.wrap (1 + (T6 : Int)) = 1 + (T6 : Int) := by rw [IntKind.wrap_i64]; omega
  have HT6 := Lib.hid hT6
  clear hT6
  go_wp2_with fail
  have hd : Below V.heap.size V V.drew := (Below.refl _ V).drew
  have HDwd := Lib.hid (H2.out.below hd)
  refine wp_region_held_drew (S := fun U => U.cell? ⟨D, 1, none⟩ = some (.int .i64 aN) ∧ U.cell? ⟨D, 7, none⟩ = some (.slice FA Fn Fcap)) (by kernel_rfl) ⟨HDwd.out.row.cell HE.out.2.1, HDwd.out.row.cell HE.out.2.2.2.1⟩ (fun hH0 => ?_)
  clear hd
  refine wpAnyH_take (i := 0) (v := ?_) rfl (by kernel_rfl) (by kernel_rfl) (by kernel_rfl) (fun _ _ _ h => h) (Or.inl ⟨by rfl, ?_⟩) (by assumption) ?_
  rotate_left
  · intro w' hS'; go_simp; try exact rfl
  try simp only [Act.put, List.getElem_toArray, List.getElem_cons_zero, List.setIfInBounds_toArray, List.set_cons_zero, List.set_cons_succ]
  refine wpAnyH_take (i := 1) (v := ?_) rfl (by kernel_rfl) (by kernel_rfl) (by kernel_rfl) (fun _ _ _ h => h) (Or.inl ⟨by rfl, ?_⟩) (by assumption) ?_
  rotate_left
  · intro w' hS'; go_simp; try exact rfl
  try simp only [Act.put, List.getElem_toArray, List.getElem_cons_succ, List.getElem_cons_zero, List.setIfInBounds_toArray, List.set_cons_zero, List.set_cons_succ]
  refine wpAnyH_take (i := 2) (v := ?_) rfl (by kernel_rfl) (by kernel_rfl) (by kernel_rfl) (fun _ _ _ h => h) (Or.inl ⟨by rfl, ?_⟩) (by assumption) ?_
  rotate_left
  · intro w' hS'; obtain ⟨e1, e2⟩ := hS'; go_simp; try exact rfl
  try simp only [Act.put, List.getElem_toArray, List.getElem_cons_succ, List.getElem_cons_zero, List.setIfInBounds_toArray, List.set_cons_zero, List.set_cons_succ]
  refine wpAnyH_take (i := 5) (v := ?_) rfl (by kernel_rfl) (by kernel_rfl) (by kernel_rfl) (fun _ _ _ h => h) (Or.inl ⟨by rfl, ?_⟩) (by assumption) ?_
  rotate_left
  · intro w' hS'; go_simp; try exact rfl
  try simp only [Act.put, List.getElem_toArray, List.getElem_cons_succ, List.getElem_cons_zero, List.setIfInBounds_toArray, List.set_cons_zero, List.set_cons_succ]
  refine wpAnyH_take (i := 6) (v := ?_) rfl (by kernel_rfl) (by kernel_rfl) (by kernel_rfl) (fun _ _ _ h => h) (Or.inl ⟨by rfl, ?_⟩) (by assumption) ?_
  rotate_left
  · intro w' hS'; go_simp; try exact rfl
  try simp only [Act.put, List.getElem_toArray, List.getElem_cons_succ, List.getElem_cons_zero, List.setIfInBounds_toArray, List.set_cons_zero, List.set_cons_succ]
  refine wpAnyH_take (i := 7) (v := ?_) rfl (by kernel_rfl) (by kernel_rfl) (by kernel_rfl) (fun _ _ _ h => h) (Or.inl ⟨by rfl, ?_⟩) (by assumption) ?_
  rotate_left
  · intro w' hS'; obtain ⟨e1, e2⟩ := hS'; go_simp; try exact rfl
  try simp only [Act.put, List.getElem_toArray, List.getElem_cons_succ, List.getElem_cons_zero, List.setIfInBounds_toArray, List.set_cons_zero, List.set_cons_succ]
  refine wpAnyH_ready (rs := [3]) (by kernel_rfl) (by simp) ?_
  refine AllReadyH.cons rfl (fun K hK => ?_) AllReadyH.nil
  go_simp
  (with_reducible refine (within6_any _ 6 _ (by decide) (by decide)).mono ?_)
  rintro _ w5 ⟨rfl, rfl⟩
  rw [HT6.out]
  go_wp2_with fail
  refine hK.out _ _ ⟨HDwd.out.row.cell HE.out.2.1, HDwd.out.row.cell HE.out.2.2.2.1⟩ (fun _ => ?_)
  clear hK K
  try simp only [Act.put, List.getElem_toArray, List.getElem_cons_succ, List.getElem_cons_zero, List.setIfInBounds_toArray, List.set_cons_zero, List.set_cons_succ]
  refine wpAnyH_take (i := 4) (v := ?_) rfl (by kernel_rfl) (by kernel_rfl) (by kernel_rfl) (fun _ _ _ h => h) (Or.inl ⟨by rfl, ?_⟩) (by assumption) ?_
  rotate_left
  · intro w' hS'; go_simp; try exact rfl
  try simp only [Act.put, List.getElem_toArray, List.getElem_cons_succ, List.getElem_cons_zero, List.setIfInBounds_toArray, List.set_cons_zero, List.set_cons_succ]
  refine wpAnyH_ready (rs := [8]) (by kernel_rfl) (by simp) ?_
  refine AllReadyH.cons rfl (fun K hK => ?_) AllReadyH.nil
  go_simp
  refine (stop_any f m (1 + (T6 : Int)) FA Fn Fcap FL _ HDwd.out.pf (by omega) (HDwd.out.shows HS.out.2.2.1.b) (shows_in HS.out.2.2.1.b HDwd.out.pd.1) (by have := HS.out.2.2.2.2; omega)).mono ?_
  rintro _ wd ⟨rfl, hfd, hgd⟩
  have Hwd := Lib.hid (HDwd.out.goF hfd hgd)
  clear hfd hgd
  go_wp2_with fail
  refine hK.out _ _ ⟨Hwd.out.row.cell HE.out.2.1, Hwd.out.row.cell HE.out.2.2.2.1⟩ (fun _ => ?_)
  clear hK K
  try simp only [Act.put, List.getElem_toArray, List.getElem_cons_succ, List.getElem_cons_zero, List.setIfInBounds_toArray, List.set_cons_zero, List.set_cons_succ]
  refine wpAnyH_done (by kernel_rfl) ?_ _
  go_wp2_with fail
  have hd : Below wd.heap.size wd wd.drew := (Below.refl _ wd).drew
  have HDwe := Lib.hid (Hwd.out.below hd)
  refine wp_region_held_drew (S := fun U => U.cell? ⟨D, 1, none⟩ = some (.int .i64 aN) ∧ U.cell? ⟨D, 7, none⟩ = some (.slice FA Fn Fcap)) (by kernel_rfl) ⟨HDwe.out.row.cell HE.out.2.1, HDwe.out.row.cell HE.out.2.2.2.1⟩ (fun hH0 => ?_)
  clear hd
  refine wpAnyH_take (i := 0) (v := ?_) rfl (by kernel_rfl) (by kernel_rfl) (by kernel_rfl) (fun _ _ _ h => h) (Or.inl ⟨by rfl, ?_⟩) (by assumption) ?_
  rotate_left
  · intro w' hS'; go_simp; try exact rfl
  try simp only [Act.put, List.getElem_toArray, List.getElem_cons_zero, List.setIfInBounds_toArray, List.set_cons_zero, List.set_cons_succ]
  refine wpAnyH_take (i := 1) (v := ?_) rfl (by kernel_rfl) (by kernel_rfl) (by kernel_rfl) (fun _ _ _ h => h) (Or.inl ⟨by rfl, ?_⟩) (by assumption) ?_
  rotate_left
  · intro w' hS'; go_simp; try exact rfl
  try simp only [Act.put, List.getElem_toArray, List.getElem_cons_succ, List.getElem_cons_zero, List.setIfInBounds_toArray, List.set_cons_zero, List.set_cons_succ]
  refine wpAnyH_take (i := 2) (v := ?_) rfl (by kernel_rfl) (by kernel_rfl) (by kernel_rfl) (fun _ _ _ h => h) (Or.inl ⟨by rfl, ?_⟩) (by assumption) ?_
  rotate_left
  · intro w' hS'; obtain ⟨e1, e2⟩ := hS'; go_simp; try exact rfl
  try simp only [Act.put, List.getElem_toArray, List.getElem_cons_succ, List.getElem_cons_zero, List.setIfInBounds_toArray, List.set_cons_zero, List.set_cons_succ]
  refine wpAnyH_take (i := 5) (v := ?_) rfl (by kernel_rfl) (by kernel_rfl) (by kernel_rfl) (fun _ _ _ h => h) (Or.inl ⟨by rfl, ?_⟩) (by assumption) ?_
  rotate_left
  · intro w' hS'; go_simp; try exact rfl
  try simp only [Act.put, List.getElem_toArray, List.getElem_cons_succ, List.getElem_cons_zero, List.setIfInBounds_toArray, List.set_cons_zero, List.set_cons_succ]
  refine wpAnyH_take (i := 6) (v := ?_) rfl (by kernel_rfl) (by kernel_rfl) (by kernel_rfl) (fun _ _ _ h => h) (Or.inl ⟨by rfl, ?_⟩) (by assumption) ?_
  rotate_left
  · intro w' hS'; go_simp; try exact rfl
  try simp only [Act.put, List.getElem_toArray, List.getElem_cons_succ, List.getElem_cons_zero, List.setIfInBounds_toArray, List.set_cons_zero, List.set_cons_succ]
  refine wpAnyH_take (i := 7) (v := ?_) rfl (by kernel_rfl) (by kernel_rfl) (by kernel_rfl) (fun _ _ _ h => h) (Or.inl ⟨by rfl, ?_⟩) (by assumption) ?_
  rotate_left
  · intro w' hS'; obtain ⟨e1, e2⟩ := hS'; go_simp; try exact rfl
  try simp only [Act.put, List.getElem_toArray, List.getElem_cons_succ, List.getElem_cons_zero, List.setIfInBounds_toArray, List.set_cons_zero, List.set_cons_succ]
  refine wpAnyH_ready (rs := [3]) (by kernel_rfl) (by simp) ?_
  refine AllReadyH.cons rfl (fun K hK => ?_) AllReadyH.nil
  go_simp
  (with_reducible refine (within6_any _ 6 _ (by decide) (by decide)).mono ?_)
  rintro _ w5 ⟨rfl, rfl⟩
  rw [HT6.out]
  go_wp2_with fail
  refine hK.out _ _ ⟨HDwe.out.row.cell HE.out.2.1, HDwe.out.row.cell HE.out.2.2.2.1⟩ (fun _ => ?_)
  clear hK K
  try simp only [Act.put, List.getElem_toArray, List.getElem_cons_succ, List.getElem_cons_zero, List.setIfInBounds_toArray, List.set_cons_zero, List.set_cons_succ]
  refine wpAnyH_take (i := 4) (v := ?_) rfl (by kernel_rfl) (by kernel_rfl) (by kernel_rfl) (fun _ _ _ h => h) (Or.inl ⟨by rfl, ?_⟩) (by assumption) ?_
  rotate_left
  · intro w' hS'; go_simp; try exact rfl
  try simp only [Act.put, List.getElem_toArray, List.getElem_cons_succ, List.getElem_cons_zero, List.setIfInBounds_toArray, List.set_cons_zero, List.set_cons_succ]
  refine wpAnyH_ready (rs := [8]) (by kernel_rfl) (by simp) ?_
  refine AllReadyH.cons rfl (fun K hK => ?_) AllReadyH.nil
  go_simp
  refine (xstop_any x m (1 + (T6 : Int)) FA Fn Fcap FL _ HDwe.out.px (by omega) (HDwe.out.shows HS.out.2.2.1.b) (by have := HS.out.2.2.2.2; omega)).mono ?_
  rintro _ we ⟨rfl, hfd, hgd⟩
  have Hwe := Lib.hid (HDwe.out.goX hfd hgd)
  clear hfd hgd
  go_wp2_with fail
  refine hK.out _ _ ⟨Hwe.out.row.cell HE.out.2.1, Hwe.out.row.cell HE.out.2.2.2.1⟩ (fun _ => ?_)
  clear hK K
  try simp only [Act.put, List.getElem_toArray, List.getElem_cons_succ, List.getElem_cons_zero, List.setIfInBounds_toArray, List.set_cons_zero, List.set_cons_succ]
  refine wpAnyH_done (by kernel_rfl) ?_ _
  go_wp2_with fail
  go_ret
  exact ⟨rfl, _, Hwe.out.pf, Hwe.out.px, Hwe.out.low⟩
set_option maxHeartbeats 4000000 in
theorem do6_9 (f x : Nat) (m : Mem) (aK aN : Int) (A : Option Addr) (n cap : Nat) (l : List UInt8) (FK FS FP FN : Int) (FA : Option Addr) (Fn Fcap : Nat) (FL : List UInt8) (w0 w : World) (B : Nat)
    (hf : Fl w f m) (hx : Rf w x m) (hfx : f < x) (hBf : B ≤ f) (hlow : Below B w0 w) (hs : Shows w0 B A n cap l) (hF : ActWf w0 B ⟨FK, FS, FP, FN, FA, Fn, Fcap, FL⟩) (hn : n ≤ 200) (hFn : Fn ≤ 40) (hk : aK % 11 = 9) :
    Calls Tryz.prog 9 #[.agg #[.int .i64 aK, .int .i64 aN, .slice A n cap, .int .i64 FK, .int .i64 FS, .int .i64 FP, .int .i64 FN, .slice FA Fn Fcap], .pointer (some ⟨f, 0, none⟩), .pointer (some ⟨x, 0, none⟩)] w (Did w0 B f x) := by
  obtain ⟨C, hC⟩ : ∃ C : List Value, [.int .i64 aK, .int .i64 aN, .slice A n cap, .int .i64 FK, .int .i64 FS, .int .i64 FP, .int .i64 FN, .slice FA Fn Fcap] = C := ⟨_, rfl⟩
  have hb := below_new (Below.refl w.heap.size w) (.cells #[.int .i64 aK, .int .i64 aN, .slice A n cap, .int .i64 FK, .int .i64 FS, .int .i64 FP, .int .i64 FN, .slice FA Fn Fcap] 33)
  have hr := Row.new w 33 [.int .i64 aK, .int .i64 aN, .slice A n cap, .int .i64 FK, .int .i64 FS, .int .i64 FP, .int .i64 FN, .slice FA Fn Fcap]
  change Row (w.alloc (.cells #[.int .i64 aK, .int .i64 aN, .slice A n cap, .int .i64 FK, .int .i64 FS, .int .i64 FP, .int .i64 FN, .slice FA Fn Fcap] 33)) w.heap.size _ _ at hr
  obtain ⟨W, hW⟩ : ∃ W, w.alloc (.cells #[.int .i64 aK, .int .i64 aN, .slice A n cap, .int .i64 FK, .int .i64 FS, .int .i64 FP, .int .i64 FN, .slice FA Fn Fcap] 33) = W := ⟨_, rfl⟩
  obtain ⟨D, hD⟩ : ∃ D, w.heap.size = D := ⟨_, rfl⟩
  have hxD : x < D := by have := hx.lt; omega
  have hfD : f < w.heap.size := hf.lt
  rw [hW] at hb hr
  rw [hC, hD] at hr
  have sd : Sd w0 W B f x D C m m := ⟨hf.below hb, hx.below hb, hr, hlow.trans (hb.mono (by omega)), hBf, hfx, hxD⟩
  have e0 : C[0]? = some (.int .i64 aK) := by rw [← hC]; rfl
  have e1 : C[1]? = some (.int .i64 aN) := by rw [← hC]; rfl
  have e2 : C[2]? = some (.slice A n cap) := by rw [← hC]; rfl
  have e7 : C[7]? = some (.slice FA Fn Fcap) := by rw [← hC]; rfl
  have e3 : C[3]? = some (.int .i64 FK) ∧ C[4]? = some (.int .i64 FS) ∧ C[5]? = some (.int .i64 FP) ∧ C[6]? = some (.int .i64 FN) := by rw [← hC]; exact ⟨rfl, rfl, rfl, rfl⟩
  have HE := Lib.hid (And.intro e0 (And.intro e1 (And.intro e2 (And.intro e7 e3))))
  have HS := Lib.hid (And.intro sd.low (And.intro hs (And.intro hF (And.intro hn hFn))))
  have HW := Lib.hid hW
  have HD := Lib.hid hD
  have HK := Lib.hid hk
  have hS0 : W.drew.cell? ⟨D, 1, none⟩ = some (.int .i64 aN) := sd.row.cell e1
  have H1 := Lib.hid sd
  clear hf hx hfx hBf hlow hs hF hn hFn hk hC hb hr hW hD hxD hfD sd e0 e1 e2 e7 e3
  go_enter Tryz.func9, Tryz.ntmps9
  go_wp2_with fail
  try rw [HW.out]
  try rw [HD.out]
  refine wp_region_held_drew (S := fun U => U.cell? ⟨D, 1, none⟩ = some (.int .i64 aN)) (by kernel_rfl) hS0 (fun hH0 => ?_)
  refine wpAnyH_take (i := 0) (v := ?_) rfl (by kernel_rfl) (by kernel_rfl) (by kernel_rfl) (fun _ _ _ h => h) (Or.inl ⟨by rfl, ?_⟩) (by assumption) ?_
  rotate_left
  · intro w' hS'; go_simp; try exact rfl
  try simp only [Act.put, List.getElem_toArray, List.getElem_cons_zero, List.setIfInBounds_toArray, List.set_cons_zero, List.set_cons_succ]
  refine wpAnyH_take (i := 1) (v := ?_) rfl (by kernel_rfl) (by kernel_rfl) (by kernel_rfl) (fun _ _ _ h => h) (Or.inl ⟨by rfl, ?_⟩) (by assumption) ?_
  rotate_left
  · intro w' hS'; go_simp; try exact rfl
  try simp only [Act.put, List.getElem_toArray, List.getElem_cons_succ, List.getElem_cons_zero, List.setIfInBounds_toArray, List.set_cons_zero, List.set_cons_succ]
  refine wpAnyH_take (i := 3) (v := ?_) rfl (by kernel_rfl) (by kernel_rfl) (by kernel_rfl) (fun _ _ _ h => h) (Or.inl ⟨by rfl, ?_⟩) (by assumption) ?_
  rotate_left
  · intro w' hS'; go_simp; try exact rfl
  try simp only [Act.put, List.getElem_toArray, List.getElem_cons_succ, List.getElem_cons_zero, List.setIfInBounds_toArray, List.set_cons_zero, List.set_cons_succ]
  refine wpAnyH_take (i := 4) (v := ?_) rfl (by kernel_rfl) (by kernel_rfl) (by kernel_rfl) (fun _ _ _ h => h) (Or.inl ⟨by rfl, ?_⟩) (by assumption) ?_
  rotate_left
  · intro w' hS'; go_simp; try exact rfl
  try simp only [Act.put, List.getElem_toArray, List.getElem_cons_succ, List.getElem_cons_zero, List.setIfInBounds_toArray, List.set_cons_zero, List.set_cons_succ]
  refine wpAnyH_ready (rs := [2]) (by kernel_rfl) (by simp) ?_
  refine AllReadyH.cons rfl (fun K hK => ?_) AllReadyH.nil
  go_simp
  (with_reducible refine (within6_any _ 4 _ (by decide) (by decide)).mono ?_)
  rintro _ w5 ⟨rfl, rfl⟩
  go_wp2_with fail
  refine hK.out _ _ (by assumption) (fun hH1 => ?_)
  clear hK K
  try simp only [Act.put, List.getElem_toArray, List.getElem_cons_succ, List.getElem_cons_zero, List.setIfInBounds_toArray, List.set_cons_zero, List.set_cons_succ]
  refine wpAnyH_ready (rs := [5]) (by kernel_rfl) (by simp) ?_
  refine AllReadyH.cons rfl (fun K hK => ?_) AllReadyH.nil
  go_simp
  (with_reducible refine (within6_any _ 50 _ (by decide) (by decide)).mono ?_)
  rintro _ w5 ⟨rfl, rfl⟩
  go_wp2_with fail
  refine hK.out _ _ (by assumption) (fun hH2 => ?_)
  clear hK K
  try simp only [Act.put, List.getElem_toArray, List.getElem_cons_succ, List.getElem_cons_zero, List.setIfInBounds_toArray, List.set_cons_zero, List.set_cons_succ]
  refine wpAnyH_take (i := 6) (v := ?_) rfl (by kernel_rfl) (by kernel_rfl) (by kernel_rfl) (fun _ _ _ h => h) (Or.inl ⟨by rfl, ?_⟩) (by assumption) ?_
  rotate_left
  · intro w' hS'; go_simp; try exact rfl
  try simp only [Act.put, List.getElem_toArray, List.getElem_cons_succ, List.getElem_cons_zero, List.setIfInBounds_toArray, List.set_cons_zero, List.set_cons_succ]
  refine wpAnyH_take (i := 7) (v := ?_) rfl (by kernel_rfl) (by kernel_rfl) (by kernel_rfl) (fun _ _ _ h => h) (Or.inl ⟨by rfl, ?_⟩) (by assumption) ?_
  rotate_left
  · intro w' hS'; go_simp; try exact rfl
  try simp only [Act.put, List.getElem_toArray, List.getElem_cons_succ, List.getElem_cons_zero, List.setIfInBounds_toArray, List.set_cons_zero, List.set_cons_succ]
  refine wpAnyH_take (i := 8) (v := ?_) rfl (by kernel_rfl) (by kernel_rfl) (by kernel_rfl) (fun _ _ _ h => h) (Or.inl ⟨by rfl, ?_⟩) (by assumption) ?_
  rotate_left
  · intro w' hS'; go_simp; try exact rfl
  try simp only [Act.put, List.getElem_toArray, List.getElem_cons_succ, List.getElem_cons_zero, List.setIfInBounds_toArray, List.set_cons_zero, List.set_cons_succ]
  refine wpAnyH_done (by kernel_rfl) ?_ _
  obtain ⟨V, hV⟩ : ∃ V, W.drew = V := ⟨_, rfl⟩
  rw [hV]
  have sv1 : Sd w0 V B f x D C m m := by rw [← hV]; exact H1.out.below (Below.refl _ W).drew
  obtain ⟨sv, hsv⟩ : ∃ sv, IntKind.i64.wrap (aN % 4 - IntKind.i64.wrap ((aN % 50).tdiv 49)) = sv := ⟨_, rfl⟩
  have hsb : -1 ≤ sv ∧ sv ≤ 3 := by
    have ht : (aN % 50).tdiv 49 = (aN % 50) / 49 := Int.tdiv_eq_ediv_of_nonneg (by omega)
    have ha : (aN % 50) / 49 = 0 ∨ (aN % 50) / 49 = 1 := by omega
    obtain ⟨q, hq⟩ : ∃ q, aN % 4 = q := ⟨_, rfl⟩
    have hq1 : 0 ≤ q ∧ q ≤ 3 := by omega
    have hw0 : IntKind.i64.wrap 0 = 0 := by decide
    have hw1 : IntKind.i64.wrap 1 = 1 := by decide
    rw [← hsv, ht, hq]
    clear hsv hq ht
    rcases ha with ha | ha
    · rw [ha, hw0, IntKind.wrap_i64]; clear ha; omega
    · rw [ha, hw1, IntKind.wrap_i64]; clear ha; omega
  obtain ⟨hs1, hs2⟩ := hsb
  rw [hsv]
  have c0 : V.cell? ⟨D, 0, none⟩ = some (.int .i64 aK) := sv1.row.cell HE.out.1
  have H2 := Lib.hid sv1
  clear hS0 hH0 hH1 hH2 hV hsv sv1 H1 HW HD
  go_wp2_with fail
  (with_reducible refine (within6_any aK 11 _ (by decide) (by decide)).mono ?_)
  rintro _ w5 ⟨rfl, rfl⟩
  rw [HK.out]
  clear c0
  go_wp2_with fail
  refine (start_any f m V H2.out.pf).mono ?_
  rintro _ wd ⟨rfl, hfd, hgd⟩
  have H3 := Lib.hid (H2.out.goF hfd hgd)
  clear hfd hgd
  go_wp2_with fail
  refine (xstart_any x m wd H3.out.px).mono ?_
  rintro _ we ⟨rfl, hxe, hge⟩
  have H7 := Lib.hid (H3.out.goX hxe hge)
  clear hxe hge
  go_wp2_with fail
  go_ret
  exact ⟨rfl, _, H7.out.pf, H7.out.px, H7.out.low⟩
set_option maxHeartbeats 4000000 in
theorem do6_10 (f x : Nat) (m : Mem) (aK aN : Int) (A : Option Addr) (n cap : Nat) (l : List UInt8) (FK FS FP FN : Int) (FA : Option Addr) (Fn Fcap : Nat) (FL : List UInt8) (w0 w : World) (B : Nat)
    (hf : Fl w f m) (hx : Rf w x m) (hfx : f < x) (hBf : B ≤ f) (hlow : Below B w0 w) (hs : Shows w0 B A n cap l) (hF : ActWf w0 B ⟨FK, FS, FP, FN, FA, Fn, Fcap, FL⟩) (hn : n ≤ 200) (hFn : Fn ≤ 40) (hk : aK % 11 = 10) :
    Calls Tryz.prog 9 #[.agg #[.int .i64 aK, .int .i64 aN, .slice A n cap, .int .i64 FK, .int .i64 FS, .int .i64 FP, .int .i64 FN, .slice FA Fn Fcap], .pointer (some ⟨f, 0, none⟩), .pointer (some ⟨x, 0, none⟩)] w (Did w0 B f x) := by
  obtain ⟨C, hC⟩ : ∃ C : List Value, [.int .i64 aK, .int .i64 aN, .slice A n cap, .int .i64 FK, .int .i64 FS, .int .i64 FP, .int .i64 FN, .slice FA Fn Fcap] = C := ⟨_, rfl⟩
  have hb := below_new (Below.refl w.heap.size w) (.cells #[.int .i64 aK, .int .i64 aN, .slice A n cap, .int .i64 FK, .int .i64 FS, .int .i64 FP, .int .i64 FN, .slice FA Fn Fcap] 33)
  have hr := Row.new w 33 [.int .i64 aK, .int .i64 aN, .slice A n cap, .int .i64 FK, .int .i64 FS, .int .i64 FP, .int .i64 FN, .slice FA Fn Fcap]
  change Row (w.alloc (.cells #[.int .i64 aK, .int .i64 aN, .slice A n cap, .int .i64 FK, .int .i64 FS, .int .i64 FP, .int .i64 FN, .slice FA Fn Fcap] 33)) w.heap.size _ _ at hr
  obtain ⟨W, hW⟩ : ∃ W, w.alloc (.cells #[.int .i64 aK, .int .i64 aN, .slice A n cap, .int .i64 FK, .int .i64 FS, .int .i64 FP, .int .i64 FN, .slice FA Fn Fcap] 33) = W := ⟨_, rfl⟩
  obtain ⟨D, hD⟩ : ∃ D, w.heap.size = D := ⟨_, rfl⟩
  have hxD : x < D := by have := hx.lt; omega
  have hfD : f < w.heap.size := hf.lt
  rw [hW] at hb hr
  rw [hC, hD] at hr
  have sd : Sd w0 W B f x D C m m := ⟨hf.below hb, hx.below hb, hr, hlow.trans (hb.mono (by omega)), hBf, hfx, hxD⟩
  have e0 : C[0]? = some (.int .i64 aK) := by rw [← hC]; rfl
  have e1 : C[1]? = some (.int .i64 aN) := by rw [← hC]; rfl
  have e2 : C[2]? = some (.slice A n cap) := by rw [← hC]; rfl
  have e7 : C[7]? = some (.slice FA Fn Fcap) := by rw [← hC]; rfl
  have e3 : C[3]? = some (.int .i64 FK) ∧ C[4]? = some (.int .i64 FS) ∧ C[5]? = some (.int .i64 FP) ∧ C[6]? = some (.int .i64 FN) := by rw [← hC]; exact ⟨rfl, rfl, rfl, rfl⟩
  have HE := Lib.hid (And.intro e0 (And.intro e1 (And.intro e2 (And.intro e7 e3))))
  have HS := Lib.hid (And.intro sd.low (And.intro hs (And.intro hF (And.intro hn hFn))))
  have HW := Lib.hid hW
  have HD := Lib.hid hD
  have HK := Lib.hid hk
  have hS0 : W.drew.cell? ⟨D, 1, none⟩ = some (.int .i64 aN) := sd.row.cell e1
  have H1 := Lib.hid sd
  clear hf hx hfx hBf hlow hs hF hn hFn hk hC hb hr hW hD hxD hfD sd e0 e1 e2 e7 e3
  go_enter Tryz.func9, Tryz.ntmps9
  go_wp2_with fail
  try rw [HW.out]
  try rw [HD.out]
  refine wp_region_held_drew (S := fun U => U.cell? ⟨D, 1, none⟩ = some (.int .i64 aN)) (by kernel_rfl) hS0 (fun hH0 => ?_)
  refine wpAnyH_take (i := 0) (v := ?_) rfl (by kernel_rfl) (by kernel_rfl) (by kernel_rfl) (fun _ _ _ h => h) (Or.inl ⟨by rfl, ?_⟩) (by assumption) ?_
  rotate_left
  · intro w' hS'; go_simp; try exact rfl
  try simp only [Act.put, List.getElem_toArray, List.getElem_cons_zero, List.setIfInBounds_toArray, List.set_cons_zero, List.set_cons_succ]
  refine wpAnyH_take (i := 1) (v := ?_) rfl (by kernel_rfl) (by kernel_rfl) (by kernel_rfl) (fun _ _ _ h => h) (Or.inl ⟨by rfl, ?_⟩) (by assumption) ?_
  rotate_left
  · intro w' hS'; go_simp; try exact rfl
  try simp only [Act.put, List.getElem_toArray, List.getElem_cons_succ, List.getElem_cons_zero, List.setIfInBounds_toArray, List.set_cons_zero, List.set_cons_succ]
  refine wpAnyH_take (i := 3) (v := ?_) rfl (by kernel_rfl) (by kernel_rfl) (by kernel_rfl) (fun _ _ _ h => h) (Or.inl ⟨by rfl, ?_⟩) (by assumption) ?_
  rotate_left
  · intro w' hS'; go_simp; try exact rfl
  try simp only [Act.put, List.getElem_toArray, List.getElem_cons_succ, List.getElem_cons_zero, List.setIfInBounds_toArray, List.set_cons_zero, List.set_cons_succ]
  refine wpAnyH_take (i := 4) (v := ?_) rfl (by kernel_rfl) (by kernel_rfl) (by kernel_rfl) (fun _ _ _ h => h) (Or.inl ⟨by rfl, ?_⟩) (by assumption) ?_
  rotate_left
  · intro w' hS'; go_simp; try exact rfl
  try simp only [Act.put, List.getElem_toArray, List.getElem_cons_succ, List.getElem_cons_zero, List.setIfInBounds_toArray, List.set_cons_zero, List.set_cons_succ]
  refine wpAnyH_ready (rs := [2]) (by kernel_rfl) (by simp) ?_
  refine AllReadyH.cons rfl (fun K hK => ?_) AllReadyH.nil
  go_simp
  (with_reducible refine (within6_any _ 4 _ (by decide) (by decide)).mono ?_)
  rintro _ w5 ⟨rfl, rfl⟩
  go_wp2_with fail
  refine hK.out _ _ (by assumption) (fun hH1 => ?_)
  clear hK K
  try simp only [Act.put, List.getElem_toArray, List.getElem_cons_succ, List.getElem_cons_zero, List.setIfInBounds_toArray, List.set_cons_zero, List.set_cons_succ]
  refine wpAnyH_ready (rs := [5]) (by kernel_rfl) (by simp) ?_
  refine AllReadyH.cons rfl (fun K hK => ?_) AllReadyH.nil
  go_simp
  (with_reducible refine (within6_any _ 50 _ (by decide) (by decide)).mono ?_)
  rintro _ w5 ⟨rfl, rfl⟩
  go_wp2_with fail
  refine hK.out _ _ (by assumption) (fun hH2 => ?_)
  clear hK K
  try simp only [Act.put, List.getElem_toArray, List.getElem_cons_succ, List.getElem_cons_zero, List.setIfInBounds_toArray, List.set_cons_zero, List.set_cons_succ]
  refine wpAnyH_take (i := 6) (v := ?_) rfl (by kernel_rfl) (by kernel_rfl) (by kernel_rfl) (fun _ _ _ h => h) (Or.inl ⟨by rfl, ?_⟩) (by assumption) ?_
  rotate_left
  · intro w' hS'; go_simp; try exact rfl
  try simp only [Act.put, List.getElem_toArray, List.getElem_cons_succ, List.getElem_cons_zero, List.setIfInBounds_toArray, List.set_cons_zero, List.set_cons_succ]
  refine wpAnyH_take (i := 7) (v := ?_) rfl (by kernel_rfl) (by kernel_rfl) (by kernel_rfl) (fun _ _ _ h => h) (Or.inl ⟨by rfl, ?_⟩) (by assumption) ?_
  rotate_left
  · intro w' hS'; go_simp; try exact rfl
  try simp only [Act.put, List.getElem_toArray, List.getElem_cons_succ, List.getElem_cons_zero, List.setIfInBounds_toArray, List.set_cons_zero, List.set_cons_succ]
  refine wpAnyH_take (i := 8) (v := ?_) rfl (by kernel_rfl) (by kernel_rfl) (by kernel_rfl) (fun _ _ _ h => h) (Or.inl ⟨by rfl, ?_⟩) (by assumption) ?_
  rotate_left
  · intro w' hS'; go_simp; try exact rfl
  try simp only [Act.put, List.getElem_toArray, List.getElem_cons_succ, List.getElem_cons_zero, List.setIfInBounds_toArray, List.set_cons_zero, List.set_cons_succ]
  refine wpAnyH_done (by kernel_rfl) ?_ _
  obtain ⟨V, hV⟩ : ∃ V, W.drew = V := ⟨_, rfl⟩
  rw [hV]
  have sv1 : Sd w0 V B f x D C m m := by rw [← hV]; exact H1.out.below (Below.refl _ W).drew
  obtain ⟨sv, hsv⟩ : ∃ sv, IntKind.i64.wrap (aN % 4 - IntKind.i64.wrap ((aN % 50).tdiv 49)) = sv := ⟨_, rfl⟩
  have hsb : -1 ≤ sv ∧ sv ≤ 3 := by
    have ht : (aN % 50).tdiv 49 = (aN % 50) / 49 := Int.tdiv_eq_ediv_of_nonneg (by omega)
    have ha : (aN % 50) / 49 = 0 ∨ (aN % 50) / 49 = 1 := by omega
    obtain ⟨q, hq⟩ : ∃ q, aN % 4 = q := ⟨_, rfl⟩
    have hq1 : 0 ≤ q ∧ q ≤ 3 := by omega
    have hw0 : IntKind.i64.wrap 0 = 0 := by decide
    have hw1 : IntKind.i64.wrap 1 = 1 := by decide
    rw [← hsv, ht, hq]
    clear hsv hq ht
    rcases ha with ha | ha
    · rw [ha, hw0, IntKind.wrap_i64]; clear ha; omega
    · rw [ha, hw1, IntKind.wrap_i64]; clear ha; omega
  obtain ⟨hs1, hs2⟩ := hsb
  rw [hsv]
  have c0 : V.cell? ⟨D, 0, none⟩ = some (.int .i64 aK) := sv1.row.cell HE.out.1
  have H2 := Lib.hid sv1
  clear hS0 hH0 hH1 hH2 hV hsv sv1 H1 HW HD
  go_wp2_with fail
  (with_reducible refine (within6_any aK 11 _ (by decide) (by decide)).mono ?_)
  rintro _ w5 ⟨rfl, rfl⟩
  rw [HK.out]
  clear c0
  have c1 : V.cell? ⟨D, 1, none⟩ = some (.int .i64 aN) := H2.out.row.cell HE.out.2.1
  by_cases h4 : (0 : Int) < aN.tmod 4
  · go_wp2_with fail
    go_ret
    exact ⟨rfl, _, H2.out.pf, H2.out.px, H2.out.low⟩
  · have h4d : decide ((0 : Int) < aN.tmod 4) = false := decide_eq_false h4
    obtain ⟨CF, hCF⟩ : ∃ C : List Value, [.int .i64 FK, .int .i64 FS, .int .i64 FP, .int .i64 FN, .slice FA Fn Fcap] = C := ⟨_, rfl⟩
    have hrg : V.rangeAt D 3 CF := by
      intro j v hv
      refine H2.out.row.cell ?_
      rw [← hCF] at hv
      match j, hv with
      | 0, hv => injection hv with hv; rw [← hv]; exact HE.out.2.2.2.2.1
      | 1, hv => injection hv with hv; rw [← hv]; exact HE.out.2.2.2.2.2.1
      | 2, hv => injection hv with hv; rw [← hv]; exact HE.out.2.2.2.2.2.2.1
      | 3, hv => injection hv with hv; rw [← hv]; exact HE.out.2.2.2.2.2.2.2
      | 4, hv => injection hv with hv; rw [← hv]; exact HE.out.2.2.2.1
    have hfx := H2.out.pd.2.1
    have hdo := do_any f x m ⟨FK, FS, FP, FN, FA, Fn, Fcap, FL⟩ V H2.out.pf H2.out.px (by omega) ((HS.out.2.2.1.below H2.out.low).more H2.out.bs) HS.out.2.2.2.2 (fun p hp h0 => ⟨shows_in HS.out.2.2.1.b H2.out.pd.1 p hp h0, shows_in HS.out.2.2.1.b (by have := H2.out.pd; omega) p hp h0⟩)
    have hdo2 : Calls Tryz.prog 26 #[.agg CF.toArray, .pointer (some ⟨f, 0, none⟩), .pointer (some ⟨x, 0, none⟩)] V (fun e w' => e = .returned (.bool true) ∧ Fl w' f (actM m ⟨FK, FS, FP, FN, FA, Fn, Fcap, FL⟩) ∧ Rf w' x (actM m ⟨FK, FS, FP, FN, FA, Fn, Fcap, FL⟩) ∧ ∃ w1, V.grownBy w1 (some f) ∧ w1.grownBy w' (some x)) := by rw [← hCF]; exact hdo
    have HDO := Lib.hid hdo2
    have HRG := Lib.hid hrg
    have HIF := Lib.hid (show (Tryz.prog.info? 31).map (·.size) = some CF.length by rw [← hCF]; kernel_rfl)
    clear hCF hrg hdo hdo2 hfx
    go_wp2_with (refine wpList_load_mid_g rfl 31 (.tmp 119) rfl D 3 rfl CF _ HRG.out Tryz.underlying31 rfl HIF.out ?_)
    refine HDO.out.mono ?_
    rintro _ wd ⟨rfl, hfd, hxd, w1, hg1, hg2⟩
    have hlow : Below B w0 wd := by
      have h1 := H2.out.low.grown hg1 H2.out.bs (by intro k hk; injection hk with hk; have := H2.out.pd; omega)
      exact h1.grown hg2 (Nat.le_trans H2.out.bs hg1.size) (by intro k hk; injection hk with hk; have := H2.out.pd; omega)
    have HF := Lib.hid (And.intro hfd (And.intro hxd hlow))
    clear hfd hxd hg1 hg2 hlow HDO c1
    go_wp2_with fail
    go_ret
    exact ⟨rfl, _, HF.out.1, HF.out.2.1, HF.out.2.2⟩
end Go.Proofs.YtmebdnblobobnaaGreatDoor
