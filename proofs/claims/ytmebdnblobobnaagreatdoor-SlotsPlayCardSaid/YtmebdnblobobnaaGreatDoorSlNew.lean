/- Chapter 6: the newest of some entries, or noughts (the program's own function). -/
import Derived.Test.YtmebdnblobobnaaGreatDoorSlMax
namespace Go.Proofs.YtmebdnblobobnaaGreatDoor
set_option maxRecDepth 100000
open Go.RowKit _root_.Go.Proofs.YtmebdnblobobnaaGreatDoor.Wd _root_.Go.Proofs.YtmebdnblobobnaaGreatDoor.Nm _root_.Go.Proofs.YtmebdnblobobnaaGreatDoor.Cm _root_.Go.Proofs.YtmebdnblobobnaaGreatDoor.Fm

theorem pl_built0 : Tryz.prog.built 75 [] = some Pl.zero.cells.toArray := by kernel_rfl
theorem newest_sum (ps : List Pl) (h : ∀ p ∈ ps, p.e.sum.length = 32) : (newestP ps).e.sum.length = 32 := by
  by_cases h0 : ps = []
  · rw [h0]; rfl
  · exact h _ (newest_mem ps h0)
set_option maxHeartbeats 2000000 in
theorem newest_any (A : Option Addr) (n cap base : Nat) (ps : List Pl) (w : World) (h : OwnPl w base A n cap ps) (hn : n ≤ 1000) :
    Calls Tryz.prog 36 #[.slice A n cap] w fun e w' => e = .returned (.agg (newestP ps).cells.toArray) ∧ Below w.heap.size w w' := by
  have hsum := newest_sum ps h.sum
  obtain ⟨R0, hR0⟩ : ∃ R, newestP ps = R := ⟨_, rfl⟩
  rw [hR0] at hsum
  have hl := R0.cells_len hsum
  have ho := R0.one
  obtain ⟨CR, hCR⟩ : ∃ C, R0.cells = C := ⟨_, rfl⟩
  rw [hR0, hCR]
  rw [hCR] at hl ho
  obtain ⟨Z, hzl, hz0, hz⟩ := pl_zero
  have hbu := pl_built0
  rw [hz0] at hbu
  have HZ := Lib.hid (And.intro hz (And.intro hbu hz0))
  have HI := Lib.hid (pl_size CR hl)
  have HI2 := Lib.hid (show (Tryz.prog.info? 75).map (·.size) = some CR.toArray.size by rw [pl_size CR hl]; simp)
  have HO := Lib.hid (And.intro ho (And.intro (show Z.length = CR.length by rw [hzl, hl]) (And.intro hR0 hCR)))
  have HP := Lib.hid h
  clear hsum hl ho hR0 hCR hzl hz hz0 hbu h
  by_cases h0 : n = 0
  · have hps : ps = [] := List.eq_nil_of_length_eq_zero (by rw [HP.out.len, h0])
    subst h0
    have hcz : CR = Z := by rw [← HO.out.2.2.2, ← HO.out.2.2.1, hps]; exact HZ.out.2.2
    subst hcz
    clear hps
    go_enter Tryz.func36, Tryz.ntmps36
    go_wp2_with (refine wpList_alloc_row rfl 75 rfl CR HZ.out.1 ?_)
    intro w1 hrow1 hb1 hsz1
    have H1 := Lib.hid (And.intro hrow1 hb1)
    clear hrow1 hb1 hsz1
    go_wp2_with (first
      | (refine wpList_build_is rfl 75 #[] rfl CR.toArray ?_ ?_; (focus (go_simp; exact HZ.out.2.1)))
      | (refine wpList_store_as rfl _ _ _ rfl w.heap.size CR rfl rfl 75 CR H1.out.1 HI.out rfl HO.out.1 ?_))
    intro w2 hrow2 hoth2 hg2 hsz2
    have hb2 : Below w.heap.size w w2 := step_grow H1.out.2 hg2 (Nat.le_refl _)
    go_wp2_with fail
    refine bodyPost_ret (v := .agg CR.toArray) ?_ rfl ⟨rfl, hb2⟩
    exact results_row_one (P := Tryz.prog) rfl _ w2 w.heap.size 75 _ (0, 0) _ rfl hrow2 Tryz.underlying75 rfl HI2.out
  · have hni : ((n : Int) == 0) = false := by simpa using h0
    obtain ⟨m, r, rfl⟩ : ∃ m r, ps = m :: r := by
      cases ps with
      | nil => exact absurd HP.out.len.symm h0
      | cons m r => exact ⟨m, r, rfl⟩
    go_enter Tryz.func36, Tryz.ntmps36
    go_wp2_with (refine wpList_alloc_row rfl 75 rfl Z HZ.out.1 ?_)
    intro w1 hrow1 hb1 hsz1
    have hp1 := HP.out.below hb1
    have HM := Lib.hid (max_any A n cap base m r w1 hp1 hn)
    have hmr : maxP m r = R0 := HO.out.2.2.1
    rw [hmr, HO.out.2.2.2] at HM
    have H1 := Lib.hid (And.intro hrow1 (And.intro hb1 hrow1.lt))
    clear hrow1 hb1 hsz1 hp1 hmr
    go_wp2_with fail
    refine HM.out.mono ?_
    rintro _ w2 ⟨rfl, hb2⟩
    have H2 := Lib.hid (And.intro (H1.out.1.below hb2 H1.out.2.2) (step_below H1.out.2.1 hb2))
    clear hb2 HM H1
    go_wp2_with (first
      | (refine wpList_store_as rfl _ _ _ rfl w.heap.size CR rfl rfl 75 Z H2.out.1 HI.out HO.out.2.1 HO.out.1 ?_))
    intro w3 hrow3 hoth3 hg3 hsz3
    have hb3 : Below w.heap.size w w3 := step_grow H2.out.2 hg3 (Nat.le_refl _)
    go_wp2_with fail
    refine bodyPost_ret (v := .agg CR.toArray) ?_ rfl ⟨rfl, hb3⟩
    exact results_row_one (P := Tryz.prog) rfl _ w3 w.heap.size 75 _ (0, 0) _ rfl hrow3 Tryz.underlying75 rfl HI2.out
end Go.Proofs.YtmebdnblobobnaaGreatDoor
