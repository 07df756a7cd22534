/- The walk of the law SlotsTurns: entries fill one sector, then the other one, in turns; of both at most one is written over at a time. -/
import Derived.Test.YtnbahpcajnjieaaDoorSlBlanks
namespace Go.Proofs.YtnbahpcajnjieaaDoor
set_option maxRecDepth 100000
open Go.RowKit _root_.Go.Proofs.YtnbahpcajnjieaaDoor.Wd _root_.Go.Proofs.YtnbahpcajnjieaaDoor.Nm _root_.Go.Proofs.YtnbahpcajnjieaaDoor.Cm _root_.Go.Proofs.YtnbahpcajnjieaaDoor.Fm _root_.Go.Proofs.YtnbahpcajnjieaaDoor.Sm

def turnE (i : Nat) : Ent := ⟨i, 2, oneB (UInt8.ofNat i)⟩
/-- How many pages of both sectors are blank. -/
theorem Marked.counts {m : Mem} {t c : Nat} (h : Marked m turnE t c) (hk : 16 * t + c ≤ 1000) :
    cntTo (readM m 0) 64 = (if t % 2 = 0 then 64 - 4 * c else if t = 0 then 64 else 0) ∧ cntTo (readM m 1) 64 = (if t % 2 = 0 then (if t = 0 then 64 else 0) else 64 - 4 * c) ∧ (readM m 0).length = 1024 ∧ (readM m 1).length = 1024 := by
  have r0 : readM m 0 = m.page (0 * 1024) 1024 := readM_nat m 0 (by decide)
  have r1 : readM m 1 = m.page (1 * 1024) 1024 := readM_nat m 1 (by decide)
  have hpl : ∀ i, 1 ≤ i → i ≤ 1000 → plainE (turnE i) := fun i h1 h2 => ⟨⟨by show (1 : Int) ≤ (i : Int); omega, by show (i : Int) ≤ 1073741824; omega, by show (0 : Int) ≤ 2; decide, by show (2 : Int) ≤ 2; decide⟩, rfl, _, rfl⟩
  have hb : ∀ e ∈ blockE turnE t c, plainE e := fun e he => by
    obtain ⟨i, h1, h2, rfl⟩ := blockE_mem he
    exact hpl i (by omega) (by omega)
  have he : ∀ e ∈ elder turnE t, plainE e := fun e he => by
    obtain ⟨i, h1, h2, rfl⟩ := elder_mem he
    exact hpl i h1 (by omega)
  have hel : (elder turnE t).length = if t = 0 then 0 else 16 := by
    unfold elder
    split
    · rfl
    · rw [blockE_len]
  have h2 := h.two
  rw [r0, r1]
  by_cases ht : t % 2 = 0
  · rw [if_pos ht] at h2
    rw [if_pos ht, if_pos ht, good_count h2.g0 hb, good_count h2.g1 he, blockE_len, hel]
    refine ⟨rfl, ?_, h2.g0.len, h2.g1.len⟩
    split <;> rfl
  · rw [if_neg ht] at h2
    rw [if_neg ht, if_neg ht, good_count h2.g0 he, good_count h2.g1 hb, blockE_len, hel]
    refine ⟨?_, rfl, h2.g0.len, h2.g1.len⟩
    split <;> rfl

set_option maxHeartbeats 4000000 in
theorem slotsTurns_walk (n0 : Int) (w : World) (hT : Tables w) (_hn : (Lit.int .i64 n0).wf = true) :
    Calls Tryd.prog 7 #[.int .i64 n0] w fun e w' => e = .returned (.bool true) ∧ Below w.heap.size w w' := by
  obtain ⟨N, hN⟩ : ∃ N : Nat, n0 % 70 = N := ⟨(n0 % 70).toNat, by omega⟩
  have hN70 : N < 70 := by omega
  have HT := Lib.hid hT
  have HN := Lib.hid hN
  clear hT hN _hn
  go_enter Tryd.func7, Tryd.ntmps7
  go_wp2_with fail
  (with_reducible refine (known6_any w HT.out).mono ?_)
  rintro _ w1 ⟨rfl, hb1⟩
  have HB1 := Lib.hid hb1
  clear hb1
  go_wp2_with fail
  (with_reducible refine (within6_any _ 70 _ (by decide) (by decide)).mono ?_)
  rintro _ w2 ⟨rfl, rfl⟩
  rw [HN.out]
  go_wp2_with fail
  (with_reducible refine (new_any _).mono ?_)
  rintro _ w2 ⟨rfl, hf2, hb2⟩
  obtain ⟨x, hx⟩ : ∃ x, w1.heap.size = x := ⟨_, rfl⟩
  rw [hx] at hf2 ⊢
  have HX := Lib.hid (show w.heap.size ≤ x by have := HB1.out.size; omega)
  have HJ0 : Hid (∃ m t c, Fl w2 x m ∧ Marked m turnE t c ∧ 16 * t + c = 0 ∧ Below w.heap.size w w2) := Lib.hid ⟨_, 0, 0, hf2, marked_fresh _, rfl, step_below HB1.out hb2⟩
  clear hf2 hb2 hx HB1
  go_wp2_with fail
  go_loopw [4] (fun i wr => ∃ r : Nat, r ≤ N ∧ i = .int .i64 ((r : Int) + 1) ∧ Hid (∃ m t c, Fl wr x m ∧ Marked m turnE t c ∧ 16 * t + c = r ∧ Below w.heap.size w wr)) (fun i _ => N + 1 - (intOf i).toNat)
  case atStart => exact ⟨0, by omega, rfl, HJ0⟩
  case round =>
    clear HJ0
    obtain ⟨r, hr, rfl, HJ⟩ := hrel
    obtain ⟨m, t, c, hf, hM, hk3, hb⟩ := HJ.out
    clear HJ
    by_cases hlt : r < N
    · have hri : (r : Int) + 1 ≤ (N : Int) := by omega
      obtain ⟨ch, hch⟩ : ∃ ch, UInt8.ofNat (r + 1) = ch := ⟨_, rfl⟩
      have hcn : (ch.toNat : Int) = (r : Int) + 1 := by
        rw [← hch]
        simp
        omega
      have hEr : turnE (r + 1) = ⟨((r : Nat) : Int) + 1, 2, oneB ch⟩ := by rw [← hch]; rfl
      obtain ⟨m', t', c', a3, s3, M3, k3, p3⟩ := hM.mark (by omega) 2 (by decide) (by decide) (oneB ch) (oneB_len ch) (by rw [hk3]; exact hEr)
      rw [hk3] at k3
      have hbm : bootM m' = (turnE (16 * t' + c'), []) := by rw [M3.boot p3 (by rw [k3, hEr]; rfl), if_pos (by rw [k3, hEr])]
      rw [k3, hEr] at hbm
      have hbu := oneB_built ch ((r : Int) + 1) hcn
      have hne := hash_neq2 (oneB ch) (oneB ch) (oneB_len ch) (oneB_len ch)
      rw [decide_eq_true rfl] at hne
      obtain ⟨CE, hCE⟩ : ∃ C, Ent.cells ⟨((r : Nat) : Int) + 1, 2, oneB ch⟩ = C := ⟨_, rfl⟩
      obtain ⟨BS, hBS⟩ : ∃ B, bc (oneB ch) = B := ⟨_, rfl⟩
      have hr2 : ∀ j v, BS[j]? = some v → CE[2 + j]? = some v := fun j v hv => by rw [← hCE, Nat.add_comm 2 j]; rw [← hBS] at hv; exact hv
      have hcl : CE.length = 34 := by rw [← hCE]; exact ent_len _ (oneB_len ch)
      have hco : ∀ v ∈ CE, v.oneCell' = true := by rw [← hCE]; exact sent_one _
      have hc0 : CE[0]? = some (.int .i64 (((r : Nat) : Int) + 1)) := by rw [← hCE]; rfl
      have hbl : BS.length = 32 := by rw [← hBS, bc_len]; exact oneB_len ch
      rw [hBS] at hbu hne
      obtain ⟨Z, hzl, hz0, hz⟩ := sent_zero
      have HZ := Lib.hid (And.intro hz (show Z.length = CE.length by rw [hzl, hcl]))
      have HIE := Lib.hid (sent_size CE hcl)
      have HIB := Lib.hid (hash_size BS hbl)
      have HBU := Lib.hid hbu
      have HNE := Lib.hid hne
      have HMD := Lib.hid (And.intro hbm (And.intro hCE (And.intro hco (And.intro hc0 (And.intro hr2 (And.intro M3 (And.intro k3 hb)))))))
      have HMK := Lib.hid (mark_any x m 2 (oneB ch) wr hf (oneB_len ch) (by decide) (by decide))
      rw [a3, hBS] at HMK
      have hwu : IntKind.u8.wrap ((r : Int) + 1) = (r : Int) + 1 := by rw [IntKind.wrap_u8]; omega
      clear hf hM hk3 hb hch hcn hEr a3 s3 M3 k3 p3 hbm hbu hne hCE hBS hr2 hcl hco hc0 hbl hz hzl hz0
      go_wp2_with (first
        | (refine wpList_build_is rfl 31 #[(0, .tmp 22)] rfl BS.toArray ?_ ?_; (focus (go_simp; exact HBU.out))))
      refine HMK.out.mono ?_
      rintro _ wa ⟨rfl, hfa, hga⟩
      have HBA := Lib.hid (step_grow HMD.out.2.2.2.2.2.2.2 hga HX.out)
      have HBO := Lib.hid (boot_any x m' wa hfa (HT.out.below HBA.out))
      have HFA := Lib.hid hfa
      clear hfa hga HMK
      go_wp2_with fail
      refine HBO.out.mono ?_
      rintro _ wb ⟨A8, n8, c8, rfl, _, hb8, _⟩
      rw [HMD.out.1]
      simp only
      rw [HMD.out.2.1]
      have H8 := Lib.hid hb8
      clear hb8 HBO
      go_wp2_with (refine wpList_alloc_row rfl 36 rfl Z HZ.out.1 ?_)
      intro wc hrowc hbc hszc
      go_wp2_with (refine wpList_store_as rfl _ _ _ rfl wb.heap.size CE rfl rfl 36 Z hrowc HIE.out HZ.out.2 HMD.out.2.2.1 ?_)
      intro wd hrowd hothd hgd hszd
      have hbd : Below wb.heap.size wb wd := step_grow hbc hgd (Nat.le_refl _)
      have hbad : Below wa.heap.size wa wd := step_below H8.out hbd
      have HJ1 := Lib.hid (show ∃ m t c, Fl wd x m ∧ Marked m turnE t c ∧ 16 * t + c = r + 1 ∧ Below w.heap.size w wd from ⟨m', t', c', HFA.out.below hbad, HMD.out.2.2.2.2.2.1, HMD.out.2.2.2.2.2.2.1, step_below HBA.out hbad⟩)
      obtain ⟨E9, hE9⟩ : ∃ E9, wb.heap.size = E9 := ⟨_, rfl⟩
      rw [hE9] at hrowd ⊢
      have k0 := hrowd.cell HMD.out.2.2.2.1
      have HRB := Lib.hid (hrowd.range 2 BS HMD.out.2.2.2.2.1)
      have hne := HNE.out
      clear hrowc hbc hszc hrowd hothd hgd hszd hbd hbad hE9 HBA HFA H8
      go_wp2_with (first
        | (refine wpList_load_mid_g rfl 31 (.tmp 36) rfl E9 2 rfl BS _ HRB.out Tryd.underlying31 rfl HIB.out ?_)
        | (refine wpList_build_is_g rfl 31 #[(0, .tmp 39)] rfl BS.toArray ?_ ?_; (focus (go_simp; exact HBU.out))))
      go_roundw
      case rel => exact ⟨r + 1, by omega, by go_num, HJ1⟩
      case measure => simp [intOf]; omega
    · have hrN : r = N := by omega
      subst hrN
      obtain ⟨q0, q1, q2, q3⟩ := hM.counts (by omega)
      have hcle := hM.le
      have hst := hM.start
      obtain ⟨F, hF⟩ : ∃ F, cntTo (readM m 0) 64 = F := ⟨_, rfl⟩
      obtain ⟨S, hS⟩ : ∃ S, cntTo (readM m 1) 64 = S := ⟨_, rfl⟩
      rw [hF] at q0
      rw [hS] at q1
      have hri : ¬ (r : Int) + 1 ≤ (r : Int) := by omega
      have HR0 := Lib.hid (read_any x m 0 wr hf)
      have HQ := Lib.hid (And.intro hF (And.intro hS (And.intro q2 (And.intro q3 hf))))
      have HB := Lib.hid hb
      have hcase : ((r : Int) ≤ 16 ∧ (F : Int) = 64 - 4 * (r : Int) ∧ (S : Int) = 64) ∨
          (¬ (r : Int) ≤ 16 ∧ ((r : Int) - 17) % 16 = (c : Int) - 1 ∧ ((r : Int) - 17) / 16 % 2 = 0 ∧ F = 0 ∧ (S : Int) = 64 - 4 * (c : Int) ∧ 1 ≤ c) ∨
          (¬ (r : Int) ≤ 16 ∧ ((r : Int) - 17) % 16 = (c : Int) - 1 ∧ ((r : Int) - 17) / 16 % 2 = 1 ∧ S = 0 ∧ (F : Int) = 64 - 4 * (c : Int) ∧ 1 ≤ c) := by
        by_cases ht0 : t = 0
        · subst ht0
          simp at q0 q1
          left
          omega
        · right
          have hc1 : 1 ≤ c := by omega
          by_cases ht : t % 2 = 0
          · right
            rw [if_pos ht] at q0
            rw [if_pos ht, if_neg ht0] at q1
            omega
          · left
            rw [if_neg ht, if_neg ht0] at q0
            rw [if_neg ht] at q1
            omega
      clear hf hM hk3 hb q0 q1 q2 q3 hst hF hS
      rcases hcase with ⟨g1, g2, g3⟩ | ⟨g1, g2, g3, rfl, g4, g5⟩ | ⟨g1, g2, g3, rfl, g4, g5⟩
      all_goals (
        have HG2 := Lib.hid g2
        clear g2
        (try (have HG3 := Lib.hid g3; clear g3))
        (try (have HG4 := Lib.hid g4; clear g4))
        go_wp2_with fail
        refine HR0.out.mono ?_
        rintro _ wa ⟨A1, n1, c1, rfl, ho1, hb1⟩
        have hl1 : n1 = 1024 := by have := ho1.1; rw [bc_len, HQ.out.2.2.1] at this; omega
        subst hl1
        have HBL := Lib.hid (blanks_any A1 c1 _ wa (Shows.of_own ho1))
        rw [HQ.out.1] at HBL
        have HR1 := Lib.hid (read_any x m 1 wa (HQ.out.2.2.2.2.below hb1))
        have HBA := Lib.hid (step_below HB.out hb1)
        clear ho1 hb1 HR0
        go_wp2_with fail
        refine HBL.out.mono ?_
        rintro _ wa2 ⟨rfl, rfl⟩
        go_wp2_with fail
        refine HR1.out.mono ?_
        rintro _ wb ⟨A2, n2, c2, rfl, ho2, hb2⟩
        have hl2 : n2 = 1024 := by have := ho2.1; rw [bc_len, HQ.out.2.2.2.1] at this; omega
        subst hl2
        have HBL2 := Lib.hid (blanks_any A2 c2 _ wb (Shows.of_own ho2))
        rw [HQ.out.2.1] at HBL2
        have HBB := Lib.hid (step_below HBA.out hb2)
        clear ho2 hb2 HR1 HBL
        go_wp2_with fail
        refine HBL2.out.mono ?_
        rintro _ wb2 ⟨rfl, rfl⟩
        have e2 := HG2.out
        (try have e3 := HG3.out)
        (try have e4 := HG4.out)
        have hrr : (r : Int) < 70 := by omega
        go_wp2_with fail
        all_goals (go_ret; refine ⟨?_, HBB.out⟩; first | rfl | (congr 2; simp; done) | (congr 2; simp; omega)))
end Go.Proofs.YtnbahpcajnjieaaDoor
