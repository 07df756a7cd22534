/- The walk of the law RecordFull: a sector takes as many records as it has pages for; one more is refused, and changes nothing. -/
import Derived.Test.YtolpiklhnafnbaaWRecordRows
namespace Go.Proofs.Ytolpiklhnafnbaa
set_option maxRecDepth 100000
open Go.RowKit Wd Fm

set_option maxHeartbeats 2000000 in
theorem recordFull_walk (n0 : Int) (w : World) (_hn : (Lit.int .i64 n0).wf = true) :
    Calls Try.prog 7 #[.int .i64 n0] w fun e w' => e = .returned (.bool true) ∧ Below w.heap.size w w' := by
  obtain ⟨k, hk⟩ : ∃ k : Nat, n0 % 200 = k := ⟨(n0 % 200).toNat, by omega⟩
  have hk8 : k < 200 := by omega
  have hmk := fun W => make_bytes W k (by omega)
  have hpz := pagesZ_nat k (by omega)
  obtain ⟨q, hq⟩ : ∃ q, pagesN k = q := ⟨_, rfl⟩
  have hq1 := pagesN_pos k
  have hq2 := pagesN_hi k
  rw [hq] at hpz hq1 hq2
  have hq14 : q ≤ 14 := by omega
  obtain ⟨M, hM⟩ : ∃ M, 64 / q = M := ⟨_, rfl⟩
  obtain ⟨Z, hZ⟩ : ∃ Z : List UInt8, List.replicate k 0 = Z := ⟨_, rfl⟩
  have hZl : Z.length = k := by rw [← hZ, List.length_replicate]
  have hM1 : M * q ≤ 64 := by rw [← hM]; exact Nat.div_mul_le_self 64 q
  have hM2 : 64 < M * q + q := by
    have h := Nat.div_add_mod 64 q
    have h2 := Nat.mod_lt 64 (show 0 < q by omega)
    rw [hM, Nat.mul_comm] at h
    omega
  have hM64 : M ≤ 64 := by rw [← hM]; exact Nat.div_le_self 64 q
  have hdiv : (64 : Int).tdiv (q : Int) = (M : Int) := by
    rw [← hM, Int.natCast_ediv, Int.tdiv_eq_ediv_of_nonneg (by decide)]
    rfl
  have HH := Lib.hid (And.intro hk (And.intro hpz (And.intro hq (And.intro hZl (And.intro hM1 (And.intro hM2 hZ))))))
  have hms := fun W => made_shows W k (by omega)
  rw [hZ] at hmk hms
  have HMS := Lib.hid hms
  clear hk hpz hq hZl hM1 hM2 hM hq2 hZ hms
  go_enter Try.func7, Try.ntmps7
  go_wp2_with fail
  (with_reducible refine (known5_any _).mono ?_)
  rintro _ w1 ⟨rfl, hb⟩
  have HB := Lib.hid hb
  clear hb
  go_wp2_with fail
  (with_reducible refine (within5_any _ 200 _ (by decide) (by decide)).mono ?_)
  rintro _ w3 ⟨rfl, rfl⟩
  rw [HH.out.1]
  go_wp2_with fail
  (with_reducible refine (new_any _).mono ?_)
  rintro _ w2 ⟨rfl, hf2, hb2⟩
  obtain ⟨g, hg⟩ : ∃ g, w1.heap.size = g := ⟨_, rfl⟩
  rw [hg] at hf2 ⊢
  have H2 := Lib.hid (And.intro hf2 (And.intro (step_below HB.out hb2) (show w.heap.size ≤ g by have := HB.out.size; omega)))
  clear hf2 hb2 hg
  go_wp2_with fail
  (with_reducible refine (pages_any _ _).mono ?_)
  rintro _ w3 ⟨rfl, rfl⟩
  rw [HH.out.2.1]
  go_wp2_with fail
  go_loopw [5] (fun i wr => ∃ j : Nat, j ≤ M ∧ i = .int .i64 j ∧ Hid (∃ m, Fl wr g m ∧ Calm m ∧ Good (m.page (2 * 1024) 1024) (List.replicate j Z) (j * q) ∧ Below w.heap.size w wr)) (fun i _ => M - (intOf i).toNat)
  case atStart => exact ⟨0, by omega, rfl, Lib.hid ⟨_, H2.out.1, calm_new, by rw [Nat.zero_mul]; exact good_fresh 2 (by omega), H2.out.2.1⟩⟩
  case round =>
    obtain ⟨j, hj, rfl, HJ⟩ := hrel
    obtain ⟨m, hf, hc, hg, hb⟩ := HJ.out
    clear HJ
    obtain ⟨_, _, hqk, hZl, hM1, hM2, hZ⟩ := HH.out
    by_cases hlt : j < M
    · have hji : (j : Int) < (M : Int) := by omega
      have hjq : j * q + q ≤ 64 := by
        have h1 : (j + 1) * q ≤ M * q := Nat.mul_le_mul_right q hlt
        rw [Nat.add_mul, Nat.one_mul] at h1
        omega
      obtain ⟨m', ha, hc', _, hg', _⟩ := append_good hc (by omega) hg Z (by omega) (by rw [hZl, hqk]; exact hjq)
      have hg2 : Good (m'.page (2 * 1024) 1024) (List.replicate (j + 1) Z) ((j + 1) * q) := by
        have e1 : List.replicate j Z ++ [Z] = List.replicate (j + 1) Z := (List.replicate_succ' ..).symm
        have e2 : j * q + pagesN Z.length = (j + 1) * q := by rw [hZl, hqk, Nat.add_mul, Nat.one_mul]
        rw [e1, e2] at hg'
        exact hg'
      have b3 := below_new (Below.refl wr.heap.size wr) (.cells (bc Z).toArray 5)
      have HAP := Lib.hid (append_any g m 2 _ k k _ _ (hf.below b3) (HMS.out wr) (by omega))
      rw [show ((2 : Nat) : Int) = 2 from rfl] at ha
      rw [ha] at HAP
      have HN := Lib.hid (And.intro hc' (And.intro hg2 (step_below hb b3)))
      clear hf hc hg hb hqk hZl hM1 hM2 hZ ha hc' hg' hg2 b3 hjq
      go_wp2_with fail
      (with_reducible refine HAP.out.mono ?_)
      rintro _ w4 ⟨rfl, hf4, hg4⟩
      have hb4 := step_grow HN.out.2.2 hg4 H2.out.2.2
      have HE := Lib.hid (And.intro hf4 (And.intro HN.out.1 (And.intro HN.out.2.1 hb4)))
      clear hf4 hg4 hb4 HAP HN
      go_wp2
      go_roundw
      case rel => exact ⟨j + 1, by omega, by go_num, Lib.hid ⟨m', HE.out⟩⟩
      case measure => simp [intOf]; omega
    · have hjM : j = M := by omega
      subst hjM
      have hji : ¬ (j : Int) < (j : Int) := by omega
      have ha := append_full (by omega) hg Z (by omega) (by rw [hZl, hqk]; exact hM2)
      rw [show ((2 : Nat) : Int) = 2 from rfl] at ha
      obtain ⟨F, hF⟩ : ∃ F, j * q = F := ⟨_, rfl⟩
      rw [hF] at hM1 hg
      have hmul : (j : Int) * (q : Int) = (F : Int) := by rw [← hF, Int.natCast_mul]
      have HO := Lib.hid (ops_any g m wr hf)
      have b3 := below_new (Below.refl wr.heap.size wr) (.cells (bc Z).toArray 5)
      have HAP := Lib.hid (append_any g m 2 _ k k _ _ (hf.below b3) (HMS.out wr) (by omega))
      rw [ha] at HAP
      have HN := Lib.hid (And.intro hg (step_below hb b3))
      clear hf hc hg hb hqk hZl hM2 hZ ha b3 hF
      go_wp2_with fail
      (with_reducible refine HO.out.mono ?_)
      rintro _ w4 ⟨rfl, rfl⟩
      go_wp2_with fail
      (with_reducible refine HAP.out.mono ?_)
      rintro _ w4 ⟨rfl, hf4, hg4⟩
      have hb4 := step_grow HN.out.2 hg4 H2.out.2.2
      have HL := Lib.hid (load_good g m 2 _ F w4 hf4 (by omega) HN.out.1)
      rw [show ((2 : Nat) : Int) = 2 from rfl, List.length_replicate] at HL
      have HE := Lib.hid (And.intro hf4 hb4)
      clear hf4 hg4 hb4 HAP HO
      go_wp2_with fail
      (with_reducible refine HL.out.mono ?_)
      rintro _ w5 ⟨A, cap, ps, rfl, _, _, hb⟩
      have HO := Lib.hid (ops_any g m w5 (HE.out.1.below hb))
      have HE2 := Lib.hid (step_below HE.out.2 hb)
      clear hb HL
      go_wp2_with fail
      (with_reducible refine HO.out.mono ?_)
      rintro _ w6 ⟨rfl, rfl⟩
      clear HO
      go_wp2_with fail
      (with_reducible refine (pages_any _ _).mono ?_)
      rintro _ w6 ⟨rfl, rfl⟩
      rw [HH.out.2.1]
      go_wp2
      go_ret
      exact ⟨rfl, HE2.out⟩
end Go.Proofs.Ytolpiklhnafnbaa
