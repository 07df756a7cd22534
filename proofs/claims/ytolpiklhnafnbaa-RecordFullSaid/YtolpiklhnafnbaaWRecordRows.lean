/- The walk of the law RecordRows: what is too long, a sector that is none, are refused. -/
import Derived.Test.YtolpiklhnafnbaaLaw5Base
import Derived.Test.YtolpiklhnafnbaaMake
namespace Go.Proofs.Ytolpiklhnafnbaa
set_option maxRecDepth 100000
open Go.RowKit Wd Fm

/-- Noughts that were just made. -/
theorem made_shows (W : World) (N : Nat) (hN : N ≤ 100000) : Shows (W.alloc (.cells (bc (List.replicate N 0)).toArray 5)) (W.alloc (.cells (bc (List.replicate N 0)).toArray 5)).heap.size (some ⟨W.heap.size, 0, none⟩) N N (List.replicate N 0) := by
  have h := shows_cells W 5 (0, 0) (List.replicate N 0) (by rw [List.length_replicate]; exact hN)
  rw [List.length_replicate] at h
  have e : (W.alloc (.cells (bc (List.replicate N 0)).toArray 5)).heap.size = W.heap.size + 1 := by simp
  rw [e]
  exact h
/-- What an append to a new memory answers, and how many records there are then. -/
theorem rows_model (s : Int) (n : Nat) (h1 : 1015 ≤ n) (h2 : n ≤ 1022) : ∃ e m, appendM Mem.fresh s (List.replicate n 0) = (e, m) ∧ e = (if 1018 < n then 5 else if isSector s then 0 else 12) ∧ ((loadM (readM m s)).1.length = if 1018 < n then 0 else if isSector s then 1 else 0) := by
  have hl : (List.replicate n (0 : UInt8)).length = n := List.length_replicate
  have hfr : (loadM (readM Mem.fresh s)).1.length = 0 := by
    by_cases hs : isSector s
    · obtain ⟨t, rfl⟩ : ∃ t : Nat, s = t := ⟨s.toNat, by have := hs.1; omega⟩
      rw [good_load (by have := hs.2; omega) (good_fresh t (by have := hs.2; omega))]
      rfl
    · have : readM Mem.fresh s = [] := by unfold readM; rw [if_neg hs]
      rw [this, show loadM [] = ([], 0) from load_blank [] (by omega) rfl]
      rfl
  by_cases h3 : 1018 < n
  · refine ⟨5, Mem.fresh, appendM_long (by rw [hl]; exact h3), by rw [if_pos h3], ?_⟩
    rw [if_pos h3]
    exact hfr
  · by_cases hs : isSector s
    · obtain ⟨t, rfl⟩ : ∃ t : Nat, s = t := ⟨s.toNat, by have := hs.1; omega⟩
      have ht : t < 6 := by have := hs.2; omega
      have hp := pagesN_hi n
      obtain ⟨m', ha, _, _, hg, _⟩ := append_good calm_new ht (good_fresh t ht) (List.replicate n 0) (by rw [hl]; omega) (by rw [hl]; omega)
      refine ⟨0, m', ha, by rw [if_neg h3, if_pos hs], ?_⟩
      rw [if_neg h3, if_pos hs, good_load ht hg]
      rfl
    · refine ⟨12, Mem.fresh, appendM_addr (by rw [hl]; exact h3) hs, by rw [if_neg h3, if_neg hs], ?_⟩
      rw [if_neg h3, if_neg hs]
      exact hfr

set_option maxHeartbeats 2000000 in
theorem recordRows_walk (s n0 : Int) (w : World) (_hs : (Lit.int .i64 s).wf = true) (_hn : (Lit.int .i64 n0).wf = true) :
    Calls Try.prog 10 #[.int .i64 s, .int .i64 n0] w fun e w' => e = .returned (.bool true) ∧ Below w.heap.size w w' := by
  obtain ⟨k, hk⟩ : ∃ k : Nat, n0 % 8 = k := ⟨(n0 % 8).toNat, by omega⟩
  have hk8 : k < 8 := by omega
  obtain ⟨n, hn⟩ : ∃ n : Nat, 1015 + k = n := ⟨_, rfl⟩
  have hn1 : 1015 ≤ n ∧ n ≤ 1022 := by omega
  obtain ⟨e, m1, ha, he, hlen⟩ := rows_model s n hn1.1 hn1.2
  have hmk := fun W => make_bytes W n (by omega)
  have hkn : (1015 : Int) + (k : Int) = (n : Int) := by omega
  rw [← hkn] at hmk
  obtain ⟨hn1, hn2⟩ := hn1
  have HH := Lib.hid (And.intro hk (And.intro ha (And.intro he (And.intro hlen hn))))
  clear hk ha he hlen hn hkn
  go_enter Try.func10, Try.ntmps10
  go_wp2_with fail
  (with_reducible refine (known5_any _).mono ?_)
  rintro _ w1 ⟨rfl, hb⟩
  have HB := Lib.hid hb
  clear hb
  go_wp2_with fail
  (with_reducible refine (new_any _).mono ?_)
  rintro _ w2 ⟨rfl, hf2, hb2⟩
  obtain ⟨g, hg⟩ : ∃ g, w1.heap.size = g := ⟨_, rfl⟩
  rw [hg] at hf2 ⊢
  have H2 := Lib.hid (And.intro hf2 (And.intro (step_below HB.out hb2) (show w.heap.size ≤ g by have := HB.out.size; omega)))
  clear hf2 hb2 hg
  go_wp2_with fail
  (with_reducible refine (within5_any _ 8 _ (by decide) (by decide)).mono ?_)
  rintro _ w3 ⟨rfl, rfl⟩
  rw [HH.out.1]
  have b3 := below_new (Below.refl w2.heap.size w2) (.cells (bc (List.replicate n 0)).toArray 5)
  have HAP := Lib.hid (append_any g Mem.fresh s _ n n _ _ (H2.out.1.below b3) (made_shows w2 n (by omega)) (by omega))
  rw [HH.out.2.1] at HAP
  have H3 := Lib.hid (step_below H2.out.2.1 b3)
  clear b3
  go_wp2_with fail
  (with_reducible refine HAP.out.mono ?_)
  rintro _ w4 ⟨rfl, hf4, hg4⟩
  have hb4 := step_grow H3.out hg4 H2.out.2.2
  try simp only at hf4
  have HL := Lib.hid (load_any g m1 s w4 hf4)
  have H4 := Lib.hid hb4
  obtain ⟨r, hr⟩ : ∃ r, (loadM (readM m1 s)).1.length = r := ⟨_, rfl⟩
  have HR := Lib.hid hr
  have he := HH.out.2.2.1
  have hle := HH.out.2.2.2.1
  rw [hr] at hle
  have hlen1 : ∀ (n : Nat) (base : Nat) (W : World) (A : Option Addr) (cap : Nat) (ps : List Part), OwnParts W base A n cap ps → ps.map (·.l) = (loadM (readM m1 s)).1 → n = r := by
    intro n base W A cap ps ho hl
    rw [← ho.len, ← HR.out, ← hl, List.length_map]
  have HLEN := Lib.hid hlen1
  clear hf4 hg4 hb4 HAP hmk hr hlen1
  by_cases h3 : 1018 < n
  · rw [if_pos h3] at he hle
    have h3i : (1018 : Int) < 1015 + (k : Int) := by have := HH.out.2.2.2.2; omega
    subst he hle
    clear h3
    go_wp2_with fail
    (with_reducible refine HL.out.mono ?_)
    rintro _ w5 ⟨A, c, cap, ps, rfl, ho, hl, hb⟩
    have hc := HLEN.out _ _ _ _ _ _ ho hl
    subst hc
    have HE := Lib.hid (step_below H4.out hb)
    clear ho hl hb HL
    go_wp2
    go_ret
    exact ⟨rfl, HE.out⟩
  · rw [if_neg h3] at he hle
    have h3i : ¬ (1018 : Int) < 1015 + (k : Int) := by have := HH.out.2.2.2.2; omega
    by_cases hs : isSector s
    · rw [if_pos hs] at he hle
      have hs1 : ¬ s < 0 := by have := hs.1; omega
      have hs2 : ¬ 5 < s := by have := hs.2; omega
      subst he hle
      clear h3 hs
      go_wp2_with fail
      (with_reducible refine HL.out.mono ?_)
      rintro _ w5 ⟨A, c, cap, ps, rfl, ho, hl, hb⟩
      have hc := HLEN.out _ _ _ _ _ _ ho hl
      subst hc
      have HE := Lib.hid (step_below H4.out hb)
      clear ho hl hb HL
      go_wp2
      go_ret
      exact ⟨rfl, HE.out⟩
    · rw [if_neg hs] at he hle
      have hor : s < 0 ∨ (0 ≤ s ∧ 5 < s) := by unfold isSector at hs; omega
      subst he hle
      clear h3 hs
      rcases hor with h1 | ⟨h1, h2⟩
      all_goals
        go_wp2_with fail
        (with_reducible refine HL.out.mono ?_)
        rintro _ w5 ⟨A, c, cap, ps, rfl, ho, hl, hb⟩
        have hc := HLEN.out _ _ _ _ _ _ ho hl
        subst hc
        have HE := Lib.hid (step_below H4.out hb)
        clear ho hl hb HL
        go_wp2
        go_ret
        exact ⟨rfl, HE.out⟩
end Go.Proofs.Ytolpiklhnafnbaa
