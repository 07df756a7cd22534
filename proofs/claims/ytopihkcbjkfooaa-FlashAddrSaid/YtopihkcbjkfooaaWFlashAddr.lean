/- The walk of the law FlashAddr: sectors and pages that are none, and bytes that are too many, are refused, and change nothing. -/
import Derived.Test.YtopihkcbjkfooaaLaw4Base
import Derived.Test.YtopihkcbjkfooaaMake
namespace Go.Proofs.Ytopihkcbjkfooaa
open Go.RowKit Wd Fm

theorem erase_go {m : Mem} (s : Nat) (hd : m.dead = false) (hs : s < 6) (h0 : m.left = 0) : eraseM m s = (0, ⟨lay m.B (s * 1024) (List.replicate 1024 255), m.dead, wrap64 (m.ops + 1), 0, m.mask⟩) := by
  rw [eraseM_ok s hd hs, writeM_go _ _ h0]
theorem addr_cases (s p : Int) (b : List UInt8) : ∃ e1 m1 e2 m2, programM Mem.fresh s p b = (e1, m1) ∧ eraseM m1 s = (e2, m2) ∧
    ((s < 0 ∧ e1 = 12 ∧ e2 = 12 ∧ m2.ops = 0) ∨ (0 ≤ s ∧ 5 < s ∧ e1 = 12 ∧ e2 = 12 ∧ m2.ops = 0) ∨ (0 ≤ s ∧ s ≤ 5 ∧ p < 0 ∧ e1 = 12 ∧ e2 = 0 ∧ m2.ops = 1) ∨ (0 ≤ s ∧ s ≤ 5 ∧ 0 ≤ p ∧ 63 < p ∧ e1 = 12 ∧ e2 = 0 ∧ m2.ops = 1) ∨
      (0 ≤ s ∧ s ≤ 5 ∧ 0 ≤ p ∧ p ≤ 63 ∧ 16 < b.length ∧ e1 = 5 ∧ e2 = 0 ∧ m2.ops = 1) ∨ (0 ≤ s ∧ s ≤ 5 ∧ 0 ≤ p ∧ p ≤ 63 ∧ b.length ≤ 16 ∧ e1 = 0 ∧ e2 = 0 ∧ m2.ops = 2)) := by
  have w1 : wrap64 (Mem.fresh.ops + 1) = 1 := by decide +kernel
  have w2 : wrap64 ((1 : Int) + 1) = 2 := by decide +kernel
  by_cases hs : isSector s
  · obtain ⟨t, rfl⟩ : ∃ t : Nat, s = t := ⟨s.toNat, by have := hs.1; omega⟩
    have ht : t < 6 := by have := hs.2; omega
    have he := erase_go (m := Mem.fresh) t rfl ht rfl
    by_cases hp : isPage t p
    · obtain ⟨u, rfl⟩ : ∃ t : Nat, p = t := ⟨p.toNat, by have := hp.2.1; omega⟩
      have hu : u < 64 := by have := hp.2.2; omega
      by_cases hb : 16 < b.length
      · exact ⟨5, Mem.fresh, 0, _, programM_long rfl hp hb, he, .inr (.inr (.inr (.inr (.inl ⟨by omega, by omega, by omega, by omega, hb, rfl, rfl, w1⟩))))⟩
      · have h1 := program_blank (m := Mem.fresh) (s := t) (p := u) (b := b) rfl ht hu (by omega) rfl (fun i hi => fresh_at _ (by omega))
        refine ⟨0, _, 0, _, h1, erase_go t rfl ht rfl, .inr (.inr (.inr (.inr (.inr ⟨by omega, by omega, by omega, by omega, by omega, rfl, rfl, ?_⟩))))⟩
        show wrap64 (wrap64 (Mem.fresh.ops + 1) + 1) = 2
        rw [w1, w2]
    · refine ⟨12, Mem.fresh, 0, _, programM_addr b rfl hp, he, ?_⟩
      by_cases h0 : p < 0
      · exact .inr (.inr (.inl ⟨by omega, by omega, h0, rfl, rfl, w1⟩))
      · exact .inr (.inr (.inr (.inl ⟨by omega, by omega, by omega, by unfold isPage isSector at hp; omega, rfl, rfl, w1⟩)))
  · have hp : ¬ isPage s p := fun h => hs h.1
    refine ⟨12, Mem.fresh, 12, Mem.fresh, programM_addr b rfl hp, eraseM_addr rfl hs, ?_⟩
    by_cases h0 : s < 0
    · exact .inl ⟨h0, rfl, rfl, rfl⟩
    · exact .inr (.inl ⟨by omega, by unfold isSector at hs; omega, rfl, rfl, rfl⟩)

set_option maxHeartbeats 1000000 in
theorem flashAddr_walk (s p n : Int) (w : World) (_hs : (Lit.int .i64 s).wf = true) (_hp : (Lit.int .i64 p).wf = true) (_hn : (Lit.int .i64 n).wf = true) :
    Calls Try.prog 5 #[.int .i64 s, .int .i64 p, .int .i64 n] w fun e w' => e = .returned (.bool true) ∧ Below w.heap.size w w' := by
  clear _hs _hp _hn
  obtain ⟨N, hN⟩ : ∃ d : Nat, n % 20 = d := ⟨(n % 20).toNat, by omega⟩
  have hN20 : N < 20 := by omega
  have HN := Lib.hid hN
  clear hN
  obtain ⟨L, hL⟩ : ∃ L : List UInt8, List.replicate N 0 = L := ⟨_, rfl⟩
  have hLl : L.length = N := by rw [← hL, List.length_replicate]
  have hmk := fun W => make_bytes W N (by omega)
  rw [hL] at hmk
  have HL := Lib.hid hLl
  clear hL hLl
  go_enter Try.func5, Try.ntmps5
  go_wp2_with fail
  (with_reducible refine (known4_any _).mono ?_)
  rintro _ w1 ⟨rfl, hb1⟩
  have HB1 := Lib.hid hb1
  clear hb1
  go_wp2_with fail
  (with_reducible refine (new_any _).mono ?_)
  rintro _ w2 ⟨rfl, hf, hb⟩
  obtain ⟨g, hg⟩ : ∃ g, w1.heap.size = g := ⟨_, rfl⟩
  rw [hg] at hf ⊢
  have hgw : w.heap.size ≤ g := by have := HB1.out.size; omega
  have H2 := Lib.hid (And.intro hf (And.intro (step_below HB1.out hb) hgw))
  clear hf hb hg hgw
  go_wp2_with fail
  (with_reducible refine (within4_any _ _ _ (by omega) (by omega)).mono ?_)
  rintro _ w3 ⟨rfl, rfl⟩
  rw [HN.out]
  go_wp2_with fail
  obtain ⟨e1, m1, e2, m2, hq1, hq2, hc⟩ := addr_cases s p L
  have hl : Shows (w2.alloc (.cells (bc L).toArray 5)) (w2.alloc (.cells (bc L).toArray 5)).heap.size (some ⟨w2.heap.size, 0, none⟩) N N L := by
    have := lit_shows w2 L (by rw [HL.out]; omega)
    rw [HL.out] at this
    exact this
  have f2 := H2.out.1.below (below_new (Below.refl _ _) (.cells (bc L).toArray 5))
  have b2 := below_new H2.out.2.1 (.cells (bc L).toArray 5)
  (with_reducible refine (program_any g Mem.fresh s p _ _ _ L _ f2 hl (by omega)).mono ?_)
  rintro _ w3 ⟨rfl, hf, hgr⟩
  rw [hq1] at hf ⊢
  have H3 := Lib.hid (And.intro hf (And.intro (step_grow b2 hgr H2.out.2.2) hq2))
  rw [HL.out] at hc
  clear hf hgr f2 b2 hl hq1 hq2 hmk
  rcases hc with ⟨k1, rfl, rfl, ho⟩ | ⟨k1, k2, rfl, rfl, ho⟩ | ⟨k1, k2, k3, rfl, rfl, ho⟩ | ⟨k1, k2, k3, k4, rfl, rfl, ho⟩ | ⟨k1, k2, k3, k4, k5, rfl, rfl, ho⟩ | ⟨k1, k2, k3, k4, k5, rfl, rfl, ho⟩
  all_goals
    have HO := Lib.hid ho
    clear ho
    go_wp2_with fail
    (with_reducible refine (erase_any g m1 s _ H3.out.1).mono ?_)
    rintro _ w4 ⟨rfl, hf, hgr⟩
    rw [H3.out.2.2] at hf ⊢
    have H4 := Lib.hid (And.intro hf (step_grow H3.out.2.1 hgr H2.out.2.2))
    clear hf hgr
    go_wp2_with fail
    (with_reducible refine (ops_any g m2 _ H4.out.1).mono ?_)
    rintro _ w5 ⟨rfl, rfl⟩
    rw [HO.out]
    try (have q5 : decide (s ≤ 5) = false := decide_eq_false (by omega))
    go_wp2
    go_ret
    exact ⟨rfl, H4.out.2⟩
end Go.Proofs.Ytopihkcbjkfooaa
