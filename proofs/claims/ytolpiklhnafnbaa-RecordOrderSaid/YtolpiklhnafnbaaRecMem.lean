/- What appending does to a memory's sectors, as plain lists. Nothing here speaks of one program. -/
import Derived.Test.YtolpiklhnafnbaaRecMath
namespace Go.Proofs.Ytolpiklhnafnbaa
set_option maxRecDepth 100000
open Go.RowKit Wd Fm

theorem lay_pad (B b : List UInt8) (o : Nat) (hb : b.length ≤ 16) (ho : o + 16 ≤ B.length) (h : ∀ i, i < 16 → B.getD (o + i) 0 = 255) : lay B o (padded b) = lay B o b := by
  have hp := padded_len b hb
  have l1 := lay_len B o (padded b) (by omega)
  have l2 := lay_len B o b (by omega)
  apply ext_getD (by rw [l1, l2])
  intro i hi
  rw [lay_at _ _ _ (by omega), lay_at _ _ _ (by omega), hp]
  by_cases h1 : o ≤ i ∧ i < o + 16
  · rw [if_pos h1, padded_at b (i - o) (by omega)]
    by_cases h2 : i < o + b.length
    · rw [if_pos (by omega), if_pos ⟨h1.1, h2⟩]
    · rw [if_neg (by omega), if_neg (by omega)]
      have := h (i - o) (by omega)
      rw [show o + (i - o) = i by omega] at this
      exact this.symm
  · rw [if_neg h1, if_neg (by omega)]
theorem lay_lay (B x : List UInt8) (o : Nat) (h : o + x.length ≤ B.length) : lay (lay B o (x.take 16)) (o + 16) (x.drop 16) = lay B o x := by
  rcases Nat.lt_or_ge 16 x.length with h16 | h16
  · have t1 : (x.take 16).length = 16 := by rw [List.length_take]; omega
    have t2 : (x.drop 16).length = x.length - 16 := List.length_drop
    have l1 := lay_len B o (x.take 16) (by omega)
    have l2 := lay_len (lay B o (x.take 16)) (o + 16) (x.drop 16) (by omega)
    have l3 := lay_len B o x h
    apply ext_getD (by omega)
    intro i hi
    rw [lay_at _ _ _ (by omega), lay_at _ _ _ (by omega), lay_at _ _ _ h, t1, t2]
    by_cases h1 : o + 16 ≤ i ∧ i < o + 16 + (x.length - 16)
    · rw [if_pos h1, if_pos (by omega)]
      simp only [List.getD_eq_getElem?_getD, List.getElem?_drop]
      rw [show 16 + (i - (o + 16)) = i - o by omega]
    · rw [if_neg h1]
      by_cases h2 : o ≤ i ∧ i < o + 16
      · rw [if_pos h2, if_pos (by omega)]
        simp only [List.getD_eq_getElem?_getD]
        rw [List.getElem?_take, if_pos (by omega)]
      · rw [if_neg h2, if_neg (by omega)]
  · rw [List.drop_eq_nil_of_le h16, List.take_of_length_le h16, lay_nil]

/-- A memory whose power does not go. -/
structure Calm (m : Mem) : Prop where
  size : m.B.length = 6144
  on : m.dead = false
  left : m.left = 0
theorem calm_new : Calm Mem.fresh := ⟨fresh_len, rfl, rfl⟩

theorem progX_blank : ∀ (k : Nat) (x : List UInt8) (m : Mem) (s p : Nat), x.length ≤ k → s < 6 → p * 16 + x.length ≤ 1024 → m.B.length = 6144 → m.dead = false → m.left = 0 →
    (∀ i, p * 16 ≤ i → i < 1024 → m.B.getD (s * 1024 + i) 0 = 255) → ∃ o, progX k m s p x = (0, ⟨lay m.B (s * 1024 + p * 16) x, false, o, 0, m.mask⟩)
  | 0, x, m, s, p, hk, _, _, _, hd, hl, _ => by
    have : x = [] := List.eq_nil_of_length_eq_zero (by omega)
    subst this
    refine ⟨m.ops, ?_⟩
    rw [lay_nil]
    obtain ⟨B, d, o, l, mk⟩ := m
    simp only at hd hl
    subst hd hl
    rfl
  | k + 1, x, m, s, p, hk, hs, hp, hz, hd, hl, hb => by
    by_cases hx : x = []
    · subst hx
      refine ⟨m.ops, ?_⟩
      rw [lay_nil]
      obtain ⟨B, d, o, l, mk⟩ := m
      simp only at hd hl
      subst hd hl
      rfl
    · have hx0 : 0 < x.length := List.length_pos_iff.2 hx
      have ht : (x.take 16).length ≤ 16 := by rw [List.length_take]; omega
      have h1 := program_blank (m := m) (s := s) (p := p) (b := x.take 16) hd hs (by omega) ht hl (fun i hi => by rw [Nat.add_assoc]; exact hb (p * 16 + i) (by omega) (by omega))
      rw [lay_pad _ _ _ ht (by omega) (fun i hi => by rw [Nat.add_assoc]; exact hb (p * 16 + i) (by omega) (by omega))] at h1
      have hlen : (lay m.B (s * 1024 + p * 16) (x.take 16)).length = 6144 := by rw [lay_len _ _ _ (by omega), hz]
      have hrest : ∀ i, (p + 1) * 16 ≤ i → i < 1024 → (lay m.B (s * 1024 + p * 16) (x.take 16)).getD (s * 1024 + i) 0 = 255 := by
        intro i hi hi2
        rw [lay_at _ _ _ (by omega), if_neg (by omega)]
        exact hb i (by omega) hi2
      have hstep : progX (k + 1) m s p x = progX k ⟨lay m.B (s * 1024 + p * 16) (x.take 16), m.dead, wrap64 (m.ops + 1), 0, m.mask⟩ s ((p + 1 : Nat) : Int) (x.drop 16) := by
        conv => lhs; unfold progX
        rw [if_neg hx, h1, if_pos rfl]
        rfl
      rw [hstep]
      rcases Nat.lt_or_ge 16 x.length with h16 | h16
      · obtain ⟨o, ho⟩ := progX_blank k (x.drop 16) ⟨lay m.B (s * 1024 + p * 16) (x.take 16), m.dead, wrap64 (m.ops + 1), 0, m.mask⟩ s (p + 1) (by rw [List.length_drop]; omega) hs (by rw [List.length_drop]; omega) hlen hd rfl hrest
        refine ⟨o, ?_⟩
        rw [ho]
        simp only
        rw [show s * 1024 + (p + 1) * 16 = s * 1024 + p * 16 + 16 by omega, lay_lay _ _ _ (by omega)]
      · rw [List.drop_eq_nil_of_le h16, List.take_of_length_le h16, hd]
        refine ⟨wrap64 (m.ops + 1), ?_⟩
        cases k with
        | zero => rfl
        | succ k => rfl

theorem readM_nat (m : Mem) (s : Nat) (hs : s < 6) : readM m s = m.page (s * 1024) 1024 := by
  unfold readM placeOf
  rw [if_pos (by unfold isSector; omega)]
  simp
theorem page_in (m m' : Mem) (s o : Nat) (x : List UInt8) (hm : m'.B = lay m.B (s * 1024 + o) x) (hz : m.B.length = 6144) (hs : s < 6) (ho : o + x.length ≤ 1024) : m'.page (s * 1024) 1024 = lay (m.page (s * 1024) 1024) o x := by
  have hl : m'.B.length = 6144 := by rw [hm, lay_len _ _ _ (by omega), hz]
  have p1 : (m.page (s * 1024) 1024).length = 1024 := page_len _ _ _ (by omega)
  have p2 : (m'.page (s * 1024) 1024).length = 1024 := page_len _ _ _ (by omega)
  apply ext_getD (by rw [p2, lay_len _ _ _ (by omega), p1])
  intro i hi
  rw [page_at _ _ _ _ (by omega), hm, lay_at _ _ _ (by omega), lay_at _ _ _ (by omega)]
  by_cases h1 : o ≤ i ∧ i < o + x.length
  · rw [if_pos (by omega), if_pos h1, show s * 1024 + i - (s * 1024 + o) = i - o by omega]
  · rw [if_neg (by omega), if_neg h1, page_at _ _ _ _ (by omega)]
theorem page_out (m m' : Mem) (s t o : Nat) (x : List UInt8) (hm : m'.B = lay m.B (s * 1024 + o) x) (hz : m.B.length = 6144) (hs : s < 6) (ht : t < 6) (hne : t ≠ s) (ho : o + x.length ≤ 1024) : m'.page (t * 1024) 1024 = m.page (t * 1024) 1024 := by
  have hl : m'.B.length = 6144 := by rw [hm, lay_len _ _ _ (by omega), hz]
  have p1 : (m.page (t * 1024) 1024).length = 1024 := page_len _ _ _ (by omega)
  have p2 : (m'.page (t * 1024) 1024).length = 1024 := page_len _ _ _ (by omega)
  apply ext_getD (by rw [p2, p1])
  intro i hi
  rw [page_at _ _ _ _ (by omega), hm, lay_at _ _ _ (by omega), if_neg (by omega), page_at _ _ _ _ (by omega)]

/-- A record more, in a sector that has just some records. -/
theorem append_good {m : Mem} {s : Nat} {l : List (List UInt8)} {free : Nat} (hc : Calm m) (hs : s < 6) (hg : Good (m.page (s * 1024) 1024) l free) (x : List UInt8) (hx : x.length ≤ 1018) (hf : free + pagesN x.length ≤ 64) :
    ∃ m', appendM m s x = (0, m') ∧ Calm m' ∧ m'.B = lay m.B (s * 1024 + free * 16) (sealed x) ∧ Good (m'.page (s * 1024) 1024) (l ++ [x]) (free + pagesN x.length) ∧ ∀ t, t < 6 → t ≠ s → m'.page (t * 1024) 1024 = m.page (t * 1024) 1024 := by
  have h1 := pagesN_lo x.length
  have hsl := sealed_len x
  obtain ⟨o, ho⟩ := progX_blank (6 + x.length) (sealed x) m s free (by omega) hs (by omega) hc.size hc.on hc.left (fun i hi hi2 => by
    have := hg.rest i hi hi2
    rw [page_at _ _ _ _ hi2] at this
    exact this)
  have ha : appendM m s x = progX (6 + x.length) m s free (sealed x) := by
    unfold appendM
    rw [readM_nat m s hs, hg.is, if_neg (by omega), if_neg (by unfold isSector; omega), if_neg (by simp only; omega)]
  refine ⟨_, ha.trans ho, ⟨by show (lay m.B (s * 1024 + free * 16) (sealed x)).length = 6144; rw [lay_len _ _ _ (by have := hc.size; omega), hc.size], rfl, rfl⟩, rfl, ?_, ?_⟩
  · rw [page_in m ⟨lay m.B (s * 1024 + free * 16) (sealed x), false, o, 0, m.mask⟩ s (free * 16) (sealed x) rfl hc.size hs (by omega)]
    exact good_next hg x hx hf
  · intro t ht hne
    exact page_out m ⟨lay m.B (s * 1024 + free * 16) (sealed x), false, o, 0, m.mask⟩ s t (free * 16) (sealed x) rfl hc.size hs ht hne (by omega)
theorem good_fresh (s : Nat) (hs : s < 6) : Good (Mem.fresh.page (s * 1024) 1024) [] 0 := by
  have e : Mem.fresh.page (s * 1024) 1024 = List.replicate 1024 255 := by
    have p2 : (Mem.fresh.page (s * 1024) 1024).length = 1024 := page_len _ _ _ (by rw [fresh_len]; omega)
    apply ext_getD (by rw [p2, List.length_replicate])
    intro i hi
    rw [page_at _ _ _ _ (by omega), fresh_at _ (by omega), rep_getD _ _ _ (by omega)]
  rw [e]
  exact good_new
/-- No room for a record: nothing changes. -/
theorem append_full {m : Mem} {s : Nat} {l : List (List UInt8)} {free : Nat} (hs : s < 6) (hg : Good (m.page (s * 1024) 1024) l free) (x : List UInt8) (hx : x.length ≤ 1018) (hf : 64 < free + pagesN x.length) : appendM m s x = (4, m) := by
  unfold appendM
  rw [readM_nat m s hs, hg.is, if_neg (by omega), if_neg (by unfold isSector; omega), if_pos (by simp only; omega)]
end Go.Proofs.Ytolpiklhnafnbaa
