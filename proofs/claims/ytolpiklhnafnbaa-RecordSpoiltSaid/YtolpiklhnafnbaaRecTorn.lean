/- An append at which the power goes, as plain lists: what is loaded behind it. Nothing here speaks of one program. -/
import Derived.Test.YtolpiklhnafnbaaRecMem
namespace Go.Proofs.Ytolpiklhnafnbaa
set_option maxRecDepth 100000
open Go.RowKit Wd Fm

/-- Pages, one behind the other, while the power may go. -/
theorem progX_left : ∀ (k : Nat) (x : List UInt8) (m : Mem) (s p c : Nat), x.length ≤ k → s < 6 → x.length ≤ 16 * c → 16 * c < x.length + 16 → p + c ≤ 64 → m.B.length = 6144 → m.dead = false → 1 ≤ m.left →
    (∀ i, p * 16 ≤ i → i < 1024 → m.B.getD (s * 1024 + i) 0 = 255) →
    ∃ e m2, progX k m s p x = (e, m2) ∧ m2.B.length = 6144 ∧ (∀ i, ¬ (s * 1024 + p * 16 ≤ i ∧ i < s * 1024 + p * 16 + 16 * c) → m2.B.getD i 0 = m.B.getD i 0) ∧ (e = 0 → m2.B = lay m.B (s * 1024 + p * 16) x) ∧
      (2 ≤ m.left → ∀ i, i < 16 → i < x.length → m2.B.getD (s * 1024 + p * 16 + i) 0 = x.getD i 0) ∧ (m.left = 1 → ∀ i, s * 1024 + p * 16 + 16 ≤ i → m2.B.getD i 0 = m.B.getD i 0)
  | 0, x, m, s, p, c, hk, _, _, _, _, hz, _, _, _ => by
    have : x = [] := List.eq_nil_of_length_eq_zero (by omega)
    subst this
    exact ⟨0, m, rfl, hz, fun _ _ => rfl, fun _ => (lay_nil _ _).symm, fun _ i _ h => absurd h (by simp), fun _ _ _ => rfl⟩
  | k + 1, x, m, s, p, c, hk, hs, hc1, hc2, hp, hz, hd, hL, hb => by
    by_cases hx : x = []
    · subst hx
      exact ⟨0, m, rfl, hz, fun _ _ => rfl, fun _ => (lay_nil _ _).symm, fun _ i _ h => absurd h (by simp), fun _ _ _ => rfl⟩
    · have hx0 : 0 < x.length := List.length_pos_iff.2 hx
      have ht : (x.take 16).length ≤ 16 := by rw [List.length_take]; omega
      have hpl := padded_len (x.take 16) ht
      have hset : setsB (m.page (s * 1024 + p * 16) 16) (padded (x.take 16)) = false := by
        apply sets_blank
        intro i hi
        rw [hpl] at hi
        rw [page_at m _ 16 i hi, Nat.add_assoc]
        exact hb (p * 16 + i) (by omega) (by omega)
      have hpr := programM_ok (m := m) (s := s) (p := p) (b := x.take 16) hd hs (by omega) ht hset
      have hun : ∀ q : Int × Mem, programM m s p (x.take 16) = q → progX (k + 1) m s p x = if q.1 = 0 then progX k q.2 s ((p : Int) + 1) (x.drop 16) else q := by
        intro q hq
        conv => lhs; unfold progX
        rw [if_neg hx, hq]
      by_cases h1 : m.left = 1
      · have hw : writeM m (s * 1024 + p * 16) (padded (x.take 16)) = (14, ⟨lay m.B (s * 1024 + p * 16) (mixL (m.page (s * 1024 + p * 16) (padded (x.take 16)).length) (padded (x.take 16)) m.mask), true, wrap64 (m.ops + 1), 0, []⟩) := by
          unfold writeM
          rw [if_pos h1]
        have hml : (mixL (m.page (s * 1024 + p * 16) (padded (x.take 16)).length) (padded (x.take 16)) m.mask).length = 16 := by rw [mixL_len, hpl]
        refine ⟨14, _, (hun _ (hpr.trans hw)).trans (if_neg (show ¬ (14 : Int) = 0 by decide)), ?_, ?_, ?_, ?_, ?_⟩
        · show (lay m.B (s * 1024 + p * 16) _).length = 6144
          rw [lay_len _ _ _ (by omega), hz]
        · intro i hi
          show (lay m.B (s * 1024 + p * 16) _).getD i 0 = _
          rw [lay_at _ _ _ (by omega), if_neg (by omega)]
        · intro h; exact absurd h (by decide)
        · intro h; omega
        · intro _ i hi
          show (lay m.B (s * 1024 + p * 16) _).getD i 0 = _
          rw [lay_at _ _ _ (by omega), if_neg (by omega)]
      · have hw : writeM m (s * 1024 + p * 16) (padded (x.take 16)) = (0, ⟨lay m.B (s * 1024 + p * 16) (padded (x.take 16)), m.dead, wrap64 (m.ops + 1), max (m.left - 1) 0, m.mask⟩) := by
          unfold writeM
          rw [if_neg h1]
        have hlp : lay m.B (s * 1024 + p * 16) (padded (x.take 16)) = lay m.B (s * 1024 + p * 16) (x.take 16) := lay_pad _ _ _ ht (by omega) (fun i hi => by rw [Nat.add_assoc]; exact hb (p * 16 + i) (by omega) (by omega))
        rw [hlp] at hw
        have hlen : (lay m.B (s * 1024 + p * 16) (x.take 16)).length = 6144 := by rw [lay_len _ _ _ (by omega), hz]
        have hrest : ∀ i, (p + 1) * 16 ≤ i → i < 1024 → (lay m.B (s * 1024 + p * 16) (x.take 16)).getD (s * 1024 + i) 0 = 255 := by
          intro i hi hi2
          rw [lay_at _ _ _ (by omega), if_neg (by omega)]
          exact hb i (by omega) hi2
        have hdl : (x.drop 16).length = x.length - 16 := List.length_drop
        obtain ⟨e, m2, hpg, hz2, hout, hok, _, _⟩ := progX_left k (x.drop 16) ⟨lay m.B (s * 1024 + p * 16) (x.take 16), m.dead, wrap64 (m.ops + 1), max (m.left - 1) 0, m.mask⟩ s (p + 1) (c - 1) (by omega) hs (by omega) (by omega) (by omega) hlen hd (by show 1 ≤ max (m.left - 1) 0; omega) hrest
        have hin : ∀ i, i < s * 1024 + (p + 1) * 16 → m2.B.getD i 0 = (lay m.B (s * 1024 + p * 16) (x.take 16)).getD i 0 := fun i hi => hout i (by omega)
        refine ⟨e, m2, (hun _ (hpr.trans hw)).trans ((if_pos rfl).trans hpg), hz2, ?_, ?_, ?_, ?_⟩
        · intro i hi
          by_cases h2 : s * 1024 + (p + 1) * 16 ≤ i ∧ i < s * 1024 + (p + 1) * 16 + 16 * (c - 1)
          · omega
          · rw [hout i h2]
            show (lay m.B (s * 1024 + p * 16) (x.take 16)).getD i 0 = _
            rw [lay_at _ _ _ (by omega), if_neg (by omega)]
        · intro h
          rw [hok h]
          show lay (lay m.B (s * 1024 + p * 16) (x.take 16)) (s * 1024 + (p + 1) * 16) (x.drop 16) = _
          rw [show s * 1024 + (p + 1) * 16 = s * 1024 + p * 16 + 16 by omega, lay_lay _ _ _ (by omega)]
        · intro _ i hi hi2
          rw [hin _ (by omega), lay_at _ _ _ (by omega), if_pos ⟨by omega, by rw [List.length_take]; omega⟩, show s * 1024 + p * 16 + i - (s * 1024 + p * 16) = i by omega]
          simp only [List.getD_eq_getElem?_getD]
          rw [List.getElem?_take, if_pos hi]
        · intro h; exact absurd h h1

theorem take_eq {a b : List UInt8} {k : Nat} (hl : a.length = b.length) (h : ∀ i, i < k → a.getD i 0 = b.getD i 0) : a.take k = b.take k := by
  apply ext_getD (by rw [List.length_take, List.length_take, hl])
  intro i hi
  rw [List.length_take] at hi
  have := h i (by omega)
  simp only [List.getD_eq_getElem?_getD] at this ⊢
  rw [List.getElem?_take, if_pos (by omega), List.getElem?_take, if_pos (by omega)]
  exact this
/-- At most one record more is told, of a sector that was turned behind its records. -/
theorem torn_load {b b' : List UInt8} {l : List (List UInt8)} {free q : Nat} (h : Good b l free) (hl : b'.length = 1024) (hf : free < 64) (hpre : ∀ i, i < free * 16 → b'.getD i 0 = b.getD i 0) (hrest : ∀ i, (free + q) * 16 ≤ i → i < 1024 → b'.getD i 0 = 255)
    (hq : (opened (b'.drop (free * 16))).2.2 = 0 → q ≤ pagesN (opened (b'.drop (free * 16))).1.length) : (loadM b').1 = l ∨ ∃ y, (loadM b').1 = l ++ [y] := by
  have ht : b'.take (free * 16) = b.take (free * 16) := take_eq (by rw [hl, h.len]) hpre
  have hb := h.is
  unfold loadM at hb ⊢
  rw [load_pre h.len hl free ht 64 0 (by omega) (by omega) (by rw [hb]), hb]
  simp only
  by_cases hbl : blankL (pageL b' free) = true
  · rw [load_blank _ hf hbl]
    left
    simp
  · have hbl2 : blankL (pageL b' free) = false := by simpa using hbl
    by_cases he : (opened (b'.drop (free * 16))).2.2 = 0
    · rw [load_rec hl hf hbl2 he]
      have h1 := hq he
      right
      refine ⟨(opened (b'.drop (free * 16))).1, ?_⟩
      have hlast : (loadFrom b' (free + pagesN (opened (b'.drop (free * 16))).1.length)).1 = [] := by
        by_cases h64 : 64 ≤ free + pagesN (opened (b'.drop (free * 16))).1.length
        · rw [load_end _ h64]
        · rw [load_blank _ (by omega) (blankL_all fun i hi => by
            rw [pageL_len hl (by omega)] at hi
            rw [pageL_at _ _ _ hi]
            exact hrest _ (by omega) (by omega))]
      rw [hlast]
    · rw [load_bad _ hf hbl2 he]
      left
      simp
/-- What is loaded behind an append at which the power goes, or does not. -/
theorem torn_model {m : Mem} {s : Nat} {l : List (List UInt8)} {free : Nat} (hc : Calm m) (hs : s < 6) (hg : Good (m.page (s * 1024) 1024) l free) (b : List UInt8) (hb : b.length ≤ 1018) (hf : free + pagesN b.length ≤ 64) (n : Int) (hn : 1 ≤ n) (mask : List UInt8) :
    ∃ e m2, appendM (stopM m n mask) s b = (e, m2) ∧ ((loadM (readM (startM m2) s)).1 = l ∨ ∃ y, (loadM (readM (startM m2) s)).1 = l ++ [y]) ∧ (e = 0 → (loadM (readM (startM m2) s)).1 = l ++ [b]) := by
  have hst : stopM m n mask = { m with left := n, mask := mask.take 1024 } := by unfold stopM; rw [if_pos (by omega)]
  have h1 := pagesN_lo b.length
  have h2 := pagesN_hi b.length
  have h3 := pagesN_pos b.length
  have hsl := sealed_len b
  have hblank : ∀ i, free * 16 ≤ i → i < 1024 → m.B.getD (s * 1024 + i) 0 = 255 := fun i hi hi2 => by
    have := hg.rest i hi hi2
    rw [page_at _ _ _ _ hi2] at this
    exact this
  obtain ⟨e, m2, hp, hz, hout, hok, hfirst, hone⟩ := progX_left (6 + b.length) (sealed b) { m with left := n, mask := mask.take 1024 } s free (pagesN b.length) (by omega) hs (by omega) (by omega) hf hc.size hc.on hn hblank
  have hrd : readM { m with left := n, mask := mask.take 1024 } (s : Int) = m.page (s * 1024) 1024 := readM_nat _ s hs
  have ha : appendM (stopM m n mask) s b = progX (6 + b.length) { m with left := n, mask := mask.take 1024 } s free (sealed b) := by
    rw [hst]
    unfold appendM
    rw [hrd, hg.is, if_neg (by omega), if_neg (by unfold isSector; omega), if_neg (by simp only; omega)]
  have hrd2 : readM (startM m2) (s : Int) = m2.page (s * 1024) 1024 := readM_nat _ s hs
  have hp2 : (m2.page (s * 1024) 1024).length = 1024 := page_len _ _ _ (by omega)
  refine ⟨e, m2, ha.trans hp, ?_, ?_⟩
  · rw [hrd2]
    have hat : ∀ i, i < 1024 → (m2.page (s * 1024) 1024).getD i 0 = m2.B.getD (s * 1024 + i) 0 := fun i hi => page_at _ _ _ _ hi
    have hat0 : ∀ i, i < 1024 → (m.page (s * 1024) 1024).getD i 0 = m.B.getD (s * 1024 + i) 0 := fun i hi => page_at _ _ _ _ hi
    have hpre : ∀ i, i < free * 16 → (m2.page (s * 1024) 1024).getD i 0 = (m.page (s * 1024) 1024).getD i 0 := fun i hi => by
      rw [hat i (by omega), hat0 i (by omega)]
      exact hout _ (by omega)
    by_cases hn1 : n = 1
    · refine torn_load (q := 1) hg hp2 (by omega) hpre (fun i hi hi2 => ?_) (fun _ => pagesN_pos _)
      rw [hat i hi2, hone hn1 _ (by omega)]
      exact hblank i (by omega) hi2
    · refine torn_load (q := pagesN b.length) hg hp2 (by omega) hpre (fun i hi hi2 => ?_) (fun he => ?_)
      · rw [hat i hi2, hout _ (by omega)]
        exact hblank i (by omega) hi2
      · obtain ⟨_, hlen, _⟩ := opened_le _ he
        rw [hlen]
        have h0 : ∀ i, i < 2 → ((m2.page (s * 1024) 1024).drop (free * 16)).getD i 0 = (sealed b).getD i 0 := fun i hi => by
          have := hfirst (by show 2 ≤ n; omega) i (by omega) (by omega)
          simp only [List.getD_eq_getElem?_getD, List.getElem?_drop] at this ⊢
          have h5 := hat (free * 16 + i) (by omega)
          simp only [List.getD_eq_getElem?_getD] at h5
          rw [h5, ← this]
          congr 2
          omega
        have htk : ((m2.page (s * 1024) 1024).drop (free * 16)).take 2 = (sealed b).take 2 := by
          apply ext_getD (by rw [List.length_take, List.length_take, List.length_drop]; omega)
          intro i hi
          rw [List.length_take] at hi
          have := h0 i (by omega)
          simp only [List.getD_eq_getElem?_getD] at this ⊢
          rw [List.getElem?_take, if_pos (by omega), List.getElem?_take, if_pos (by omega)]
          exact this
        have hle : Nm.leNat ((sealed b).take 2) = b.length := by
          have h6 := opened_sealed2 b [] (by omega)
          rw [List.append_nil] at h6
          obtain ⟨_, h7, _⟩ := opened_le (sealed b) (by rw [h6])
          rw [h6] at h7
          exact h7.symm
        rw [htk, hle]
        exact Nat.le_refl _
  · intro he
    rw [hrd2]
    have hB := hok he
    have hpg := page_in m m2 s (free * 16) (sealed b) hB hc.size hs (by omega)
    rw [hpg, (good_next hg b hb hf).is]
end Go.Proofs.Ytolpiklhnafnbaa
