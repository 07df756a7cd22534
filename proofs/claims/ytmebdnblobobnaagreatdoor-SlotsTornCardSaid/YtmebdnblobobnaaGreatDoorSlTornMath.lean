/- Chapter 6, plain: Mark, the power going somewhere in it: other sectors stay; if it answers that all is well the entry is there. -/
import Derived.Test.YtmebdnblobobnaaGreatDoorSlTurn
namespace Go.Proofs.YtmebdnblobobnaaGreatDoor
set_option maxRecDepth 100000
open Go.RowKit _root_.Go.Proofs.YtmebdnblobobnaaGreatDoor.Wd _root_.Go.Proofs.YtmebdnblobobnaaGreatDoor.Nm _root_.Go.Proofs.YtmebdnblobobnaaGreatDoor.Cm _root_.Go.Proofs.YtmebdnblobobnaaGreatDoor.Fm _root_.Go.Proofs.YtmebdnblobobnaaGreatDoor.Sm

theorem programM_four (m : Mem) (s p : Int) (b : List UInt8) : (programM m s p b).1 ≠ 4 := by
  unfold programM writeM
  repeat' split
  all_goals simp
theorem progX_four : ∀ (k : Nat) (m : Mem) (s p : Int) (x : List UInt8), (progX k m s p x).1 ≠ 4
  | 0, m, s, p, x => by unfold progX; simp
  | k + 1, m, s, p, x => by
    unfold progX
    split
    · simp
    · split
      · exact progX_four k _ _ _ _
      · exact programM_four m s p _
theorem stopM_pos (m : Mem) (n : Int) (mask : List UInt8) (hn : 1 ≤ n) : stopM m n mask = { m with left := n, mask := mask.take 1024 } := by unfold stopM; rw [if_pos (by omega)]
theorem torn_append {m : Mem} {s : Nat} {l : List (List UInt8)} {free : Nat} (hc : Calm m) (hs : s < 6) (hg : Good (m.page (s * 1024) 1024) l free) (b : List UInt8) (hb : b.length ≤ 1018) (hf : free + pagesN b.length ≤ 64) (n : Int) (hn : 1 ≤ n) (mask : List UInt8) :
    ∃ e m2, appendM (stopM m n mask) s b = (e, m2) ∧ e ≠ 4 ∧ m2.B.length = 6144 ∧ (∀ t, t < 6 → t ≠ s → m2.page (t * 1024) 1024 = m.page (t * 1024) 1024) ∧ (e = 0 → Good (m2.page (s * 1024) 1024) (l ++ [b]) (free + pagesN b.length)) := by
  have hst := stopM_pos m n mask hn
  have h1 := pagesN_lo b.length
  have h2 := pagesN_hi b.length
  have h3 := pagesN_pos b.length
  have hsl := sealed_len b
  have hblank : ∀ i, free * 16 ≤ i → i < 1024 → m.B.getD (s * 1024 + i) 0 = 255 := fun i hi hi2 => by
    have := hg.rest i hi hi2
    rw [page_at _ _ _ _ hi2] at this
    exact this
  obtain ⟨e, m2, hp, hz, hout, hok, _, _⟩ := progX_left (6 + b.length) (sealed b) { m with left := n, mask := mask.take 1024 } s free (pagesN b.length) (by omega) hs (by omega) (by omega) hf hc.size hc.on hn hblank
  have hrd : readM { m with left := n, mask := mask.take 1024 } (s : Int) = m.page (s * 1024) 1024 := readM_nat _ s hs
  have ha : appendM (stopM m n mask) s b = progX (6 + b.length) { m with left := n, mask := mask.take 1024 } s free (sealed b) := by
    rw [hst]
    unfold appendM
    rw [hrd, hg.is, if_neg (by omega), if_neg (by unfold isSector; omega), if_neg (by simp only; omega)]
  refine ⟨e, m2, ha.trans hp, ?_, hz, fun t ht hne => ?_, fun he => ?_⟩
  · have := progX_four (6 + b.length) { m with left := n, mask := mask.take 1024 } s free (sealed b)
    rw [hp] at this
    exact this
  · apply ext_getD (by rw [page_len _ _ _ (by rw [hz]; omega), page_len _ _ _ (by rw [hc.size]; omega)])
    intro i hi
    rw [page_len _ _ _ (by rw [hz]; omega)] at hi
    rw [page_at _ _ _ _ hi, page_at _ _ _ _ hi]
    exact hout _ (by omega)
  · rw [page_in m m2 s (free * 16) (sealed b) (hok he) hc.size hs (by omega)]
    exact good_next hg b hb hf
theorem calm_start (m : Mem) (h : m.B.length = 6144) : Calm (startM m) := ⟨h, rfl, rfl⟩
theorem Two.torn0 {m : Mem} {l0 l1 : List Ent} (h : Two m l0 l1) (e : Ent) (hi : e.inside) (hl : e.sum.length = 32) (hn : l0.length < 16) (n : Int) (h1 : 1 ≤ n) (mask : List UInt8) :
    ∃ r m', appendM (stopM m n mask) 0 e.bytes = (r, m') ∧ r ≠ 4 ∧ Same2 m (startM m') ∧ (r = 0 → Two (startM m') (l0 ++ [e]) l1) := by
  have hp := pages48 e hl
  obtain ⟨r, m', h1, h2, h3, h4, h5⟩ := torn_append (s := 0) h.calm (by decide) h.g0 e.bytes (by rw [ent_bytes_len e hl]; decide) (by rw [hp]; omega) n h1 mask
  refine ⟨r, m', h1, h2, fun t ht ht2 => h4 t ht2 (by omega), fun hr => ⟨calm_start m' h3, ?_, ?_, ?_, h.i1⟩⟩
  · rw [List.map_append, List.length_append]
    have := h5 hr
    rw [hp] at this
    exact this
  · show Good (m'.page (1 * 1024) 1024) _ _
    rw [h4 1 (by decide) (by decide)]; exact h.g1
  · intro y hy
    rcases List.mem_append.1 hy with hy | hy
    · exact h.i0 y hy
    · simp only [List.mem_singleton] at hy; rw [hy]; exact ⟨hi, hl⟩
theorem Two.torn1 {m : Mem} {l0 l1 : List Ent} (h : Two m l0 l1) (e : Ent) (hi : e.inside) (hl : e.sum.length = 32) (hn : l1.length < 16) (n : Int) (h1 : 1 ≤ n) (mask : List UInt8) :
    ∃ r m', appendM (stopM m n mask) 1 e.bytes = (r, m') ∧ r ≠ 4 ∧ Same2 m (startM m') ∧ (r = 0 → Two (startM m') l0 (l1 ++ [e])) := by
  have hp := pages48 e hl
  obtain ⟨r, m', h1, h2, h3, h4, h5⟩ := torn_append (s := 1) h.calm (by decide) h.g1 e.bytes (by rw [ent_bytes_len e hl]; decide) (by rw [hp]; omega) n h1 mask
  refine ⟨r, m', h1, h2, fun t ht ht2 => h4 t ht2 (by omega), fun hr => ⟨calm_start m' h3, ?_, ?_, h.i0, ?_⟩⟩
  · show Good (m'.page (0 * 1024) 1024) _ _
    rw [h4 0 (by decide) (by decide)]; exact h.g0
  · rw [List.map_append, List.length_append]
    have := h5 hr
    rw [hp] at this
    exact this
  · intro y hy
    rcases List.mem_append.1 hy with hy | hy
    · exact h.i1 y hy
    · simp only [List.mem_singleton] at hy; rw [hy]; exact ⟨hi, hl⟩
/-- An erase, the power going in it, or later. -/
theorem torn_erase {m : Mem} {s : Nat} (hc : Calm m) (hs : s < 6) (n : Int) (h1 : 1 ≤ n) (mask : List UInt8) :
    (∃ m', eraseM (stopM m n mask) s = (14, m') ∧ ∀ t, t < 6 → t ≠ s → m'.page (t * 1024) 1024 = m.page (t * 1024) 1024) ∨
    (2 ≤ n ∧ eraseM (stopM m n mask) s = (0, stopM (eraseM m s).2 (n - 1) mask)) := by
  have hl : (List.replicate 1024 (255 : UInt8)).length = 1024 := List.length_replicate
  rw [stopM_pos m n mask h1]
  have e := eraseM_ok (m := { m with left := n, mask := mask.take 1024 }) s hc.on hs
  have e0 := eraseM_ok s hc.on hs
  rw [writeM_go _ _ hc.left] at e0
  rw [e, e0]
  by_cases hn : n = 1
  · left
    unfold writeM
    rw [if_pos hn]
    refine ⟨_, rfl, fun t ht hne => ?_⟩
    have hml : (mixL (Mem.page { m with left := n, mask := mask.take 1024 } (s * 1024) (List.replicate 1024 (255 : UInt8)).length) (List.replicate 1024 255) (mask.take 1024)).length = 1024 := by rw [mixL_len, hl]
    exact page_out m _ s t 0 _ (by rw [Nat.add_zero]) hc.size hs ht hne (by rw [hml]; omega)
  · right
    refine ⟨by omega, ?_⟩
    unfold writeM
    rw [if_neg hn, stopM_pos _ (n - 1) mask (by omega)]
    show (0, (⟨_, _, _, max (n - 1) 0, _⟩ : Mem)) = (0, ⟨_, _, _, n - 1, _⟩)
    rw [Int.max_eq_left (by omega)]
theorem latest_stop (m : Mem) (n : Int) (mask : List UInt8) (h1 : 1 ≤ n) : latest (stopM m n mask) = latest m := by
  rw [stopM_pos m n mask h1]
  rfl
theorem Two.tornmark0 {m : Mem} {l0 l1 : List Ent} (h : Two m l0 l1) (q : Int) (hq : latest m = (q, 0)) (hq0 : 0 ≤ q) (hq1 : q < 1073741824) (slot : Int) (hs0 : 0 ≤ slot) (hs2 : slot ≤ 2) (sum : List UInt8) (hl : sum.length = 32) (hn : l0.length ≤ 16) (n : Int) (h1 : 1 ≤ n) (mask : List UInt8) :
    ∃ r m', markM (stopM m n mask) slot sum = (r, m') ∧ Same2 m (startM m') ∧ (r = 0 → if l0.length < 16 then Two (startM m') (l0 ++ [⟨q + 1, slot, sum⟩]) l1 else Two (startM m') l0 [⟨q + 1, slot, sum⟩]) := by
  have hin : Ent.inside ⟨q + 1, slot, sum⟩ := ⟨by simp only; omega, by simp only; omega, hs0, hs2⟩
  rw [markM_eq (by omega) ((latest_stop m n mask h1).trans hq), if_neg (by omega)]
  by_cases h16 : l0.length < 16
  · obtain ⟨r, m', h1, h2, h3, h4⟩ := h.torn0 ⟨q + 1, slot, sum⟩ hin hl h16 n h1 mask
    rw [h1, if_pos h2]
    exact ⟨r, m', rfl, h3, fun hr => by rw [if_pos h16]; exact h4 hr⟩
  · have hf : appendM (stopM m n mask) 0 (Ent.bytes ⟨q + 1, slot, sum⟩) = (4, stopM m n mask) := append_full (s := 0) (by decide) (by rw [stopM_pos m n mask h1]; exact h.g0) _ (by rw [ent_bytes_len _ hl]; decide) (by rw [pages48 _ hl]; omega)
    obtain ⟨m1, e1, t1, s1⟩ := h.wipe1
    rw [hf, if_neg (show ¬ ((4 : Int) ≠ 4) by decide)]
    unfold renewM
    simp only
    rw [show (1 : Int) - 0 = ((1 : Nat) : Int) from rfl]
    rcases torn_erase (s := 1) h.calm (by decide) n h1 mask with ⟨m', h5, h6⟩ | ⟨h5, h6⟩
    · rw [h5, if_pos (show (14 : Int) ≠ 0 by decide)]
      exact ⟨14, m', rfl, fun t ht ht2 => h6 t ht2 (by omega), fun hr => absurd hr (by decide)⟩
    · rw [show (1 : Int) = ((1 : Nat) : Int) from rfl] at e1
      rw [e1] at h6
      rw [h6, if_neg (show ¬ ((0 : Int) ≠ 0) by decide)]
      obtain ⟨r, m', h7, _, h8, h9⟩ := t1.torn1 ⟨q + 1, slot, sum⟩ hin hl (by decide) (n - 1) (by omega) mask
      exact ⟨r, m', h7, s1.trans h8, fun hr => by rw [if_neg h16]; exact h9 hr⟩
theorem Two.tornmark1 {m : Mem} {l0 l1 : List Ent} (h : Two m l0 l1) (q : Int) (hq : latest m = (q, 1)) (hq0 : 0 ≤ q) (hq1 : q < 1073741824) (slot : Int) (hs0 : 0 ≤ slot) (hs2 : slot ≤ 2) (sum : List UInt8) (hl : sum.length = 32) (hn : l1.length ≤ 16) (n : Int) (h1 : 1 ≤ n) (mask : List UInt8) :
    ∃ r m', markM (stopM m n mask) slot sum = (r, m') ∧ Same2 m (startM m') ∧ (r = 0 → if l1.length < 16 then Two (startM m') l0 (l1 ++ [⟨q + 1, slot, sum⟩]) else Two (startM m') [⟨q + 1, slot, sum⟩] l1) := by
  have hin : Ent.inside ⟨q + 1, slot, sum⟩ := ⟨by simp only; omega, by simp only; omega, hs0, hs2⟩
  rw [markM_eq (by omega) ((latest_stop m n mask h1).trans hq), if_neg (by omega)]
  by_cases h16 : l1.length < 16
  · obtain ⟨r, m', h1, h2, h3, h4⟩ := h.torn1 ⟨q + 1, slot, sum⟩ hin hl h16 n h1 mask
    rw [h1, if_pos h2]
    exact ⟨r, m', rfl, h3, fun hr => by rw [if_pos h16]; exact h4 hr⟩
  · have hf : appendM (stopM m n mask) 1 (Ent.bytes ⟨q + 1, slot, sum⟩) = (4, stopM m n mask) := append_full (s := 1) (by decide) (by rw [stopM_pos m n mask h1]; exact h.g1) _ (by rw [ent_bytes_len _ hl]; decide) (by rw [pages48 _ hl]; omega)
    obtain ⟨m1, e1, t1, s1⟩ := h.wipe0
    rw [hf, if_neg (show ¬ ((4 : Int) ≠ 4) by decide)]
    unfold renewM
    simp only
    rw [show (1 : Int) - 1 = ((0 : Nat) : Int) from rfl]
    rcases torn_erase (s := 0) h.calm (by decide) n h1 mask with ⟨m', h5, h6⟩ | ⟨h5, h6⟩
    · rw [h5, if_pos (show (14 : Int) ≠ 0 by decide)]
      exact ⟨14, m', rfl, fun t ht ht2 => h6 t ht2 (by omega), fun hr => absurd hr (by decide)⟩
    · rw [show (0 : Int) = ((0 : Nat) : Int) from rfl] at e1
      have e1' : eraseM m ((0 : Nat) : Int) = (0, m1) := e1
      rw [e1'] at h6
      rw [h6, if_neg (show ¬ ((0 : Int) ≠ 0) by decide)]
      obtain ⟨r, m', h7, _, h8, h9⟩ := t1.torn0 ⟨q + 1, slot, sum⟩ hin hl (by decide) (n - 1) (by omega) mask
      exact ⟨r, m', h7, s1.trans h8, fun hr => by rw [if_neg h16]; exact h9 hr⟩
/-- One more is marked, the power going somewhere in it, or not. -/
theorem Marked.torn {m : Mem} {E : Nat → Ent} {t n : Nat} (h : Marked m E t n) (hk : 16 * t + n < 1000000) (slot : Int) (hs0 : 0 ≤ slot) (hs2 : slot ≤ 2) (sum : List UInt8) (hl : sum.length = 32) (hE : E (16 * t + n + 1) = ⟨((16 * t + n : Nat) : Int) + 1, slot, sum⟩) (N : Int) (hN : 1 ≤ N) (mask : List UInt8) :
    ∃ r m', markM (stopM m N mask) slot sum = (r, m') ∧ Same2 m (startM m') ∧ (r = 0 → ∃ t' n', Marked (startM m') E t' n' ∧ 16 * t' + n' = 16 * t + n + 1 ∧ 1 ≤ n') := by
  have hlat := h.lat
  have h2 := h.two
  have hle := h.le
  have hseq : ∀ i, 1 ≤ i → i ≤ 16 * t + n + 1 → (E i).seq = i := fun i h1 h3 => by
    by_cases hi : i = 16 * t + n + 1
    · rw [hi, hE]; simp only; omega
    · exact h.seq i h1 (by omega)
  by_cases he : t % 2 = 0
  · rw [if_pos he] at h2
    rw [he] at hlat
    obtain ⟨r, m', h3, h4, h5⟩ := h2.tornmark0 _ hlat (by omega) (by omega) slot hs0 hs2 sum hl (by rw [blockE_len]; exact hle) N hN mask
    refine ⟨r, m', h3, h4, fun hr => ?_⟩
    replace h5 := h5 hr
    rw [blockE_len] at h5
    by_cases hn : n < 16
    · rw [if_pos hn, ← hE, ← blockE_next] at h5
      exact ⟨t, n + 1, ⟨by omega, by omega, by rw [if_pos he]; exact h5, fun i h1 h6 => hseq i h1 (by omega)⟩, by omega, by omega⟩
    · rw [if_neg hn, ← hE] at h5
      have h16 : n = 16 := by omega
      subst h16
      refine ⟨t + 1, 1, ⟨by omega, by omega, ?_, fun i h1 h6 => hseq i h1 (by omega)⟩, by omega, by omega⟩
      rw [if_neg (by omega)]
      have e1 : elder E (t + 1) = blockE E t 16 := by unfold elder; rw [if_neg (by omega)]; rfl
      have e2 : blockE E (t + 1) 1 = [E (16 * t + 16 + 1)] := by show [E (16 * (t + 1) + 0 + 1)] = _; congr 2
      rw [e1, e2]
      exact h5
  · rw [if_neg he] at h2
    have h1 : t % 2 = 1 := by omega
    rw [h1] at hlat
    obtain ⟨r, m', h3, h4, h5⟩ := h2.tornmark1 _ hlat (by omega) (by omega) slot hs0 hs2 sum hl (by rw [blockE_len]; exact hle) N hN mask
    refine ⟨r, m', h3, h4, fun hr => ?_⟩
    replace h5 := h5 hr
    rw [blockE_len] at h5
    by_cases hn : n < 16
    · rw [if_pos hn, ← hE, ← blockE_next] at h5
      exact ⟨t, n + 1, ⟨by omega, by omega, by rw [if_neg he]; exact h5, fun i h1 h6 => hseq i h1 (by omega)⟩, by omega, by omega⟩
    · rw [if_neg hn, ← hE] at h5
      have h16 : n = 16 := by omega
      subst h16
      refine ⟨t + 1, 1, ⟨by omega, by omega, ?_, fun i h1 h6 => hseq i h1 (by omega)⟩, by omega, by omega⟩
      rw [if_pos (by omega)]
      have e1 : elder E (t + 1) = blockE E t 16 := by unfold elder; rw [if_neg (by omega)]; rfl
      have e2 : blockE E (t + 1) 1 = [E (16 * t + 16 + 1)] := by show [E (16 * (t + 1) + 0 + 1)] = _; congr 2
      rw [e1, e2]
      exact h5
/-- What is booted of slot 0 has the sum of its image. -/
theorem boot_sum {m : Mem} {a : List UInt8} (hi : imgM m 0 = some a) (h : (bootM m).1.slot = 0) : (bootM m).1.sum = sha a := by
  by_cases hF : (plM m).filter (fun p => countsM m p.e) = []
  · rw [bootM_none m hF] at h
    exact absurd h (by decide)
  · have hb := bootM_some m hF
    have hmem := newest_mem _ hF
    have hc := (List.mem_filter.1 hmem).2
    rw [hb] at h ⊢
    simp only at h hc ⊢
    obtain ⟨b, h1, h2⟩ := counts_img (by exact hc) (by omega)
    rw [h, hi] at h1
    injection h1 with h1
    rw [← h2, h1]
/-- The law's own: the entries that it marks, and what is booted. -/
def EntT (S : List UInt8) (i : Nat) : Ent := ⟨i, if i % 2 = 1 then 0 else 2, S⟩
theorem tornE {m : Mem} {a : List UInt8} {t n : Nat} {E : Nat → Ent} (h : Marked m E t n) (h1 : 1 ≤ n) (hi : imgM m 0 = some a) (hs : (E (16 * t + n)).sum = sha a) (hsl : (E (16 * t + n)).slot = 0 ∨ (E (16 * t + n)).slot = 2) :
    (bootM m).1 = E (16 * t + n) := by
  have hc : countsM m (E (16 * t + n)) = true := by
    rcases hsl with h0 | h2
    · exact counts_yes 0 (by decide) a hi h0 hs
    · unfold countsM; rw [decide_eq_true h2]; rfl
  rw [h.boot h1 hc]
/-- Behind a Mark at which the power went, or did not. -/
theorem torn_boot {m : Mem} {a : List UInt8} {t n : Nat} {E : Nat → Ent} (h : Marked m E t n) (hk : 16 * t + n < 1000000) (h1 : 1 ≤ n) (hi : imgM m 0 = some a) (hs : (E (16 * t + n)).sum = sha a) (hsl : (E (16 * t + n)).slot = 0 ∨ (E (16 * t + n)).slot = 2)
    (N : Int) (hN : 1 ≤ N) (mask : List UInt8) : ∃ r m', markM (stopM m N mask) 0 (sha a) = (r, m') ∧ (bootM m).1.seq = ((16 * t + n : Nat) : Int) ∧ ((bootM (startM m')).1.slot = 0 → (bootM (startM m')).1.sum = sha a) ∧
      (r = 0 → (bootM (startM m')).1 = ⟨((16 * t + n : Nat) : Int) + 1, 0, sha a⟩) := by
  obtain ⟨E', hE0, hE1⟩ : ∃ E' : Nat → Ent, (∀ i, i ≤ 16 * t + n → E' i = E i) ∧ E' (16 * t + n + 1) = ⟨((16 * t + n : Nat) : Int) + 1, 0, sha a⟩ :=
    ⟨fun i => if i ≤ 16 * t + n then E i else ⟨((16 * t + n : Nat) : Int) + 1, 0, sha a⟩, fun i hi => if_pos hi, if_neg (by omega)⟩
  have hM : Marked m E' t n := by
    have hb : blockE E' t n = blockE E t n := by
      unfold blockE
      exact List.map_congr_left (fun i hi => hE0 _ (by have := List.mem_range.1 hi; omega))
    have hel : elder E' t = elder E t := by
      unfold elder
      by_cases h0 : t = 0
      · rw [if_pos h0, if_pos h0]
      · rw [if_neg h0, if_neg h0]
        unfold blockE
        exact List.map_congr_left (fun i hi => hE0 _ (by have := List.mem_range.1 hi; omega))
    exact ⟨h.le, h.start, by rw [hb, hel]; exact h.two, fun i h1 h2 => by rw [hE0 i h2]; exact h.seq i h1 h2⟩
  obtain ⟨r, m', h2, h3, h4⟩ := hM.torn hk 0 (by decide) (by decide) (sha a) (sha_len a) hE1 N hN mask
  have hi' : imgM (startM m') 0 = some a := (h3.img 0 (by decide)).trans hi
  refine ⟨r, m', h2, ?_, boot_sum hi', fun hr => ?_⟩
  · rw [tornE h h1 hi hs hsl, h.seq _ (by omega) (by omega)]
  · obtain ⟨t', n', h5, h6, h7⟩ := h4 hr
    rw [tornE h5 h7 hi' (by rw [h6, hE1]) (by rw [h6, hE1]; exact .inl rfl), h6, hE1]
end Go.Proofs.YtmebdnblobobnaaGreatDoor
