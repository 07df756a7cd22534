/- Chapter 6, plain: entries that are marked one behind the other in a memory that is calm; what is stored; what is booted then. -/
import Derived.Test.YtmebdnblobobnaaGreatDoorSlMark
namespace Go.Proofs.YtmebdnblobobnaaGreatDoor
set_option maxRecDepth 100000
open Go.RowKit _root_.Go.Proofs.YtmebdnblobobnaaGreatDoor.Wd _root_.Go.Proofs.YtmebdnblobobnaaGreatDoor.Nm _root_.Go.Proofs.YtmebdnblobobnaaGreatDoor.Cm _root_.Go.Proofs.YtmebdnblobobnaaGreatDoor.Fm _root_.Go.Proofs.YtmebdnblobobnaaGreatDoor.Sm

theorem ent_bytes_len (e : Ent) (h : e.sum.length = 32) : e.bytes.length = 48 := by unfold Ent.bytes; simp [leb_len, h]
theorem erase_good {m : Mem} {s : Nat} (hc : Calm m) (hs : s < 6) : ∃ m', eraseM m s = (0, m') ∧ Calm m' ∧ Good (m'.page (s * 1024) 1024) [] 0 ∧ ∀ t, t < 6 → t ≠ s → m'.page (t * 1024) 1024 = m.page (t * 1024) 1024 := by
  have hl : (List.replicate 1024 (255 : UInt8)).length = 1024 := List.length_replicate
  have e := eraseM_ok s hc.on hs
  rw [writeM_go _ _ hc.left] at e
  have hlay : (lay m.B (s * 1024) (List.replicate 1024 255)).length = 6144 := by rw [lay_len _ _ _ (by rw [hl, hc.size]; omega), hc.size]
  refine ⟨_, e, ⟨hlay, hc.on, rfl⟩, ?_, fun t ht hne => ?_⟩
  · have p := page_in m ⟨lay m.B (s * 1024) (List.replicate 1024 255), m.dead, wrap64 (m.ops + 1), 0, m.mask⟩ s 0 (List.replicate 1024 255) (by rw [Nat.add_zero]) hc.size hs (by rw [hl]; omega)
    rw [p]
    have hpl : (m.page (s * 1024) 1024).length = 1024 := page_len _ _ _ (by rw [hc.size]; omega)
    have : lay (m.page (s * 1024) 1024) 0 (List.replicate 1024 255) = List.replicate 1024 255 := by
      unfold lay
      rw [List.take_zero, List.nil_append, hl, List.drop_eq_nil_of_le (by omega), List.append_nil]
    rw [this]
    exact good_new
  · exact page_out m ⟨lay m.B (s * 1024) (List.replicate 1024 255), m.dead, wrap64 (m.ops + 1), 0, m.mask⟩ s t 0 (List.replicate 1024 255) (by rw [Nat.add_zero]) hc.size hs ht hne (by rw [hl]; omega)

theorem entsOf_bytes : ∀ (l : List Ent), (∀ e ∈ l, e.inside ∧ e.sum.length = 32) → entsOf (l.map Ent.bytes) = l
  | [], _ => rfl
  | e :: r, h => by
    obtain ⟨h1, h2⟩ := h e (List.mem_cons_self ..)
    have ih := entsOf_bytes r (fun y hy => h y (List.mem_cons_of_mem _ hy))
    have hp := parse_bytes e h2 h1
    unfold entsOf at ih ⊢
    rw [List.map_cons, List.filterMap_cons, hp]
    simp only [if_true, ih]

/-- A calm memory, the entries of both sectors known. -/
structure Two (m : Mem) (l0 l1 : List Ent) : Prop where
  calm : Calm m
  g0 : Good (m.page (0 * 1024) 1024) (l0.map Ent.bytes) (4 * l0.length)
  g1 : Good (m.page (1 * 1024) 1024) (l1.map Ent.bytes) (4 * l1.length)
  i0 : ∀ e ∈ l0, e.inside ∧ e.sum.length = 32
  i1 : ∀ e ∈ l1, e.inside ∧ e.sum.length = 32
theorem Two.rows {m : Mem} {l0 l1 : List Ent} (h : Two m l0 l1) : rowsM m 0 = l0.map Ent.bytes ∧ rowsM m 1 = l1.map Ent.bytes := by
  have r0 := readM_nat m 0 (by decide)
  have r1 := readM_nat m 1 (by decide)
  unfold rowsM
  exact ⟨by rw [show (0 : Int) = ((0 : Nat) : Int) from rfl, r0, h.g0.is], by rw [show (1 : Int) = ((1 : Nat) : Int) from rfl, r1, h.g1.is]⟩
theorem Two.all {m : Mem} {l0 l1 : List Ent} (h : Two m l0 l1) : allE m = l0.map (·, 0) ++ l1.map (·, 1) := by
  unfold allE
  rw [h.rows.1, h.rows.2, entsOf_bytes l0 h.i0, entsOf_bytes l1 h.i1]
theorem Two.lat {m : Mem} {l0 l1 : List Ent} (h : Two m l0 l1) : latest m = scan 1 l1 (scan 0 l0 (0, 0)) := by
  have e0 : entsM m 0 = l0 := by show entsOf (rowsM m 0) = l0; rw [h.rows.1, entsOf_bytes l0 h.i0]
  have e1 : entsM m 1 = l1 := by show entsOf (rowsM m 1) = l1; rw [h.rows.2, entsOf_bytes l1 h.i1]
  unfold latest
  rw [e0, e1]
theorem two_fresh : Two Mem.fresh [] [] := ⟨calm_new, good_fresh 0 (by decide), good_fresh 1 (by decide), (fun e he => by cases he), (fun e he => by cases he)⟩
def Same2 (m m' : Mem) : Prop := ∀ t, 2 ≤ t → t < 6 → m'.page (t * 1024) 1024 = m.page (t * 1024) 1024
theorem Same2.img {m m' : Mem} (h : Same2 m m') (slot : Nat) (hs : slot < 2) : imgM m' slot = imgM m slot := by
  unfold imgM rowsM
  have e : (2 : Int) + (slot : Int) = ((2 + slot : Nat) : Int) := by omega
  rw [e, readM_nat m' _ (by omega), readM_nat m _ (by omega), h (2 + slot) (by omega) (by omega)]
theorem pages48 (e : Ent) (h : e.sum.length = 32) : pagesN e.bytes.length = 4 := by rw [ent_bytes_len e h]; rfl
/-- A record more, in sector 0. -/
theorem Two.more0 {m : Mem} {l0 l1 : List Ent} (h : Two m l0 l1) (e : Ent) (hi : e.inside) (hl : e.sum.length = 32) (hn : l0.length < 16) :
    ∃ m', appendM m 0 e.bytes = (0, m') ∧ Two m' (l0 ++ [e]) l1 ∧ Same2 m m' := by
  have hp := pages48 e hl
  obtain ⟨m', h1, h2, h3, h4, h5⟩ := append_good (s := 0) h.calm (by decide) h.g0 e.bytes (by rw [ent_bytes_len e hl]; decide) (by rw [hp]; omega)
  refine ⟨m', h1, ⟨h2, ?_, ?_, ?_, h.i1⟩, fun t ht ht2 => h5 t ht2 (by omega)⟩
  · rw [List.map_append, List.length_append]
    rw [hp] at h4
    exact h4
  · rw [h5 1 (by decide) (by decide)]; exact h.g1
  · intro y hy
    rcases List.mem_append.1 hy with hy | hy
    · exact h.i0 y hy
    · simp only [List.mem_singleton] at hy; rw [hy]; exact ⟨hi, hl⟩
theorem Two.more1 {m : Mem} {l0 l1 : List Ent} (h : Two m l0 l1) (e : Ent) (hi : e.inside) (hl : e.sum.length = 32) (hn : l1.length < 16) :
    ∃ m', appendM m 1 e.bytes = (0, m') ∧ Two m' l0 (l1 ++ [e]) ∧ Same2 m m' := by
  have hp := pages48 e hl
  obtain ⟨m', h1, h2, h3, h4, h5⟩ := append_good (s := 1) h.calm (by decide) h.g1 e.bytes (by rw [ent_bytes_len e hl]; decide) (by rw [hp]; omega)
  refine ⟨m', h1, ⟨h2, ?_, ?_, h.i0, ?_⟩, fun t ht ht2 => h5 t ht2 (by omega)⟩
  · rw [h5 0 (by decide) (by decide)]; exact h.g0
  · rw [List.map_append, List.length_append]
    rw [hp] at h4
    exact h4
  · intro y hy
    rcases List.mem_append.1 hy with hy | hy
    · exact h.i1 y hy
    · simp only [List.mem_singleton] at hy; rw [hy]; exact ⟨hi, hl⟩
theorem Two.wipe0 {m : Mem} {l0 l1 : List Ent} (h : Two m l0 l1) : ∃ m', eraseM m 0 = (0, m') ∧ Two m' [] l1 ∧ Same2 m m' := by
  obtain ⟨m', h1, h2, h3, h4⟩ := erase_good (s := 0) h.calm (by decide)
  exact ⟨m', h1, ⟨h2, h3, by rw [h4 1 (by decide) (by decide)]; exact h.g1, (fun e he => by cases he), h.i1⟩, fun t ht ht2 => h4 t ht2 (by omega)⟩
theorem Two.wipe1 {m : Mem} {l0 l1 : List Ent} (h : Two m l0 l1) : ∃ m', eraseM m 1 = (0, m') ∧ Two m' l0 [] ∧ Same2 m m' := by
  obtain ⟨m', h1, h2, h3, h4⟩ := erase_good (s := 1) h.calm (by decide)
  exact ⟨m', h1, ⟨h2, by rw [h4 0 (by decide) (by decide)]; exact h.g0, h3, h.i0, (fun e he => by cases he)⟩, fun t ht ht2 => h4 t ht2 (by omega)⟩
theorem Same2.trans {a b c : Mem} (h : Same2 a b) (h2 : Same2 b c) : Same2 a c := fun t ht ht2 => (h2 t ht ht2).trans (h t ht ht2)
/-- Mark, the newest sector 0. -/
theorem Two.mark0 {m : Mem} {l0 l1 : List Ent} (h : Two m l0 l1) (q : Int) (hq : latest m = (q, 0)) (hq0 : 0 ≤ q) (hq1 : q < 1073741824) (slot : Int) (hs0 : 0 ≤ slot) (hs2 : slot ≤ 2) (sum : List UInt8) (hl : sum.length = 32) (hn : l0.length ≤ 16) :
    ∃ m', markM m slot sum = (0, m') ∧ Same2 m m' ∧ (if l0.length < 16 then Two m' (l0 ++ [⟨q + 1, slot, sum⟩]) l1 else Two m' l0 [⟨q + 1, slot, sum⟩]) := by
  have hin : Ent.inside ⟨q + 1, slot, sum⟩ := ⟨by simp only; omega, by simp only; omega, hs0, hs2⟩
  rw [markM_eq (by omega) hq, if_neg (by omega)]
  by_cases h16 : l0.length < 16
  · obtain ⟨m', h1, h2, h3⟩ := h.more0 ⟨q + 1, slot, sum⟩ hin hl h16
    rw [h1, if_pos (show (0 : Int) ≠ 4 by decide)]
    exact ⟨m', rfl, h3, by rw [if_pos h16]; exact h2⟩
  · have hf : appendM m 0 (Ent.bytes ⟨q + 1, slot, sum⟩) = (4, m) := append_full (s := 0) (by decide) h.g0 _ (by rw [ent_bytes_len _ hl]; decide) (by rw [pages48 _ hl]; omega)
    obtain ⟨m1, e1, t1, s1⟩ := h.wipe1
    obtain ⟨m', h1, h2, h3⟩ := t1.more1 ⟨q + 1, slot, sum⟩ hin hl (by decide)
    rw [hf, if_neg (show ¬ ((4 : Int) ≠ 4) by decide)]
    unfold renewM
    simp only
    rw [show (1 : Int) - 0 = 1 from rfl, e1, if_neg (show ¬ ((0 : Int) ≠ 0) by decide)]
    exact ⟨m', h1, s1.trans h3, by rw [if_neg h16]; exact h2⟩
/-- Mark, the newest sector 1. -/
theorem Two.mark1 {m : Mem} {l0 l1 : List Ent} (h : Two m l0 l1) (q : Int) (hq : latest m = (q, 1)) (hq0 : 0 ≤ q) (hq1 : q < 1073741824) (slot : Int) (hs0 : 0 ≤ slot) (hs2 : slot ≤ 2) (sum : List UInt8) (hl : sum.length = 32) (hn : l1.length ≤ 16) :
    ∃ m', markM m slot sum = (0, m') ∧ Same2 m m' ∧ (if l1.length < 16 then Two m' l0 (l1 ++ [⟨q + 1, slot, sum⟩]) else Two m' [⟨q + 1, slot, sum⟩] l1) := by
  have hin : Ent.inside ⟨q + 1, slot, sum⟩ := ⟨by simp only; omega, by simp only; omega, hs0, hs2⟩
  rw [markM_eq (by omega) hq, if_neg (by omega)]
  by_cases h16 : l1.length < 16
  · obtain ⟨m', h1, h2, h3⟩ := h.more1 ⟨q + 1, slot, sum⟩ hin hl h16
    rw [h1, if_pos (show (0 : Int) ≠ 4 by decide)]
    exact ⟨m', rfl, h3, by rw [if_pos h16]; exact h2⟩
  · have hf : appendM m 1 (Ent.bytes ⟨q + 1, slot, sum⟩) = (4, m) := append_full (s := 1) (by decide) h.g1 _ (by rw [ent_bytes_len _ hl]; decide) (by rw [pages48 _ hl]; omega)
    obtain ⟨m1, e1, t1, s1⟩ := h.wipe0
    obtain ⟨m', h1, h2, h3⟩ := t1.more0 ⟨q + 1, slot, sum⟩ hin hl (by decide)
    rw [hf, if_neg (show ¬ ((4 : Int) ≠ 4) by decide)]
    unfold renewM
    simp only
    rw [show (1 : Int) - 1 = 0 from rfl, e1, if_neg (show ¬ ((0 : Int) ≠ 0) by decide)]
    exact ⟨m', h1, s1.trans h3, by rw [if_neg h16]; exact h2⟩
/-- What is stored. -/
theorem Two.store {m : Mem} {l0 l1 : List Ent} (h : Two m l0 l1) (slot : Nat) (hs : slot < 2) (b : List UInt8) (hb : b.length ≤ 1000) :
    ∃ m', storeM m slot b = (0, m') ∧ Two m' l0 l1 ∧ imgM m' slot = some b ∧ ∀ k : Nat, k < 2 → k ≠ slot → imgM m' k = imgM m k := by
  obtain ⟨m1, e1, c1, g1, o1⟩ := erase_good (s := 2 + slot) h.calm (by omega)
  have hpg : pagesN b.length ≤ 64 := by have := pagesN_hi b.length; omega
  obtain ⟨m', h1, h2, _, h4, h5⟩ := append_good (s := 2 + slot) c1 (by omega) g1 b (by omega) (by omega)
  have ec : (2 : Int) + (slot : Int) = ((2 + slot : Nat) : Int) := by omega
  refine ⟨m', ?_, ⟨h2, ?_, ?_, h.i0, h.i1⟩, ?_, fun k hk hne => ?_⟩
  · unfold storeM
    rw [if_neg (by omega), if_neg (by omega), ec, e1, if_neg (show ¬ ((0 : Int) ≠ 0) by decide)]
    exact h1
  · rw [h5 0 (by decide) (by omega), o1 0 (by decide) (by omega)]; exact h.g0
  · rw [h5 1 (by decide) (by omega), o1 1 (by decide) (by omega)]; exact h.g1
  · unfold imgM rowsM
    rw [ec, readM_nat m' _ (by omega), h4.is]
    rfl
  · unfold imgM rowsM
    have ek : (2 : Int) + (k : Int) = ((2 + k : Nat) : Int) := by omega
    rw [ek, readM_nat m' _ (by omega), readM_nat m _ (by omega), h5 (2 + k) (by omega) (by omega), o1 (2 + k) (by omega) (by omega)]

theorem scan_app (s : Int) : ∀ (a b : List Ent) (q : Int × Int), scan s (a ++ b) q = scan s b (scan s a q)
  | [], _, _ => rfl
  | _ :: r, b, _ => scan_app s r b _
theorem scan_lt (s : Int) (k : Int) : ∀ (l : List Ent) (q : Int × Int), q.1 < k → (∀ e ∈ l, e.seq < k) → (scan s l q).1 < k
  | [], _, h, _ => h
  | e :: r, q, h, hl => by
    unfold scan
    split
    · exact scan_lt s k r _ (hl e (List.mem_cons_self ..)) (fun y hy => hl y (List.mem_cons_of_mem _ hy))
    · exact scan_lt s k r _ h (fun y hy => hl y (List.mem_cons_of_mem _ hy))
theorem scan_stay (s : Int) : ∀ (l : List Ent) (q : Int × Int), (∀ e ∈ l, e.seq ≤ q.1) → scan s l q = q
  | [], _, _ => rfl
  | e :: r, q, h => by
    unfold scan
    rw [if_neg (by have := h e (List.mem_cons_self ..); omega)]
    exact scan_stay s r q (fun y hy => h y (List.mem_cons_of_mem _ hy))
theorem scan_last (s : Int) (l : List Ent) (x : Ent) (q : Int × Int) (h : ∀ e ∈ l, e.seq < x.seq) (hq : q.1 < x.seq) : scan s (l ++ [x]) q = (x.seq, s) := by
  rw [scan_app]
  have := scan_lt s x.seq l q hq h
  unfold scan
  rw [if_pos this]
  rfl

theorem stepB_mem (b : Option (Ent × Nat)) (x y : Ent × Nat) (h : stepB b x = some y) : y = x ∨ b = some y := by
  cases b with
  | none => left; injection h with h; exact h.symm
  | some z =>
    unfold stepB at h
    simp only at h
    split at h
    · left; injection h with h; exact h.symm
    · right; exact h
theorem fold_mem : ∀ (l : List (Ent × Nat)) (b : Option (Ent × Nat)) (y : Ent × Nat), l.foldl stepB b = some y → y ∈ l ∨ b = some y
  | [], _, _, h => .inr h
  | x :: r, b, y, h => by
    rcases fold_mem r (stepB b x) y h with h1 | h1
    · exact .inl (List.mem_cons_of_mem _ h1)
    · rcases stepB_mem b x y h1 with h2 | h2
      · left; rw [h2]; exact List.mem_cons_self ..
      · exact .inr h2
theorem best_mem (l : List (Ent × Nat)) (y : Ent × Nat) (h : best l = some y) : y ∈ l := by
  rcases fold_mem l none y h with h1 | h1
  · exact h1
  · cases h1
theorem fold_stay : ∀ (l : List (Ent × Nat)) (x : Ent × Nat), (∀ y ∈ l, y.1.seq < x.1.seq) → l.foldl stepB (some x) = some x
  | [], _, _ => rfl
  | y :: r, x, h => by
    have h1 := h y (List.mem_cons_self ..)
    show r.foldl stepB (stepB (some x) y) = some x
    have : stepB (some x) y = some x := by
      unfold stepB
      simp only
      rw [if_neg (by omega)]
    rw [this]
    exact fold_stay r x (fun z hz => h z (List.mem_cons_of_mem _ hz))
theorem best_max (a b : List (Ent × Nat)) (x : Ent × Nat) (ha : ∀ y ∈ a, y.1.seq < x.1.seq) (hb : ∀ y ∈ b, y.1.seq < x.1.seq) : best (a ++ x :: b) = some x := by
  unfold best
  rw [List.foldl_append, List.foldl_cons]
  have : stepB (a.foldl stepB none) x = some x := by
    cases h : a.foldl stepB none with
    | none => rfl
    | some y =>
      have hy := best_mem a y h
      unfold stepB
      simp only
      rw [if_pos (.inl (ha y hy))]
  rw [this]
  exact fold_stay b x hb

/-- The entries of a turn. -/
def blockE (E : Nat → Ent) (t n : Nat) : List Ent := (List.range n).map fun i => E (16 * t + i + 1)
theorem blockE_next (E : Nat → Ent) (t n : Nat) : blockE E t (n + 1) = blockE E t n ++ [E (16 * t + n + 1)] := by
  unfold blockE
  rw [List.range_succ, List.map_append]
  rfl
theorem blockE_len (E : Nat → Ent) (t n : Nat) : (blockE E t n).length = n := by simp [blockE]
theorem blockE_mem {E : Nat → Ent} {t n : Nat} {e : Ent} (h : e ∈ blockE E t n) : ∃ i, 16 * t + 1 ≤ i ∧ i ≤ 16 * t + n ∧ e = E i := by
  unfold blockE at h
  obtain ⟨i, hi, rfl⟩ := List.mem_map.1 h
  have := List.mem_range.1 hi
  exact ⟨16 * t + i + 1, by omega, by omega, rfl⟩
/-- The elder sector's entries at turn t. -/
def elder (E : Nat → Ent) (t : Nat) : List Ent := if t = 0 then [] else blockE E (t - 1) 16
theorem elder_mem {E : Nat → Ent} {t : Nat} {e : Ent} (h : e ∈ elder E t) : ∃ i, 1 ≤ i ∧ i ≤ 16 * t ∧ e = E i := by
  unfold elder at h
  by_cases h0 : t = 0
  · rw [if_pos h0] at h; cases h
  · rw [if_neg h0] at h
    obtain ⟨i, h1, h2, rfl⟩ := blockE_mem h
    exact ⟨i, by omega, by omega, rfl⟩
/-- k entries were marked: turn t has n of them. -/
structure Marked (m : Mem) (E : Nat → Ent) (t n : Nat) : Prop where
  le : n ≤ 16
  start : t = 0 ∨ 1 ≤ n
  two : if t % 2 = 0 then Two m (blockE E t n) (elder E t) else Two m (elder E t) (blockE E t n)
  seq : ∀ i, 1 ≤ i → i ≤ 16 * t + n → (E i).seq = i
theorem marked_fresh (E : Nat → Ent) : Marked Mem.fresh E 0 0 := ⟨by omega, .inl rfl, two_fresh, fun i h1 h2 => by omega⟩
theorem Marked.lat {m : Mem} {E : Nat → Ent} {t n : Nat} (h : Marked m E t n) : latest m = (((16 * t + n : Nat) : Int), ((t % 2 : Nat) : Int)) := by
  have hel : ∀ e ∈ elder E t, e.seq ≤ ((16 * t : Nat) : Int) := fun e he => by
    obtain ⟨i, h1, h2, rfl⟩ := elder_mem he
    rw [h.seq i h1 (by omega)]; omega
  have hbl : ∀ j, j ≤ n → ∀ e ∈ blockE E t j, e.seq ≤ ((16 * t + j : Nat) : Int) := fun j hj e he => by
    obtain ⟨i, h1, h2, rfl⟩ := blockE_mem he
    rw [h.seq i (by omega) (by omega)]; omega
  have h2 := h.two
  by_cases hn : n = 0
  · have ht : t = 0 := by rcases h.start with h' | h' <;> omega
    subst hn ht
    rw [if_pos rfl] at h2
    rw [h2.lat]
    rfl
  · obtain ⟨j, rfl⟩ : ∃ j, n = j + 1 := ⟨n - 1, by omega⟩
    have hsq := h.seq (16 * t + j + 1) (by omega) (by omega)
    have hlast : ∀ s q, q.1 < (E (16 * t + j + 1)).seq → scan s (blockE E t (j + 1)) q = (((16 * t + (j + 1) : Nat) : Int), s) := fun s q hq => by
      rw [blockE_next, scan_last s _ _ q (fun e he => by have := hbl j (by omega) e he; rw [hsq]; omega) hq, hsq]
      rfl
    by_cases he : t % 2 = 0
    · rw [if_pos he] at h2
      rw [h2.lat, hlast 0 _ (by rw [hsq]; simp only; omega), he, scan_stay 1 _ _ (fun e he => by have := hel e he; simp only; omega)]
      rfl
    · rw [if_neg he] at h2
      have h1 : t % 2 = 1 := by omega
      rw [h2.lat, h1, hlast 1 _ (by rw [hsq]; exact scan_lt 0 _ _ _ (by simp only; omega) (fun e he => by have := hel e he; omega))]
      rfl
/-- The newest entry stands among all others, each of which has a lesser number. -/
theorem Marked.split {m : Mem} {E : Nat → Ent} {t n : Nat} (h : Marked m E t n) (hn : 1 ≤ n) :
    ∃ a b, allE m = a ++ (E (16 * t + n), t % 2) :: b ∧ ∀ y ∈ a ++ b, ∃ i, 1 ≤ i ∧ i < 16 * t + n ∧ y.1 = E i := by
  obtain ⟨j, rfl⟩ : ∃ j, n = j + 1 := ⟨n - 1, by omega⟩
  have h2 := h.two
  by_cases he : t % 2 = 0
  · rw [if_pos he] at h2
    refine ⟨(blockE E t j).map (·, 0), (elder E t).map (·, 1), ?_, fun y hy => ?_⟩
    · rw [h2.all, blockE_next, List.map_append, he]
      simp
      rfl
    · rcases List.mem_append.1 hy with hy | hy
      · obtain ⟨e, he, rfl⟩ := List.mem_map.1 hy
        obtain ⟨i, h1, h3, rfl⟩ := blockE_mem he
        exact ⟨i, by omega, by omega, rfl⟩
      · obtain ⟨e, he, rfl⟩ := List.mem_map.1 hy
        obtain ⟨i, h1, h3, rfl⟩ := elder_mem he
        exact ⟨i, by omega, by omega, rfl⟩
  · rw [if_neg he] at h2
    have ht : t % 2 = 1 := by omega
    refine ⟨(elder E t).map (·, 0) ++ (blockE E t j).map (·, 1), [], ?_, fun y hy => ?_⟩
    · rw [h2.all, blockE_next, List.map_append, ht]
      simp
      rfl
    · rw [List.append_nil] at hy
      rcases List.mem_append.1 hy with hy | hy
      · obtain ⟨e, he, rfl⟩ := List.mem_map.1 hy
        obtain ⟨i, h1, h3, rfl⟩ := elder_mem he
        exact ⟨i, by omega, by omega, rfl⟩
      · obtain ⟨e, he, rfl⟩ := List.mem_map.1 hy
        obtain ⟨i, h1, h3, rfl⟩ := blockE_mem he
        exact ⟨i, by omega, by omega, rfl⟩
theorem Marked.mem {m : Mem} {E : Nat → Ent} {t n : Nat} (h : Marked m E t n) : ∀ y ∈ allE m, ∃ i, 1 ≤ i ∧ i ≤ 16 * t + n ∧ y.1 = E i := by
  intro y hy
  by_cases hn : 1 ≤ n
  · obtain ⟨a, b, e, hab⟩ := h.split hn
    rw [e] at hy
    rcases List.mem_append.1 hy with h1 | h1
    · obtain ⟨i, h2, h3, h4⟩ := hab y (List.mem_append_left _ h1); exact ⟨i, h2, by omega, h4⟩
    · rcases List.mem_cons.1 h1 with rfl | h1
      · exact ⟨16 * t + n, by omega, by omega, rfl⟩
      · obtain ⟨i, h2, h3, h4⟩ := hab y (List.mem_append_right _ h1); exact ⟨i, h2, by omega, h4⟩
  · have h0 : n = 0 := by omega
    have ht : t = 0 := by rcases h.start with h' | h' <;> omega
    subst h0 ht
    have h2 := h.two
    rw [if_pos rfl] at h2
    rw [h2.all] at hy
    cases hy
/-- One more is marked. -/
theorem Marked.mark {m : Mem} {E : Nat → Ent} {t n : Nat} (h : Marked m E t n) (hk : 16 * t + n < 1000000) (slot : Int) (hs0 : 0 ≤ slot) (hs2 : slot ≤ 2) (sum : List UInt8) (hl : sum.length = 32) (hE : E (16 * t + n + 1) = ⟨((16 * t + n : Nat) : Int) + 1, slot, sum⟩) :
    ∃ m' t' n', markM m slot sum = (0, m') ∧ Same2 m m' ∧ Marked m' E t' n' ∧ 16 * t' + n' = 16 * t + n + 1 ∧ 1 ≤ n' := by
  have hlat := h.lat
  have h2 := h.two
  have hle := h.le
  have hseq : ∀ i, 1 ≤ i → i ≤ 16 * t + n + 1 → (E i).seq = i := fun i h1 h3 => by
    by_cases hi : i = 16 * t + n + 1
    · rw [hi, hE]; simp only; omega
    · exact h.seq i h1 (by omega)
  by_cases he : t % 2 = 0
  · rw [if_pos he] at h2
    rw [he] at hlat
    obtain ⟨m', h3, h4, h5⟩ := h2.mark0 _ hlat (by omega) (by omega) slot hs0 hs2 sum hl (by rw [blockE_len]; exact hle)
    rw [blockE_len] at h5
    by_cases hn : n < 16
    · rw [if_pos hn, ← hE, ← blockE_next] at h5
      exact ⟨m', t, n + 1, h3, h4, ⟨by omega, by omega, by rw [if_pos he]; exact h5, fun i h1 h6 => hseq i h1 (by omega)⟩, by omega, by omega⟩
    · rw [if_neg hn, ← hE] at h5
      have h16 : n = 16 := by omega
      subst h16
      refine ⟨m', t + 1, 1, h3, h4, ⟨by omega, by omega, ?_, fun i h1 h6 => hseq i h1 (by omega)⟩, by omega, by omega⟩
      rw [if_neg (by omega)]
      have e1 : elder E (t + 1) = blockE E t 16 := by unfold elder; rw [if_neg (by omega)]; rfl
      have e2 : blockE E (t + 1) 1 = [E (16 * t + 16 + 1)] := by show [E (16 * (t + 1) + 0 + 1)] = _; congr 2
      rw [e1, e2]
      exact h5
  · rw [if_neg he] at h2
    have h1 : t % 2 = 1 := by omega
    rw [h1] at hlat
    obtain ⟨m', h3, h4, h5⟩ := h2.mark1 _ hlat (by omega) (by omega) slot hs0 hs2 sum hl (by rw [blockE_len]; exact hle)
    rw [blockE_len] at h5
    by_cases hn : n < 16
    · rw [if_pos hn, ← hE, ← blockE_next] at h5
      exact ⟨m', t, n + 1, h3, h4, ⟨by omega, by omega, by rw [if_neg he]; exact h5, fun i h1 h6 => hseq i h1 (by omega)⟩, by omega, by omega⟩
    · rw [if_neg hn, ← hE] at h5
      have h16 : n = 16 := by omega
      subst h16
      refine ⟨m', t + 1, 1, h3, h4, ⟨by omega, by omega, ?_, fun i h1 h6 => hseq i h1 (by omega)⟩, by omega, by omega⟩
      rw [if_pos (by omega)]
      have e1 : elder E (t + 1) = blockE E t 16 := by unfold elder; rw [if_neg (by omega)]; rfl
      have e2 : blockE E (t + 1) 1 = [E (16 * t + 16 + 1)] := by show [E (16 * (t + 1) + 0 + 1)] = _; congr 2
      rw [e1, e2]
      exact h5
theorem Marked.store {m : Mem} {E : Nat → Ent} {t n : Nat} (h : Marked m E t n) (slot : Nat) (hs : slot < 2) (b : List UInt8) (hb : b.length ≤ 1000) :
    ∃ m', storeM m slot b = (0, m') ∧ Marked m' E t n ∧ imgM m' slot = some b ∧ ∀ k : Nat, k < 2 → k ≠ slot → imgM m' k = imgM m k := by
  have h2 := h.two
  by_cases he : t % 2 = 0
  · rw [if_pos he] at h2
    obtain ⟨m', h3, h4, h5, h6⟩ := h2.store slot hs b hb
    exact ⟨m', h3, ⟨h.le, h.start, by rw [if_pos he]; exact h4, h.seq⟩, h5, h6⟩
  · rw [if_neg he] at h2
    obtain ⟨m', h3, h4, h5, h6⟩ := h2.store slot hs b hb
    exact ⟨m', h3, ⟨h.le, h.start, by rw [if_neg he]; exact h4, h.seq⟩, h5, h6⟩
/-- The newest one counts: it is booted. -/
theorem Marked.boot {m : Mem} {E : Nat → Ent} {t n : Nat} (h : Marked m E t n) (hn : 1 ≤ n) (hc : countsM m (E (16 * t + n)) = true) :
    bootM m = (E (16 * t + n), if (E (16 * t + n)).slot = 2 then [] else (imgM m (E (16 * t + n)).slot).getD []) := by
  obtain ⟨a, b, e, hab⟩ := h.split hn
  have hsq := h.seq (16 * t + n) (by omega) (by omega)
  have hlt : ∀ y ∈ a ++ b, y.1.seq < (E (16 * t + n)).seq := fun y hy => by
    obtain ⟨i, h1, h2, h3⟩ := hab y hy
    rw [h3, h.seq i h1 (by omega), hsq]; omega
  have hb : bootE m = some (E (16 * t + n), t % 2) := by
    unfold bootE
    rw [e, List.filter_append, List.filter_cons_of_pos (by exact hc)]
    exact best_max _ _ _ (fun y hy => hlt y (List.mem_append_left _ (List.mem_filter.1 hy).1)) (fun y hy => hlt y (List.mem_append_right _ (List.mem_filter.1 hy).1))
  unfold bootM
  rw [hb]
theorem counts_yes {m : Mem} {e : Ent} (slot : Nat) (hs : slot < 2) (b : List UInt8) (hi : imgM m slot = some b) (h1 : e.slot = slot) (h2 : e.sum = sha b) : countsM m e = true := by
  unfold countsM
  rw [decide_eq_false (by omega), Bool.false_or, h1, hi, h2]
  simp
theorem Marked.boot_img {m : Mem} {E : Nat → Ent} {t n : Nat} (h : Marked m E t n) (hn : 1 ≤ n) (slot : Nat) (hs : slot < 2) (b : List UInt8) (hi : imgM m slot = some b) (h1 : (E (16 * t + n)).slot = slot) (h2 : (E (16 * t + n)).sum = sha b) :
    bootM m = (E (16 * t + n), b) := by
  rw [h.boot hn (counts_yes slot hs b hi h1 h2), if_neg (by rw [h1]; omega), h1, hi]
  rfl
/-- A slice that came in, at a later world. -/
theorem shows_later {w w' : World} {A : Option Addr} {n c : Nat} {l : List UInt8} (h : Shows w w.heap.size A n c l) (hb : Below w.heap.size w w') : Shows w' w'.heap.size A n c l := (h.below hb).more hb.size
theorem shows_apart {w : World} {A : Option Addr} {n c x : Nat} {l : List UInt8} (h : Shows w w.heap.size A n c l) (hx : w.heap.size ≤ x) : ∀ p, A = some p → 0 < n → p.block ≠ x := fun p hp hn => by
  obtain ⟨g, o, e, hg, _⟩ := h.spot hn
  rw [hp] at e
  injection e with e
  rw [e]
  show g ≠ x
  omega
end Go.Proofs.YtmebdnblobobnaaGreatDoor
