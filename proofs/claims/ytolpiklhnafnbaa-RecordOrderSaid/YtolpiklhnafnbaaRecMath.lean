/- Records in a sector, as plain lists: what chapter 5 makes of a sector's bytes. Nothing here speaks of one program. -/
import Derived.Test.YtolpiklhnafnbaaCrcRef
import Derived.Test.YtolpiklhnafnbaaFlMath2
namespace Go.Proofs.Ytolpiklhnafnbaa
set_option maxRecDepth 100000
open Go.RowKit Wd Nm Cm Fm

def pagesN (n : Nat) : Nat := (n + 21) / 16
def pageL (b : List UInt8) (p : Nat) : List UInt8 := (b.drop (p * 16)).take 16
def blankL (x : List UInt8) : Bool := x.all fun c => c == 255
def loadF : Nat → List UInt8 → Nat → List (List UInt8) × Nat
  | 0, _, p => ([], p)
  | k + 1, b, p =>
    if blankL (pageL b p) = true then ([], p)
    else if (opened (b.drop (p * 16))).2.2 = 0 then
      ((opened (b.drop (p * 16))).1 :: (loadF k b (p + pagesN (opened (b.drop (p * 16))).1.length)).1, (loadF k b (p + pagesN (opened (b.drop (p * 16))).1.length)).2)
    else ([], 64)
/-- The records from a page on, and the first page behind them. -/
def loadFrom (b : List UInt8) (p : Nat) : List (List UInt8) × Nat := loadF (64 - p) b p
def loadM (b : List UInt8) : List (List UInt8) × Nat := loadFrom b 0
/-- Pages that are programmed one behind the other. -/
def progX : Nat → Mem → Int → Int → List UInt8 → Int × Mem
  | 0, m, _, _, _ => (0, m)
  | k + 1, m, s, p, x =>
    if x = [] then (0, m)
    else if (programM m s p (x.take 16)).1 = 0 then progX k (programM m s p (x.take 16)).2 s (p + 1) (x.drop 16)
    else programM m s p (x.take 16)
def appendM (m : Mem) (s : Int) (b : List UInt8) : Int × Mem :=
  if 1018 < b.length then (5, m) else if ¬ isSector s then (12, m)
  else if 64 < (loadM (readM m s)).2 + pagesN b.length then (4, m)
  else progX (6 + b.length) m s ((loadM (readM m s)).2 : Int) (sealed b)

theorem pagesN_lo (n : Nat) : n + 6 ≤ 16 * pagesN n := by unfold pagesN; omega
theorem pagesN_hi (n : Nat) : 16 * pagesN n < n + 22 := by unfold pagesN; omega
theorem pagesN_pos (n : Nat) : 1 ≤ pagesN n := by unfold pagesN; omega
theorem pageL_end {b : List UInt8} (h : b.length = 1024) {p : Nat} (hp : 64 ≤ p) : pageL b p = [] := by
  unfold pageL
  rw [List.drop_eq_nil_of_le (by omega), List.take_nil]
theorem loadF_end {b : List UInt8} (h : b.length = 1024) (k p : Nat) (hp : 64 ≤ p) : loadF k b p = ([], p) := by
  cases k with
  | zero => rfl
  | succ k =>
    unfold loadF
    rw [pageL_end h hp]
    rfl
theorem loadF_fuel {b : List UInt8} (h : b.length = 1024) : ∀ (k k' p : Nat), 64 - p ≤ k → 64 - p ≤ k' → loadF k b p = loadF k' b p
  | 0, k', p, h1, _ => by rw [loadF_end h 0 p (by omega), loadF_end h k' p (by omega)]
  | k + 1, k', p, h1, h2 => by
    by_cases hp : 64 ≤ p
    · rw [loadF_end h _ p hp, loadF_end h k' p hp]
    · obtain ⟨j, rfl⟩ : ∃ j, k' = j + 1 := ⟨k' - 1, by omega⟩
      unfold loadF
      have hq := pagesN_pos (opened (b.drop (p * 16))).1.length
      rw [loadF_fuel h k j (p + pagesN (opened (b.drop (p * 16))).1.length) (by omega) (by omega)]
theorem load_end (b : List UInt8) {p : Nat} (hp : 64 ≤ p) : loadFrom b p = ([], p) := by
  unfold loadFrom
  rw [show 64 - p = 0 by omega]
  rfl
theorem load_blank (b : List UInt8) {p : Nat} (hp : p < 64) (hb : blankL (pageL b p) = true) : loadFrom b p = ([], p) := by
  unfold loadFrom
  rw [show 64 - p = (63 - p) + 1 by omega]
  unfold loadF
  rw [if_pos hb]
theorem load_bad (b : List UInt8) {p : Nat} (hp : p < 64) (hb : blankL (pageL b p) = false) (he : (opened (b.drop (p * 16))).2.2 ≠ 0) : loadFrom b p = ([], 64) := by
  unfold loadFrom
  rw [show 64 - p = (63 - p) + 1 by omega]
  unfold loadF
  rw [if_neg (by rw [hb]; decide), if_neg he]
theorem load_rec {b : List UInt8} (h : b.length = 1024) {p : Nat} (hp : p < 64) (hb : blankL (pageL b p) = false) (he : (opened (b.drop (p * 16))).2.2 = 0) :
    loadFrom b p = ((opened (b.drop (p * 16))).1 :: (loadFrom b (p + pagesN (opened (b.drop (p * 16))).1.length)).1, (loadFrom b (p + pagesN (opened (b.drop (p * 16))).1.length)).2) := by
  have hq := pagesN_pos (opened (b.drop (p * 16))).1.length
  unfold loadFrom
  rw [show 64 - p = (63 - p) + 1 by omega]
  conv => lhs; unfold loadF
  rw [if_neg (by rw [hb]; decide), if_pos he, loadF_fuel h (63 - p) (64 - (p + pagesN (opened (b.drop (p * 16))).1.length)) _ (by omega) (by omega)]
/-- What is opened is no longer than what there is. -/
theorem opened_le (l : List UInt8) (h : (opened l).2.2 = 0) : 6 + (opened l).1.length ≤ l.length ∧ (opened l).1.length = leNat (l.take 2) ∧ (opened l).2.1 = 6 + (opened l).1.length := by
  unfold opened at h ⊢
  by_cases h1 : l.length < 6
  · rw [if_pos h1] at h; simp at h
  · rw [if_neg h1] at h ⊢
    by_cases h2 : l.length - 6 < leNat (l.take 2)
    · rw [if_pos h2] at h; simp at h
    · rw [if_neg h2] at h ⊢
      by_cases h3 : tn (crc ((l.drop 6).take (leNat (l.take 2)))) = (leNat ((l.drop 2).take 4) : Int)
      · rw [if_pos h3]
        have : ((l.drop 6).take (leNat (l.take 2))).length = leNat (l.take 2) := by rw [List.length_take, List.length_drop]; omega
        simp only [this]
        exact ⟨by omega, trivial, trivial⟩
      · rw [if_neg h3] at h; simp at h
/-- What was sealed is opened as it was, whatever stands behind it. -/
theorem opened_sealed2 (l r : List UInt8) (h : l.length ≤ 65535) : opened (sealed l ++ r) = (l, 6 + l.length, 0) := by
  have h1 : leNat ((sealed l ++ r).take 2) = l.length := by
    unfold sealed
    rw [List.append_assoc, List.append_assoc, List.take_left' (leb_len _ _)]
    have := leNat_leb (l.length : Int) 2
    have e : (2 : Int) ^ (8 * 2) = 65536 := rfl
    rw [e] at this
    omega
  have h2 : ((sealed l ++ r).drop 2).take 4 = leb (tn (crc l)) 4 := by
    unfold sealed
    rw [List.append_assoc, List.append_assoc, List.drop_left' (leb_len _ _), List.take_left' (leb_len _ _)]
  have h3 : (sealed l ++ r).drop 6 = l ++ r := by
    unfold sealed
    rw [List.append_assoc, List.drop_left' (by rw [List.length_append, leb_len, leb_len])]
  have h4 : (sealed l ++ r).length = 6 + l.length + r.length := by rw [List.length_append, sealed_len]
  have h5 : (leNat (leb (tn (crc l)) 4) : Int) = tn (crc l) := by
    have hb := tn_bd (crc l)
    have e : (2 : Int) ^ (8 * 4) = 4294967296 := rfl
    rw [leNat_leb, e]
    omega
  unfold opened
  rw [h1, h2, h3, h4, if_neg (by omega), if_neg (by omega), List.take_left' rfl, if_pos h5.symm]
theorem leNat_two (l : List UInt8) : leNat (l.take 2) < 65536 := by
  have h := leNat_lt (l.take 2)
  have h2 : (l.take 2).length ≤ 2 := by rw [List.length_take]; omega
  have h3 : 2 ^ (8 * (l.take 2).length) ≤ 2 ^ 16 := Nat.pow_le_pow_right (by decide) (by omega)
  have h4 : (2 : Nat) ^ 16 = 65536 := rfl
  omega
theorem eq_mid {l l' : List UInt8} {k i j : Nat} (h : l.take k = l'.take k) (hij : i + j ≤ k) : (l.drop i).take j = (l'.drop i).take j := by
  have e : ∀ z : List UInt8, (z.drop i).take j = ((z.take k).drop i).take j := by
    intro z
    rw [List.drop_take, List.take_take, Nat.min_eq_left (by omega)]
  rw [e l, e l', h]
/-- What is opened hangs on its own bytes. -/
theorem opened_pre (l l' : List UInt8) (h : (opened l).2.2 = 0) (hl : l'.length = l.length) (ht : l'.take (6 + (opened l).1.length) = l.take (6 + (opened l).1.length)) : opened l' = opened l := by
  obtain ⟨h1, h2, _⟩ := opened_le l h
  have e1 : l'.take 2 = l.take 2 := by
    have := eq_mid (i := 0) (j := 2) ht (by omega)
    simpa using this
  have e2 : (l'.drop 2).take 4 = (l.drop 2).take 4 := eq_mid ht (by omega)
  have e3 : (l'.drop 6).take (leNat (l.take 2)) = (l.drop 6).take (leNat (l.take 2)) := eq_mid ht (by omega)
  unfold opened
  rw [hl, e1, e2, e3]
theorem drop_take_eq {b b' : List UInt8} {p q k : Nat} (h : b'.take k = b.take k) (hp : p + q ≤ k) : (b'.drop p).take q = (b.drop p).take q := eq_mid h hp
theorem load_bd {b : List UInt8} (h : b.length = 1024) : ∀ (n p : Nat), 64 - p ≤ n → p ≤ 64 → p ≤ (loadFrom b p).2 ∧ (loadFrom b p).2 ≤ 64
  | 0, p, hn, hp => by rw [load_end b (by omega)]; simp only; omega
  | n + 1, p, hn, hp => by
    by_cases h64 : 64 ≤ p
    · rw [load_end b h64]; simp only; omega
    · by_cases hb : blankL (pageL b p) = true
      · rw [load_blank b (by omega) hb]; simp only; omega
      · have hb2 : blankL (pageL b p) = false := by simpa using hb
        by_cases he : (opened (b.drop (p * 16))).2.2 = 0
        · rw [load_rec h (by omega) hb2 he]
          obtain ⟨o1, _, _⟩ := opened_le _ he
          have hq := pagesN_pos (opened (b.drop (p * 16))).1.length
          have hq2 := pagesN_hi (opened (b.drop (p * 16))).1.length
          rw [List.length_drop, h] at o1
          have := load_bd h n (p + pagesN (opened (b.drop (p * 16))).1.length) (by omega) (by omega)
          simp only
          omega
        · rw [load_bad b (by omega) hb2 he]; simp only; omega
/-- Records hang on the pages that they take. -/
theorem load_pre {b b' : List UInt8} (h : b.length = 1024) (h' : b'.length = 1024) (free : Nat) (ht : b'.take (free * 16) = b.take (free * 16)) : ∀ (n p : Nat), 64 - p ≤ n → p ≤ 64 → (loadFrom b p).2 = free →
    loadFrom b' p = ((loadFrom b p).1 ++ (loadFrom b' free).1, (loadFrom b' free).2)
  | 0, p, hn, hp, hf => by
    rw [load_end b (by omega)] at hf ⊢
    simp only at hf
    subst hf
    simp
  | n + 1, p, hn, hp, hf => by
    by_cases h64 : 64 ≤ p
    · rw [load_end b h64] at hf ⊢
      simp only at hf
      subst hf
      simp
    · by_cases hb : blankL (pageL b p) = true
      · rw [load_blank b (by omega) hb] at hf ⊢
        simp only at hf
        subst hf
        simp
      · have hb2 : blankL (pageL b p) = false := by simpa using hb
        have hbd := load_bd h (n + 1) p hn hp
        by_cases he : (opened (b.drop (p * 16))).2.2 = 0
        · have hr := load_rec h (by omega) hb2 he
          obtain ⟨o1, _, _⟩ := opened_le _ he
          rw [List.length_drop, h] at o1
          have hq := pagesN_pos (opened (b.drop (p * 16))).1.length
          have hq1 := pagesN_lo (opened (b.drop (p * 16))).1.length
          have hq2 := pagesN_hi (opened (b.drop (p * 16))).1.length
          have hf2 : (loadFrom b (p + pagesN (opened (b.drop (p * 16))).1.length)).2 = free := by rw [hr] at hf; exact hf
          have hbd2 := load_bd h n (p + pagesN (opened (b.drop (p * 16))).1.length) (by omega) (by omega)
          have ho : opened (b'.drop (p * 16)) = opened (b.drop (p * 16)) := by
            apply opened_pre _ _ he
            · rw [List.length_drop, List.length_drop, h, h']
            · exact eq_mid ht (by omega)
          have hpg : pageL b' p = pageL b p := eq_mid ht (by omega)
          rw [load_rec h' (by omega) (by rw [hpg]; exact hb2) (by rw [ho]; exact he), ho, hr, load_pre h h' free ht n _ (by omega) (by omega) hf2]
          rfl
        · rw [load_bad b (by omega) hb2 he] at hf ⊢
          simp only at hf
          subst hf
          have hbb : b' = b := by
            rw [show 64 * 16 = 1024 from rfl, List.take_of_length_le (by omega), List.take_of_length_le (by omega)] at ht
            exact ht
          rw [hbb, load_bad b (by omega) hb2 he, load_end b (Nat.le_refl 64)]
          rfl

/-- A sector that has just these records, and is blank behind them. -/
structure Good (b : List UInt8) (l : List (List UInt8)) (free : Nat) : Prop where
  len : b.length = 1024
  is : loadM b = (l, free)
  le : free ≤ 64
  rest : ∀ i, free * 16 ≤ i → i < 1024 → b.getD i 0 = 255
theorem blankL_all {x : List UInt8} (h : ∀ i, i < x.length → x.getD i 0 = 255) : blankL x = true := by
  unfold blankL
  rw [List.all_eq_true]
  intro c hc
  obtain ⟨i, hi, rfl⟩ := List.mem_iff_getElem.1 hc
  have := h i hi
  rw [List.getD_eq_getElem?_getD, List.getElem?_eq_getElem hi] at this
  simpa using this
theorem blankL_not {x : List UInt8} {i : Nat} (hi : i < x.length) (h : x.getD i 0 ≠ 255) : blankL x = false := by
  unfold blankL
  rw [List.all_eq_false]
  refine ⟨x[i], List.getElem_mem hi, ?_⟩
  rw [List.getD_eq_getElem?_getD, List.getElem?_eq_getElem hi] at h
  simpa using h
theorem pageL_len {b : List UInt8} (h : b.length = 1024) {p : Nat} (hp : p < 64) : (pageL b p).length = 16 := by
  unfold pageL
  rw [List.length_take, List.length_drop]
  omega
theorem pageL_at (b : List UInt8) (p i : Nat) (hi : i < 16) : (pageL b p).getD i 0 = b.getD (p * 16 + i) 0 := by
  unfold pageL
  simp only [List.getD_eq_getElem?_getD]
  rw [List.getElem?_take, if_pos hi, List.getElem?_drop]
theorem good_new : Good (List.replicate 1024 255) [] 0 := by
  have hl : (List.replicate 1024 (255 : UInt8)).length = 1024 := List.length_replicate
  refine ⟨hl, ?_, by omega, fun i _ hi => rep_getD 1024 255 i hi⟩
  unfold loadM
  refine load_blank _ (by omega) (blankL_all fun i hi => ?_)
  rw [pageL_len hl (by omega)] at hi
  rw [pageL_at _ _ _ hi]
  exact rep_getD 1024 255 _ (by omega)
theorem lay_take (B x : List UInt8) (o : Nat) (h : o ≤ B.length) : (lay B o x).take o = B.take o := by
  unfold lay
  rw [List.take_left' (by rw [List.length_take]; omega)]
theorem lay_drop (B x : List UInt8) (o : Nat) (h : o ≤ B.length) : (lay B o x).drop o = x ++ B.drop (o + x.length) := by
  unfold lay
  rw [List.drop_left' (by rw [List.length_take]; omega)]
theorem good_next {b : List UInt8} {l : List (List UInt8)} {free : Nat} (h : Good b l free) (x : List UInt8) (hx : x.length ≤ 1018) (hf : free + pagesN x.length ≤ 64) :
    Good (lay b (free * 16) (sealed x)) (l ++ [x]) (free + pagesN x.length) := by
  have h1 := pagesN_lo x.length
  have h2 := pagesN_pos x.length
  have hs := sealed_len x
  have hlen : (lay b (free * 16) (sealed x)).length = 1024 := by rw [lay_len _ _ _ (by rw [hs, h.len]; omega), h.len]
  have hat := fun i => lay_at b (free * 16) (sealed x) (by rw [hs, h.len]; omega) i
  have hrest : ∀ i, (free + pagesN x.length) * 16 ≤ i → i < 1024 → (lay b (free * 16) (sealed x)).getD i 0 = 255 := by
    intro i hi hi2
    rw [hat i, if_neg (by rw [hs]; omega)]
    exact h.rest i (by omega) hi2
  refine ⟨hlen, ?_, hf, hrest⟩
  have hd := lay_drop b (sealed x) (free * 16) (by rw [h.len]; omega)
  have ho : opened ((lay b (free * 16) (sealed x)).drop (free * 16)) = (x, 6 + x.length, 0) := by
    rw [hd]
    exact opened_sealed2 x _ (by omega)
  have hnb : blankL (pageL (lay b (free * 16) (sealed x)) free) = false := by
    refine blankL_not (i := 1) (by rw [pageL_len hlen (by omega)]; omega) ?_
    rw [pageL_at _ _ _ (by omega), hat, if_pos ⟨by omega, by rw [hs]; omega⟩, show free * 16 + 1 - free * 16 = 1 by omega]
    have e : (sealed x).getD 1 0 = lb (x.length : Int) 1 := rfl
    rw [e]
    intro hc
    have hn := lb_nat (x.length : Int) 1
    rw [hc, show (2 : Int) ^ (8 * 1) = 256 from rfl, show (((255 : UInt8).toNat : Nat) : Int) = 255 from rfl] at hn
    omega
  have hlast : loadFrom (lay b (free * 16) (sealed x)) (free + pagesN x.length) = ([], free + pagesN x.length) := by
    by_cases h64 : 64 ≤ free + pagesN x.length
    · exact load_end _ h64
    · refine load_blank _ (by omega) (blankL_all fun i hi => ?_)
      rw [pageL_len hlen (by omega)] at hi
      rw [pageL_at _ _ _ hi]
      exact hrest _ (by omega) (by omega)
  have hrec := load_rec hlen (p := free) (by omega) hnb (by rw [ho])
  rw [ho] at hrec
  simp only at hrec
  rw [hlast] at hrec
  have hb := h.is
  unfold loadM at hb ⊢
  rw [load_pre h.len hlen free (lay_take b (sealed x) (free * 16) (by rw [h.len]; omega)) 64 0 (by omega) (by omega) (by rw [hb]), hrec, hb]
end Go.Proofs.Ytolpiklhnafnbaa
