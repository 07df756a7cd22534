/- Merged: Records in a sector, as plain lists: what chapter 5 makes of a sector's bytes. Nothing here speaks of one program. How many records a sector has at most. Nothing here speaks of one program. What appending does to a memory's sectors, as plain lists. Nothing here speaks of one program. An append at which the power goes, as plain lists: what is loaded behind it. Nothing here speaks of one program. Package record and its reference: contracts of blank and Pages. Package record: the contract of Load. Package record: the contract of split. Package record: the contracts of program and Append. Package record: Load, of a sector that has just some records. -/
import Derived.Test.YtmebdnblobobnaaGreatDoorKCrc
import Derived.Test.YtmebdnblobobnaaGreatDoorKBase
import Derived.Test.YtmebdnblobobnaaGreatDoorKFlash
import Derived.Test.YtmebdnblobobnaaGreatDoorKMem
namespace Go.Proofs.YtmebdnblobobnaaGreatDoor
set_option maxRecDepth 100000
open Go.RowKit _root_.Go.Proofs.YtmebdnblobobnaaGreatDoor.Wd _root_.Go.Proofs.YtmebdnblobobnaaGreatDoor.Nm _root_.Go.Proofs.YtmebdnblobobnaaGreatDoor.Cm _root_.Go.Proofs.YtmebdnblobobnaaGreatDoor.Fm

def pagesN (n : Nat) : Nat := (n + 21) / 16
def pageL (b : List UInt8) (p : Nat) : List UInt8 := (b.drop (p * 16)).take 16
def blankL (x : List UInt8) : Bool := x.all fun c => c == 255
def loadF : Nat → List UInt8 → Nat → List (List UInt8) × Nat
  | 0, _, p => ([], p)
  | k + 1, b, p =>
    if blankL (pageL b p) = true then ([], p)
    else if (opened (b.drop (p * 16))).2.2 = 0 then
      ((opened (b.drop (p * 16))).1 :: (loadF k b (p + pagesN (opened (b.drop (p * 16))).1.length)).1, (loadF k b (p + pagesN (opened (b.drop (p * 16))).1.length)).2)
    else ([], 64)
/-- The records from a page on, and the first page behind them. -/
def loadFrom (b : List UInt8) (p : Nat) : List (List UInt8) × Nat := loadF (64 - p) b p
def loadM (b : List UInt8) : List (List UInt8) × Nat := loadFrom b 0
/-- Pages that are programmed one behind the other. -/
def progX : Nat → Mem → Int → Int → List UInt8 → Int × Mem
  | 0, m, _, _, _ => (0, m)
  | k + 1, m, s, p, x =>
    if x = [] then (0, m)
    else if (programM m s p (x.take 16)).1 = 0 then progX k (programM m s p (x.take 16)).2 s (p + 1) (x.drop 16)
    else programM m s p (x.take 16)
def appendM (m : Mem) (s : Int) (b : List UInt8) : Int × Mem :=
  if 1018 < b.length then (5, m) else if ¬ isSector s then (12, m)
  else if 64 < (loadM (readM m s)).2 + pagesN b.length then (4, m)
  else progX (6 + b.length) m s ((loadM (readM m s)).2 : Int) (sealed b)

theorem pagesN_lo (n : Nat) : n + 6 ≤ 16 * pagesN n := by unfold pagesN; omega
theorem pagesN_hi (n : Nat) : 16 * pagesN n < n + 22 := by unfold pagesN; omega
theorem pagesN_pos (n : Nat) : 1 ≤ pagesN n := by unfold pagesN; omega
theorem pageL_end {b : List UInt8} (h : b.length = 1024) {p : Nat} (hp : 64 ≤ p) : pageL b p = [] := by
  unfold pageL
  rw [List.drop_eq_nil_of_le (by omega), List.take_nil]
theorem loadF_end {b : List UInt8} (h : b.length = 1024) (k p : Nat) (hp : 64 ≤ p) : loadF k b p = ([], p) := by
  cases k with
  | zero => rfl
  | succ k =>
    unfold loadF
    rw [pageL_end h hp]
    rfl
theorem loadF_fuel {b : List UInt8} (h : b.length = 1024) : ∀ (k k' p : Nat), 64 - p ≤ k → 64 - p ≤ k' → loadF k b p = loadF k' b p
  | 0, k', p, h1, _ => by rw [loadF_end h 0 p (by omega), loadF_end h k' p (by omega)]
  | k + 1, k', p, h1, h2 => by
    by_cases hp : 64 ≤ p
    · rw [loadF_end h _ p hp, loadF_end h k' p hp]
    · obtain ⟨j, rfl⟩ : ∃ j, k' = j + 1 := ⟨k' - 1, by omega⟩
      unfold loadF
      have hq := pagesN_pos (opened (b.drop (p * 16))).1.length
      rw [loadF_fuel h k j (p + pagesN (opened (b.drop (p * 16))).1.length) (by omega) (by omega)]
theorem load_end (b : List UInt8) {p : Nat} (hp : 64 ≤ p) : loadFrom b p = ([], p) := by
  unfold loadFrom
  rw [show 64 - p = 0 by omega]
  rfl
theorem load_blank (b : List UInt8) {p : Nat} (hp : p < 64) (hb : blankL (pageL b p) = true) : loadFrom b p = ([], p) := by
  unfold loadFrom
  rw [show 64 - p = (63 - p) + 1 by omega]
  unfold loadF
  rw [if_pos hb]
theorem load_bad (b : List UInt8) {p : Nat} (hp : p < 64) (hb : blankL (pageL b p) = false) (he : (opened (b.drop (p * 16))).2.2 ≠ 0) : loadFrom b p = ([], 64) := by
  unfold loadFrom
  rw [show 64 - p = (63 - p) + 1 by omega]
  unfold loadF
  rw [if_neg (by rw [hb]; decide), if_neg he]
theorem load_rec {b : List UInt8} (h : b.length = 1024) {p : Nat} (hp : p < 64) (hb : blankL (pageL b p) = false) (he : (opened (b.drop (p * 16))).2.2 = 0) :
    loadFrom b p = ((opened (b.drop (p * 16))).1 :: (loadFrom b (p + pagesN (opened (b.drop (p * 16))).1.length)).1, (loadFrom b (p + pagesN (opened (b.drop (p * 16))).1.length)).2) := by
  have hq := pagesN_pos (opened (b.drop (p * 16))).1.length
  unfold loadFrom
  rw [show 64 - p = (63 - p) + 1 by omega]
  conv => lhs; unfold loadF
  rw [if_neg (by rw [hb]; decide), if_pos he, loadF_fuel h (63 - p) (64 - (p + pagesN (opened (b.drop (p * 16))).1.length)) _ (by omega) (by omega)]
/-- What is opened is no longer than what there is. -/
theorem opened_le (l : List UInt8) (h : (opened l).2.2 = 0) : 6 + (opened l).1.length ≤ l.length ∧ (opened l).1.length = leNat (l.take 2) ∧ (opened l).2.1 = 6 + (opened l).1.length := by
  unfold opened at h ⊢
  by_cases h1 : l.length < 6
  · rw [if_pos h1] at h; simp at h
  · rw [if_neg h1] at h ⊢
    by_cases h2 : l.length - 6 < leNat (l.take 2)
    · rw [if_pos h2] at h; simp at h
    · rw [if_neg h2] at h ⊢
      by_cases h3 : tn (crc ((l.drop 6).take (leNat (l.take 2)))) = (leNat ((l.drop 2).take 4) : Int)
      · rw [if_pos h3]
        have : ((l.drop 6).take (leNat (l.take 2))).length = leNat (l.take 2) := by rw [List.length_take, List.length_drop]; omega
        simp only [this]
        exact ⟨by omega, trivial, trivial⟩
      · rw [if_neg h3] at h; simp at h
/-- What was sealed is opened as it was, whatever stands behind it. -/
theorem opened_sealed2 (l r : List UInt8) (h : l.length ≤ 65535) : opened (sealed l ++ r) = (l, 6 + l.length, 0) := by
  have h1 : leNat ((sealed l ++ r).take 2) = l.length := by
    unfold sealed
    rw [List.append_assoc, List.append_assoc, List.take_left' (leb_len _ _)]
    have := leNat_leb (l.length : Int) 2
    have e : (2 : Int) ^ (8 * 2) = 65536 := rfl
    rw [e] at this
    omega
  have h2 : ((sealed l ++ r).drop 2).take 4 = leb (tn (crc l)) 4 := by
    unfold sealed
    rw [List.append_assoc, List.append_assoc, List.drop_left' (leb_len _ _), List.take_left' (leb_len _ _)]
  have h3 : (sealed l ++ r).drop 6 = l ++ r := by
    unfold sealed
    rw [List.append_assoc, List.drop_left' (by rw [List.length_append, leb_len, leb_len])]
  have h4 : (sealed l ++ r).length = 6 + l.length + r.length := by rw [List.length_append, sealed_len]
  have h5 : (leNat (leb (tn (crc l)) 4) : Int) = tn (crc l) := by
    have hb := tn_bd (crc l)
    have e : (2 : Int) ^ (8 * 4) = 4294967296 := rfl
    rw [leNat_leb, e]
    omega
  unfold opened
  rw [h1, h2, h3, h4, if_neg (by omega), if_neg (by omega), List.take_left' rfl, if_pos h5.symm]
theorem leNat_two (l : List UInt8) : leNat (l.take 2) < 65536 := by
  have h := leNat_lt (l.take 2)
  have h2 : (l.take 2).length ≤ 2 := by rw [List.length_take]; omega
  have h3 : 2 ^ (8 * (l.take 2).length) ≤ 2 ^ 16 := Nat.pow_le_pow_right (by decide) (by omega)
  have h4 : (2 : Nat) ^ 16 = 65536 := rfl
  omega
theorem eq_mid {l l' : List UInt8} {k i j : Nat} (h : l.take k = l'.take k) (hij : i + j ≤ k) : (l.drop i).take j = (l'.drop i).take j := by
  have e : ∀ z : List UInt8, (z.drop i).take j = ((z.take k).drop i).take j := by
    intro z
    rw [List.drop_take, List.take_take, Nat.min_eq_left (by omega)]
  rw [e l, e l', h]
/-- What is opened hangs on its own bytes. -/
theorem opened_pre (l l' : List UInt8) (h : (opened l).2.2 = 0) (hl : l'.length = l.length) (ht : l'.take (6 + (opened l).1.length) = l.take (6 + (opened l).1.length)) : opened l' = opened l := by
  obtain ⟨h1, h2, _⟩ := opened_le l h
  have e1 : l'.take 2 = l.take 2 := by
    have := eq_mid (i := 0) (j := 2) ht (by omega)
    simpa using this
  have e2 : (l'.drop 2).take 4 = (l.drop 2).take 4 := eq_mid ht (by omega)
  have e3 : (l'.drop 6).take (leNat (l.take 2)) = (l.drop 6).take (leNat (l.take 2)) := eq_mid ht (by omega)
  unfold opened
  rw [hl, e1, e2, e3]
theorem drop_take_eq {b b' : List UInt8} {p q k : Nat} (h : b'.take k = b.take k) (hp : p + q ≤ k) : (b'.drop p).take q = (b.drop p).take q := eq_mid h hp
theorem load_bd {b : List UInt8} (h : b.length = 1024) : ∀ (n p : Nat), 64 - p ≤ n → p ≤ 64 → p ≤ (loadFrom b p).2 ∧ (loadFrom b p).2 ≤ 64
  | 0, p, hn, hp => by rw [load_end b (by omega)]; simp only; omega
  | n + 1, p, hn, hp => by
    by_cases h64 : 64 ≤ p
    · rw [load_end b h64]; simp only; omega
    · by_cases hb : blankL (pageL b p) = true
      · rw [load_blank b (by omega) hb]; simp only; omega
      · have hb2 : blankL (pageL b p) = false := by simpa using hb
        by_cases he : (opened (b.drop (p * 16))).2.2 = 0
        · rw [load_rec h (by omega) hb2 he]
          obtain ⟨o1, _, _⟩ := opened_le _ he
          have hq := pagesN_pos (opened (b.drop (p * 16))).1.length
          have hq2 := pagesN_hi (opened (b.drop (p * 16))).1.length
          rw [List.length_drop, h] at o1
          have := load_bd h n (p + pagesN (opened (b.drop (p * 16))).1.length) (by omega) (by omega)
          simp only
          omega
        · rw [load_bad b (by omega) hb2 he]; simp only; omega
/-- Records hang on the pages that they take. -/
theorem load_pre {b b' : List UInt8} (h : b.length = 1024) (h' : b'.length = 1024) (free : Nat) (ht : b'.take (free * 16) = b.take (free * 16)) : ∀ (n p : Nat), 64 - p ≤ n → p ≤ 64 → (loadFrom b p).2 = free →
    loadFrom b' p = ((loadFrom b p).1 ++ (loadFrom b' free).1, (loadFrom b' free).2)
  | 0, p, hn, hp, hf => by
    rw [load_end b (by omega)] at hf ⊢
    simp only at hf
    subst hf
    simp
  | n + 1, p, hn, hp, hf => by
    by_cases h64 : 64 ≤ p
    · rw [load_end b h64] at hf ⊢
      simp only at hf
      subst hf
      simp
    · by_cases hb : blankL (pageL b p) = true
      · rw [load_blank b (by omega) hb] at hf ⊢
        simp only at hf
        subst hf
        simp
      · have hb2 : blankL (pageL b p) = false := by simpa using hb
        have hbd := load_bd h (n + 1) p hn hp
        by_cases he : (opened (b.drop (p * 16))).2.2 = 0
        · have hr := load_rec h (by omega) hb2 he
          obtain ⟨o1, _, _⟩ := opened_le _ he
          rw [List.length_drop, h] at o1
          have hq := pagesN_pos (opened (b.drop (p * 16))).1.length
          have hq1 := pagesN_lo (opened (b.drop (p * 16))).1.length
          have hq2 := pagesN_hi (opened (b.drop (p * 16))).1.length
          have hf2 : (loadFrom b (p + pagesN (opened (b.drop (p * 16))).1.length)).2 = free := by rw [hr] at hf; exact hf
          have hbd2 := load_bd h n (p + pagesN (opened (b.drop (p * 16))).1.length) (by omega) (by omega)
          have ho : opened (b'.drop (p * 16)) = opened (b.drop (p * 16)) := by
            apply opened_pre _ _ he
            · rw [List.length_drop, List.length_drop, h, h']
            · exact eq_mid ht (by omega)
          have hpg : pageL b' p = pageL b p := eq_mid ht (by omega)
          rw [load_rec h' (by omega) (by rw [hpg]; exact hb2) (by rw [ho]; exact he), ho, hr, load_pre h h' free ht n _ (by omega) (by omega) hf2]
          rfl
        · rw [load_bad b (by omega) hb2 he] at hf ⊢
          simp only at hf
          subst hf
          have hbb : b' = b := by
            rw [show 64 * 16 = 1024 from rfl, List.take_of_length_le (by omega), List.take_of_length_le (by omega)] at ht
            exact ht
          rw [hbb, load_bad b (by omega) hb2 he, load_end b (Nat.le_refl 64)]
          rfl

/-- A sector that has just these records, and is blank behind them. -/
structure Good (b : List UInt8) (l : List (List UInt8)) (free : Nat) : Prop where
  len : b.length = 1024
  is : loadM b = (l, free)
  le : free ≤ 64
  rest : ∀ i, free * 16 ≤ i → i < 1024 → b.getD i 0 = 255
theorem blankL_all {x : List UInt8} (h : ∀ i, i < x.length → x.getD i 0 = 255) : blankL x = true := by
  unfold blankL
  rw [List.all_eq_true]
  intro c hc
  obtain ⟨i, hi, rfl⟩ := List.mem_iff_getElem.1 hc
  have := h i hi
  rw [List.getD_eq_getElem?_getD, List.getElem?_eq_getElem hi] at this
  simpa using this
theorem blankL_not {x : List UInt8} {i : Nat} (hi : i < x.length) (h : x.getD i 0 ≠ 255) : blankL x = false := by
  unfold blankL
  rw [List.all_eq_false]
  refine ⟨x[i], List.getElem_mem hi, ?_⟩
  rw [List.getD_eq_getElem?_getD, List.getElem?_eq_getElem hi] at h
  simpa using h
theorem pageL_len {b : List UInt8} (h : b.length = 1024) {p : Nat} (hp : p < 64) : (pageL b p).length = 16 := by
  unfold pageL
  rw [List.length_take, List.length_drop]
  omega
theorem pageL_at (b : List UInt8) (p i : Nat) (hi : i < 16) : (pageL b p).getD i 0 = b.getD (p * 16 + i) 0 := by
  unfold pageL
  simp only [List.getD_eq_getElem?_getD]
  rw [List.getElem?_take, if_pos hi, List.getElem?_drop]
theorem good_new : Good (List.replicate 1024 255) [] 0 := by
  have hl : (List.replicate 1024 (255 : UInt8)).length = 1024 := List.length_replicate
  refine ⟨hl, ?_, by omega, fun i _ hi => rep_getD 1024 255 i hi⟩
  unfold loadM
  refine load_blank _ (by omega) (blankL_all fun i hi => ?_)
  rw [pageL_len hl (by omega)] at hi
  rw [pageL_at _ _ _ hi]
  exact rep_getD 1024 255 _ (by omega)
theorem lay_take (B x : List UInt8) (o : Nat) (h : o ≤ B.length) : (lay B o x).take o = B.take o := by
  unfold lay
  rw [List.take_left' (by rw [List.length_take]; omega)]
theorem lay_drop (B x : List UInt8) (o : Nat) (h : o ≤ B.length) : (lay B o x).drop o = x ++ B.drop (o + x.length) := by
  unfold lay
  rw [List.drop_left' (by rw [List.length_take]; omega)]
theorem good_next {b : List UInt8} {l : List (List UInt8)} {free : Nat} (h : Good b l free) (x : List UInt8) (hx : x.length ≤ 1018) (hf : free + pagesN x.length ≤ 64) :
    Good (lay b (free * 16) (sealed x)) (l ++ [x]) (free + pagesN x.length) := by
  have h1 := pagesN_lo x.length
  have h2 := pagesN_pos x.length
  have hs := sealed_len x
  have hlen : (lay b (free * 16) (sealed x)).length = 1024 := by rw [lay_len _ _ _ (by rw [hs, h.len]; omega), h.len]
  have hat := fun i => lay_at b (free * 16) (sealed x) (by rw [hs, h.len]; omega) i
  have hrest : ∀ i, (free + pagesN x.length) * 16 ≤ i → i < 1024 → (lay b (free * 16) (sealed x)).getD i 0 = 255 := by
    intro i hi hi2
    rw [hat i, if_neg (by rw [hs]; omega)]
    exact h.rest i (by omega) hi2
  refine ⟨hlen, ?_, hf, hrest⟩
  have hd := lay_drop b (sealed x) (free * 16) (by rw [h.len]; omega)
  have ho : opened ((lay b (free * 16) (sealed x)).drop (free * 16)) = (x, 6 + x.length, 0) := by
    rw [hd]
    exact opened_sealed2 x _ (by omega)
  have hnb : blankL (pageL (lay b (free * 16) (sealed x)) free) = false := by
    refine blankL_not (i := 1) (by rw [pageL_len hlen (by omega)]; omega) ?_
    rw [pageL_at _ _ _ (by omega), hat, if_pos ⟨by omega, by rw [hs]; omega⟩, show free * 16 + 1 - free * 16 = 1 by omega]
    have e : (sealed x).getD 1 0 = lb (x.length : Int) 1 := rfl
    rw [e]
    intro hc
    have hn := lb_nat (x.length : Int) 1
    rw [hc, show (2 : Int) ^ (8 * 1) = 256 from rfl, show (((255 : UInt8).toNat : Nat) : Int) = 255 from rfl] at hn
    omega
  have hlast : loadFrom (lay b (free * 16) (sealed x)) (free + pagesN x.length) = ([], free + pagesN x.length) := by
    by_cases h64 : 64 ≤ free + pagesN x.length
    · exact load_end _ h64
    · refine load_blank _ (by omega) (blankL_all fun i hi => ?_)
      rw [pageL_len hlen (by omega)] at hi
      rw [pageL_at _ _ _ hi]
      exact hrest _ (by omega) (by omega)
  have hrec := load_rec hlen (p := free) (by omega) hnb (by rw [ho])
  rw [ho] at hrec
  simp only at hrec
  rw [hlast] at hrec
  have hb := h.is
  unfold loadM at hb ⊢
  rw [load_pre h.len hlen free (lay_take b (sealed x) (free * 16) (by rw [h.len]; omega)) 64 0 (by omega) (by omega) (by rw [hb]), hrec, hb]
end Go.Proofs.YtmebdnblobobnaaGreatDoor

namespace Go.Proofs.YtmebdnblobobnaaGreatDoor
set_option maxRecDepth 100000

theorem loadF_count : ∀ (k : Nat) (b : List UInt8) (p : Nat), (loadF k b p).1.length ≤ k
  | 0, _, _ => Nat.le_refl _
  | k + 1, b, p => by
    unfold loadF
    split
    · simp
    · split
      · have := loadF_count k b (p + pagesN (opened (b.drop (p * 16))).1.length)
        simp only [List.length_cons]
        omega
      · simp
theorem load_count (b : List UInt8) : (loadM b).1.length ≤ 64 := loadF_count 64 b 0
end Go.Proofs.YtmebdnblobobnaaGreatDoor

namespace Go.Proofs.YtmebdnblobobnaaGreatDoor
set_option maxRecDepth 100000
open Go.RowKit _root_.Go.Proofs.YtmebdnblobobnaaGreatDoor.Wd _root_.Go.Proofs.YtmebdnblobobnaaGreatDoor.Fm

theorem lay_pad (B b : List UInt8) (o : Nat) (hb : b.length ≤ 16) (ho : o + 16 ≤ B.length) (h : ∀ i, i < 16 → B.getD (o + i) 0 = 255) : lay B o (padded b) = lay B o b := by
  have hp := padded_len b hb
  have l1 := lay_len B o (padded b) (by omega)
  have l2 := lay_len B o b (by omega)
  apply ext_getD (by rw [l1, l2])
  intro i hi
  rw [lay_at _ _ _ (by omega), lay_at _ _ _ (by omega), hp]
  by_cases h1 : o ≤ i ∧ i < o + 16
  · rw [if_pos h1, padded_at b (i - o) (by omega)]
    by_cases h2 : i < o + b.length
    · rw [if_pos (by omega), if_pos ⟨h1.1, h2⟩]
    · rw [if_neg (by omega), if_neg (by omega)]
      have := h (i - o) (by omega)
      rw [show o + (i - o) = i by omega] at this
      exact this.symm
  · rw [if_neg h1, if_neg (by omega)]
theorem lay_lay (B x : List UInt8) (o : Nat) (h : o + x.length ≤ B.length) : lay (lay B o (x.take 16)) (o + 16) (x.drop 16) = lay B o x := by
  rcases Nat.lt_or_ge 16 x.length with h16 | h16
  · have t1 : (x.take 16).length = 16 := by rw [List.length_take]; omega
    have t2 : (x.drop 16).length = x.length - 16 := List.length_drop
    have l1 := lay_len B o (x.take 16) (by omega)
    have l2 := lay_len (lay B o (x.take 16)) (o + 16) (x.drop 16) (by omega)
    have l3 := lay_len B o x h
    apply ext_getD (by omega)
    intro i hi
    rw [lay_at _ _ _ (by omega), lay_at _ _ _ (by omega), lay_at _ _ _ h, t1, t2]
    by_cases h1 : o + 16 ≤ i ∧ i < o + 16 + (x.length - 16)
    · rw [if_pos h1, if_pos (by omega)]
      simp only [List.getD_eq_getElem?_getD, List.getElem?_drop]
      rw [show 16 + (i - (o + 16)) = i - o by omega]
    · rw [if_neg h1]
      by_cases h2 : o ≤ i ∧ i < o + 16
      · rw [if_pos h2, if_pos (by omega)]
        simp only [List.getD_eq_getElem?_getD]
        rw [List.getElem?_take, if_pos (by omega)]
      · rw [if_neg h2, if_neg (by omega)]
  · rw [List.drop_eq_nil_of_le h16, List.take_of_length_le h16, lay_nil]

/-- A memory whose power does not go. -/
structure Calm (m : Mem) : Prop where
  size : m.B.length = 6144
  on : m.dead = false
  left : m.left = 0
theorem calm_new : Calm Mem.fresh := ⟨fresh_len, rfl, rfl⟩

theorem progX_blank : ∀ (k : Nat) (x : List UInt8) (m : Mem) (s p : Nat), x.length ≤ k → s < 6 → p * 16 + x.length ≤ 1024 → m.B.length = 6144 → m.dead = false → m.left = 0 →
    (∀ i, p * 16 ≤ i → i < 1024 → m.B.getD (s * 1024 + i) 0 = 255) → ∃ o, progX k m s p x = (0, ⟨lay m.B (s * 1024 + p * 16) x, false, o, 0, m.mask⟩)
  | 0, x, m, s, p, hk, _, _, _, hd, hl, _ => by
    have : x = [] := List.eq_nil_of_length_eq_zero (by omega)
    subst this
    refine ⟨m.ops, ?_⟩
    rw [lay_nil]
    obtain ⟨B, d, o, l, mk⟩ := m
    simp only at hd hl
    subst hd hl
    rfl
  | k + 1, x, m, s, p, hk, hs, hp, hz, hd, hl, hb => by
    by_cases hx : x = []
    · subst hx
      refine ⟨m.ops, ?_⟩
      rw [lay_nil]
      obtain ⟨B, d, o, l, mk⟩ := m
      simp only at hd hl
      subst hd hl
      rfl
    · have hx0 : 0 < x.length := List.length_pos_iff.2 hx
      have ht : (x.take 16).length ≤ 16 := by rw [List.length_take]; omega
      have h1 := program_blank (m := m) (s := s) (p := p) (b := x.take 16) hd hs (by omega) ht hl (fun i hi => by rw [Nat.add_assoc]; exact hb (p * 16 + i) (by omega) (by omega))
      rw [lay_pad _ _ _ ht (by omega) (fun i hi => by rw [Nat.add_assoc]; exact hb (p * 16 + i) (by omega) (by omega))] at h1
      have hlen : (lay m.B (s * 1024 + p * 16) (x.take 16)).length = 6144 := by rw [lay_len _ _ _ (by omega), hz]
      have hrest : ∀ i, (p + 1) * 16 ≤ i → i < 1024 → (lay m.B (s * 1024 + p * 16) (x.take 16)).getD (s * 1024 + i) 0 = 255 := by
        intro i hi hi2
        rw [lay_at _ _ _ (by omega), if_neg (by omega)]
        exact hb i (by omega) hi2
      have hstep : progX (k + 1) m s p x = progX k ⟨lay m.B (s * 1024 + p * 16) (x.take 16), m.dead, wrap64 (m.ops + 1), 0, m.mask⟩ s ((p + 1 : Nat) : Int) (x.drop 16) := by
        conv => lhs; unfold progX
        rw [if_neg hx, h1, if_pos rfl]
        rfl
      rw [hstep]
      rcases Nat.lt_or_ge 16 x.length with h16 | h16
      · obtain ⟨o, ho⟩ := progX_blank k (x.drop 16) ⟨lay m.B (s * 1024 + p * 16) (x.take 16), m.dead, wrap64 (m.ops + 1), 0, m.mask⟩ s (p + 1) (by rw [List.length_drop]; omega) hs (by rw [List.length_drop]; omega) hlen hd rfl hrest
        refine ⟨o, ?_⟩
        rw [ho]
        simp only
        rw [show s * 1024 + (p + 1) * 16 = s * 1024 + p * 16 + 16 by omega, lay_lay _ _ _ (by omega)]
      · rw [List.drop_eq_nil_of_le h16, List.take_of_length_le h16, hd]
        refine ⟨wrap64 (m.ops + 1), ?_⟩
        cases k with
        | zero => rfl
        | succ k => rfl

theorem readM_nat (m : Mem) (s : Nat) (hs : s < 6) : readM m s = m.page (s * 1024) 1024 := by
  unfold readM placeOf
  rw [if_pos (by unfold isSector; omega)]
  simp
theorem page_in (m m' : Mem) (s o : Nat) (x : List UInt8) (hm : m'.B = lay m.B (s * 1024 + o) x) (hz : m.B.length = 6144) (hs : s < 6) (ho : o + x.length ≤ 1024) : m'.page (s * 1024) 1024 = lay (m.page (s * 1024) 1024) o x := by
  have hl : m'.B.length = 6144 := by rw [hm, lay_len _ _ _ (by omega), hz]
  have p1 : (m.page (s * 1024) 1024).length = 1024 := page_len _ _ _ (by omega)
  have p2 : (m'.page (s * 1024) 1024).length = 1024 := page_len _ _ _ (by omega)
  apply ext_getD (by rw [p2, lay_len _ _ _ (by omega), p1])
  intro i hi
  rw [page_at _ _ _ _ (by omega), hm, lay_at _ _ _ (by omega), lay_at _ _ _ (by omega)]
  by_cases h1 : o ≤ i ∧ i < o + x.length
  · rw [if_pos (by omega), if_pos h1, show s * 1024 + i - (s * 1024 + o) = i - o by omega]
  · rw [if_neg (by omega), if_neg h1, page_at _ _ _ _ (by omega)]
theorem page_out (m m' : Mem) (s t o : Nat) (x : List UInt8) (hm : m'.B = lay m.B (s * 1024 + o) x) (hz : m.B.length = 6144) (hs : s < 6) (ht : t < 6) (hne : t ≠ s) (ho : o + x.length ≤ 1024) : m'.page (t * 1024) 1024 = m.page (t * 1024) 1024 := by
  have hl : m'.B.length = 6144 := by rw [hm, lay_len _ _ _ (by omega), hz]
  have p1 : (m.page (t * 1024) 1024).length = 1024 := page_len _ _ _ (by omega)
  have p2 : (m'.page (t * 1024) 1024).length = 1024 := page_len _ _ _ (by omega)
  apply ext_getD (by rw [p2, p1])
  intro i hi
  rw [page_at _ _ _ _ (by omega), hm, lay_at _ _ _ (by omega), if_neg (by omega), page_at _ _ _ _ (by omega)]

/-- A record more, in a sector that has just some records. -/
theorem append_good {m : Mem} {s : Nat} {l : List (List UInt8)} {free : Nat} (hc : Calm m) (hs : s < 6) (hg : Good (m.page (s * 1024) 1024) l free) (x : List UInt8) (hx : x.length ≤ 1018) (hf : free + pagesN x.length ≤ 64) :
    ∃ m', appendM m s x = (0, m') ∧ Calm m' ∧ m'.B = lay m.B (s * 1024 + free * 16) (sealed x) ∧ Good (m'.page (s * 1024) 1024) (l ++ [x]) (free + pagesN x.length) ∧ ∀ t, t < 6 → t ≠ s → m'.page (t * 1024) 1024 = m.page (t * 1024) 1024 := by
  have h1 := pagesN_lo x.length
  have hsl := sealed_len x
  obtain ⟨o, ho⟩ := progX_blank (6 + x.length) (sealed x) m s free (by omega) hs (by omega) hc.size hc.on hc.left (fun i hi hi2 => by
    have := hg.rest i hi hi2
    rw [page_at _ _ _ _ hi2] at this
    exact this)
  have ha : appendM m s x = progX (6 + x.length) m s free (sealed x) := by
    unfold appendM
    rw [readM_nat m s hs, hg.is, if_neg (by omega), if_neg (by unfold isSector; omega), if_neg (by simp only; omega)]
  refine ⟨_, ha.trans ho, ⟨by show (lay m.B (s * 1024 + free * 16) (sealed x)).length = 6144; rw [lay_len _ _ _ (by have := hc.size; omega), hc.size], rfl, rfl⟩, rfl, ?_, ?_⟩
  · rw [page_in m ⟨lay m.B (s * 1024 + free * 16) (sealed x), false, o, 0, m.mask⟩ s (free * 16) (sealed x) rfl hc.size hs (by omega)]
    exact good_next hg x hx hf
  · intro t ht hne
    exact page_out m ⟨lay m.B (s * 1024 + free * 16) (sealed x), false, o, 0, m.mask⟩ s t (free * 16) (sealed x) rfl hc.size hs ht hne (by omega)
theorem good_fresh (s : Nat) (hs : s < 6) : Good (Mem.fresh.page (s * 1024) 1024) [] 0 := by
  have e : Mem.fresh.page (s * 1024) 1024 = List.replicate 1024 255 := by
    have p2 : (Mem.fresh.page (s * 1024) 1024).length = 1024 := page_len _ _ _ (by rw [fresh_len]; omega)
    apply ext_getD (by rw [p2, List.length_replicate])
    intro i hi
    rw [page_at _ _ _ _ (by omega), fresh_at _ (by omega), rep_getD _ _ _ (by omega)]
  rw [e]
  exact good_new
/-- No room for a record: nothing changes. -/
theorem append_full {m : Mem} {s : Nat} {l : List (List UInt8)} {free : Nat} (hs : s < 6) (hg : Good (m.page (s * 1024) 1024) l free) (x : List UInt8) (hx : x.length ≤ 1018) (hf : 64 < free + pagesN x.length) : appendM m s x = (4, m) := by
  unfold appendM
  rw [readM_nat m s hs, hg.is, if_neg (by omega), if_neg (by unfold isSector; omega), if_pos (by simp only; omega)]
end Go.Proofs.YtmebdnblobobnaaGreatDoor

namespace Go.Proofs.YtmebdnblobobnaaGreatDoor
set_option maxRecDepth 100000
open Go.RowKit _root_.Go.Proofs.YtmebdnblobobnaaGreatDoor.Wd _root_.Go.Proofs.YtmebdnblobobnaaGreatDoor.Fm

/-- Pages, one behind the other, while the power may go. -/
theorem progX_left : ∀ (k : Nat) (x : List UInt8) (m : Mem) (s p c : Nat), x.length ≤ k → s < 6 → x.length ≤ 16 * c → 16 * c < x.length + 16 → p + c ≤ 64 → m.B.length = 6144 → m.dead = false → 1 ≤ m.left →
    (∀ i, p * 16 ≤ i → i < 1024 → m.B.getD (s * 1024 + i) 0 = 255) →
    ∃ e m2, progX k m s p x = (e, m2) ∧ m2.B.length = 6144 ∧ (∀ i, ¬ (s * 1024 + p * 16 ≤ i ∧ i < s * 1024 + p * 16 + 16 * c) → m2.B.getD i 0 = m.B.getD i 0) ∧ (e = 0 → m2.B = lay m.B (s * 1024 + p * 16) x) ∧
      (2 ≤ m.left → ∀ i, i < 16 → i < x.length → m2.B.getD (s * 1024 + p * 16 + i) 0 = x.getD i 0) ∧ (m.left = 1 → ∀ i, s * 1024 + p * 16 + 16 ≤ i → m2.B.getD i 0 = m.B.getD i 0)
  | 0, x, m, s, p, c, hk, _, _, _, _, hz, _, _, _ => by
    have : x = [] := List.eq_nil_of_length_eq_zero (by omega)
    subst this
    exact ⟨0, m, rfl, hz, fun _ _ => rfl, fun _ => (lay_nil _ _).symm, fun _ i _ h => absurd h (by simp), fun _ _ _ => rfl⟩
  | k + 1, x, m, s, p, c, hk, hs, hc1, hc2, hp, hz, hd, hL, hb => by
    by_cases hx : x = []
    · subst hx
      exact ⟨0, m, rfl, hz, fun _ _ => rfl, fun _ => (lay_nil _ _).symm, fun _ i _ h => absurd h (by simp), fun _ _ _ => rfl⟩
    · have hx0 : 0 < x.length := List.length_pos_iff.2 hx
      have ht : (x.take 16).length ≤ 16 := by rw [List.length_take]; omega
      have hpl := padded_len (x.take 16) ht
      have hset : setsB (m.page (s * 1024 + p * 16) 16) (padded (x.take 16)) = false := by
        apply sets_blank
        intro i hi
        rw [hpl] at hi
        rw [page_at m _ 16 i hi, Nat.add_assoc]
        exact hb (p * 16 + i) (by omega) (by omega)
      have hpr := programM_ok (m := m) (s := s) (p := p) (b := x.take 16) hd hs (by omega) ht hset
      have hun : ∀ q : Int × Mem, programM m s p (x.take 16) = q → progX (k + 1) m s p x = if q.1 = 0 then progX k q.2 s ((p : Int) + 1) (x.drop 16) else q := by
        intro q hq
        conv => lhs; unfold progX
        rw [if_neg hx, hq]
      by_cases h1 : m.left = 1
      · have hw : writeM m (s * 1024 + p * 16) (padded (x.take 16)) = (14, ⟨lay m.B (s * 1024 + p * 16) (mixL (m.page (s * 1024 + p * 16) (padded (x.take 16)).length) (padded (x.take 16)) m.mask), true, wrap64 (m.ops + 1), 0, []⟩) := by
          unfold writeM
          rw [if_pos h1]
        have hml : (mixL (m.page (s * 1024 + p * 16) (padded (x.take 16)).length) (padded (x.take 16)) m.mask).length = 16 := by rw [mixL_len, hpl]
        refine ⟨14, _, (hun _ (hpr.trans hw)).trans (if_neg (show ¬ (14 : Int) = 0 by decide)), ?_, ?_, ?_, ?_, ?_⟩
        · show (lay m.B (s * 1024 + p * 16) _).length = 6144
          rw [lay_len _ _ _ (by omega), hz]
        · intro i hi
          show (lay m.B (s * 1024 + p * 16) _).getD i 0 = _
          rw [lay_at _ _ _ (by omega), if_neg (by omega)]
        · intro h; exact absurd h (by decide)
        · intro h; omega
        · intro _ i hi
          show (lay m.B (s * 1024 + p * 16) _).getD i 0 = _
          rw [lay_at _ _ _ (by omega), if_neg (by omega)]
      · have hw : writeM m (s * 1024 + p * 16) (padded (x.take 16)) = (0, ⟨lay m.B (s * 1024 + p * 16) (padded (x.take 16)), m.dead, wrap64 (m.ops + 1), max (m.left - 1) 0, m.mask⟩) := by
          unfold writeM
          rw [if_neg h1]
        have hlp : lay m.B (s * 1024 + p * 16) (padded (x.take 16)) = lay m.B (s * 1024 + p * 16) (x.take 16) := lay_pad _ _ _ ht (by omega) (fun i hi => by rw [Nat.add_assoc]; exact hb (p * 16 + i) (by omega) (by omega))
        rw [hlp] at hw
        have hlen : (lay m.B (s * 1024 + p * 16) (x.take 16)).length = 6144 := by rw [lay_len _ _ _ (by omega), hz]
        have hrest : ∀ i, (p + 1) * 16 ≤ i → i < 1024 → (lay m.B (s * 1024 + p * 16) (x.take 16)).getD (s * 1024 + i) 0 = 255 := by
          intro i hi hi2
          rw [lay_at _ _ _ (by omega), if_neg (by omega)]
          exact hb i (by omega) hi2
        have hdl : (x.drop 16).length = x.length - 16 := List.length_drop
        obtain ⟨e, m2, hpg, hz2, hout, hok, _, _⟩ := progX_left k (x.drop 16) ⟨lay m.B (s * 1024 + p * 16) (x.take 16), m.dead, wrap64 (m.ops + 1), max (m.left - 1) 0, m.mask⟩ s (p + 1) (c - 1) (by omega) hs (by omega) (by omega) (by omega) hlen hd (by show 1 ≤ max (m.left - 1) 0; omega) hrest
        have hin : ∀ i, i < s * 1024 + (p + 1) * 16 → m2.B.getD i 0 = (lay m.B (s * 1024 + p * 16) (x.take 16)).getD i 0 := fun i hi => hout i (by omega)
        refine ⟨e, m2, (hun _ (hpr.trans hw)).trans ((if_pos rfl).trans hpg), hz2, ?_, ?_, ?_, ?_⟩
        · intro i hi
          by_cases h2 : s * 1024 + (p + 1) * 16 ≤ i ∧ i < s * 1024 + (p + 1) * 16 + 16 * (c - 1)
          · omega
          · rw [hout i h2]
            show (lay m.B (s * 1024 + p * 16) (x.take 16)).getD i 0 = _
            rw [lay_at _ _ _ (by omega), if_neg (by omega)]
        · intro h
          rw [hok h]
          show lay (lay m.B (s * 1024 + p * 16) (x.take 16)) (s * 1024 + (p + 1) * 16) (x.drop 16) = _
          rw [show s * 1024 + (p + 1) * 16 = s * 1024 + p * 16 + 16 by omega, lay_lay _ _ _ (by omega)]
        · intro _ i hi hi2
          rw [hin _ (by omega), lay_at _ _ _ (by omega), if_pos ⟨by omega, by rw [List.length_take]; omega⟩, show s * 1024 + p * 16 + i - (s * 1024 + p * 16) = i by omega]
          simp only [List.getD_eq_getElem?_getD]
          rw [List.getElem?_take, if_pos hi]
        · intro h; exact absurd h h1

theorem take_eq {a b : List UInt8} {k : Nat} (hl : a.length = b.length) (h : ∀ i, i < k → a.getD i 0 = b.getD i 0) : a.take k = b.take k := by
  apply ext_getD (by rw [List.length_take, List.length_take, hl])
  intro i hi
  rw [List.length_take] at hi
  have := h i (by omega)
  simp only [List.getD_eq_getElem?_getD] at this ⊢
  rw [List.getElem?_take, if_pos (by omega), List.getElem?_take, if_pos (by omega)]
  exact this
/-- At most one record more is told, of a sector that was turned behind its records. -/
theorem torn_load {b b' : List UInt8} {l : List (List UInt8)} {free q : Nat} (h : Good b l free) (hl : b'.length = 1024) (hf : free < 64) (hpre : ∀ i, i < free * 16 → b'.getD i 0 = b.getD i 0) (hrest : ∀ i, (free + q) * 16 ≤ i → i < 1024 → b'.getD i 0 = 255)
    (hq : (opened (b'.drop (free * 16))).2.2 = 0 → q ≤ pagesN (opened (b'.drop (free * 16))).1.length) : (loadM b').1 = l ∨ ∃ y, (loadM b').1 = l ++ [y] := by
  have ht : b'.take (free * 16) = b.take (free * 16) := take_eq (by rw [hl, h.len]) hpre
  have hb := h.is
  unfold loadM at hb ⊢
  rw [load_pre h.len hl free ht 64 0 (by omega) (by omega) (by rw [hb]), hb]
  simp only
  by_cases hbl : blankL (pageL b' free) = true
  · rw [load_blank _ hf hbl]
    left
    simp
  · have hbl2 : blankL (pageL b' free) = false := by simpa using hbl
    by_cases he : (opened (b'.drop (free * 16))).2.2 = 0
    · rw [load_rec hl hf hbl2 he]
      have h1 := hq he
      right
      refine ⟨(opened (b'.drop (free * 16))).1, ?_⟩
      have hlast : (loadFrom b' (free + pagesN (opened (b'.drop (free * 16))).1.length)).1 = [] := by
        by_cases h64 : 64 ≤ free + pagesN (opened (b'.drop (free * 16))).1.length
        · rw [load_end _ h64]
        · rw [load_blank _ (by omega) (blankL_all fun i hi => by
            rw [pageL_len hl (by omega)] at hi
            rw [pageL_at _ _ _ hi]
            exact hrest _ (by omega) (by omega))]
      rw [hlast]
    · rw [load_bad _ hf hbl2 he]
      left
      simp
/-- What is loaded behind an append at which the power goes, or does not. -/
theorem torn_model {m : Mem} {s : Nat} {l : List (List UInt8)} {free : Nat} (hc : Calm m) (hs : s < 6) (hg : Good (m.page (s * 1024) 1024) l free) (b : List UInt8) (hb : b.length ≤ 1018) (hf : free + pagesN b.length ≤ 64) (n : Int) (hn : 1 ≤ n) (mask : List UInt8) :
    ∃ e m2, appendM (stopM m n mask) s b = (e, m2) ∧ ((loadM (readM (startM m2) s)).1 = l ∨ ∃ y, (loadM (readM (startM m2) s)).1 = l ++ [y]) ∧ (e = 0 → (loadM (readM (startM m2) s)).1 = l ++ [b]) := by
  have hst : stopM m n mask = { m with left := n, mask := mask.take 1024 } := by unfold stopM; rw [if_pos (by omega)]
  have h1 := pagesN_lo b.length
  have h2 := pagesN_hi b.length
  have h3 := pagesN_pos b.length
  have hsl := sealed_len b
  have hblank : ∀ i, free * 16 ≤ i → i < 1024 → m.B.getD (s * 1024 + i) 0 = 255 := fun i hi hi2 => by
    have := hg.rest i hi hi2
    rw [page_at _ _ _ _ hi2] at this
    exact this
  obtain ⟨e, m2, hp, hz, hout, hok, hfirst, hone⟩ := progX_left (6 + b.length) (sealed b) { m with left := n, mask := mask.take 1024 } s free (pagesN b.length) (by omega) hs (by omega) (by omega) hf hc.size hc.on hn hblank
  have hrd : readM { m with left := n, mask := mask.take 1024 } (s : Int) = m.page (s * 1024) 1024 := readM_nat _ s hs
  have ha : appendM (stopM m n mask) s b = progX (6 + b.length) { m with left := n, mask := mask.take 1024 } s free (sealed b) := by
    rw [hst]
    unfold appendM
    rw [hrd, hg.is, if_neg (by omega), if_neg (by unfold isSector; omega), if_neg (by simp only; omega)]
  have hrd2 : readM (startM m2) (s : Int) = m2.page (s * 1024) 1024 := readM_nat _ s hs
  have hp2 : (m2.page (s * 1024) 1024).length = 1024 := page_len _ _ _ (by omega)
  refine ⟨e, m2, ha.trans hp, ?_, ?_⟩
  · rw [hrd2]
    have hat : ∀ i, i < 1024 → (m2.page (s * 1024) 1024).getD i 0 = m2.B.getD (s * 1024 + i) 0 := fun i hi => page_at _ _ _ _ hi
    have hat0 : ∀ i, i < 1024 → (m.page (s * 1024) 1024).getD i 0 = m.B.getD (s * 1024 + i) 0 := fun i hi => page_at _ _ _ _ hi
    have hpre : ∀ i, i < free * 16 → (m2.page (s * 1024) 1024).getD i 0 = (m.page (s * 1024) 1024).getD i 0 := fun i hi => by
      rw [hat i (by omega), hat0 i (by omega)]
      exact hout _ (by omega)
    by_cases hn1 : n = 1
    · refine torn_load (q := 1) hg hp2 (by omega) hpre (fun i hi hi2 => ?_) (fun _ => pagesN_pos _)
      rw [hat i hi2, hone hn1 _ (by omega)]
      exact hblank i (by omega) hi2
    · refine torn_load (q := pagesN b.length) hg hp2 (by omega) hpre (fun i hi hi2 => ?_) (fun he => ?_)
      · rw [hat i hi2, hout _ (by omega)]
        exact hblank i (by omega) hi2
      · obtain ⟨_, hlen, _⟩ := opened_le _ he
        rw [hlen]
        have h0 : ∀ i, i < 2 → ((m2.page (s * 1024) 1024).drop (free * 16)).getD i 0 = (sealed b).getD i 0 := fun i hi => by
          have := hfirst (by show 2 ≤ n; omega) i (by omega) (by omega)
          simp only [List.getD_eq_getElem?_getD, List.getElem?_drop] at this ⊢
          have h5 := hat (free * 16 + i) (by omega)
          simp only [List.getD_eq_getElem?_getD] at h5
          rw [h5, ← this]
          congr 2
          omega
        have htk : ((m2.page (s * 1024) 1024).drop (free * 16)).take 2 = (sealed b).take 2 := by
          apply ext_getD (by rw [List.length_take, List.length_take, List.length_drop]; omega)
          intro i hi
          rw [List.length_take] at hi
          have := h0 i (by omega)
          simp only [List.getD_eq_getElem?_getD] at this ⊢
          rw [List.getElem?_take, if_pos (by omega), List.getElem?_take, if_pos (by omega)]
          exact this
        have hle : Nm.leNat ((sealed b).take 2) = b.length := by
          have h6 := opened_sealed2 b [] (by omega)
          rw [List.append_nil] at h6
          obtain ⟨_, h7, _⟩ := opened_le (sealed b) (by rw [h6])
          rw [h6] at h7
          exact h7.symm
        rw [htk, hle]
        exact Nat.le_refl _
  · intro he
    rw [hrd2]
    have hB := hok he
    have hpg := page_in m m2 s (free * 16) (sealed b) hB hc.size hs (by omega)
    rw [hpg, (good_next hg b hb hf).is]
end Go.Proofs.YtmebdnblobobnaaGreatDoor

namespace Go.Proofs.YtmebdnblobobnaaGreatDoor
set_option maxRecDepth 100000
open Go.RowKit _root_.Go.Proofs.YtmebdnblobobnaaGreatDoor.Wd _root_.Go.Proofs.YtmebdnblobobnaaGreatDoor.Fm

def pagesZ (n : Int) : Int := if n < 0 ∨ 65535 < n then 0 else (n + 21) / 16
theorem pagesZ_nat (n : Nat) (h : n ≤ 65535) : pagesZ n = (pagesN n : Int) := by
  unfold pagesZ pagesN
  rw [if_neg (by omega)]
  omega

theorem pages_any (n : Int) (w : World) :
    Calls Tryz.prog 66 #[.int .i64 n] w fun e w' => e = .returned (.int .i64 (pagesZ n)) ∧ w = w' := by
  obtain ⟨R, hR⟩ : ∃ R, pagesZ n = R := ⟨_, rfl⟩
  rw [hR]
  by_cases h0 : n < 0
  · have hr : R = 0 := by rw [← hR]; unfold pagesZ; rw [if_pos (Or.inl h0)]
    subst hr
    clear hR
    go_enter Tryz.func66, Tryz.ntmps66
    go_wp2
    go_ret
    exact ⟨rfl, rfl⟩
  · by_cases h1 : n > 65535
    · have hr : R = 0 := by rw [← hR]; unfold pagesZ; rw [if_pos (Or.inr h1)]
      subst hr
      clear hR
      go_enter Tryz.func66, Tryz.ntmps66
      go_wp2
      go_ret
      exact ⟨rfl, rfl⟩
    · have hr : R = (n + 21) / 16 := by rw [← hR]; unfold pagesZ; rw [if_neg (by omega)]
      have HR := Lib.hid hr
      clear hr hR
      go_enter Tryz.func66, Tryz.ntmps66
      go_wp2
      go_ret
      refine ⟨ret_int4 ?_, rfl⟩
      rw [HR.out]
      first
        | omega
        | (rw [Int.tdiv_eq_ediv_of_nonneg (by omega)]; omega)
theorem xpages_any (n : Int) (w : World) :
    Calls Tryz.prog 59 #[.int .i64 n] w fun e w' => e = .returned (.int .i64 (pagesZ n)) ∧ w = w' := by
  obtain ⟨R, hR⟩ : ∃ R, pagesZ n = R := ⟨_, rfl⟩
  rw [hR]
  by_cases h0 : n < 0
  · have hr : R = 0 := by rw [← hR]; unfold pagesZ; rw [if_pos (Or.inl h0)]
    subst hr
    clear hR
    go_enter Tryz.func59, Tryz.ntmps59
    go_wp2
    go_ret
    exact ⟨rfl, rfl⟩
  · by_cases h1 : n > 65535
    · have hr : R = 0 := by rw [← hR]; unfold pagesZ; rw [if_pos (Or.inr h1)]
      subst hr
      clear hR
      go_enter Tryz.func59, Tryz.ntmps59
      go_wp2
      go_ret
      exact ⟨rfl, rfl⟩
    · have hr : R = (n + 21) / 16 := by rw [← hR]; unfold pagesZ; rw [if_neg (by omega)]
      have HR := Lib.hid hr
      clear hr hR
      go_enter Tryz.func59, Tryz.ntmps59
      go_wp2
      go_ret
      refine ⟨ret_int4 ?_, rfl⟩
      rw [HR.out]
      first
        | omega
        | (rw [Int.tdiv_eq_ediv_of_nonneg (by omega)]; omega)

set_option maxHeartbeats 400000 in
theorem rblank_any (A : Option Addr) (n cap : Nat) (l : List UInt8) (w : World) (hs : Shows w w.heap.size A n cap l) (hn : n ≤ 1000000) :
    Calls Tryz.prog 85 #[.slice A n cap] w fun e w' => e = .returned (.bool (blankL l)) ∧ w = w' := by
  have HL := Lib.hid hs.len
  obtain ⟨R, hR⟩ : ∃ R, blankL l = R := ⟨_, rfl⟩
  rw [hR]
  have HR := Lib.hid hR
  clear hR
  go_enter Tryz.func85, Tryz.ntmps85
  go_wp2_with fail
  go_loop [4, 7] (fun _ i => ∃ k : Nat, k ≤ n ∧ i = .int .i64 k ∧ Hid (∀ j, j < k → l.getD j 0 = 255)) (fun _ i => n - (intOf i).toNat)
  case atStart => exact ⟨0, by omega, rfl, Lib.hid (fun j hj => absurd hj (by omega))⟩
  case round =>
    obtain ⟨k, hk, rfl, hall⟩ := hrel
    by_cases hlt : k < n
    · obtain ⟨g, o, rfl, _, hc⟩ := hs.cells (by omega)
      have c1 := hc k hlt
      obtain ⟨a, ha⟩ : ∃ a, l.getD k 0 = a := ⟨_, rfl⟩
      rw [ha] at c1
      have HA := Lib.hid ha
      have hkn : (k : Int) < (n : Int) := by omega
      clear hc hs ha
      by_cases h0 : a = 255
      · subst h0
        have hz : (((255 : UInt8).toNat : Int) != 255) = false := rfl
        have hall2 : Hid (∀ j, j < k + 1 → l.getD j 0 = 255) := Lib.hid (fun j hj => by
          by_cases hjk : j = k
          · rw [hjk, HA.out]
          · exact hall.out j (by omega))
        clear hall
        go_wp2
        go_round
        case rel => exact ⟨k + 1, by omega, by go_num, hall2⟩
        case measure => simp [intOf]; omega
      · have hz0 : ¬ (a.toNat : Int) = 255 := fun h => h0 (by
          apply UInt8.toNat_inj.1
          show a.toNat = 255
          omega)
        have hz : ((a.toNat : Int) != 255) = true := by simpa using hz0
        have hT : R = false := by
          rw [← HR.out]
          exact blankL_not (i := k) (by rw [HL.out]; exact hlt) (by rw [HA.out]; exact h0)
        clear h0
        subst hT
        go_wp2
        go_ret
        exact ⟨rfl, rfl⟩
    · have hkn : ¬ (k : Int) < (n : Int) := by omega
      have hT : R = true := by
        rw [← HR.out]
        exact blankL_all fun j hj => hall.out j (by rw [HL.out] at hj; omega)
      subst hT
      clear hs
      go_wp2
      go_ret
      exact ⟨rfl, rfl⟩

set_option maxHeartbeats 400000 in
theorem xblank_any (A : Option Addr) (n cap : Nat) (l : List UInt8) (w : World) (hs : Shows w w.heap.size A n cap l) (hn : n ≤ 1000000) :
    Calls Tryz.prog 80 #[.slice A n cap] w fun e w' => e = .returned (.bool (blankL l)) ∧ w = w' := by
  have HL := Lib.hid hs.len
  obtain ⟨R, hR⟩ : ∃ R, blankL l = R := ⟨_, rfl⟩
  rw [hR]
  have HR := Lib.hid hR
  clear hR
  go_enter Tryz.func80, Tryz.ntmps80
  go_wp2_with fail
  go_loop [3] (fun i => ∃ k : Nat, k ≤ n ∧ i = .int .i64 k ∧ Hid (∀ j, j < k → l.getD j 0 = 255)) (fun i => n - (intOf i).toNat)
  case atStart => exact ⟨0, by omega, rfl, Lib.hid (fun j hj => absurd hj (by omega))⟩
  case round =>
    obtain ⟨k, hk, rfl, hall⟩ := hrel
    by_cases hlt : k < n
    · obtain ⟨g, o, rfl, _, hc⟩ := hs.cells (by omega)
      have c1 := hc k hlt
      obtain ⟨a, ha⟩ : ∃ a, l.getD k 0 = a := ⟨_, rfl⟩
      rw [ha] at c1
      have HA := Lib.hid ha
      have hkn : (k : Int) < (n : Int) := by omega
      clear hc hs ha
      by_cases h0 : a = 255
      · subst h0
        have hz : (((255 : UInt8).toNat : Int) != 255) = false := rfl
        have hall2 : Hid (∀ j, j < k + 1 → l.getD j 0 = 255) := Lib.hid (fun j hj => by
          by_cases hjk : j = k
          · rw [hjk, HA.out]
          · exact hall.out j (by omega))
        clear hall
        go_wp2
        go_round
        case rel => exact ⟨k + 1, by omega, by go_num, hall2⟩
        case measure => simp [intOf]; omega
      · have hz0 : ¬ (a.toNat : Int) = 255 := fun h => h0 (by
          apply UInt8.toNat_inj.1
          show a.toNat = 255
          omega)
        have hz : ((a.toNat : Int) != 255) = true := by simpa using hz0
        have hT : R = false := by
          rw [← HR.out]
          exact blankL_not (i := k) (by rw [HL.out]; exact hlt) (by rw [HA.out]; exact h0)
        clear h0
        subst hT
        go_wp2
        go_ret
        exact ⟨rfl, rfl⟩
    · have hkn : ¬ (k : Int) < (n : Int) := by omega
      have hT : R = true := by
        rw [← HR.out]
        exact blankL_all fun j hj => hall.out j (by rw [HL.out] at hj; omega)
      subst hT
      clear hs
      go_wp2
      go_ret
      exact ⟨rfl, rfl⟩
end Go.Proofs.YtmebdnblobobnaaGreatDoor

namespace Go.Proofs.YtmebdnblobobnaaGreatDoor
set_option maxRecDepth 100000
open Go.RowKit _root_.Go.Proofs.YtmebdnblobobnaaGreatDoor.Wd _root_.Go.Proofs.YtmebdnblobobnaaGreatDoor.Fm

theorem readM_len {m : Mem} (hm : m.B.length = 6144) (s : Int) : (readM m s).length = 1024 ∨ readM m s = [] := by
  unfold readM placeOf
  split
  · rename_i h
    left
    refine page_len m _ _ ?_
    unfold isSector at h
    simp only [Int.toNat_zero]
    omega
  · exact Or.inr rfl
theorem load_stop {L : List UInt8} (hL : L.length = 1024 ∨ L = []) {p : Nat} (h1 : ¬ p * 16 < L.length) (h2 : p * 16 ≤ L.length) : loadFrom L p = ([], p) := by
  rcases hL with hL | rfl
  · exact load_end L (by omega)
  · have : p = 0 := by
      simp at h2
      omega
    subst this
    exact load_blank [] (by omega) rfl
theorem load_one {L : List UInt8} (hL : L.length = 1024) {p : Nat} (hp : p < 64) {l0 : List (List UInt8)} (h : loadM L = (l0 ++ (loadFrom L p).1, (loadFrom L p).2)) (hb : blankL (pageL L p) = false) (he : (opened (L.drop (p * 16))).2.2 = 0) :
    loadM L = (l0 ++ [(opened (L.drop (p * 16))).1] ++ (loadFrom L (p + pagesN (opened (L.drop (p * 16))).1.length)).1, (loadFrom L (p + pagesN (opened (L.drop (p * 16))).1.length)).2) ∧ p + pagesN (opened (L.drop (p * 16))).1.length ≤ 64 := by
  rw [h, load_rec hL hp hb he]
  refine ⟨by simp, ?_⟩
  obtain ⟨o1, _, _⟩ := opened_le _ he
  rw [List.length_drop, hL] at o1
  have := pagesN_hi (opened (L.drop (p * 16))).1.length
  omega

set_option maxHeartbeats 1000000 in
theorem load_any (g : Nat) (m : Mem) (s : Int) (w : World) (h : Fl w g m) :
    Calls Tryz.prog 63 #[.pointer (some ⟨g, 0, none⟩), .int .i64 s] w fun e w' => ∃ A n cap ps, e = .returned (.tuple #[.slice A n cap, .int .i64 ((loadM (readM m s)).2 : Nat)]) ∧ OwnParts w' w.heap.size A n cap ps ∧ ps.map (·.l) = (loadM (readM m s)).1 ∧ Below w.heap.size w w' := by
  have hlen := readM_len h.size s
  obtain ⟨L, hL⟩ : ∃ L, readM m s = L := ⟨_, rfl⟩
  have HR := Lib.hid (read_any g m s w h)
  rw [hL] at hlen HR ⊢
  obtain ⟨R, hR⟩ : ∃ R, loadM L = R := ⟨_, rfl⟩
  rw [hR]
  have HL := Lib.hid (And.intro hlen hR)
  obtain ⟨i0, hi0, hz0, hz1, hz2⟩ := info_parts infoSlice
  have HI0 := Lib.hid hi0
  have HZ0 := Lib.hid hz0
  have HZ1 := Lib.hid hz1
  have HZ2 := Lib.hid hz2
  clear h hL hlen hR hi0 hz0 hz1 hz2
  go_enter Tryz.func63, Tryz.ntmps63
  go_wp2_with fail
  (with_reducible refine HR.out.mono ?_)
  rintro _ w1 ⟨A, n, cap, rfl, ho, hb⟩
  have hln : L.length = n := by have := ho.1; rw [bc_len] at this; omega
  have HS := Lib.hid (And.intro (Shows.of_own ho) (And.intro hb hln))
  have hn2 : n ≤ 1024 := by rcases HL.out.1 with h | h <;> simp [← hln, h]
  clear ho hb hln
  go_wp2_with fail
  go_loopw [4, 5] (fun l i wr => ∃ (p : Nat) (A2 : Option Addr) (k cap2 : Nat) (ps : List Part), p ≤ 64 ∧ k ≤ p ∧ i = .int .i64 p ∧ l = .slice A2 k cap2 ∧ Hid (p * 16 ≤ n ∧ OwnParts wr w1.heap.size A2 k cap2 ps ∧ Below w1.heap.size w1 wr ∧ R = (ps.map (·.l) ++ (loadFrom L p).1, (loadFrom L p).2))) (fun _ i _ => 64 - (intOf i).toNat)
  case atStart => exact ⟨0, none, 0, 0, [], by omega, by omega, rfl, rfl, Lib.hid ⟨by omega, OwnParts.nil _ _, Below.refl _ _, by rw [← HL.out.2]; rfl⟩⟩
  case round =>
    obtain ⟨p, A2, k, cap2, ps, hp, hkp, rfl, rfl, HJ⟩ := hrel
    by_cases hlt : p * 16 < n
    · have hL4 : L.length = 1024 := by
        rcases HL.out.1 with h | h
        · exact h
        · have := HS.out.2.2
          rw [h] at this
          simp at this
          omega
      have hn4 : n = 1024 := by have := HS.out.2.2; omega
      subst hn4
      have hp4 : p < 64 := by omega
      have hsw := HS.out.1.below HJ.out.2.2.1
      have hcap := hsw.le
      obtain ⟨G, o, rfl, _, _⟩ := hsw.spot (by omega)
      have hd := (hsw.drop (k := p * 16) (by omega)).more HJ.out.2.2.1.size
      rw [if_neg (by omega), Option.map_some, Addr.add_lit] at hd
      have ht := hd.take (k := 16) (by omega)
      have HD := Lib.hid (And.intro hd ht)
      have hpi : (p : Int) * 16 < 1024 := by omega
      have hc1 : ¬ (cap = p * 16) := by omega
      have hc2 : p * 16 ≤ cap := by omega
      have HL4 := Lib.hid hL4
      clear hsw hd ht hL4
      have HBL := Lib.hid (rblank_any _ _ _ _ wr HD.out.2 (by decide))
      go_wp2_with fail
      (with_reducible refine HBL.out.mono ?_)
      rintro _ w2 ⟨rfl, rfl⟩
      clear HBL
      by_cases hB : blankL ((L.drop (p * 16)).take 16) = true
      · have hE : R = (ps.map (·.l), p) := by
          rw [HJ.out.2.2.2, load_blank L hp4 hB, List.append_nil]
        have HE := Lib.hid hE
        rw [hB]
        clear hB hE
        go_wp2
        go_ret2
        rw [HE.out]
        exact ⟨A2, k, cap2, ps, rfl, ⟨own_mono HJ.out.2.1.own HS.out.2.1.size, fun q hq => (HJ.out.2.1.each q hq).mono HS.out.2.1.size⟩, rfl, step_below HS.out.2.1 HJ.out.2.2.1⟩
      · have hB2 : blankL ((L.drop (p * 16)).take 16) = false := by simpa using hB
        have HO := Lib.hid (open_any_own _ _ _ _ wr HD.out.1 (by omega))
        rw [hB2]
        have HB2 := Lib.hid hB2
        clear hB hB2
        go_wp2_with fail
        (with_reducible refine HO.out.mono ?_)
        rintro _ w3 ⟨A3, cap3, rfl, ho3, hb3⟩
        clear HO
        obtain ⟨x, y, z, hx⟩ : ∃ x y z, opened (L.drop (p * 16)) = (x, y, z) := ⟨_, _, _, rfl⟩
        rw [hx] at ho3 ⊢
        simp only at ho3 ⊢
        have HO3 := Lib.hid (And.intro ho3 (And.intro hb3 hx))
        clear ho3 hb3 hx
        by_cases hz : z = 0
        · subst hz
          have hone := load_one HL4.out hp4 (HL.out.2.trans HJ.out.2.2.2) HB2.out (by rw [HO3.out.2.2])
          rw [HO3.out.2.2] at hone
          simp only at hone
          rw [HL.out.2] at hone
          have hj := HJ.out.2.1.below HO3.out.2.1
          have hpo : PartOk w3 w1.heap.size ⟨A3, x.length, cap3, x⟩ := (PartOk.of_own HO3.out.1).mono HJ.out.2.2.1.size
          have hx16 : x.length ≤ 65535 := by
            have h := opened_le (L.drop (p * 16)) (by rw [HO3.out.2.2])
            rw [HO3.out.2.2] at h
            simp only at h
            have := leNat_two (L.drop (p * 16))
            omega
          have hpz := pagesZ_nat x.length hx16
          have hpp := pagesN_pos x.length
          obtain ⟨q, hq⟩ : ∃ q, pagesN x.length = q := ⟨_, rfl⟩
          rw [hq] at hone hpz hpp
          have hb4 := step_below HJ.out.2.2.1 HO3.out.2.1
          have HX := Lib.hid (And.intro hj (And.intro hpo (And.intro hone.1 hb4)))
          have hq64 := hone.2
          have HOWN := Lib.hid (hj.own.alloc (.cells #[.slice A3 x.length cap3] 29))
          have HPZ := Lib.hid hpz
          clear hone hj hpo hb4 hq hpz
          go_wp2_with (at_builtin; refine wpList_append_own _ rfl (.tmp 37) (.tmp 39) 98 rfl w1.heap.size 29 i0 (.slice none 0 0) 1 24 Tryz.underlying98 HI0.out HZ0.out HZ1.out HZ2.out rfl (by decide) _ _ _ rfl HOWN.out ⟨w3.heap.size, 0, none⟩ 1 1 [.slice A3 x.length cap3] rfl rfl ?c1 ?c2 ?c3 ?c4 ?c5 ?_)
          case c1 => exact new_one w3 _ _
          case c2 => intro u hu; simp only [List.mem_singleton] at hu; subst hu; rfl
          case c3 => unfold maxLen; omega
          case c4 => omega
          case c5 => exact Nat.le_trans HX.out.2.2.2.size (by simp)
          intro v' w4 hown4 hg4 _
          obtain ⟨A4, cap4, rfl, hP4⟩ := HX.out.1.step ⟨A3, x.length, cap3, x⟩ HX.out.2.1 _ v' hown4 hg4
          have hb4 : Below w1.heap.size w1 w4 := (below_new HX.out.2.2.2 (.cells #[.slice A3 x.length cap3] 29)).grown hg4 (Nat.le_trans HX.out.2.2.2.size (by simp)) (fun k hk => (HX.out.1.own.lt k hk).1)
          have hR4 : R = ((ps ++ [(⟨A3, x.length, cap3, x⟩ : Part)]).map (fun q : Part => q.l) ++ (loadFrom L (p + q)).1, (loadFrom L (p + q)).2) := by
            rw [HX.out.2.2.1, List.map_append]
            rfl
          have HN := Lib.hid (And.intro hP4 (And.intro hb4 hR4))
          clear hown4 hg4 hP4 hb4 hR4 HOWN
          go_wp2_with fail
          (with_reducible refine (pages_any _ _).mono ?_)
          rintro _ w5 ⟨rfl, rfl⟩
          rw [HPZ.out]
          go_wp2_with fail
          go_roundw
          case rel => exact ⟨p + q, A4, k + 1, cap4, ps ++ [⟨A3, x.length, cap3, x⟩], hq64, by omega, by go_num, rfl, Lib.hid ⟨by omega, HN.out.1, HN.out.2.1, HN.out.2.2⟩⟩
          case measure => simp [intOf]; omega
        · have hE : R = (ps.map (·.l), 64) := by
            rw [HJ.out.2.2.2, load_bad L hp4 HB2.out (by rw [HO3.out.2.2]; exact hz), List.append_nil]
          have HE := Lib.hid hE
          clear hE
          go_wp2
          go_ret2
          rw [HE.out]
          have hj := HJ.out.2.1.below HO3.out.2.1
          exact ⟨A2, k, cap2, ps, rfl, ⟨own_mono hj.own HS.out.2.1.size, fun q hq => (hj.each q hq).mono HS.out.2.1.size⟩, rfl, step_below (step_below HS.out.2.1 HJ.out.2.2.1) HO3.out.2.1⟩
    · have hE : R = (ps.map (·.l), p) := by
        rw [HJ.out.2.2.2, load_stop HL.out.1 (by rw [HS.out.2.2]; exact hlt) (by rw [HS.out.2.2]; exact HJ.out.1), List.append_nil]
      have HE := Lib.hid hE
      have hpi : ¬ (p : Int) * 16 < n := by omega
      clear hE
      go_wp2
      go_ret2
      rw [HE.out]
      exact ⟨A2, k, cap2, rfl, ps, ⟨own_mono HJ.out.2.1.own HS.out.2.1.size, fun q hq => (HJ.out.2.1.each q hq).mono HS.out.2.1.size⟩, rfl, step_below HS.out.2.1 HJ.out.2.2.1⟩
end Go.Proofs.YtmebdnblobobnaaGreatDoor

namespace Go.Proofs.YtmebdnblobobnaaGreatDoor
set_option maxRecDepth 100000
open Go.RowKit _root_.Go.Proofs.YtmebdnblobobnaaGreatDoor.Wd _root_.Go.Proofs.YtmebdnblobobnaaGreatDoor.Fm

/-- The bytes of a page, with 255 behind. -/
def cutAt (x : List UInt8) (i : Nat) : List UInt8 := (x.drop (16 * i)).take 16
theorem cutAt_le (x : List UInt8) (i : Nat) : (cutAt x i).length ≤ 16 := by unfold cutAt; rw [List.length_take]; omega
theorem rest_next (x : List UInt8) (i k : Nat) (hk : k = min 16 (x.drop (16 * i)).length) : (x.drop (16 * i)).drop k = x.drop (16 * (i + 1)) := by
  rw [List.drop_drop]
  rcases Nat.lt_or_ge (x.drop (16 * i)).length 16 with h | h
  · rw [Nat.min_eq_right (by omega)] at hk
    rw [List.length_drop] at hk h
    rw [List.drop_eq_nil_of_le (by omega), List.drop_eq_nil_of_le (by omega)]
  · rw [Nat.min_eq_left h] at hk
    subst hk
    congr 1
/-- Pages that have been cut. -/
structure Pages (x : List UInt8) (ps : List Part) : Prop where
  each : ∀ i (h : i < ps.length), ps[i].l = padded (cutAt x i) ∧ ps[i].n = 16
theorem Pages.nil (x : List UInt8) : Pages x [] := ⟨fun i h => by simp at h⟩
theorem Pages.step {x : List UInt8} {ps : List Part} (h : Pages x ps) (p : Part) (i : Nat) (hi : ps.length = i) (hl : p.l = padded (cutAt x i)) (hn : p.n = 16) : Pages x (ps ++ [p]) := by
  refine ⟨fun j hj => ?_⟩
  rw [List.length_append, List.length_singleton] at hj
  by_cases hji : j < ps.length
  · rw [List.getElem_append_left hji]
    exact h.each j hji
  · have : j = i := by omega
    subst this
    simp only [← hi, List.getElem_append_right (Nat.le_refl _), Nat.sub_self, List.getElem_cons_zero]
    rw [hi]
    exact ⟨hl, hn⟩

theorem splice_pad (y : List UInt8) (r : List Value) (h : y.length ≤ 16) : splice (bc (List.replicate 16 255) ++ r) 0 (bc y) = bc (padded y) ++ r := by
  unfold splice padded
  rw [List.take_zero, List.nil_append, Nat.zero_add, bc_len, bc_app, List.append_assoc, List.drop_append_of_le_length (by rw [bc_len, List.length_replicate]; exact h)]
  congr 2
  unfold bc
  rw [← List.map_drop, List.drop_replicate]

set_option maxHeartbeats 1000000 in
theorem split_any (A : Option Addr) (n cap : Nat) (x : List UInt8) (w : World) (hs : Shows w w.heap.size A n cap x) (hn : n ≤ 100000) :
    Calls Tryz.prog 68 #[.slice A n cap] w fun e w' => ∃ A2 k cap2 ps, e = .returned (.slice A2 k cap2) ∧ OwnParts w' w.heap.size A2 k cap2 ps ∧ Pages x ps ∧ n ≤ 16 * k ∧ 16 * k < n + 16 ∧ Below w.heap.size w w' := by
  have HS := Lib.hid hs
  obtain ⟨i0, hi0, hz0, hz1, hz2⟩ := info_parts infoSlice
  have HI0 := Lib.hid hi0
  have HZ0 := Lib.hid hz0
  have HZ1 := Lib.hid hz1
  have HZ2 := Lib.hid hz2
  obtain ⟨i1, hj0, hy0, hy1, hy2⟩ := info_parts infoByte
  have hs1 : (Tryz.prog.info? 5).map (·.size) = some 1 := by rw [hj0]; simp [hy1]
  have HS1 := Lib.hid hs1
  have HLX := Lib.hid hs.len
  clear hs hi0 hz0 hz1 hz2 hs1 hj0 hy0 hy1 hy2
  go_enter Tryz.func68, Tryz.ntmps68
  go_wp2_with fail
  go_loopw [0, 3] (fun b l wr => ∃ (i : Nat) (A1 : Option Addr) (n1 cap1 : Nat) (A2 : Option Addr) (cap2 : Nat) (ps : List Part), 16 * i < n + 16 ∧ n1 ≤ n ∧ b = .slice A1 n1 cap1 ∧ l = .slice A2 i cap2 ∧ Hid (Shows w w.heap.size A1 n1 cap1 (x.drop (16 * i)) ∧ OwnParts wr w.heap.size A2 i cap2 ps ∧ Pages x ps ∧ Below w.heap.size w wr ∧ n1 = n - 16 * i)) (fun b _ _ => match b with | .slice _ k _ => k | _ => 0)
  case atStart => exact ⟨0, A, n, cap, none, 0, [], by omega, by omega, rfl, rfl, Lib.hid ⟨by simpa using HS.out, OwnParts.nil _ _, Pages.nil _, Below.refl _ _, by omega⟩⟩
  case round =>
    obtain ⟨i, A1, n1, cap1, A2, cap2, ps, hi, hn1, rfl, rfl, HJ⟩ := hrel
    by_cases hlt : 0 < n1
    · have hlti : (0 : Int) < (n1 : Int) := by omega
      have b1 := below_new (Below.refl wr.heap.size wr) (.cells #[.int .u8 255] 5)
      have hrep := repeat_any 255 wr.heap.size 1 16 (wr.alloc (.cells #[.int .u8 255] 5)) (by
        have := new_one wr (.int .u8 255) 5 0 (.int .u8 255) rfl
        rw [Addr.add_lit] at this
        exact this) (by omega) (by omega) (by omega)
      rw [show ((16 : Nat) : Int) = 16 from rfl] at hrep
      have HREP := Lib.hid hrep
      have HB1 := Lib.hid b1
      clear hrep b1
      go_wp2_with fail
      (with_reducible refine HREP.out.mono ?_)
      rintro _ w2 ⟨r, rfl, hrow, hb2⟩
      obtain ⟨G, hG⟩ : ∃ G, (wr.alloc (.cells #[.int .u8 255] 5)).heap.size = G := ⟨_, rfl⟩
      rw [hG] at hrow hb2 ⊢
      have hGw : wr.heap.size ≤ G := by rw [← hG]; simp
      have hb3 : Below wr.heap.size wr w2 := by
        have := HB1.out.trans (hb2.mono hGw)
        exact this
      have hsx := HJ.out.1.below (step_below HJ.out.2.2.2.1 hb3)
      have HX := Lib.hid (And.intro hrow (And.intro hb3 (And.intro hsx hGw)))
      obtain ⟨y, hy⟩ : ∃ y, cutAt x i = y := ⟨_, rfl⟩
      obtain ⟨k, hk⟩ : ∃ k, y.length = k := ⟨_, rfl⟩
      have hkm : k = min 16 n1 := by
        rw [← hk, ← hy]
        unfold cutAt
        rw [List.length_take, HJ.out.1.len]
      have HY := Lib.hid (And.intro hy hk)
      have hk16 : k ≤ 16 := by omega
      have hk0 : 0 < k := by omega
      have hkn : k ≤ n1 := by omega
      have HKM := Lib.hid hkm
      clear hkm
      have hcap := hsx.le
      obtain ⟨A5, hA5⟩ : ∃ A5, (if cap1 = k then A1 else A1.map (·.add k)) = A5 := ⟨_, rfl⟩
      have hcut : ∀ W : World, (Instr.sliceAt 29 (.slice A1 n1 cap1) (some (.int .i64 (k : Int))) none none).run Tryz.prog W = .ok (.slice A5 (n1 - k) (cap1 - k)) W := fun W => by
        rw [cut_lo W A1 n1 cap1 k hkn, hA5]
      have hdr := HJ.out.1.drop hkn
      rw [hA5, rest_next x i k (by rw [HJ.out.1.len]; exact HKM.out)] at hdr
      have HDR := Lib.hid hdr
      clear hrow hb2 hb3 hsx hG HREP HB1 hA5 hdr
      go_wp2_with (refine wpList_copy_splice rfl (.tmp 11) (.tmp 12) 29 29 rfl 5 Tryz.underlying29 HS1.out _ _ 16 16 n1 cap1 rfl rfl G 0 _ 5 HX.out.1 (bc y) ?c1 ?c2 ?c3 (bc_one y) wr.heap.size wr HX.out.2.1 HX.out.2.2.2 ?_)
      case c1 => rw [bc_len, HY.out.2, HKM.out, Nat.min_comm]
      case c2 =>
        intro h0
        obtain ⟨fg, fo, rfl, hfb, hfc⟩ := HX.out.2.2.1.spot (by omega)
        refine ⟨_, rfl, fun j v hj => ?_⟩
        obtain ⟨hj2, rfl⟩ := bc_at hj
        rw [Addr.add_lit]
        have hyl := HY.out.2
        have hj3 : j < (x.drop (16 * i)).length := by rw [HX.out.2.2.1.len]; omega
        rw [hfc j hj3]
        have : y[j] = (x.drop (16 * i))[j] := by
          simp only [← HY.out.1, cutAt, List.getElem_take]
        rw [this]
      case c3 =>
        rw [bc_len, HY.out.2]
        simp [bc_len]
        omega
      intro w3 hr3 hb3
      rw [show (bc y).length = k by rw [bc_len, HY.out.2]]
      have e2 : splice (bc (List.replicate 16 255) ++ r) 0 (bc y) = bc (padded y) ++ r := splice_pad y r (by rw [HY.out.2]; exact hk16)
      have hpl : (padded y).length = 16 := padded_len y (by rw [HY.out.2]; exact hk16)
      have r3 : Row w3 G 5 (bc (padded y) ++ r) := by rw [← e2]; exact hr3.out
      have hps : PartOk w3 w.heap.size ⟨some ⟨G, 0, none⟩, 16, 16, padded y⟩ := by
        refine ⟨row_shows r3 hpl (show (16 : Nat) ≤ maxLen by decide), fun a ha => ?_⟩
        injection ha with ha
        subst ha
        exact ⟨Nat.le_trans HJ.out.2.2.2.1.size hGw, _, r3⟩
      have hb4 := step_below HJ.out.2.2.2.1 hb3
      have hj3 := HJ.out.2.1.below hb3
      have hpg := HJ.out.2.2.1.step ⟨some ⟨G, 0, none⟩, 16, 16, padded y⟩ i HJ.out.2.1.len (by rw [HY.out.1]) rfl
      have HN := Lib.hid (And.intro hps (And.intro hj3 (And.intro hpg hb4)))
      have HOWN := Lib.hid (hj3.own.alloc (.cells #[.slice (some ⟨G, 0, none⟩) 16 16] 29))
      clear hr3 hb3 e2 hpl r3 hps hb4 hj3 hpg
      go_wp2_with (at_builtin; refine wpList_append_own _ rfl (.tmp 15) (.tmp 17) 98 rfl w.heap.size 29 i0 (.slice none 0 0) 1 24 Tryz.underlying98 HI0.out HZ0.out HZ1.out HZ2.out rfl (by decide) _ _ _ rfl HOWN.out ⟨w3.heap.size, 0, none⟩ 1 1 [.slice (some ⟨G, 0, none⟩) 16 16] rfl rfl ?c1 ?c2 ?c3 ?c4 ?c5 ?_)
      case c1 => exact new_one w3 _ _
      case c2 => intro u hu; simp only [List.mem_singleton] at hu; subst hu; rfl
      case c3 => unfold maxLen; omega
      case c4 => omega
      case c5 => exact Nat.le_trans HN.out.2.2.2.size (by simp)
      intro v' w4 hown4 hg4 _
      obtain ⟨A4, cap4, rfl, hP4⟩ := HN.out.2.1.step ⟨some ⟨G, 0, none⟩, 16, 16, padded y⟩ HN.out.1 _ v' hown4 hg4
      have hb4 : Below w.heap.size w w4 := (below_new HN.out.2.2.2 (.cells #[.slice (some ⟨G, 0, none⟩) 16 16] 29)).grown hg4 (Nat.le_trans HN.out.2.2.2.size (by simp)) (fun k hk => (HN.out.2.1.own.lt k hk).1)
      have HM := Lib.hid (And.intro hP4 hb4)
      have hnx : 16 * (i + 1) < n + 16 ∧ n1 - k = n - 16 * (i + 1) := by have := HJ.out.2.2.2.2; have := HKM.out; omega
      have HNX := Lib.hid hnx
      clear hown4 hg4 hP4 hb4 HOWN hnx
      go_wp2_with fail
      go_roundw
      case rel => exact ⟨i + 1, A5, n1 - k, cap1 - k, A4, cap4, ps ++ [⟨some ⟨G, 0, none⟩, 16, 16, padded y⟩], HNX.out.1, by omega, rfl, rfl, Lib.hid ⟨HDR.out, HM.out.1, HN.out.2.2.1, HM.out.2, HNX.out.2⟩⟩
      case measure =>
        show n1 - k < n1
        omega
    · have hz : n1 = 0 := by omega
      subst hz
      have HB := Lib.hid (show n ≤ 16 * i by have := HJ.out.2.2.2.2; omega)
      go_wp2
      go_ret
      exact ⟨A2, i, cap2, ps, rfl, HJ.out.2.1, HJ.out.2.2.1, HB.out, by omega, HJ.out.2.2.2.1⟩
end Go.Proofs.YtmebdnblobobnaaGreatDoor

namespace Go.Proofs.YtmebdnblobobnaaGreatDoor
set_option maxRecDepth 100000
open Go.RowKit _root_.Go.Proofs.YtmebdnblobobnaaGreatDoor.Wd _root_.Go.Proofs.YtmebdnblobobnaaGreatDoor.Fm

theorem padded_padded (b : List UInt8) (h : b.length ≤ 16) : padded (padded b) = padded b := by
  have hl := padded_len b h
  have e : padded (padded b) = padded b ++ List.replicate (16 - (padded b).length) 255 := rfl
  rw [e, hl, Nat.sub_self, List.replicate_zero, List.append_nil]
theorem programM_pad (m : Mem) (s p : Int) (b : List UInt8) (h : b.length ≤ 16) : programM m s p (padded b) = programM m s p b := by
  unfold programM
  rw [padded_padded b h, padded_len b h]
  by_cases h1 : m.dead = true
  · rw [if_pos h1, if_pos h1]
  · rw [if_neg h1, if_neg h1]
    by_cases h2 : ¬ isPage s p
    · rw [if_pos h2, if_pos h2]
    · rw [if_neg h2, if_neg h2, if_neg (show ¬ 16 < 16 by omega), if_neg (show ¬ 16 < b.length by omega)]
theorem progX_step (x : List UInt8) (i : Nat) (h : 16 * i < x.length) (m : Mem) (s p : Int) : progX (x.length - i) m s p (x.drop (16 * i)) =
    if (programM m s p (cutAt x i)).1 = 0 then progX (x.length - (i + 1)) (programM m s p (cutAt x i)).2 s (p + 1) (x.drop (16 * (i + 1))) else programM m s p (cutAt x i) := by
  rw [show x.length - i = (x.length - (i + 1)) + 1 by omega]
  have hne : ¬ x.drop (16 * i) = [] := by
    intro e
    have := congrArg List.length e
    rw [List.length_drop] at this
    simp at this
    omega
  conv => lhs; unfold progX
  rw [if_neg hne, List.drop_drop, show 16 * i + 16 = 16 * (i + 1) by omega]
  rfl
theorem progX_end (k : Nat) (x : List UInt8) (i : Nat) (h : x.length ≤ 16 * i) (m : Mem) (s p : Int) : progX k m s p (x.drop (16 * i)) = (0, m) := by
  rw [List.drop_eq_nil_of_le h]
  cases k with
  | zero => rfl
  | succ k => unfold progX; rw [if_pos rfl]

theorem OwnParts.beside {w w' : World} {base g : Nat} {A : Option Addr} {n cap : Nat} {ps : List Part} {m : Mem} (h : OwnParts w base A n cap ps) (hf : Fl w g m) (hg : w.grownBy w' (some g)) : OwnParts w' base A n cap ps := by
  refine h.kept hg (fun k cs T e hT hc => ?_)
  injection e with e
  subst e
  obtain ⟨A1, n1, cap1, hr, _⟩ := hf.spot
  unfold Row at hr
  rw [hr] at hc
  injection hc with hc
  injection hc with _ h2 _
  rcases hT with rfl | rfl
  · exact absurd h2 (by decide)
  · exact absurd h2 (by decide)

set_option maxHeartbeats 1000000 in
theorem rprogram_any (g : Nat) (m : Mem) (s : Int) (p : Nat) (A : Option Addr) (k cap base : Nat) (ps : List Part) (x : List UInt8) (w : World) (h : Fl w g m) (ho : OwnParts w base A k cap ps) (hx : Pages x ps) (h1 : x.length ≤ 16 * k) (h2 : 16 * k < x.length + 16) (hp : p ≤ 64) (hl : x.length ≤ 100000) :
    Calls Tryz.prog 67 #[.pointer (some ⟨g, 0, none⟩), .int .i64 s, .int .i64 (p : Int), .slice A k cap] w fun e w' => e = .returned (.int .i64 (progX x.length m s p x).1) ∧ Fl w' g (progX x.length m s p x).2 ∧ w.grownBy w' (some g) := by
  have HH := Lib.hid (And.intro h (And.intro ho (And.intro hx (And.intro h1 h2))))
  obtain ⟨R, hR⟩ : ∃ R, progX x.length m s p x = R := ⟨_, rfl⟩
  rw [hR]
  have HR := Lib.hid hR
  have hk : k ≤ 10000 := by omega
  clear h ho hx hR h1 h2
  go_enter Tryz.func67, Tryz.ntmps67
  go_wp2_with fail
  go_loopw [14] (fun i wr => ∃ (j : Nat), j ≤ k ∧ i = .int .i64 j ∧ Hid (∃ mj : Mem, Fl wr g mj ∧ OwnParts wr base A k cap ps ∧ w.grownBy wr (some g) ∧ R = progX (x.length - j) mj s ((p : Int) + (j : Int)) (x.drop (16 * j)))) (fun i _ => k - (intOf i).toNat)
  case atStart => exact ⟨0, by omega, rfl, Lib.hid ⟨m, HH.out.1, HH.out.2.1, grow_refl _ _, by rw [← HR.out]; simp⟩⟩
  case round =>
    obtain ⟨j, hj, rfl, HJ⟩ := hrel
    obtain ⟨mj, hf, ho, hg, hRj⟩ := HJ.out
    clear HJ
    by_cases hlt : j < k
    · have hji : (j : Int) < (k : Int) := by omega
      have hjl : j < ps.length := by rw [ho.len]; exact hlt
      obtain ⟨G, o, rfl, _, hc⟩ := ho.laid.spot (by omega)
      have hcj := hc j hjl
      have hsh := (ho.each ps[j] (List.getElem_mem hjl)).shows
      obtain ⟨hpl, hpn⟩ := HH.out.2.2.1.each j hjl
      obtain ⟨P, hP⟩ : ∃ P, ps[j] = P := ⟨_, rfl⟩
      rw [hP] at hcj hsh hpl hpn
      obtain ⟨pA, pn, pc, pl⟩ := P
      simp only at hcj hsh hpl hpn
      subst hpl hpn
      have hlt16 : 16 * j < x.length := by have := HH.out.2.2.2.2; omega
      rw [progX_step x j hlt16] at hRj
      have hcall := program_any g mj s ((p : Int) + (j : Int)) pA 16 pc (padded (cutAt x j)) wr hf hsh (by decide)
      rw [programM_pad _ _ _ _ (cutAt_le x j)] at hcall
      obtain ⟨Q, hQ⟩ : ∃ Q, programM mj s ((p : Int) + (j : Int)) (cutAt x j) = Q := ⟨_, rfl⟩
      rw [hQ] at hRj hcall
      have HC := Lib.hid hcall
      have HX := Lib.hid (And.intro hRj (And.intro hf (And.intro ho hg)))
      clear hc hsh hP hjl hlt16 hRj hcall hQ hf ho hg
      go_wp2_with fail
      (with_reducible refine HC.out.mono ?_)
      rintro _ w2 ⟨rfl, hf2, hg2⟩
      have ho2 := HX.out.2.2.1.beside HX.out.2.1 hg2
      have hg3 := grow_trans HX.out.2.2.2 hg2 (.inl rfl)
      obtain ⟨q, mq⟩ := Q
      have hRj := HX.out.1
      simp only at hRj hf2 ⊢
      by_cases hz : q = 0
      · subst hz
        rw [if_pos rfl] at hRj
        have HN := Lib.hid (And.intro hf2 (And.intro ho2 (And.intro hg3 hRj)))
        clear hf2 hg2 ho2 hg3 hRj HC HX
        go_wp2
        go_roundw
        case rel => exact ⟨j + 1, by omega, by go_num, Lib.hid ⟨mq, HN.out.1, HN.out.2.1, HN.out.2.2.1, by rw [HN.out.2.2.2]; congr 1⟩⟩
        case measure => simp [intOf]; omega
      · rw [if_neg hz] at hRj
        have HN := Lib.hid (And.intro hf2 (And.intro hg3 hRj))
        clear hf2 hg2 ho2 hg3 hRj HC HX
        go_wp2
        go_ret
        rw [HN.out.2.2]
        exact ⟨rfl, HN.out.1, HN.out.2.1⟩
    · have hjk : j = k := by omega
      have hji : ¬ (j : Int) < (k : Int) := by omega
      rw [progX_end _ x j (by rw [hjk]; exact HH.out.2.2.2.1)] at hRj
      have HN := Lib.hid (And.intro hf (And.intro hg hRj))
      clear hf ho hg hRj
      go_wp2
      go_ret
      rw [HN.out.2.2]
      exact ⟨rfl, HN.out.1, HN.out.2.1⟩

theorem appendM_long {m : Mem} {s : Int} {b : List UInt8} (h : 1018 < b.length) : appendM m s b = (5, m) := by unfold appendM; rw [if_pos h]
theorem appendM_addr {m : Mem} {s : Int} {b : List UInt8} (h : ¬ 1018 < b.length) (hs : ¬ isSector s) : appendM m s b = (12, m) := by unfold appendM; rw [if_neg h, if_pos hs]
theorem appendM_many {m : Mem} {s : Int} {b : List UInt8} (h : ¬ 1018 < b.length) (hs : isSector s) (hm : 64 < (loadM (readM m s)).2 + pagesN b.length) : appendM m s b = (4, m) := by
  unfold appendM
  rw [if_neg h, if_neg (not_not_intro hs), if_pos hm]
theorem appendM_go {m : Mem} {s : Int} {b : List UInt8} (h : ¬ 1018 < b.length) (hs : isSector s) (hm : ¬ 64 < (loadM (readM m s)).2 + pagesN b.length) : appendM m s b = progX (sealed b).length m s ((loadM (readM m s)).2 : Int) (sealed b) := by
  unfold appendM
  rw [if_neg h, if_neg (not_not_intro hs), if_neg hm, sealed_len]

set_option maxHeartbeats 1000000 in
theorem append_any (g : Nat) (m : Mem) (s : Int) (A : Option Addr) (n cap : Nat) (b : List UInt8) (w : World) (h : Fl w g m) (hb : Shows w w.heap.size A n cap b) (hn : n ≤ 1000000) :
    Calls Tryz.prog 39 #[.pointer (some ⟨g, 0, none⟩), .int .i64 s, .slice A n cap] w fun e w' => e = .returned (.int .i64 (appendM m s b).1) ∧ Fl w' g (appendM m s b).2 ∧ w.grownBy w' (some g) := by
  have hbl := hb.len
  have HH := Lib.hid (And.intro h hb)
  by_cases h1 : 1018 < n
  · rw [appendM_long (by omega)]
    have h1i : (n : Int) > 1018 := by omega
    clear h hb
    go_enter Tryz.func39, Tryz.ntmps39
    go_wp2
    go_ret
    exact ⟨rfl, HH.out.1, grow_refl _ _⟩
  · have h1i : ¬ (n : Int) > 1018 := by omega
    by_cases hs : isSector s
    · have hs1 : ¬ s < 0 := by have := hs.1; omega
      have hs2 : ¬ s ≥ 6 := by have := hs.2; omega
      have HL := Lib.hid (load_any g m s w h)
      have HLEN := Lib.hid (readM_len h.size s)
      obtain ⟨fr, hfr⟩ : ∃ fr, (loadM (readM m s)).2 = fr := ⟨_, rfl⟩
      have hfr64 : fr ≤ 64 := by
        rw [← hfr]
        rcases HLEN.out with h2 | h2
        · exact (load_bd h2 64 0 (by omega) (by omega)).2
        · rw [h2, show loadM [] = ([], 0) from load_blank [] (by omega) rfl]
          simp
      rw [hfr] at HL
      have hpz := pagesZ_nat n (by omega)
      obtain ⟨q, hq⟩ : ∃ q, pagesN n = q := ⟨_, rfl⟩
      have hq70 : q ≤ 70 := by have := pagesN_hi n; omega
      rw [hq] at hpz
      have HPZ := Lib.hid hpz
      by_cases h3 : 64 < fr + q
      · rw [appendM_many (by omega) hs (by rw [hfr, hbl, hq]; exact h3)]
        have h3i : (fr : Int) + (q : Int) > 64 := by omega
        clear h hb hs hfr hq hpz
        go_enter Tryz.func39, Tryz.ntmps39
        go_wp2_with fail
        (with_reducible refine HL.out.mono ?_)
        rintro _ w1 ⟨A1, n1, cap1, ps, rfl, _, _, hb1⟩
        have HB1 := Lib.hid hb1
        clear hb1
        go_wp2_with fail
        (with_reducible refine (pages_any _ _).mono ?_)
        rintro _ w2 ⟨rfl, rfl⟩
        rw [HPZ.out]
        go_wp2
        go_ret
        exact ⟨rfl, HH.out.1.below HB1.out, below_grow HB1.out _⟩
      · have hgo := appendM_go (m := m) (s := s) (b := b) (by omega) hs (by rw [hfr, hbl, hq]; exact h3)
        rw [hfr] at hgo
        obtain ⟨R, hR⟩ : ∃ R, appendM m s b = R := ⟨_, rfl⟩
        rw [hR] at hgo ⊢
        have HG := Lib.hid hgo
        have h3i : ¬ (fr : Int) + (q : Int) > 64 := by omega
        have hsl := sealed_len b
        rw [hbl] at hsl
        have HSL := Lib.hid hsl
        clear h hb hs hfr hq hpz hR hgo hsl
        go_enter Tryz.func39, Tryz.ntmps39
        go_wp2_with fail
        (with_reducible refine HL.out.mono ?_)
        rintro _ w1 ⟨A1, n1, cap1, ps, rfl, _, _, hb1⟩
        have HB1 := Lib.hid hb1
        clear hb1 HL
        go_wp2_with fail
        (with_reducible refine (pages_any _ _).mono ?_)
        rintro _ w2 ⟨rfl, rfl⟩
        rw [HPZ.out]
        have HSE := Lib.hid (seal_any A n cap b w1 ((HH.out.2.below HB1.out).more HB1.out.size) (by omega))
        go_wp2_with fail
        (with_reducible refine HSE.out.mono ?_)
        rintro _ w2 ⟨A2, cap2, rfl, hs2', hb2⟩
        have HB2 := Lib.hid (And.intro hs2' (step_below HB1.out hb2))
        clear hs2' hb2 HSE
        have HSP := Lib.hid (split_any A2 (6 + n) cap2 (sealed b) w2 HB2.out.1 (by omega))
        go_wp2_with fail
        (with_reducible refine HSP.out.mono ?_)
        rintro _ w3 ⟨A3, k, cap3, qs, rfl, ho3, hpg, hk1, hk2, hb3⟩
        have hb4 := step_below HB2.out.2 hb3
        have HPR := Lib.hid (rprogram_any g m s fr A3 k cap3 _ qs (sealed b) w3 (HH.out.1.below hb4) ho3 hpg (by rw [HSL.out]; exact hk1) (by rw [HSL.out]; exact hk2) hfr64 (by rw [HSL.out]; omega))
        rw [← HG.out] at HPR
        have HB4 := Lib.hid hb4
        clear ho3 hpg hk1 hk2 hb3 hb4 HSP
        go_wp2_with fail
        (with_reducible refine HPR.out.mono ?_)
        rintro _ w4 ⟨rfl, hf4, hg4⟩
        have HE := Lib.hid (And.intro hf4 (grow_trans (below_grow HB4.out (some g)) hg4 (.inl rfl)))
        clear hf4 hg4
        go_wp2
        go_ret
        exact ⟨rfl, HE.out.1, HE.out.2⟩
    · rw [appendM_addr (by omega) hs]
      have hor : s < 0 ∨ (0 ≤ s ∧ s ≥ 6) := by unfold isSector at hs; omega
      clear h hb hs
      rcases hor with h1 | ⟨h1, h2⟩
      all_goals
        go_enter Tryz.func39, Tryz.ntmps39
        go_wp2
        go_ret
        exact ⟨rfl, HH.out.1, grow_refl _ _⟩
end Go.Proofs.YtmebdnblobobnaaGreatDoor

namespace Go.Proofs.YtmebdnblobobnaaGreatDoor
set_option maxRecDepth 100000
open Go.RowKit _root_.Go.Proofs.YtmebdnblobobnaaGreatDoor.Wd _root_.Go.Proofs.YtmebdnblobobnaaGreatDoor.Fm

theorem good_load {m : Mem} {s : Nat} {l : List (List UInt8)} {free : Nat} (hs : s < 6) (hg : Good (m.page (s * 1024) 1024) l free) : loadM (readM m s) = (l, free) := by
  rw [readM_nat m s hs]
  exact hg.is
theorem map_len {ps : List Part} {l : List (List UInt8)} (h : ps.map (·.l) = l) : ps.length = l.length := by rw [← h, List.length_map]
/-- Load, of a sector that has just some records. -/
theorem load_good (g : Nat) (m : Mem) (s : Nat) (l : List (List UInt8)) (free : Nat) (w : World) (h : Fl w g m) (hs : s < 6) (hg : Good (m.page (s * 1024) 1024) l free) :
    Calls Tryz.prog 63 #[.pointer (some ⟨g, 0, none⟩), .int .i64 (s : Int)] w fun e w' => ∃ A cap ps, e = .returned (.tuple #[.slice A l.length cap, .int .i64 (free : Int)]) ∧ OwnParts w' w.heap.size A l.length cap ps ∧ ps.map (·.l) = l ∧ Below w.heap.size w w' := by
  refine (load_any g m s w h).mono ?_
  rintro _ w1 ⟨A, n, cap, ps, rfl, ho, hl, hb⟩
  rw [good_load hs hg] at hl ⊢
  simp only at hl
  have hn : n = l.length := by rw [← ho.len, map_len hl]
  subst hn
  exact ⟨A, cap, ps, rfl, ho, hl, hb⟩

end Go.Proofs.YtmebdnblobobnaaGreatDoor

