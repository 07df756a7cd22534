/- A record one of whose bits is cleared, as plain lists: what is loaded then. Nothing here speaks of one program. -/
import Derived.Test.YtolpiklhnafnbaaRecMem
import Derived.Test.YtolpiklhnafnbaaRecTorn
import Derived.Test.YtolpiklhnafnbaaCrcMath
namespace Go.Proofs.Ytolpiklhnafnbaa
set_option maxRecDepth 100000
open Go.RowKit Wd Fm

def recOf (q : Nat) : List UInt8 := [255, UInt8.ofNat q, 255]
def recs (j : Nat) : List (List UInt8) := (List.range j).map recOf
theorem recs_next (j : Nat) : recs j ++ [recOf j] = recs (j + 1) := by
  unfold recs
  rw [List.range_succ, List.map_append]
  rfl
/-- A sector that has just the records from nought on, a page each. -/
structure Chain (b : List UInt8) (j : Nat) : Prop where
  good : Good b (recs j) j
  back : ∀ q, q ≤ j → ∃ c, Good c (recs q) q ∧ ∀ i, i < q * 16 → b.getD i 0 = c.getD i 0
  here : ∀ q, q < j → ∀ i, i < 9 → b.getD (q * 16 + i) 0 = (sealed (recOf q)).getD i 0
theorem chain_new {b : List UInt8} (h : Good b [] 0) : Chain b 0 :=
  ⟨h, fun q hq => by
    obtain rfl : q = 0 := by omega
    exact ⟨b, h, fun _ _ => rfl⟩, fun q hq => absurd hq (by omega)⟩
theorem chain_next {b : List UInt8} {j : Nat} (h : Chain b j) (hj : j < 64) : Chain (lay b (j * 16) (sealed (recOf j))) (j + 1) := by
  have hl : (sealed (recOf j)).length = 9 := by rw [sealed_len]; rfl
  have hb := h.good.len
  have hp1 : pagesN (recOf j).length = 1 := by
    show (3 + 21) / 16 = 1
    decide
  have hg := good_next h.good (recOf j) (show 3 ≤ 1018 by omega) (by rw [hp1]; omega)
  rw [recs_next, hp1] at hg
  have hg2 : Good (lay b (j * 16) (sealed (recOf j))) (recs (j + 1)) (j + 1) := hg
  have hat := fun i => lay_at b (j * 16) (sealed (recOf j)) (by omega) i
  refine ⟨hg2, fun q hq => ?_, fun q hq i hi => ?_⟩
  · by_cases hqj : q = j + 1
    · subst hqj
      exact ⟨_, hg2, fun _ _ => rfl⟩
    · obtain ⟨c, hc1, hc2⟩ := h.back q (by omega)
      refine ⟨c, hc1, fun i hi => ?_⟩
      rw [hat i, if_neg (by omega)]
      exact hc2 i hi
  · by_cases hqj : q = j
    · subst hqj
      rw [hat, if_pos (by omega), show q * 16 + i - q * 16 = i by omega]
    · rw [hat, if_neg (by omega)]
      exact h.here q (by omega) i hi
theorem tn_inj9 {a b : BitVec 32} (h : tn a = tn b) : a = b := by
  apply BitVec.eq_of_toNat_eq
  unfold tn at h
  omega
/-- A record whose check sum is another's is none. -/
theorem opened_other (z d d' : List UInt8) (hz : 9 ≤ z.length) (hd : d.length = 3) (h6 : z.take 6 = (sealed d).take 6) (h3 : (z.drop 6).take 3 = d') (hne : Cm.crc d' ≠ Cm.crc d) : (opened z).2.2 ≠ 0 := by
  have e1 : z.take 2 = (sealed d).take 2 := by
    have := eq_mid (i := 0) (j := 2) h6 (by omega)
    simpa using this
  have e2 : (z.drop 2).take 4 = ((sealed d).drop 2).take 4 := eq_mid h6 (by omega)
  have hn : Nm.leNat ((sealed d).take 2) = 3 := by
    have h7 := opened_sealed2 d [] (by omega)
    rw [List.append_nil] at h7
    obtain ⟨_, h8, _⟩ := opened_le (sealed d) (by rw [h7])
    rw [h7] at h8
    simp only at h8
    omega
  have hs : (Nm.leNat (((sealed d).drop 2).take 4) : Int) = tn (Cm.crc d) := by
    have h2 : ((sealed d).drop 2).take 4 = Nm.leb (tn (Cm.crc d)) 4 := by
      unfold sealed
      rw [List.append_assoc, List.drop_left' (Nm.leb_len _ _), List.take_left' (Nm.leb_len _ _)]
    have hb := tn_bd (Cm.crc d)
    have e : (2 : Int) ^ (8 * 4) = 4294967296 := rfl
    rw [h2, Nm.leNat_leb, e]
    omega
  unfold opened
  rw [e1, hn, e2, hs, h3, if_neg (by omega), if_neg (by omega), if_neg (fun h => hne (tn_inj9 h))]
  decide
theorem clear_ne (s : Nat) (hs : s < 8) : (255 : UInt8) &&& ~~~(UInt8.ofNat (2 ^ s)) ≠ 255 := by
  have : ∀ s : Fin 8, (255 : UInt8) &&& ~~~(UInt8.ofNat (2 ^ s.val)) ≠ 255 := by decide
  exact this ⟨s, hs⟩
/-- A bit of a record is cleared: it is none, nor is what stands behind it. -/
theorem spoilt_model {b : List UInt8} {j a idx : Nat} (h : Chain b j) (ha : a < j) (hi : idx = 6 ∨ idx = 8) (s : Nat) (hs : s < 8) (b' : List UInt8) (hl : b'.length = 1024)
    (hb : ∀ i, i < 1024 → b'.getD i 0 = if i = a * 16 + idx then b.getD i 0 &&& ~~~(UInt8.ofNat (2 ^ s)) else b.getD i 0) : (loadM b').1.length = a ∧ (loadM b').2 = 64 := by
  have hj := h.good.le
  have hbl := h.good.len
  obtain ⟨c, hc, hcb⟩ := h.back a (by omega)
  have ht : b'.take (a * 16) = c.take (a * 16) := take_eq (by rw [hl, hc.len]) (fun i hi2 => by rw [hb i (by omega), if_neg (by omega)]; exact hcb i hi2)
  have hsl : (sealed (recOf a)).length = 9 := by rw [sealed_len]; rfl
  have hz : ∀ i, i < 1024 - a * 16 → (b'.drop (a * 16)).getD i 0 = b'.getD (a * 16 + i) 0 := fun i _ => by simp only [List.getD_eq_getElem?_getD, List.getElem?_drop]
  have hzl : (b'.drop (a * 16)).length = 1024 - a * 16 := by rw [List.length_drop, hl]
  have hbyte : ∀ i, i < 9 → (b'.drop (a * 16)).getD i 0 = if i = idx then (sealed (recOf a)).getD i 0 &&& ~~~(UInt8.ofNat (2 ^ s)) else (sealed (recOf a)).getD i 0 := fun i hi9 => by
    rw [hz i (by omega), hb _ (by omega), h.here a ha i hi9]
    by_cases h1 : i = idx
    · rw [if_pos (by omega), if_pos h1]
    · rw [if_neg (by omega), if_neg h1]
  have h6 : (b'.drop (a * 16)).take 6 = (sealed (recOf a)).take 6 := by
    apply ext_getD (by rw [List.length_take, List.length_take]; omega)
    intro i hi6
    rw [List.length_take] at hi6
    have := hbyte i (by omega)
    rw [if_neg (by omega)] at this
    simp only [List.getD_eq_getElem?_getD] at this ⊢
    rw [List.getElem?_take, if_pos (by omega), List.getElem?_take, if_pos (by omega)]
    exact this
  have hdat : ∀ i, i < 3 → (sealed (recOf a)).getD (6 + i) 0 = (recOf a).getD i 0 := fun i hi3 => by
    unfold sealed
    simp only [List.getD_eq_getElem?_getD]
    rw [List.getElem?_append_right (by rw [List.length_append, Nm.leb_len, Nm.leb_len]; omega), List.length_append, Nm.leb_len, Nm.leb_len]
    congr 2
    omega
  have h3 : ((b'.drop (a * 16)).drop 6).take 3 = [(b'.drop (a * 16)).getD 6 0, (b'.drop (a * 16)).getD 7 0, (b'.drop (a * 16)).getD 8 0] := by
    apply ext_getD (by rw [List.length_take, List.length_drop]; simp; omega)
    intro i hi3
    rw [List.length_take] at hi3
    have hcase : i = 0 ∨ i = 1 ∨ i = 2 := by omega
    simp only [List.getD_eq_getElem?_getD]
    rw [List.getElem?_take, if_pos (by omega), List.getElem?_drop]
    rcases hcase with rfl | rfl | rfl <;> rfl
  have hne : Cm.crc [(b'.drop (a * 16)).getD 6 0, (b'.drop (a * 16)).getD 7 0, (b'.drop (a * 16)).getD 8 0] ≠ Cm.crc (recOf a) := by
    have d0 := hdat 0 (by omega)
    have d1 := hdat 1 (by omega)
    have d2 := hdat 2 (by omega)
    rw [hbyte 6 (by omega), hbyte 7 (by omega), hbyte 8 (by omega)]
    rw [show 6 + 0 = 6 from rfl] at d0
    rw [show 6 + 1 = 7 from rfl] at d1
    rw [show 6 + 2 = 8 from rfl] at d2
    rw [d0, d1, d2]
    rcases hi with rfl | rfl
    · exact Cm.crc_turn [] [UInt8.ofNat a, 255] _ _ (clear_ne s hs)
    · exact Cm.crc_turn [255, UInt8.ofNat a] [] _ _ (clear_ne s hs)
  have hbad : loadFrom b' a = ([], 64) := by
    refine load_bad _ (by omega) ?_ (opened_other _ (recOf a) _ (by omega) rfl h6 h3 hne)
    refine blankL_not (i := 1) (by rw [pageL_len hl (by omega)]; omega) ?_
    rw [pageL_at _ _ _ (by omega), ← hz 1 (by omega), hbyte 1 (by omega), if_neg (by omega)]
    have e : (sealed (recOf a)).getD 1 0 = Nm.lb ((recOf a).length : Int) 1 := rfl
    rw [e, show (((recOf a).length : Nat) : Int) = 3 from rfl, show Nm.lb 3 1 = 0 by decide]
    decide
  have hcm := hc.is
  unfold loadM at hcm ⊢
  rw [load_pre hc.len hl a ht 64 0 (by omega) (by omega) (by rw [hcm]), hcm, hbad]
  simp [recs]
end Go.Proofs.Ytolpiklhnafnbaa
