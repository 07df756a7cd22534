/- Chapter 6, plain: the document's own way of looking for what is booted (sector by sector, entry by entry) finds what bootM says. -/
import Derived.Test.YtmebdnblobobnaaGreatDoorRef6Stored
namespace Go.Proofs.YtmebdnblobobnaaGreatDoor
set_option maxRecDepth 100000
open Go.RowKit _root_.Go.Proofs.YtmebdnblobobnaaGreatDoor.Wd _root_.Go.Proofs.YtmebdnblobobnaaGreatDoor.Nm _root_.Go.Proofs.YtmebdnblobobnaaGreatDoor.Cm _root_.Go.Proofs.YtmebdnblobobnaaGreatDoor.Fm _root_.Go.Proofs.YtmebdnblobobnaaGreatDoor.Sm

def noneB : Ent × List UInt8 := (⟨0, 2, List.replicate 32 0⟩, [])
def bstep (m : Mem) (first : Bool) (was : Int) (q : Ent × List UInt8) (e : Ent) : Ent × List UInt8 :=
  if e.seq < q.1.seq ∨ (first = true ∧ e.seq = was) then q else if countsM m e = true then (e, heldM m e) else q
def bscan (m : Mem) (first : Bool) (was : Int) (l : List Ent) (q : Ent × List UInt8) : Ent × List UInt8 := l.foldl (bstep m first was) q
def bupto (m : Mem) : Nat → Ent × List UInt8
  | 0 => noneB
  | k + 1 => bscan m (decide (k = 1) && decide (0 < (bupto m k).1.seq)) (bupto m k).1.seq (entsM m k) (bupto m k)
def sayB (m : Mem) : Option (Ent × Nat) → Ent × List UInt8
  | none => noneB
  | some x => (x.1, heldM m x.1)
def fstep (m : Mem) (b : Option (Ent × Nat)) (x : Ent × Nat) : Option (Ent × Nat) := if countsM m x.1 = true then stepB b x else b
theorem ite_cond_congr {α : Sort _} {p q : Prop} [Decidable p] [Decidable q] {a b : α} (h : p ↔ q) : (if p then a else b) = if q then a else b := by
  by_cases hp : p
  · rw [if_pos hp, if_pos (h.1 hp)]
  · rw [if_neg hp, if_neg (fun h' => hp (h.2 h'))]
theorem bootE_fold (m : Mem) : bootE m = (allE m).foldl (fstep m) none := by
  unfold bootE best
  rw [List.foldl_filter]
  rfl
theorem fstep_counts (m : Mem) : ∀ (l : List (Ent × Nat)) (b : Option (Ent × Nat)), (∀ y, b = some y → countsM m y.1 = true) → ∀ y, l.foldl (fstep m) b = some y → countsM m y.1 = true
  | [], _, h => h
  | x :: r, b, h => by
    refine fstep_counts m r (fstep m b x) (fun y hy => ?_)
    unfold fstep at hy
    split at hy
    · rename_i hc
      cases b with
      | none => injection hy with hy; rw [← hy]; exact hc
      | some z =>
        unfold stepB at hy
        simp only at hy
        split at hy
        · injection hy with hy; rw [← hy]; exact hc
        · injection hy with hy; rw [← hy]; exact h z rfl
    · exact h y hy
theorem boot_says (m : Mem) : bootM m = sayB m (bootE m) := by
  have hc := fstep_counts m (allE m) none (fun y hy => by cases hy)
  rw [← bootE_fold] at hc
  unfold bootM
  cases h : bootE m with
  | none => rfl
  | some x =>
    show (x.1, _) = (x.1, heldM m x.1)
    unfold heldM
    rw [if_pos (hc x h)]
theorem bscan_zero (m : Mem) : ∀ (l : List Ent) (b : Option (Ent × Nat)), (∀ e ∈ l, e.inside) → (∀ y, b = some y → y.2 = 0 ∧ 1 ≤ y.1.seq) →
    bscan m false 0 l (sayB m b) = sayB m ((l.map (·, 0)).foldl (fstep m) b) ∧ (∀ y, (l.map (·, 0)).foldl (fstep m) b = some y → y.2 = 0 ∧ 1 ≤ y.1.seq)
  | [], _, _, h => ⟨rfl, h⟩
  | e :: r, b, hin, h => by
    have he := (hin e (List.mem_cons_self ..)).1
    have hb' : ∀ y, fstep m b (e, 0) = some y → y.2 = 0 ∧ 1 ≤ y.1.seq := by
      intro y hy
      unfold fstep at hy
      split at hy
      · cases b with
        | none => injection hy with hy; rw [← hy]; exact ⟨rfl, he⟩
        | some z =>
          unfold stepB at hy
          simp only at hy
          split at hy
          · injection hy with hy; rw [← hy]; exact ⟨rfl, he⟩
          · injection hy with hy; rw [← hy]; exact h z rfl
      · exact h y hy
    obtain ⟨h1, h2⟩ := bscan_zero m r (fstep m b (e, 0)) (fun y hy => hin y (List.mem_cons_of_mem _ hy)) hb'
    refine ⟨?_, h2⟩
    rw [List.map_cons, List.foldl_cons, ← h1]
    show bscan m false 0 r (bstep m false 0 (sayB m b) e) = _
    congr 1
    unfold bstep fstep
    cases b with
    | none =>
      rw [if_neg (by rintro (h | ⟨h, _⟩); · have : e.seq < 0 := h; omega
                     · cases h)]
      show (if countsM m e = true then _ else _) = sayB m (if countsM m e = true then _ else _)
      split <;> rfl
    | some y =>
      have hy := h y rfl
      show (if e.seq < y.1.seq ∨ (false = true ∧ e.seq = 0) then sayB m (some y) else if countsM m e = true then (e, heldM m e) else sayB m (some y)) = sayB m (if countsM m e = true then stepB (some y) (e, 0) else some y)
      unfold stepB
      simp only
      by_cases hc : countsM m e = true
      · rw [if_pos hc, if_pos hc]
        by_cases hlt : e.seq < y.1.seq
        · rw [if_pos (.inl hlt), if_neg (by rintro (h | ⟨h, _⟩) <;> omega)]
        · rw [if_neg (by rintro (h | ⟨h, _⟩); · exact hlt h
                         · cases h), if_pos (by rw [hy.1]; by_cases h : y.1.seq < e.seq; · exact .inl h
                                                · exact .inr ⟨by omega, rfl⟩)]
          rfl
      · rw [if_neg hc, if_neg hc]
        split <;> rfl
theorem bscan_one (m : Mem) (b0 : Option (Ent × Nat)) (h0 : ∀ y, b0 = some y → y.2 = 0 ∧ 1 ≤ y.1.seq) : ∀ (l : List Ent) (b : Option (Ent × Nat)), (∀ e ∈ l, e.inside) →
    (b = b0 ∨ ∃ y, b = some (y, 1) ∧ 1 ≤ y.seq ∧ ∀ z, b0 = some z → z.1.seq < y.seq) →
    bscan m (decide (0 < (sayB m b0).1.seq)) (sayB m b0).1.seq l (sayB m b) = sayB m ((l.map (·, 1)).foldl (fstep m) b)
  | [], _, _, _ => rfl
  | e :: r, b, hin, h => by
    have he := (hin e (List.mem_cons_self ..)).1
    have hstep : bstep m (decide (0 < (sayB m b0).1.seq)) (sayB m b0).1.seq (sayB m b) e = sayB m (fstep m b (e, 1)) ∧
        (fstep m b (e, 1) = b0 ∨ ∃ y, fstep m b (e, 1) = some (y, 1) ∧ 1 ≤ y.seq ∧ ∀ z, b0 = some z → z.1.seq < y.seq) := by
      unfold bstep fstep
      by_cases hc : countsM m e = true
      · rw [if_pos hc, if_pos hc]
        rcases h with rfl | ⟨y, rfl, hy1, hy⟩
        · cases b with
          | none =>
            refine ⟨?_, .inr ⟨e, rfl, he, fun z hz => by cases hz⟩⟩
            rw [if_neg (by rintro (h | ⟨h, _⟩)
                           · have : e.seq < 0 := h; omega
                           · have := of_decide_eq_true h
                             exact absurd this (show ¬ (0 : Int) < 0 by decide))]
            rfl
          | some y =>
            obtain ⟨hy2, hy1⟩ := h0 y rfl
            have hd : decide (0 < (sayB m (some y)).1.seq) = true := decide_eq_true (show 0 < y.1.seq by omega)
            rw [hd]
            show (if e.seq < y.1.seq ∨ (true = true ∧ e.seq = y.1.seq) then sayB m (some y) else (e, heldM m e)) = sayB m (stepB (some y) (e, 1)) ∧ _
            unfold stepB
            simp only
            by_cases hlt : y.1.seq < e.seq
            · rw [if_neg (by rintro (h | ⟨_, h⟩) <;> omega), if_pos (.inl hlt)]
              exact ⟨rfl, .inr ⟨e, rfl, he, fun z hz => by injection hz with hz; rw [← hz]; exact hlt⟩⟩
            · have hp : e.seq < y.1.seq ∨ (True ∧ e.seq = y.1.seq) := by
                by_cases h : e.seq < y.1.seq
                · exact .inl h
                · exact .inr ⟨trivial, by omega⟩
              have hq : ¬ (y.1.seq < e.seq ∨ (y.1.seq = e.seq ∧ y.2 = 1)) := by
                rintro (h | ⟨_, h⟩)
                · exact hlt h
                · rw [hy2] at h; exact absurd h (by decide)
              rw [if_pos hp, if_neg hq]
              exact ⟨rfl, .inl rfl⟩
        · have hskip : (e.seq < y.seq ∨ (decide (0 < (sayB m b0).1.seq) = true ∧ e.seq = (sayB m b0).1.seq)) ↔ e.seq < y.seq := by
            refine ⟨fun h => ?_, .inl⟩
            rcases h with h | ⟨h1, h2⟩
            · exact h
            · cases b0 with
              | none => exact absurd (of_decide_eq_true h1) (show ¬ (0 : Int) < 0 by decide)
              | some z => have := hy z rfl; have h3 : e.seq = z.1.seq := h2; omega
          show (if e.seq < y.seq ∨ (decide (0 < (sayB m b0).1.seq) = true ∧ e.seq = (sayB m b0).1.seq) then (y, heldM m y) else (e, heldM m e)) = sayB m (stepB (some (y, 1)) (e, 1)) ∧ _
          rw [ite_cond_congr hskip]
          unfold stepB
          simp only
          by_cases hlt : e.seq < y.seq
          · rw [if_pos hlt, if_neg (by rintro (h | ⟨h, _⟩) <;> omega)]
            exact ⟨rfl, .inr ⟨y, rfl, hy1, hy⟩⟩
          · rw [if_neg hlt, if_pos (by by_cases h : y.seq < e.seq; · exact .inl h
                                       · exact .inr ⟨by omega, trivial⟩)]
            exact ⟨rfl, .inr ⟨e, rfl, he, fun z hz => by have := hy z hz; omega⟩⟩
      · rw [if_neg hc, if_neg hc]
        refine ⟨?_, h⟩
        split <;> rfl
    rw [List.map_cons, List.foldl_cons, ← bscan_one m b0 h0 r (fstep m b (e, 1)) (fun y hy => hin y (List.mem_cons_of_mem _ hy)) hstep.2, ← hstep.1]
    rfl
theorem boot_upto (m : Mem) : bootM m = bupto m 2 := by
  obtain ⟨h1, h2⟩ := bscan_zero m (entsM m 0) none (entsOf_inside _) (fun y hy => by cases hy)
  have e1 : bupto m 1 = sayB m (((entsM m 0).map (·, 0)).foldl (fstep m) none) := h1
  have e2 : bupto m 2 = bscan m (decide (1 = 1) && decide (0 < (bupto m 1).1.seq)) (bupto m 1).1.seq (entsM m 1) (bupto m 1) := rfl
  rw [boot_says, bootE_fold, e2, e1, decide_eq_true rfl, Bool.true_and, bscan_one m _ h2 (entsM m 1) _ (entsOf_inside _) (.inl rfl)]
  unfold allE
  rw [List.foldl_append]
  rfl
end Go.Proofs.YtmebdnblobobnaaGreatDoor
