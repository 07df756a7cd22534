/- Chapter 6, plain: entries in their places, which of them goes ahead of all others, and which image is booted. -/
import Derived.Test.YtmebdnblobobnaaGreatDoorEntRows
import Derived.Test.YtmebdnblobobnaaGreatDoorKSha
import Derived.Test.YtmebdnblobobnaaGreatDoorKRec
namespace Go.Proofs.YtmebdnblobobnaaGreatDoor
set_option maxRecDepth 100000
open Go.RowKit _root_.Go.Proofs.YtmebdnblobobnaaGreatDoor.Wd _root_.Go.Proofs.YtmebdnblobobnaaGreatDoor.Nm _root_.Go.Proofs.YtmebdnblobobnaaGreatDoor.Cm _root_.Go.Proofs.YtmebdnblobobnaaGreatDoor.Fm _root_.Go.Proofs.YtmebdnblobobnaaGreatDoor.Sm

/-- An entry in its place: its sector, its number there. -/
structure Pl where
  e : Ent
  sec : Nat
  pos : Nat
def Pl.cells (p : Pl) : List Value := p.e.cells ++ [.int .i64 p.sec, .int .i64 p.pos]
theorem Pl.cells_len (p : Pl) (h : p.e.sum.length = 32) : p.cells.length = 36 := by simp [Pl.cells, Ent.cells, bc_len, h]
def Pl.zero : Pl := ⟨Ent.zero, 0, 0⟩
theorem ent_cells_one (e : Ent) : ∀ v ∈ e.cells, v.oneCell' = true := by
  intro v hv
  unfold Ent.cells at hv
  rcases List.mem_cons.1 hv with rfl | hv
  · rfl
  rcases List.mem_cons.1 hv with rfl | hv
  · rfl
  obtain ⟨b, _, rfl⟩ := List.mem_map.1 hv
  rfl
theorem Pl.one (p : Pl) : ∀ v ∈ p.cells, v.oneCell' = true := by
  intro v hv
  unfold Pl.cells at hv
  rcases List.mem_append.1 hv with h | h
  · exact ent_cells_one p.e v h
  · simp only [List.mem_cons, List.not_mem_nil, or_false] at h
    rcases h with rfl | rfl <;> rfl
def cmpI (a b : Int) : Int := if a < b then -1 else if b < a then 1 else 0
def cmpP (p q : Pl) : Int := if cmpI p.e.seq q.e.seq ≠ 0 then cmpI p.e.seq q.e.seq else if cmpI q.sec p.sec ≠ 0 then cmpI q.sec p.sec else cmpI p.pos q.pos
def maxP : Pl → List Pl → Pl
  | m, [] => m
  | m, x :: r => maxP (if 0 < cmpP x m then x else m) r
/-- One stands ahead of another one. -/
def Pl.ahead (p q : Pl) : Prop := p.sec < q.sec ∨ (p.sec = q.sec ∧ p.pos < q.pos)
theorem cmpP_ahead {m x : Pl} (h : m.ahead x) : 0 < cmpP x m ↔ (m.e.seq < x.e.seq ∨ (m.e.seq = x.e.seq ∧ m.sec = x.sec)) := by
  unfold cmpP cmpI
  rcases h with h | ⟨h1, h2⟩
  · have : (m.sec : Int) < x.sec := by omega
    repeat' split
    all_goals omega
  · have : (m.sec : Int) = x.sec := by omega
    have : (m.pos : Int) < x.pos := by omega
    repeat' split
    all_goals omega

def stepB (b : Option (Ent × Nat)) (x : Ent × Nat) : Option (Ent × Nat) :=
  match b with
  | none => some x
  | some y => if y.1.seq < x.1.seq ∨ (y.1.seq = x.1.seq ∧ y.2 = x.2) then some x else some y
def best (l : List (Ent × Nat)) : Option (Ent × Nat) := l.foldl stepB none
def Pl.es (p : Pl) : Ent × Nat := (p.e, p.sec)
theorem maxP_best : ∀ (r : List Pl) (m : Pl), (∀ x ∈ r, m.ahead x) → r.Pairwise Pl.ahead → some (maxP m r).es = (r.map Pl.es).foldl stepB (some m.es)
  | [], m, _, _ => rfl
  | x :: r, m, h, hp => by
    have h1 := cmpP_ahead (h x (List.mem_cons_self ..))
    obtain ⟨hx, hr⟩ := List.pairwise_cons.1 hp
    have hs : stepB (some m.es) x.es = some (if 0 < cmpP x m then x else m).es := by
      show (if m.e.seq < x.e.seq ∨ (m.e.seq = x.e.seq ∧ m.sec = x.sec) then some x.es else some m.es) = _
      by_cases hc : 0 < cmpP x m
      · rw [if_pos hc, if_pos (h1.1 hc)]
      · rw [if_neg hc, if_neg (fun h' => hc (h1.2 h'))]
    show some (maxP (if 0 < cmpP x m then x else m) r).es = (r.map Pl.es).foldl stepB (stepB (some m.es) x.es)
    rw [hs]
    refine maxP_best r _ (fun y hy => ?_) hr
    by_cases hc : 0 < cmpP x m
    · rw [if_pos hc]; exact hx y hy
    · rw [if_neg hc]; exact h y (List.mem_cons_of_mem _ hy)
theorem maxP_mem : ∀ (r : List Pl) (m : Pl), maxP m r = m ∨ maxP m r ∈ r
  | [], _ => .inl rfl
  | x :: r, m => by
    show maxP (if 0 < cmpP x m then x else m) r = m ∨ maxP (if 0 < cmpP x m then x else m) r ∈ x :: r
    by_cases hc : 0 < cmpP x m
    · rw [if_pos hc]
      rcases maxP_mem r x with h | h
      · right; rw [h]; exact List.mem_cons_self ..
      · right; exact List.mem_cons_of_mem _ h
    · rw [if_neg hc]
      rcases maxP_mem r m with h | h
      · exact .inl h
      · right; exact List.mem_cons_of_mem _ h
/-- The newest of some that stand one behind the other; of none: noughts. -/
def newestP : List Pl → Pl
  | [] => Pl.zero
  | m :: r => maxP m r
theorem newest_best (l : List Pl) (h : l.Pairwise Pl.ahead) : best (l.map Pl.es) = if l = [] then none else some (newestP l).es := by
  cases l with
  | nil => rfl
  | cons m r =>
    obtain ⟨h1, h2⟩ := List.pairwise_cons.1 h
    rw [if_neg (by simp)]
    exact (maxP_best r m h1 h2).symm
theorem newest_mem (l : List Pl) (h : l ≠ []) : newestP l ∈ l := by
  cases l with
  | nil => exact absurd rfl h
  | cons m r =>
    rcases maxP_mem r m with h | h
    · show maxP m r ∈ m :: r; rw [h]; exact List.mem_cons_self ..
    · exact List.mem_cons_of_mem _ h

/-- The entries of a sector's records from the k-th on, in their places. -/
def plFrom (s : Nat) : Nat → List (List UInt8) → List Pl
  | _, [] => []
  | k, b :: r => if (parse b).2 = 0 then ⟨(parse b).1, s, k⟩ :: plFrom s (k + 1) r else plFrom s (k + 1) r
def plOf (s : Nat) (rows : List (List UInt8)) : List Pl := plFrom s 0 rows
theorem plFrom_cons (s k : Nat) (b : List UInt8) (r : List (List UInt8)) : plFrom s k (b :: r) = if (parse b).2 = 0 then ⟨(parse b).1, s, k⟩ :: plFrom s (k + 1) r else plFrom s (k + 1) r := rfl
theorem plFrom_app (s : Nat) : ∀ (a b : List (List UInt8)) (k : Nat), plFrom s k (a ++ b) = plFrom s k a ++ plFrom s (k + a.length) b
  | [], _, _ => rfl
  | x :: r, b, k => by
    have ih := plFrom_app s r b (k + 1)
    rw [List.cons_append, plFrom_cons, plFrom_cons, ih, List.length_cons, show k + (r.length + 1) = k + 1 + r.length by omega]
    split <;> rfl
theorem plOf_take (s : Nat) (rows : List (List UInt8)) (j : Nat) (h : j < rows.length) : plOf s (rows.take (j + 1)) = plOf s (rows.take j) ++ (if (parse rows[j]).2 = 0 then [⟨(parse rows[j]).1, s, j⟩] else []) := by
  unfold plOf
  rw [List.take_succ_eq_append_getElem h, plFrom_app, List.length_take, Nat.min_eq_left (Nat.le_of_lt h), Nat.zero_add]
  congr 1
theorem plFrom_es (s : Nat) : ∀ (rows : List (List UInt8)) (k : Nat), (plFrom s k rows).map Pl.es = (entsOf rows).map (·, s)
  | [], _ => rfl
  | b :: r, k => by
    have ih := plFrom_es s r (k + 1)
    rw [plFrom_cons]
    unfold entsOf
    rw [List.filterMap_cons]
    unfold entsOf at ih
    by_cases h : (parse b).2 = 0
    · rw [if_pos h, if_pos h, List.map_cons, ih]; rfl
    · rw [if_neg h, if_neg h, ih]
theorem plFrom_in (s : Nat) : ∀ (rows : List (List UInt8)) (k : Nat), ∀ p ∈ plFrom s k rows, p.sec = s ∧ k ≤ p.pos ∧ p.pos < k + rows.length ∧ p.e.sum.length = 32 ∧ p.e.inside
  | [], _ => fun p hp => by cases hp
  | b :: r, k => fun p hp => by
    rw [plFrom_cons] at hp
    by_cases h : (parse b).2 = 0
    · rw [if_pos h] at hp
      rcases List.mem_cons.1 hp with rfl | hp
      · refine ⟨rfl, Nat.le_refl _, by simp, parse_sum b, ?_⟩
        exact parse_inside b h
      · obtain ⟨h1, h2, h3, h4⟩ := plFrom_in s r (k + 1) p hp
        exact ⟨h1, by omega, by rw [List.length_cons]; omega, h4⟩
    · rw [if_neg h] at hp
      obtain ⟨h1, h2, h3, h4⟩ := plFrom_in s r (k + 1) p hp
      exact ⟨h1, by omega, by rw [List.length_cons]; omega, h4⟩
theorem plFrom_ahead (s : Nat) : ∀ (rows : List (List UInt8)) (k : Nat), (plFrom s k rows).Pairwise Pl.ahead
  | [], _ => List.Pairwise.nil
  | b :: r, k => by
    rw [plFrom_cons]
    by_cases h : (parse b).2 = 0
    · rw [if_pos h]
      refine List.pairwise_cons.2 ⟨fun y hy => ?_, plFrom_ahead s r (k + 1)⟩
      obtain ⟨h1, h2, _⟩ := plFrom_in s r (k + 1) y hy
      exact .inr ⟨h1.symm, by simp only; omega⟩
    · rw [if_neg h]; exact plFrom_ahead s r (k + 1)
def rowsM (m : Mem) (s : Int) : List (List UInt8) := (loadM (readM m s)).1
/-- All entries of a memory, in their places. -/
def plM (m : Mem) : List Pl := plOf 0 (rowsM m 0) ++ plOf 1 (rowsM m 1)
def allE (m : Mem) : List (Ent × Nat) := (entsOf (rowsM m 0)).map (·, 0) ++ (entsOf (rowsM m 1)).map (·, 1)
theorem plM_es (m : Mem) : (plM m).map Pl.es = allE m := by
  unfold plM allE plOf
  rw [List.map_append, plFrom_es, plFrom_es]
theorem plM_ahead (m : Mem) : (plM m).Pairwise Pl.ahead := by
  unfold plM
  refine List.pairwise_append.2 ⟨plFrom_ahead 0 _ 0, plFrom_ahead 1 _ 0, fun a ha b hb => ?_⟩
  have h1 := (plFrom_in 0 _ 0 a ha).1
  have h2 := (plFrom_in 1 _ 0 b hb).1
  exact .inl (by omega)
theorem plM_in (m : Mem) : ∀ p ∈ plM m, p.sec ≤ 1 ∧ p.pos < 64 ∧ p.e.sum.length = 32 ∧ p.e.inside := by
  intro p hp
  unfold plM at hp
  rcases List.mem_append.1 hp with h | h
  · obtain ⟨h1, _, h3, h4, h5⟩ := plFrom_in 0 _ 0 p h
    have := load_count (readM m 0)
    exact ⟨by omega, by unfold rowsM at h3; omega, h4, h5⟩
  · obtain ⟨h1, _, h3, h4, h5⟩ := plFrom_in 1 _ 0 p h
    have := load_count (readM m 1)
    exact ⟨by omega, by unfold rowsM at h3; omega, h4, h5⟩
theorem plFrom_len (s : Nat) : ∀ (rows : List (List UInt8)) (k : Nat), (plFrom s k rows).length ≤ rows.length
  | [], _ => Nat.le_refl _
  | b :: r, k => by
    have := plFrom_len s r (k + 1)
    rw [plFrom_cons]
    split <;> simp only [List.length_cons] <;> omega
theorem plM_len (m : Mem) : (plM m).length ≤ 128 := by
  have h0 := load_count (readM m 0)
  have h1 := load_count (readM m 1)
  have h2 := plFrom_len 0 (rowsM m 0) 0
  have h3 := plFrom_len 1 (rowsM m 1) 0
  unfold plM plOf
  rw [List.length_append]
  unfold rowsM at *
  omega

/-- What the newest entry says: its number, its sector (there is none: noughts). -/
def scan (s : Int) : List Ent → Int × Int → Int × Int
  | [], q => q
  | e :: r, q => scan s r (if q.1 < e.seq then (e.seq, s) else q)
def entsM (m : Mem) (s : Int) : List Ent := entsOf (loadM (readM m s)).1
def latest (m : Mem) : Int × Int := scan 1 (entsM m 1) (scan 0 (entsM m 0) (0, 0))
def saysB (b : Option (Ent × Nat)) : Int × Int := match b with | none => (0, 0) | some y => (y.1.seq, y.2)
theorem scan_best (s : Nat) : ∀ (l : List Ent) (b : Option (Ent × Nat)), (∀ e ∈ l, e.inside) → scan s l (saysB b) = saysB ((l.map (·, s)).foldl stepB b)
  | [], _, _ => rfl
  | e :: r, b, h => by
    have he := h e (List.mem_cons_self ..)
    have ih := scan_best s r (stepB b (e, s)) (fun y hy => h y (List.mem_cons_of_mem _ hy))
    rw [List.map_cons, List.foldl_cons, ← ih]
    show scan s r (if (saysB b).1 < e.seq then (e.seq, (s : Int)) else saysB b) = _
    congr 1
    cases b with
    | none => unfold saysB stepB; simp only; rw [if_pos (by have := he.1; omega)]
    | some y =>
      show (if y.1.seq < e.seq then (e.seq, (s : Int)) else (y.1.seq, (y.2 : Int))) = saysB (if y.1.seq < e.seq ∨ (y.1.seq = e.seq ∧ y.2 = s) then some (e, s) else some y)
      by_cases h1 : y.1.seq < e.seq
      · rw [if_pos h1, if_pos (.inl h1)]; rfl
      · rw [if_neg h1]
        by_cases h2 : y.1.seq = e.seq ∧ y.2 = s
        · rw [if_pos (.inr h2)]; show _ = (e.seq, (s : Int)); rw [h2.1, h2.2]
        · rw [if_neg (by intro h'; rcases h' with h' | h'; exact h1 h'; exact h2 h')]; rfl
theorem entsOf_inside (rows : List (List UInt8)) : ∀ e ∈ entsOf rows, e.inside := by
  intro e he
  unfold entsOf at he
  obtain ⟨b, _, hb⟩ := List.mem_filterMap.1 he
  by_cases hp : (parse b).2 = 0
  · rw [if_pos hp] at hb; injection hb with hb; rw [← hb]; exact parse_inside b hp
  · rw [if_neg hp] at hb; cases hb
theorem latest_best (m : Mem) : latest m = saysB (best (allE m)) := by
  unfold latest best allE entsM rowsM
  rw [List.foldl_append]
  have h0 := scan_best 0 (entsOf (loadM (readM m 0)).1) none (entsOf_inside _)
  have h1 := scan_best 1 (entsOf (loadM (readM m 1)).1) (((entsOf (loadM (readM m 0)).1).map (·, 0)).foldl stepB none) (entsOf_inside _)
  rw [← h1, ← h0]
  rfl
theorem latest_newest (m : Mem) : latest m = ((newestP (plM m)).e.seq, ((newestP (plM m)).sec : Int)) := by
  rw [latest_best, ← plM_es, newest_best _ (plM_ahead m)]
  by_cases h : plM m = []
  · rw [if_pos h, h]; rfl
  · rw [if_neg h]; rfl
def markM (m : Mem) (slot : Int) (sum : List UInt8) : Int × Mem :=
  if slot < 0 ∨ 2 < slot then (1, m) else if 1073741824 ≤ (latest m).1 then (11, m)
  else
    let b := Ent.bytes ⟨(latest m).1 + 1, slot, sum⟩
    let a := appendM m (latest m).2 b
    if a.1 ≠ 4 then a else if (eraseM a.2 (1 - (latest m).2)).1 ≠ 0 then eraseM a.2 (1 - (latest m).2)
    else appendM (eraseM a.2 (1 - (latest m).2)).2 (1 - (latest m).2) b
def storeM (m : Mem) (slot : Int) (b : List UInt8) : Int × Mem :=
  if slot < 0 ∨ 1 < slot then (1, m) else if 1000 < b.length then (5, m)
  else if (eraseM m (2 + slot)).1 ≠ 0 then eraseM m (2 + slot) else appendM (eraseM m (2 + slot)).2 (2 + slot) b

/-- What a slot holds: nothing, or its image. -/
def imgM (m : Mem) (slot : Int) : Option (List UInt8) := (rowsM m (2 + slot)).head?
/-- Does an entry count? -/
def countsM (m : Mem) (e : Ent) : Bool := decide (e.slot = 2) || (match imgM m e.slot with | none => false | some b => decide (sha b = e.sum))
def bootE (m : Mem) : Option (Ent × Nat) := best ((allE m).filter fun x => countsM m x.1)
def bootM (m : Mem) : Ent × List UInt8 :=
  match bootE m with
  | none => (⟨0, 2, List.replicate 32 0⟩, [])
  | some x => (x.1, if x.1.slot = 2 then [] else (imgM m x.1.slot).getD [])
theorem filter_es (f : Ent → Bool) (l : List Pl) : (l.filter fun p => f p.e).map Pl.es = (l.map Pl.es).filter fun x => f x.1 := by
  rw [List.filter_map]
  rfl
theorem boot_newest (m : Mem) : bootE m = if (plM m).filter (fun p => countsM m p.e) = [] then none else some (newestP ((plM m).filter fun p => countsM m p.e)).es := by
  unfold bootE
  rw [← plM_es, ← filter_es, newest_best _ ((plM_ahead m).filter _)]
end Go.Proofs.YtmebdnblobobnaaGreatDoor
