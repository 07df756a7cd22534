/- Merged: Words on slices of bytes, for every program: what a slice shows, that it goes on showing it, and what an append leaves. Nothing here speaks of one program. Plain facts on numbers and their bytes: the lowest bytes of a number, the number of some bytes, and how one is the other's. Nothing here speaks of one program. Plain facts on the CRC-32 of chapter 2: a step is linear, and no two states go to one. Nothing here speaks of one program. Bits of bytes, as the walk tells them. Nothing here speaks of one program. The memory of chapter 4, as plain lists: what its operations make of it. Nothing here speaks of one program. The memory of chapter 4, as plain lists: what chapter 4's laws ask of it. Nothing here speaks of one program. Words of 32 bits as the walk has them: each operation on numbers is the plain operation on bits. Nothing here speaks of one program. Plain facts on SHA-256 (FIPS 180-4) over lists of bytes. Nothing here speaks of one program. A literal of a slice with one element that takes several cells ('[]T{x}', or what an append makes of x). It speaks of no program. A drawn region's invariant made stronger on the way. It speaks of no program. -/
import Derived.WalkKit
import Derived.ProofKit
import Derived.WalkSpells
import Derived.WalkLawsBesides
import Derived.Deep.AppendSrc
import Derived.Laws.IdiomStrings
import Derived.Lib.BufferRead
import Derived.Lib.Hide
import Derived.Deep.RegionHeld
import Derived.Deep.RegionHeld3
import Derived.Orders
namespace Go.Proofs.YtmebdnblobobnaaGreatDoor.Wd
set_option maxRecDepth 100000
open Go.RowKit

/-! ### bytes as cells -/
def bc (l : List UInt8) : List Value := l.map fun c => Value.int .u8 (c.toNat : Int)
theorem bc_len (l : List UInt8) : (bc l).length = l.length := by simp [bc]
theorem bc_app (a b : List UInt8) : bc (a ++ b) = bc a ++ bc b := by simp [bc]
theorem bc_one (l : List UInt8) : ∀ u ∈ bc l, u.oneCell' = true := by
  intro u hu
  obtain ⟨_, _, rfl⟩ := List.mem_map.1 hu
  rfl
theorem bc_get (l : List UInt8) (j : Nat) (h : j < l.length) : (bc l)[j]? = some (.int .u8 (l[j].toNat : Int)) := by
  simp [bc, List.getElem?_eq_getElem h]
theorem bc_at {l : List UInt8} {j : Nat} {u : Value} (h : (bc l)[j]? = some u) : ∃ hj : j < l.length, u = .int .u8 (l[j].toNat : Int) := by
  have hj : j < l.length := by
    have := (List.getElem?_eq_some_iff.1 h).1
    simpa [bc] using this
  refine ⟨hj, ?_⟩
  rw [bc_get l j hj] at h
  exact (Option.some.inj h).symm
theorem bc_byteCells (s : ByteArray) : byteCells s = bc s.data.toList := rfl

/-! ### a slice that shows bytes -/
structure Shows (w : World) (B : Nat) (A : Option Addr) (n cap : Nat) (l : List UInt8) : Prop where
  len : l.length = n
  le : n ≤ cap
  top : cap ≤ maxLen
  spot : 0 < n → ∃ g o, A = some ⟨g, o, none⟩ ∧ g < B ∧ ∀ j (h : j < l.length), w.cell? ⟨g, o + j, none⟩ = some (.int .u8 (l[j].toNat : Int))

section
variable {w w' : World} {B B' : Nat} {A : Option Addr} {n cap : Nat} {l : List UInt8}

theorem Shows.nil (w : World) (B : Nat) : Shows w B none 0 0 [] := ⟨rfl, Nat.le_refl _, Nat.zero_le _, fun h => absurd h (by omega)⟩
theorem Shows.keep (h : Shows w B A n cap l) (hk : ∀ p : Addr, p.block < B → w'.cell? p = w.cell? p) : Shows w' B A n cap l :=
  ⟨h.len, h.le, h.top, fun hn => by
    obtain ⟨g, o, e, hb, hc⟩ := h.spot hn
    exact ⟨g, o, e, hb, fun j hj => (hk _ hb).trans (hc j hj)⟩⟩
theorem Shows.more (h : Shows w B A n cap l) (hB : B ≤ B') : Shows w B' A n cap l :=
  ⟨h.len, h.le, h.top, fun hn => by
    obtain ⟨g, o, e, hb, hc⟩ := h.spot hn
    exact ⟨g, o, e, by omega, hc⟩⟩
theorem Shows.below (h : Shows w B A n cap l) (hb : Below B w w') : Shows w' B A n cap l := h.keep fun _ hp => hb.cell hp
theorem Shows.grown (h : Shows w B A n cap l) {row : Option Nat} (hg : w.grownBy w' row) (hB : B ≤ w.heap.size) (hr : ∀ k, row = some k → B ≤ k) : Shows w' B A n cap l :=
  h.below ((Below.refl B w).grown hg hB hr)
theorem Shows.of_own {base : Nat} {e : TypeId} (h : w.ownsRow base e 1 (.slice A n cap) n (bc l)) : Shows w w.heap.size A n cap l := by
  have hl : l.length = n := by have := h.1; simpa [bc_len] using this
  rcases h.2 with ⟨h', hn⟩ | ⟨g, cap', cur, h', hb, hg, hnc, hcm, hcs, ht⟩
  · injection h' with h1 h2 h3
    subst h1 h2 h3
    exact ⟨hl, Nat.le_refl _, Nat.zero_le _, fun h => absurd h (by omega)⟩
  · injection h' with h1 h2 h3
    subst h1 h3
    refine ⟨hl, hnc, hcm, fun _ => ⟨g, 0, rfl, (Array.getElem?_eq_some_iff.1 hg).1, fun j hj => ?_⟩⟩
    rw [cell_of_row w g (0 + j) cur e (0, 0) hg]
    have hb := bc_get l j hj
    rw [← ht, List.getElem?_take] at hb
    split at hb
    · simpa using hb
    · cases hb

/-- What an append asks of its second argument. -/
theorem Shows.src {P : Program} {t e : TypeId} (h : Shows w B A n cap l) (ht : P.underlying t = some (.slice e)) : Src P 1 t (.slice A n cap) n (bc l) w := by
  rcases Nat.eq_zero_or_pos n with h0 | h0
  · subst h0
    have hl : l = [] := List.eq_nil_of_length_eq_zero h.len
    subst hl
    rcases A with _ | a
    · exact Src.ofNil w ht cap
    · exact Src.ofSlice w ht a 0 cap [] (by simp) (fun j u hu => by simp at hu) (fun u hu => by cases hu)
  · obtain ⟨g, o, rfl, _, hc⟩ := h.spot h0
    refine Src.ofSlice w ht _ n cap (bc l) (by rw [bc_len, h.len, Nat.mul_one]) (fun j u hu => ?_) (bc_one l)
    obtain ⟨hj, rfl⟩ := bc_at hu
    rw [Addr.add_lit]
    exact hc j hj

/-- 'string(b)'. -/
theorem Shows.conv {P : Program} {src dst e : TypeId} (h : Shows w B A n cap l) (hs : P.underlying src = some (.slice e)) (he : P.underlying e = some (.int .u8)) (hd : P.underlying dst = some .string) :
    (convert src dst (.slice A n cap)).run P w = .ok (.string ⟨l.toArray⟩) w := by
  rcases Nat.eq_zero_or_pos n with h0 | h0
  · subst h0
    have hl : l = [] := List.eq_nil_of_length_eq_zero h.len
    subst hl
    rcases A with _ | a
    · exact Lib.run_convert_nil_bytes w src dst e cap hs he hd
    · exact run_convert_bytes_back w src dst e a cap [] hs he hd (fun j hj => absurd hj (by simp))
  · obtain ⟨g, o, rfl, _, hc⟩ := h.spot h0
    have hl := h.len
    subst hl
    exact run_convert_bytes_back w src dst e _ cap l hs he hd (fun j hj => by rw [Addr.add_lit]; exact hc j hj)

/-- A cell of it, by its address. -/
theorem Shows.cells (h : Shows w B A n cap l) (h0 : 0 < n) : ∃ g o, A = some ⟨g, o, none⟩ ∧ g < B ∧ ∀ j (_ : j < n), w.cell? ⟨g, o + j, none⟩ = some (.int .u8 ((l.getD j 0).toNat : Int)) := by
  obtain ⟨g, o, e, hb, hc⟩ := h.spot h0
  refine ⟨g, o, e, hb, fun j hj => ?_⟩
  have hj' : j < l.length := by rw [h.len]; exact hj
  rw [hc j hj', List.getD_eq_getElem?_getD, List.getElem?_eq_getElem hj']
  rfl

theorem Shows.take (h : Shows w B A n cap l) {k : Nat} (hk : k ≤ n) : Shows w B A k cap (l.take k) := by
  refine ⟨by rw [List.length_take, h.len]; omega, Nat.le_trans hk h.le, h.top, fun h0 => ?_⟩
  obtain ⟨g, o, e, hb, hc⟩ := h.spot (by omega)
  refine ⟨g, o, e, hb, fun j hj => ?_⟩
  have hj' : j < l.length := by rw [List.length_take] at hj; omega
  rw [hc j hj', List.getElem_take]

theorem Shows.drop (h : Shows w B A n cap l) {k : Nat} (hk : k ≤ n) : Shows w B (if cap = k then A else A.map (·.add k)) (n - k) (cap - k) (l.drop k) := by
  refine ⟨by rw [List.length_drop, h.len], by have := h.le; omega, by have := h.top; omega, fun h0 => ?_⟩
  obtain ⟨g, o, rfl, hb, hc⟩ := h.spot (by omega)
  rw [if_neg (by have := h.le; omega)]
  refine ⟨g, o + k, by rw [Option.map_some, Addr.add_lit], hb, fun j hj => ?_⟩
  have hj' : k + j < l.length := by rw [List.length_drop] at hj; omega
  have := hc (k + j) hj'
  rw [Nat.add_assoc, this, List.getElem_drop]
end

/-! ### a slice of whatever plain values -/
structure Lays (w : World) (B : Nat) (A : Option Addr) (n cap : Nat) (vs : List Value) : Prop where
  len : vs.length = n
  le : n ≤ cap
  top : cap ≤ maxLen
  spot : 0 < n → ∃ g o, A = some ⟨g, o, none⟩ ∧ g < B ∧ ∀ j (h : j < vs.length), w.cell? ⟨g, o + j, none⟩ = some vs[j]
theorem Lays.keep {w w' : World} {B : Nat} {A : Option Addr} {n cap : Nat} {vs : List Value} (h : Lays w B A n cap vs) (hk : ∀ p : Addr, p.block < B → w'.cell? p = w.cell? p) : Lays w' B A n cap vs :=
  ⟨h.len, h.le, h.top, fun hn => by
    obtain ⟨g, o, e, hb, hc⟩ := h.spot hn
    exact ⟨g, o, e, hb, fun j hj => (hk _ hb).trans (hc j hj)⟩⟩
theorem Lays.below {w w' : World} {B : Nat} {A : Option Addr} {n cap : Nat} {vs : List Value} (h : Lays w B A n cap vs) (hb : Below B w w') : Lays w' B A n cap vs := h.keep fun _ hp => hb.cell hp
theorem Lays.nil (w : World) (B : Nat) : Lays w B none 0 0 [] := ⟨rfl, Nat.le_refl _, Nat.zero_le _, fun h => absurd h (by omega)⟩
/-- As an argument's cells are handed over. -/
theorem Lays.of_cells {w : World} {x : Addr} {n cap : Nat} {us : List Value} (hl : n ≤ cap) (hm : cap ≤ maxLen) (hz : us.length = cap) (hc : ∀ i, i < us.length → w.cell? (x.add i) = us[i]?) : Lays w w.heap.size (some x) n cap (us.take n) := by
  have hlen : (us.take n).length = n := by rw [List.length_take, hz]; omega
  refine ⟨hlen, hl, hm, fun hn => ?_⟩
  obtain ⟨g, o, spot⟩ := x
  have h0 := hc 0 (by omega)
  rw [List.getElem?_eq_getElem (by omega)] at h0
  have hs : spot = none := by simpa [Addr.add] using World.cell?_spot h0
  subst hs
  refine ⟨g, o, rfl, ?_, fun j hj => ?_⟩
  · have := World.block_lt_of_cell? w _ h0
    simpa [Addr.add] using this
  · have h1 := hc j (by omega)
    rw [Addr.add_lit, List.getElem?_eq_getElem (by omega)] at h1
    rw [h1, List.getElem_take]
theorem Shows.of_lays {w : World} {B : Nat} {A : Option Addr} {n cap : Nat} {l : List UInt8} (h : Lays w B A n cap (bc l)) : Shows w B A n cap l :=
  ⟨by rw [← bc_len]; exact h.len, h.le, h.top, fun hn => by
    obtain ⟨g, o, e, hb, hc⟩ := h.spot hn
    refine ⟨g, o, e, hb, fun j hj => ?_⟩
    rw [hc j (by rw [bc_len]; exact hj)]
    have := bc_get l j hj
    rw [List.getElem?_eq_getElem (by rw [bc_len]; exact hj)] at this
    exact this⟩
theorem bc_of_ints (zs : List Int) (hwz : ∀ n ∈ zs, (Lit.int .u8 n).wf = true) : zs.map (Value.int .u8) = bc (zs.map fun z => UInt8.ofNat z.toNat) := by
  unfold bc
  rw [List.map_map]
  apply List.map_congr_left
  intro z hz
  have h := hwz z hz
  simp [Lit.wf, IntKind.min, IntKind.max, IntKind.signed, IntKind.bits] at h
  simp
  omega

/-! ### the worlds of two calls, one behind the other -/
theorem grow_refl (w : World) (row : Option Nat) : w.grownBy w row := ⟨rfl, rfl, rfl, Nat.le_refl _, fun _ _ _ => rfl⟩
theorem grow_drew {w w' : World} {row : Option Nat} (h : w.grownBy w' row) : w.grownBy w'.drew row := ⟨h.os, h.tape, h.output, h.size, h.block⟩
theorem grow_trans {w w1 w2 : World} {r r' : Option Nat} (h1 : w.grownBy w1 r) (h2 : w1.grownBy w2 r') (hr : r' = r ∨ ∀ k, r' = some k → w.heap.size ≤ k) : w.grownBy w2 r := by
  refine ⟨h2.os.trans h1.os, h2.tape.trans h1.tape, h2.output.trans h1.output, Nat.le_trans h1.size h2.size, fun k hk hne => ?_⟩
  refine (h2.block k (Nat.lt_of_lt_of_le hk h1.size) (fun e => ?_)).trans (h1.block k hk hne)
  rcases hr with rfl | hr
  · exact hne e
  · have := hr k e.symm; omega
theorem grow_below {w w' : World} {row : Option Nat} (h : w.grownBy w' row) {B : Nat} (hB : B ≤ w.heap.size) (hr : ∀ k, row = some k → B ≤ k) : Below B w w' := (Below.refl B w).grown h hB hr
theorem below_grow {w w' : World} (h : Below w.heap.size w w') (row : Option Nat) : w.grownBy w' row := ⟨h.os, h.tape, h.output, h.size, fun k hk _ => h.block k hk⟩
theorem grow_own {w w' : World} {row : Option Nat} {base size n : Nat} {e : TypeId} {A : Option Addr} {m c : Nat} {xs : List Value} (h : w.ownsRow base e size (.slice A m c) n xs) (hg : w.grownBy w' row) (hne : ∀ k, A.map (·.block) = some k → row ≠ some k) :
    w'.ownsRow base e size (.slice A m c) n xs := by
  refine h.kept hg ?_
  rcases A with _ | a
  · exact .inl rfl
  · refine .inr fun e' => hne a.block rfl e'.symm
theorem own_block {w : World} {base size n : Nat} {e : TypeId} {A : Option Addr} {m c : Nat} {xs : List Value} (h : w.ownsRow base e size (.slice A m c) n xs) : ∀ k, A.map (·.block) = some k → base ≤ k ∧ k < w.heap.size := by
  intro k hk
  refine h.lt k ?_
  rcases A with _ | a
  · cases hk
  · simpa [Value.ownBlock] using hk

theorem own_mono {w : World} {base base' size n : Nat} {e : TypeId} {v : Value} {xs : List Value} (h : w.ownsRow base e size v n xs) (hb : base' ≤ base) : w.ownsRow base' e size v n xs := by
  refine ⟨h.1, ?_⟩
  rcases h.2 with h' | ⟨g, cap, cur, h1, h2, h3⟩
  · exact .inl h'
  · exact .inr ⟨g, cap, cur, h1, Nat.le_trans hb h2, h3⟩

/-! ### append, of bytes -/
section
variable {P : Program} (w : World)

theorem run_ap (base : Nat) (t tx ty e : TypeId) (i : TypeInfo) (ht : P.underlying t = some (.slice e)) (hi : P.info? e = some i) (hz : i.zero = some (.int .u8 0)) (hsz : i.size = 1) (hby : i.bytes = 1)
    (A : Option Addr) (n cap : Nat) (l : List UInt8) (hown : w.ownsRow base e 1 (.slice A n cap) n (bc l)) (x : Value) (m : Nat) (l2 : List UInt8) (hs : Src P 1 tx x m (bc l2) w)
    (hsm : n + m ≤ 140737488355328) (hbase : base ≤ w.heap.size) :
    ∃ A2 c2 w', (Builtin.append_ #[t, tx] ty #[.slice A n cap, x]).run P w = .ok (.slice A2 (n + m) c2) w' ∧ w'.ownsRow base e 1 (.slice A2 (n + m) c2) (n + m) (bc (l ++ l2)) ∧
      w'.ownsRow base e 1 (.slice A n cap) n (bc l) ∧ w.grownBy w' (A.map (·.block)) ∧ (A2.map (·.block) = A.map (·.block) ∨ A2.map (·.block) = some w.heap.size) := by
  have hl : l.length = n := by have := hown.1; simpa [bc_len] using this
  have hl2 : l2.length = m := by have := hs.newsLen; simpa [bc_len] using this
  have hs' : Src P i.size tx x m (bc l2) w := by rw [hsz]; exact hs
  -- the arm that makes a new row
  have grown : cap < n + m → ∃ A2 c2 w', (Builtin.append_ #[t, tx] ty #[.slice A n cap, x]).run P w = .ok (.slice A2 (n + m) c2) w' ∧ w'.ownsRow base e 1 (.slice A2 (n + m) c2) (n + m) (bc (l ++ l2)) ∧
      w'.ownsRow base e 1 (.slice A n cap) n (bc l) ∧ w.grownBy w' (A.map (·.block)) ∧ (A2.map (·.block) = A.map (·.block) ∨ A2.map (·.block) = some w.heap.size) := by
    intro hlt
    have hold : (Builtin.firstCells i.size n (.slice A n cap)).run P w.drew = .ok (bc l).toArray w.drew := by
      have hsrc := (Shows.of_own hown).src ht
      have := hsrc.cellsD
      rw [hsz]
      exact this
    have hr := run_append_grow_src (P := P) w t tx ty e i (.int .u8 0) ht hi hz A n cap (bc l) hold x m (bc l2) hs' hlt (by omega) (by rw [hby]; exact growslice_fits hlt (by omega))
    have hge := grownCap_ge w (n + m) cap e
    refine ⟨_, _, _, hr, ⟨by rw [bc_len, List.length_append, hl, hl2, Nat.mul_one], .inr ⟨w.heap.size, _, _, rfl, hbase, heap_alloc_new w.drew _, hge, grownCap_le_maxLen w _ _ e (by simp only [maxLen]; omega), ?_, ?_⟩⟩, ?_, ⟨rfl, rfl, rfl, by simp, fun k hk _ => Below.heap_alloc w.drew _ k hk⟩, .inr rfl⟩
    · have hz1 : (Value.int .u8 0).cells.size = 1 := rfl
      simp [size_zeroCells, bc_len, hl, hl2, hz1]
      omega
    · simp only [Array.toList_append, List.append_assoc]
      rw [bc_app, ← List.append_assoc]
      have : (n + m) * 1 = (bc l ++ bc l2).length := by rw [List.length_append, bc_len, bc_len, hl, hl2, Nat.mul_one]
      rw [this]
      exact List.take_left
    · exact (World.ownsRow.alloc (w := w.drew) hown _)
  rcases hown.2 with ⟨h', hn⟩ | ⟨g, cap', cur, h', hbg, hg, hnc, hcm, hcs, htake⟩
  · injection h' with h1 h2 h3
    subst h1 h2 h3
    rcases Nat.eq_zero_or_pos m with hm | hm
    · subst hm
      have hln : l = [] := List.eq_nil_of_length_eq_zero hl
      have hl2n : l2 = [] := List.eq_nil_of_length_eq_zero hl2
      subst hln hl2n
      refine ⟨none, 0, w, ?_, World.ownsRow_nil w base e 1, World.ownsRow_nil w base e 1, grow_refl w _, .inl rfl⟩
      have hc := hs'.cells
      rcases hs.kind with ⟨e', hk⟩ | hk <;> simp [Builtin.append_, run_underlying ht, run_underlying hk, sizeOf, typeInfo, hi, hs.len, hc]
    · exact grown (by omega)
  · injection h' with h1 h2 h3
    subst h1 h3
    by_cases hroom : n + m ≤ cap
    · have hcells : ∀ j, j < (bc l2).length → (w.cell? ⟨g, 0 + n * i.size + j, none⟩).isSome = true := by
        intro j hj
        rw [bc_len, hl2] at hj
        rw [cell_of_row w g _ cur e (0, 0) hg, hsz, Array.getElem?_eq_getElem (by omega)]
        rfl
      have hfr : ∀ j, j < (bc l2).length → w.frozen? ⟨g, 0 + n * i.size + j, none⟩ = false := by
        intro j _
        simp [World.frozen?, hg]
      have hst := run_storeCells_at P g n e (bc l2) 0 cur w hg (by rw [bc_len, hl2]; omega) (bc_one l2)
      have hc := hs'.cells
      have hr : (Builtin.append_ #[t, tx] ty #[.slice (some ⟨g, 0, none⟩) n cap, x]).run P w = .ok (.slice (some ⟨g, 0, none⟩) (n + m) cap) (w.setRow g (cur.toList.take n ++ bc l2 ++ cur.toList.drop (n + (bc l2).length)).toArray) := by
        simp only [Nat.add_zero] at hst
        rcases hs.kind with ⟨e', hk⟩ | hk <;> simp [Builtin.append_, run_underlying ht, run_underlying hk, sizeOf, typeInfo, hi, hs.len, hroom, hsz ▸ hc, hsz, Addr.add_lit, hst]
      have hcl : cur.toList.length = cap := by rw [Array.length_toList]; omega
      refine ⟨some ⟨g, 0, none⟩, cap, _, hr, ⟨by rw [bc_len, List.length_append, hl, hl2, Nat.mul_one], .inr ⟨g, cap, _, rfl, hbg, setRow_heap w g cur _ e _ hg, hroom, hcm, ?_, ?_⟩⟩,
        ⟨hown.1, .inr ⟨g, cap, _, rfl, hbg, setRow_heap w g cur _ e _ hg, hnc, hcm, ?_, ?_⟩⟩, ⟨rfl, rfl, rfl, by simp, fun k _ hk => setRow_other w g k _ (fun e => hk (by simp [e]))⟩, .inl rfl⟩
      · simp only [List.size_toArray, List.length_append, List.length_take, List.length_drop, hcl, bc_len, hl2]
        omega
      · have h2 : cur.toList.take n = bc l := by simpa using htake
        rw [h2, bc_app]
        have : (n + m) * 1 = (bc l ++ bc l2).length := by rw [List.length_append, bc_len, bc_len, hl, hl2, Nat.mul_one]
        rw [this]
        exact List.take_left
      · simp only [List.size_toArray, List.length_append, List.length_take, List.length_drop, hcl, bc_len, hl2]
        omega
      · have h2 : cur.toList.take n = bc l := by simpa using htake
        rw [h2, List.append_assoc]
        have : n * 1 = (bc l).length := by rw [bc_len, hl, Nat.mul_one]
        rw [this]
        exact List.take_left
    · exact grown (by omega)

theorem wp_ap {o : Oper} {a : Act} {K : Act → World → Prop} {Q : Exit → Act → World → Prop} (s x : Operand) (t tx : TypeId)
    (ho : o.op = .call { callee := .builtin .append, args := #[s, x], argTypes := #[t, tx] })
    (base : Nat) (e : TypeId) (i : TypeInfo) (ht : P.underlying t = some (.slice e)) (hi : P.info? e = some i) (hz : i.zero = some (.int .u8 0)) (hsz : i.size = 1) (hby : i.bytes = 1)
    (A : Option Addr) (n cap : Nat) (l : List UInt8) (hs : a.eval s = .slice A n cap) (hown : w.ownsRow base e 1 (.slice A n cap) n (bc l))
    (v : Value) (m : Nat) (l2 : List UInt8) (hx : a.eval x = v) (hsrc : Src P 1 tx v m (bc l2) w) (hsm : n + m ≤ 140737488355328) (hbase : base ≤ w.heap.size)
    (h : ∀ A2 c2 w', w'.ownsRow base e 1 (.slice A2 (n + m) c2) (n + m) (bc (l ++ l2)) → w'.ownsRow base e 1 (.slice A n cap) n (bc l) → w.grownBy w' (A.map (·.block)) →
      (A2.map (·.block) = A.map (·.block) ∨ A2.map (·.block) = some w.heap.size) → K (a.put o.dst (.slice A2 (n + m) c2)) w') : o.wp P a w K Q := by
  obtain ⟨A2, c2, w', hr, h1, h2, h3, h4⟩ := run_ap (P := P) w base t tx o.type e i ht hi hz hsz hby A n cap l hown v m l2 hsrc hsm hbase
  unfold Oper.wp execOp
  simp only [ho, resolve, invoke, builtin, Sem.run_bind, Sem.run_pure, Result.andThen_ok, List.map_toArray, List.map_cons, List.map_nil, hs, hx, hr]
  exact h A2 c2 w' h1 h2 h3 h4

theorem wpList_ap {ops : Array Oper} {rest : List Oper} {o : Oper} {a : Act} {Q : Exit → Act → World → Prop} (hgd : o.guard = none) (s x : Operand) (t tx : TypeId)
    (ho : o.op = .call { callee := .builtin .append, args := #[s, x], argTypes := #[t, tx] })
    (base : Nat) (e : TypeId) (i : TypeInfo) (ht : P.underlying t = some (.slice e)) (hi : P.info? e = some i) (hz : i.zero = some (.int .u8 0)) (hsz : i.size = 1) (hby : i.bytes = 1)
    (A : Option Addr) (n cap : Nat) (l : List UInt8) (hs : a.eval s = .slice A n cap) (hown : w.ownsRow base e 1 (.slice A n cap) n (bc l))
    (v : Value) (m : Nat) (l2 : List UInt8) (hx : a.eval x = v) (hsrc : Src P 1 tx v m (bc l2) w) (hsm : n + m ≤ 140737488355328) (hbase : base ≤ w.heap.size)
    (h : ∀ A2 c2 w', w'.ownsRow base e 1 (.slice A2 (n + m) c2) (n + m) (bc (l ++ l2)) → w'.ownsRow base e 1 (.slice A n cap) n (bc l) → w.grownBy w' (A.map (·.block)) →
      (A2.map (·.block) = A.map (·.block) ∨ A2.map (·.block) = some w.heap.size) → wpList P ops Q rest (a.put o.dst (.slice A2 (n + m) c2)) w') : wpList P ops Q (o :: rest) a w :=
  wpList_plain hgd fun _ hK => wp_ap w s x t tx ho base e i ht hi hz hsz hby A n cap l hs hown v m l2 hx hsrc hsm hbase fun A2 c2 w' h1 h2 h3 h4 => hK _ _ (h A2 c2 w' h1 h2 h3 h4)
end
end Go.Proofs.YtmebdnblobobnaaGreatDoor.Wd

namespace Go.Proofs.YtmebdnblobobnaaGreatDoor.Nm
set_option maxRecDepth 100000
open Go.RowKit

/-- A number's byte with the number i, the lowest one first. -/
def lb (n : Int) (i : Nat) : UInt8 := UInt8.ofNat (n / 2 ^ (8 * i) % 256).toNat
def leb (n : Int) (k : Nat) : List UInt8 := (List.range k).map (lb n)
theorem leb_len (n : Int) (k : Nat) : (leb n k).length = k := by simp [leb]
theorem lb_nat (n : Int) (i : Nat) : ((lb n i).toNat : Int) = n / 2 ^ (8 * i) % 256 := by
  have h0 := Int.emod_nonneg (n / 2 ^ (8 * i)) (show (256 : Int) ≠ 0 by decide)
  have h1 := Int.emod_lt_of_pos (n / 2 ^ (8 * i)) (show (0 : Int) < 256 by decide)
  unfold lb
  simp
  omega
theorem leb_next (n : Int) (k : Nat) : leb n (k + 1) = leb n k ++ [lb n k] := by simp [leb, List.range_succ]

/-- The number of some bytes, the lowest one first. -/
def leNat : List UInt8 → Nat
  | [] => 0
  | c :: r => c.toNat + 256 * leNat r
theorem leNat_app (a b : List UInt8) : leNat (a ++ b) = leNat a + 2 ^ (8 * a.length) * leNat b := by
  induction a with
  | nil => simp [leNat]
  | cons c r ih =>
    simp only [List.cons_append, leNat, ih, List.length_cons]
    have : 2 ^ (8 * (r.length + 1)) = 256 * 2 ^ (8 * r.length) := by rw [Nat.mul_add, Nat.pow_add]; omega
    rw [this, Nat.mul_add, Nat.mul_assoc]
    omega
theorem leNat_lt (l : List UInt8) : leNat l < 2 ^ (8 * l.length) := by
  induction l with
  | nil => simp [leNat]
  | cons c r ih =>
    have hc := c.toNat_lt
    have : 2 ^ (8 * (r.length + 1)) = 256 * 2 ^ (8 * r.length) := by rw [Nat.mul_add, Nat.pow_add]; omega
    simp only [leNat, List.length_cons, this]
    omega
theorem leNat_next (l : List UInt8) (j : Nat) (h : j < l.length) : leNat (l.take (j + 1)) = leNat (l.take j) + 2 ^ (8 * j) * l[j].toNat := by
  rw [List.take_succ_eq_append_getElem h, leNat_app, List.length_take, Nat.min_eq_left (by omega)]
  simp [leNat]
theorem leNat_leb (n : Int) (k : Nat) : (leNat (leb n k) : Int) = n % 2 ^ (8 * k) := by
  induction k with
  | zero => simp [leb, leNat]
  | succ k ih =>
    rw [leb_next, leNat_app, leb_len]
    simp only [leNat, Nat.mul_zero, Nat.add_zero]
    rw [Int.natCast_add, ih, Int.natCast_mul, lb_nat]
    have e : (2 : Int) ^ (8 * (k + 1)) = 2 ^ (8 * k) * 256 := by rw [Nat.mul_add, Int.pow_add]; rfl
    have hp : ((2 ^ (8 * k) : Nat) : Int) = 2 ^ (8 * k) := by simp
    have hq : (0 : Int) ≤ 2 ^ (8 * k) := by rw [← hp]; omega
    have hd : n / 2 ^ (8 * k) / 256 = n / (2 ^ (8 * k) * 256) := by
      rw [Int.ediv_ediv, if_neg (fun h => absurd h.1 (by omega))]
      omega
    rw [e, hp, Int.emod_def n (2 ^ (8 * k) * 256), Int.emod_def n (2 ^ (8 * k)), Int.emod_def (n / 2 ^ (8 * k)) 256, hd, Int.mul_sub, ← Int.mul_assoc]
    omega

theorem wrap64_mod (x : Int) (h0 : -9223372036854775808 ≤ x) (h1 : x ≤ 9223372036854775807) : wrap64 (x % 18446744073709551616) = x := by
  unfold wrap64
  omega
theorem wrap64_of (x : Int) (h0 : -9223372036854775808 ≤ x) (h1 : x ≤ 9223372036854775807) : wrap64 x = x := by
  unfold wrap64
  omega
/-- A number of 64 bits is the number of its eight bytes. -/
theorem back64 (x : Int) (h0 : -9223372036854775808 ≤ x) (h1 : x ≤ 9223372036854775807) : wrap64 (leNat (leb x 8)) = x := by
  rw [leNat_leb]
  exact wrap64_mod x h0 h1

theorem ofInt_wrap (z : Int) : BitVec.ofInt 64 (wrap64 z) = BitVec.ofInt 64 z := by
  apply BitVec.eq_of_toNat_eq
  simp only [BitVec.toNat_ofInt]
  congr 1
  unfold wrap64
  omega
theorem or_at (U c j : Nat) (hU : U < 2 ^ (8 * j)) (hc : c < 256) (hj : j ≤ 7) :
    bits .or .i64 (wrap64 (U : Int)) (wrap64 (wrap64 (c : Int) * 2 ^ (8 * j))) = wrap64 ((U + 2 ^ (8 * j) * c : Nat) : Int) := by
  have hcw : wrap64 (c : Int) = c := wrap64_of _ (by omega) (by omega)
  have hp : (2 : Nat) ^ (8 * j) ≤ 2 ^ 56 := Nat.pow_le_pow_right (by decide) (by omega)
  have h56 : (2 : Nat) ^ 56 = 72057594037927936 := rfl
  have hm : 2 ^ (8 * j) * c ≤ 72057594037927936 * 255 := Nat.mul_le_mul (by omega) (by omega)
  have e : (c : Int) * 2 ^ (8 * j) = ((2 ^ (8 * j) * c : Nat) : Int) := by rw [Int.natCast_mul, Int.mul_comm]; simp
  rw [hcw, e]
  have hw : ∀ z : Int, IntKind.i64.wrap z = wrap64 z := fun z => by unfold wrap64; exact IntKind.wrap_i64 z
  have ho : (BitVec.ofInt 64 (wrap64 (U : Int)) ||| BitVec.ofInt 64 (wrap64 ((2 ^ (8 * j) * c : Nat) : Int))).toNat = U + 2 ^ (8 * j) * c := by
    rw [ofInt_wrap, ofInt_wrap, BitVec.ofInt_natCast, BitVec.ofInt_natCast, BitVec.toNat_or, BitVec.toNat_ofNat, BitVec.toNat_ofNat, Nat.mod_eq_of_lt (by omega), Nat.mod_eq_of_lt (by omega)]
    rw [Nat.or_comm, ← Nat.two_pow_add_eq_or_of_lt hU, Nat.add_comm]
  show IntKind.i64.wrap ((BitVec.ofInt 64 (wrap64 (U : Int)) ||| BitVec.ofInt 64 (wrap64 ((2 ^ (8 * j) * c : Nat) : Int))).toNat : Int) = _
  rw [ho, hw]
end Go.Proofs.YtmebdnblobobnaaGreatDoor.Nm

namespace Go.Proofs.YtmebdnblobobnaaGreatDoor.Cm
set_option maxRecDepth 100000

/-- The reflected polynomial. -/
def poly : BitVec 32 := 0xEDB88320#32
/-- One bit. -/
def bit1 (c : BitVec 32) : BitVec 32 := if c.getLsbD 0 = true then (c >>> 1) ^^^ poly else c >>> 1
def bitN : Nat → BitVec 32 → BitVec 32
  | 0, c => c
  | n + 1, c => bit1 (bitN n c)
/-- A byte as a state. -/
def wide (x : UInt8) : BitVec 32 := x.toBitVec.setWidth 32
def feed (c : BitVec 32) (x : UInt8) : BitVec 32 := bitN 8 (c ^^^ wide x)
def feedAll (c : BitVec 32) (l : List UInt8) : BitVec 32 := l.foldl feed c
/-- All ones. -/
def full : BitVec 32 := 4294967295#32
/-- The document's sum. -/
def crc (l : List UInt8) : BitVec 32 := ~~~ (feedAll full l)

theorem feedAll_app (c : BitVec 32) (a b : List UInt8) : feedAll c (a ++ b) = feedAll (feedAll c a) b := by simp [feedAll]
theorem feedAll_snoc (c : BitVec 32) (a : List UInt8) (x : UInt8) : feedAll c (a ++ [x]) = feed (feedAll c a) x := by simp [feedAll]
theorem feedAll_nil (c : BitVec 32) : feedAll c [] = c := rfl
theorem feedAll_take (c : BitVec 32) (l : List UInt8) (j : Nat) (h : j < l.length) : feedAll c (l.take (j + 1)) = feed (feedAll c (l.take j)) l[j] := by
  rw [List.take_succ_eq_append_getElem h, feedAll_snoc]

theorem bit1_xor (a b : BitVec 32) : bit1 (a ^^^ b) = bit1 a ^^^ bit1 b := by
  have e : (a ^^^ b) >>> 1 = (a >>> 1) ^^^ (b >>> 1) := BitVec.ushiftRight_xor_distrib a b 1
  unfold bit1
  rw [BitVec.getLsbD_xor, e]
  cases h1 : a.getLsbD 0 <;> cases h2 : b.getLsbD 0 <;> simp
  · exact BitVec.xor_assoc _ _ _
  · rw [BitVec.xor_assoc, BitVec.xor_comm (b >>> 1) poly, ← BitVec.xor_assoc]
  · have hp : (a >>> 1 ^^^ poly) ^^^ (b >>> 1 ^^^ poly) = (a >>> 1 ^^^ b >>> 1) ^^^ (poly ^^^ poly) := by
      rw [BitVec.xor_assoc, ← BitVec.xor_assoc poly, BitVec.xor_comm poly (b >>> 1), BitVec.xor_assoc (b >>> 1), ← BitVec.xor_assoc]
    rw [hp, BitVec.xor_self, BitVec.xor_zero]
theorem bit1_zero (a : BitVec 32) (h : bit1 a = 0#32) : a = 0#32 := by
  unfold bit1 at h
  split at h
  · have h31 : ((a >>> 1) ^^^ poly).getLsbD 31 = true := by
      rw [BitVec.getLsbD_xor]
      have hp : poly.getLsbD 31 = true := by decide
      have ha : (a >>> 1).getLsbD 31 = false := by simp
      rw [hp, ha]
      rfl
    rw [h] at h31
    simp at h31
  · rename_i h0
    apply BitVec.eq_of_getLsbD_eq
    intro i hi
    rcases Nat.eq_zero_or_pos i with rfl | hpos
    · simpa using h0
    · have : (a >>> 1).getLsbD (i - 1) = false := by rw [h]; simp
      rw [BitVec.getLsbD_ushiftRight] at this
      rw [show 1 + (i - 1) = i by omega] at this
      simpa using this
theorem bitN_xor (n : Nat) (a b : BitVec 32) : bitN n (a ^^^ b) = bitN n a ^^^ bitN n b := by
  induction n with
  | zero => rfl
  | succ n ih => simp only [bitN, ih, bit1_xor]
theorem bitN_zero (n : Nat) (a : BitVec 32) (h : bitN n a = 0#32) : a = 0#32 := by
  induction n with
  | zero => exact h
  | succ n ih => exact ih (bit1_zero _ h)
theorem xor_zero_iff (a b : BitVec 32) (h : a ^^^ b = 0#32) : a = b := by
  have : a ^^^ b ^^^ b = 0#32 ^^^ b := by rw [h]
  rw [BitVec.xor_assoc, BitVec.xor_self, BitVec.xor_zero, BitVec.zero_xor] at this
  exact this
theorem bitN_inj (n : Nat) (a b : BitVec 32) (h : bitN n a = bitN n b) : a = b := by
  apply xor_zero_iff
  apply bitN_zero n
  rw [bitN_xor, h, BitVec.xor_self]
theorem wide_inj (x y : UInt8) (h : wide x = wide y) : x = y := by
  have h2 := congrArg BitVec.toNat h
  simp [wide] at h2
  have hx := x.toNat_lt
  have hy := y.toNat_lt
  apply UInt8.toNat_inj.1
  omega
theorem feed_inj (c d : BitVec 32) (x : UInt8) (h : feed c x = feed d x) : c = d := by
  have := bitN_inj 8 _ _ h
  have h2 : c ^^^ wide x ^^^ wide x = d ^^^ wide x ^^^ wide x := by rw [this]
  rwa [BitVec.xor_assoc, BitVec.xor_assoc, BitVec.xor_self, BitVec.xor_zero, BitVec.xor_zero] at h2
theorem feedAll_inj (c d : BitVec 32) (l : List UInt8) (h : feedAll c l = feedAll d l) : c = d := by
  induction l generalizing c d with
  | nil => exact h
  | cons x r ih => exact feed_inj c d x (ih _ _ h)
theorem feed_byte (c : BitVec 32) (x y : UInt8) (h : feed c x = feed c y) : x = y := by
  have := bitN_inj 8 _ _ h
  apply wide_inj
  have h2 : c ^^^ (c ^^^ wide x) = c ^^^ (c ^^^ wide y) := by rw [this]
  rwa [← BitVec.xor_assoc, ← BitVec.xor_assoc, BitVec.xor_self, BitVec.zero_xor, BitVec.zero_xor] at h2

/-- A byte that is turned turns the sum. -/
theorem crc_turn (a b : List UInt8) (x y : UInt8) (h : x ≠ y) : crc (a ++ x :: b) ≠ crc (a ++ y :: b) := by
  intro he
  unfold crc at he
  have h2 : feedAll full (a ++ x :: b) = feedAll full (a ++ y :: b) := by
    have := congrArg (fun z => ~~~ z) he
    simpa using this
  rw [feedAll_app, feedAll_app] at h2
  have h3 : feed (feedAll full a) x = feed (feedAll full a) y := feedAll_inj _ _ b h2
  exact h (feed_byte _ _ _ h3)

/-- Texts of one length, laid upon one another. -/
theorem feed_xor (c d : BitVec 32) (x y : UInt8) : feed (c ^^^ d) (x ^^^ y) = feed c x ^^^ feed d y := by
  unfold feed
  rw [← bitN_xor]
  congr 1
  have hw : wide (x ^^^ y) = wide x ^^^ wide y := by
    unfold wide
    rw [UInt8.toBitVec_xor, BitVec.setWidth_xor]
  rw [hw, BitVec.xor_assoc, ← BitVec.xor_assoc d, BitVec.xor_comm d, BitVec.xor_assoc, ← BitVec.xor_assoc]
theorem feedAll_xor (c d : BitVec 32) (a b : List UInt8) (h : a.length = b.length) : feedAll (c ^^^ d) (List.zipWith (· ^^^ ·) a b) = feedAll c a ^^^ feedAll d b := by
  induction a generalizing b c d with
  | nil =>
    match b, h with
    | [], _ => rfl
  | cons x r ih =>
    match b, h with
    | y :: s, h =>
      show feedAll (feed (c ^^^ d) (x ^^^ y)) (List.zipWith (· ^^^ ·) r s) = _
      rw [feed_xor]
      exact ih _ _ s (by simpa using h)
end Go.Proofs.YtmebdnblobobnaaGreatDoor.Cm

namespace Go.Proofs.YtmebdnblobobnaaGreatDoor
set_option maxRecDepth 100000
open Go.RowKit

theorem u8_xor8 (a b : UInt8) : bits BinOp.xor IntKind.u8 (a.toNat : Int) (b.toNat : Int) = ((a ^^^ b).toNat : Int) := by
  have h : (a ^^^ b).toNat < 256 := (a ^^^ b).toNat_lt
  show IntKind.u8.wrap ((BitVec.ofInt 8 (a.toNat : Int) ^^^ BitVec.ofInt 8 (b.toNat : Int)).toNat : Int) = _
  rw [BitVec.ofInt_natCast, BitVec.ofInt_natCast, BitVec.toNat_xor, BitVec.toNat_ofNat, BitVec.toNat_ofNat, Nat.mod_eq_of_lt a.toNat_lt, Nat.mod_eq_of_lt b.toNat_lt]
  rw [UInt8.toNat_xor] at h ⊢
  rw [IntKind.wrap_u8]
  omega
theorem u8_and8 (a b : UInt8) : bits BinOp.and IntKind.u8 (a.toNat : Int) (b.toNat : Int) = ((a &&& b).toNat : Int) := by
  have h : (a &&& b).toNat < 256 := (a &&& b).toNat_lt
  show IntKind.u8.wrap ((BitVec.ofInt 8 (a.toNat : Int) &&& BitVec.ofInt 8 (b.toNat : Int)).toNat : Int) = _
  rw [BitVec.ofInt_natCast, BitVec.ofInt_natCast, BitVec.toNat_and, BitVec.toNat_ofNat, BitVec.toNat_ofNat, Nat.mod_eq_of_lt a.toNat_lt, Nat.mod_eq_of_lt b.toNat_lt]
  rw [UInt8.toNat_and] at h ⊢
  rw [IntKind.wrap_u8]
  omega
theorem u8_or8 (a b : UInt8) : bits BinOp.or IntKind.u8 (a.toNat : Int) (b.toNat : Int) = ((a ||| b).toNat : Int) := by
  have h : (a ||| b).toNat < 256 := (a ||| b).toNat_lt
  show IntKind.u8.wrap ((BitVec.ofInt 8 (a.toNat : Int) ||| BitVec.ofInt 8 (b.toNat : Int)).toNat : Int) = _
  rw [BitVec.ofInt_natCast, BitVec.ofInt_natCast, BitVec.toNat_or, BitVec.toNat_ofNat, BitVec.toNat_ofNat, Nat.mod_eq_of_lt a.toNat_lt, Nat.mod_eq_of_lt b.toNat_lt]
  rw [UInt8.toNat_or] at h ⊢
  rw [IntKind.wrap_u8]
  omega
theorem u8_andNot8 (a b : UInt8) : bits BinOp.andNot IntKind.u8 (a.toNat : Int) (b.toNat : Int) = ((a &&& ~~~b).toNat : Int) := by
  have h : (a &&& ~~~b).toNat < 256 := (a &&& ~~~b).toNat_lt
  show IntKind.u8.wrap ((BitVec.ofInt 8 (a.toNat : Int) &&& ~~~BitVec.ofInt 8 (b.toNat : Int)).toNat : Int) = _
  have e : (BitVec.ofInt 8 (a.toNat : Int) &&& ~~~BitVec.ofInt 8 (b.toNat : Int)) = (a &&& ~~~b).toBitVec := by
    rw [BitVec.ofInt_natCast, BitVec.ofInt_natCast]
    simp
  rw [e, IntKind.wrap_u8]
  show ((a &&& ~~~b).toNat : Int) % 256 = _
  omega
end Go.Proofs.YtmebdnblobobnaaGreatDoor

namespace Go.Proofs.YtmebdnblobobnaaGreatDoor.Fm
set_option maxRecDepth 100000
open Go.RowKit

/-- Some bytes in the place of others, from a place on. -/
def lay (B : List UInt8) (o : Nat) (x : List UInt8) : List UInt8 := B.take o ++ (x ++ B.drop (o + x.length))
/-- A byte's bits where the mask has a 1. -/
def mixB (p b m : UInt8) : UInt8 := (p &&& ~~~m) ||| (b &&& m)
/-- The mask's byte at a place. -/
def maskAt (mask : List UInt8) (i : Nat) : UInt8 := if mask.length = 0 then 0 else mask.getD (i % mask.length) 0
def mixL (place next mask : List UInt8) : List UInt8 := (List.range next.length).map fun i => mixB (place.getD i 0) (next.getD i 0) (maskAt mask i)
/-- Has a byte a bit that the place has not? -/
def setsB (place next : List UInt8) : Bool := (List.range next.length).any fun i => next.getD i 0 &&& ~~~(place.getD i 0) != 0
/-- Some bytes, with 255 behind up to a page. -/
def padded (b : List UInt8) : List UInt8 := b ++ List.replicate (16 - b.length) 255

structure Mem where
  B : List UInt8
  dead : Bool
  ops : Int
  left : Int
  mask : List UInt8

def Mem.fresh : Mem := ⟨List.replicate 6144 255, false, 0, 0, []⟩
def Mem.page (m : Mem) (o n : Nat) : List UInt8 := (m.B.drop o).take n
/-- An operation: what it answers, and what the memory is then. -/
def writeM (m : Mem) (o : Nat) (next : List UInt8) : Int × Mem :=
  if m.left = 1 then (14, ⟨lay m.B o (mixL (m.page o next.length) next m.mask), true, wrap64 (m.ops + 1), 0, []⟩)
  else (0, ⟨lay m.B o next, m.dead, wrap64 (m.ops + 1), max (m.left - 1) 0, m.mask⟩)
def isSector (s : Int) : Prop := 0 ≤ s ∧ s < 6
instance (s : Int) : Decidable (isSector s) := by unfold isSector; infer_instance
def isPage (s p : Int) : Prop := isSector s ∧ 0 ≤ p ∧ p < 64
instance (s p : Int) : Decidable (isPage s p) := by unfold isPage; infer_instance
def placeOf (s p : Int) : Nat := s.toNat * 1024 + p.toNat * 16
def eraseM (m : Mem) (s : Int) : Int × Mem :=
  if m.dead = true then (14, m) else if ¬ isSector s then (12, m) else writeM m (placeOf s 0) (List.replicate 1024 255)
def programM (m : Mem) (s p : Int) (b : List UInt8) : Int × Mem :=
  if m.dead = true then (14, m) else if ¬ isPage s p then (12, m) else if 16 < b.length then (5, m)
  else if setsB (m.page (placeOf s p) 16) (padded b) = true then (13, m) else writeM m (placeOf s p) (padded b)
def stopM (m : Mem) (n : Int) (mask : List UInt8) : Mem := if 0 < n then { m with left := n, mask := mask.take 1024 } else { m with left := 0, mask := [] }
def startM (m : Mem) : Mem := { m with dead := false, left := 0, mask := [] }
def readM (m : Mem) (s : Int) : List UInt8 := if isSector s then m.page (placeOf s 0) 1024 else []

theorem eraseM_dead {m : Mem} (s : Int) (h : m.dead = true) : eraseM m s = (14, m) := by unfold eraseM; rw [if_pos h]
theorem eraseM_addr {m : Mem} {s : Int} (h : m.dead = false) (hs : ¬ isSector s) : eraseM m s = (12, m) := by unfold eraseM; rw [if_neg (by rw [h]; decide), if_pos hs]
theorem eraseM_ok {m : Mem} (s : Nat) (h : m.dead = false) (hs : s < 6) : eraseM m s = writeM m (s * 1024) (List.replicate 1024 255) := by
  unfold eraseM placeOf
  rw [if_neg (by rw [h]; decide), if_neg (by unfold isSector; omega)]
  simp only [Int.toNat_natCast, Int.toNat_zero, Nat.zero_mul, Nat.add_zero]
theorem programM_dead {m : Mem} (s p : Int) (b : List UInt8) (h : m.dead = true) : programM m s p b = (14, m) := by unfold programM; rw [if_pos h]
theorem programM_addr {m : Mem} {s p : Int} (b : List UInt8) (h : m.dead = false) (hs : ¬ isPage s p) : programM m s p b = (12, m) := by unfold programM; rw [if_neg (by rw [h]; decide), if_pos hs]
theorem programM_long {m : Mem} {s p : Int} {b : List UInt8} (h : m.dead = false) (hs : isPage s p) (hb : 16 < b.length) : programM m s p b = (5, m) := by
  unfold programM; rw [if_neg (by rw [h]; decide), if_neg (not_not_intro hs), if_pos hb]
theorem programM_set {m : Mem} {s p : Nat} {b : List UInt8} (h : m.dead = false) (hs : s < 6) (hp : p < 64) (hb : b.length ≤ 16) (ht : setsB (m.page (s * 1024 + p * 16) 16) (padded b) = true) : programM m s p b = (13, m) := by
  unfold programM placeOf
  rw [if_neg (by rw [h]; decide), if_neg (by unfold isPage isSector; omega), if_neg (by omega)]
  simp only [Int.toNat_natCast]
  rw [if_pos ht]
theorem programM_ok {m : Mem} {s p : Nat} {b : List UInt8} (h : m.dead = false) (hs : s < 6) (hp : p < 64) (hb : b.length ≤ 16) (ht : setsB (m.page (s * 1024 + p * 16) 16) (padded b) = false) : programM m s p b = writeM m (s * 1024 + p * 16) (padded b) := by
  unfold programM placeOf
  rw [if_neg (by rw [h]; decide), if_neg (by unfold isPage isSector; omega), if_neg (by omega)]
  simp only [Int.toNat_natCast]
  rw [if_neg (by rw [ht]; decide)]
theorem lay_len (B : List UInt8) (o : Nat) (x : List UInt8) (h : o + x.length ≤ B.length) : (lay B o x).length = B.length := by
  unfold lay
  simp only [List.length_append, List.length_take, List.length_drop]
  omega
theorem lay_at (B : List UInt8) (o : Nat) (x : List UInt8) (h : o + x.length ≤ B.length) (i : Nat) : (lay B o x).getD i 0 = if o ≤ i ∧ i < o + x.length then x.getD (i - o) 0 else B.getD i 0 := by
  unfold lay
  simp only [List.getD_eq_getElem?_getD]
  have ht : (B.take o).length = o := by rw [List.length_take]; omega
  by_cases h1 : i < o
  · rw [List.getElem?_append_left (by omega), if_neg (by omega), List.getElem?_take, if_pos h1]
  · rw [List.getElem?_append_right (by omega), ht]
    by_cases h2 : i < o + x.length
    · rw [List.getElem?_append_left (by omega), if_pos ⟨by omega, h2⟩]
    · rw [List.getElem?_append_right (by omega), if_neg (by omega), List.getElem?_drop, show o + x.length + (i - o - x.length) = i by omega]
theorem mixL_len (p n m : List UInt8) : (mixL p n m).length = n.length := by simp [mixL]
theorem mixL_at (p n m : List UInt8) (i : Nat) (h : i < n.length) : (mixL p n m).getD i 0 = mixB (p.getD i 0) (n.getD i 0) (maskAt m i) := by
  simp [mixL, List.getD, h]
theorem mixL_none (p n : List UInt8) (h : p.length = n.length) : mixL p n [] = p := by
  apply List.ext_getElem (by rw [mixL_len, h])
  intro i h1 h2
  have e : (mixL p n []).getD i 0 = p.getD i 0 := by
    rw [mixL_at p n [] i (by omega)]
    simp [maskAt, mixB]
  simpa [List.getD, List.getElem?_eq_getElem h1, List.getElem?_eq_getElem h2] using e
theorem lay_nil (B : List UInt8) (o : Nat) : lay B o [] = B := by simp [lay]
theorem lay_step (B x : List UInt8) (o k : Nat) (hk : k < x.length) (h : o + x.length ≤ B.length) : (lay B o (x.take k)).set (o + k) (x.getD k 0) = lay B o (x.take (k + 1)) := by
  have hx : x.getD k 0 = x[k] := by simp [List.getD, List.getElem?_eq_getElem hk]
  have ht : (B.take o).length = o := by rw [List.length_take]; omega
  have hk1 : (x.take k).length = k := by rw [List.length_take]; omega
  have hk2 : (x.take (k + 1)).length = k + 1 := by rw [List.length_take]; omega
  unfold lay
  rw [hk1, hk2, List.set_append_right _ _ (by omega), ht, Nat.add_sub_cancel_left, List.set_append_right _ _ (by omega), hk1, Nat.sub_self, hx, List.take_succ_eq_append_getElem hk,
    List.drop_eq_getElem_cons (by omega), List.set_cons_zero, List.append_assoc]
  rfl
theorem lay_front (B x : List UInt8) (o k j : Nat) (hk : k ≤ x.length) (hj : k ≤ j) (h : o + x.length ≤ B.length) : (lay B o (x.take k)).getD (o + j) 0 = B.getD (o + j) 0 := by
  rw [lay_at _ _ _ (by rw [List.length_take]; omega), if_neg (by rw [List.length_take]; omega)]
theorem page_at (m : Mem) (o n j : Nat) (hj : j < n) : (m.page o n).getD j 0 = m.B.getD (o + j) 0 := by
  unfold Mem.page
  simp only [List.getD_eq_getElem?_getD]
  rw [List.getElem?_take, if_pos hj, List.getElem?_drop]
theorem page_len (m : Mem) (o n : Nat) (h : o + n ≤ m.B.length) : (m.page o n).length = n := by
  unfold Mem.page
  rw [List.length_take, List.length_drop]
  omega
theorem padded_len (b : List UInt8) (h : b.length ≤ 16) : (padded b).length = 16 := by
  unfold padded
  rw [List.length_append, List.length_replicate]
  omega
theorem writeM_len (m : Mem) (o : Nat) (x : List UInt8) (h : o + x.length ≤ m.B.length) : (writeM m o x).2.B.length = m.B.length := by
  unfold writeM
  split
  · exact lay_len _ _ _ (by rw [mixL_len]; exact h)
  · exact lay_len _ _ _ h
/-- Bit by bit, the two ways to say it are one. -/
theorem mix_bits (p b m : UInt8) : p ^^^ ((p ^^^ b) &&& m) = mixB p b m := by
  apply UInt8.eq_of_toBitVec_eq
  simp only [mixB, UInt8.toBitVec_xor, UInt8.toBitVec_and, UInt8.toBitVec_or, UInt8.toBitVec_not]
  ext i hi
  simp only [BitVec.getElem_xor, BitVec.getElem_and, BitVec.getElem_or, BitVec.getElem_not]
  cases p.toBitVec[i] <;> cases b.toBitVec[i] <;> cases m.toBitVec[i] <;> rfl
end Go.Proofs.YtmebdnblobobnaaGreatDoor.Fm

namespace Go.Proofs.YtmebdnblobobnaaGreatDoor.Fm
set_option maxRecDepth 100000
open Go.RowKit

theorem ext_getD {a b : List UInt8} (hl : a.length = b.length) (h : ∀ i, i < a.length → a.getD i 0 = b.getD i 0) : a = b := by
  apply List.ext_getElem hl
  intro i h1 h2
  have := h i h1
  simpa [List.getD, List.getElem?_eq_getElem h1, List.getElem?_eq_getElem h2] using this
theorem rep_getD (n : Nat) (c : UInt8) (i : Nat) (h : i < n) : (List.replicate n c).getD i 0 = c := by
  simp [List.getD, h]
theorem padded_at (b : List UInt8) (i : Nat) (h : i < 16) : (padded b).getD i 0 = if i < b.length then b.getD i 0 else 255 := by
  unfold padded
  simp only [List.getD_eq_getElem?_getD]
  by_cases h1 : i < b.length
  · rw [List.getElem?_append_left h1, if_pos h1]
  · rw [List.getElem?_append_right (by omega), if_neg h1, List.getElem?_replicate, if_pos (by omega)]
    rfl
theorem page_lay (m : Mem) (B : List UInt8) (o : Nat) (x : List UInt8) (hm : m.B = lay B o x) (h : o + x.length ≤ B.length) : m.page o x.length = x := by
  have hl : m.B.length = B.length := by rw [hm, lay_len _ _ _ h]
  apply ext_getD (page_len m o _ (by omega))
  intro i hi
  rw [page_len m o _ (by omega)] at hi
  rw [page_at m o _ i hi, hm, lay_at _ _ _ h, if_pos ⟨by omega, by omega⟩]
  congr 1
  omega
theorem sets_blank (P N : List UInt8) (h : ∀ i, i < N.length → P.getD i 0 = 255) : setsB P N = false := by
  unfold setsB
  rw [List.any_eq_false]
  intro k hk
  rw [h k (by simpa using hk), show ~~~(255 : UInt8) = 0 from rfl, UInt8.and_zero]
  decide
theorem fresh_at (i : Nat) (h : i < 6144) : Mem.fresh.B.getD i 0 = 255 := rep_getD 6144 255 i h
theorem fresh_len : Mem.fresh.B.length = 6144 := List.length_replicate ..
theorem writeM_go {m : Mem} (o : Nat) (x : List UInt8) (h : m.left = 0) : writeM m o x = (0, ⟨lay m.B o x, m.dead, wrap64 (m.ops + 1), 0, m.mask⟩) := by
  unfold writeM
  rw [if_neg (by omega), h]
  rfl
/-- The first program of a page. -/
theorem program_blank {m : Mem} {s p : Nat} {b : List UInt8} (hd : m.dead = false) (hs : s < 6) (hp : p < 64) (hb : b.length ≤ 16) (h0 : m.left = 0) (hc : ∀ i, i < 16 → m.B.getD (s * 1024 + p * 16 + i) 0 = 255) :
    programM m s p b = (0, ⟨lay m.B (s * 1024 + p * 16) (padded b), m.dead, wrap64 (m.ops + 1), 0, m.mask⟩) := by
  rw [programM_ok hd hs hp hb, writeM_go _ _ h0]
  apply sets_blank
  intro i hi
  rw [padded_len b hb] at hi
  rw [page_at m _ 16 i hi]
  exact hc i hi
end Go.Proofs.YtmebdnblobobnaaGreatDoor.Fm

namespace Go.Proofs.YtmebdnblobobnaaGreatDoor
set_option maxRecDepth 100000
open Go.RowKit _root_.Go.Proofs.YtmebdnblobobnaaGreatDoor.Wd _root_.Go.Proofs.YtmebdnblobobnaaGreatDoor.Cm

def tn (c : BitVec 32) : Int := (c.toNat : Int)
theorem u32_wrap_nat (n : Nat) (h : n < 4294967296) : IntKind.u32.wrap (n : Int) = n := by
  rw [IntKind.wrap_u32]; omega
theorem tn_bd (c : BitVec 32) : 0 ≤ tn c ∧ tn c < 4294967296 := by
  have := c.isLt
  unfold tn
  omega
theorem tn_mod (c : BitVec 32) : tn c % 4294967296 = tn c := by have := tn_bd c; omega
theorem u32_xor (a b : BitVec 32) : bits BinOp.xor IntKind.u32 (tn a) (tn b) = tn (a ^^^ b) := by
  show IntKind.u32.wrap ((BitVec.ofInt 32 (a.toNat : Int) ^^^ BitVec.ofInt 32 (b.toNat : Int)).toNat : Int) = ((a ^^^ b).toNat : Int)
  rw [BitVec.ofInt_natCast, BitVec.ofInt_natCast, BitVec.ofNat_toNat, BitVec.ofNat_toNat, BitVec.setWidth_eq, BitVec.setWidth_eq]
  exact u32_wrap_nat _ (a ^^^ b).isLt
theorem u32_and (a b : BitVec 32) : bits BinOp.and IntKind.u32 (tn a) (tn b) = tn (a &&& b) := by
  show IntKind.u32.wrap ((BitVec.ofInt 32 (a.toNat : Int) &&& BitVec.ofInt 32 (b.toNat : Int)).toNat : Int) = ((a &&& b).toNat : Int)
  rw [BitVec.ofInt_natCast, BitVec.ofInt_natCast, BitVec.ofNat_toNat, BitVec.ofNat_toNat, BitVec.setWidth_eq, BitVec.setWidth_eq]
  exact u32_wrap_nat _ (a &&& b).isLt
theorem u32_or (a b : BitVec 32) : bits BinOp.or IntKind.u32 (tn a) (tn b) = tn (a ||| b) := by
  show IntKind.u32.wrap ((BitVec.ofInt 32 (a.toNat : Int) ||| BitVec.ofInt 32 (b.toNat : Int)).toNat : Int) = ((a ||| b).toNat : Int)
  rw [BitVec.ofInt_natCast, BitVec.ofInt_natCast, BitVec.ofNat_toNat, BitVec.ofNat_toNat, BitVec.setWidth_eq, BitVec.setWidth_eq]
  exact u32_wrap_nat _ (a ||| b).isLt
theorem u32_add (a b : BitVec 32) : (tn a + tn b) % 4294967296 = tn (a + b) := by
  unfold tn
  rw [BitVec.toNat_add]
  omega
theorem u32_add5 (a b c d e : BitVec 32) : (tn a + tn b + tn c + tn d + tn e) % 4294967296 = tn (a + b + c + d + e) := by
  unfold tn
  simp only [BitVec.toNat_add]
  omega
theorem u32_shr (c : BitVec 32) (n : Nat) : tn c / (2 : Int) ^ n = tn (c >>> n) := by
  unfold tn
  rw [BitVec.toNat_ushiftRight, Nat.shiftRight_eq_div_pow, Int.natCast_ediv]
  simp
theorem u32_shl (c : BitVec 32) (n : Nat) : tn c * (2 : Int) ^ n % 4294967296 = tn (c <<< n) := by
  unfold tn
  rw [BitVec.toNat_shiftLeft, Nat.shiftLeft_eq, Int.natCast_emod, Int.natCast_mul]
  simp
theorem u32_shr3 (c : BitVec 32) : tn c / (8 : Int) = tn (c >>> 3) := u32_shr c 3
theorem u32_shr10 (c : BitVec 32) : tn c / (1024 : Int) = tn (c >>> 10) := u32_shr c 10
theorem tn_wide (x : UInt8) : tn (wide x) = (x.toNat : Int) := by
  have h := x.toNat_lt
  unfold tn wide
  rw [BitVec.toNat_setWidth]
  show ((x.toNat % 2 ^ 32 : Nat) : Int) = x.toNat
  omega
theorem tn_full : tn full = 4294967295 := rfl
theorem full_bit (i : Nat) (h : i < 32) : full.getLsbD i = true := by
  have hall : ∀ k, k < 32 → full.getLsbD k = true := by decide
  exact hall i h
theorem u32_not (c : BitVec 32) : bits BinOp.xor IntKind.u32 IntKind.u32.max (tn c) = tn (~~~ c) := by
  have h : bits BinOp.xor IntKind.u32 (tn full) (tn c) = tn (full ^^^ c) := u32_xor _ _
  have hf : full ^^^ c = ~~~ c := by
    apply BitVec.eq_of_getLsbD_eq
    intro i hi
    rw [BitVec.getLsbD_xor, full_bit i hi]
    simp [hi]
  rw [hf] at h
  exact h
end Go.Proofs.YtmebdnblobobnaaGreatDoor

namespace Go.Proofs.YtmebdnblobobnaaGreatDoor.Sm
set_option maxRecDepth 100000
open _root_.Go.Proofs.YtmebdnblobobnaaGreatDoor.Cm _root_.Go.Proofs.YtmebdnblobobnaaGreatDoor.Nm

/-- To the right, what falls out comes in again. -/
def ror (x : BitVec 32) (n : Nat) : BitVec 32 := (x >>> n) ||| (x <<< (32 - n))
def ks : List (BitVec 32) := [0x428a2f98, 0x71374491, 0xb5c0fbcf, 0xe9b5dba5, 0x3956c25b, 0x59f111f1, 0x923f82a4, 0xab1c5ed5, 0xd807aa98, 0x12835b01, 0x243185be, 0x550c7dc3, 0x72be5d74, 0x80deb1fe, 0x9bdc06a7, 0xc19bf174, 0xe49b69c1, 0xefbe4786, 0x0fc19dc6, 0x240ca1cc, 0x2de92c6f, 0x4a7484aa, 0x5cb0a9dc, 0x76f988da, 0x983e5152, 0xa831c66d, 0xb00327c8, 0xbf597fc7, 0xc6e00bf3, 0xd5a79147, 0x06ca6351, 0x14292967, 0x27b70a85, 0x2e1b2138, 0x4d2c6dfc, 0x53380d13, 0x650a7354, 0x766a0abb, 0x81c2c92e, 0x92722c85, 0xa2bfe8a1, 0xa81a664b, 0xc24b8b70, 0xc76c51a3, 0xd192e819, 0xd6990624, 0xf40e3585, 0x106aa070, 0x19a4c116, 0x1e376c08, 0x2748774c, 0x34b0bcb5, 0x391c0cb3, 0x4ed8aa4a, 0x5b9cca4f, 0x682e6ff3, 0x748f82ee, 0x78a5636f, 0x84c87814, 0x8cc70208, 0x90befffa, 0xa4506ceb, 0xbef9a3f7, 0xc67178f2]
structure St where
  a : BitVec 32
  b : BitVec 32
  c : BitVec 32
  d : BitVec 32
  e : BitVec 32
  f : BitVec 32
  g : BitVec 32
  h : BitVec 32
def St.list (s : St) : List (BitVec 32) := [s.a, s.b, s.c, s.d, s.e, s.f, s.g, s.h]
def ini : St := ⟨1779033703, 3144134277, 1013904242, 2773480762, 1359893119, 2600822924, 528734635, 1541459225⟩
def St.x (s : St) (k w : BitVec 32) : BitVec 32 := s.h + (ror s.e 6 ^^^ ror s.e 11 ^^^ ror s.e 25) + ((s.e &&& s.f) ^^^ (~~~ s.e &&& s.g)) + k + w
def St.y (s : St) : BitVec 32 := (ror s.a 2 ^^^ ror s.a 13 ^^^ ror s.a 22) + ((s.a &&& s.b) ^^^ (s.a &&& s.c) ^^^ (s.b &&& s.c))
def St.step (s : St) (k w : BitVec 32) : St := ⟨s.x k w + s.y, s.a, s.b, s.c, s.d + s.x k w, s.e, s.f, s.g⟩
def rounds (W : List (BitVec 32)) (s : St) : Nat → St
  | 0 => s
  | n + 1 => (rounds W s n).step (ks.getD n 0) (W.getD n 0)
def St.plus (s t : St) : St := ⟨s.a + t.a, s.b + t.b, s.c + t.c, s.d + t.d, s.e + t.e, s.f + t.f, s.g + t.g, s.h + t.h⟩
/-- The first k bytes of word i of a block. -/
def wpart (b : List UInt8) (i : Nat) : Nat → BitVec 32
  | 0 => 0
  | k + 1 => (wpart b i k <<< 8) ||| wide (b.getD (4 * i + k) 0)
def nxt (l : List (BitVec 32)) (n : Nat) : BitVec 32 :=
  (ror (l.getD (n - 2) 0) 17 ^^^ ror (l.getD (n - 2) 0) 19 ^^^ l.getD (n - 2) 0 >>> 10) + l.getD (n - 7) 0 + (ror (l.getD (n - 15) 0) 7 ^^^ ror (l.getD (n - 15) 0) 18 ^^^ l.getD (n - 15) 0 >>> 3) + l.getD (n - 16) 0
/-- The first n words that a block spreads to. -/
def sched (b : List UInt8) : Nat → List (BitVec 32)
  | 0 => []
  | n + 1 => sched b n ++ [if n < 16 then wpart b n 4 else nxt (sched b n) n]
theorem sched_len (b : List UInt8) (n : Nat) : (sched b n).length = n := by
  induction n with
  | zero => rfl
  | succ n ih => simp [sched, ih]
def comp (s : St) (b : List UInt8) : St := s.plus (rounds (sched b 64) s 64)
/-- The state behind the first n blocks. -/
def folded (l : List UInt8) : Nat → St
  | 0 => ini
  | n + 1 => comp (folded l n) ((l.drop (64 * n)).take 64)
theorem folded_take (l r : List UInt8) : ∀ n, 64 * n ≤ l.length → folded (l ++ r) n = folded l n
  | 0, _ => rfl
  | n + 1, h => by
    show comp _ _ = comp _ _
    rw [folded_take l r n (by omega), List.drop_append_of_le_length (by omega), List.take_append_of_le_length (by rw [List.length_drop]; omega)]
/-- A number's k lowest bytes, the highest first. -/
def beb (n : Int) (k : Nat) : List UInt8 := (List.range k).map fun i => lb n (k - 1 - i)
theorem beb_len (n : Int) (k : Nat) : (beb n k).length = k := by simp [beb]
/-- How many noughts fill n bytes and the mark. -/
def fill (n : Nat) : Nat := (120 - (n + 1) % 64) % 64
def pad (l : List UInt8) : List UInt8 := l ++ [128] ++ List.replicate (fill l.length) 0 ++ beb ((8 * l.length : Nat) : Int) 8
theorem fill_whole (n : Nat) : (n + 1 + fill n + 8) % 64 = 0 := by unfold fill; omega
theorem fill_lt (n : Nat) : fill n < 64 := by unfold fill; omega
theorem pad_len (l : List UInt8) : (pad l).length = l.length + 1 + fill l.length + 8 := by simp [pad, beb_len]; omega
def out (s : St) : List UInt8 := s.list.flatMap fun c => beb (c.toNat : Int) 4
theorem out_len (s : St) : (out s).length = 32 := by simp [out, St.list, beb_len]
def sha (l : List UInt8) : List UInt8 := out (folded (pad l) ((pad l).length / 64))
theorem sha_len (l : List UInt8) : (sha l).length = 32 := out_len _
/-- What a block of noughts spreads to. -/
theorem sched_nought : sched (List.replicate 64 0) 64 = List.replicate 64 0 := by decide +kernel
def digit (n : UInt8) : UInt8 := if n < 10 then 48 + n else 87 + n
def hex (l : List UInt8) : List UInt8 := l.flatMap fun b => [digit (b / 16), digit (b % 16)]
theorem sha_known : (hex (sha [97, 98, 99])).take 8 = [98, 97, 55, 56, 49, 54, 98, 102] := by decide +kernel
end Go.Proofs.YtmebdnblobobnaaGreatDoor.Sm

namespace Go.Proofs.YtmebdnblobobnaaGreatDoor
set_option maxRecDepth 100000
open Go.RowKit _root_.Go.Proofs.YtmebdnblobobnaaGreatDoor.Wd

theorem fold_set (L : List Value) : ∀ (o : Nat) (Z : Array Value), o + L.length ≤ Z.size → (L.zipIdx o).foldl (fun (cs : Array Value) (p : Value × Nat) => cs.setIfInBounds p.2 p.1) Z = (Z.toList.take o ++ (L ++ Z.toList.drop (o + L.length))).toArray := by
  induction L with
  | nil => intro o Z _; simp
  | cons x r ih =>
    intro o Z h
    rw [List.zipIdx_cons, List.foldl_cons, ih (o + 1) _ (by simp at h ⊢; omega)]
    simp only [List.length_cons] at h
    congr 1
    rw [Array.toList_setIfInBounds, List.take_set, List.drop_set_of_lt (by omega)]
    have e : (Z.toList.take (o + 1)).set o x = Z.toList.take o ++ [x] := by
      rw [List.take_succ_eq_append_getElem (by rw [Array.length_toList]; omega), List.set_append_right _ _ (by rw [List.length_take]; omega)]
      have : o - (Z.toList.take o).length = 0 := by rw [List.length_take, Array.length_toList]; omega
      rw [this, List.set_cons_zero]
    rw [e, List.append_assoc, show o + 1 + r.length = o + (x :: r).length by simp; omega]
    rfl

section
variable {P : Program}
theorem run_slice_one (w : World) (t e : TypeId) (i : TypeInfo) (z : Value) (ht : P.underlying t = some (.slice e)) (hi : P.info? e = some i) (hz : i.zero = some z) (L : List Value) (hL : L.length = i.size) (h0 : 0 < i.size) (hs : i.size ≤ 16777216) :
    (Instr.buildSlice t 1 #[(0, .agg L.toArray)]).run P w = .ok (.slice (some ⟨w.heap.size, 0, none⟩) 1 1) (w.alloc (.cells L.toArray e)) := by
  have hf : Instr.fill (fun j => some (j * i.size, i.size)) ((Array.range (1 * i.size)).map (z.cells[· % z.cells.size]!)) [(0, .agg L.toArray)] = some L.toArray := by
    have hsz : (Value.agg L.toArray).cells = L.toArray := rfl
    simp only [Instr.fill, hsz, List.size_toArray, hL]
    rw [if_neg (by simp)]
    congr 1
    rw [← Array.foldl_toList, Array.toList_zipIdx]
    have h := fold_set L 0 ((Array.range (1 * i.size)).map (z.cells[· % z.cells.size]!)) (by simp; omega)
    simp only [Nat.zero_mul, Nat.zero_add] at h ⊢
    rw [h, List.take_zero, List.nil_append, List.drop_eq_nil_of_le (by simp; omega), List.append_nil]
  have h1 : ¬ (1 * i.size > 2 ^ 24) := by omega
  have h2 : ¬ (1 * i.size = 0) := by omega
  have hti : ∀ W, (typeInfo e).run P W = .ok i W := fun W => by simp [typeInfo, hi]
  have hso : ∀ W, (sizeOf e).run P W = .ok i.size W := fun W => by simp [sizeOf, hti]
  have hzv : ∀ W, (zeroValue e).run P W = .ok z W := fun W => by simp [zeroValue, hti, hz]
  unfold Instr.buildSlice
  simp only [Sem.run_bind, run_underlying ht, Result.andThen_ok, hso, if_neg h1, if_neg h2, Sem.run_pure, hzv, hf]
  simp [newRow]
/-- As the walk meets it. -/
theorem wpList_slice_one {ops : Array Oper} {rest : List Oper} {o : Oper} {a : Act} {w : World} {Q : Exit → Act → World → Prop} (hgd : o.guard = none) (t e : TypeId) (x : Operand) (ho : o.op = .buildSlice t 1 #[(0, x)]) (i : TypeInfo) (z : Value)
    (ht : P.underlying t = some (.slice e)) (hi : P.info? e = some i) (hz : i.zero = some z) (L : List Value) (hL : L.length = i.size) (h0 : 0 < i.size) (hs : i.size ≤ 16777216) (hx : a.eval x = .agg L.toArray)
    (h : wpList P ops Q rest (a.put o.dst (.slice (some ⟨w.heap.size, 0, none⟩) 1 1)) (w.alloc (.cells L.toArray e))) : wpList P ops Q (o :: rest) a w :=
  wpList_plain hgd fun K hK => by
    have hr := run_slice_one (P := P) w t e i z ht hi hz L hL h0 hs
    unfold Oper.wp execOp
    simp only [ho]
    simp [hx, hr]
    exact hK _ _ h
end
end Go.Proofs.YtmebdnblobobnaaGreatDoor

namespace Go.Proofs.YtmebdnblobobnaaGreatDoor
set_option maxRecDepth 100000
open Go.RowKit

/-- What must hold behind every operation may be made stronger on the way. -/
theorem wpAnyH_up {P : Program} {md : Region.Mode} {ops : Array Oper} {Q : Exit → Act → World → Prop} {S S' : World → Prop} (himp : ∀ W, S' W → S W) :
    ∀ (fuel : Nat) (listed : Array Bool) (a : Act) (w : World), wpAnyH P md ops Q S' fuel listed a w → wpAnyH P md ops Q S fuel listed a w
  | 0, _, _, _, h => h
  | fuel + 1, _, _, _, h => ⟨h.1, fun i hi => wpOp_mono (fun _ _ h' => ⟨himp _ h'.1, wpAnyH_up himp fuel _ _ _ h'.2⟩) (h.2 i hi)⟩
end Go.Proofs.YtmebdnblobobnaaGreatDoor

