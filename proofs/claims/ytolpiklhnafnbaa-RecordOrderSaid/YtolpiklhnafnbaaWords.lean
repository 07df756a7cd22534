/- Words on slices of bytes, for every program: what a slice shows, that it goes on showing it, and what an append leaves. Nothing here speaks of one program. -/
import Derived.WalkKit
import Derived.ProofKit
import Derived.WalkSpells
import Derived.WalkLawsBesides
import Derived.Deep.AppendSrc
import Derived.Laws.IdiomStrings
import Derived.Lib.BufferRead
namespace Go.Proofs.Ytolpiklhnafnbaa.Wd
set_option maxRecDepth 100000
open Go.RowKit

/-! ### bytes as cells -/
def bc (l : List UInt8) : List Value := l.map fun c => Value.int .u8 (c.toNat : Int)
theorem bc_len (l : List UInt8) : (bc l).length = l.length := by simp [bc]
theorem bc_app (a b : List UInt8) : bc (a ++ b) = bc a ++ bc b := by simp [bc]
theorem bc_one (l : List UInt8) : ∀ u ∈ bc l, u.oneCell' = true := by
  intro u hu
  obtain ⟨_, _, rfl⟩ := List.mem_map.1 hu
  rfl
theorem bc_get (l : List UInt8) (j : Nat) (h : j < l.length) : (bc l)[j]? = some (.int .u8 (l[j].toNat : Int)) := by
  simp [bc, List.getElem?_eq_getElem h]
theorem bc_at {l : List UInt8} {j : Nat} {u : Value} (h : (bc l)[j]? = some u) : ∃ hj : j < l.length, u = .int .u8 (l[j].toNat : Int) := by
  have hj : j < l.length := by
    have := (List.getElem?_eq_some_iff.1 h).1
    simpa [bc] using this
  refine ⟨hj, ?_⟩
  rw [bc_get l j hj] at h
  exact (Option.some.inj h).symm
theorem bc_byteCells (s : ByteArray) : byteCells s = bc s.data.toList := rfl

/-! ### a slice that shows bytes -/
structure Shows (w : World) (B : Nat) (A : Option Addr) (n cap : Nat) (l : List UInt8) : Prop where
  len : l.length = n
  le : n ≤ cap
  top : cap ≤ maxLen
  spot : 0 < n → ∃ g o, A = some ⟨g, o, none⟩ ∧ g < B ∧ ∀ j (h : j < l.length), w.cell? ⟨g, o + j, none⟩ = some (.int .u8 (l[j].toNat : Int))

section
variable {w w' : World} {B B' : Nat} {A : Option Addr} {n cap : Nat} {l : List UInt8}

theorem Shows.nil (w : World) (B : Nat) : Shows w B none 0 0 [] := ⟨rfl, Nat.le_refl _, Nat.zero_le _, fun h => absurd h (by omega)⟩
theorem Shows.keep (h : Shows w B A n cap l) (hk : ∀ p : Addr, p.block < B → w'.cell? p = w.cell? p) : Shows w' B A n cap l :=
  ⟨h.len, h.le, h.top, fun hn => by
    obtain ⟨g, o, e, hb, hc⟩ := h.spot hn
    exact ⟨g, o, e, hb, fun j hj => (hk _ hb).trans (hc j hj)⟩⟩
theorem Shows.more (h : Shows w B A n cap l) (hB : B ≤ B') : Shows w B' A n cap l :=
  ⟨h.len, h.le, h.top, fun hn => by
    obtain ⟨g, o, e, hb, hc⟩ := h.spot hn
    exact ⟨g, o, e, by omega, hc⟩⟩
theorem Shows.below (h : Shows w B A n cap l) (hb : Below B w w') : Shows w' B A n cap l := h.keep fun _ hp => hb.cell hp
theorem Shows.grown (h : Shows w B A n cap l) {row : Option Nat} (hg : w.grownBy w' row) (hB : B ≤ w.heap.size) (hr : ∀ k, row = some k → B ≤ k) : Shows w' B A n cap l :=
  h.below ((Below.refl B w).grown hg hB hr)
theorem Shows.of_own {base : Nat} {e : TypeId} (h : w.ownsRow base e 1 (.slice A n cap) n (bc l)) : Shows w w.heap.size A n cap l := by
  have hl : l.length = n := by have := h.1; simpa [bc_len] using this
  rcases h.2 with ⟨h', hn⟩ | ⟨g, cap', cur, h', hb, hg, hnc, hcm, hcs, ht⟩
  · injection h' with h1 h2 h3
    subst h1 h2 h3
    exact ⟨hl, Nat.le_refl _, Nat.zero_le _, fun h => absurd h (by omega)⟩
  · injection h' with h1 h2 h3
    subst h1 h3
    refine ⟨hl, hnc, hcm, fun _ => ⟨g, 0, rfl, (Array.getElem?_eq_some_iff.1 hg).1, fun j hj => ?_⟩⟩
    rw [cell_of_row w g (0 + j) cur e (0, 0) hg]
    have hb := bc_get l j hj
    rw [← ht, List.getElem?_take] at hb
    split at hb
    · simpa using hb
    · cases hb

/-- What an append asks of its second argument. -/
theorem Shows.src {P : Program} {t e : TypeId} (h : Shows w B A n cap l) (ht : P.underlying t = some (.slice e)) : Src P 1 t (.slice A n cap) n (bc l) w := by
  rcases Nat.eq_zero_or_pos n with h0 | h0
  · subst h0
    have hl : l = [] := List.eq_nil_of_length_eq_zero h.len
    subst hl
    rcases A with _ | a
    · exact Src.ofNil w ht cap
    · exact Src.ofSlice w ht a 0 cap [] (by simp) (fun j u hu => by simp at hu) (fun u hu => by cases hu)
  · obtain ⟨g, o, rfl, _, hc⟩ := h.spot h0
    refine Src.ofSlice w ht _ n cap (bc l) (by rw [bc_len, h.len, Nat.mul_one]) (fun j u hu => ?_) (bc_one l)
    obtain ⟨hj, rfl⟩ := bc_at hu
    rw [Addr.add_lit]
    exact hc j hj

/-- 'string(b)'. -/
theorem Shows.conv {P : Program} {src dst e : TypeId} (h : Shows w B A n cap l) (hs : P.underlying src = some (.slice e)) (he : P.underlying e = some (.int .u8)) (hd : P.underlying dst = some .string) :
    (convert src dst (.slice A n cap)).run P w = .ok (.string ⟨l.toArray⟩) w := by
  rcases Nat.eq_zero_or_pos n with h0 | h0
  · subst h0
    have hl : l = [] := List.eq_nil_of_length_eq_zero h.len
    subst hl
    rcases A with _ | a
    · exact Lib.run_convert_nil_bytes w src dst e cap hs he hd
    · exact run_convert_bytes_back w src dst e a cap [] hs he hd (fun j hj => absurd hj (by simp))
  · obtain ⟨g, o, rfl, _, hc⟩ := h.spot h0
    have hl := h.len
    subst hl
    exact run_convert_bytes_back w src dst e _ cap l hs he hd (fun j hj => by rw [Addr.add_lit]; exact hc j hj)

/-- A cell of it, by its address. -/
theorem Shows.cells (h : Shows w B A n cap l) (h0 : 0 < n) : ∃ g o, A = some ⟨g, o, none⟩ ∧ g < B ∧ ∀ j (_ : j < n), w.cell? ⟨g, o + j, none⟩ = some (.int .u8 ((l.getD j 0).toNat : Int)) := by
  obtain ⟨g, o, e, hb, hc⟩ := h.spot h0
  refine ⟨g, o, e, hb, fun j hj => ?_⟩
  have hj' : j < l.length := by rw [h.len]; exact hj
  rw [hc j hj', List.getD_eq_getElem?_getD, List.getElem?_eq_getElem hj']
  rfl

theorem Shows.take (h : Shows w B A n cap l) {k : Nat} (hk : k ≤ n) : Shows w B A k cap (l.take k) := by
  refine ⟨by rw [List.length_take, h.len]; omega, Nat.le_trans hk h.le, h.top, fun h0 => ?_⟩
  obtain ⟨g, o, e, hb, hc⟩ := h.spot (by omega)
  refine ⟨g, o, e, hb, fun j hj => ?_⟩
  have hj' : j < l.length := by rw [List.length_take] at hj; omega
  rw [hc j hj', List.getElem_take]

theorem Shows.drop (h : Shows w B A n cap l) {k : Nat} (hk : k ≤ n) : Shows w B (if cap = k then A else A.map (·.add k)) (n - k) (cap - k) (l.drop k) := by
  refine ⟨by rw [List.length_drop, h.len], by have := h.le; omega, by have := h.top; omega, fun h0 => ?_⟩
  obtain ⟨g, o, rfl, hb, hc⟩ := h.spot (by omega)
  rw [if_neg (by have := h.le; omega)]
  refine ⟨g, o + k, by rw [Option.map_some, Addr.add_lit], hb, fun j hj => ?_⟩
  have hj' : k + j < l.length := by rw [List.length_drop] at hj; omega
  have := hc (k + j) hj'
  rw [Nat.add_assoc, this, List.getElem_drop]
end

/-! ### a slice of whatever plain values -/
structure Lays (w : World) (B : Nat) (A : Option Addr) (n cap : Nat) (vs : List Value) : Prop where
  len : vs.length = n
  le : n ≤ cap
  top : cap ≤ maxLen
  spot : 0 < n → ∃ g o, A = some ⟨g, o, none⟩ ∧ g < B ∧ ∀ j (h : j < vs.length), w.cell? ⟨g, o + j, none⟩ = some vs[j]
theorem Lays.keep {w w' : World} {B : Nat} {A : Option Addr} {n cap : Nat} {vs : List Value} (h : Lays w B A n cap vs) (hk : ∀ p : Addr, p.block < B → w'.cell? p = w.cell? p) : Lays w' B A n cap vs :=
  ⟨h.len, h.le, h.top, fun hn => by
    obtain ⟨g, o, e, hb, hc⟩ := h.spot hn
    exact ⟨g, o, e, hb, fun j hj => (hk _ hb).trans (hc j hj)⟩⟩
theorem Lays.below {w w' : World} {B : Nat} {A : Option Addr} {n cap : Nat} {vs : List Value} (h : Lays w B A n cap vs) (hb : Below B w w') : Lays w' B A n cap vs := h.keep fun _ hp => hb.cell hp
theorem Lays.nil (w : World) (B : Nat) : Lays w B none 0 0 [] := ⟨rfl, Nat.le_refl _, Nat.zero_le _, fun h => absurd h (by omega)⟩
/-- As an argument's cells are handed over. -/
theorem Lays.of_cells {w : World} {x : Addr} {n cap : Nat} {us : List Value} (hl : n ≤ cap) (hm : cap ≤ maxLen) (hz : us.length = cap) (hc : ∀ i, i < us.length → w.cell? (x.add i) = us[i]?) : Lays w w.heap.size (some x) n cap (us.take n) := by
  have hlen : (us.take n).length = n := by rw [List.length_take, hz]; omega
  refine ⟨hlen, hl, hm, fun hn => ?_⟩
  obtain ⟨g, o, spot⟩ := x
  have h0 := hc 0 (by omega)
  rw [List.getElem?_eq_getElem (by omega)] at h0
  have hs : spot = none := by simpa [Addr.add] using World.cell?_spot h0
  subst hs
  refine ⟨g, o, rfl, ?_, fun j hj => ?_⟩
  · have := World.block_lt_of_cell? w _ h0
    simpa [Addr.add] using this
  · have h1 := hc j (by omega)
    rw [Addr.add_lit, List.getElem?_eq_getElem (by omega)] at h1
    rw [h1, List.getElem_take]
theorem Shows.of_lays {w : World} {B : Nat} {A : Option Addr} {n cap : Nat} {l : List UInt8} (h : Lays w B A n cap (bc l)) : Shows w B A n cap l :=
  ⟨by rw [← bc_len]; exact h.len, h.le, h.top, fun hn => by
    obtain ⟨g, o, e, hb, hc⟩ := h.spot hn
    refine ⟨g, o, e, hb, fun j hj => ?_⟩
    rw [hc j (by rw [bc_len]; exact hj)]
    have := bc_get l j hj
    rw [List.getElem?_eq_getElem (by rw [bc_len]; exact hj)] at this
    exact this⟩
theorem bc_of_ints (zs : List Int) (hwz : ∀ n ∈ zs, (Lit.int .u8 n).wf = true) : zs.map (Value.int .u8) = bc (zs.map fun z => UInt8.ofNat z.toNat) := by
  unfold bc
  rw [List.map_map]
  apply List.map_congr_left
  intro z hz
  have h := hwz z hz
  simp [Lit.wf, IntKind.min, IntKind.max, IntKind.signed, IntKind.bits] at h
  simp
  omega

/-! ### the worlds of two calls, one behind the other -/
theorem grow_refl (w : World) (row : Option Nat) : w.grownBy w row := ⟨rfl, rfl, rfl, Nat.le_refl _, fun _ _ _ => rfl⟩
theorem grow_drew {w w' : World} {row : Option Nat} (h : w.grownBy w' row) : w.grownBy w'.drew row := ⟨h.os, h.tape, h.output, h.size, h.block⟩
theorem grow_trans {w w1 w2 : World} {r r' : Option Nat} (h1 : w.grownBy w1 r) (h2 : w1.grownBy w2 r') (hr : r' = r ∨ ∀ k, r' = some k → w.heap.size ≤ k) : w.grownBy w2 r := by
  refine ⟨h2.os.trans h1.os, h2.tape.trans h1.tape, h2.output.trans h1.output, Nat.le_trans h1.size h2.size, fun k hk hne => ?_⟩
  refine (h2.block k (Nat.lt_of_lt_of_le hk h1.size) (fun e => ?_)).trans (h1.block k hk hne)
  rcases hr with rfl | hr
  · exact hne e
  · have := hr k e.symm; omega
theorem grow_below {w w' : World} {row : Option Nat} (h : w.grownBy w' row) {B : Nat} (hB : B ≤ w.heap.size) (hr : ∀ k, row = some k → B ≤ k) : Below B w w' := (Below.refl B w).grown h hB hr
theorem below_grow {w w' : World} (h : Below w.heap.size w w') (row : Option Nat) : w.grownBy w' row := ⟨h.os, h.tape, h.output, h.size, fun k hk _ => h.block k hk⟩
theorem grow_own {w w' : World} {row : Option Nat} {base size n : Nat} {e : TypeId} {A : Option Addr} {m c : Nat} {xs : List Value} (h : w.ownsRow base e size (.slice A m c) n xs) (hg : w.grownBy w' row) (hne : ∀ k, A.map (·.block) = some k → row ≠ some k) :
    w'.ownsRow base e size (.slice A m c) n xs := by
  refine h.kept hg ?_
  rcases A with _ | a
  · exact .inl rfl
  · refine .inr fun e' => hne a.block rfl e'.symm
theorem own_block {w : World} {base size n : Nat} {e : TypeId} {A : Option Addr} {m c : Nat} {xs : List Value} (h : w.ownsRow base e size (.slice A m c) n xs) : ∀ k, A.map (·.block) = some k → base ≤ k ∧ k < w.heap.size := by
  intro k hk
  refine h.lt k ?_
  rcases A with _ | a
  · cases hk
  · simpa [Value.ownBlock] using hk

theorem own_mono {w : World} {base base' size n : Nat} {e : TypeId} {v : Value} {xs : List Value} (h : w.ownsRow base e size v n xs) (hb : base' ≤ base) : w.ownsRow base' e size v n xs := by
  refine ⟨h.1, ?_⟩
  rcases h.2 with h' | ⟨g, cap, cur, h1, h2, h3⟩
  · exact .inl h'
  · exact .inr ⟨g, cap, cur, h1, Nat.le_trans hb h2, h3⟩

/-! ### append, of bytes -/
section
variable {P : Program} (w : World)

theorem run_ap (base : Nat) (t tx ty e : TypeId) (i : TypeInfo) (ht : P.underlying t = some (.slice e)) (hi : P.info? e = some i) (hz : i.zero = some (.int .u8 0)) (hsz : i.size = 1) (hby : i.bytes = 1)
    (A : Option Addr) (n cap : Nat) (l : List UInt8) (hown : w.ownsRow base e 1 (.slice A n cap) n (bc l)) (x : Value) (m : Nat) (l2 : List UInt8) (hs : Src P 1 tx x m (bc l2) w)
    (hsm : n + m ≤ 140737488355328) (hbase : base ≤ w.heap.size) :
    ∃ A2 c2 w', (Builtin.append_ #[t, tx] ty #[.slice A n cap, x]).run P w = .ok (.slice A2 (n + m) c2) w' ∧ w'.ownsRow base e 1 (.slice A2 (n + m) c2) (n + m) (bc (l ++ l2)) ∧
      w'.ownsRow base e 1 (.slice A n cap) n (bc l) ∧ w.grownBy w' (A.map (·.block)) ∧ (A2.map (·.block) = A.map (·.block) ∨ A2.map (·.block) = some w.heap.size) := by
  have hl : l.length = n := by have := hown.1; simpa [bc_len] using this
  have hl2 : l2.length = m := by have := hs.newsLen; simpa [bc_len] using this
  have hs' : Src P i.size tx x m (bc l2) w := by rw [hsz]; exact hs
  -- the arm that makes a new row
  have grown : cap < n + m → ∃ A2 c2 w', (Builtin.append_ #[t, tx] ty #[.slice A n cap, x]).run P w = .ok (.slice A2 (n + m) c2) w' ∧ w'.ownsRow base e 1 (.slice A2 (n + m) c2) (n + m) (bc (l ++ l2)) ∧
      w'.ownsRow base e 1 (.slice A n cap) n (bc l) ∧ w.grownBy w' (A.map (·.block)) ∧ (A2.map (·.block) = A.map (·.block) ∨ A2.map (·.block) = some w.heap.size) := by
    intro hlt
    have hold : (Builtin.firstCells i.size n (.slice A n cap)).run P w.drew = .ok (bc l).toArray w.drew := by
      have hsrc := (Shows.of_own hown).src ht
      have := hsrc.cellsD
      rw [hsz]
      exact this
    have hr := run_append_grow_src (P := P) w t tx ty e i (.int .u8 0) ht hi hz A n cap (bc l) hold x m (bc l2) hs' hlt (by omega) (by rw [hby]; exact growslice_fits hlt (by omega))
    have hge := grownCap_ge w (n + m) cap e
    refine ⟨_, _, _, hr, ⟨by rw [bc_len, List.length_append, hl, hl2, Nat.mul_one], .inr ⟨w.heap.size, _, _, rfl, hbase, heap_alloc_new w.drew _, hge, grownCap_le_maxLen w _ _ e (by simp only [maxLen]; omega), ?_, ?_⟩⟩, ?_, ⟨rfl, rfl, rfl, by simp, fun k hk _ => Below.heap_alloc w.drew _ k hk⟩, .inr rfl⟩
    · have hz1 : (Value.int .u8 0).cells.size = 1 := rfl
      simp [size_zeroCells, bc_len, hl, hl2, hz1]
      omega
    · simp only [Array.toList_append, List.append_assoc]
      rw [bc_app, ← List.append_assoc]
      have : (n + m) * 1 = (bc l ++ bc l2).length := by rw [List.length_append, bc_len, bc_len, hl, hl2, Nat.mul_one]
      rw [this]
      exact List.take_left
    · exact (World.ownsRow.alloc (w := w.drew) hown _)
  rcases hown.2 with ⟨h', hn⟩ | ⟨g, cap', cur, h', hbg, hg, hnc, hcm, hcs, htake⟩
  · injection h' with h1 h2 h3
    subst h1 h2 h3
    rcases Nat.eq_zero_or_pos m with hm | hm
    · subst hm
      have hln : l = [] := List.eq_nil_of_length_eq_zero hl
      have hl2n : l2 = [] := List.eq_nil_of_length_eq_zero hl2
      subst hln hl2n
      refine ⟨none, 0, w, ?_, World.ownsRow_nil w base e 1, World.ownsRow_nil w base e 1, grow_refl w _, .inl rfl⟩
      have hc := hs'.cells
      rcases hs.kind with ⟨e', hk⟩ | hk <;> simp [Builtin.append_, run_underlying ht, run_underlying hk, sizeOf, typeInfo, hi, hs.len, hc]
    · exact grown (by omega)
  · injection h' with h1 h2 h3
    subst h1 h3
    by_cases hroom : n + m ≤ cap
    · have hcells : ∀ j, j < (bc l2).length → (w.cell? ⟨g, 0 + n * i.size + j, none⟩).isSome = true := by
        intro j hj
        rw [bc_len, hl2] at hj
        rw [cell_of_row w g _ cur e (0, 0) hg, hsz, Array.getElem?_eq_getElem (by omega)]
        rfl
      have hfr : ∀ j, j < (bc l2).length → w.frozen? ⟨g, 0 + n * i.size + j, none⟩ = false := by
        intro j _
        simp [World.frozen?, hg]
      have hst := run_storeCells_at P g n e (bc l2) 0 cur w hg (by rw [bc_len, hl2]; omega) (bc_one l2)
      have hc := hs'.cells
      have hr : (Builtin.append_ #[t, tx] ty #[.slice (some ⟨g, 0, none⟩) n cap, x]).run P w = .ok (.slice (some ⟨g, 0, none⟩) (n + m) cap) (w.setRow g (cur.toList.take n ++ bc l2 ++ cur.toList.drop (n + (bc l2).length)).toArray) := by
        simp only [Nat.add_zero] at hst
        rcases hs.kind with ⟨e', hk⟩ | hk <;> simp [Builtin.append_, run_underlying ht, run_underlying hk, sizeOf, typeInfo, hi, hs.len, hroom, hsz ▸ hc, hsz, Addr.add_lit, hst]
      have hcl : cur.toList.length = cap := by rw [Array.length_toList]; omega
      refine ⟨some ⟨g, 0, none⟩, cap, _, hr, ⟨by rw [bc_len, List.length_append, hl, hl2, Nat.mul_one], .inr ⟨g, cap, _, rfl, hbg, setRow_heap w g cur _ e _ hg, hroom, hcm, ?_, ?_⟩⟩,
        ⟨hown.1, .inr ⟨g, cap, _, rfl, hbg, setRow_heap w g cur _ e _ hg, hnc, hcm, ?_, ?_⟩⟩, ⟨rfl, rfl, rfl, by simp, fun k _ hk => setRow_other w g k _ (fun e => hk (by simp [e]))⟩, .inl rfl⟩
      · simp only [List.size_toArray, List.length_append, List.length_take, List.length_drop, hcl, bc_len, hl2]
        omega
      · have h2 : cur.toList.take n = bc l := by simpa using htake
        rw [h2, bc_app]
        have : (n + m) * 1 = (bc l ++ bc l2).length := by rw [List.length_append, bc_len, bc_len, hl, hl2, Nat.mul_one]
        rw [this]
        exact List.take_left
      · simp only [List.size_toArray, List.length_append, List.length_take, List.length_drop, hcl, bc_len, hl2]
        omega
      · have h2 : cur.toList.take n = bc l := by simpa using htake
        rw [h2, List.append_assoc]
        have : n * 1 = (bc l).length := by rw [bc_len, hl, Nat.mul_one]
        rw [this]
        exact List.take_left
    · exact grown (by omega)

theorem wp_ap {o : Oper} {a : Act} {K : Act → World → Prop} {Q : Exit → Act → World → Prop} (s x : Operand) (t tx : TypeId)
    (ho : o.op = .call { callee := .builtin .append, args := #[s, x], argTypes := #[t, tx] })
    (base : Nat) (e : TypeId) (i : TypeInfo) (ht : P.underlying t = some (.slice e)) (hi : P.info? e = some i) (hz : i.zero = some (.int .u8 0)) (hsz : i.size = 1) (hby : i.bytes = 1)
    (A : Option Addr) (n cap : Nat) (l : List UInt8) (hs : a.eval s = .slice A n cap) (hown : w.ownsRow base e 1 (.slice A n cap) n (bc l))
    (v : Value) (m : Nat) (l2 : List UInt8) (hx : a.eval x = v) (hsrc : Src P 1 tx v m (bc l2) w) (hsm : n + m ≤ 140737488355328) (hbase : base ≤ w.heap.size)
    (h : ∀ A2 c2 w', w'.ownsRow base e 1 (.slice A2 (n + m) c2) (n + m) (bc (l ++ l2)) → w'.ownsRow base e 1 (.slice A n cap) n (bc l) → w.grownBy w' (A.map (·.block)) →
      (A2.map (·.block) = A.map (·.block) ∨ A2.map (·.block) = some w.heap.size) → K (a.put o.dst (.slice A2 (n + m) c2)) w') : o.wp P a w K Q := by
  obtain ⟨A2, c2, w', hr, h1, h2, h3, h4⟩ := run_ap (P := P) w base t tx o.type e i ht hi hz hsz hby A n cap l hown v m l2 hsrc hsm hbase
  unfold Oper.wp execOp
  simp only [ho, resolve, invoke, builtin, Sem.run_bind, Sem.run_pure, Result.andThen_ok, List.map_toArray, List.map_cons, List.map_nil, hs, hx, hr]
  exact h A2 c2 w' h1 h2 h3 h4

theorem wpList_ap {ops : Array Oper} {rest : List Oper} {o : Oper} {a : Act} {Q : Exit → Act → World → Prop} (hgd : o.guard = none) (s x : Operand) (t tx : TypeId)
    (ho : o.op = .call { callee := .builtin .append, args := #[s, x], argTypes := #[t, tx] })
    (base : Nat) (e : TypeId) (i : TypeInfo) (ht : P.underlying t = some (.slice e)) (hi : P.info? e = some i) (hz : i.zero = some (.int .u8 0)) (hsz : i.size = 1) (hby : i.bytes = 1)
    (A : Option Addr) (n cap : Nat) (l : List UInt8) (hs : a.eval s = .slice A n cap) (hown : w.ownsRow base e 1 (.slice A n cap) n (bc l))
    (v : Value) (m : Nat) (l2 : List UInt8) (hx : a.eval x = v) (hsrc : Src P 1 tx v m (bc l2) w) (hsm : n + m ≤ 140737488355328) (hbase : base ≤ w.heap.size)
    (h : ∀ A2 c2 w', w'.ownsRow base e 1 (.slice A2 (n + m) c2) (n + m) (bc (l ++ l2)) → w'.ownsRow base e 1 (.slice A n cap) n (bc l) → w.grownBy w' (A.map (·.block)) →
      (A2.map (·.block) = A.map (·.block) ∨ A2.map (·.block) = some w.heap.size) → wpList P ops Q rest (a.put o.dst (.slice A2 (n + m) c2)) w') : wpList P ops Q (o :: rest) a w :=
  wpList_plain hgd fun _ hK => wp_ap w s x t tx ho base e i ht hi hz hsz hby A n cap l hs hown v m l2 hx hsrc hsm hbase fun A2 c2 w' h1 h2 h3 h4 => hK _ _ (h A2 c2 w' h1 h2 h3 h4)
end
end Go.Proofs.Ytolpiklhnafnbaa.Wd
