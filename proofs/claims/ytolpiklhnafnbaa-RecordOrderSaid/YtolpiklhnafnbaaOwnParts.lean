/- A slice of slices of bytes that the call has made itself: each part lies in a block of its own kind. They speak of no package of the program. -/
import Derived.Test.YtolpiklhnafnbaaParts
import Derived.Test.YtolpiklhnafnbaaRow
namespace Go.Proofs.Ytolpiklhnafnbaa
set_option maxRecDepth 100000
open Go.RowKit Wd Nm

/-- A part whose bytes lie in a block of bytes, from a block on. -/
structure PartOk (w : World) (base : Nat) (p : Part) : Prop where
  shows : Shows w w.heap.size p.A p.n p.cap p.l
  blk : ∀ a, p.A = some a → base ≤ a.block ∧ ∃ cs, w.heap[a.block]? = some (.cells cs 5 (0, 0))
theorem PartOk.of_own {w : World} {base : Nat} {A : Option Addr} {n cap : Nat} {l : List UInt8} (h : w.ownsRow base 5 1 (.slice A n cap) n (bc l)) : PartOk w base ⟨A, n, cap, l⟩ := by
  refine ⟨Shows.of_own h, fun a ha => ?_⟩
  rcases h.2 with ⟨h', _⟩ | ⟨g, cap', cur, h', hb, hg, _⟩
  · injection h' with h1 _ _
    rw [h1] at ha
    cases ha
  · injection h' with h1 _ _
    simp only at ha
    rw [h1] at ha
    injection ha with ha
    subst ha
    exact ⟨hb, cur, hg⟩
theorem PartOk.kept {w w' : World} {base : Nat} {p : Part} {r : Option Nat} (h : PartOk w base p) (hg : w.grownBy w' r) (hr : ∀ k cs, r = some k → w.heap[k]? ≠ some (.cells cs 5 (0, 0))) : PartOk w' base p := by
  have hb : ∀ a, p.A = some a → w'.heap[a.block]? = w.heap[a.block]? := fun a ha => by
    obtain ⟨_, cs, hc⟩ := h.blk a ha
    exact hg.block _ (Array.getElem?_eq_some_iff.1 hc).1 (fun e => hr a.block cs e.symm hc)
  refine ⟨⟨h.shows.len, h.shows.le, h.shows.top, fun hn => ?_⟩, fun a ha => ?_⟩
  · obtain ⟨g, o, e, hlt, hc⟩ := h.shows.spot hn
    refine ⟨g, o, e, Nat.lt_of_lt_of_le hlt hg.size, fun j hj => ?_⟩
    rw [World.cell?_of_block (a := ⟨g, o + j, none⟩) (show w'.heap[g]? = w.heap[g]? from hb ⟨g, o, none⟩ e)]
    exact hc j hj
  · obtain ⟨h1, cs, hc⟩ := h.blk a ha
    exact ⟨h1, cs, (hb a ha).trans hc⟩
theorem PartOk.below {w w' : World} {base : Nat} {p : Part} (h : PartOk w base p) (hb : Below w.heap.size w w') : PartOk w' base p := h.kept (below_grow hb none) (fun k cs e => by cases e)
theorem PartOk.mono {w : World} {base base' : Nat} {p : Part} (h : PartOk w base p) (hb : base' ≤ base) : PartOk w base' p := ⟨h.shows, fun a ha => ⟨Nat.le_trans hb (h.blk a ha).1, (h.blk a ha).2⟩⟩
/-- A slice of slices of bytes, of the call's own. -/
structure OwnParts (w : World) (base : Nat) (A : Option Addr) (n cap : Nat) (ps : List Part) : Prop where
  own : w.ownsRow base 29 1 (.slice A n cap) n (ps.map Part.val)
  each : ∀ p ∈ ps, PartOk w base p
theorem OwnParts.nil (w : World) (base : Nat) : OwnParts w base none 0 0 [] := ⟨World.ownsRow_nil _ _ _ _, fun p hp => by cases hp⟩
theorem OwnParts.len {w : World} {base : Nat} {A : Option Addr} {n cap : Nat} {ps : List Part} (h : OwnParts w base A n cap ps) : ps.length = n := by
  have := h.own.1
  simpa using this
theorem own_not_bytes {w : World} {base : Nat} {A : Option Addr} {n cap : Nat} {xs : List Value} (h : w.ownsRow base 29 1 (.slice A n cap) n xs) : ∀ k cs, (Value.ownBlock (.slice A n cap)) = some k → w.heap[k]? ≠ some (.cells cs 5 (0, 0)) := by
  intro k cs hk hc
  rcases h.2 with ⟨h', _⟩ | ⟨g, cap', cur, h', _, hg, _⟩
  · rw [h'] at hk
    cases hk
  · rw [h'] at hk
    injection hk with hk
    simp only at hk
    subst hk
    rw [hg] at hc
    injection hc with hc
    injection hc with _ h2 _
    exact absurd h2 (by decide)
theorem OwnParts.kept {w w' : World} {base : Nat} {A : Option Addr} {n cap : Nat} {ps : List Part} {r : Option Nat} (h : OwnParts w base A n cap ps) (hg : w.grownBy w' r) (hr : ∀ k cs T, r = some k → T = 5 ∨ T = 29 → w.heap[k]? ≠ some (.cells cs T (0, 0))) : OwnParts w' base A n cap ps := by
  refine ⟨h.own.kept hg ?_, fun p hp => (h.each p hp).kept hg (fun k cs e => hr k cs _ e (.inl rfl))⟩
  rcases h.own.2 with ⟨h', _⟩ | ⟨g, cap', cur, h', _, hgg, _⟩
  · rw [h']
    exact .inl rfl
  · rw [h']
    right
    intro e
    exact hr g cur _ e.symm (.inr rfl) hgg
theorem OwnParts.below {w w' : World} {base : Nat} {A : Option Addr} {n cap : Nat} {ps : List Part} (h : OwnParts w base A n cap ps) (hb : Below w.heap.size w w') : OwnParts w' base A n cap ps := h.kept (below_grow hb none) (fun k cs T e => by cases e)
theorem own_slice {w : World} {base size n : Nat} {e : TypeId} {v : Value} {xs : List Value} (h : w.ownsRow base e size v n xs) : ∃ A cap, v = .slice A n cap := by
  rcases h.2 with ⟨h', hn⟩ | ⟨g, cap', cur, h', _⟩
  · exact ⟨none, 0, by rw [h', hn]⟩
  · exact ⟨_, _, h'⟩
/-- One more part, behind the others. -/
theorem OwnParts.step {w w' : World} {base : Nat} {A : Option Addr} {n cap : Nat} {ps : List Part} (h : OwnParts w base A n cap ps) (p : Part) (hp : PartOk w base p) (O : Obj) (v' : Value) (ho : w'.ownsRow base 29 1 v' (n + 1) (ps.map Part.val ++ [p.val])) (hg : (w.alloc O).grownBy w' (Value.ownBlock (.slice A n cap))) :
    ∃ A' cap', v' = .slice A' (n + 1) cap' ∧ OwnParts w' base A' (n + 1) cap' (ps ++ [p]) := by
  obtain ⟨A', cap', rfl⟩ := own_slice ho
  have hnb := own_not_bytes (h.own.alloc O)
  refine ⟨A', cap', rfl, ⟨by rw [List.map_append]; exact ho, fun q hq => ?_⟩⟩
  have hq2 : PartOk w base q := by
    rcases List.mem_append.1 hq with h1 | h1
    · exact h.each q h1
    · simp only [List.mem_singleton] at h1
      subst h1
      exact hp
  exact (hq2.below (below_new (Below.refl _ _) O)).kept hg hnb
/-- As parts that lie one behind the other. -/
theorem OwnParts.laid {w : World} {base : Nat} {A : Option Addr} {n cap : Nat} {ps : List Part} (h : OwnParts w base A n cap ps) : LaidAt w w.heap.size A n ps := by
  refine ⟨h.len, fun hn => ?_, fun p hp => (h.each p hp).shows⟩
  rcases h.own.2 with ⟨h', h0⟩ | ⟨g, cap', cur, h', _, hg, _⟩
  · omega
  · injection h' with h1 h2 h3
    refine ⟨g, 0, h1, (Array.getElem?_eq_some_iff.1 hg).1, fun j hj => ?_⟩
    have := h.own.cells (g := g) (by rw [h1]; rfl) j (Part.val ps[j]) (by rw [List.getElem?_map, List.getElem?_eq_getElem hj]; rfl)
    rw [Addr.add_lit] at this
    exact this
theorem own_cap {w : World} {base size n : Nat} {e : TypeId} {A : Option Addr} {m cap : Nat} {xs : List Value} (h : w.ownsRow base e size (.slice A m cap) n xs) : n ≤ cap ∧ cap ≤ maxLen := by
  rcases h.2 with ⟨h', h0⟩ | ⟨g, cap', cur, h', _, _, h3, h4, _⟩
  · injection h' with _ h2 h3
    subst h3
    exact ⟨by omega, Nat.zero_le _⟩
  · injection h' with _ h2 h5
    subst h5
    exact ⟨h3, h4⟩
theorem new_one (w : World) (v : Value) (T : TypeId) : ∀ j u, [v][j]? = some u → (w.alloc (.cells #[v] T)).cell? ((⟨w.heap.size, 0, none⟩ : Addr).add j) = some u := by
  intro j u hu
  match j, hu with
  | 0, hu =>
    injection hu with hu
    subst hu
    have hg := heap_alloc_new w (.cells #[v] T)
    rw [Addr.add_lit, cell_of_row _ _ _ _ T (0, 0) hg]
    rfl
theorem infoSlice : (Try.prog.info? 29).map (fun i => (i.zero, i.size, i.bytes)) = some (some (.slice none 0 0), 1, 24) := by kernel_rfl
end Go.Proofs.Ytolpiklhnafnbaa
