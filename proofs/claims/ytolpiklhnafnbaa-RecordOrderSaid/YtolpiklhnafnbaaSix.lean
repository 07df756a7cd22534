/- Six rows of records, one a sector, beside a memory: what each step of chapter 5's law on their order leaves. -/
import Derived.Test.YtolpiklhnafnbaaLaw5Base
namespace Go.Proofs.Ytolpiklhnafnbaa
set_option maxRecDepth 100000
open Go.RowKit Wd Fm

/-- A slice of slices: where it lies, its length, its room, its parts. -/
structure Sl where
  A : Option Addr
  n : Nat
  cap : Nat
  ps : List Part
def Sl.val (s : Sl) : Value := .slice s.A s.n s.cap
def Sl.nil : Sl := ⟨none, 0, 0, []⟩
def bytes6 (ps : List Part) : List (List UInt8) := ps.map (·.l)
def upd {α : Type} (f : Nat → α) (s : Nat) (v : α) (t : Nat) : α := if t = s then v else f t
theorem upd_same {α : Type} (f : Nat → α) (s : Nat) (v : α) : upd f s v s = v := if_pos rfl
theorem upd_other {α : Type} (f : Nat → α) (s t : Nat) (v : α) (h : t ≠ s) : upd f s v t = f t := if_neg h
def six {α : Type} (f : Nat → α) (g : α → Value) : List Value := (List.range 6).map fun t => g (f t)
theorem six_at {α : Type} (f : Nat → α) (g : α → Value) (s : Nat) (h : s < 6) : (six f g)[s]? = some (g (f s)) := by
  unfold six
  rw [List.getElem?_map, List.getElem?_range h]
  rfl
theorem six_set {α : Type} (f : Nat → α) (g : α → Value) (s : Nat) (v : α) : (six f g).set s (g v) = six (upd f s v) g := by
  unfold six
  apply List.ext_getElem (by simp)
  intro i h1 h2
  simp only [List.length_set, List.length_map, List.length_range] at h1
  rw [List.getElem_set]
  simp only [List.getElem_map, List.getElem_range]
  by_cases hs : s = i
  · subst hs
    rw [if_pos rfl, upd_same]
  · rw [if_neg hs, upd_other _ _ _ _ (fun e => hs e.symm)]

theorem OwnParts.kept2 {w w' : World} {base : Nat} {A : Option Addr} {n cap : Nat} {ps : List Part} {r : Option Nat} (h : OwnParts w base A n cap ps) (hg : w.grownBy w' r) (hne : ∀ k, Value.ownBlock (.slice A n cap) = some k → r ≠ some k) (hr : ∀ k cs, r = some k → w.heap[k]? ≠ some (.cells cs 5 (0, 0))) : OwnParts w' base A n cap ps := by
  refine ⟨h.own.kept hg ?_, fun p hp => (h.each p hp).kept hg hr⟩
  rcases hb : Value.ownBlock (.slice A n cap) with _ | k
  · exact .inl rfl
  · exact .inr (fun e => hne k hb e.symm)
theorem OwnParts.mono {w : World} {base base' : Nat} {A : Option Addr} {n cap : Nat} {ps : List Part} (h : OwnParts w base A n cap ps) (hb : base' ≤ base) : OwnParts w base' A n cap ps := ⟨own_mono h.own hb, fun p hp => (h.each p hp).mono hb⟩
theorem Fl.kept3 {w w' : World} {g k : Nat} {m : Mem} {T : TypeId} {cs : Array Value} (h : Fl w g m) (hg : w.grownBy w' (some k)) (hb : w.heap[k]? = some (.cells cs T (0, 0))) (hT : T ≠ 5) (hk : k ≠ g) : Fl w' g m := h.kept hg hk T cs hb hT

structure Six (W : World) (B g Gw Gf : Nat) (m : Mem) (S : Nat → Sl) (F : Nat → Nat) : Prop where
  fl : Fl W g m
  calm : Calm m
  want : Row W Gw 50 (six S Sl.val)
  free : Row W Gf 51 (six F (fun n => .int .i64 (n : Int)))
  own : ∀ t, t < 6 → OwnParts W B (S t).A (S t).n (S t).cap (S t).ps
  good : ∀ t, t < 6 → Good (m.page (t * 1024) 1024) (bytes6 (S t).ps) (F t)
  apart : ∀ t u, t < 6 → u < 6 → t ≠ u → ∀ k, (S t).val.ownBlock = some k → (S u).val.ownBlock ≠ some k
  ord : B ≤ g ∧ g < Gw ∧ Gw < Gf
section
variable {W W' : World} {B g Gw Gf : Nat} {m : Mem} {S : Nat → Sl} {F : Nat → Nat}
theorem Six.below (h : Six W B g Gw Gf m S F) (hb : Below W.heap.size W W') : Six W' B g Gw Gf m S F :=
  ⟨h.fl.below hb, h.calm, h.want.below hb h.want.lt, h.free.below hb h.free.lt, fun t ht => (h.own t ht).below hb, h.good, h.apart, h.ord⟩
/-- The memory turned. -/
theorem Six.mem (h : Six W B g Gw Gf m S F) {m' : Mem} (hf : Fl W' g m') (hc : Calm m') (hg : W.grownBy W' (some g)) (S' : Nat → List (List UInt8)) (F' : Nat → Nat) (hgd : ∀ t, t < 6 → Good (m'.page (t * 1024) 1024) (S' t) (F' t)) :
    Fl W' g m' ∧ Calm m' ∧ Row W' Gw 50 (six S Sl.val) ∧ Row W' Gf 51 (six F (fun n => .int .i64 (n : Int))) ∧ (∀ t, t < 6 → OwnParts W' B (S t).A (S t).n (S t).cap (S t).ps) ∧ (∀ t, t < 6 → Good (m'.page (t * 1024) 1024) (S' t) (F' t)) := by
  have ho := h.ord
  refine ⟨hf, hc, ?_, ?_, fun t ht => (h.own t ht).beside h.fl hg, hgd⟩
  · exact (hg.block Gw h.want.lt (fun e => by injection e with e; omega)).trans h.want
  · exact (hg.block Gf h.free.lt (fun e => by injection e with e; omega)).trans h.free
end

/-- Between the steps of one append: the memory has a record more in sector s, the rows not yet. -/
structure Six1 (W : World) (B g Gw Gf : Nat) (m : Mem) (S : Nat → Sl) (F : Nat → Nat) (s : Nat) (x : List UInt8) : Prop where
  fl : Fl W g m
  calm : Calm m
  want : Row W Gw 50 (six S Sl.val)
  free : Row W Gf 51 (six F (fun n => .int .i64 (n : Int)))
  own : ∀ t, t < 6 → OwnParts W B (S t).A (S t).n (S t).cap (S t).ps
  good : ∀ t, t < 6 → Good (m.page (t * 1024) 1024) (upd (fun t => bytes6 (S t).ps) s (bytes6 (S s).ps ++ [x]) t) (upd F s (F s + pagesN x.length) t)
  apart : ∀ t u, t < 6 → u < 6 → t ≠ u → ∀ k, (S t).val.ownBlock = some k → (S u).val.ownBlock ≠ some k
  ord : B ≤ g ∧ g < Gw ∧ Gw < Gf
theorem Six.one {W W' : World} {B g Gw Gf : Nat} {m m' : Mem} {S : Nat → Sl} {F : Nat → Nat} (h : Six W B g Gw Gf m S F) (s : Nat) (x : List UInt8) (hf : Fl W' g m') (hc : Calm m') (hg : W.grownBy W' (some g))
    (h1 : Good (m'.page (s * 1024) 1024) (bytes6 (S s).ps ++ [x]) (F s + pagesN x.length)) (h2 : ∀ t, t < 6 → t ≠ s → m'.page (t * 1024) 1024 = m.page (t * 1024) 1024) : Six1 W' B g Gw Gf m' S F s x := by
  obtain ⟨a1, a2, a3, a4, a5, a6⟩ := h.mem hf hc hg (upd (fun t => bytes6 (S t).ps) s (bytes6 (S s).ps ++ [x])) (upd F s (F s + pagesN x.length)) (fun t ht => by
    by_cases hts : t = s
    · subst hts
      rw [upd_same, upd_same]
      exact h1
    · rw [upd_other _ _ _ _ hts, upd_other _ _ _ _ hts, h2 t ht hts]
      exact h.good t ht)
  exact ⟨a1, a2, a3, a4, a5, a6, h.apart, h.ord⟩
/-- The row's own append, in a new world: the row is not yet in its place. -/
structure Six2 (W : World) (B g Gw Gf : Nat) (m : Mem) (S : Nat → Sl) (F : Nat → Nat) (s : Nat) (x : List UInt8) (v : Sl) : Prop where
  fl : Fl W g m
  calm : Calm m
  want : Row W Gw 50 (six S Sl.val)
  free : Row W Gf 51 (six F (fun n => .int .i64 (n : Int)))
  own : ∀ t, t < 6 → OwnParts W B (upd S s v t).A (upd S s v t).n (upd S s v t).cap (upd S s v t).ps
  good : ∀ t, t < 6 → Good (m.page (t * 1024) 1024) (bytes6 (upd S s v t).ps) (upd F s (F s + pagesN x.length) t)
  apart : ∀ t u, t < 6 → u < 6 → t ≠ u → ∀ k, (upd S s v t).val.ownBlock = some k → (upd S s v u).val.ownBlock ≠ some k
  ord : B ≤ g ∧ g < Gw ∧ Gw < Gf
theorem row_type {W : World} {k : Nat} {T T' : TypeId} {cs : List Value} {cs' : Array Value} (h : Row W k T cs) (h' : W.heap[k]? = some (.cells cs' T' (0, 0))) : T = T' := by
  unfold Row at h
  rw [h] at h'
  injection h' with h'
  injection h' with _ h2 _
theorem own_type {w : World} {base : Nat} {A : Option Addr} {n cap k : Nat} {xs : List Value} {e : TypeId} (h : w.ownsRow base e 1 (.slice A n cap) n xs) (hk : Value.ownBlock (.slice A n cap) = some k) : ∃ cs, w.heap[k]? = some (.cells cs e (0, 0)) := by
  rcases h.2 with ⟨h', _⟩ | ⟨g, cap', cur, h', _, hg, _⟩
  · rw [h'] at hk
    cases hk
  · rw [h'] at hk
    injection hk with hk
    subst hk
    exact ⟨cur, hg⟩
theorem Fl.type {W : World} {g : Nat} {m : Mem} (h : Fl W g m) : ∃ cs, W.heap[g]? = some (.cells cs 64 (0, 0)) := by
  obtain ⟨A, n, cap, hr, _⟩ := h.spot
  exact ⟨_, hr⟩
theorem type_ne {W : World} {k l : Nat} {T T' : TypeId} {cs cs' : Array Value} (h : W.heap[k]? = some (.cells cs T (0, 0))) (h' : W.heap[l]? = some (.cells cs' T' (0, 0))) (hT : T ≠ T') : k ≠ l := by
  intro e
  subst e
  rw [h] at h'
  injection h' with h'
  injection h' with _ h2 _
  exact hT h2
/-- The row of sector s has been appended to. -/
theorem Six1.two {W W1 : World} {B g Gw Gf : Nat} {m : Mem} {S : Nat → Sl} {F : Nat → Nat} {s : Nat} {x : List UInt8} (h : Six1 W B g Gw Gf m S F s x) (hs : s < 6) (p : Part) (hp : PartOk W B p) (hpl : p.l = x) (O : Obj) (G cap : Nat)
    (ho : W1.ownsRow B 29 1 (.slice (some ⟨G, 0, none⟩) ((S s).n + 1) cap) ((S s).n + 1) ((S s).ps.map Part.val ++ [p.val])) (hg : (W.alloc O).grownBy W1 (S s).val.ownBlock) (hG : (S s).val.ownBlock = some G ∨ G = (W.alloc O).heap.size) :
    Six2 W1 B g Gw Gf m S F s x ⟨some ⟨G, 0, none⟩, (S s).n + 1, cap, (S s).ps ++ [p]⟩ := by
  have hb := below_new (Below.refl W.heap.size W) O
  have hf := h.fl.below hb
  have hw := h.want.below hb h.want.lt
  have hfr := h.free.below hb h.free.lt
  have hown := fun t ht => (h.own t ht).below hb
  -- the block that was written to is of slices
  have hty : ∀ k, (S s).val.ownBlock = some k → ∃ cs, (W.alloc O).heap[k]? = some (.cells cs 29 (0, 0)) := fun k hk => own_type (hown s hs).own hk
  have hkeep : ∀ k T cs, T ≠ 29 → (W.alloc O).heap[k]? = some (.cells cs T (0, 0)) → some k ≠ (S s).val.ownBlock := fun k T cs hT hk e => by
    obtain ⟨cs', hc'⟩ := hty k e.symm
    exact type_ne hk hc' hT rfl
  obtain ⟨A', cap', hv, hP⟩ := (h.own s hs).step p hp O _ ho hg
  injection hv with hv1 hv2 hv3
  subst hv1 hv3
  refine ⟨?_, h.calm, ?_, ?_, ?_, ?_, ?_, h.ord⟩
  · obtain ⟨A, n, c, hr, hm⟩ := hf.spot
    refine ⟨hf.size, hf.l0, hf.l1, hf.few, A, n, c, (hg.block g hf.lt (hkeep g _ _ (by decide) hr)).trans hr, ?_⟩
    refine hm.kept hg ?_
    rcases hb2 : Value.ownBlock (.slice A n c) with _ | k
    · exact .inl rfl
    · right
      obtain ⟨cs, hc⟩ := own_type hm hb2
      exact hkeep k _ _ (by decide) hc
  · exact (hg.block Gw hw.lt (hkeep Gw _ _ (by decide) hw)).trans hw
  · exact (hg.block Gf hfr.lt (hkeep Gf _ _ (by decide) hfr)).trans hfr
  · intro t ht
    by_cases hts : t = s
    · subst hts
      rw [upd_same]
      exact hP
    · rw [upd_other _ _ _ _ hts]
      refine (hown t ht).kept2 hg (fun k hk e => h.apart s t hs ht (fun e => hts e.symm) k e hk) (fun k cs e hc => ?_)
      exact hkeep k _ _ (by decide) hc e.symm
  · intro t ht
    have := h.good t ht
    by_cases hts : t = s
    · subst hts
      rw [upd_same] at this ⊢
      unfold bytes6 at this ⊢
      rw [List.map_append]
      simp only [List.map_cons, List.map_nil, hpl]
      exact this
    · rw [upd_other _ _ _ _ hts] at this ⊢
      exact this
  · intro t u ht hu htu k hk hk2
    have old : ∀ t, t < 6 → ∀ k, (S t).val.ownBlock = some k → k < W.heap.size := fun t ht k hk => ((h.own t ht).own.lt k hk).2
    by_cases hts : t = s
    · subst hts
      rw [upd_same] at hk
      rw [upd_other _ _ _ _ (fun e => htu e.symm)] at hk2
      have hkG : G = k := by simpa [Sl.val, Value.ownBlock] using hk
      subst hkG
      rcases hG with hG | hG
      · exact h.apart t u ht hu htu G hG hk2
      · have := old u hu G hk2
        rw [hG] at this
        simp at this
        omega
    · rw [upd_other _ _ _ _ hts] at hk
      by_cases hus : u = s
      · subst hus
        rw [upd_same] at hk2
        have hkG : G = k := by simpa [Sl.val, Value.ownBlock] using hk2
        subst hkG
        rcases hG with hG | hG
        · exact h.apart t u ht hu htu G hk hG
        · have := old t ht G hk
          rw [hG] at this
          simp at this
          omega
      · rw [upd_other _ _ _ _ hus] at hk2
        exact h.apart t u ht hu htu k hk hk2
theorem set_grown (W : World) (a : Addr) (v : Value) : W.grownBy (W.setCell a v) (some a.block) := ⟨rfl, rfl, rfl, by simp, fun k _ hk => heap_setCell_other W a k v (fun e => hk (by rw [e]))⟩
theorem OwnParts.typed {W W' : World} {base : Nat} {A : Option Addr} {n cap k : Nat} {ps : List Part} {T : TypeId} {cs : List Value} (h : OwnParts W base A n cap ps) (hg : W.grownBy W' (some k)) (hr : Row W k T cs) (h1 : T ≠ 5) (h2 : T ≠ 29) : OwnParts W' base A n cap ps := by
  refine h.kept hg (fun k' cs' T' e hT hc => ?_)
  injection e with e
  subst e
  have := row_type hr hc
  rcases hT with rfl | rfl
  · exact h1 this
  · exact h2 this
/-- The row stands in its place, the sector's number not yet. -/
structure Six3 (W : World) (B g Gw Gf : Nat) (m : Mem) (S : Nat → Sl) (F : Nat → Nat) (s : Nat) (k : Nat) : Prop where
  fl : Fl W g m
  calm : Calm m
  want : Row W Gw 50 (six S Sl.val)
  free : Row W Gf 51 (six F (fun n => .int .i64 (n : Int)))
  own : ∀ t, t < 6 → OwnParts W B (S t).A (S t).n (S t).cap (S t).ps
  good : ∀ t, t < 6 → Good (m.page (t * 1024) 1024) (bytes6 (S t).ps) (upd F s k t)
  apart : ∀ t u, t < 6 → u < 6 → t ≠ u → ∀ k, (S t).val.ownBlock = some k → (S u).val.ownBlock ≠ some k
  ord : B ≤ g ∧ g < Gw ∧ Gw < Gf
theorem Six3.below {W W' : World} {B g Gw Gf s k : Nat} {m : Mem} {S : Nat → Sl} {F : Nat → Nat} (h : Six3 W B g Gw Gf m S F s k) (hb : Below W.heap.size W W') : Six3 W' B g Gw Gf m S F s k :=
  ⟨h.fl.below hb, h.calm, h.want.below hb h.want.lt, h.free.below hb h.free.lt, fun t ht => (h.own t ht).below hb, h.good, h.apart, h.ord⟩
theorem Six2.put {W : World} {B g Gw Gf : Nat} {m : Mem} {S : Nat → Sl} {F : Nat → Nat} {s : Nat} {x : List UInt8} {v : Sl} (h : Six2 W B g Gw Gf m S F s x v) : Six3 (W.setCell ⟨Gw, s, none⟩ v.val) B g Gw Gf m (upd S s v) F s (F s + pagesN x.length) := by
  have ho := h.ord
  have hg := set_grown W ⟨Gw, s, none⟩ v.val
  have hw := h.want.set s v.val
  rw [six_set] at hw
  refine ⟨h.fl.kept3 hg h.want (by decide) (by show Gw ≠ g; omega), h.calm, hw, h.free.other _ _ (by show Gf ≠ Gw; omega), fun t ht => (h.own t ht).typed hg h.want (by decide) (by decide), h.good, h.apart, h.ord⟩
theorem Six3.put {W : World} {B g Gw Gf s k : Nat} {m : Mem} {S : Nat → Sl} {F : Nat → Nat} (h : Six3 W B g Gw Gf m S F s k) : Six (W.setCell ⟨Gf, s, none⟩ (.int .i64 (k : Int))) B g Gw Gf m S (upd F s k) := by
  have ho := h.ord
  have hg := set_grown W ⟨Gf, s, none⟩ (.int .i64 (k : Int))
  have hw := h.free.set s (.int .i64 (k : Int))
  rw [six_set F (fun n => .int .i64 (n : Int)) s k] at hw
  refine ⟨h.fl.kept3 hg h.free (by decide) (by show Gf ≠ g; omega), h.calm, h.want.other _ _ (by show Gw ≠ Gf; omega), hw, fun t ht => (h.own t ht).typed hg h.free (by decide) (by decide), h.good, h.apart, h.ord⟩
end Go.Proofs.Ytolpiklhnafnbaa
