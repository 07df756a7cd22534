/- Package flash: what a memory has in its block, and the contracts of its small functions. -/
import Derived.Test.YtolpiklhnafnbaaFlBlank
import Derived.Test.YtolpiklhnafnbaaFlMath
import Derived.Test.YtolpiklhnafnbaaClone
import Derived.Test.YtolpiklhnafnbaaU8
import Derived.Test.YtolpiklhnafnbaaNums
namespace Go.Proofs.Ytolpiklhnafnbaa
set_option maxRecDepth 100000
open Go.RowKit Wd Fm

def flCells (m : Mem) (v : Value) : List Value := bc m.B ++ [Value.bool m.dead, .int .i64 m.ops, .int .i64 m.left, v]
theorem flCells_len (m : Mem) (v : Value) (h : m.B.length = 6144) : (flCells m v).length = 6148 := by simp [flCells, bc_len, h]
theorem flCells_at (m : Mem) (v : Value) (h : m.B.length = 6144) : (flCells m v)[6144]? = some (.bool m.dead) ∧ (flCells m v)[6145]? = some (.int .i64 m.ops) ∧ (flCells m v)[6146]? = some (.int .i64 m.left) ∧ (flCells m v)[6147]? = some v := by
  have hl : (bc m.B).length = 6144 := by rw [bc_len, h]
  unfold flCells
  refine ⟨?_, ?_, ?_, ?_⟩ <;> rw [List.getElem?_append_right (by omega), hl] <;> rfl
theorem flCells_byte (m : Mem) (v : Value) (h : m.B.length = 6144) (i : Nat) (hi : i < 6144) : (flCells m v)[i]? = some (.int .u8 ((m.B.getD i 0).toNat : Int)) := by
  unfold flCells
  rw [List.getElem?_append_left (by rw [bc_len, h]; exact hi), bc_get _ i (by omega)]
  simp [List.getD, List.getElem?_eq_getElem (show i < m.B.length by omega)]
theorem flCells_set (m : Mem) (v x : Value) (h : m.B.length = 6144) (d : Bool) (n : Int) :
    (flCells m v).set 6144 (.bool d) = flCells { m with dead := d } v ∧ (flCells m v).set 6145 (.int .i64 n) = flCells { m with ops := n } v ∧
    (flCells m v).set 6146 (.int .i64 n) = flCells { m with left := n } v ∧ (flCells m v).set 6147 x = flCells m x := by
  have hl : (bc m.B).length = 6144 := by rw [bc_len, h]
  unfold flCells
  refine ⟨?_, ?_, ?_, ?_⟩ <;> rw [List.set_append_right _ _ (by omega), hl] <;> rfl

/-- The block g holds the memory m; the mask's bytes lie in a row of their own. -/
structure Fl (w : World) (g : Nat) (m : Mem) : Prop where
  size : m.B.length = 6144
  l0 : 0 ≤ m.left
  l1 : m.left ≤ 9223372036854775807
  few : m.mask.length ≤ 1024
  spot : ∃ A n cap, Row w g 64 (flCells m (.slice A n cap)) ∧ w.ownsRow 0 5 1 (.slice A n cap) n (bc m.mask)
theorem Fl.lt {w : World} {g : Nat} {m : Mem} (h : Fl w g m) : g < w.heap.size := by
  obtain ⟨A, n, cap, hr, _⟩ := h.spot
  exact hr.lt
/-- A row of bytes is in no block of another type. -/
theorem own_other {w : World} {base n m c k : Nat} {e T : TypeId} {A : Option Addr} {xs : List Value} {cs : Array Value} (h : w.ownsRow base e 1 (.slice A m c) n xs) (hk : w.heap[k]? = some (.cells cs T (0, 0))) (hT : T ≠ e) : ∀ b, A.map (·.block) = some b → some k ≠ some b := by
  intro b hb he
  injection he with he
  subst he
  rcases h.2 with ⟨h', _⟩ | ⟨g, cap', cur, h', _, hg, _⟩
  · injection h' with h1 _ _
    subst h1
    cases hb
  · injection h' with h1 _ _
    subst h1
    have hgk : g = k := by injection hb
    rw [hgk, hk] at hg
    injection hg with hg
    injection hg with _ h2 _
    exact hT h2
theorem Fl.kept {w w' : World} {g k : Nat} {m : Mem} (h : Fl w g m) (hg : w.grownBy w' (some k)) (hk : k ≠ g) (T : TypeId) (cs : Array Value) (hb : w.heap[k]? = some (.cells cs T (0, 0))) (hT : T ≠ 5) : Fl w' g m := by
  obtain ⟨A, n, cap, hr, ho⟩ := h.spot
  refine ⟨h.size, h.l0, h.l1, h.few, A, n, cap, ?_, grow_own ho hg (own_other ho hb hT)⟩
  exact (hg.block g hr.lt (fun e => hk (by injection e with e; exact e.symm))).trans hr
theorem Fl.new {w w' : World} {g : Nat} {m : Mem} (h : Fl w g m) (hg : w.grownBy w' none) : Fl w' g m := by
  obtain ⟨A, n, cap, hr, ho⟩ := h.spot
  refine ⟨h.size, h.l0, h.l1, h.few, A, n, cap, ?_, grow_own ho hg (fun k _ e => by cases e)⟩
  exact (hg.block g hr.lt (fun e => by cases e)).trans hr
theorem Fl.below {w w' : World} {g : Nat} {m : Mem} (h : Fl w g m) (hb : Below w.heap.size w w') : Fl w' g m := h.new (below_grow hb none)

theorem hasSector_any (v : Value) (s : Int) (w : World) :
    Calls Try.prog 55 #[v, .int .i64 s] w fun e w' => e = .returned (.bool (decide (isSector s))) ∧ w = w' := by
  by_cases h0 : 0 ≤ s
  · by_cases h1 : s < 6
    · have hd : decide (isSector s) = true := by simp [isSector, h0, h1]
      rw [hd]
      clear hd
      go_enter Try.func55, Try.ntmps55
      go_wp2
      go_ret
      exact ⟨rfl, rfl⟩
    · have hd : decide (isSector s) = false := by simp [isSector, h1]
      rw [hd]
      clear hd
      go_enter Try.func55, Try.ntmps55
      go_wp2
      go_ret
      exact ⟨rfl, rfl⟩
  · have hd : decide (isSector s) = false := by simp [isSector, h0]
    rw [hd]
    clear hd
    go_enter Try.func55, Try.ntmps55
    go_wp2
    go_ret
    exact ⟨rfl, rfl⟩

theorem hasPage_any (v : Value) (s p : Int) (w : World) :
    Calls Try.prog 38 #[v, .int .i64 s, .int .i64 p] w fun e w' => e = .returned (.bool (decide (isPage s p))) ∧ w = w' := by
  by_cases hs : isSector s
  · have hsd : decide (isSector s) = true := decide_eq_true hs
    have H := hasSector_any v s w
    rw [hsd] at H
    have HS := Lib.hid H
    by_cases h0 : 0 ≤ p
    · by_cases h1 : p < 64
      · have hp : decide (p < 64) = true := decide_eq_true h1
        have hd : decide (isPage s p) = true := decide_eq_true ⟨hs, h0, h1⟩
        rw [hd]
        clear hd H hsd hs
        go_enter Try.func38, Try.ntmps38
        go_wp2_with ((with_reducible refine HS.out.mono ?_); rintro _ w1 ⟨rfl, rfl⟩)
        go_ret
        exact ⟨rfl, rfl⟩
      · have hp : decide (p < 64) = false := decide_eq_false h1
        have hd : decide (isPage s p) = false := decide_eq_false fun h => h1 h.2.2
        rw [hd]
        clear hd H hsd hs
        go_enter Try.func38, Try.ntmps38
        go_wp2_with ((with_reducible refine HS.out.mono ?_); rintro _ w1 ⟨rfl, rfl⟩)
        go_ret
        exact ⟨rfl, rfl⟩
    · have hd : decide (isPage s p) = false := decide_eq_false fun h => h0 h.2.1
      rw [hd]
      clear hd H hsd hs
      go_enter Try.func38, Try.ntmps38
      go_wp2_with ((with_reducible refine HS.out.mono ?_); rintro _ w1 ⟨rfl, rfl⟩)
      go_ret
      exact ⟨rfl, rfl⟩
  · have hsd : decide (isSector s) = false := decide_eq_false hs
    have H := hasSector_any v s w
    rw [hsd] at H
    have HS := Lib.hid H
    have hd : decide (isPage s p) = false := decide_eq_false fun h => hs h.1
    rw [hd]
    clear hd H hsd hs
    go_enter Try.func38, Try.ntmps38
    go_wp2_with ((with_reducible refine HS.out.mono ?_); rintro _ w1 ⟨rfl, rfl⟩)
    go_ret
    exact ⟨rfl, rfl⟩

theorem sector_any (g : Nat) (s : Nat) (hs : s < 6) (w : World) :
    Calls Try.prog 57 #[.pointer (some ⟨g, 0, none⟩), .int .i64 (s : Int)] w fun e w' => e = .returned (.slice (some ⟨g, s * 1024, none⟩) 1024 1024) ∧ w = w' := by
  go_enter Try.func57, Try.ntmps57
  go_wp2
  go_ret
  exact ⟨rfl, rfl⟩
end Go.Proofs.Ytolpiklhnafnbaa
