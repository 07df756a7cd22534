/- The reference's Sum of chapter 3: its table of steps, and what its blocks hold. -/
import Derived.Test.YtkclbhmjhjfgiaaDoorShaSum
namespace Go.Proofs.YtkclbhmjhjfgiaaDoor
open Go.RowKit Wd Nm Cm Sm

/-- A literal of an array, its cells said by the caller. -/
theorem wpList_build_is {P : Program} {ops : Array Oper} {rest : List Oper} {o : Oper} {a : Act} {w : World} {Q : Exit → Act → World → Prop} (hg : o.guard = none) (t : TypeId) (parts : Array (Nat × Operand)) (ho : o.op = .build t parts) (cells : Array Value)
    (hb : P.built t (parts.map fun (i, x) => (i, a.eval x)).toList = some cells) (h : wpList P ops Q rest (a.put o.dst (.agg cells)) w) : wpList P ops Q (o :: rest) a w :=
  wpList_build hg t parts ho (by rw [hb]; rfl) (by rw [hb]; exact h)

section
variable {P : Program}
/-- A new variable of an array or a struct, the world behind it a letter. -/
theorem wpList_alloc_row {ops : Array Oper} {rest : List Oper} {o : Oper} {a : Act} {w : World} {Q : Exit → Act → World → Prop} (hgd : o.guard = none) (t : TypeId) (ho : o.op = .alloc t) (cs : List Value)
    (hz : ∀ w : World, (zeroValue t).run P w = .ok (.agg cs.toArray) w)
    (h : ∀ w', Row w' w.heap.size t cs → Below w.heap.size w w' → w'.heap.size = w.heap.size + 1 → wpList P ops Q rest (a.put o.dst (.pointer (some ⟨w.heap.size, 0, none⟩))) w') : wpList P ops Q (o :: rest) a w :=
  wpList_plain hgd fun K hK => by
    unfold Oper.wp execOp
    simp only [ho]
    simp [Instr.alloc, newVar, newRow, hz, Value.cells]
    rw [Oper.upon_value]
    exact hK _ _ (h _ (Row.new w t cs) (below_new (Below.refl _ _) _) (by simp))
/-- A whole array or struct into a block, the world behind it a letter. -/
theorem wpList_store_as {ops : Array Oper} {rest : List Oper} {o : Oper} {a : Act} {w : World} {Q : Exit → Act → World → Prop} (hgd : o.guard = none) (ty : TypeId) (x y : Operand) (ho : o.op = .store ty x y)
    (g : Nat) (cells : List Value) (hx : a.eval x = .pointer (some ⟨g, 0, none⟩)) (hy : a.eval y = .agg cells.toArray)
    (t : TypeId) (old : List Value) (hg : Row w g t old) (hi : (P.info? ty).map (·.size) = some cells.length) (hold : old.length = cells.length) (h1 : ∀ v ∈ cells, v.oneCell' = true)
    (h : ∀ w', Row w' g t cells → (∀ k, k ≠ g → w'.heap[k]? = w.heap[k]?) → w.grownBy w' (some g) → w'.heap.size = w.heap.size → wpList P ops Q rest (a.put o.dst undef) w') : wpList P ops Q (o :: rest) a w := by
  refine wpList_store_row hgd ty x y ho g cells.toArray hx hy t old.toArray hg (by simpa using hi) (by simpa using hold) (all_oneCell_toArray h1) ?_
  refine h _ (setRow_heap w g _ _ t _ hg) (fun k hk => setRow_other w g k _ hk) ⟨rfl, rfl, rfl, by simp, fun k _ hk => setRow_other w g k _ (fun e => hk (by rw [e]))⟩ (by simp)
end

set_option maxHeartbeats 2000000 in
theorem words_any (w : World) : Calls Tryd.prog 16 #[] w fun e w' => e = .returned (.agg (wc ks).toArray) ∧ Below w.heap.size w w' := by
  obtain ⟨KS, hK⟩ : ∃ K, (wc ks).toArray = K := ⟨_, rfl⟩
  have h1 : (Tryd.prog.info? 42).map (·.size) = some KS.size := by rw [← hK]; kernel_rfl
  have h2 : (wc (List.replicate 64 (0 : BitVec 32))).toArray.size = KS.size := by rw [← hK]; decide +kernel
  have h3 : KS.all (·.oneCell') = true := by rw [← hK]; decide +kernel
  rw [hK]
  have H1 := Lib.hid h1
  have H2 := Lib.hid h2
  have H3 := Lib.hid h3
  have HK := Lib.hid hK
  clear h1 h2 h3 hK
  go_enter Tryd.func16, Tryd.ntmps16
  have HR := Lib.hid (Row.zero w 42 (wc (wz [])).toArray rfl)
  go_wp2_with (first
    | (refine wpList_build_is rfl 42 _ rfl KS ?_ ?_; (focus (rw [← HK.out]; kernel_rfl)))
    | (refine wpList_store_row rfl _ _ _ rfl w.heap.size KS rfl rfl 42 _ HR.out H1.out H2.out H3.out ?_))
  refine bodyPost_ret (v := .agg KS) ?_ rfl ⟨rfl, below_setRow (below_new (Below.refl _ _) _) (Nat.le_refl _) _⟩
  exact results_cell_row rfl _ _ w.heap.size 42 _ (0, 0) _ rfl (setRow_heap _ _ _ _ _ _ HR.out) Tryd.underlying42 rfl H1.out
end Go.Proofs.YtkclbhmjhjfgiaaDoor
