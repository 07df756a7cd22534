/- Whether two arrays of bytes are one, as the program asks it. It speaks of no package of the program. -/
import Derived.Test.YtkclbhmjhjfgiaaDoorArr
import Derived.Laws.StructEq
import Derived.Deep.QuietTactic
import Derived.BigQuiet
namespace Go.Proofs.YtkclbhmjhjfgiaaDoor
open Go.RowKit Wd Nm Cm
section
variable {P : Program}
theorem eq_loop (w : World) (d : Nat) (e : TypeId) (he : P.underlying e = some (.int .u8)) (a b : List UInt8) : ∀ (m s : Nat), s + m ≤ a.length → s + m ≤ b.length →
    (forIn (List.range' s m) ((none, ()) : Option Bool × Unit) fun i (_ : Option Bool × Unit) => do
      let x ← part e (bc a).toArray (i * 1)
      let y ← part e (bc b).toArray (i * 1)
      let r ← Op.equalIn (d + 1) e x y
      if (!r) = true then pure (ForInStep.done (some false, ())) else pure (ForInStep.yield (none, ()))).run P w = .ok (if (a.drop s).take m = (b.drop s).take m then (none, ()) else (some false, ())) w := by
  intro m
  induction m with
  | zero => intro s _ _; simp
  | succ m ih =>
    intro s h1 h2
    have e1 := part_cell w e .u8 he (bc a) (s * 1) _ (by rw [Nat.mul_one]; exact bc_get a s (by omega))
    have e2 := part_cell w e .u8 he (bc b) (s * 1) _ (by rw [Nat.mul_one]; exact bc_get b s (by omega))
    have h3 := ih (s + 1) (by omega) (by omega)
    simp only [List.range'_succ, List.forIn_cons, Sem.run_bind, e1, e2, Result.andThen_ok, run_equalIn_int w d e .u8 .u8 _ _ he]
    rw [List.drop_eq_getElem_cons (show s < a.length by omega), List.drop_eq_getElem_cons (show s < b.length by omega), List.take_succ_cons, List.take_succ_cons]
    by_cases hab : a[s] = b[s]
    · rw [hab]
      simp only [BEq.rfl, Bool.not_true, Bool.false_eq_true, if_false, Sem.run_pure, Result.andThen_ok, h3, List.cons.injEq, true_and]
    · have hne : ((a[s].toNat : Int) == (b[s].toNat : Int)) = false := by
        simp
        intro h
        exact hab (UInt8.toNat_inj.1 (by omega))
      simp only [hne, Bool.not_false, if_true, Sem.run_pure, Result.andThen_ok, List.cons.injEq, hab, false_and, if_false]
theorem run_equalIn_bytes (w : World) (d : Nat) (t e : TypeId) (n : Nat) (ht : P.underlying t = some (.array n e)) (he : P.underlying e = some (.int .u8)) (hi : (P.info? e).map (·.size) = some 1)
    (a b : List UInt8) (ha : a.length = n) (hb : b.length = n) : (Op.equalIn (d + 2) t (.agg (bc a).toArray) (.agg (bc b).toArray)).run P w = .ok (decide (a = b)) w := by
  rw [Op.equalIn]
  simp only [Sem.run_bind, run_underlying ht, Result.andThen_ok, size_one w e hi]
  have h := eq_loop (P := P) w d e he a b n 0 (by omega) (by omega)
  rw [List.drop_zero, List.drop_zero, List.take_of_length_le (by omega), List.take_of_length_le (by omega)] at h
  simp only [Std.Legacy.Range.forIn_eq_forIn_range', Std.Legacy.Range.size, Nat.sub_zero, Nat.add_sub_cancel, Nat.div_one]
  rw [h]
  by_cases hab : a = b
  · simp [hab]
  · simp [hab]
theorem run_neq_bytes (w : World) (t e : TypeId) (n : Nat) (ht : P.underlying t = some (.array n e)) (he : P.underlying e = some (.int .u8)) (hi : (P.info? e).map (·.size) = some 1)
    (a b : List UInt8) (ha : a.length = n) (hb : b.length = n) : (binOp .neq t (.agg (bc a).toArray) (.agg (bc b).toArray)).run P w = .ok (.bool (!decide (a = b))) w := by
  rw [run_neq_struct, run_equalIn_bytes w 9998 t e n ht he hi a b ha hb]
  rfl
theorem run_eql_bytes (w : World) (t e : TypeId) (n : Nat) (ht : P.underlying t = some (.array n e)) (he : P.underlying e = some (.int .u8)) (hi : (P.info? e).map (·.size) = some 1)
    (a b : List UInt8) (ha : a.length = n) (hb : b.length = n) : (binOp .eql t (.agg (bc a).toArray) (.agg (bc b).toArray)).run P w = .ok (.bool (decide (a = b))) w := by
  rw [run_eql_struct, run_equalIn_bytes w 9998 t e n ht he hi a b ha hb]
  rfl
/-- A whole array out of the middle of a block, in a region that only reads. -/
theorem quiet_load_mid {ops : Array Oper} {C : World → Prop} {Q : Act → Prop} {a : Act} {o : Oper} {rest : List Oper} (hg : o.guard = none) (ty : TypeId) (x : Operand) (ho : o.op = .load ty x)
    (b off : Nat) (hx : a.eval x = .pointer (some ⟨b, off, none⟩)) (cs : List Value) (d : TypeDesc) (hC : ∀ w, C w → w.rangeAt b off cs)
    (hu : P.underlying ty = some d) (hd : d.isRow = true) (hi : (P.info? ty).map (·.size) = some cs.length) (hk : wpQuiet P ops C Q rest (a.put o.dst (.agg cs.toArray))) : wpQuiet P ops C Q (o :: rest) a :=
  BigFrame.wpQuiet_want (by simp [Region.wanted, hg]) fun _ hK => ⟨_, fun w hw => by
    unfold Oper.quietAt execOp
    simp only [ho, hx, Sem.run_bind, run_loadAt_mid w b off ty cs d (hC w hw) hu hd hi, Result.andThen_ok, Sem.run_pure]
    exact ⟨rfl, rfl⟩, hK _ hk⟩
end
end Go.Proofs.YtkclbhmjhjfgiaaDoor
