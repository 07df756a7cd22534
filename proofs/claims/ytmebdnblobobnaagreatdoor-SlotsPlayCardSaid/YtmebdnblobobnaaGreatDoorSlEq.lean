/- Chapter 6: two entries held against each other. -/
import Derived.Test.YtmebdnblobobnaaGreatDoorSlDel
namespace Go.Proofs.YtmebdnblobobnaaGreatDoor
set_option maxRecDepth 100000
open Go.RowKit _root_.Go.Proofs.YtmebdnblobobnaaGreatDoor.Wd _root_.Go.Proofs.YtmebdnblobobnaaGreatDoor.Nm _root_.Go.Proofs.YtmebdnblobobnaaGreatDoor.Cm _root_.Go.Proofs.YtmebdnblobobnaaGreatDoor.Fm _root_.Go.Proofs.YtmebdnblobobnaaGreatDoor.Sm

theorem part_ent_sum (e : Ent) (h : e.sum.length = 32) (w : World) : (part 39 e.cells.toArray 2).run Tryz.prog w = .ok (.agg (bc e.sum).toArray) w := by
  obtain ⟨q, t, l⟩ := e
  obtain ⟨f, rfl⟩ := of_fn32 l h
  clear h
  kernel_rfl
theorem ent_eql_d (d : Nat) (a b : Ent) (ha : a.sum.length = 32) (hb : b.sum.length = 32) (w : World) : (Op.equalIn (d + 3) 45 (.agg a.cells.toArray) (.agg b.cells.toArray)).run Tryz.prog w = .ok (decide (a.seq = b.seq) && decide (a.slot = b.slot) && decide (a.sum = b.sum)) w := by
  have hf : Tryz.prog.underlying 45 = some (.struct (Tryz.prog.fieldsOf 45)) := by kernel_rfl
  have hs : Tryz.prog.stoodInHeld 45 = false := by kernel_rfl
  rw [show d + 3 = d + 2 + 1 from rfl, run_equalIn_struct w (d + 2) _ _ _ hf hs]
  have hl : (Tryz.prog.fieldsOf 45).toList.map (fun f => (f.type, f.offset, f.name == "_")) = [(3, 0, false), (3, 1, false), (39, 2, false)] := by kernel_rfl
  generalize (Tryz.prog.fieldsOf 45).toList = fs at hl
  clear hf hs
  have h3 : fs.length = 3 := by have := congrArg List.length hl; simpa using this
  obtain ⟨f0, f1, f2, rfl⟩ : ∃ f0 f1 f2, fs = [f0, f1, f2] := by
    match fs, h3 with
    | [f0, f1, f2], _ => exact ⟨f0, f1, f2, rfl⟩
  clear h3
  simp only [List.map_cons, List.map_nil, List.cons.injEq, Prod.mk.injEq, and_true, beq_eq_false_iff_ne, ne_eq] at hl
  obtain ⟨⟨t0, o0, n0⟩, ⟨t1, o1, n1⟩, t2, o2, n2⟩ := hl
  have hi := Tryz.underlying3
  have p0a := part_cell (P := Tryz.prog) w 3 .i64 hi a.cells 0 (.int .i64 a.seq) rfl
  have p0b := part_cell (P := Tryz.prog) w 3 .i64 hi b.cells 0 (.int .i64 b.seq) rfl
  have p1a := part_cell (P := Tryz.prog) w 3 .i64 hi a.cells 1 (.int .i64 a.slot) rfl
  have p1b := part_cell (P := Tryz.prog) w 3 .i64 hi b.cells 1 (.int .i64 b.slot) rfl
  have pa := part_ent_sum a ha w
  have pb := part_ent_sum b hb w
  have q := run_equalIn_bytes (P := Tryz.prog) w d 39 5 32 Tryz.underlying39 Tryz.underlying5 (by kernel_rfl) a.sum b.sum ha hb
  have j0 := run_equalIn_int (P := Tryz.prog) w (d + 1) 3 .i64 .i64 a.seq b.seq hi
  have j1 := run_equalIn_int (P := Tryz.prog) w (d + 1) 3 .i64 .i64 a.slot b.slot hi
  have e0 : decide (a.seq = b.seq) = (a.seq == b.seq) := rfl
  have e1 : decide (a.slot = b.slot) = (a.slot == b.slot) := rfl
  rw [e0, e1]
  generalize (a.seq == b.seq) = d0 at j0 ⊢
  generalize (a.slot == b.slot) = d1 at j1 ⊢
  generalize decide (a.sum = b.sum) = d2 at q ⊢
  clear hi e0 e1
  rw [show d + 1 + 1 = d + 2 from rfl] at j0 j1
  generalize d + 2 = dd at j0 j1 q ⊢
  generalize Value.agg (bc a.sum).toArray = VA at pa q
  generalize Value.agg (bc b.sum).toArray = VB at pb q
  clear ha hb
  simp only [Op.eqFields, t0, o0, n0, t1, o1, n1, t2, o2, n2, ne_eq, not_false_eq_true, if_true, Sem.run_bind, p0a, p0b, Result.andThen_ok, j0]
  cases d0
  · simp only [Bool.not_false, if_true, Sem.run_pure, Bool.false_and]
  · simp only [Bool.not_true, Bool.false_eq_true, if_false, Sem.run_bind, p1a, p1b, Result.andThen_ok, j1, Bool.true_and]
    cases d1
    · simp only [Bool.not_false, if_true, Sem.run_pure, Bool.false_and]
    · simp only [Bool.not_true, Bool.false_eq_true, if_false, Sem.run_bind, pa]
      rw [Result.andThen_ok, pb, Result.andThen_ok, q, Result.andThen_ok]
      cases d2
      · rfl
      · rfl
theorem ent_eql (a b : Ent) (ha : a.sum.length = 32) (hb : b.sum.length = 32) (w : World) : (binOp .eql 45 (.agg a.cells.toArray) (.agg b.cells.toArray)).run Tryz.prog w = .ok (.bool (decide (a.seq = b.seq) && decide (a.slot = b.slot) && decide (a.sum = b.sum))) w := by
  rw [run_eql_struct, ent_eql_d 9997 a b ha hb]
  rfl
end Go.Proofs.YtmebdnblobobnaaGreatDoor
