/- Chapter 6: an entry as the document's own (the laws' function of), and two of the document's held against each other. -/
import Derived.Test.YtmebdnblobobnaaGreatDoorRef6Boot
import Derived.Test.YtmebdnblobobnaaGreatDoorLaw6Base
namespace Go.Proofs.YtmebdnblobobnaaGreatDoor
set_option maxRecDepth 100000
open Go.RowKit _root_.Go.Proofs.YtmebdnblobobnaaGreatDoor.Wd _root_.Go.Proofs.YtmebdnblobobnaaGreatDoor.Nm _root_.Go.Proofs.YtmebdnblobobnaaGreatDoor.Cm _root_.Go.Proofs.YtmebdnblobobnaaGreatDoor.Fm _root_.Go.Proofs.YtmebdnblobobnaaGreatDoor.Sm

theorem xpart_ent_sum (e : Ent) (h : e.sum.length = 32) (w : World) : (part 39 e.cells.toArray 2).run Tryz.prog w = .ok (.agg (bc e.sum).toArray) w := by
  obtain ⟨q, t, l⟩ := e
  obtain ⟨f, rfl⟩ := of_fn32 l h
  clear h
  kernel_rfl
theorem xent_eql_d (d : Nat) (a b : Ent) (ha : a.sum.length = 32) (hb : b.sum.length = 32) (w : World) : (Op.equalIn (d + 3) 49 (.agg a.cells.toArray) (.agg b.cells.toArray)).run Tryz.prog w = .ok (decide (a.seq = b.seq) && decide (a.slot = b.slot) && decide (a.sum = b.sum)) w := by
  have hf : Tryz.prog.underlying 49 = some (.struct (Tryz.prog.fieldsOf 49)) := by kernel_rfl
  have hs : Tryz.prog.stoodInHeld 49 = false := by kernel_rfl
  rw [show d + 3 = d + 2 + 1 from rfl, run_equalIn_struct w (d + 2) _ _ _ hf hs]
  have hl : (Tryz.prog.fieldsOf 49).toList.map (fun f => (f.type, f.offset, f.name == "_")) = [(3, 0, false), (3, 1, false), (39, 2, false)] := by kernel_rfl
  generalize (Tryz.prog.fieldsOf 49).toList = fs at hl
  clear hf hs
  have h3 : fs.length = 3 := by have := congrArg List.length hl; simpa using this
  obtain ⟨f0, f1, f2, rfl⟩ : ∃ f0 f1 f2, fs = [f0, f1, f2] := by
    match fs, h3 with
    | [f0, f1, f2], _ => exact ⟨f0, f1, f2, rfl⟩
  clear h3
  simp only [List.map_cons, List.map_nil, List.cons.injEq, Prod.mk.injEq, and_true, beq_eq_false_iff_ne, ne_eq] at hl
  obtain ⟨⟨t0, o0, n0⟩, ⟨t1, o1, n1⟩, t2, o2, n2⟩ := hl
  have hi := Tryz.underlying3
  have p0a := part_cell (P := Tryz.prog) w 3 .i64 hi a.cells 0 (.int .i64 a.seq) rfl
  have p0b := part_cell (P := Tryz.prog) w 3 .i64 hi b.cells 0 (.int .i64 b.seq) rfl
  have p1a := part_cell (P := Tryz.prog) w 3 .i64 hi a.cells 1 (.int .i64 a.slot) rfl
  have p1b := part_cell (P := Tryz.prog) w 3 .i64 hi b.cells 1 (.int .i64 b.slot) rfl
  have pa := xpart_ent_sum a ha w
  have pb := xpart_ent_sum b hb w
  have q := run_equalIn_bytes (P := Tryz.prog) w d 39 5 32 Tryz.underlying39 Tryz.underlying5 (by kernel_rfl) a.sum b.sum ha hb
  have j0 := run_equalIn_int (P := Tryz.prog) w (d + 1) 3 .i64 .i64 a.seq b.seq hi
  have j1 := run_equalIn_int (P := Tryz.prog) w (d + 1) 3 .i64 .i64 a.slot b.slot hi
  have e0 : decide (a.seq = b.seq) = (a.seq == b.seq) := rfl
  have e1 : decide (a.slot = b.slot) = (a.slot == b.slot) := rfl
  rw [e0, e1]
  generalize (a.seq == b.seq) = d0 at j0 ⊢
  generalize (a.slot == b.slot) = d1 at j1 ⊢
  generalize decide (a.sum = b.sum) = d2 at q ⊢
  clear hi e0 e1
  rw [show d + 1 + 1 = d + 2 from rfl] at j0 j1
  generalize d + 2 = dd at j0 j1 q ⊢
  generalize Value.agg (bc a.sum).toArray = VA at pa q
  generalize Value.agg (bc b.sum).toArray = VB at pb q
  clear ha hb
  simp only [Op.eqFields, t0, o0, n0, t1, o1, n1, t2, o2, n2, ne_eq, not_false_eq_true, if_true, Sem.run_bind, p0a, p0b, Result.andThen_ok, j0]
  cases d0
  · simp only [Bool.not_false, if_true, Sem.run_pure, Bool.false_and]
  · simp only [Bool.not_true, Bool.false_eq_true, if_false, Sem.run_bind, p1a, p1b, Result.andThen_ok, j1, Bool.true_and]
    cases d1
    · simp only [Bool.not_false, if_true, Sem.run_pure, Bool.false_and]
    · simp only [Bool.not_true, Bool.false_eq_true, if_false, Sem.run_bind, pa]
      rw [Result.andThen_ok, pb, Result.andThen_ok, q, Result.andThen_ok]
      cases d2
      · rfl
      · rfl
theorem xent_eql (a b : Ent) (ha : a.sum.length = 32) (hb : b.sum.length = 32) (w : World) : (binOp .eql 49 (.agg a.cells.toArray) (.agg b.cells.toArray)).run Tryz.prog w = .ok (.bool (decide (a.seq = b.seq) && decide (a.slot = b.slot) && decide (a.sum = b.sum))) w := by
  rw [run_eql_struct, xent_eql_d 9997 a b ha hb]
  rfl
theorem xent_neq (a b : Ent) (ha : a.sum.length = 32) (hb : b.sum.length = 32) (w : World) : (binOp .neq 49 (.agg a.cells.toArray) (.agg b.cells.toArray)).run Tryz.prog w = .ok (.bool (!(decide (a.seq = b.seq) && decide (a.slot = b.slot) && decide (a.sum = b.sum)))) w := by
  rw [run_neq_struct, xent_eql_d 9997 a b ha hb]
  rfl
def sameE (a b : Ent) : Bool := decide (a.seq = b.seq) && decide (a.slot = b.slot) && decide (a.sum = b.sum)
theorem same_ent (a b : Ent) : (decide (a.seq = b.seq) && decide (a.slot = b.slot) && decide (a.sum = b.sum)) = sameE a b := rfl
theorem sameE_yes {a b : Ent} (h : sameE a b = true) : a = b := by
  unfold sameE at h
  simp only [Bool.and_eq_true, decide_eq_true_eq] at h
  obtain ⟨⟨h1, h2⟩, h3⟩ := h
  obtain ⟨a1, a2, a3⟩ := a
  obtain ⟨b1, b2, b3⟩ := b
  simp only at h1 h2 h3
  subst h1 h2 h3
  rfl
theorem sameE_refl (a : Ent) : sameE a a = true := by simp [sameE]
set_option maxHeartbeats 2000000 in
theorem of_any (e : Ent) (w : World) (hs : e.sum.length = 32) :
    Calls Tryz.prog 24 #[.agg e.cells.toArray] w fun r w' => r = .returned (.agg e.cells.toArray) ∧ Below w.heap.size w w' := by
  obtain ⟨hz, _⟩ := zero_of_info ent_zero_info
  have hzl := ent_len Ent.zero rfl
  have hcl := ent_len e hs
  have hco := ent_one e
  have hbu := ent_built3 e.seq e.slot e.sum hs
  rw [show (⟨e.seq, e.slot, e.sum⟩ : Ent) = e from rfl] at hbu
  obtain ⟨Z, hZ⟩ : ∃ Z, Ent.zero.cells = Z := ⟨_, rfl⟩
  rw [hZ] at hz hzl
  obtain ⟨BS, hBS⟩ : ∃ B, bc e.sum = B := ⟨_, rfl⟩
  have hbl : BS.length = 32 := by rw [← hBS, bc_len, hs]
  rw [hBS] at hbu
  have hc0 : e.cells[0]? = some (.int .i64 e.seq) := rfl
  have hc1 : e.cells[1]? = some (.int .i64 e.slot) := rfl
  have hrg : ∀ w g, Row w g 45 e.cells → w.rangeAt g 2 BS := fun w g h => by rw [← hBS]; exact row_sum h
  obtain ⟨q, hq⟩ : ∃ q, e.seq = q := ⟨_, rfl⟩
  obtain ⟨t, ht⟩ : ∃ q, e.slot = q := ⟨_, rfl⟩
  rw [hq] at hbu hc0
  rw [ht] at hbu hc1
  obtain ⟨CE, hCE⟩ : ∃ C, e.cells = C := ⟨_, rfl⟩
  rw [hCE] at hcl hco hbu hc0 hc1 ⊢
  simp only [hCE] at hrg
  have HZ := Lib.hid (And.intro hz (show Z.length = CE.length by rw [hzl, hcl]))
  have HI := Lib.hid (And.intro (ent_size CE hcl) (show (Tryz.prog.info? 49).map (·.size) = some CE.toArray.size by rw [ent_size CE hcl]; simp))
  have HIS := Lib.hid (hash_size BS hbl)
  have HBU := Lib.hid (And.intro hbu hco)
  have HC := Lib.hid (And.intro hc0 (And.intro hc1 hrg))
  clear hz hzl hcl hco hbu hZ hBS hbl hc0 hc1 hrg hq ht hCE hs
  go_enter Tryz.func24, Tryz.ntmps24
  obtain ⟨W, hW⟩ : ∃ W, w.alloc (Obj.cells CE.toArray 45) = W := ⟨_, rfl⟩
  have hrow : Row W w.heap.size 45 CE := by rw [← hW]; exact Row.new _ _ _
  have hbW : Below w.heap.size w W := by rw [← hW]; exact (Below.refl _ _).alloc (Nat.le_refl _) _
  have HW := Lib.hid hW
  have HR := Lib.hid (And.intro hrow hbW)
  clear hrow hbW hW
  go_wp2_with (refine wpList_alloc_row rfl 49 rfl Z HZ.out.1 ?_)
  rw [HW.out]
  intro w2 hrow2 hb2 hsz2
  obtain ⟨B, hB⟩ : ∃ B, w.heap.size = B := ⟨_, rfl⟩
  have hr2 := HR.out.1.below hb2 (Nat.lt_succ_self _)
  rw [hB] at hr2
  have c0 := hr2.cell HC.out.1
  have c1 := hr2.cell HC.out.2.1
  have HRG := Lib.hid (HC.out.2.2 w2 B hr2)
  have HBW := Lib.hid (HR.out.2.trans (hb2.mono (Nat.le_succ _)))
  rw [hB] at hrow2
  have HR2 := Lib.hid hrow2
  have HLE := Lib.hid (show w.heap.size ≤ B + 1 by omega)
  rw [hB]
  clear hr2 hb2 hsz2 hB hrow2
  go_wp2_with (first
    | (refine wpList_load_mid rfl 39 (.tmp 7) rfl B 2 rfl BS _ HRG.out Tryz.underlying39 rfl HIS.out ?_)
    | (refine wpList_build_is rfl 49 #[(0, .tmp 4), (1, .tmp 6), (2, .tmp 8)] rfl CE.toArray ?_ ?_; (focus (go_simp; exact HBU.out.1)))
    | (refine wpList_store_as rfl _ _ _ rfl (B + 1) CE rfl rfl 49 Z HR2.out HI.out.1 HZ.out.2 HBU.out.2 ?_))
  intro w3 hrow3 hoth3 hg3 hsz3
  have hb3 : Below w.heap.size w w3 := step_grow HBW.out hg3 HLE.out
  have HB3 := Lib.hid hb3
  clear hb3 hoth3 hg3 hsz3
  go_wp2_with fail
  refine bodyPost_ret (v := .agg CE.toArray) ?_ rfl ⟨rfl, HB3.out⟩
  exact results_row_one (P := Tryz.prog) rfl _ w3 (B + 1) 49 _ (0, 0) _ rfl hrow3 Tryz.underlying49 rfl HI.out.2
end Go.Proofs.YtmebdnblobobnaaGreatDoor
