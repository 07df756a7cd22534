/- Chapter 6: does an entry count? (the program's own function lack) -/
import Derived.Test.YtmebdnblobobnaaGreatDoorSlLook
namespace Go.Proofs.YtmebdnblobobnaaGreatDoor
set_option maxRecDepth 100000
open Go.RowKit _root_.Go.Proofs.YtmebdnblobobnaaGreatDoor.Wd _root_.Go.Proofs.YtmebdnblobobnaaGreatDoor.Nm _root_.Go.Proofs.YtmebdnblobobnaaGreatDoor.Cm _root_.Go.Proofs.YtmebdnblobobnaaGreatDoor.Fm _root_.Go.Proofs.YtmebdnblobobnaaGreatDoor.Sm

section
variable {P : Program}
theorem wpList_load_mid_g {ops : Array Oper} {rest : List Oper} {op : Oper} {a : Act} {w : World} {Q : Exit → Act → World → Prop} (hgd : Region.wanted op (yielded ops a.tmps) = true) (ty : TypeId) (x : Operand) (ho : op.op = .load ty x)
    (b o : Nat) (hx : a.eval x = .pointer (some ⟨b, o, none⟩)) (cs : List Value) (d : TypeDesc) (hc : w.rangeAt b o cs)
    (hu : P.underlying ty = some d) (hd : d.isRow = true) (hi : (P.info? ty).map (·.size) = some cs.length)
    (h : wpList P ops Q rest (a.put op.dst (.agg cs.toArray)) w) : wpList P ops Q (op :: rest) a w :=
  wpList_step fun K hK => by
    rw [if_pos hgd]
    exact wp_load_mid ty x ho b o hx cs d hc hu hd hi (hK _ _ h)
end
/-- What a shelf says of a slot's image. -/
def ShIs (o : Option (List UInt8)) (s : Sh) : Prop :=
  match o with
  | none => s = Sh.zero
  | some b => s.full = true ∧ s.sum = sha b
theorem ShOk.is {w : World} {base : Nat} {o : Option (List UInt8)} {s : Sh} (h : ShOk w base o s) : ShIs o s := by
  cases o with
  | none => exact h
  | some b => exact ⟨h.1, h.2.1⟩
theorem ShIs.sum {o : Option (List UInt8)} {s : Sh} (h : ShIs o s) : s.sum.length = 32 := by
  cases o with
  | none => have h' : s = Sh.zero := h; rw [h']; rfl
  | some b => rw [h.2]; exact sha_len b
theorem hash_neq2 (a b : List UInt8) (ha : a.length = 32) (hb : b.length = 32) (W : World) : (binOp .neq 39 (.agg (bc a).toArray) (.agg (bc b).toArray)).run Tryz.prog W = .ok (.bool (!decide (a = b))) W :=
  run_neq_bytes (P := Tryz.prog) W 39 5 32 Tryz.underlying39 Tryz.underlying5 (by kernel_rfl) a b ha hb
theorem lack_of {m : Mem} {e : Ent} {s : Sh} (h2 : e.slot ≠ 2) (h : ShIs (imgM m e.slot) s) : (!countsM m e) = (!s.full || !decide (s.sum = e.sum)) := by
  unfold countsM
  rw [decide_eq_false h2, Bool.false_or]
  cases hi : imgM m e.slot with
  | none =>
    rw [hi] at h
    have h' : s = Sh.zero := h
    rw [h']
    rfl
  | some b =>
    rw [hi] at h
    rw [h.1, h.2]
    simp

set_option maxHeartbeats 4000000 in
theorem lack_any (m : Mem) (s0 s1 : Sh) (p : Pl) (w : World) (h0 : ShIs (imgM m 0) s0) (h1 : ShIs (imgM m 1) s1) (hs : p.e.sum.length = 32) (hin : p.e.inside) :
    Calls Tryz.prog 45 #[.agg (s0.cells ++ s1.cells).toArray, .agg p.cells.toArray] w fun e w' => e = .returned (.bool (!countsM m p.e)) ∧ Below w.heap.size w w' := by
  obtain ⟨_, c1, _, _⟩ := pl_cell p hs
  obtain ⟨R, hR⟩ : ∃ R, (!countsM m p.e) = R := ⟨_, rfl⟩
  rw [hR]
  obtain ⟨_, _, i1, i2⟩ := hin
  by_cases h2 : p.e.slot = 2
  · have hd : R = false := by rw [← hR]; unfold countsM; rw [decide_eq_true h2]; rfl
    subst hd
    rw [h2] at c1
    generalize p.cells = CP at c1 ⊢
    generalize s0.cells ++ s1.cells = CS
    clear hR h0 h1 h2 i1 i2 hs
    go_enter Tryz.func45, Tryz.ntmps45
    go_wp2_with fail
    go_ret
    exact ⟨rfl, below_new (below_new (Below.refl _ _) _) _⟩
  · obtain ⟨k, hk⟩ : ∃ k : Nat, p.e.slot = k := ⟨p.e.slot.toNat, by omega⟩
    have hk2 : k < 2 := by omega
    have hl0 := s0.cells_len h0.sum
    have hl1 := s1.cells_len h1.sum
    obtain ⟨s, hsk, hsr⟩ : ∃ s : Sh, ShIs (imgM m (k : Int)) s ∧ ∀ j v, s.cells[j]? = some v → (s0.cells ++ s1.cells)[k * 34 + j]? = some v := by
      match k, hk2 with
      | 0, _ => exact ⟨s0, h0, fun j v hv => by
          have hj := (List.getElem?_eq_some_iff.1 hv).1
          rw [Nat.zero_mul, Nat.zero_add, List.getElem?_append_left hj]; exact hv⟩
      | 1, _ => exact ⟨s1, h1, fun j v hv => by
          rw [Nat.one_mul, List.getElem?_append_right (by omega), hl0, Nat.add_sub_cancel_left]; exact hv⟩
    have hlk := lack_of (m := m) (e := p.e) (s := s) h2 (by rw [hk]; exact hsk)
    rw [hR] at hlk
    have hne := hash_neq2 s.sum p.e.sum hsk.sum hs
    have hsl := s.cells_len hsk.sum
    have hcl : (s0.cells ++ s1.cells).length = 68 := by rw [List.length_append, hl0, hl1]
    have hrp : ∀ j v, (bc p.e.sum)[j]? = some v → p.cells[2 + j]? = some v := fun j v hv => by
      have hj := (List.getElem?_eq_some_iff.1 hv).1
      show (p.e.cells ++ _)[2 + j]? = _
      rw [List.getElem?_append_left (by rw [show p.e.cells.length = 34 by simp [Ent.cells, bc_len, hs]]; rw [bc_len, hs] at hj; omega), Nat.add_comm 2 j]
      exact hv
    have hrs : ∀ j v, (bc s.sum)[j]? = some v → s.cells[2 + j]? = some v := fun j v hv => by
      rw [Nat.add_comm 2 j]; exact hv
    have hf0 : s.cells[0]? = some (.bool s.full) := rfl
    have hbl : (bc s.sum).length = 32 := by rw [bc_len, hsk.sum]
    have hbp : (bc p.e.sum).length = 32 := by rw [bc_len, hs]
    rw [hk] at c1
    obtain ⟨d, hd⟩ : ∃ d, decide (s.sum = p.e.sum) = d := ⟨_, rfl⟩
    rw [hd] at hlk hne
    obtain ⟨BS, hBS⟩ : ∃ B, bc s.sum = B := ⟨_, rfl⟩
    obtain ⟨BP, hBP⟩ : ∃ B, bc p.e.sum = B := ⟨_, rfl⟩
    rw [hBS] at hne hrs hbl
    rw [hBP] at hne hrp hbp
    obtain ⟨CP, hCP⟩ : ∃ C, p.cells = C := ⟨_, rfl⟩
    obtain ⟨CS, hCS⟩ : ∃ C, s0.cells ++ s1.cells = C := ⟨_, rfl⟩
    obtain ⟨C1, hC1⟩ : ∃ C, s.cells = C := ⟨_, rfl⟩
    obtain ⟨f, hf⟩ : ∃ f, s.full = f := ⟨_, rfl⟩
    have hone := s.one
    rw [hCP] at c1 hrp ⊢
    rw [hCS] at hsr hcl ⊢
    rw [hC1] at hsr hsl hrs hf0 hone
    rw [hf] at hlk hf0
    have HH := Lib.hid (And.intro hsr (And.intro hsl (And.intro hrp (And.intro hrs (And.intro hf0 (And.intro hbl (And.intro hbp (And.intro hcl (And.intro hone c1)))))))))
    have HLK := Lib.hid hlk
    have HI := Lib.hid (show (Tryz.prog.info? 84).map (·.size) = some C1.length by rw [sh_info1, hsl])
    have HIS := Lib.hid (show (Tryz.prog.info? 39).map (·.size) = some BS.length by rw [hbl]; kernel_rfl)
    have HIP := Lib.hid (show (Tryz.prog.info? 39).map (·.size) = some BP.length by rw [hbp]; kernel_rfl)
    obtain ⟨Z1, hz1, hz2⟩ : ∃ Z : List Value, Z.length = 34 ∧ ∀ w : World, (zeroValue 84).run Tryz.prog w = .ok (.agg Z.toArray) w :=
      ⟨Sh.zero.cells, by simp [Sh.zero, Sh.cells, bc_len], (zero_of_info (show (Tryz.prog.info? 84).map (fun i => (i.zero, i.size)) = some (some (.agg Sh.zero.cells.toArray), 34) by kernel_rfl)).1⟩
    have HZ := Lib.hid (And.intro hz2 (show Z1.length = C1.length by rw [hz1, hsl]))
    have HNE := Lib.hid hne
    have hkn : ¬ (k : Int) = 2 := by omega
    have hkb : ((k : Int) == 2) = false := by simpa using hkn
    clear hR h0 h1 h2 i1 i2 hs hk hl0 hl1 hsk hsr hlk hsl hcl hrp hrs hf0 hbl hbp hd hBS hBP hCP hCS hC1 hf hone c1 hz1 hz2 hne
    go_enter Tryz.func45, Tryz.ntmps45
    obtain ⟨W, hW⟩ : ∃ W, (w.alloc (Obj.cells CS.toArray 86)).alloc (Obj.cells CP.toArray 75) = W := ⟨_, rfl⟩
    have hr1 : Row W w.heap.size 86 CS := by rw [← hW]; exact (Row.new w _ CS).alloc _
    have hr2 : Row W (w.heap.size + 1) 75 CP := by rw [← hW]; have := Row.new (w.alloc (Obj.cells CS.toArray 86)) 75 CP; simpa using this
    have hbW : Below w.heap.size w W := by rw [← hW]; exact below_new (below_new (Below.refl _ _) _) _
    have hsz : W.heap.size = w.heap.size + 2 := by rw [← hW]; simp
    have HW := Lib.hid hW
    have H2 := Lib.hid (And.intro hr1 (And.intro hr2 (And.intro hbW hsz)))
    have c1 := hr2.cell HH.out.2.2.2.2.2.2.2.2.2
    clear hr1 hr2 hbW hsz hW
    go_upto_region 1 with fail
    rw [HW.out]
    obtain ⟨B, hB⟩ : ∃ B, w.heap.size = B := ⟨_, rfl⟩
    obtain ⟨E, hE⟩ : ∃ E, W.heap.size = E := ⟨_, rfl⟩
    have HB := Lib.hid hB
    rw [hB] at H2 c1 ⊢
    have HRA := Lib.hid (H2.out.1.range (k * 34) C1 HH.out.1)
    clear hB
    go_wp2_with (first
      | (refine wpList_load_mid rfl 84 (.tmp 13) rfl B (k * 34) rfl C1 _ HRA.out Tryz.underlying84 rfl HI.out ?_)
      | (refine wpList_alloc_row rfl 84 rfl Z1 HZ.out.1 ?_))
    intro w3 hrow3 hb3 hsz3
    go_wp2_with (refine wpList_store_as rfl _ _ _ rfl E C1 rfl rfl 84 Z1 hrow3 HI.out HZ.out.2 HH.out.2.2.2.2.2.2.2.2.1 ?_)
    intro w4 hrow4 hoth4 hg4 hsz4
    have HF := Lib.hid (show Row w4 E 84 C1 ∧ Row w4 (B + 1) 75 CP ∧ Below B w w4 from by
      obtain ⟨_, k2, k3, k4⟩ := H2.out
      rw [hE] at k4
      refine ⟨hrow4, (hoth4 (B + 1) (by omega)).trans ((hb3.block (B + 1) (by omega)).trans k2), ?_⟩
      have h3 : Below B w w3 := k3.trans (hb3.mono (by omega))
      exact ⟨hg4.os.trans h3.os, hg4.tape.trans h3.tape, hg4.output.trans h3.output, Nat.le_trans h3.size hg4.size, fun q hq => (hoth4 q (by omega)).trans (h3.block q hq)⟩)
    have cf := HF.out.1.cell HH.out.2.2.2.2.1
    have HR1 := Lib.hid (HF.out.1.range 2 BS HH.out.2.2.2.1)
    have HR2 := Lib.hid (HF.out.2.1.range 2 BP HH.out.2.2.1)
    clear hrow3 hb3 hsz3 hrow4 hoth4 hg4 hsz4 hE c1
    cases f with
    | false =>
      have hRt : R = true := HLK.out
      subst hRt
      go_wp2_with fail
      go_ret
      exact ⟨rfl, by rw [HB.out]; exact HF.out.2.2⟩
    | true =>
      have hRt : R = !d := by have := HLK.out; simpa using this
      subst hRt
      have hne := HNE.out
      go_wp2_with (first
        | (refine wpList_load_mid_g rfl 39 (.tmp 19) rfl E 2 rfl BS _ HR1.out Tryz.underlying39 rfl HIS.out ?_)
        | (refine wpList_load_mid_g rfl 39 (.tmp 22) rfl (B + 1) 2 rfl BP _ HR2.out Tryz.underlying39 rfl HIP.out ?_))
      go_ret
      exact ⟨rfl, by rw [HB.out]; exact HF.out.2.2⟩
end Go.Proofs.YtmebdnblobobnaaGreatDoor
