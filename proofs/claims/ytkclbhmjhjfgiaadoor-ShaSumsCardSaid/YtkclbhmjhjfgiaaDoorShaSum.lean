/- Contract for package sha's Sum: it is SHA-256 of all parts, one behind the other; nothing that was there turns. -/
import Derived.Test.YtkclbhmjhjfgiaaDoorShaEnd
import Derived.Deep.WholeRow
namespace Go.Proofs.YtkclbhmjhjfgiaaDoor
open Go.RowKit Wd Nm Cm Sm

/-- The two tables of package sha. -/
def Tables (w : World) : Prop := StepsAt w ∧ w.rangeAt 0 0 (wc ini.list)
theorem Tables.lt {w : World} (h : Tables w) : 1 < w.heap.size := block_lt_of_cell (h.1 0 (by omega))
theorem Tables.below {w w' : World} (h : Tables w) (hb : Below w.heap.size w w') : Tables w' := by
  have := h.lt
  exact ⟨fun j hj => (hb.cell (p := ⟨1, j, none⟩) this).trans (h.1 j hj), range_below h.2 hb (by omega)⟩
def zero64 : List UInt8 := List.replicate 64 0
def zeroCells : List Value := cellsOf (List.replicate 8 0) zero64 0 zero64 (List.replicate 64 0)
def freshCells : List Value := cellsOf ini.list zero64 0 zero64 (List.replicate 64 0)
theorem zero_info : (Tryd.prog.info? 45).map (fun i => (i.zero, i.size)) = some (some (.agg zeroCells.toArray), 201) := by kernel_rfl
theorem built_fresh : Tryd.prog.built 45 [(0, .agg (wc ini.list).toArray)] = some freshCells.toArray := by kernel_rfl
theorem joined_len (ps : List Part) (h : ∀ p ∈ ps, p.l.length = p.n) : (joined ps).length = total ps := by
  induction ps with
  | nil => rfl
  | cons p r ih =>
    rw [joined, total, List.length_append, h p (List.mem_cons_self ..), ih (fun q hq => h q (List.mem_cons_of_mem _ hq))]
theorem joined_next2 (ps : List Part) (j : Nat) (h : j < ps.length) : joined (ps.take (j + 1)) = joined (ps.take j) ++ ps[j].l := joined_next ps j h
theorem Summer.fresh {w : World} {g : Nat} (h : Row w g 45 freshCells) : Summer w g [] :=
  ⟨zero64, zero64, rfl, rfl, rfl, by
    have e : sched zero64 64 = List.replicate 64 0 := sched_nought
    rw [e]
    exact h⟩

set_option maxHeartbeats 2000000 in
theorem shasum_any (A : Option Addr) (n cap : Nat) (ps : List Part) (w : World) (hs : LaidAt w w.heap.size A n ps) (ht : Tables w) (hn : n ≤ 1000000) (hsm : total ps ≤ 10000000000000) :
    Calls Tryd.prog 10 #[.slice A n cap] w fun e w' => e = .returned (.agg (bc (sha (joined ps))).toArray) ∧ Below w.heap.size w w' := by
  obtain ⟨S, hS⟩ : ∃ S, sha (joined ps) = S := ⟨_, rfl⟩
  obtain ⟨ZS, hZS⟩ : ∃ x, zeroCells.toArray = x := ⟨_, rfl⟩
  obtain ⟨IS, hIS⟩ : ∃ x, wc ini.list = x := ⟨_, rfl⟩
  obtain ⟨CS, hCS⟩ : ∃ x, freshCells = x := ⟨_, rfl⟩
  have hzi := zero_info
  have hbu := built_fresh
  have hr0 : w.rangeAt 0 0 (wc ini.list) := ht.2
  have hil : (Tryd.prog.info? 39).map (·.size) = some (wc ini.list).length := by kernel_rfl
  rw [hZS] at hzi
  rw [hIS] at hbu hr0 hil
  rw [hCS] at hbu
  rw [hS]
  obtain ⟨hz, hz2⟩ := zero_of_info hzi
  have hcsl : CS.toArray.size = 201 := by rw [← hCS]; decide +kernel
  have hzsl : ZS.size = 201 := by rw [← hZS]; decide +kernel
  have hone : CS.toArray.all (·.oneCell') = true := by rw [← hCS]; decide +kernel
  have HBU := Lib.hid (show (Tryd.prog.built 45 [(0, .agg IS.toArray)]).isSome = true by rw [hbu]; rfl)
  have HBV := Lib.hid (show (Tryd.prog.built 45 [(0, .agg IS.toArray)]).getD #[] = CS.toArray by rw [hbu]; rfl)
  have HR0 := Lib.hid hr0
  have HIL := Lib.hid hil
  have HZ2 := Lib.hid (show (Tryd.prog.info? 45).map (·.size) = some ((Tryd.prog.built 45 [(0, .agg IS.toArray)]).getD #[]).size by rw [hz2, hbu]; exact congrArg some hcsl.symm)
  have HZS := Lib.hid (show ZS.size = ((Tryd.prog.built 45 [(0, .agg IS.toArray)]).getD #[]).size by rw [hzsl, hbu]; exact hcsl.symm)
  have HONE := Lib.hid (show ((Tryd.prog.built 45 [(0, .agg IS.toArray)]).getD #[]).all (·.oneCell') = true by rw [hbu]; exact hone)
  have HCS := Lib.hid hCS
  have HS := Lib.hid hS
  have HT := Lib.hid ht
  have HP := Lib.hid hs
  have HTL := Lib.hid ht.lt
  clear hS hZS hIS hCS hzi hbu hr0 hil hz2 hcsl hzsl hone ht hs
  go_enter Tryd.func10, Tryd.ntmps10
  go_wp2_with (first
    | (refine wpList_load_mid rfl _ _ rfl 0 0 rfl IS _ (World.rangeAt_alloc HR0.out _) Tryd.underlying39 rfl HIL.out (wpList_build rfl 45 #[(0, .tmp 6)] rfl ?_ ?_); (focus (go_simp; exact HBU.out)))
    | (refine wpList_store_row rfl _ _ _ rfl (w.heap.size + 1) _ rfl rfl 45 ZS (heap_alloc2_new w _ _) HZ2.out HZS.out HONE.out ?_))
  have HBV2 := HBV
  go_loopw [5, 10] (fun _ i wr => ∃ j : Nat, j ≤ n ∧ i = .int .i64 j ∧ Summer wr (w.heap.size + 1) (joined (ps.take j)) ∧ Row wr w.heap.size 24 (bc (List.replicate 32 0)) ∧ Below w.heap.size w wr ∧ w.heap.size + 1 < wr.heap.size) (fun _ i _ => n - (intOf i).toNat)
  case atStart =>
    rw [HBV2.out]
    refine ⟨0, Nat.zero_le _, rfl, ?_, ?_, ?_, ?_⟩
    · refine Summer.fresh ?_
      rw [HCS.out]
      exact setRow_heap _ _ _ _ _ _ (heap_alloc2_new w _ _)
    · refine (setRow_other _ _ _ _ (by omega)).trans ?_
      exact (Row.new w 24 (bc (List.replicate 32 0))).alloc _
    · exact below_setRow (below_new (below_new (Below.refl _ _) _) _) (by omega) _
    · simp
  case round =>
    clear HBV2 HBV
    obtain ⟨j, hj, rfl, s1, r0, hb, hlt⟩ := hrel
    have HP2 := HP.out
    have hpl : ∀ p ∈ ps, p.l.length = p.n := fun p hp => (HP2.each p hp).len
    by_cases hjn : j < n
    · obtain ⟨g, o, rfl, hg, hc⟩ := HP2.spot (by omega)
      have hjl : j < ps.length := by have := HP2.len; omega
      have hcj : wr.cell? ⟨g, o + j, none⟩ = _ := (hb.cell (p := ⟨g, o + j, none⟩) hg).trans (hc j hjl)
      have hsh := (HP2.each ps[j] (List.getElem_mem hjl))
      have HJ := Lib.hid (joined_next ps j hjl)
      have h1 := total_next ps j hjl
      have h2 := total_le ps (j + 1)
      have h3 := total_le ps j
      have h4 : (joined (ps.take j)).length = total (ps.take j) := joined_len _ fun p hp => hpl p (List.mem_of_mem_take hp)
      generalize ps[j] = p at hcj hsh HJ h1
      obtain ⟨pA, pn, pc, pl⟩ := p
      simp only at hcj hsh HJ h1
      have hT := HT.out.below hb
      have hne : ∀ a, pA = some a → 0 < pn → a.block ≠ w.heap.size + 1 := fun a ha hp => by
        obtain ⟨g2, o2, e2, hg2, _⟩ := hsh.spot hp
        rw [ha] at e2
        injection e2 with e2
        rw [e2]
        show g2 ≠ _
        omega
      have TK := take_any (w.heap.size + 1) (joined (ps.take j)) pl pA pn pc wr s1 ((hsh.below hb).more hb.size) hne hT.1 (by have := HTL.out; omega) (by omega)
      have HTK := Lib.hid TK
      have R0 := Lib.hid r0
      clear TK s1 r0 h1 h2 h3 h4 hsh hne hT hpl HP2 hc
      go_wp2_with fail
      refine HTK.out.mono ?_
      rintro _ W2 ⟨rfl, s2, g2⟩
      have b2 : Below w.heap.size w W2 := hb.grown g2 hb.size (by intro k hk; injection hk; omega)
      have r2 := R0.out.grown g2 (by omega)
      have hl2 : w.heap.size + 1 < W2.heap.size := Nat.lt_of_lt_of_le hlt g2.size
      rw [← HJ.out] at s2
      have S2 := Lib.hid s2
      have R2 := Lib.hid r2
      clear s2 r2 g2
      go_wp2
      go_roundw
      case rel => exact ⟨j + 1, by omega, by go_num, S2.out, R2.out, b2, hl2⟩
      case measure => simp [intOf]; omega
    · have hj2 : j = n := by omega
      have hjl : ps.take j = ps := List.take_of_length_le (by have := HP2.len; omega)
      rw [hjl] at s1
      have hl : (joined ps).length ≤ 100000000000000 := by rw [joined_len ps hpl]; omega
      have EN := end_any (w.heap.size + 1) (joined ps) wr s1 (HT.out.below hb).1 (by have := HTL.out; omega) hl
      rw [HS.out] at EN
      have HEN := Lib.hid EN
      have HSL := Lib.hid (show S.length = 32 by rw [← HS.out, sha_len])
      have R0 := Lib.hid r0
      clear EN s1 r0 hl hj2 hjl hpl HP2 hj
      go_wp2_with fail
      refine HEN.out.mono ?_
      rintro _ W2 ⟨rfl, g2⟩
      have b2 : Below w.heap.size w W2 := hb.grown g2 hb.size (by intro k hk; injection hk; omega)
      have r2 := R0.out.grown g2 (by omega)
      have HIH := Lib.hid (show (Tryd.prog.info? 24).map (·.size) = some (bc S).toArray.size by
        rw [List.size_toArray, bc_len, HSL.out]
        kernel_rfl)
      have HS0 := Lib.hid (show (bc (List.replicate 32 0)).toArray.size = (bc S).toArray.size by simp [bc_len, HSL.out])
      have HO := Lib.hid (all_oneCell_toArray (bc_one S))
      go_wp2_with (refine wpList_store_row rfl _ _ _ rfl w.heap.size _ rfl rfl _ _ r2 HIH.out HS0.out HO.out ?_)
      refine bodyPost_ret (v := .agg (bc S).toArray) ?_ rfl ⟨rfl, below_setRow b2 (Nat.le_refl _) _⟩
      exact results_cell_row rfl _ _ w.heap.size 24 _ (0, 0) _ rfl (setRow_heap W2 _ _ _ _ _ r2) Tryd.underlying24 rfl HIH.out
end Go.Proofs.YtkclbhmjhjfgiaaDoor
