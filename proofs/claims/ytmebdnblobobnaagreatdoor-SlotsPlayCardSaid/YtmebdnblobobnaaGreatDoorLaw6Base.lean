/- What chapter 6's laws share: their known example, a number taken within a bound, an entry that is booted. -/
import Derived.Test.YtmebdnblobobnaaGreatDoorSlTurn
namespace Go.Proofs.YtmebdnblobobnaaGreatDoor
set_option maxRecDepth 100000
open Go.RowKit _root_.Go.Proofs.YtmebdnblobobnaaGreatDoor.Wd _root_.Go.Proofs.YtmebdnblobobnaaGreatDoor.Nm _root_.Go.Proofs.YtmebdnblobobnaaGreatDoor.Cm _root_.Go.Proofs.YtmebdnblobobnaaGreatDoor.Fm _root_.Go.Proofs.YtmebdnblobobnaaGreatDoor.Sm

theorem within6_any (x n : Int) (w : World) (hn : 0 < n) (hm : n ≤ 1000000) :
    Calls Tryz.prog 15 #[.int .i64 x, .int .i64 n] w fun e w' => e = .returned (.int .i64 (x % n)) ∧ w = w' := by
  have hf := tmod_fix x n hn
  have HF := Lib.hid hf
  have hlo : -n < x.tmod n := Int.lt_tmod_of_pos x hn
  have hhi : x.tmod n < n := Int.tmod_lt_of_pos x hn
  clear hf
  by_cases hs : x.tmod n < 0
  · go_enter Tryz.func15, Tryz.ntmps15
    go_wp2
    go_ret
    exact ⟨ret_int4 (by rw [← HF.out, if_pos hs]), rfl⟩
  · go_enter Tryz.func15, Tryz.ntmps15
    go_wp2
    go_ret
    exact ⟨ret_int4 (by rw [← HF.out, if_neg (by omega)]), rfl⟩
section
variable {P : Program}
theorem wpList_build_is_g {ops : Array Oper} {rest : List Oper} {o : Oper} {a : Act} {w : World} {Q : Exit → Act → World → Prop} (hgd : Region.wanted o (yielded ops a.tmps) = true) (t : TypeId) (parts : Array (Nat × Operand)) (ho : o.op = .build t parts) (cells : Array Value)
    (hb : P.built t (parts.map fun (i, x) => (i, a.eval x)).toList = some cells) (h : wpList P ops Q rest (a.put o.dst (.agg cells)) w) : wpList P ops Q (o :: rest) a w :=
  wpList_step fun K hK => by
    rw [if_pos hgd]
    exact wp_build t parts ho (by rw [hb]; rfl) (by rw [hb]; exact hK _ _ h)
end
/-- A sum that is nought but for its first byte. -/
def oneB (c : UInt8) : List UInt8 := c :: List.replicate 31 0
theorem oneB_len (c : UInt8) : (oneB c).length = 32 := by simp [oneB]
theorem oneB_built (c : UInt8) (z : Int) (h : (c.toNat : Int) = z) : Tryz.prog.built 39 [(0, .int .u8 z)] = some (bc (oneB c)).toArray := by
  subst h
  kernel_rfl
theorem noneB_built : Tryz.prog.built 39 [] = some (bc (List.replicate 32 0)).toArray := by kernel_rfl
theorem plM_nil {m : Mem} (h : allE m = []) : plM m = [] := by
  have := plM_es m
  rw [h] at this
  exact List.map_eq_nil_iff.1 this
theorem boot_fresh : bootM Mem.fresh = (⟨0, 2, List.replicate 32 0⟩, []) := bootM_none _ (by rw [plM_nil (by rw [two_fresh.all]; rfl)]; rfl)
theorem bootM_sum (m : Mem) : (bootM m).1.sum.length = 32 := by
  by_cases h : (plM m).filter (fun p => countsM m p.e) = []
  · rw [bootM_none m h]; rfl
  · rw [bootM_some m h]
    have hm := newest_mem _ h
    exact (plM_in m _ (List.mem_filter.1 hm).1).2.2.1
theorem hash_eql2 (a b : List UInt8) (ha : a.length = 32) (hb : b.length = 32) (W : World) : (binOp .eql 39 (.agg (bc a).toArray) (.agg (bc b).toArray)).run Tryz.prog W = .ok (.bool (decide (a = b))) W :=
  run_eql_bytes (P := Tryz.prog) W 39 5 32 Tryz.underlying39 Tryz.underlying5 (by kernel_rfl) a b ha hb
theorem hash_size (cs : List Value) (h : cs.length = 32) : (Tryz.prog.info? 39).map (·.size) = some cs.length := by rw [h]; kernel_rfl
theorem row_sum {w : World} {g : Nat} {T : TypeId} {e : Ent} (h : Row w g T e.cells) : w.rangeAt g 2 (bc e.sum) := h.range 2 _ (fun j v hv => by rw [Nat.add_comm 2 j]; exact hv)

set_option maxHeartbeats 4000000 in
theorem known6_any (w : World) (ht : Tables w) : Calls Tryz.prog 5 #[] w fun e w' => e = .returned (.bool true) ∧ Below w.heap.size w w' := by
  obtain ⟨m1, t1, n1, hm, _, hM, hk, hn1⟩ := (marked_fresh (fun i => ⟨i, 2, oneB 1⟩)).mark (by decide) 2 (by decide) (by decide) (oneB 1) (oneB_len 1) rfl
  have hk1 : 16 * t1 + n1 = 1 := by omega
  have hbm : bootM m1 = (⟨1, 2, oneB 1⟩, []) := by
    have := hM.boot hn1 (by rw [hk1]; rfl)
    rw [hk1] at this
    rw [this]
    rfl
  have HM := Lib.hid (And.intro hm hbm)
  obtain ⟨Z, hzl, hz0, hz⟩ := sent_zero
  have HZ := Lib.hid (And.intro hz (And.intro hzl ht))
  obtain ⟨C1, hC1⟩ : ∃ C, Ent.cells ⟨0, 2, List.replicate 32 0⟩ = C := ⟨_, rfl⟩
  obtain ⟨C2, hC2⟩ : ∃ C, Ent.cells ⟨1, 2, oneB 1⟩ = C := ⟨_, rfl⟩
  obtain ⟨BS, hBS⟩ : ∃ C, bc (oneB 1) = C := ⟨_, rfl⟩
  have hl1 : C1.length = 34 := by rw [← hC1]; exact ent_len _ rfl
  have hl2 : C2.length = 34 := by rw [← hC2]; exact ent_len _ (oneB_len 1)
  have ho1 : ∀ v ∈ C1, v.oneCell' = true := by rw [← hC1]; exact sent_one _
  have ho2 : ∀ v ∈ C2, v.oneCell' = true := by rw [← hC2]; exact sent_one _
  have hr2 : ∀ j v, BS[j]? = some v → C2[2 + j]? = some v := fun j v hv => by rw [← hC2, Nat.add_comm 2 j]; rw [← hBS] at hv; exact hv
  have hc1 : C1[0]? = some (.int .i64 0) ∧ C1[1]? = some (.int .i64 2) := by rw [← hC1]; exact ⟨rfl, rfl⟩
  have hc2 : C2[0]? = some (.int .i64 1) := by rw [← hC2]; rfl
  have hbu := oneB_built 1 1 rfl
  have heq := hash_eql2 (oneB 1) (oneB 1) (oneB_len 1) (oneB_len 1)
  rw [decide_eq_true rfl, hBS] at heq
  rw [hBS] at hbu
  have hbl : BS.length = 32 := by rw [← hBS, bc_len]; exact oneB_len 1
  have H1 := Lib.hid (And.intro hl1 (And.intro hl2 (And.intro ho1 (And.intro ho2 (And.intro hr2 (And.intro hc1 (And.intro hc2 (And.intro hbu (And.intro hbl (And.intro hC1 (And.intro hC2 hBS)))))))))))
  have HEQ := Lib.hid heq
  clear hm hM hk hn1 hk1 hbm hz hzl hz0 ht hC1 hC2 hBS hl1 hl2 ho1 ho2 hr2 hc1 hc2 hbu heq hbl
  go_enter Tryz.func5, Tryz.ntmps5
  go_wp2_with fail
  (with_reducible refine (new_any _).mono ?_)
  rintro _ w1 ⟨rfl, hf, hb⟩
  obtain ⟨g, hg⟩ : ∃ g, w.heap.size = g := ⟨_, rfl⟩
  have HBO := Lib.hid (boot_any w.heap.size Mem.fresh w1 hf (HZ.out.2.2.below hb))
  rw [hg] at hf HBO
  have HW := Lib.hid (And.intro hf (And.intro hb hg))
  rw [hg]
  clear hf hb hg
  go_wp2_with fail
  refine HBO.out.mono ?_
  rintro _ w2 ⟨A2, n2, c2, rfl, hs2, hb2, _⟩
  have hn2 : n2 = 0 := by have := hs2.len; rw [boot_fresh] at this; exact this.symm
  subst hn2
  rw [boot_fresh]
  simp only
  rw [H1.out.2.2.2.2.2.2.2.2.2.1]
  have HB2 := Lib.hid hb2
  have HI1 := Lib.hid (sent_size C1 H1.out.1)
  have HZL := Lib.hid (show Z.length = C1.length by rw [HZ.out.2.1, H1.out.1])
  clear hs2 hb2 HBO
  go_wp2_with (refine wpList_alloc_row rfl 45 rfl Z HZ.out.1 ?_)
  intro w3 hrow3 hb3 hsz3
  go_wp2_with (refine wpList_store_as rfl _ _ _ rfl w2.heap.size C1 rfl rfl 45 Z hrow3 HI1.out HZL.out H1.out.2.2.1 ?_)
  intro w4 hrow4 hoth4 hg4 hsz4
  have hb24 : Below w2.heap.size w2 w4 := step_grow hb3 hg4 (Nat.le_refl _)
  have hb14 : Below w1.heap.size w1 w4 := step_below HB2.out hb24
  obtain ⟨E1, hE1⟩ : ∃ E, w2.heap.size = E := ⟨_, rfl⟩
  rw [hE1] at hrow4 ⊢
  have HMK := Lib.hid (mark_any g Mem.fresh 2 (oneB 1) w4 (HW.out.1.below hb14) (oneB_len 1) (by decide) (by decide))
  rw [HM.out.1, H1.out.2.2.2.2.2.2.2.2.2.2.2] at HMK
  have H4 := Lib.hid (And.intro hrow4 hb14)
  clear hrow3 hb3 hsz3 hrow4 hoth4 hg4 hsz4 hb24 hb14 hE1 HZL HB2
  go_wp2_with (first
    | (refine wpList_build_is rfl 39 #[(0, .const (.int .u8 1))] rfl BS.toArray ?_ ?_; (focus (go_simp; exact H1.out.2.2.2.2.2.2.2.1))))
  refine HMK.out.mono ?_
  rintro _ w5 ⟨rfl, hf5, hg5⟩
  have hne : E1 ≠ g := fun e => by
    obtain ⟨A1, n1, c1, hr, _⟩ := (HW.out.1.below H4.out.2).spot
    have h1 := H4.out.1
    rw [e] at h1
    unfold Row at h1 hr
    rw [h1] at hr
    injection hr with hr
    injection hr with _ h2 _
    exact absurd h2 (by decide)
  have hr5 : Row w5 E1 45 C1 := (hg5.block E1 H4.out.1.lt (by simp; exact hne)).trans H4.out.1
  have hb5 : Below w.heap.size w w5 := step_grow (step_below HW.out.2.1 H4.out.2) hg5 (by rw [HW.out.2.2]; exact Nat.le_refl _)
  have HBO := Lib.hid (boot_any g m1 w5 hf5 (HZ.out.2.2.below hb5))
  have H5 := Lib.hid (And.intro hr5 hb5)
  clear hf5 hg5 hne hr5 hb5 HMK H4
  go_wp2_with fail
  refine HBO.out.mono ?_
  rintro _ w6 ⟨A6, n6, c6, rfl, _, hb6, _⟩
  rw [HM.out.2]
  simp only
  rw [H1.out.2.2.2.2.2.2.2.2.2.2.1]
  have HI2 := Lib.hid (sent_size C2 H1.out.2.1)
  have HZL := Lib.hid (show Z.length = C2.length by rw [HZ.out.2.1, H1.out.2.1])
  have H6 := Lib.hid (And.intro (H5.out.1.below hb6 H5.out.1.lt) (step_below H5.out.2 hb6))
  clear hb6 HBO H5
  go_wp2_with (refine wpList_alloc_row rfl 45 rfl Z HZ.out.1 ?_)
  intro w7 hrow7 hb7 hsz7
  go_wp2_with (refine wpList_store_as rfl _ _ _ rfl w6.heap.size C2 rfl rfl 45 Z hrow7 HI2.out HZL.out H1.out.2.2.2.1 ?_)
  intro w8 hrow8 hoth8 hg8 hsz8
  have hb68 : Below w6.heap.size w6 w8 := step_grow hb7 hg8 (Nat.le_refl _)
  have hr1 := H6.out.1.below hb68 H6.out.1.lt
  have hb8 : Below w.heap.size w w8 := step_below H6.out.2 hb68
  obtain ⟨E2, hE2⟩ : ∃ E, w6.heap.size = E := ⟨_, rfl⟩
  rw [hE2] at hrow8 ⊢
  have k0 := hr1.cell H1.out.2.2.2.2.2.1.1
  have k1 := hr1.cell H1.out.2.2.2.2.2.1.2
  have k2 := hrow8.cell H1.out.2.2.2.2.2.2.1
  have HR2 := Lib.hid (hrow8.range 2 BS H1.out.2.2.2.2.1)
  have H8 := Lib.hid hb8
  have HIB := Lib.hid (hash_size BS H1.out.2.2.2.2.2.2.2.2.1)
  have heq := HEQ.out
  clear hrow7 hb7 hsz7 hrow8 hoth8 hg8 hsz8 hb68 hr1 hb8 hE2 H6
  go_wp2_with (first
    | (refine wpList_load_mid_g rfl 39 (.tmp 44) rfl E2 2 rfl BS _ HR2.out Tryz.underlying39 rfl HIB.out ?_)
    | (refine wpList_build_is_g rfl 39 #[(0, .const (.int .u8 1))] rfl BS.toArray ?_ ?_; (focus (go_simp; exact H1.out.2.2.2.2.2.2.2.1))))
  go_ret
  exact ⟨rfl, H8.out⟩
end Go.Proofs.YtmebdnblobobnaaGreatDoor
