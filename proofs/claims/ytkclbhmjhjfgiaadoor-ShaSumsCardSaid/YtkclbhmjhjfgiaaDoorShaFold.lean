/- Contract for package sha's fold: the full block is worked into the state. -/
import Derived.Test.YtkclbhmjhjfgiaaDoorShaMix
import Derived.Test.YtkclbhmjhjfgiaaDoorArrEq
namespace Go.Proofs.YtkclbhmjhjfgiaaDoor
open Go.RowKit Wd Nm Cm Sm

theorem cellsOf_open (s : List (BitVec 32)) (o : List UInt8) (n : Int) (l : List UInt8) (ws : List (BitVec 32)) (hs : s.length = 8) (j : Nat) (v : Value) (h : (bc o)[j]? = some v) : (cellsOf s o n l ws)[8 + j]? = some v := by
  have hj : j < (bc o).length := (List.getElem?_eq_some_iff.1 h).1
  rw [bc_len] at hj
  unfold cellsOf
  rw [List.getElem?_append_left (by simp [wc_len, bc_len]; omega), List.getElem?_append_left (by simp [wc_len, bc_len]; omega), List.getElem?_append_left (by simp [wc_len, bc_len]; omega), List.getElem?_append_right (by simp [wc_len]; omega), wc_len, hs, Nat.add_sub_cancel_left, h]
theorem cellsOf_n (s : List (BitVec 32)) (o : List UInt8) (n : Int) (l : List UInt8) (ws : List (BitVec 32)) (hs : s.length = 8) (ho : o.length = 64) : (cellsOf s o n l ws)[72]? = some (.int .i64 n) := by
  unfold cellsOf
  rw [List.getElem?_append_left (by simp [wc_len, bc_len, hs, ho]; omega), List.getElem?_append_left (by simp [wc_len, bc_len, hs, ho]), List.getElem?_append_right (by simp [wc_len, bc_len, hs, ho])]
  simp [wc_len, bc_len, hs, ho]
theorem cellsOf_last (s : List (BitVec 32)) (o : List UInt8) (n : Int) (l : List UInt8) (ws : List (BitVec 32)) (hs : s.length = 8) (ho : o.length = 64) (j : Nat) (v : Value) (h : (bc l)[j]? = some v) : (cellsOf s o n l ws)[73 + j]? = some v := by
  have hj : j < (bc l).length := (List.getElem?_eq_some_iff.1 h).1
  rw [bc_len] at hj
  unfold cellsOf
  rw [List.getElem?_append_left (by simp [wc_len, bc_len, hs, ho]; omega), List.getElem?_append_right (by simp [wc_len, bc_len, hs, ho])]
  simpa [wc_len, bc_len, hs, ho] using h
theorem cellsOf_len (s : List (BitVec 32)) (o : List UInt8) (n : Int) (l : List UInt8) (ws : List (BitVec 32)) : (cellsOf s o n l ws).length = s.length + o.length + 1 + l.length + ws.length := by
  simp [cellsOf, wc_len, bc_len]
  omega
theorem splice_mid {α : Type} (A B B2 C : List α) (k : Nat) (hk : A.length = k) (h : B2.length = B.length) : splice (A ++ B ++ C) k B2 = A ++ B2 ++ C := by
  subst hk
  unfold splice
  rw [List.append_assoc, List.take_left' rfl, h]
  simp
theorem cellsOf_splice_last (s : List (BitVec 32)) (o : List UInt8) (n : Int) (l l2 : List UInt8) (ws : List (BitVec 32)) (hs : s.length = 8) (ho : o.length = 64) (h : l2.length = l.length) : splice (cellsOf s o n l ws) 73 (bc l2) = cellsOf s o n l2 ws := by
  unfold cellsOf
  exact splice_mid _ _ _ _ 73 (by simp [wc_len, bc_len, hs, ho]) (by rw [bc_len, bc_len, h])
theorem cellsOf_splice_words (s : List (BitVec 32)) (o : List UInt8) (n : Int) (l : List UInt8) (ws ws2 : List (BitVec 32)) (hs : s.length = 8) (ho : o.length = 64) (hl : l.length = 64) (h : ws2.length = ws.length) : splice (cellsOf s o n l ws) 137 (wc ws2) = cellsOf s o n l ws2 := by
  unfold cellsOf
  have := splice_mid (wc s ++ bc o ++ [.int .i64 n] ++ bc l) (wc ws) (wc ws2) [] 137 (by simp [wc_len, bc_len, hs, ho, hl]) (by rw [wc_len, wc_len, h])
  simpa using this
theorem grow_setCells {w : World} {g : Nat} : ∀ (vs : List Value) (o : Nat) (w' : World), w.grownBy w' (some g) → w.grownBy (w'.setCells g o vs) (some g)
  | [], _, _, h => h
  | v :: r, o, _, h => grow_setCells r (o + 1) _ (grow_set h o v)
theorem StepsAt.grown {w w' : World} {g : Nat} (h : StepsAt w) (hg : w.grownBy w' (some g)) (h1 : 1 < g) : StepsAt w' := fun j hj => by
  have h0 := h j hj
  have hlt : 1 < w.heap.size := block_lt_of_cell h0
  have e := hg.block 1 hlt (fun e => by injection e; omega)
  simp only [World.cell?, e]
  simpa only [World.cell?] using h0

set_option maxHeartbeats 4000000 in
theorem fold_any (g : Nat) (st : St) (o l : List UInt8) (n : Int) (w : World) (ho : o.length = 64) (hl : l.length = 64)
    (hr : Row w g 45 (cellsOf st.list o n l (sched l 64))) (hk : StepsAt w) (hg : 1 < g) :
    Calls Tryd.prog 18 #[.pointer (some ⟨g, 0, none⟩)] w fun e w' => e = .returned (.tuple #[]) ∧ Row w' g 45 (cellsOf (comp st o).list o n o (sched o 64)) ∧ w.grownBy w' (some g) := by
  obtain ⟨F, hF⟩ : ∃ F, (comp st o).list = F := ⟨_, rfl⟩
  obtain ⟨So, hSo⟩ : ∃ S, sched o 64 = S := ⟨_, rfl⟩
  obtain ⟨Sl, hSl⟩ : ∃ S, sched l 64 = S := ⟨_, rfl⟩
  have HI := Lib.hid (show (Tryd.prog.info? 41).map (·.size) = some 64 by kernel_rfl)
  have HE := Lib.hid (show (Tryd.prog.info? 5).map (·.size) = some 1 by kernel_rfl)
  rw [hF, hSo]
  rw [hSl] at hr
  have hlo : ∀ W : World, (∃ q, W = w.drewN q) → W.rangeAt g 8 (bc o) := by
    rintro W ⟨q, rfl⟩
    exact (show World.rangeAt w g 8 (bc o) from hr.range 8 _ (cellsOf_open _ _ _ _ _ rfl))
  have hll : ∀ W : World, (∃ q, W = w.drewN q) → W.rangeAt g 73 (bc l) := by
    rintro W ⟨q, rfl⟩
    exact (show World.rangeAt w g 73 (bc l) from hr.range 73 _ (cellsOf_last _ _ _ _ _ rfl ho))
  have HLO := Lib.hid hlo
  have HLL := Lib.hid hll
  clear hlo hll
  have HIO := Lib.hid (show (Tryd.prog.info? 41).map (·.size) = some (bc o).length by rw [HI.out, bc_len, ho])
  have HIL := Lib.hid (show (Tryd.prog.info? 41).map (·.size) = some (bc l).length by rw [HI.out, bc_len, hl])
  obtain ⟨b, hb⟩ : ∃ b, (!decide (o = l)) = b := ⟨_, rfl⟩
  have hne : ∀ W : World, (binOp .neq 41 (.agg (bc o).toArray) (.agg (bc l).toArray)).run Tryd.prog W = .ok (.bool b) W := fun W => by
    rw [run_neq_bytes W _ _ 64 Tryd.underlying41 Tryd.underlying5 HE.out o l ho hl, hb]
  have HO := Lib.hid ho
  have HL := Lib.hid hl
  have HF := Lib.hid hF
  have HSO := Lib.hid hSo
  have HSL := Lib.hid hSl
  have HB := Lib.hid hb
  have HR := Lib.hid hr
  have HK := Lib.hid hk
  clear ho hl hF hSo hSl hb hr hk
  go_enter Tryd.func18, Tryd.ntmps18
  go_wp2_with fail
  refine wp_region_quiet_lit (by kernel_rfl) (by kernel_rfl) ?_
  quiet_step (fail)
  quiet_step (fail)
  quiet_step (fail)
  refine quiet_load_mid rfl _ _ rfl g 8 rfl (bc o) _ HLO.out Tryd.underlying41 rfl HIO.out ?_
  quiet_step (fail)
  quiet_step (fail)
  quiet_step (fail)
  refine quiet_load_mid rfl _ _ rfl g 73 rfl (bc l) _ HLL.out Tryd.underlying41 rfl HIL.out ?_
  quiet_step (fail)
  refine wpQuiet_nil ?_
  rintro _ ⟨nq, rfl⟩
  have r0 : Row (w.drewN nq) g 45 (cellsOf st.list o n l Sl) := HR.out
  have k0 : StepsAt (w.drewN nq) := HK.out
  have g0 : w.grownBy (w.drewN nq) (some g) := ⟨rfl, rfl, rfl, Nat.le_refl _, fun _ _ _ => rfl⟩
  clear HR HLO HLL hne
  generalize w.drewN nq = W0 at r0 k0 g0 ⊢
  have R0 := Lib.hid r0
  have K0 := Lib.hid k0
  have HK0 := Lib.hid HK.out
  have RO := Lib.hid (show World.rangeAt W0 g 8 (bc o) from r0.range 8 _ (cellsOf_open _ _ _ _ _ rfl))
  have hlen : (cellsOf st.list o n l Sl).length = 201 := by rw [cellsOf_len, ← HSL.out, sched_len, HO.out, HL.out]; rfl
  have T0 := Lib.hid (show World.there W0 g 73 (bc o).toArray.size from r0.there 73 _ (by rw [hlen]; simp [bc_len, HO.out]))
  have HIS := Lib.hid (show (Tryd.prog.info? 41).map (·.size) = some (bc o).toArray.size by rw [HIO.out]; simp)
  have H1 := Lib.hid (all_oneCell_toArray (bc_one o))
  clear r0 k0 hlen
  cases b with
  | true =>
    go_wp2_with (first
      | (refine wpList_load_mid rfl _ _ rfl g 8 rfl (bc o) _ RO.out Tryd.underlying41 rfl HIO.out ?_)
      | (refine wpList_store_mid rfl _ _ _ rfl g 73 (bc o).toArray rfl rfl T0.out HIS.out H1.out ?_))
    have r1 := setCells_row g _ (bc o) 73 _ _ R0.out (by rw [cellsOf_len, ← HSL.out, sched_len, HO.out, HL.out, bc_len, HO.out, St.list_len]; decide)
    rw [cellsOf_splice_last _ _ _ _ _ _ rfl HO.out (by rw [HO.out, HL.out])] at r1
    have g1 := grow_setCells (bc o) 73 _ g0
    clear g0
    generalize W0.setCells g 73 (bc o) = W1 at r1 g1 ⊢
    have sp := spread_any g 8 o W1 HO.out (r1.range 8 _ (cellsOf_open _ _ _ _ _ rfl))
    rw [HSO.out] at sp
    refine sp.mono ?_
    clear sp
    rintro _ W2 ⟨rfl, b2⟩
    have r2 := r1.below b2 r1.lt
    have g2 := grow_trans g1 (below_grow b2 (some g)) (.inl rfl)
    clear r1 g1 b2
    have hSl : So.length = 64 := by rw [← HSO.out, sched_len]
    have T2 := Lib.hid (show World.there W2 g 137 (wc So).toArray.size from r2.there 137 _ (by rw [cellsOf_len, ← HSL.out, sched_len, HO.out]; simp [wc_len, hSl, St.list_len]))
    have HI2 := Lib.hid (show (Tryd.prog.info? 43).map (·.size) = some (wc So).toArray.size by simp only [List.size_toArray, wc_len, hSl]; kernel_rfl)
    have H2 := Lib.hid (all_oneCell_toArray (wc_one So))
    have R2 := Lib.hid r2
    have HSO2 := Lib.hid hSl
    clear r2 hSl
    go_wp2_with (refine wpList_store_mid rfl _ _ _ rfl g 137 (wc So).toArray rfl rfl T2.out HI2.out H2.out ?_)
    have r3 := setCells_row g _ (wc So) 137 _ _ R2.out (by rw [cellsOf_len, ← HSL.out, sched_len, HO.out, wc_len, HSO2.out, St.list_len]; decide)
    rw [cellsOf_splice_words _ _ _ _ _ _ rfl HO.out HO.out (by rw [HSO2.out, ← HSL.out, sched_len])] at r3
    have g3 := grow_setCells (wc So) 137 _ g2
    clear g2
    have k3 := StepsAt.grown HK0.out g3 hg
    generalize W2.setCells g 137 (wc So) = W3 at r3 g3 k3 ⊢
    refine (mix_any g st o o n So W3 HO.out HO.out HSO2.out r3 k3).mono ?_
    rintro _ W4 ⟨rfl, r4, g4⟩
    have g5 := grow_trans g3 g4 (.inl rfl)
    rw [show st.plus (rounds So st 64) = comp st o by rw [← HSO.out]; rfl, HF.out] at r4
    clear r3 g3 k3 g4
    go_wp2
    exact bodyPost_end (results_none rfl _ _ _) rfl ⟨rfl, r4, g5⟩
  | false =>
    have hol : o = l := by
      have := HB.out
      simpa using this
    subst hol
    have hSS : Sl = So := by rw [← HSO.out, ← HSL.out]
    subst hSS
    have hSl : Sl.length = 64 := by rw [← HSO.out, sched_len]
    have M := mix_any g st o o n Sl W0 HO.out HO.out hSl R0.out K0.out
    rw [show st.plus (rounds Sl st 64) = comp st o by rw [← HSO.out]; rfl, HF.out] at M
    clear hSl
    go_wp2_with fail
    refine M.mono ?_
    clear M
    rintro _ W4 ⟨rfl, r4, g4⟩
    have g5 := grow_trans g0 g4 (.inl rfl)
    go_wp2
    exact bodyPost_end (results_none rfl _ _ _) rfl ⟨rfl, r4, g5⟩
end Go.Proofs.YtkclbhmjhjfgiaaDoor
