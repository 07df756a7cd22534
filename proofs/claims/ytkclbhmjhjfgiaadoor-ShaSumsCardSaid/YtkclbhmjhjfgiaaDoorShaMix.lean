/- Contract for package sha's mix: the rounds over the words, added to the state. -/
import Derived.Test.YtkclbhmjhjfgiaaDoorShaSpread
import Derived.Deep.DeepCutAuto
import Derived.Deep.CutRange
import Derived.Deep.CutBlock
namespace Go.Proofs.YtkclbhmjhjfgiaaDoor
open Go.RowKit Wd Nm Cm Sm

/-- The summer's struct in its block. -/
def cellsOf (s : List (BitVec 32)) (o : List UInt8) (n : Int) (l : List UInt8) (ws : List (BitVec 32)) : List Value := wc s ++ bc o ++ [.int .i64 n] ++ bc l ++ wc ws
theorem tn_of (x : Int) (c : BitVec 32) (h : tn c = x) : Value.int .u32 x = .int .u32 (tn c) := by rw [h]
/-- The table of steps in its block. -/
def StepsAt (w : World) : Prop := ∀ j, j < 64 → w.cell? ⟨1, j, none⟩ = some (.int .u32 (tn (ks.getD j 0)))

theorem St.list_len (s : St) : s.list.length = 8 := rfl
theorem cellsOf_set (s : List (BitVec 32)) (o : List UInt8) (n : Int) (l : List UInt8) (ws : List (BitVec 32)) (j : Nat) (h : j < s.length) (c : BitVec 32) :
    (cellsOf s o n l ws).set j (.int .u32 (tn c)) = cellsOf (s.set j c) o n l ws := by
  unfold cellsOf
  rw [List.set_append_left _ _ (by simp [wc_len]; omega), List.set_append_left _ _ (by simp [wc_len]; omega), List.set_append_left _ _ (by simp [wc_len]; omega), List.set_append_left _ _ (by simp [wc_len]; omega), wc_set]
theorem cellsOf_get (s : List (BitVec 32)) (o : List UInt8) (n : Int) (l : List UInt8) (ws : List (BitVec 32)) (j : Nat) (h : j < s.length) : (cellsOf s o n l ws)[j]? = some (.int .u32 (tn (s.getD j 0))) := by
  unfold cellsOf
  rw [List.getElem?_append_left (by simp [wc_len]; omega), List.getElem?_append_left (by simp [wc_len]; omega), List.getElem?_append_left (by simp [wc_len]; omega), List.getElem?_append_left (by simp [wc_len]; omega), wc_get _ _ h]
theorem upto_set (A B : List (BitVec 32)) (j : Nat) (hA : A.length = 8) (hB : B.length = 8) (h : j < 8) : (A.take j ++ B.drop j).set j (A.getD j 0) = A.take (j + 1) ++ B.drop (j + 1) := by
  rw [List.set_append_right _ _ (by simp; omega), List.drop_eq_getElem_cons (show j < B.length by omega)]
  simp only [List.length_take, hA, Nat.min_eq_left (Nat.le_of_lt h), Nat.sub_self, List.set_cons_zero]
  rw [List.take_succ_eq_append_getElem (show j < A.length by omega), List.append_assoc, List.getD_eq_getElem?_getD, List.getElem?_eq_getElem (show j < A.length by omega)]
  rfl
theorem upto_get (A B : List (BitVec 32)) (j : Nat) (hA : A.length = 8) (h : j < 8) : (A.take j ++ B.drop j).getD j 0 = B.getD j 0 := by
  rw [List.getD_eq_getElem?_getD, List.getElem?_append_right (by simp; omega), List.length_take, hA, Nat.min_eq_left (Nat.le_of_lt h), Nat.sub_self, List.getElem?_drop, List.getD_eq_getElem?_getD]
  rfl
theorem plus_get (s t : St) (j : Nat) : (s.plus t).list.getD j 0 = s.list.getD j 0 + t.list.getD j 0 := by
  match j with
  | 0 | 1 | 2 | 3 | 4 | 5 | 6 | 7 => rfl
  | n + 8 => simp [St.list, List.getD]
theorem grow_set {w w' : World} {g : Nat} (h : w.grownBy w' (some g)) (i : Nat) (v : Value) : w.grownBy (w'.setCell ⟨g, i, none⟩ v) (some g) :=
  ⟨h.os, h.tape, h.output, by simpa using h.size, fun k hk hne => (heap_setCell_other w' _ k v (fun e => hne (by rw [e]))).trans (h.block k hk hne)⟩

theorem step_x (s : St) (kk wk : BitVec 32) : (tn s.h + bits BinOp.xor IntKind.u32 (bits BinOp.xor IntKind.u32 (tn (ror s.e 6)) (tn (ror s.e 11))) (tn (ror s.e 25)) +
    bits BinOp.xor IntKind.u32 (bits BinOp.and IntKind.u32 (tn s.e) (tn s.f)) (bits BinOp.and IntKind.u32 (bits BinOp.xor IntKind.u32 IntKind.u32.max (tn s.e)) (tn s.g)) + tn kk + tn wk) % 4294967296 = tn (s.x kk wk) := by
  rw [u32_not]
  simp only [u32_xor, u32_and]
  rw [u32_add5]
  rfl
theorem step_y (s : St) : (bits BinOp.xor IntKind.u32 (bits BinOp.xor IntKind.u32 (tn (ror s.a 2)) (tn (ror s.a 13))) (tn (ror s.a 22)) +
    bits BinOp.xor IntKind.u32 (bits BinOp.xor IntKind.u32 (bits BinOp.and IntKind.u32 (tn s.a) (tn s.b)) (bits BinOp.and IntKind.u32 (tn s.a) (tn s.c))) (bits BinOp.and IntKind.u32 (tn s.b) (tn s.c))) % 4294967296 = tn s.y := by
  simp only [u32_xor, u32_and]
  rw [u32_add]
  rfl

set_option maxRecDepth 4000 in
set_option maxHeartbeats 4000000 in
theorem mix_any (g : Nat) (st : St) (o l : List UInt8) (n : Int) (ws : List (BitVec 32)) (w : World) (ho : o.length = 64) (hl : l.length = 64) (hw : ws.length = 64)
    (hr : Row w g 45 (cellsOf st.list o n l ws)) (hk : StepsAt w) :
    Calls Tryd.prog 21 #[.pointer (some ⟨g, 0, none⟩)] w fun e w' => e = .returned (.tuple #[]) ∧ Row w' g 45 (cellsOf (st.plus (rounds ws st 64)).list o n l ws) ∧ w.grownBy w' (some g) := by
  obtain ⟨N, hN⟩ : ∃ N, 64 = N := ⟨_, rfl⟩
  obtain ⟨F, hF⟩ : ∃ F, (st.plus (rounds ws st N)).list = F := ⟨_, rfl⟩
  rw [show rounds ws st 64 = rounds ws st N by rw [hN], hF]
  have HF := Lib.hid hF
  have HN := Lib.hid hN
  clear hF hN
  have q0 : w.cell? ⟨g, 0, none⟩ = some (.int .u32 (tn st.a)) := hr.cell rfl
  have q1 : w.cell? ⟨g, 1, none⟩ = some (.int .u32 (tn st.b)) := hr.cell rfl
  have q2 : w.cell? ⟨g, 2, none⟩ = some (.int .u32 (tn st.c)) := hr.cell rfl
  have q3 : w.cell? ⟨g, 3, none⟩ = some (.int .u32 (tn st.d)) := hr.cell rfl
  have q4 : w.cell? ⟨g, 4, none⟩ = some (.int .u32 (tn st.e)) := hr.cell rfl
  have q5 : w.cell? ⟨g, 5, none⟩ = some (.int .u32 (tn st.f)) := hr.cell rfl
  have q6 : w.cell? ⟨g, 6, none⟩ = some (.int .u32 (tn st.g)) := hr.cell rfl
  have q7 : w.cell? ⟨g, 7, none⟩ = some (.int .u32 (tn st.h)) := hr.cell rfl
  have HR := Lib.hid hr
  clear hr
  go_enter Tryd.func21, Tryd.ntmps21
  go_wp2_with fail
  go_quiet (fail)
  have hw2 : Hid (w.rangeAt g 137 (wc ws)) := HR.out.range 137 (wc ws) (fun j v hj => by
    unfold cellsOf
    rw [List.getElem?_append_right (by simp [wc_len, bc_len, St.list, ho, hl])]
    simpa [wc_len, bc_len, St.list, ho, hl] using hj)
  have hi : Hid ((Tryd.prog.info? 43).map (·.size) = some (wc ws).length) := by
    rw [wc_len, hw]
    exact Lib.hid (by kernel_rfl)
  clear q0 q1 q2 q3 q4 q5 q6 q7
  go_wp2_with (refine wpList_load_mid rfl _ _ rfl g 137 rfl (wc ws) _ (show World.rangeAt (w.drewN nq) g 137 (wc ws) from hw2.out) Tryd.underlying43 rfl hi.out ?_)
  go_loopw [2, 3, 4, 5, 6, 7, 8, 9, 10, 11, 12, 13, 60] (fun a b c d e f g h _ _ _ _ i wr => ∃ k : Nat, k ≤ 64 ∧ i = .int .i64 k ∧ (∃ q, wr = w.drewN q) ∧
    a = .int .u32 (tn (rounds ws st k).a) ∧ b = .int .u32 (tn (rounds ws st k).b) ∧ c = .int .u32 (tn (rounds ws st k).c) ∧ d = .int .u32 (tn (rounds ws st k).d) ∧
    e = .int .u32 (tn (rounds ws st k).e) ∧ f = .int .u32 (tn (rounds ws st k).f) ∧ g = .int .u32 (tn (rounds ws st k).g) ∧ h = .int .u32 (tn (rounds ws st k).h)) (fun _ _ _ _ _ _ _ _ _ _ _ _ i _ => 64 - (intOf i).toNat)
  case atStart => exact ⟨0, by omega, rfl, ⟨nq, rfl⟩, rfl, rfl, rfl, rfl, rfl, rfl, rfl, rfl⟩
  case round =>
    clear hw2
    obtain ⟨k, hk64, rfl, hwr, rfl, rfl, rfl, rfl, rfl, rfl, rfl, rfl⟩ := hrel
    by_cases hk6 : k < 64
    · have hx : ∀ W : World, (Instr.index 43 (.agg (wc ws).toArray) (.int .i64 (k : Int))).run Tryd.prog W = .ok (.int .u32 (tn (ws.getD k 0))) W := fun W =>
        index_cell W _ _ _ 64 Tryd.underlying43 Tryd.underlying38 (by kernel_rfl) _ _ k rfl hk6 _ (wc_get ws k (by omega))
      have hc : wr.cell? ⟨1, k, none⟩ = some (.int .u32 (tn (ks.getD k 0))) := by
        obtain ⟨q, rfl⟩ := hwr
        exact hk k hk6
      have HWR := Lib.hid hwr
      clear hwr
      have HS := Lib.hid (show rounds ws st (k + 1) = (rounds ws st k).step (ks.getD k 0) (ws.getD k 0) from rfl)
      generalize rounds ws st k = s at HS ⊢
      generalize ks.getD k 0 = kk at hc HS
      generalize ws.getD k 0 = wk at hx HS
      have HK := Lib.hid hk
      clear hk
      go_upto_region 4 with fail
      go_quiet (first | (with_reducible exact rightq_6 _ _ _) | (with_reducible exact rightq_11 _ _ _) | (with_reducible exact rightq_25 _ _ _))
      go_wp2_with fail
      refine (right_2 _ _).mono ?_
      rintro _ w1 ⟨rfl, rfl⟩
      go_wp2_with fail
      refine (right_13 _ _).mono ?_
      rintro _ w1 ⟨rfl, rfl⟩
      go_wp2_with fail
      refine (right_22 _ _).mono ?_
      rintro _ w1 ⟨rfl, rfl⟩
      go_wp2
      go_roundw
      case rel =>
        refine ⟨k + 1, by omega, by go_num, ?_, ?_⟩
        · obtain ⟨q, hq⟩ := HWR.out
          exact ⟨q + nq, by rw [hq, World.drewN_drewN]⟩
        · rw [HS.out, step_x, step_y, u32_add, u32_add]
          exact ⟨rfl, rfl, rfl, rfl, rfl, rfl, rfl, rfl⟩
      case measure => simp [intOf]; omega
    · have hk2 : k = 64 := by omega
      clear hk64
      have hrow : Row wr g 45 (cellsOf st.list o n l ws) := by
        obtain ⟨q, rfl⟩ := hwr
        exact HR.out
      have hgr : w.grownBy wr (some g) := by
        obtain ⟨q, rfl⟩ := hwr
        exact ⟨rfl, rfl, rfl, Nat.le_refl _, fun _ _ _ => rfl⟩
      have hF2 := HF.out
      rw [← HN.out, ← hk2] at hF2
      clear hk2 hwr
      generalize rounds ws st k = s at hF2 ⊢
      have HF2 := Lib.hid hF2
      have HROW := Lib.hid hrow
      clear hF2 hrow HF HN HR hk hw ho hl
      go_wp2_with fail
      go_loopw [14, 15, 131] (fun _ _ i wr => ∃ j : Nat, j ≤ 8 ∧ i = .int .i64 j ∧ Row wr g 45 (cellsOf (F.take j ++ st.list.drop j) o n l ws) ∧ w.grownBy wr (some g)) (fun _ _ i _ => 8 - (intOf i).toNat)
      case atStart => exact ⟨0, by omega, rfl, HROW.out, hgr⟩
      case round =>
        clear hgr HROW
        obtain ⟨j, hj8, rfl, h1, hgr⟩ := hrel
        have hFl : F.length = 8 := by rw [← HF2.out]; rfl
        by_cases hj : j < 8
        · have hx : ∀ W : World, (Instr.index 39 (.agg #[.int .u32 (tn s.a), .int .u32 (tn s.b), .int .u32 (tn s.c), .int .u32 (tn s.d), .int .u32 (tn s.e), .int .u32 (tn s.f), .int .u32 (tn s.g), .int .u32 (tn s.h)]) (.int .i64 (j : Int))).run Tryd.prog W = .ok (.int .u32 (tn (s.list.getD j 0))) W := fun W =>
            index_cell W _ _ _ 8 Tryd.underlying39 Tryd.underlying38 (by kernel_rfl) (wc s.list) _ j rfl hj _ (wc_get s.list j hj)
          have hc := h1.cell (cellsOf_get _ o n l ws j (by simp [hFl, St.list_len]; omega))
          rw [upto_get F st.list j hFl hj] at hc
          have hf := h1.frozen j
          have hv : (tn (st.list.getD j 0) + tn (s.list.getD j 0)) % 4294967296 = tn (F.getD j 0) := by
            rw [u32_add, ← HF2.out, plus_get]
          have h2 := h1.drew.set j (.int .u32 (tn (F.getD j 0)))
          rw [cellsOf_set _ o n l ws j (by simp [hFl, St.list_len]; omega), upto_set F st.list j hFl rfl hj] at h2
          have H2 := Lib.hid h2
          generalize F.getD j 0 = fj at hv H2
          generalize st.list.getD j 0 = sj at hv hc
          generalize s.list.getD j 0 = tj at hv hx
          clear h1 h2 hFl
          go_wp2_with fail
          go_still_tail 11, (by kernel_rfl)
          change wpList _ _ _ _ _ (World.drew _)
          go_wp2
          go_roundw
          case rel => exact ⟨j + 1, by omega, by go_num, H2.out, grow_set (grow_drew hgr) _ _⟩
          case measure => simp [intOf]; omega
        · have hj2 : j = 8 := by omega
          rw [hj2, List.take_of_length_le (by omega), List.drop_eq_nil_of_le (by simp [St.list_len]), List.append_nil] at h1
          clear hj2 hj8 hFl
          go_wp2
          exact bodyPost_end (results_none rfl _ _ _) rfl ⟨rfl, h1, hgr⟩
end Go.Proofs.YtkclbhmjhjfgiaaDoor
