/- Chapter 6's laws: how many pages are blank; pages that entries have filled. -/
import Derived.Test.YtnbahpcajnjieaaDoorLaw6Base
namespace Go.Proofs.YtnbahpcajnjieaaDoor
set_option maxRecDepth 100000
open Go.RowKit _root_.Go.Proofs.YtnbahpcajnjieaaDoor.Wd _root_.Go.Proofs.YtnbahpcajnjieaaDoor.Nm _root_.Go.Proofs.YtnbahpcajnjieaaDoor.Cm _root_.Go.Proofs.YtnbahpcajnjieaaDoor.Fm _root_.Go.Proofs.YtnbahpcajnjieaaDoor.Sm

def allTo (L : List UInt8) (p i : Nat) : Bool := (List.range i).all fun j => L.getD (16 * p + j) 0 == 255
theorem allTo_next (L : List UInt8) (p i : Nat) : allTo L p (i + 1) = (allTo L p i && (L.getD (16 * p + i) 0 == 255)) := by
  unfold allTo
  rw [List.range_succ, List.all_append]
  simp
def cntTo (L : List UInt8) : Nat → Nat
  | 0 => 0
  | p + 1 => cntTo L p + (if allTo L p 16 = true then 1 else 0)
theorem cntTo_le (L : List UInt8) : ∀ p, cntTo L p ≤ p
  | 0 => Nat.le_refl _
  | p + 1 => by
    have := cntTo_le L p
    unfold cntTo
    split <;> omega
theorem cntTo_mid (L : List UInt8) (k : Nat) (h1 : ∀ p, p < k → allTo L p 16 = false) (h2 : ∀ p, k ≤ p → p < 64 → allTo L p 16 = true) : ∀ p, p ≤ 64 → cntTo L p = p - k
  | 0, _ => by simp [cntTo]
  | p + 1, hp => by
    have ih := cntTo_mid L k h1 h2 p (by omega)
    unfold cntTo
    rw [ih]
    by_cases hk : p < k
    · rw [h1 p hk, if_neg (by decide)]; omega
    · rw [h2 p (by omega) (by omega), if_pos rfl]; omega

set_option maxHeartbeats 4000000 in
theorem blanks_any (A : Option Addr) (cap : Nat) (L : List UInt8) (w : World) (hs : Shows w w.heap.size A 1024 cap L) :
    Calls Tryd.prog 16 #[.slice A 1024 cap] w fun e w' => e = .returned (.int .i64 (cntTo L 64 : Nat)) ∧ w = w' := by
  obtain ⟨g, o, rfl, _, hc⟩ := hs.cells (by decide)
  have HC := Lib.hid hc
  obtain ⟨R, hR⟩ : ∃ R, cntTo L 64 = R := ⟨_, rfl⟩
  rw [hR]
  have HR := Lib.hid hR
  clear hc hs hR
  go_enter Tryd.func16, Tryd.ntmps16
  go_wp2_with fail
  go_loop [3, 4] (fun c i => ∃ p n : Nat, p ≤ 64 ∧ n ≤ p ∧ i = .int .i64 p ∧ c = .int .i64 n ∧ Hid (n = cntTo L p)) (fun _ i => 64 - (intOf i).toNat)
  case atStart => exact ⟨0, 0, by omega, by omega, rfl, rfl, Lib.hid rfl⟩
  case round =>
    obtain ⟨p, n, hp, hn, rfl, rfl, HN⟩ := hrel
    by_cases hlt : p < 64
    · have hpi : (p : Int) < 64 := by omega
      go_wp2_with fail
      go_loop [5, 6] (fun s i => ∃ j : Nat, ∃ b : Bool, j ≤ 16 ∧ i = .int .i64 j ∧ s = .bool b ∧ Hid (b = allTo L p j)) (fun _ i => 16 - (intOf i).toNat)
      case atStart => exact ⟨0, true, by omega, rfl, rfl, Lib.hid rfl⟩
      case round =>
        obtain ⟨j, b, hj, rfl, rfl, HB⟩ := hrel
        by_cases hj16 : j < 16
        · have hji : (j : Int) < 16 := by omega
          have hcc := HC.out (16 * p + j) (by omega)
          obtain ⟨v, hv⟩ : ∃ v, L.getD (16 * p + j) 0 = v := ⟨_, rfl⟩
          have hnx := allTo_next L p j
          rw [hv] at hcc hnx
          have HNX := Lib.hid hnx
          clear hv hnx
          have hve : ((v.toNat : Int) == 255) = (v == 255) := by
            rw [Bool.eq_iff_iff, beq_iff_eq, beq_iff_eq]
            constructor
            · intro h
              apply UInt8.toNat_inj.1
              show v.toNat = 255
              omega
            · intro h
              rw [h]
              rfl
          obtain ⟨b2, hb2⟩ : ∃ b2, (v == 255) = b2 := ⟨_, rfl⟩
          rw [hb2] at hve HNX
          have hx0 : (0 : Int) ≤ 16 * (p : Int) + (j : Int) := by omega
          have hx1 : (16 : Int) * (p : Int) + (j : Int) < 1024 := by omega
          clear hb2
          cases b with
          | false =>
            have hf : allTo L p (j + 1) = false := by rw [HNX.out, ← HB.out]; rfl
            have HF := Lib.hid hf.symm
            clear hf
            go_wp2_with fail
            go_round
            case rel => exact ⟨j + 1, false, by omega, by go_num, rfl, HF⟩
            case measure => simp [intOf]; omega
          | true =>
            have hf : b2 = allTo L p (j + 1) := by rw [HNX.out, ← HB.out]; rfl
            have HF := Lib.hid hf
            clear hf
            go_wp2_with fail
            go_round
            case rel => exact ⟨j + 1, b2, by omega, by go_num, rfl, HF⟩
            case measure => simp [intOf]; omega
        · have hj2 : j = 16 := by omega
          subst hj2
          have hcn : cntTo L (p + 1) = n + (if b = true then 1 else 0) := by
            show cntTo L p + _ = _
            rw [← HN.out, ← HB.out]
          have HCN := Lib.hid hcn
          clear hcn
          cases b with
          | true =>
            go_wp2_with fail
            go_round
            case rel => exact ⟨p + 1, n + 1, by omega, by omega, by go_num, by go_num, Lib.hid (by rw [HCN.out]; rfl)⟩
            case measure => simp [intOf]; omega
          | false =>
            go_wp2_with fail
            go_round
            case rel => exact ⟨p + 1, n, by omega, by omega, by go_num, rfl, Lib.hid (by rw [HCN.out]; rfl)⟩
            case measure => simp [intOf]; omega
    · have hp2 : p = 64 := by omega
      subst hp2
      have e : n = R := HN.out.trans HR.out
      subst e
      go_wp2_with fail
      go_ret
      exact ⟨rfl, rfl⟩
/-- Pages that entries of slot 2 have filled. -/
theorem allTo_not (b : List UInt8) (p j : Nat) (hj : j < 16) (h : b.getD (16 * p + j) 0 ≠ 255) : allTo b p 16 = false := by
  unfold allTo
  rw [List.all_eq_false]
  exact ⟨j, List.mem_range.2 hj, by simpa using h⟩
theorem allTo_blank {b : List UInt8} (hl : b.length = 1024) (p : Nat) (hp : p < 64) (h : blankL (pageL b p) = false) : allTo b p 16 = false := by
  unfold blankL at h
  rw [List.all_eq_false] at h
  obtain ⟨c, hc, hne⟩ := h
  obtain ⟨j, hj, rfl⟩ := List.mem_iff_getElem.1 hc
  have hj16 : j < 16 := by rw [pageL_len hl hp] at hj; exact hj
  refine allTo_not b p j hj16 ?_
  have := pageL_at b p j hj16
  rw [List.getD_eq_getElem?_getD, List.getElem?_eq_getElem hj] at this
  simp only [Option.getD_some] at this
  rw [Nat.mul_comm, ← this]
  simpa using hne
def plainE (e : Ent) : Prop := e.inside ∧ e.slot = 2 ∧ ∃ c, e.sum = oneB c
theorem plain_at (e : Ent) (h : plainE e) : e.bytes.getD 10 0 = 0 ∧ e.bytes.getD 26 0 = 0 ∧ e.bytes.getD 42 0 = 0 := by
  obtain ⟨_, h2, c, h3⟩ := h
  unfold Ent.bytes
  rw [h2, h3]
  have hl := leb_len e.seq 8
  have e1 : ∀ k, k < 8 → (leb e.seq 8 ++ leb 2 8 ++ oneB c).getD (8 + k) 0 = (leb 2 8).getD k 0 := fun k hk => by
    rw [List.append_assoc, List.getD_eq_getElem?_getD, List.getElem?_append_right (by omega), hl, Nat.add_sub_cancel_left, List.getElem?_append_left (by rw [leb_len]; exact hk)]
    rfl
  have e2 : ∀ k, (leb e.seq 8 ++ leb 2 8 ++ oneB c).getD (16 + k) 0 = (oneB c).getD k 0 := fun k => by
    rw [List.getD_eq_getElem?_getD, List.getElem?_append_right (by rw [List.length_append, hl, leb_len]; omega), List.length_append, hl, leb_len, Nat.add_sub_cancel_left]
    rfl
  refine ⟨?_, ?_, ?_⟩
  · rw [show 10 = 8 + 2 from rfl, e1 2 (by decide)]; rfl
  · rw [show 26 = 16 + 10 from rfl, e2 10]; rfl
  · rw [show 42 = 16 + 26 from rfl, e2 26]; rfl
theorem opened_at (l : List UInt8) (h : (opened l).2.2 = 0) (i : Nat) (hi : i < (opened l).1.length) : l.getD (6 + i) 0 = (opened l).1.getD i 0 := by
  have hlen := (opened_le l h).2.1
  unfold opened at h hi hlen ⊢
  by_cases h1 : l.length < 6
  · rw [if_pos h1] at h; cases h
  rw [if_neg h1] at h hi hlen ⊢
  by_cases h2 : l.length - 6 < leNat (l.take 2)
  · rw [if_pos h2] at h; cases h
  rw [if_neg h2] at h hi hlen ⊢
  split at h
  · rename_i h3
    rw [if_pos h3] at hi ⊢
    simp only at hi ⊢
    rw [List.length_take] at hi
    simp only [List.getD_eq_getElem?_getD, List.getElem?_take, List.getElem?_drop]
    rw [if_pos (by omega)]
  · cases h
theorem full_load {b : List UInt8} (hl : b.length = 1024) : ∀ (es : List Ent) (p free : Nat), (∀ e ∈ es, plainE e) → p ≤ 64 → loadFrom b p = (es.map Ent.bytes, free) → ∀ q, p ≤ q → q < p + 4 * es.length → allTo b q 16 = false
  | [], p, free, _, _, _, q, h1, h2 => by simp at h2; omega
  | e :: r, p, free, he, hp, h, q, h1, h2 => by
    by_cases h64 : 64 ≤ p
    · rw [load_end b h64] at h; injection h with h3 _; cases h3
    · cases hb : blankL (pageL b p) with
      | true => rw [load_blank b (by omega) hb] at h; injection h with h3 _; cases h3
      | false =>
        by_cases ho : (opened (b.drop (p * 16))).2.2 = 0
        · rw [load_rec hl (by omega) hb ho] at h
          injection h with h3 h4
          rw [List.map_cons] at h3
          injection h3 with h3 h5
          have hpe := he e (List.mem_cons_self ..)
          have hsl : e.sum.length = 32 := by obtain ⟨_, _, c, hc⟩ := hpe; rw [hc]; exact oneB_len c
          have hbl := ent_bytes_len e hsl
          have hat := opened_at _ ho
          have hole := (opened_le _ ho).1
          rw [h3] at hat h4 h5 hole
          rw [pages48 e hsl] at h4 h5
          rw [hbl, List.length_drop] at hole
          have hd : ∀ i, i < 48 → b.getD (16 * p + (6 + i)) 0 = e.bytes.getD i 0 := fun i hi => by
            have := hat i (by rw [hbl]; exact hi)
            simp only [List.getD_eq_getElem?_getD, List.getElem?_drop] at this ⊢
            rw [← this, Nat.mul_comm]
          obtain ⟨x1, x2, x3⟩ := plain_at e hpe
          by_cases hq : q < p + 4
          · have hq4 : q = p ∨ q = p + 1 ∨ q = p + 2 ∨ q = p + 3 := by omega
            rcases hq4 with rfl | rfl | rfl | rfl
            · exact allTo_blank hl _ (by omega) hb
            · exact allTo_not b _ 0 (by decide) (by rw [show 16 * (p + 1) + 0 = 16 * p + (6 + 10) by omega, hd 10 (by decide), x1]; decide)
            · exact allTo_not b _ 0 (by decide) (by rw [show 16 * (p + 2) + 0 = 16 * p + (6 + 26) by omega, hd 26 (by decide), x2]; decide)
            · exact allTo_not b _ 0 (by decide) (by rw [show 16 * (p + 3) + 0 = 16 * p + (6 + 42) by omega, hd 42 (by decide), x3]; decide)
          · exact full_load hl r (p + 4) free (fun y hy => he y (List.mem_cons_of_mem _ hy)) (by omega) (by rw [← h5, ← h4]) q (by omega) (by rw [List.length_cons] at h2; omega)
        · rw [load_bad b (by omega) hb ho] at h; injection h with h3 _; cases h3
theorem good_count {b : List UInt8} {es : List Ent} (h : Good b (es.map Ent.bytes) (4 * es.length)) (he : ∀ e ∈ es, plainE e) : cntTo b 64 = 64 - 4 * es.length := by
  refine cntTo_mid b (4 * es.length) (fun p hp => full_load h.len es 0 _ he (by decide) h.is p (Nat.zero_le _) (by omega)) (fun p h1 h2 => ?_) 64 (Nat.le_refl _)
  unfold allTo
  rw [List.all_eq_true]
  intro j hj
  have := List.mem_range.1 hj
  have hr := h.rest (16 * p + j) (by omega) (by omega)
  rw [hr]
  rfl
end Go.Proofs.YtnbahpcajnjieaaDoor
