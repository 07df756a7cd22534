/- Chapter 5's rows: whether two rows of byte slices are the same. -/
import Derived.Test.YtolpiklhnafnbaaOwnParts
import Derived.Test.YtolpiklhnafnbaaSame
namespace Go.Proofs.Ytolpiklhnafnbaa
set_option maxRecDepth 100000
open Go.RowKit Wd Fm

def bytesOf (ps : List Part) : List (List UInt8) := ps.map (·.l)
theorem rows_ne_len {ps qs : List Part} (h : ps.length ≠ qs.length) : decide (bytesOf ps = bytesOf qs) = false := by
  refine decide_eq_false fun e => h ?_
  have := congrArg List.length e
  simpa [bytesOf] using this
theorem rows_ne_at {ps qs : List Part} (j : Nat) (hj : j < ps.length) (hk : j < qs.length) (h : ps[j].l ≠ qs[j].l) : decide (bytesOf ps = bytesOf qs) = false := by
  refine decide_eq_false fun e => h ?_
  have := congrArg (fun x => x[j]?) e
  simp only [bytesOf, List.getElem?_map, List.getElem?_eq_getElem hj, List.getElem?_eq_getElem hk, Option.map_some] at this
  exact Option.some.inj this
theorem rows_eq {ps qs : List Part} (hl : ps.length = qs.length) (h : ∀ j (hj : j < ps.length) (hk : j < qs.length), ps[j].l = qs[j].l) : decide (bytesOf ps = bytesOf qs) = true := by
  refine decide_eq_true ?_
  apply List.ext_getElem (by simp [bytesOf, hl])
  intro j h1 h2
  simp only [bytesOf, List.length_map] at h1 h2
  simp only [bytesOf, List.getElem_map]
  exact h j h1 h2

set_option maxHeartbeats 2000000 in
theorem rows5_any (A : Option Addr) (n cap : Nat) (ps : List Part) (A2 : Option Addr) (n2 cap2 : Nat) (qs : List Part) (w : World) (h1 : LaidAt w w.heap.size A n ps) (h2 : LaidAt w w.heap.size A2 n2 qs) (hn : n ≤ 1000000) (hn2 : n2 ≤ 1000000) :
    Calls Try.prog 24 #[.slice A n cap, .slice A2 n2 cap2] w fun e w' => e = .returned (.bool (decide (bytesOf ps = bytesOf qs))) ∧ Below w.heap.size w w' := by
  have H := Lib.hid (And.intro h1 h2)
  obtain ⟨R, hR⟩ : ∃ R, decide (bytesOf ps = bytesOf qs) = R := ⟨_, rfl⟩
  rw [hR]
  have HR := Lib.hid hR
  have l1 := h1.len
  have l2 := h2.len
  clear h1 h2 hR
  by_cases hne : n = n2
  · subst hne
    have HL := Lib.hid (And.intro l1 l2)
    clear l1 l2
    go_enter Try.func24, Try.ntmps24
    go_wp2_with fail
    go_loopw [5] (fun i wr => ∃ j : Nat, j ≤ n ∧ i = .int .i64 j ∧ Hid (Below w.heap.size w wr ∧ ∀ k (_ : k < j) (hk : k < ps.length) (hk2 : k < qs.length), ps[k].l = qs[k].l)) (fun i _ => n - (intOf i).toNat)
    case atStart => exact ⟨0, by omega, rfl, Lib.hid ⟨Below.refl _ _, fun k h => absurd h (by omega)⟩⟩
    case round =>
      obtain ⟨j, hj, rfl, HJ⟩ := hrel
      by_cases hlt : j < n
      · have hji : (j : Int) < (n : Int) := by omega
        have hj1 : j < ps.length := by have := HL.out.1; omega
        have hj2 : j < qs.length := by have := HL.out.2; omega
        have hp := H.out.1.below HJ.out.1
        have hq := H.out.2.below HJ.out.1
        obtain ⟨g, o, rfl, _, hc1⟩ := hp.spot (by omega)
        obtain ⟨g2, o2, rfl, _, hc2⟩ := hq.spot (by omega)
        have d1 := hc1 j hj1
        have d2 := hc2 j hj2
        have s1 := hp.each ps[j] (List.getElem_mem hj1)
        have s2 := hq.each qs[j] (List.getElem_mem hj2)
        have hnx := HJ.out.2
        obtain ⟨P, hP⟩ : ∃ P, ps[j] = P := ⟨_, rfl⟩
        obtain ⟨Q, hQ⟩ : ∃ Q, qs[j] = Q := ⟨_, rfl⟩
        rw [hP] at d1 s1
        rw [hQ] at d2 s2
        obtain ⟨pA, pn, pc, pl⟩ := P
        obtain ⟨qA, qn, qc, ql⟩ := Q
        simp only at d1 d2 s1 s2
        have cv1 := fun q => (s1.below (below_drewN (Below.refl w.heap.size wr) q)).conv (P := Try.prog) Try.underlying29 Try.underlying5 Try.underlying9
        have cv2 := fun q => (s2.below (below_drewN (Below.refl w.heap.size wr) q)).conv (P := Try.prog) Try.underlying29 Try.underlying5 Try.underlying9
        have HPQ := Lib.hid (And.intro hP hQ)
        have HB := Lib.hid HJ.out.1
        have HNX := Lib.hid hnx
        by_cases he : pl = ql
        · subst he
          clear hp hq hc1 hc2 s1 s2 hnx hP hQ HJ
          go_wp2_with fail
          go_quiet (fail)
          have HN := Lib.hid (And.intro (below_drewN HB.out nq) (show ∀ k (_ : k < j + 1) (hk : k < ps.length) (hk2 : k < qs.length), ps[k].l = qs[k].l from fun k hk h1 h2 => by
            by_cases hkj : k = j
            · subst hkj
              rw [HPQ.out.1, HPQ.out.2]
            · exact HNX.out k (by omega) h1 h2))
          clear d1 d2 cv1 cv2
          go_wp2
          go_roundw
          case rel => exact ⟨j + 1, by omega, by go_num, HN⟩
          case measure => simp [intOf]; omega
        · have hT : R = false := by
            rw [← HR.out]
            exact rows_ne_at j hj1 hj2 (by rw [HPQ.out.1, HPQ.out.2]; exact he)
          subst hT
          have hb : (pl == ql) = false := by simpa using he
          clear hp hq hc1 hc2 s1 s2 hnx hP hQ HJ
          go_wp2_with fail
          go_quiet (fail)
          have HN := Lib.hid (below_drewN HB.out nq)
          clear d1 d2 cv1 cv2
          go_wp2
          go_ret
          exact ⟨rfl, HN.out⟩
      · have hT : R = true := by
          rw [← HR.out]
          exact rows_eq (by rw [HL.out.1, HL.out.2]) fun k h1 h2 => HJ.out.2 k (by have := HL.out.1; omega) h1 h2
        subst hT
        have hji : ¬ (j : Int) < (n : Int) := by omega
        have HB := Lib.hid HJ.out.1
        clear HJ
        go_wp2
        go_ret
        exact ⟨rfl, HB.out⟩
  · have hT : R = false := by
      rw [← HR.out]
      exact rows_ne_len (by omega)
    subst hT
    have hni : ¬ (n : Int) = (n2 : Int) := by omega
    clear l1 l2
    go_enter Try.func24, Try.ntmps24
    go_wp2
    go_ret
    exact ⟨rfl, Below.refl _ _⟩
end Go.Proofs.Ytolpiklhnafnbaa
