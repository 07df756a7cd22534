/- Chapter 6: Store (the document's own function). -/
import Derived.Test.YtmebdnblobobnaaGreatDoorSlotMath
import Derived.Test.YtmebdnblobobnaaGreatDoorKRefRec
namespace Go.Proofs.YtmebdnblobobnaaGreatDoor
set_option maxRecDepth 100000
open Go.RowKit _root_.Go.Proofs.YtmebdnblobobnaaGreatDoor.Wd _root_.Go.Proofs.YtmebdnblobobnaaGreatDoor.Nm _root_.Go.Proofs.YtmebdnblobobnaaGreatDoor.Cm _root_.Go.Proofs.YtmebdnblobobnaaGreatDoor.Fm

theorem shows_aside {w w' : World} {g : Nat} {A : Option Addr} {n cap : Nat} {l : List UInt8} (h : Shows w w.heap.size A n cap l) (hg : w.grownBy w' (some g)) (hne : ∀ p, A = some p → 0 < n → p.block ≠ g) : Shows w' w'.heap.size A n cap l :=
  ⟨h.len, h.le, h.top, fun hn => by
    obtain ⟨b, o, rfl, hb, hc⟩ := h.spot hn
    have h1 := hne _ rfl hn
    refine ⟨b, o, rfl, Nat.lt_of_lt_of_le hb hg.size, fun j hj => ?_⟩
    exact hg.cell (hc j hj) (by simp; exact h1)⟩

set_option maxHeartbeats 1000000 in
theorem xstore6_any (x : Nat) (m : Mem) (slot : Int) (A : Option Addr) (n cap : Nat) (b : List UInt8) (w : World) (h : Rf w x m) (hb : Shows w w.heap.size A n cap b) (hn : n ≤ 1000000) (hne : ∀ p, A = some p → 0 < n → p.block ≠ x)
    (hs1 : -9223372036854775808 ≤ slot) (hs2 : slot ≤ 9223372036854775807) :
    Calls Tryz.prog 13 #[.pointer (some ⟨x, 0, none⟩), .int .i64 slot, .slice A n cap] w fun e w' => e = .returned (.int .i64 (storeM m slot b).1) ∧ Rf w' x (storeM m slot b).2 ∧ w.grownBy w' (some x) := by
  have hbl := hb.len
  have HH := Lib.hid (And.intro h (And.intro hb hne))
  have HBL := Lib.hid hbl
  clear h hb hne hbl
  go_enter Tryz.func13, Tryz.ntmps13
  by_cases h1 : slot < 0 ∨ 1 < slot
  · have HM := Lib.hid (show storeM m slot b = (1, m) by unfold storeM; rw [if_pos h1])
    have hor : (decide (slot < 0) || decide (1 < slot)) = true := by simp only [Bool.or_eq_true, decide_eq_true_eq]; exact h1
    go_wp2
    all_goals (go_ret; rw [HM.out]; exact ⟨rfl, HH.out.1, grow_refl _ _⟩)
  · have h3 : 0 ≤ slot := by omega
    have h4 : slot ≤ 1 := by omega
    have e1 : ¬ slot < 0 := by omega
    have e2 : ¬ 1 < slot := by omega
    have hsw : IntKind.i64.wrap (2 + slot) = 2 + slot := by rw [IntKind.wrap_i64]; omega
    by_cases h2 : 1000 < b.length
    · have HM := Lib.hid (show storeM m slot b = (5, m) by unfold storeM; rw [if_neg h1, if_pos h2])
      have hni : (1000 : Int) < (n : Int) := by have := HBL.out; omega
      go_wp2
      all_goals (go_ret; rw [HM.out]; exact ⟨rfl, HH.out.1, grow_refl _ _⟩)
    · have hni : ¬ (1000 : Int) < (n : Int) := by have := HBL.out; omega
      have HER := Lib.hid (xerase_any x m (2 + slot) w HH.out.1)
      have HM := Lib.hid (show storeM m slot b = if (eraseM m (2 + slot)).1 ≠ 0 then eraseM m (2 + slot) else appendM (eraseM m (2 + slot)).2 (2 + slot) b by unfold storeM; rw [if_neg h1, if_neg h2])
      clear h1 h2
      generalize eraseM m (2 + slot) = q at HER HM
      obtain ⟨e, m1⟩ := q
      go_wp2_with fail
      refine HER.out.mono ?_
      rintro _ w1 ⟨rfl, hr1, hg1⟩
      have hs1 := shows_aside HH.out.2.1 hg1 HH.out.2.2
      have HAP := Lib.hid (xappend_any x m1 (2 + slot) A n cap b w1 hr1 hs1 hn)
      have HG := Lib.hid (And.intro hr1 hg1)
      clear hr1 hg1 hs1 HER
      by_cases he : e = 0
      · subst he
        go_wp2_with fail
        refine HAP.out.mono ?_
        rintro _ w2 ⟨rfl, hr2, hg2⟩
        have hfin : w.grownBy w2 (some x) := HG.out.2.trans hg2
        go_wp2
        go_ret
        rw [HM.out]
        exact ⟨rfl, hr2, hfin⟩
      · have hbe : (e == 0) = false := by simpa using he
        go_wp2
        go_ret
        rw [HM.out, if_pos he]
        exact ⟨rfl, HG.out.1, HG.out.2⟩
end Go.Proofs.YtmebdnblobobnaaGreatDoor
