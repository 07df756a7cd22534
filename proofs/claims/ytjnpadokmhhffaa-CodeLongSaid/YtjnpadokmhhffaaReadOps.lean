/- Contracts for package code's Reader, from its promoted methods up: New, Int, Byte, Text, Fail, End. -/
import Derived.Test.YtjnpadokmhhffaaReader
import Derived.Deep.RegionWith
import Derived.Deep.QuietTactic
import Derived.BigQuiet
import Derived.WalkSpells
namespace Go.Proofs.Ytjnpadokmhhffaa
open Go.RowKit Wd Nm

/-! ### the model: what a Reader holds is (the bytes that are left, the first error) -/
def rdNum (k : Nat) (l : List UInt8) (er : Int) : Int × List UInt8 × Int :=
  if er = 0 then (if k ≤ l.length then (wrap64 (leNat (l.take k) : Nat), l.drop k, 0) else (0, l, 8)) else (0, l, er)
def rdTextOf (m : Nat) (l : List UInt8) : List UInt8 × List UInt8 × Int :=
  if m ≤ l.length then (l.take m, l.drop m, 0) else ([], l, 8)
def rdText (l : List UInt8) (er : Int) : List UInt8 × List UInt8 × Int :=
  if er = 0 then (if 2 ≤ l.length then rdTextOf (leNat (l.take 2)) (l.drop 2) else ([], l, 8)) else ([], l, er)
def rdFail (f er : Int) : Int := if er = 0 then f else er
def rdEnd (l : List UInt8) (er : Int) : Int := if er = 0 ∧ 0 < l.length then 9 else er

theorem Rd.cell1 {w : World} {g : Nat} {l : List UInt8} {er : Int} (h : Rd w g l er) : w.cell? ⟨g, 1, none⟩ = some (.int .i64 er) := by
  obtain ⟨A, n, cap, hg, _⟩ := h
  rw [cell_of_row w g 1 _ _ (0, 0) hg]; rfl
theorem Rd.free {w : World} {g : Nat} {l : List UInt8} {er : Int} (h : Rd w g l er) (i : Nat) : w.frozen? ⟨g, i, none⟩ = false := by
  obtain ⟨A, n, cap, hg, _⟩ := h
  simp [World.frozen?, hg]
theorem Rd.set1 {w : World} {g : Nat} {l : List UInt8} {er : Int} (h : Rd w g l er) (f : Int) : Rd (w.setCell ⟨g, 1, none⟩ (.int .i64 f)) g l f := by
  obtain ⟨A, n, cap, hg, hs⟩ := h
  exact ⟨A, n, cap, heap_set w g 1 _ _ _ hg, shows_set hs _ _⟩
theorem Rd.drew {w : World} {g : Nat} {l : List UInt8} {er : Int} (h : Rd w g l er) : Rd w.drew g l er := by
  obtain ⟨A, n, cap, hg, hs⟩ := h
  exact ⟨A, n, cap, hg, hs.keep fun _ _ => rfl⟩
theorem drew_grow {w w' : World} {row : Option Nat} (h : w.drew.grownBy w' row) : w.grownBy w' row := ⟨h.os, h.tape, h.output, h.size, h.block⟩

theorem sound_yes (g : Nat) (w : World) (c1 : w.cell? ⟨g, 1, none⟩ = some (.int .i64 0)) :
    Calls Try.prog 40 #[.pointer (some ⟨g, 1, none⟩)] w fun e w' => e = .returned (.bool true) ∧ w = w' := by
  go_enter Try.func40, Try.ntmps40
  go_wp2
  go_ret
  exact ⟨rfl, rfl⟩
theorem sound_no (g : Nat) (er : Int) (w : World) (c1 : w.cell? ⟨g, 1, none⟩ = some (.int .i64 er)) (h : (er == 0) = false) :
    Calls Try.prog 40 #[.pointer (some ⟨g, 1, none⟩)] w fun e w' => e = .returned (.bool false) ∧ w = w' := by
  go_enter Try.func40, Try.ntmps40
  go_wp2
  go_ret
  exact ⟨rfl, rfl⟩
theorem note_yes (g : Nat) (l : List UInt8) (f : Int) (w : World) (hr : Rd w g l 0) :
    Calls Try.prog 39 #[.pointer (some ⟨g, 1, none⟩), .int .i64 f] w fun e w' => e = .returned (.tuple #[]) ∧ Rd w' g l f ∧ w.grownBy w' (some g) := by
  have c1 := hr.cell1
  have f1 := hr.free 1
  have hs := hr.set1 f
  have hg := grow_set w g 1 (.int .i64 f)
  clear hr
  go_enter Try.func39, Try.ntmps39
  go_wp2_with (go_at_call 40; refine (sound_yes _ _ c1).mono ?_; rintro e w1 ⟨rfl, rfl⟩)
  go_end0
  exact ⟨rfl, hs, hg⟩
theorem note_no (g : Nat) (l : List UInt8) (er f : Int) (w : World) (hr : Rd w g l er) (h : (er == 0) = false) :
    Calls Try.prog 39 #[.pointer (some ⟨g, 1, none⟩), .int .i64 f] w fun e w' => e = .returned (.tuple #[]) ∧ w = w' := by
  have c1 := hr.cell1
  go_enter Try.func39, Try.ntmps39
  go_wp2_with (go_at_call 40; refine (sound_no _ _ _ c1 h).mono ?_; rintro e w1 ⟨rfl, rfl⟩)
  go_end0
  exact ⟨rfl, rfl⟩

/-! ### number -/
theorem number_yes (g : Nat) (l : List UInt8) (er : Int) (w : World) (hr : Rd w g l er) (hn : 8 ≤ l.length) :
    Calls Try.prog 34 #[.pointer (some ⟨g, 0, none⟩)] w fun e w' => e = .returned (.tuple #[.int .i64 (wrap64 (leNat (l.take 8) : Nat)), .int .i64 0]) ∧ Rd w' g (l.drop 8) er ∧ w.grownBy w' (some g) := by
  have ht := srclittle_yes g l er 8 w hr (by omega) hn
  clear hn hr
  go_enter Try.func34, Try.ntmps34
  go_wp2_with fail
  refine ht.mono ?_
  clear ht
  rintro e w1 ⟨rfl, hr1, hg1⟩
  go_wp2
  go_ret2
  exact ⟨rfl, hr1, hg1⟩
theorem number_no (g : Nat) (l : List UInt8) (er : Int) (w : World) (hr : Rd w g l er) (hn : l.length < 8) :
    Calls Try.prog 34 #[.pointer (some ⟨g, 0, none⟩)] w fun e w' => e = .returned (.tuple #[.int .i64 0, .int .i64 8]) ∧ w = w' := by
  have ht := srclittle_no g l er 8 w hr (by omega) hn
  clear hn hr
  go_enter Try.func34, Try.ntmps34
  go_wp2_with fail
  refine ht.mono ?_
  clear ht
  rintro e w1 ⟨rfl, rfl⟩
  go_wp2
  go_ret2
  exact ⟨rfl, rfl⟩
set_option maxHeartbeats 400000 in
theorem next_number (g : Nat) (l : List UInt8) (er : Int) (w : World) (hr : Rd w g l er) :
    Calls Try.prog 33 #[.pointer (some ⟨g, 1, none⟩), .func (.func 34) #[.pointer (some ⟨g, 0, none⟩)] #[]] w fun e w' => e = .returned (.int .i64 (rdNum 8 l er).1) ∧ Rd w' g (rdNum 8 l er).2.1 (rdNum 8 l er).2.2 ∧ w.grownBy w' (some g) := by
  have c1 := hr.cell1
  by_cases h0 : er = 0
  · subst h0
    by_cases hn : 8 ≤ l.length
    · have e1 : rdNum 8 l 0 = (wrap64 (leNat (l.take 8) : Nat), l.drop 8, 0) := by unfold rdNum; rw [if_pos rfl, if_pos hn]
      rw [e1]
      have ht := number_yes g l 0 w hr hn
      clear e1 hn hr
      go_enter Try.func33, Try.ntmps33
      go_wp2_with fail
      refine (sound_yes _ _ c1).mono ?_
      rintro e w1 ⟨rfl, rfl⟩
      go_wp2_with fail
      refine ht.mono ?_
      rintro e w1 ⟨rfl, hr1, hg1⟩
      clear ht c1
      go_wp2
      go_ret
      exact ⟨rfl, hr1, hg1⟩
    · have e1 : rdNum 8 l 0 = (0, l, 8) := by unfold rdNum; rw [if_pos rfl, if_neg hn]
      rw [e1]
      have ht := number_no g l 0 w hr (by omega)
      have hnote := note_yes g l 8 w hr
      clear e1 hn hr
      go_enter Try.func33, Try.ntmps33
      go_wp2_with fail
      refine (sound_yes _ _ c1).mono ?_
      rintro e w1 ⟨rfl, rfl⟩
      go_wp2_with fail
      refine ht.mono ?_
      rintro e w1 ⟨rfl, rfl⟩
      clear ht c1
      go_wp2_with fail
      refine hnote.mono ?_
      rintro e w1 ⟨rfl, hr1, hg1⟩
      clear hnote
      go_wp2
      go_ret
      exact ⟨rfl, hr1, hg1⟩
  · have e1 : rdNum 8 l er = (0, l, er) := by unfold rdNum; rw [if_neg h0]
    rw [e1]
    have hb : (er == 0) = false := by simpa using h0
    have hs := sound_no g er w c1 hb
    clear e1 hb h0 c1
    go_enter Try.func33, Try.ntmps33
    go_wp2_with fail
    refine hs.mono ?_
    rintro e w1 ⟨rfl, rfl⟩
    clear hs
    go_wp2
    go_ret
    exact ⟨rfl, hr, grow_refl _ _⟩
set_option maxHeartbeats 400000 in
theorem read_Int (g : Nat) (l : List UInt8) (er : Int) (w : World) (hr : Rd w g l er) :
    Calls Try.prog 20 #[.pointer (some ⟨g, 0, none⟩)] w fun e w' => e = .returned (.int .i64 (rdNum 8 l er).1) ∧ Rd w' g (rdNum 8 l er).2.1 (rdNum 8 l er).2.2 ∧ w.grownBy w' (some g) := by
  have ht := next_number g l er w.drew hr.drew
  have hmf : ∀ (fn : Fn) (first cap : Array Value) (w : World), (Instr.makeFunc fn first cap).run Try.prog w = .ok (.func fn first cap) w := fun _ _ _ _ => rfl
  clear hr
  go_enter Try.func20, Try.ntmps20
  go_wp2
  go_region_with ((go_at_call 33; refine ht.mono ?_; rintro e w1 ⟨rfl, hr1, hg1⟩))
  all_goals (go_wp2; go_ret; exact ⟨rfl, hr1, drew_grow hg1⟩)

/-! ### octet -/
theorem octet_yes (g : Nat) (l : List UInt8) (er : Int) (w : World) (hr : Rd w g l er) (hn : 1 ≤ l.length) :
    Calls Try.prog 36 #[.pointer (some ⟨g, 0, none⟩)] w fun e w' => e = .returned (.tuple #[.int .i64 (wrap64 (leNat (l.take 1) : Nat)), .int .i64 0]) ∧ Rd w' g (l.drop 1) er ∧ w.grownBy w' (some g) := by
  have ht := srclittle_yes g l er 1 w hr (by omega) hn
  clear hn hr
  go_enter Try.func36, Try.ntmps36
  go_wp2_with fail
  refine ht.mono ?_
  clear ht
  rintro e w1 ⟨rfl, hr1, hg1⟩
  go_wp2
  go_ret2
  exact ⟨rfl, hr1, hg1⟩
theorem octet_no (g : Nat) (l : List UInt8) (er : Int) (w : World) (hr : Rd w g l er) (hn : l.length < 1) :
    Calls Try.prog 36 #[.pointer (some ⟨g, 0, none⟩)] w fun e w' => e = .returned (.tuple #[.int .i64 0, .int .i64 8]) ∧ w = w' := by
  have ht := srclittle_no g l er 1 w hr (by omega) hn
  clear hn hr
  go_enter Try.func36, Try.ntmps36
  go_wp2_with fail
  refine ht.mono ?_
  clear ht
  rintro e w1 ⟨rfl, rfl⟩
  go_wp2
  go_ret2
  exact ⟨rfl, rfl⟩
set_option maxHeartbeats 400000 in
theorem next_octet (g : Nat) (l : List UInt8) (er : Int) (w : World) (hr : Rd w g l er) :
    Calls Try.prog 33 #[.pointer (some ⟨g, 1, none⟩), .func (.func 36) #[.pointer (some ⟨g, 0, none⟩)] #[]] w fun e w' => e = .returned (.int .i64 (rdNum 1 l er).1) ∧ Rd w' g (rdNum 1 l er).2.1 (rdNum 1 l er).2.2 ∧ w.grownBy w' (some g) := by
  have c1 := hr.cell1
  by_cases h0 : er = 0
  · subst h0
    by_cases hn : 1 ≤ l.length
    · have e1 : rdNum 1 l 0 = (wrap64 (leNat (l.take 1) : Nat), l.drop 1, 0) := by unfold rdNum; rw [if_pos rfl, if_pos hn]
      rw [e1]
      have ht := octet_yes g l 0 w hr hn
      clear e1 hn hr
      go_enter Try.func33, Try.ntmps33
      go_wp2_with fail
      refine (sound_yes _ _ c1).mono ?_
      rintro e w1 ⟨rfl, rfl⟩
      go_wp2_with fail
      refine ht.mono ?_
      rintro e w1 ⟨rfl, hr1, hg1⟩
      clear ht c1
      go_wp2
      go_ret
      exact ⟨rfl, hr1, hg1⟩
    · have e1 : rdNum 1 l 0 = (0, l, 8) := by unfold rdNum; rw [if_pos rfl, if_neg hn]
      rw [e1]
      have ht := octet_no g l 0 w hr (by omega)
      have hnote := note_yes g l 8 w hr
      clear e1 hn hr
      go_enter Try.func33, Try.ntmps33
      go_wp2_with fail
      refine (sound_yes _ _ c1).mono ?_
      rintro e w1 ⟨rfl, rfl⟩
      go_wp2_with fail
      refine ht.mono ?_
      rintro e w1 ⟨rfl, rfl⟩
      clear ht c1
      go_wp2_with fail
      refine hnote.mono ?_
      rintro e w1 ⟨rfl, hr1, hg1⟩
      clear hnote
      go_wp2
      go_ret
      exact ⟨rfl, hr1, hg1⟩
  · have e1 : rdNum 1 l er = (0, l, er) := by unfold rdNum; rw [if_neg h0]
    rw [e1]
    have hb : (er == 0) = false := by simpa using h0
    have hs := sound_no g er w c1 hb
    clear e1 hb h0 c1
    go_enter Try.func33, Try.ntmps33
    go_wp2_with fail
    refine hs.mono ?_
    rintro e w1 ⟨rfl, rfl⟩
    clear hs
    go_wp2
    go_ret
    exact ⟨rfl, hr, grow_refl _ _⟩
set_option maxHeartbeats 400000 in
theorem read_Byte (g : Nat) (l : List UInt8) (er : Int) (w : World) (hr : Rd w g l er) :
    Calls Try.prog 22 #[.pointer (some ⟨g, 0, none⟩)] w fun e w' => e = .returned (.int .i64 (rdNum 1 l er).1) ∧ Rd w' g (rdNum 1 l er).2.1 (rdNum 1 l er).2.2 ∧ w.grownBy w' (some g) := by
  have ht := next_octet g l er w.drew hr.drew
  have hmf : ∀ (fn : Fn) (first cap : Array Value) (w : World), (Instr.makeFunc fn first cap).run Try.prog w = .ok (.func fn first cap) w := fun _ _ _ _ => rfl
  clear hr
  go_enter Try.func22, Try.ntmps22
  go_wp2
  go_region_with ((go_at_call 33; refine ht.mono ?_; rintro e w1 ⟨rfl, hr1, hg1⟩))
  all_goals (go_wp2; go_ret; exact ⟨rfl, hr1, drew_grow hg1⟩)
end Go.Proofs.Ytjnpadokmhhffaa
