/- Merged: What the functions of package code that write bytes do to the world: contracts for little, slices.Grow, slices.Concat, Int, Byte, Text. Contracts for slices.Concat on slices of bytes, and for package code's Int, Byte and Text. Contracts for package code's Int, Byte and Text: what they return lies in new memory and shows what the chapter says. Contracts for package code's Reader: what New, Int, Byte, Text, Fail and End answer, and what the Reader holds behind them. Contracts for package code's Reader, from its promoted methods up: New, Int, Byte, Text, Fail, End. Contracts for package code's New (over bytes.Clone) and the Reader's End. -/
import Derived.Test.YtmebdnblobobnaaGreatDoorProg
import Derived.Test.YtmebdnblobobnaaGreatDoorKBase
import Derived.Deep.LoopGhost
import Derived.Lib.Hide
import Derived.Lib.ConvBytes
import Derived.Deep.RegionWith
import Derived.Deep.QuietTactic
import Derived.BigQuiet
import Derived.WalkSpells
import Derived.Test.YtmebdnblobobnaaGreatDoorKMem
namespace Go.Proofs.YtmebdnblobobnaaGreatDoor
set_option maxRecDepth 100000
open Go.RowKit _root_.Go.Proofs.YtmebdnblobobnaaGreatDoor.Wd _root_.Go.Proofs.YtmebdnblobobnaaGreatDoor.Nm
set_option maxHeartbeats 400000 in
theorem little_any (n : Int) (k : Nat) (hk : k ≤ 8) (w : World) :
    Calls Tryz.prog 92 #[.int .i64 n, .int .i64 k] w fun e w' => e = .returned (.slice (some ⟨w.heap.size, 0, none⟩) k k) ∧ w.alloc (.cells (Cz (fun i => n / 2 ^ (8 * i) % 256) k k) 5) = w' := by
  obtain ⟨i0, hi0, hz0, hz1, hz2⟩ := info_parts infoByte
  have hmk : ∀ W : World, (Instr.makeSlice 29 (.int .i64 (k : Int)) (.int .i64 (k : Int))).run Tryz.prog W = .ok (.slice (some ⟨W.heap.size, 0, none⟩) k k) (W.alloc (.cells (Cz (fun i => n / 2 ^ (8 * i) % 256) 0 k) 5)) := by
    intro W
    have h := run_make (P := Tryz.prog) W 29 5 i0 _ Tryz.underlying29 hi0 hz0 .i64 .i64 k k (by omega) (by omega) (by rw [hz2]; omega) (by omega)
    simp only [Int.toNat_natCast] at h
    rw [h, hz1, Cz_zero]
    rfl
  go_enter Tryz.func92, Tryz.ntmps92
  go_wp2
  go_loopw [6, 11] (fun _ i wr => ∃ j : Nat, j ≤ k ∧ i = .int .i64 j ∧ wr = w.alloc (.cells (Cz (fun i => n / 2 ^ (8 * i) % 256) j k) 5)) (fun _ i _ => k - (intOf i).toNat)
  case atStart => exact ⟨0, Nat.zero_le _, rfl, rfl⟩
  case round =>
    obtain ⟨j, hj, rfl, rfl⟩ := hrel
    by_cases hlt : j < k
    · have hc := Cz_next (fun i => n / 2 ^ (8 * i) % 256) j k hlt
      have hs := Cz_step (fun i => n / 2 ^ (8 * i) % 256) j k hlt
      go_wp2
      go_roundw
      case rel => exact ⟨j + 1, by omega, by go_num, rfl⟩
      case measure => simp [intOf]; omega
    · obtain rfl : j = k := by omega
      clear hmk
      go_wp2
      go_ret
      exact ⟨rfl, rfl⟩

end Go.Proofs.YtmebdnblobobnaaGreatDoor

namespace Go.Proofs.YtmebdnblobobnaaGreatDoor
set_option maxRecDepth 100000
open Go.RowKit _root_.Go.Proofs.YtmebdnblobobnaaGreatDoor.Wd _root_.Go.Proofs.YtmebdnblobobnaaGreatDoor.Nm
end Go.Proofs.YtmebdnblobobnaaGreatDoor

namespace Go.Proofs.YtmebdnblobobnaaGreatDoor
set_option maxRecDepth 100000
open Go.RowKit _root_.Go.Proofs.YtmebdnblobobnaaGreatDoor.Wd _root_.Go.Proofs.YtmebdnblobobnaaGreatDoor.Nm

theorem little8 (x : Int) (w : World) : Calls Tryz.prog 92 #[.int .i64 x, .int .i64 8] w fun e w' => e = .returned (.slice (some ⟨w.heap.size, 0, none⟩) 8 8) ∧ w.alloc (.cells (Cz (fun i => x / 2 ^ (8 * i) % 256) 8 8) 5) = w' := little_any x 8 (by omega) w
theorem little1 (x : Int) (w : World) : Calls Tryz.prog 92 #[.int .i64 x, .int .i64 1] w fun e w' => e = .returned (.slice (some ⟨w.heap.size, 0, none⟩) 1 1) ∧ w.alloc (.cells (Cz (fun i => x / 2 ^ (8 * i) % 256) 1 1) 5) = w' := little_any x 1 (by omega) w
set_option maxHeartbeats 400000 in
theorem int_any (A : Option Addr) (n cap : Nat) (l : List UInt8) (x : Int) (w : World) (hs : Shows w w.heap.size A n cap l) (hn : n ≤ 100000000000) :
    Calls Tryz.prog 65 #[.slice A n cap, .int .i64 x] w fun e w' => ∃ A2 c2, e = .returned (.slice A2 (n + 8) c2) ∧ w'.ownsRow w.heap.size 5 1 (.slice A2 (n + 8) c2) (n + 8) (bc (l ++ leb x 8)) ∧ Below w.heap.size w w' := by
  have hb : Below w.heap.size w (w.alloc (.cells (Cz (fun i => x / 2 ^ (8 * i) % 256) 8 8) 5)) := (Below.refl _ _).alloc (Nat.le_refl _) _
  have hc := concat_two ⟨A, n, cap, l⟩ ⟨some ⟨w.heap.size, 0, none⟩, 8, 8, leb x 8⟩ _ (w.heap.size + 1) (by simp) ((hs.below hb).more (by simp)) (shows_lit x 8 (by omega) w) (by simp; omega)
  go_enter Tryz.func65, Tryz.ntmps65
  go_wp2_with fail
  refine (little8 _ _).mono ?_
  rintro e w1 ⟨rfl, rfl⟩
  go_wp2_with fail
  refine hc.mono ?_
  rintro e w2 ⟨A2, c2, rfl, hown, hbel⟩
  go_wp2
  go_ret
  exact ⟨A2, c2, rfl, own_mono hown (by omega), hb.trans (hbel.mono (by omega))⟩

end Go.Proofs.YtmebdnblobobnaaGreatDoor

namespace Go.Proofs.YtmebdnblobobnaaGreatDoor
set_option maxRecDepth 100000
open Go.RowKit _root_.Go.Proofs.YtmebdnblobobnaaGreatDoor.Wd _root_.Go.Proofs.YtmebdnblobobnaaGreatDoor.Nm

/-- A Reader in block g: the bytes that are left, and the first error. -/
def Rd (w : World) (g : Nat) (l : List UInt8) (er : Int) : Prop := ∃ A n cap, w.heap[g]? = some (.cells #[.slice A n cap, .int .i64 er] 152 (0, 0)) ∧ Shows w g A n cap l

theorem Rd.lt {w : World} {g : Nat} {l : List UInt8} {er : Int} (h : Rd w g l er) : g < w.heap.size := by
  obtain ⟨A, n, cap, hg, _⟩ := h
  exact (Array.getElem?_eq_some_iff.1 hg).1
theorem heap_set (w : World) (g i : Nat) (cs : Array Value) (T : TypeId) (u : Value) (hg : w.heap[g]? = some (.cells cs T (0, 0))) : (w.setCell ⟨g, i, none⟩ u).heap[g]? = some (.cells (cs.setIfInBounds i u) T (0, 0)) := by
  simp [World.setCell, Array.getElem?_modify, hg]
theorem grow_set1 (w : World) (g i : Nat) (u : Value) : w.grownBy (w.setCell ⟨g, i, none⟩ u) (some g) :=
  ⟨rfl, rfl, rfl, by simp [World.setCell], fun k _ hne => Below.heap_setCell w ⟨g, i, none⟩ u k (fun e => hne (by rw [e]))⟩
theorem shows_set {w : World} {g : Nat} {A : Option Addr} {n cap : Nat} {l : List UInt8} (h : Shows w g A n cap l) (i : Nat) (u : Value) : Shows (w.setCell ⟨g, i, none⟩ u) g A n cap l :=
  h.keep fun p hp => World.cell?_setCell_other w _ p u (fun e => by subst e; simp at hp)
theorem Rd.grown {w w' : World} {g : Nat} {l : List UInt8} {er : Int} {row : Option Nat} (h : Rd w g l er) (hg : w.grownBy w' row) (hr : ∀ k, row = some k → g < k) : Rd w' g l er := by
  have hlt := h.lt
  obtain ⟨A, n, cap, hh, hs⟩ := h
  refine ⟨A, n, cap, (hg.block g hlt (fun e => ?_)).trans hh, hs.grown hg (by omega) (fun k hk => by have := hr k hk; omega)⟩
  have := hr g e.symm
  omega

set_option maxHeartbeats 400000 in
theorem take_yes (g : Nat) (l : List UInt8) (er : Int) (k : Nat) (w : World) (hr : Rd w g l er) (hk : k ≤ 100000) (hn : k ≤ l.length) :
    Calls Tryz.prog 122 #[.pointer (some ⟨g, 0, none⟩), .int .i64 k] w fun e w' => ∃ A cap, e = .returned (.tuple #[.slice A k cap, .int .i64 0]) ∧ Shows w' g A k cap (l.take k) ∧ Rd w' g (l.drop k) er ∧ w.grownBy w' (some g) := by
  obtain ⟨A, n, cap, hg, hs⟩ := hr
  rw [hs.len] at hn
  have c0 : w.cell? ⟨g, 0, none⟩ = some (.slice A n cap) := by rw [cell_of_row w g 0 _ _ (0, 0) hg]; rfl
  have f0 : w.frozen? ⟨g, 0, none⟩ = false := by simp [World.frozen?, hg]
  have hle := hs.le
  have ht := hs.take hn
  have hd := hs.drop hn
  by_cases hc : cap = k
  · have hnk : n = k := by omega
    subst hc hnk
    rw [if_pos rfl, Nat.sub_self] at hd
    go_enter Tryz.func122, Tryz.ntmps122
    go_wp2
    go_ret2
    exact ⟨A, _, rfl, shows_set ht _ _, ⟨_, _, _, heap_set w g 0 _ _ _ hg, shows_set hd _ _⟩, grow_set1 _ _ _ _⟩
  · rw [if_neg hc] at hd
    go_enter Tryz.func122, Tryz.ntmps122
    go_wp2
    go_ret2
    exact ⟨A, _, rfl, shows_set ht _ _, ⟨_, _, _, heap_set w g 0 _ _ _ hg, shows_set hd _ _⟩, grow_set1 _ _ _ _⟩

set_option maxHeartbeats 400000 in
theorem take_no (g : Nat) (l : List UInt8) (er : Int) (k : Nat) (w : World) (hr : Rd w g l er) (_hk : k ≤ 100000) (hn : l.length < k) :
    Calls Tryz.prog 122 #[.pointer (some ⟨g, 0, none⟩), .int .i64 k] w fun e w' => e = .returned (.tuple #[.slice none 0 0, .int .i64 8]) ∧ w = w' := by
  obtain ⟨A, n, cap, hg, hs⟩ := hr
  rw [hs.len] at hn
  have c0 : w.cell? ⟨g, 0, none⟩ = some (.slice A n cap) := by rw [cell_of_row w g 0 _ _ (0, 0) hg]; rfl
  go_enter Tryz.func122, Tryz.ntmps122
  go_wp2
  go_ret2
  exact ⟨rfl, rfl⟩

set_option maxHeartbeats 400000 in
theorem srclittle_yes (g : Nat) (l : List UInt8) (er : Int) (k : Nat) (w : World) (hr : Rd w g l er) (hk : k ≤ 8) (hn : k ≤ l.length) :
    Calls Tryz.prog 119 #[.pointer (some ⟨g, 0, none⟩), .int .i64 k] w fun e w' => e = .returned (.tuple #[.int .i64 (wrap64 (leNat (l.take k) : Nat)), .int .i64 0]) ∧ Rd w' g (l.drop k) er ∧ w.grownBy w' (some g) := by
  have HN := Lib.hid hn
  have ht := take_yes g l er k w hr (by omega) hn
  have h0 : wrap64 ((leNat (l.take 0) : Nat) : Int) = 0 := by simp [leNat, wrap64]
  have H0 := Lib.hid h0
  clear hn h0 hr
  go_enter Tryz.func119, Tryz.ntmps119
  go_wp2_with fail
  refine ht.mono ?_
  clear ht
  rintro e w1 ⟨A, cap, rfl, hs, hr1, hg1⟩
  go_wp2
  go_loop [8, 9, 10, 19] (fun s _ _ i => ∃ j : Nat, j ≤ k ∧ i = .int .i64 j ∧ s = .int .i64 (wrap64 (leNat (l.take j) : Nat))) (fun _ _ _ i => k - (intOf i).toNat)
  case atStart => exact ⟨0, Nat.zero_le _, rfl, by rw [H0.out]⟩
  case round =>
    obtain ⟨j, hj, rfl, rfl⟩ := hrel
    by_cases hlt : j < k
    · obtain ⟨b, o, rfl, _, hc⟩ := hs.spot (by omega)
      have hjl : j < l.length := by have := HN.out; omega
      have hcj : w1.cell? ⟨b, o + j, none⟩ = some (.int .u8 (l[j].toNat : Int)) := by rw [hc j (by rw [hs.len]; exact hlt), List.getElem_take]
      have ho := or_at (leNat (l.take j)) l[j].toNat j (by have := leNat_lt (l.take j); rw [List.length_take, Nat.min_eq_left (by omega)] at this; exact this) l[j].toNat_lt (by omega)
      have HO := Lib.hid ho
      clear hc ho hs hr1 hg1
      go_wp2
      go_round
      case rel => exact ⟨j + 1, by omega, by go_num, by rw [HO.out, leNat_next l j hjl]⟩
      case measure => simp [intOf]; omega
    · obtain rfl : j = k := by omega
      go_wp2
      go_ret2
      exact ⟨rfl, hr1, hg1⟩

set_option maxHeartbeats 400000 in
theorem srclittle_no (g : Nat) (l : List UInt8) (er : Int) (k : Nat) (w : World) (hr : Rd w g l er) (hk : k ≤ 8) (hn : l.length < k) :
    Calls Tryz.prog 119 #[.pointer (some ⟨g, 0, none⟩), .int .i64 k] w fun e w' => e = .returned (.tuple #[.int .i64 0, .int .i64 8]) ∧ w = w' := by
  have ht := take_no g l er k w hr (by omega) hn
  clear hn hr
  go_enter Tryz.func119, Tryz.ntmps119
  go_wp2_with fail
  refine ht.mono ?_
  clear ht
  rintro e w1 ⟨rfl, rfl⟩
  go_wp2
  go_loop [8, 9, 10, 19] (fun s _ _ i => s = .int .i64 0 ∧ i = .int .i64 0) (fun _ _ _ _ => 0)
  case atStart => exact ⟨rfl, rfl⟩
  case round =>
    obtain ⟨rfl, rfl⟩ := hrel
    go_wp2
    go_ret2
    exact ⟨rfl, rfl⟩
end Go.Proofs.YtmebdnblobobnaaGreatDoor

namespace Go.Proofs.YtmebdnblobobnaaGreatDoor
set_option maxRecDepth 100000
open Go.RowKit _root_.Go.Proofs.YtmebdnblobobnaaGreatDoor.Wd _root_.Go.Proofs.YtmebdnblobobnaaGreatDoor.Nm

/-! ### the model: what a Reader holds is (the bytes that are left, the first error) -/
def rdNum (k : Nat) (l : List UInt8) (er : Int) : Int × List UInt8 × Int :=
  if er = 0 then (if k ≤ l.length then (wrap64 (leNat (l.take k) : Nat), l.drop k, 0) else (0, l, 8)) else (0, l, er)
def rdTextOf (m : Nat) (l : List UInt8) : List UInt8 × List UInt8 × Int :=
  if m ≤ l.length then (l.take m, l.drop m, 0) else ([], l, 8)
def rdText (l : List UInt8) (er : Int) : List UInt8 × List UInt8 × Int :=
  if er = 0 then (if 2 ≤ l.length then rdTextOf (leNat (l.take 2)) (l.drop 2) else ([], l, 8)) else ([], l, er)
def rdFail (f er : Int) : Int := if er = 0 then f else er
def rdEnd (l : List UInt8) (er : Int) : Int := if er = 0 ∧ 0 < l.length then 9 else er

theorem Rd.cell1 {w : World} {g : Nat} {l : List UInt8} {er : Int} (h : Rd w g l er) : w.cell? ⟨g, 1, none⟩ = some (.int .i64 er) := by
  obtain ⟨A, n, cap, hg, _⟩ := h
  rw [cell_of_row w g 1 _ _ (0, 0) hg]; rfl
theorem Rd.free {w : World} {g : Nat} {l : List UInt8} {er : Int} (h : Rd w g l er) (i : Nat) : w.frozen? ⟨g, i, none⟩ = false := by
  obtain ⟨A, n, cap, hg, _⟩ := h
  simp [World.frozen?, hg]
theorem Rd.set1 {w : World} {g : Nat} {l : List UInt8} {er : Int} (h : Rd w g l er) (f : Int) : Rd (w.setCell ⟨g, 1, none⟩ (.int .i64 f)) g l f := by
  obtain ⟨A, n, cap, hg, hs⟩ := h
  exact ⟨A, n, cap, heap_set w g 1 _ _ _ hg, shows_set hs _ _⟩
theorem Rd.drew {w : World} {g : Nat} {l : List UInt8} {er : Int} (h : Rd w g l er) : Rd w.drew g l er := by
  obtain ⟨A, n, cap, hg, hs⟩ := h
  exact ⟨A, n, cap, hg, hs.keep fun _ _ => rfl⟩
theorem drew_grow {w w' : World} {row : Option Nat} (h : w.drew.grownBy w' row) : w.grownBy w' row := ⟨h.os, h.tape, h.output, h.size, h.block⟩

theorem sound_yes (g : Nat) (w : World) (c1 : w.cell? ⟨g, 1, none⟩ = some (.int .i64 0)) :
    Calls Tryz.prog 110 #[.pointer (some ⟨g, 1, none⟩)] w fun e w' => e = .returned (.bool true) ∧ w = w' := by
  go_enter Tryz.func110, Tryz.ntmps110
  go_wp2
  go_ret
  exact ⟨rfl, rfl⟩
theorem sound_no (g : Nat) (er : Int) (w : World) (c1 : w.cell? ⟨g, 1, none⟩ = some (.int .i64 er)) (h : (er == 0) = false) :
    Calls Tryz.prog 110 #[.pointer (some ⟨g, 1, none⟩)] w fun e w' => e = .returned (.bool false) ∧ w = w' := by
  go_enter Tryz.func110, Tryz.ntmps110
  go_wp2
  go_ret
  exact ⟨rfl, rfl⟩
theorem note_yes (g : Nat) (l : List UInt8) (f : Int) (w : World) (hr : Rd w g l 0) :
    Calls Tryz.prog 118 #[.pointer (some ⟨g, 1, none⟩), .int .i64 f] w fun e w' => e = .returned (.tuple #[]) ∧ Rd w' g l f ∧ w.grownBy w' (some g) := by
  have c1 := hr.cell1
  have f1 := hr.free 1
  have hs := hr.set1 f
  have hg := grow_set1 w g 1 (.int .i64 f)
  clear hr
  go_enter Tryz.func118, Tryz.ntmps118
  go_wp2_with (go_at_call 110; refine (sound_yes _ _ c1).mono ?_; rintro e w1 ⟨rfl, rfl⟩)
  go_end0
  exact ⟨rfl, hs, hg⟩
theorem note_no (g : Nat) (l : List UInt8) (er f : Int) (w : World) (hr : Rd w g l er) (h : (er == 0) = false) :
    Calls Tryz.prog 118 #[.pointer (some ⟨g, 1, none⟩), .int .i64 f] w fun e w' => e = .returned (.tuple #[]) ∧ w = w' := by
  have c1 := hr.cell1
  go_enter Tryz.func118, Tryz.ntmps118
  go_wp2_with (go_at_call 110; refine (sound_no _ _ _ c1 h).mono ?_; rintro e w1 ⟨rfl, rfl⟩)
  go_end0
  exact ⟨rfl, rfl⟩

/-! ### number -/
theorem number_yes (g : Nat) (l : List UInt8) (er : Int) (w : World) (hr : Rd w g l er) (hn : 8 ≤ l.length) :
    Calls Tryz.prog 108 #[.pointer (some ⟨g, 0, none⟩)] w fun e w' => e = .returned (.tuple #[.int .i64 (wrap64 (leNat (l.take 8) : Nat)), .int .i64 0]) ∧ Rd w' g (l.drop 8) er ∧ w.grownBy w' (some g) := by
  have ht := srclittle_yes g l er 8 w hr (by omega) hn
  clear hn hr
  go_enter Tryz.func108, Tryz.ntmps108
  go_wp2_with fail
  refine ht.mono ?_
  clear ht
  rintro e w1 ⟨rfl, hr1, hg1⟩
  go_wp2
  go_ret2
  exact ⟨rfl, hr1, hg1⟩
theorem number_no (g : Nat) (l : List UInt8) (er : Int) (w : World) (hr : Rd w g l er) (hn : l.length < 8) :
    Calls Tryz.prog 108 #[.pointer (some ⟨g, 0, none⟩)] w fun e w' => e = .returned (.tuple #[.int .i64 0, .int .i64 8]) ∧ w = w' := by
  have ht := srclittle_no g l er 8 w hr (by omega) hn
  clear hn hr
  go_enter Tryz.func108, Tryz.ntmps108
  go_wp2_with fail
  refine ht.mono ?_
  clear ht
  rintro e w1 ⟨rfl, rfl⟩
  go_wp2
  go_ret2
  exact ⟨rfl, rfl⟩
set_option maxHeartbeats 400000 in
theorem next_number (g : Nat) (l : List UInt8) (er : Int) (w : World) (hr : Rd w g l er) :
    Calls Tryz.prog 107 #[.pointer (some ⟨g, 1, none⟩), .func (.func 108) #[.pointer (some ⟨g, 0, none⟩)] #[]] w fun e w' => e = .returned (.int .i64 (rdNum 8 l er).1) ∧ Rd w' g (rdNum 8 l er).2.1 (rdNum 8 l er).2.2 ∧ w.grownBy w' (some g) := by
  have c1 := hr.cell1
  by_cases h0 : er = 0
  · subst h0
    by_cases hn : 8 ≤ l.length
    · have e1 : rdNum 8 l 0 = (wrap64 (leNat (l.take 8) : Nat), l.drop 8, 0) := by unfold rdNum; rw [if_pos rfl, if_pos hn]
      rw [e1]
      have ht := number_yes g l 0 w hr hn
      clear e1 hn hr
      go_enter Tryz.func107, Tryz.ntmps107
      go_wp2_with fail
      refine (sound_yes _ _ c1).mono ?_
      rintro e w1 ⟨rfl, rfl⟩
      go_wp2_with fail
      refine ht.mono ?_
      rintro e w1 ⟨rfl, hr1, hg1⟩
      clear ht c1
      go_wp2
      go_ret
      exact ⟨rfl, hr1, hg1⟩
    · have e1 : rdNum 8 l 0 = (0, l, 8) := by unfold rdNum; rw [if_pos rfl, if_neg hn]
      rw [e1]
      have ht := number_no g l 0 w hr (by omega)
      have hnote := note_yes g l 8 w hr
      clear e1 hn hr
      go_enter Tryz.func107, Tryz.ntmps107
      go_wp2_with fail
      refine (sound_yes _ _ c1).mono ?_
      rintro e w1 ⟨rfl, rfl⟩
      go_wp2_with fail
      refine ht.mono ?_
      rintro e w1 ⟨rfl, rfl⟩
      clear ht c1
      go_wp2_with fail
      refine hnote.mono ?_
      rintro e w1 ⟨rfl, hr1, hg1⟩
      clear hnote
      go_wp2
      go_ret
      exact ⟨rfl, hr1, hg1⟩
  · have e1 : rdNum 8 l er = (0, l, er) := by unfold rdNum; rw [if_neg h0]
    rw [e1]
    have hb : (er == 0) = false := by simpa using h0
    have hs := sound_no g er w c1 hb
    clear e1 hb h0 c1
    go_enter Tryz.func107, Tryz.ntmps107
    go_wp2_with fail
    refine hs.mono ?_
    rintro e w1 ⟨rfl, rfl⟩
    clear hs
    go_wp2
    go_ret
    exact ⟨rfl, hr, grow_refl _ _⟩
set_option maxHeartbeats 400000 in
theorem read_Int (g : Nat) (l : List UInt8) (er : Int) (w : World) (hr : Rd w g l er) :
    Calls Tryz.prog 88 #[.pointer (some ⟨g, 0, none⟩)] w fun e w' => e = .returned (.int .i64 (rdNum 8 l er).1) ∧ Rd w' g (rdNum 8 l er).2.1 (rdNum 8 l er).2.2 ∧ w.grownBy w' (some g) := by
  have ht := next_number g l er w.drew hr.drew
  have hmf : ∀ (fn : Fn) (first cap : Array Value) (w : World), (Instr.makeFunc fn first cap).run Tryz.prog w = .ok (.func fn first cap) w := fun _ _ _ _ => rfl
  clear hr
  go_enter Tryz.func88, Tryz.ntmps88
  go_wp2
  go_region_with ((go_at_call 107; refine ht.mono ?_; rintro e w1 ⟨rfl, hr1, hg1⟩))
  all_goals (go_wp2; go_ret; exact ⟨rfl, hr1, drew_grow hg1⟩)

/-! ### octet -/
theorem octet_yes (g : Nat) (l : List UInt8) (er : Int) (w : World) (hr : Rd w g l er) (hn : 1 ≤ l.length) :
    Calls Tryz.prog 109 #[.pointer (some ⟨g, 0, none⟩)] w fun e w' => e = .returned (.tuple #[.int .i64 (wrap64 (leNat (l.take 1) : Nat)), .int .i64 0]) ∧ Rd w' g (l.drop 1) er ∧ w.grownBy w' (some g) := by
  have ht := srclittle_yes g l er 1 w hr (by omega) hn
  clear hn hr
  go_enter Tryz.func109, Tryz.ntmps109
  go_wp2_with fail
  refine ht.mono ?_
  clear ht
  rintro e w1 ⟨rfl, hr1, hg1⟩
  go_wp2
  go_ret2
  exact ⟨rfl, hr1, hg1⟩
theorem octet_no (g : Nat) (l : List UInt8) (er : Int) (w : World) (hr : Rd w g l er) (hn : l.length < 1) :
    Calls Tryz.prog 109 #[.pointer (some ⟨g, 0, none⟩)] w fun e w' => e = .returned (.tuple #[.int .i64 0, .int .i64 8]) ∧ w = w' := by
  have ht := srclittle_no g l er 1 w hr (by omega) hn
  clear hn hr
  go_enter Tryz.func109, Tryz.ntmps109
  go_wp2_with fail
  refine ht.mono ?_
  clear ht
  rintro e w1 ⟨rfl, rfl⟩
  go_wp2
  go_ret2
  exact ⟨rfl, rfl⟩
set_option maxHeartbeats 400000 in
theorem next_octet (g : Nat) (l : List UInt8) (er : Int) (w : World) (hr : Rd w g l er) :
    Calls Tryz.prog 107 #[.pointer (some ⟨g, 1, none⟩), .func (.func 109) #[.pointer (some ⟨g, 0, none⟩)] #[]] w fun e w' => e = .returned (.int .i64 (rdNum 1 l er).1) ∧ Rd w' g (rdNum 1 l er).2.1 (rdNum 1 l er).2.2 ∧ w.grownBy w' (some g) := by
  have c1 := hr.cell1
  by_cases h0 : er = 0
  · subst h0
    by_cases hn : 1 ≤ l.length
    · have e1 : rdNum 1 l 0 = (wrap64 (leNat (l.take 1) : Nat), l.drop 1, 0) := by unfold rdNum; rw [if_pos rfl, if_pos hn]
      rw [e1]
      have ht := octet_yes g l 0 w hr hn
      clear e1 hn hr
      go_enter Tryz.func107, Tryz.ntmps107
      go_wp2_with fail
      refine (sound_yes _ _ c1).mono ?_
      rintro e w1 ⟨rfl, rfl⟩
      go_wp2_with fail
      refine ht.mono ?_
      rintro e w1 ⟨rfl, hr1, hg1⟩
      clear ht c1
      go_wp2
      go_ret
      exact ⟨rfl, hr1, hg1⟩
    · have e1 : rdNum 1 l 0 = (0, l, 8) := by unfold rdNum; rw [if_pos rfl, if_neg hn]
      rw [e1]
      have ht := octet_no g l 0 w hr (by omega)
      have hnote := note_yes g l 8 w hr
      clear e1 hn hr
      go_enter Tryz.func107, Tryz.ntmps107
      go_wp2_with fail
      refine (sound_yes _ _ c1).mono ?_
      rintro e w1 ⟨rfl, rfl⟩
      go_wp2_with fail
      refine ht.mono ?_
      rintro e w1 ⟨rfl, rfl⟩
      clear ht c1
      go_wp2_with fail
      refine hnote.mono ?_
      rintro e w1 ⟨rfl, hr1, hg1⟩
      clear hnote
      go_wp2
      go_ret
      exact ⟨rfl, hr1, hg1⟩
  · have e1 : rdNum 1 l er = (0, l, er) := by unfold rdNum; rw [if_neg h0]
    rw [e1]
    have hb : (er == 0) = false := by simpa using h0
    have hs := sound_no g er w c1 hb
    clear e1 hb h0 c1
    go_enter Tryz.func107, Tryz.ntmps107
    go_wp2_with fail
    refine hs.mono ?_
    rintro e w1 ⟨rfl, rfl⟩
    clear hs
    go_wp2
    go_ret
    exact ⟨rfl, hr, grow_refl _ _⟩
set_option maxHeartbeats 400000 in
theorem read_Byte (g : Nat) (l : List UInt8) (er : Int) (w : World) (hr : Rd w g l er) :
    Calls Tryz.prog 89 #[.pointer (some ⟨g, 0, none⟩)] w fun e w' => e = .returned (.int .i64 (rdNum 1 l er).1) ∧ Rd w' g (rdNum 1 l er).2.1 (rdNum 1 l er).2.2 ∧ w.grownBy w' (some g) := by
  have ht := next_octet g l er w.drew hr.drew
  have hmf : ∀ (fn : Fn) (first cap : Array Value) (w : World), (Instr.makeFunc fn first cap).run Tryz.prog w = .ok (.func fn first cap) w := fun _ _ _ _ => rfl
  clear hr
  go_enter Tryz.func89, Tryz.ntmps89
  go_wp2
  go_region_with ((go_at_call 107; refine ht.mono ?_; rintro e w1 ⟨rfl, hr1, hg1⟩))
  all_goals (go_wp2; go_ret; exact ⟨rfl, hr1, drew_grow hg1⟩)
end Go.Proofs.YtmebdnblobobnaaGreatDoor

namespace Go.Proofs.YtmebdnblobobnaaGreatDoor
set_option maxRecDepth 100000
open Go.RowKit _root_.Go.Proofs.YtmebdnblobobnaaGreatDoor.Wd _root_.Go.Proofs.YtmebdnblobobnaaGreatDoor.Nm

set_option maxHeartbeats 400000 in
theorem codeend_any (g : Nat) (l : List UInt8) (er : Int) (w : World) (hr : Rd w g l er) :
    Calls Tryz.prog 90 #[.pointer (some ⟨g, 0, none⟩)] w fun e w' => e = .returned (.int .i64 (rdEnd l er)) ∧ w = w' := by
  have c1 := hr.cell1
  obtain ⟨A, n, cap, hg, hs⟩ := hr
  have c0 : w.cell? ⟨g, 0, none⟩ = some (.slice A n cap) := by rw [cell_of_row w g 0 _ _ (0, 0) hg]; rfl
  have hl := hs.len
  clear hg hs
  by_cases h0 : er = 0
  · subst h0
    by_cases hn : 0 < n
    · have e1 : rdEnd l 0 = 9 := by unfold rdEnd; rw [if_pos ⟨rfl, by omega⟩]
      rw [e1]
      clear hl e1
      go_enter Tryz.func90, Tryz.ntmps90
      go_wp2_with fail
      refine (sound_yes _ _ c1).mono ?_
      rintro e w1 ⟨rfl, rfl⟩
      go_wp2
      go_ret
      exact ⟨rfl, rfl⟩
    · have e1 : rdEnd l 0 = 0 := by unfold rdEnd; rw [if_neg (fun h => hn (by omega))]
      rw [e1]
      obtain rfl : n = 0 := by omega
      clear hl e1 hn
      go_enter Tryz.func90, Tryz.ntmps90
      go_wp2_with fail
      refine (sound_yes _ _ c1).mono ?_
      rintro e w1 ⟨rfl, rfl⟩
      go_wp2
      go_ret
      exact ⟨rfl, rfl⟩
  · have e1 : rdEnd l er = er := by unfold rdEnd; rw [if_neg (fun h => h0 h.1)]
    rw [e1]
    have hb : (er == 0) = false := by simpa using h0
    have hs := sound_no g er w c1 hb
    clear hl e1 h0 hb
    go_enter Tryz.func90, Tryz.ntmps90
    go_wp2_with fail
    refine hs.mono ?_
    rintro e w1 ⟨rfl, rfl⟩
    clear hs
    go_wp2
    go_ret
    exact ⟨rfl, rfl⟩

set_option maxHeartbeats 400000 in
theorem codenew_any (A : Option Addr) (n cap : Nat) (l : List UInt8) (w : World) (hs : Shows w w.heap.size A n cap l) (hn : n ≤ 100000000000) :
    Calls Tryz.prog 87 #[.slice A n cap] w fun e w' => ∃ g, e = .returned (.pointer (some ⟨g, 0, none⟩)) ∧ Rd w' g l 0 ∧ w.heap.size ≤ g ∧ Below w.heap.size w w' := by
  have hc := clone_any A n cap l w hs hn
  clear hs
  go_enter Tryz.func87, Tryz.ntmps87
  go_wp2_with fail
  refine hc.mono ?_
  rintro e w1 ⟨A2, c2, rfl, hs2, hb2⟩
  clear hc
  go_wp2
  go_ret
  exact ⟨w1.heap.size, rfl, ⟨A2, n, c2, heap_alloc_new w1 _, hs2.below ((Below.refl _ _).alloc (Nat.le_refl _) _)⟩, hb2.size, hb2.alloc hb2.size _⟩
end Go.Proofs.YtmebdnblobobnaaGreatDoor

