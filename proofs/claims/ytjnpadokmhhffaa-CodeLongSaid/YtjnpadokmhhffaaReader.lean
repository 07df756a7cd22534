/- Contracts for package code's Reader: what New, Int, Byte, Text, Fail and End answer, and what the Reader holds behind them. -/
import Derived.Test.YtjnpadokmhhffaaCode
import Derived.Lib.Hide
namespace Go.Proofs.Ytjnpadokmhhffaa
open Go.RowKit Wd Nm

/-- A Reader in block g: the bytes that are left, and the first error. -/
def Rd (w : World) (g : Nat) (l : List UInt8) (er : Int) : Prop := ∃ A n cap, w.heap[g]? = some (.cells #[.slice A n cap, .int .i64 er] 56 (0, 0)) ∧ Shows w g A n cap l

theorem Rd.lt {w : World} {g : Nat} {l : List UInt8} {er : Int} (h : Rd w g l er) : g < w.heap.size := by
  obtain ⟨A, n, cap, hg, _⟩ := h
  exact (Array.getElem?_eq_some_iff.1 hg).1
theorem heap_set (w : World) (g i : Nat) (cs : Array Value) (T : TypeId) (u : Value) (hg : w.heap[g]? = some (.cells cs T (0, 0))) : (w.setCell ⟨g, i, none⟩ u).heap[g]? = some (.cells (cs.setIfInBounds i u) T (0, 0)) := by
  simp [World.setCell, Array.getElem?_modify, hg]
theorem grow_set (w : World) (g i : Nat) (u : Value) : w.grownBy (w.setCell ⟨g, i, none⟩ u) (some g) :=
  ⟨rfl, rfl, rfl, by simp [World.setCell], fun k _ hne => Below.heap_setCell w ⟨g, i, none⟩ u k (fun e => hne (by rw [e]))⟩
theorem shows_set {w : World} {g : Nat} {A : Option Addr} {n cap : Nat} {l : List UInt8} (h : Shows w g A n cap l) (i : Nat) (u : Value) : Shows (w.setCell ⟨g, i, none⟩ u) g A n cap l :=
  h.keep fun p hp => World.cell?_setCell_other w _ p u (fun e => by subst e; simp at hp)
theorem Rd.grown {w w' : World} {g : Nat} {l : List UInt8} {er : Int} {row : Option Nat} (h : Rd w g l er) (hg : w.grownBy w' row) (hr : ∀ k, row = some k → g < k) : Rd w' g l er := by
  have hlt := h.lt
  obtain ⟨A, n, cap, hh, hs⟩ := h
  refine ⟨A, n, cap, (hg.block g hlt (fun e => ?_)).trans hh, hs.grown hg (by omega) (fun k hk => by have := hr k hk; omega)⟩
  have := hr g e.symm
  omega

set_option maxHeartbeats 400000 in
theorem take_yes (g : Nat) (l : List UInt8) (er : Int) (k : Nat) (w : World) (hr : Rd w g l er) (hk : k ≤ 100000) (hn : k ≤ l.length) :
    Calls Try.prog 43 #[.pointer (some ⟨g, 0, none⟩), .int .i64 k] w fun e w' => ∃ A cap, e = .returned (.tuple #[.slice A k cap, .int .i64 0]) ∧ Shows w' g A k cap (l.take k) ∧ Rd w' g (l.drop k) er ∧ w.grownBy w' (some g) := by
  obtain ⟨A, n, cap, hg, hs⟩ := hr
  rw [hs.len] at hn
  have c0 : w.cell? ⟨g, 0, none⟩ = some (.slice A n cap) := by rw [cell_of_row w g 0 _ _ (0, 0) hg]; rfl
  have f0 : w.frozen? ⟨g, 0, none⟩ = false := by simp [World.frozen?, hg]
  have hle := hs.le
  have ht := hs.take hn
  have hd := hs.drop hn
  by_cases hc : cap = k
  · have hnk : n = k := by omega
    subst hc hnk
    rw [if_pos rfl, Nat.sub_self] at hd
    go_enter Try.func43, Try.ntmps43
    go_wp2
    go_ret2
    exact ⟨A, _, rfl, shows_set ht _ _, ⟨_, _, _, heap_set w g 0 _ _ _ hg, shows_set hd _ _⟩, grow_set _ _ _ _⟩
  · rw [if_neg hc] at hd
    go_enter Try.func43, Try.ntmps43
    go_wp2
    go_ret2
    exact ⟨A, _, rfl, shows_set ht _ _, ⟨_, _, _, heap_set w g 0 _ _ _ hg, shows_set hd _ _⟩, grow_set _ _ _ _⟩

set_option maxHeartbeats 400000 in
theorem take_no (g : Nat) (l : List UInt8) (er : Int) (k : Nat) (w : World) (hr : Rd w g l er) (_hk : k ≤ 100000) (hn : l.length < k) :
    Calls Try.prog 43 #[.pointer (some ⟨g, 0, none⟩), .int .i64 k] w fun e w' => e = .returned (.tuple #[.slice none 0 0, .int .i64 8]) ∧ w = w' := by
  obtain ⟨A, n, cap, hg, hs⟩ := hr
  rw [hs.len] at hn
  have c0 : w.cell? ⟨g, 0, none⟩ = some (.slice A n cap) := by rw [cell_of_row w g 0 _ _ (0, 0) hg]; rfl
  go_enter Try.func43, Try.ntmps43
  go_wp2
  go_ret2
  exact ⟨rfl, rfl⟩

set_option maxHeartbeats 400000 in
theorem srclittle_yes (g : Nat) (l : List UInt8) (er : Int) (k : Nat) (w : World) (hr : Rd w g l er) (hk : k ≤ 8) (hn : k ≤ l.length) :
    Calls Try.prog 42 #[.pointer (some ⟨g, 0, none⟩), .int .i64 k] w fun e w' => e = .returned (.tuple #[.int .i64 (wrap64 (leNat (l.take k) : Nat)), .int .i64 0]) ∧ Rd w' g (l.drop k) er ∧ w.grownBy w' (some g) := by
  have HN := Lib.hid hn
  have ht := take_yes g l er k w hr (by omega) hn
  have h0 : wrap64 ((leNat (l.take 0) : Nat) : Int) = 0 := by simp [leNat, wrap64]
  have H0 := Lib.hid h0
  clear hn h0 hr
  go_enter Try.func42, Try.ntmps42
  go_wp2_with fail
  refine ht.mono ?_
  clear ht
  rintro e w1 ⟨A, cap, rfl, hs, hr1, hg1⟩
  go_wp2
  go_loop [8, 9, 10, 19] (fun s _ _ i => ∃ j : Nat, j ≤ k ∧ i = .int .i64 j ∧ s = .int .i64 (wrap64 (leNat (l.take j) : Nat))) (fun _ _ _ i => k - (intOf i).toNat)
  case atStart => exact ⟨0, Nat.zero_le _, rfl, by rw [H0.out]⟩
  case round =>
    obtain ⟨j, hj, rfl, rfl⟩ := hrel
    by_cases hlt : j < k
    · obtain ⟨b, o, rfl, _, hc⟩ := hs.spot (by omega)
      have hjl : j < l.length := by have := HN.out; omega
      have hcj : w1.cell? ⟨b, o + j, none⟩ = some (.int .u8 (l[j].toNat : Int)) := by rw [hc j (by rw [hs.len]; exact hlt), List.getElem_take]
      have ho := or_at (leNat (l.take j)) l[j].toNat j (by have := leNat_lt (l.take j); rw [List.length_take, Nat.min_eq_left (by omega)] at this; exact this) l[j].toNat_lt (by omega)
      have HO := Lib.hid ho
      clear hc ho hs hr1 hg1
      go_wp2
      go_round
      case rel => exact ⟨j + 1, by omega, by go_num, by rw [HO.out, leNat_next l j hjl]⟩
      case measure => simp [intOf]; omega
    · obtain rfl : j = k := by omega
      go_wp2
      go_ret2
      exact ⟨rfl, hr1, hg1⟩

set_option maxHeartbeats 400000 in
theorem srclittle_no (g : Nat) (l : List UInt8) (er : Int) (k : Nat) (w : World) (hr : Rd w g l er) (hk : k ≤ 8) (hn : l.length < k) :
    Calls Try.prog 42 #[.pointer (some ⟨g, 0, none⟩), .int .i64 k] w fun e w' => e = .returned (.tuple #[.int .i64 0, .int .i64 8]) ∧ w = w' := by
  have ht := take_no g l er k w hr (by omega) hn
  clear hn hr
  go_enter Try.func42, Try.ntmps42
  go_wp2_with fail
  refine ht.mono ?_
  clear ht
  rintro e w1 ⟨rfl, rfl⟩
  go_wp2
  go_loop [8, 9, 10, 19] (fun s _ _ i => s = .int .i64 0 ∧ i = .int .i64 0) (fun _ _ _ _ => 0)
  case atStart => exact ⟨rfl, rfl⟩
  case round =>
    obtain ⟨rfl, rfl⟩ := hrel
    go_wp2
    go_ret2
    exact ⟨rfl, rfl⟩
end Go.Proofs.Ytjnpadokmhhffaa
