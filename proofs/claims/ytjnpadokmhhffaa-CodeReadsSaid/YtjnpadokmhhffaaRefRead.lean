/- Contracts for the reference's Reader (chapter 1): New, take, Int, Byte, Text, Fail, End. -/
import Derived.Test.YtjnpadokmhhffaaReadKit
import Derived.Deep.RegionHeld3
import Derived.Deep.QuietTactic
import Derived.BigQuiet
namespace Go.Proofs.Ytjnpadokmhhffaa
open Go.RowKit Wd Nm

/-- The reference's Reader in block g: all its bytes (they lie below block B), how many of them are read, and the first error. -/
def RR (w : World) (B g : Nat) (bs : List UInt8) (p : Nat) (er : Int) : Prop :=
  ∃ A n cap, w.heap[g]? = some (.cells #[.slice A n cap, .int .i64 p, .int .i64 er] 58 (0, 0)) ∧ Shows w B A n cap bs ∧ p ≤ n ∧ B ≤ g ∧ n ≤ 1000000

theorem RR.lt {w : World} {B g : Nat} {bs : List UInt8} {p : Nat} {er : Int} (h : RR w B g bs p er) : g < w.heap.size := by
  obtain ⟨A, n, cap, hg, _⟩ := h
  exact (Array.getElem?_eq_some_iff.1 hg).1
theorem RR.le {w : World} {B g : Nat} {bs : List UInt8} {p : Nat} {er : Int} (h : RR w B g bs p er) : B ≤ g ∧ p ≤ bs.length := by
  obtain ⟨A, n, cap, hg, hs, hp, hB, _⟩ := h
  exact ⟨hB, by rw [hs.len]; exact hp⟩
theorem RR.grown {w w' : World} {B g : Nat} {bs : List UInt8} {p : Nat} {er : Int} {row : Option Nat} (h : RR w B g bs p er) (hg : w.grownBy w' row) (hr : ∀ k, row = some k → B ≤ k ∧ k ≠ g) : RR w' B g bs p er := by
  have hlt := h.lt
  obtain ⟨A, n, cap, hh, hs, hp, hB, hn⟩ := h
  exact ⟨A, n, cap, (hg.block g hlt (fun e => (hr g e.symm).2 rfl)).trans hh, hs.grown hg (by omega) (fun k hk => (hr k hk).1), hp, hB, hn⟩
theorem RR.drewN {w : World} {B g : Nat} {bs : List UInt8} {p : Nat} {er : Int} (h : RR w B g bs p er) (q : Nat) : RR (w.drewN q) B g bs p er := by
  obtain ⟨A, n, cap, hg, hs, hp, hB, hn⟩ := h
  exact ⟨A, n, cap, hg, hs.keep fun _ _ => rfl, hp, hB, hn⟩
theorem drewN_grow {w w' : World} {q : Nat} {row : Option Nat} (h : (w.drewN q).grownBy w' row) : w.grownBy w' row := ⟨h.os, h.tape, h.output, h.size, h.block⟩
theorem grow_drewN {w w' : World} {row : Option Nat} (h : w.grownBy w' row) (q : Nat) : w.grownBy (w'.drewN q) row := ⟨h.os, h.tape, h.output, h.size, h.block⟩
theorem ret_slice {A : Option Addr} {a b c : Nat} (h : a = b) : Ending.returned (.slice A a c) = .returned (.slice A b c) := by rw [h]
theorem shows_setB {w : World} {B g : Nat} {A : Option Addr} {n cap : Nat} {l : List UInt8} (h : Shows w B A n cap l) (hB : B ≤ g) (i : Nat) (u : Value) : Shows (w.setCell ⟨g, i, none⟩ u) B A n cap l :=
  h.keep fun p hp => World.cell?_setCell_other w _ p u (fun e => by subst e; simp at hp; omega)
theorem RR.setErr {w : World} {B g : Nat} {bs : List UInt8} {p : Nat} {er : Int} (h : RR w B g bs p er) (f : Int) : RR (w.setCell ⟨g, 2, none⟩ (.int .i64 f)) B g bs p f := by
  obtain ⟨A, n, cap, hg, hs, hp, hB, hn⟩ := h
  exact ⟨A, n, cap, heap_set w g 2 _ _ _ hg, shows_setB hs hB _ _, hp, hB, hn⟩

set_option maxHeartbeats 1000000 in
theorem reftake_err (B g : Nat) (bs : List UInt8) (p k : Nat) (er : Int) (w : World) (hr : RR w B g bs p er) (he : (er == 0) = false) :
    Calls Try.prog 35 #[.pointer (some ⟨g, 0, none⟩), .int .i64 k] w fun e w' => e = .returned (.slice none 0 0) ∧ RR w' B g bs p er ∧ w.grownBy w' (some g) := by
  have HR := Lib.hid hr
  obtain ⟨A, n, cap, hg, hs, hp, hB, hn⟩ := hr
  have c2 : w.cell? ⟨g, 2, none⟩ = some (.int .i64 er) := by rw [cell_of_row w g 2 _ _ (0, 0) hg]; rfl
  clear hg hs hp hB hn
  go_enter Try.func35, Try.ntmps35
  go_wp2
  first
    | go_quiet (fail)
    | fail "the region"
  go_wp2
  go_ret
  exact ⟨rfl, HR.out.drewN _, drewN_grow (grow_refl _ _)⟩

set_option maxHeartbeats 1000000 in
theorem reftake_cut (B g : Nat) (bs : List UInt8) (p k : Nat) (w : World) (hr : RR w B g bs p 0) (hk : bs.length < p + k) (hk2 : k ≤ 100000) :
    Calls Try.prog 35 #[.pointer (some ⟨g, 0, none⟩), .int .i64 k] w fun e w' => e = .returned (.slice none 0 0) ∧ RR w' B g bs p 8 ∧ w.grownBy w' (some g) := by
  have HR := Lib.hid hr
  obtain ⟨A, n, cap, hg, hs, hp, hB, hn⟩ := hr
  have c0 : w.cell? ⟨g, 0, none⟩ = some (.slice A n cap) := by rw [cell_of_row w g 0 _ _ (0, 0) hg]; rfl
  have c1 : w.cell? ⟨g, 1, none⟩ = some (.int .i64 p) := by rw [cell_of_row w g 1 _ _ (0, 0) hg]; rfl
  have c2 : w.cell? ⟨g, 2, none⟩ = some (.int .i64 0) := by rw [cell_of_row w g 2 _ _ (0, 0) hg]; rfl
  have f2 : w.frozen? ⟨g, 2, none⟩ = false := by simp [World.frozen?, hg]
  rw [hs.len] at hk
  have hlt : (n : Int) - p < k := by omega
  have hw : IntKind.i64.wrap ((n : Int) - p) = (n : Int) - p := by rw [IntKind.wrap_i64]; omega
  clear hg hs hB
  go_enter Try.func35, Try.ntmps35
  go_wp2
  first
    | go_quiet (fail)
    | fail "the region"
  clear hw
  go_wp2
  go_ret
  exact ⟨rfl, (HR.out.drewN _).setErr 8, drewN_grow (grow_set _ _ _ _)⟩

set_option maxHeartbeats 1000000 in
theorem reftake_ok (B g : Nat) (bs : List UInt8) (p k : Nat) (w : World) (hr : RR w B g bs p 0) (hk : p + k ≤ bs.length) :
    Calls Try.prog 35 #[.pointer (some ⟨g, 0, none⟩), .int .i64 k] w fun e w' => ∃ A2 c2, e = .returned (.slice A2 k c2) ∧ Shows w' B A2 k c2 ((bs.drop p).take k) ∧ RR w' B g bs (p + k) 0 ∧ w.grownBy w' (some g) := by
  have HR := Lib.hid hr
  obtain ⟨A, n, cap, hg, hs, hp, hB, hn⟩ := hr
  have c0 : w.cell? ⟨g, 0, none⟩ = some (.slice A n cap) := by rw [cell_of_row w g 0 _ _ (0, 0) hg]; rfl
  have c1 : w.cell? ⟨g, 1, none⟩ = some (.int .i64 p) := by rw [cell_of_row w g 1 _ _ (0, 0) hg]; rfl
  have c2 : w.cell? ⟨g, 2, none⟩ = some (.int .i64 0) := by rw [cell_of_row w g 2 _ _ (0, 0) hg]; rfl
  have f1 : w.frozen? ⟨g, 1, none⟩ = false := by simp [World.frozen?, hg]
  rw [hs.len] at hk
  have hlt : ¬ (n : Int) - p < k := by omega
  have hw : IntKind.i64.wrap ((n : Int) - p) = (n : Int) - p := by rw [IntKind.wrap_i64]; omega
  have HS := Lib.hid hs
  have HB := Lib.hid hB
  have HG := Lib.hid hg
  have hcap := hs.le
  clear hg hs hB
  go_enter Try.func35, Try.ntmps35
  go_wp2
  first
    | go_quiet (fail)
    | fail "the region"
  clear hw
  go_wp2
  have hgq : (w.drewN nq).heap[g]? = some (.cells #[.slice A n cap, .int .i64 p, .int .i64 0] 58 (0, 0)) := HG.out
  obtain ⟨W, hW⟩ : ∃ W, W = (w.drewN nq).setCell ⟨g, 1, none⟩ (Value.int .i64 ((p : Int) + k)) := ⟨_, rfl⟩
  have hg2 : W.heap[g]? = some (.cells #[.slice A n cap, .int .i64 ((p : Int) + k), .int .i64 0] 58 (0, 0)) := by rw [hW]; exact heap_set _ g 1 _ _ _ hgq
  have hgr : w.grownBy W (some g) := by rw [hW]; exact drewN_grow (grow_set _ _ _ _)
  have hsW : Shows W B A n cap bs := HS.out.grown hgr (by have := HR.out.lt; have := HB.out; omega) (by intro k hk; injection hk with hk; have := HB.out; omega)
  rw [← hW]
  clear hW hgq c0 c1 c2 f1 HG HS
  have c0 : W.cell? ⟨g, 0, none⟩ = some (.slice A n cap) := by rw [cell_of_row W g 0 _ _ (0, 0) hg2]; rfl
  have c1 : W.cell? ⟨g, 1, none⟩ = some (.int .i64 ((p : Int) + k)) := by rw [cell_of_row W g 1 _ _ (0, 0) hg2]; rfl
  have HG := Lib.hid hg2
  have hw2 : IntKind.i64.wrap ((p : Int) + k - k) = p := by rw [IntKind.wrap_i64]; omega
  have hd := hsW.drop hp
  have ht := hd.take (k := k) (by omega)
  have HSW := Lib.hid hsW
  have HT := Lib.hid ht
  clear hg2 hd hsW ht
  by_cases hc : cap = p
  · have hkz : k = 0 := by omega
    subst hc hkz
    have ht2 : Shows W B A 0 0 [] := by have h := HT.out; simpa using h
    have HT2 := Lib.hid ht2
    clear ht2 HT
    first
      | go_quiet (fail)
      | fail "the region"
    go_wp2
    go_ret
    exact ⟨A, 0, rfl, HT2.out.keep fun _ _ => rfl, ⟨A, n, cap, by simpa using HG.out, HSW.out.keep fun _ _ => rfl, by omega, HB.out, hn⟩, grow_drewN hgr _⟩
  · have ht2 : Shows W B (A.map (·.add p)) k (cap - p) ((bs.drop p).take k) := by have h := HT.out; rw [if_neg hc] at h; exact h
    have HT2 := Lib.hid ht2
    clear ht2 HT
    first
      | go_quiet (fail)
      | fail "the region"
    go_wp2
    go_ret
    exact ⟨_, _, ret_slice (by omega), HT2.out.keep fun _ _ => rfl, ⟨A, n, cap, by rw [Int.natCast_add]; exact HG.out, HSW.out.keep fun _ _ => rfl, by omega, HB.out, hn⟩, grow_drewN hgr _⟩
end Go.Proofs.Ytjnpadokmhhffaa
