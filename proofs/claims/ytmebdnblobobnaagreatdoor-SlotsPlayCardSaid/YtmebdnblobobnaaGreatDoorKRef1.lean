/- Merged: Package code's Reader in the shapes that laws ask for: behind an error; cut; with enough bytes. Contracts for the reference's Reader (chapter 1): New, take, Int, Byte, Text, Fail, End. Contracts for the reference's Reader (chapter 1) by the same model as package code's: Int, Byte, Text, Fail, End, New. Contracts for the reference's Int, Byte and Text (chapter 1): each appends behind what it is handed; what was handed in still shows what it did. -/
import Derived.Test.YtmebdnblobobnaaGreatDoorKCode
import Derived.Deep.RegionHeld3
import Derived.Deep.QuietTactic
import Derived.BigQuiet
import Derived.Test.YtmebdnblobobnaaGreatDoorKMem
namespace Go.Proofs.YtmebdnblobobnaaGreatDoor
set_option maxRecDepth 100000
open Go.RowKit _root_.Go.Proofs.YtmebdnblobobnaaGreatDoor.Wd _root_.Go.Proofs.YtmebdnblobobnaaGreatDoor.Nm

theorem i64_of_wf {x : Int} (h : (Lit.int .i64 x).wf = true) : -9223372036854775808 ≤ x ∧ x ≤ 9223372036854775807 := by
  simp [Lit.wf, IntKind.min, IntKind.max, IntKind.signed, IntKind.bits] at h
  omega
theorem rdNum_err (k : Nat) (l : List UInt8) {er : Int} (h : er ≠ 0) : rdNum k l er = (0, l, er) := by unfold rdNum; rw [if_neg h]
theorem rdFail_err (f : Int) {er : Int} (h : er ≠ 0) : rdFail f er = er := by unfold rdFail; rw [if_neg h]
theorem rdFail_ok (f : Int) : rdFail f 0 = f := rfl
theorem rdEnd_err (l : List UInt8) {er : Int} (h : er ≠ 0) : rdEnd l er = er := by unfold rdEnd; rw [if_neg (fun h' => h h'.1)]
theorem rdNum_cut {k : Nat} {l : List UInt8} (h : l.length < k) : rdNum k l 0 = (0, l, 8) := by unfold rdNum; rw [if_pos rfl, if_neg (by omega)]
theorem rdNum_ok {k : Nat} {l : List UInt8} (h : k ≤ l.length) : rdNum k l 0 = (wrap64 (leNat (l.take k) : Nat), l.drop k, 0) := by unfold rdNum; rw [if_pos rfl, if_pos h]
theorem rdEnd_more {l : List UInt8} (h : 0 < l.length) : rdEnd l 0 = 9 := by unfold rdEnd; rw [if_pos ⟨rfl, h⟩]
theorem rdEnd_ok : rdEnd [] 0 = 0 := by unfold rdEnd; rw [if_neg (by simp)]

/-- A number that was written is read as it was. -/
theorem rdNum_int (x : Int) (r : List UInt8) (h0 : -9223372036854775808 ≤ x) (h1 : x ≤ 9223372036854775807) : rdNum 8 (leb x 8 ++ r) 0 = (x, r, 0) := by
  rw [rdNum_ok (by rw [List.length_append, leb_len]; omega)]
  have e1 : (leb x 8 ++ r).take 8 = leb x 8 := by rw [List.take_append_of_le_length (by rw [leb_len]; omega), List.take_of_length_le (by rw [leb_len]; omega)]
  have e2 : (leb x 8 ++ r).drop 8 = r := by rw [List.drop_append_of_le_length (by rw [leb_len]; omega), List.drop_of_length_le (by rw [leb_len]; omega), List.nil_append]
  rw [e1, e2, back64 x h0 h1]
theorem rdNum_byte (x : Int) (r : List UInt8) : rdNum 1 (leb x 1 ++ r) 0 = (x % 256, r, 0) := by
  rw [rdNum_ok (by rw [List.length_append, leb_len]; omega)]
  have e1 : (leb x 1 ++ r).take 1 = leb x 1 := by rw [List.take_append_of_le_length (by rw [leb_len]; omega), List.take_of_length_le (by rw [leb_len]; omega)]
  have e2 : (leb x 1 ++ r).drop 1 = r := by rw [List.drop_append_of_le_length (by rw [leb_len]; omega), List.drop_of_length_le (by rw [leb_len]; omega), List.nil_append]
  rw [e1, e2, leNat_leb]
  have h : x % 2 ^ (8 * 1) = x % 256 := rfl
  rw [h, wrap64_of _ (by omega) (by omega)]
/-- The bytes of a literal of one, or two, that the call has just made. -/
theorem own_one (w : World) (base : Nat) (a : Int) (c : UInt8) (ha : (c.toNat : Int) = a) (hb : base ≤ w.heap.size) : (w.alloc (.cells #[.int .u8 a] 5)).ownsRow base 5 1 (.slice (some ⟨w.heap.size, 0, none⟩) 1 1) 1 (bc [c]) := by
  subst ha
  exact World.ownsRow_lit w #[.int .u8 (c.toNat : Int)] 1 hb (by simp [maxLen]) rfl
theorem own_two (w : World) (base : Nat) (a b : Int) (c d : UInt8) (ha : (c.toNat : Int) = a) (hd : (d.toNat : Int) = b) (hb : base ≤ w.heap.size) : (w.alloc (.cells #[.int .u8 a, .int .u8 b] 5)).ownsRow base 5 1 (.slice (some ⟨w.heap.size, 0, none⟩) 2 2) 2 (bc [c, d]) := by
  subst ha hd
  exact World.ownsRow_lit w #[.int .u8 (c.toNat : Int), .int .u8 (d.toNat : Int)] 2 hb (by simp [maxLen]) rfl
theorem leb_two (T : Int) (h0 : 0 ≤ T) (h1 : T < 65536) : leb T 2 = [lb T 0, lb T 1] ∧ ((lb T 0).toNat : Int) = T % 256 ∧ ((lb T 1).toNat : Int) = T / 256 := by
  refine ⟨rfl, ?_, ?_⟩
  · rw [lb_nat]; simp
  · rw [lb_nat]
    have : (2 : Int) ^ (8 * 1) = 256 := rfl
    rw [this]
    omega
end Go.Proofs.YtmebdnblobobnaaGreatDoor

namespace Go.Proofs.YtmebdnblobobnaaGreatDoor
set_option maxRecDepth 100000
open Go.RowKit _root_.Go.Proofs.YtmebdnblobobnaaGreatDoor.Wd _root_.Go.Proofs.YtmebdnblobobnaaGreatDoor.Nm

/-- The reference's Reader in block g: all its bytes (they lie below block B), how many of them are read, and the first error. -/
def RR (w : World) (B g : Nat) (bs : List UInt8) (p : Nat) (er : Int) : Prop :=
  ∃ A n cap, w.heap[g]? = some (.cells #[.slice A n cap, .int .i64 p, .int .i64 er] 158 (0, 0)) ∧ Shows w B A n cap bs ∧ p ≤ n ∧ B ≤ g ∧ n ≤ 1000000

theorem RR.lt {w : World} {B g : Nat} {bs : List UInt8} {p : Nat} {er : Int} (h : RR w B g bs p er) : g < w.heap.size := by
  obtain ⟨A, n, cap, hg, _⟩ := h
  exact (Array.getElem?_eq_some_iff.1 hg).1
theorem RR.le {w : World} {B g : Nat} {bs : List UInt8} {p : Nat} {er : Int} (h : RR w B g bs p er) : B ≤ g ∧ p ≤ bs.length := by
  obtain ⟨A, n, cap, hg, hs, hp, hB, _⟩ := h
  exact ⟨hB, by rw [hs.len]; exact hp⟩
theorem RR.grown {w w' : World} {B g : Nat} {bs : List UInt8} {p : Nat} {er : Int} {row : Option Nat} (h : RR w B g bs p er) (hg : w.grownBy w' row) (hr : ∀ k, row = some k → B ≤ k ∧ k ≠ g) : RR w' B g bs p er := by
  have hlt := h.lt
  obtain ⟨A, n, cap, hh, hs, hp, hB, hn⟩ := h
  exact ⟨A, n, cap, (hg.block g hlt (fun e => (hr g e.symm).2 rfl)).trans hh, hs.grown hg (by omega) (fun k hk => (hr k hk).1), hp, hB, hn⟩
theorem RR.drewN {w : World} {B g : Nat} {bs : List UInt8} {p : Nat} {er : Int} (h : RR w B g bs p er) (q : Nat) : RR (w.drewN q) B g bs p er := by
  obtain ⟨A, n, cap, hg, hs, hp, hB, hn⟩ := h
  exact ⟨A, n, cap, hg, hs.keep fun _ _ => rfl, hp, hB, hn⟩
theorem drewN_grow1 {w w' : World} {q : Nat} {row : Option Nat} (h : (w.drewN q).grownBy w' row) : w.grownBy w' row := ⟨h.os, h.tape, h.output, h.size, h.block⟩
theorem grow_drewN {w w' : World} {row : Option Nat} (h : w.grownBy w' row) (q : Nat) : w.grownBy (w'.drewN q) row := ⟨h.os, h.tape, h.output, h.size, h.block⟩
theorem ret_slice {A : Option Addr} {a b c : Nat} (h : a = b) : Ending.returned (.slice A a c) = .returned (.slice A b c) := by rw [h]
theorem shows_setB {w : World} {B g : Nat} {A : Option Addr} {n cap : Nat} {l : List UInt8} (h : Shows w B A n cap l) (hB : B ≤ g) (i : Nat) (u : Value) : Shows (w.setCell ⟨g, i, none⟩ u) B A n cap l :=
  h.keep fun p hp => World.cell?_setCell_other w _ p u (fun e => by subst e; simp at hp; omega)
theorem RR.setErr {w : World} {B g : Nat} {bs : List UInt8} {p : Nat} {er : Int} (h : RR w B g bs p er) (f : Int) : RR (w.setCell ⟨g, 2, none⟩ (.int .i64 f)) B g bs p f := by
  obtain ⟨A, n, cap, hg, hs, hp, hB, hn⟩ := h
  exact ⟨A, n, cap, heap_set w g 2 _ _ _ hg, shows_setB hs hB _ _, hp, hB, hn⟩

set_option maxHeartbeats 1000000 in
theorem reftake_err (B g : Nat) (bs : List UInt8) (p k : Nat) (er : Int) (w : World) (hr : RR w B g bs p er) (he : (er == 0) = false) :
    Calls Tryz.prog 113 #[.pointer (some ⟨g, 0, none⟩), .int .i64 k] w fun e w' => e = .returned (.slice none 0 0) ∧ RR w' B g bs p er ∧ w.grownBy w' (some g) := by
  have HR := Lib.hid hr
  obtain ⟨A, n, cap, hg, hs, hp, hB, hn⟩ := hr
  have c2 : w.cell? ⟨g, 2, none⟩ = some (.int .i64 er) := by rw [cell_of_row w g 2 _ _ (0, 0) hg]; rfl
  clear hg hs hp hB hn
  go_enter Tryz.func113, Tryz.ntmps113
  go_wp2
  first
    | go_quiet (fail)
    | fail "the region"
  go_wp2
  go_ret
  exact ⟨rfl, HR.out.drewN _, drewN_grow1 (grow_refl _ _)⟩

set_option maxHeartbeats 1000000 in
theorem reftake_cut (B g : Nat) (bs : List UInt8) (p k : Nat) (w : World) (hr : RR w B g bs p 0) (hk : bs.length < p + k) (hk2 : k ≤ 100000) :
    Calls Tryz.prog 113 #[.pointer (some ⟨g, 0, none⟩), .int .i64 k] w fun e w' => e = .returned (.slice none 0 0) ∧ RR w' B g bs p 8 ∧ w.grownBy w' (some g) := by
  have HR := Lib.hid hr
  obtain ⟨A, n, cap, hg, hs, hp, hB, hn⟩ := hr
  have c0 : w.cell? ⟨g, 0, none⟩ = some (.slice A n cap) := by rw [cell_of_row w g 0 _ _ (0, 0) hg]; rfl
  have c1 : w.cell? ⟨g, 1, none⟩ = some (.int .i64 p) := by rw [cell_of_row w g 1 _ _ (0, 0) hg]; rfl
  have c2 : w.cell? ⟨g, 2, none⟩ = some (.int .i64 0) := by rw [cell_of_row w g 2 _ _ (0, 0) hg]; rfl
  have f2 : w.frozen? ⟨g, 2, none⟩ = false := by simp [World.frozen?, hg]
  rw [hs.len] at hk
  have hlt : (n : Int) - p < k := by omega
  have hw : IntKind.i64.wrap ((n : Int) - p) = (n : Int) - p := by rw [IntKind.wrap_i64]; omega
  clear hg hs hB
  go_enter Tryz.func113, Tryz.ntmps113
  go_wp2
  first
    | go_quiet (fail)
    | fail "the region"
  clear hw
  go_wp2
  go_ret
  exact ⟨rfl, (HR.out.drewN _).setErr 8, drewN_grow1 (grow_set1 _ _ _ _)⟩

set_option maxHeartbeats 1000000 in
theorem reftake_ok (B g : Nat) (bs : List UInt8) (p k : Nat) (w : World) (hr : RR w B g bs p 0) (hk : p + k ≤ bs.length) :
    Calls Tryz.prog 113 #[.pointer (some ⟨g, 0, none⟩), .int .i64 k] w fun e w' => ∃ A2 c2, e = .returned (.slice A2 k c2) ∧ Shows w' B A2 k c2 ((bs.drop p).take k) ∧ RR w' B g bs (p + k) 0 ∧ w.grownBy w' (some g) := by
  have HR := Lib.hid hr
  obtain ⟨A, n, cap, hg, hs, hp, hB, hn⟩ := hr
  have c0 : w.cell? ⟨g, 0, none⟩ = some (.slice A n cap) := by rw [cell_of_row w g 0 _ _ (0, 0) hg]; rfl
  have c1 : w.cell? ⟨g, 1, none⟩ = some (.int .i64 p) := by rw [cell_of_row w g 1 _ _ (0, 0) hg]; rfl
  have c2 : w.cell? ⟨g, 2, none⟩ = some (.int .i64 0) := by rw [cell_of_row w g 2 _ _ (0, 0) hg]; rfl
  have f1 : w.frozen? ⟨g, 1, none⟩ = false := by simp [World.frozen?, hg]
  rw [hs.len] at hk
  have hlt : ¬ (n : Int) - p < k := by omega
  have hw : IntKind.i64.wrap ((n : Int) - p) = (n : Int) - p := by rw [IntKind.wrap_i64]; omega
  have HS := Lib.hid hs
  have HB := Lib.hid hB
  have HG := Lib.hid hg
  have hcap := hs.le
  clear hg hs hB
  go_enter Tryz.func113, Tryz.ntmps113
  go_wp2
  first
    | go_quiet (fail)
    | fail "the region"
  clear hw
  go_wp2
  have hgq : (w.drewN nq).heap[g]? = some (.cells #[.slice A n cap, .int .i64 p, .int .i64 0] 158 (0, 0)) := HG.out
  obtain ⟨W, hW⟩ : ∃ W, W = (w.drewN nq).setCell ⟨g, 1, none⟩ (Value.int .i64 ((p : Int) + k)) := ⟨_, rfl⟩
  have hg2 : W.heap[g]? = some (.cells #[.slice A n cap, .int .i64 ((p : Int) + k), .int .i64 0] 158 (0, 0)) := by rw [hW]; exact heap_set _ g 1 _ _ _ hgq
  have hgr : w.grownBy W (some g) := by rw [hW]; exact drewN_grow1 (grow_set1 _ _ _ _)
  have hsW : Shows W B A n cap bs := HS.out.grown hgr (by have := HR.out.lt; have := HB.out; omega) (by intro k hk; injection hk with hk; have := HB.out; omega)
  rw [← hW]
  clear hW hgq c0 c1 c2 f1 HG HS
  have c0 : W.cell? ⟨g, 0, none⟩ = some (.slice A n cap) := by rw [cell_of_row W g 0 _ _ (0, 0) hg2]; rfl
  have c1 : W.cell? ⟨g, 1, none⟩ = some (.int .i64 ((p : Int) + k)) := by rw [cell_of_row W g 1 _ _ (0, 0) hg2]; rfl
  have HG := Lib.hid hg2
  have hw2 : IntKind.i64.wrap ((p : Int) + k - k) = p := by rw [IntKind.wrap_i64]; omega
  have hd := hsW.drop hp
  have ht := hd.take (k := k) (by omega)
  have HSW := Lib.hid hsW
  have HT := Lib.hid ht
  clear hg2 hd hsW ht
  by_cases hc : cap = p
  · have hkz : k = 0 := by omega
    subst hc hkz
    have ht2 : Shows W B A 0 0 [] := by have h := HT.out; simpa using h
    have HT2 := Lib.hid ht2
    clear ht2 HT
    first
      | go_quiet (fail)
      | fail "the region"
    go_wp2
    go_ret
    exact ⟨A, 0, rfl, HT2.out.keep fun _ _ => rfl, ⟨A, n, cap, by simpa using HG.out, HSW.out.keep fun _ _ => rfl, by omega, HB.out, hn⟩, grow_drewN hgr _⟩
  · have ht2 : Shows W B (A.map (·.add p)) k (cap - p) ((bs.drop p).take k) := by have h := HT.out; rw [if_neg hc] at h; exact h
    have HT2 := Lib.hid ht2
    clear ht2 HT
    first
      | go_quiet (fail)
      | fail "the region"
    go_wp2
    go_ret
    exact ⟨_, _, ret_slice (by omega), HT2.out.keep fun _ _ => rfl, ⟨A, n, cap, by rw [Int.natCast_add]; exact HG.out, HSW.out.keep fun _ _ => rfl, by omega, HB.out, hn⟩, grow_drewN hgr _⟩
end Go.Proofs.YtmebdnblobobnaaGreatDoor

namespace Go.Proofs.YtmebdnblobobnaaGreatDoor
set_option maxRecDepth 100000
open Go.RowKit _root_.Go.Proofs.YtmebdnblobobnaaGreatDoor.Wd _root_.Go.Proofs.YtmebdnblobobnaaGreatDoor.Nm

/-- The reference's Reader, by what is left. -/
def RL (w : World) (B g : Nat) (l : List UInt8) (er : Int) : Prop := ∃ bs p, RR w B g bs p er ∧ l = bs.drop p
def rdTake (k : Nat) (l : List UInt8) (er : Int) : List UInt8 × List UInt8 × Int :=
  if er = 0 then (if k ≤ l.length then (l.take k, l.drop k, 0) else ([], l, 8)) else ([], l, er)
theorem rdNum_take (k : Nat) (l : List UInt8) (er : Int) : rdNum k l er = (wrap64 (leNat (rdTake k l er).1 : Nat), (rdTake k l er).2.1, (rdTake k l er).2.2) := by
  have h0 : wrap64 ((leNat [] : Nat) : Int) = 0 := by simp [leNat, wrap64]
  unfold rdNum rdTake
  split
  · split
    · rfl
    · rw [h0]
  · rw [h0]
theorem rdTake_len (k : Nat) (l : List UInt8) (er : Int) : (rdTake k l er).1.length = k ∨ (rdTake k l er).1 = [] := by
  unfold rdTake
  split
  · split
    · exact .inl (by rw [List.length_take]; omega)
    · exact .inr rfl
  · exact .inr rfl

theorem RL.lt {w : World} {B g : Nat} {l : List UInt8} {er : Int} (h : RL w B g l er) : g < w.heap.size ∧ B ≤ g := by
  obtain ⟨bs, p, h, _⟩ := h
  exact ⟨h.lt, h.le.1⟩
theorem RL.grown {w w' : World} {B g : Nat} {l : List UInt8} {er : Int} {row : Option Nat} (h : RL w B g l er) (hg : w.grownBy w' row) (hr : ∀ k, row = some k → B ≤ k ∧ k ≠ g) : RL w' B g l er := by
  obtain ⟨bs, p, h, rfl⟩ := h
  exact ⟨bs, p, h.grown hg hr, rfl⟩
theorem RL.drewN {w : World} {B g : Nat} {l : List UInt8} {er : Int} (h : RL w B g l er) (q : Nat) : RL (w.drewN q) B g l er := by
  obtain ⟨bs, p, h, rfl⟩ := h
  exact ⟨bs, p, h.drewN q, rfl⟩
theorem RR.drew {w : World} {B g : Nat} {bs : List UInt8} {p : Nat} {er : Int} (h : RR w B g bs p er) : RR w.drew B g bs p er := by
  obtain ⟨A, n, cap, hg, hs, hp, hB, hn⟩ := h
  exact ⟨A, n, cap, hg, hs.keep fun _ _ => rfl, hp, hB, hn⟩
theorem RL.drew {w : World} {B g : Nat} {l : List UInt8} {er : Int} (h : RL w B g l er) : RL w.drew B g l er := by
  obtain ⟨bs, p, h, rfl⟩ := h
  exact ⟨bs, p, h.drew, rfl⟩

theorem reftake_any (B g : Nat) (l : List UInt8) (er : Int) (k : Nat) (w : World) (hr : RL w B g l er) (hk : k ≤ 100000) :
    Calls Tryz.prog 113 #[.pointer (some ⟨g, 0, none⟩), .int .i64 k] w fun e w' => ∃ A m c, e = .returned (.slice A m c) ∧ Shows w' B A m c (rdTake k l er).1 ∧ RL w' B g (rdTake k l er).2.1 (rdTake k l er).2.2 ∧ w.grownBy w' (some g) := by
  obtain ⟨bs, p, hr, rfl⟩ := hr
  have hle := hr.le.2
  by_cases h0 : er = 0
  · subst h0
    by_cases hn : k ≤ (bs.drop p).length
    · have e1 : rdTake k (bs.drop p) 0 = ((bs.drop p).take k, (bs.drop p).drop k, 0) := by unfold rdTake; rw [if_pos rfl, if_pos hn]
      rw [e1]
      refine (reftake_ok B g bs p k w hr (by rw [List.length_drop] at hn; omega)).mono ?_
      rintro e w' ⟨A2, c2, rfl, hs, hr2, hg⟩
      exact ⟨A2, k, c2, rfl, hs, ⟨bs, p + k, hr2, by rw [List.drop_drop]⟩, hg⟩
    · have e1 : rdTake k (bs.drop p) 0 = ([], bs.drop p, 8) := by unfold rdTake; rw [if_pos rfl, if_neg hn]
      rw [e1]
      refine (reftake_cut B g bs p k w hr (by rw [List.length_drop] at hn; omega) hk).mono ?_
      rintro e w' ⟨rfl, hr2, hg⟩
      exact ⟨none, 0, 0, rfl, Shows.nil _ _, ⟨bs, p, hr2, rfl⟩, hg⟩
  · have e1 : rdTake k (bs.drop p) er = ([], bs.drop p, er) := by unfold rdTake; rw [if_neg h0]
    rw [e1]
    refine (reftake_err B g bs p k er w hr (by simpa using h0)).mono ?_
    rintro e w' ⟨rfl, hr2, hg⟩
    exact ⟨none, 0, 0, rfl, Shows.nil _ _, ⟨bs, p, hr2, rfl⟩, hg⟩

theorem leNat_drop (t : List UInt8) (j : Nat) (h : j < t.length) : leNat (t.drop j) = t[j].toNat + 256 * leNat (t.drop (j + 1)) := by
  rw [List.drop_eq_getElem_cons h]
  rfl
theorem or_low (U c : Nat) (hU : U < 2 ^ 56) (hc : c < 256) : bits BinOp.or IntKind.u64 (IntKind.u64.wrap ((U : Int) * 256)) (IntKind.u64.wrap (c : Int)) = ((c + 256 * U : Nat) : Int) := by
  have h56 : (2 : Nat) ^ 56 = 72057594037927936 := rfl
  have e1 : IntKind.u64.wrap ((U : Int) * 256) = (U : Int) * 256 := by rw [IntKind.wrap_u64]; omega
  have e2 : IntKind.u64.wrap (c : Int) = c := by rw [IntKind.wrap_u64]; omega
  have h64 : (2 : Int) ^ 64 = 18446744073709551616 := rfl
  have h8 : (2 : Int) ^ 8 = 256 := rfl
  rw [e1, e2, bits_join .u64 64 (by decide) (fun n h0 h1 => by rw [IntKind.wrap_u64]; rw [h64] at h1; omega) 8 _ _ (by omega) (by rw [h8]; omega) (by rw [h64]; omega) (by omega) (by rw [h8]; omega) (by rw [h64]; omega)]
  omega

set_option maxHeartbeats 1000000 in
theorem refint_any (B g : Nat) (l : List UInt8) (er : Int) (w : World) (hr : RL w B g l er) :
    Calls Tryz.prog 96 #[.pointer (some ⟨g, 0, none⟩)] w fun e w' => e = .returned (.int .i64 (rdNum 8 l er).1) ∧ RL w' B g (rdNum 8 l er).2.1 (rdNum 8 l er).2.2 ∧ w.grownBy w' (some g) := by
  have ht := reftake_any B g l er 8 w hr (by omega)
  have hlen := rdTake_len 8 l er
  rw [rdNum_take]
  generalize rdTake 8 l er = q at ht hlen
  obtain ⟨t, l', er'⟩ := q
  have ht8 : t.length ≤ 8 := by
    rcases hlen with h | h
    · simp only at h; omega
    · simp only at h; subst h; simp
  have HT := Lib.hid ht
  clear ht hlen hr
  go_enter Tryz.func96, Tryz.ntmps96
  go_wp2_with fail
  refine HT.out.mono ?_
  rintro e w1 ⟨A, m, c, rfl, hs, hr1, hg1⟩
  have hml := hs.len
  have HML := Lib.hid hml
  have hm8 : m ≤ 8 := by omega
  clear HT hml
  go_wp2
  go_loop [3, 5] (fun u i => ∃ j : Nat, j ≤ m ∧ i = .int .i64 ((j : Int) - 1) ∧ u = .int .u64 (leNat (t.drop j) : Nat)) (fun _ i => (intOf i + 1).toNat)
  case atStart => exact ⟨m, Nat.le_refl _, rfl, by rw [List.drop_of_length_le (by have := HML.out; omega)]; rfl⟩
  case round =>
    obtain ⟨j, hj, rfl, rfl⟩ := hrel
    by_cases hlt : 0 < j
    · obtain ⟨b, o, rfl, _, hc⟩ := hs.spot (by omega)
      obtain ⟨j, rfl⟩ : ∃ j', j = j' + 1 := ⟨j - 1, by omega⟩
      have hjl : j < t.length := by have := HML.out; omega
      have hcj : w1.cell? ⟨b, o + j, none⟩ = some (.int .u8 (t[j].toNat : Int)) := hc j hjl
      have hlt8 := leNat_lt (t.drop (j + 1))
      have hp8 : (2 : Nat) ^ (8 * (t.drop (j + 1)).length) ≤ 2 ^ 56 := Nat.pow_le_pow_right (by decide) (by rw [List.length_drop]; omega)
      have HO := Lib.hid (or_low (leNat (t.drop (j + 1))) t[j].toNat (by omega) t[j].toNat_lt)
      have HD := Lib.hid (leNat_drop t j hjl)
      clear hc hlt8 hp8 hs
      go_wp2
      go_round
      case rel => exact ⟨j, by omega, rfl, by rw [HO.out, HD.out]⟩
      case measure => simp [intOf]
    · obtain rfl : j = 0 := by omega
      go_wp2
      go_ret
      exact ⟨rfl, hr1, hg1⟩

set_option maxHeartbeats 1000000 in
theorem refbyte_any (B g : Nat) (l : List UInt8) (er : Int) (w : World) (hr : RL w B g l er) :
    Calls Tryz.prog 97 #[.pointer (some ⟨g, 0, none⟩)] w fun e w' => e = .returned (.int .i64 (rdNum 1 l er).1) ∧ RL w' B g (rdNum 1 l er).2.1 (rdNum 1 l er).2.2 ∧ w.grownBy w' (some g) := by
  have ht := reftake_any B g l er 1 w hr (by omega)
  have hlen := rdTake_len 1 l er
  rw [rdNum_take]
  generalize rdTake 1 l er = q at ht hlen
  obtain ⟨t, l', er'⟩ := q
  rcases hlen with h | h
  · obtain ⟨x, rfl⟩ : ∃ x, t = [x] := by
      match t, h with
      | [x], _ => exact ⟨x, rfl⟩
    have hw : wrap64 ((leNat [x] : Nat) : Int) = x.toNat := by
      have := x.toNat_lt
      have e1 : leNat [x] = x.toNat := by simp [leNat]
      rw [e1, wrap64_of _ (by omega) (by omega)]
    simp only [hw]
    have HT := Lib.hid ht
    clear ht hr hw h
    go_enter Tryz.func97, Tryz.ntmps97
    go_wp2_with fail
    refine HT.out.mono ?_
    rintro e w1 ⟨A, m, c, rfl, hs, hr1, hg1⟩
    clear HT
    obtain rfl : m = 1 := by have := hs.len; simpa using this.symm
    obtain ⟨b, o, rfl, _, hc⟩ := hs.spot (by omega)
    have hc0 : w1.cell? ⟨b, o, none⟩ = some (.int .u8 (x.toNat : Int)) := hc 0 (by simp)
    clear hc hs
    go_wp2
    go_ret
    exact ⟨ret_int (wrap64_of _ (by omega) (by have := x.toNat_lt; omega)), hr1, hg1⟩
  · simp only at h
    subst h
    have hw : wrap64 ((leNat [] : Nat) : Int) = 0 := by simp [leNat, wrap64]
    simp only [hw]
    have HT := Lib.hid ht
    clear ht hr hw
    go_enter Tryz.func97, Tryz.ntmps97
    go_wp2_with fail
    refine HT.out.mono ?_
    rintro e w1 ⟨A, m, c, rfl, hs, hr1, hg1⟩
    clear HT
    obtain rfl : m = 0 := by have := hs.len; simpa using this.symm
    clear hs
    go_wp2
    go_ret
    exact ⟨rfl, hr1, hg1⟩

theorem rdTake_err (k : Nat) (l : List UInt8) (er : Int) (h : (rdTake k l er).1 ≠ []) : (rdTake k l er).2.2 = 0 := by
  unfold rdTake at h ⊢
  split
  · split
    · rfl
    · rename_i h1 h2; rw [if_pos h1, if_neg h2] at h; exact absurd rfl h
  · rename_i h1; rw [if_neg h1] at h; exact absurd rfl h

theorem refnew_any (B : Nat) (A : Option Addr) (n cap : Nat) (l : List UInt8) (w : World) (hs : Shows w B A n cap l) (hB : B ≤ w.heap.size) (hn : n ≤ 1000000) :
    Calls Tryz.prog 95 #[.slice A n cap] w fun e w' => e = .returned (.pointer (some ⟨w.heap.size, 0, none⟩)) ∧ RL w' B w.heap.size l 0 ∧ w.heap.size < w'.heap.size ∧ Below w.heap.size w w' := by
  have hb : ∀ o, Below w.heap.size w (w.alloc o) := fun o => (Below.refl _ _).alloc (Nat.le_refl _) o
  have HB := Lib.hid hb
  have HS := Lib.hid hs
  clear hs hb
  go_enter Tryz.func95, Tryz.ntmps95
  go_wp2
  go_ret
  exact ⟨rfl, ⟨l, 0, ⟨A, n, cap, heap_alloc_new w _, HS.out.below ((HB.out _).mono hB), Nat.zero_le _, hB, hn⟩, by simp⟩, by simp, HB.out _⟩

set_option maxHeartbeats 1000000 in
theorem refend_any (B g : Nat) (l : List UInt8) (er : Int) (w : World) (hr : RL w B g l er) :
    Calls Tryz.prog 98 #[.pointer (some ⟨g, 0, none⟩)] w fun e w' => e = .returned (.int .i64 (rdEnd l er)) ∧ ∃ q, w' = w.drewN q := by
  obtain ⟨bs, p, hr, rfl⟩ := hr
  have hle := hr.le.2
  obtain ⟨A, n, cap, hg, hs, hp, hB, hn⟩ := hr
  have c0 : w.cell? ⟨g, 0, none⟩ = some (.slice A n cap) := by rw [cell_of_row w g 0 _ _ (0, 0) hg]; rfl
  have c1 : w.cell? ⟨g, 1, none⟩ = some (.int .i64 p) := by rw [cell_of_row w g 1 _ _ (0, 0) hg]; rfl
  have c2 : w.cell? ⟨g, 2, none⟩ = some (.int .i64 er) := by rw [cell_of_row w g 2 _ _ (0, 0) hg]; rfl
  have hl := hs.len
  clear hg hs
  by_cases h0 : er = 0
  · subst h0
    by_cases hm : p < n
    · rw [rdEnd_more (by rw [List.length_drop]; omega)]
      have hlt : (p : Int) < n := by omega
      clear hl hle hp hm
      go_enter Tryz.func98, Tryz.ntmps98
      go_wp2
      first
        | go_quiet (fail)
        | fail "the region"
      go_wp2
      go_ret
      exact ⟨rfl, _, rfl⟩
    · have hd : bs.drop p = [] := List.drop_of_length_le (by omega)
      rw [hd, rdEnd_ok]
      have hlt : decide ((p : Int) < n) = false := by simp; omega
      have hlt2 : decide (p < n) = false := by simp; omega
      clear hl hle hp hm hd
      go_enter Tryz.func98, Tryz.ntmps98
      go_wp2
      first
        | go_quiet (fail)
        | fail "the region"
      go_wp2
      go_ret
      exact ⟨rfl, _, rfl⟩
  · rw [rdEnd_err _ h0]
    have hb : (er == 0) = false := by simpa using h0
    clear hl hle hp h0
    go_enter Tryz.func98, Tryz.ntmps98
    go_wp2
    first
      | go_quiet (fail)
      | fail "the region"
    go_wp2
    go_ret
    exact ⟨rfl, _, rfl⟩

end Go.Proofs.YtmebdnblobobnaaGreatDoor

namespace Go.Proofs.YtmebdnblobobnaaGreatDoor
set_option maxRecDepth 100000
open Go.RowKit _root_.Go.Proofs.YtmebdnblobobnaaGreatDoor.Wd _root_.Go.Proofs.YtmebdnblobobnaaGreatDoor.Nm

/-- What a reference's writer leaves: the new slice, the old one, and which blocks may have turned. -/
def Wrote (w w' : World) (base : Nat) (A : Option Addr) (n cap : Nat) (l : List UInt8) (A2 : Option Addr) (m c2 : Nat) (more : List UInt8) : Prop :=
  w'.ownsRow base 5 1 (.slice A2 (n + m) c2) (n + m) (bc (l ++ more)) ∧ w'.ownsRow base 5 1 (.slice A n cap) n (bc l) ∧ w.grownBy w' (A.map (·.block)) ∧
    (A2.map (·.block) = A.map (·.block) ∨ ∀ k, A2.map (·.block) = some k → w.heap.size ≤ k)

theorem own_form {w : World} {base n cap : Nat} {e : TypeId} {A : Option Addr} {xs : List Value} (h : w.ownsRow base e 1 (.slice A n cap) n xs) : (A = none ∧ n = 0 ∧ cap = 0) ∨ ∃ g cur, A = some ⟨g, 0, none⟩ ∧ base ≤ g ∧ w.heap[g]? = some (.cells cur e (0, 0)) ∧ n ≤ cap ∧ cap ≤ maxLen ∧ cur.size = cap ∧ cur.toList.take n = xs := by
  rcases h.2 with ⟨h', hn⟩ | ⟨g, cap', cur, h', h1, h2, h3, h4, h5, h6⟩
  · injection h' with a b c
    exact .inl ⟨a, b, c⟩
  · injection h' with a b c
    subst c
    exact .inr ⟨g, cur, a, h1, h2, h3, h4, by omega, by simpa using h6⟩

theorem none_trans {w w1 w2 : World} {r : Option Nat} (h1 : w.grownBy w1 none) (h2 : w1.grownBy w2 r) : w.grownBy w2 r :=
  ⟨h2.os.trans h1.os, h2.tape.trans h1.tape, h2.output.trans h1.output, Nat.le_trans h1.size h2.size, fun k hk hne => (h2.block k (Nat.lt_of_lt_of_le hk h1.size) hne).trans (h1.block k hk (fun e => by cases e))⟩

/-- One append more, to what was written so far. -/
theorem wrote_step {w wr wr' w2 : World} {base n cap j cj m c2 : Nat} {A Aj A2 : Option Addr} {l more l2 : List UInt8} (h0 : w.ownsRow base 5 1 (.slice A n cap) n (bc l)) (hW : Wrote w wr base A n cap l Aj j cj more) (hgr : wr.grownBy wr' none)
    (hown2 : w2.ownsRow base 5 1 (.slice A2 (n + j + m) c2) (n + j + m) (bc ((l ++ more) ++ l2))) (hold2 : w2.ownsRow base 5 1 (.slice Aj (n + j) cj) (n + j) (bc (l ++ more)))
    (hg2 : wr'.grownBy w2 (Aj.map (·.block))) (hat : A2.map (·.block) = Aj.map (·.block) ∨ ∀ k, A2.map (·.block) = some k → wr.heap.size ≤ k) : Wrote w w2 base A n cap l A2 (j + m) c2 (more ++ l2) := by
  obtain ⟨hj, ha, hg, hat0⟩ := hW
  have hl : l.length = n := by have := h0.1; simpa [bc_len] using this
  have hgw2 : wr.grownBy w2 (Aj.map (·.block)) := none_trans hgr hg2
  refine ⟨by rw [← List.append_assoc, ← Nat.add_assoc]; exact hown2, ?_, grow_trans hg hgw2 ?_, ?_⟩
  · -- the slice that was handed in
    rcases own_form h0 with ⟨rfl, rfl, rfl⟩ | ⟨g, cur0, rfl, hb0, hh0, hn0, _, _, _⟩
    · have : l = [] := List.eq_nil_of_length_eq_zero hl
      subst this
      exact World.ownsRow_nil w2 base _ 1
    · have hlt0 : g < w.heap.size := (Array.getElem?_eq_some_iff.1 hh0).1
      by_cases hsame : Aj.map (·.block) = some g
      · rcases own_form ha with ⟨h', _⟩ | ⟨ga, cura, e1, _, hha, _, hca, hsa, _⟩
        · cases h'
        injection e1 with e1
        injection e1 with e1 _ _
        subst e1
        rcases own_form hj with ⟨rfl, _⟩ | ⟨gj, curj, rfl, _, hhj, hnj, _, hsj, _⟩
        · cases hsame
        simp at hsame
        subst hsame
        rw [hha] at hhj
        injection hhj with hhj
        injection hhj with hhj
        subst hhj
        have hcc : cap = cj := by omega
        subst hcc
        rcases own_form hold2 with ⟨h', _⟩ | ⟨g2, cur2, e2, hb2, hh2, hn2, hm2, hs2, ht2⟩
        · cases h'
        injection e2 with e2
        injection e2 with e2 _ _
        subst e2
        refine ⟨by rw [bc_len, hl, Nat.mul_one], .inr ⟨_, cap, cur2, rfl, hb2, hh2, hn0, hm2, by omega, ?_⟩⟩
        rw [Nat.mul_one]
        have h3 : (cur2.toList.take (n + j)).take n = cur2.toList.take n := by rw [List.take_take, Nat.min_eq_left (by omega)]
        rw [← h3, ht2, bc_app]
        have h4 : n = (bc l).length := by rw [bc_len, hl]
        rw [h4, List.take_left]
      · refine grow_own ha hgw2 (fun k hk he => ?_)
        injection hk with hk
        subst hk
        exact hsame he
  · rcases hat0 with h | h
    · exact .inl h
    · exact .inr h
  · have hsz := hg.size
    rcases hat with h | h
    · rw [h]
      exact hat0
    · exact .inr (fun k hk => Nat.le_trans hsz (h k hk))
theorem at_far {A A2 : Option Addr} {s : Nat} (h : A2.map (·.block) = A.map (·.block) ∨ ∃ a, A2 = some a ∧ a.block = s + 1) : A2.map (·.block) = A.map (·.block) ∨ ∀ k, A2.map (·.block) = some k → s ≤ k := by
  rcases h with h | ⟨a, rfl, h⟩
  · exact .inl h
  · refine .inr fun k hk => ?_
    simp at hk
    omega
theorem wrote_start {w : World} {base n cap : Nat} {A : Option Addr} {l : List UInt8} (h0 : w.ownsRow base 5 1 (.slice A n cap) n (bc l)) : Wrote w w base A n cap l A 0 cap [] :=
  ⟨by simpa using h0, h0, grow_refl _ _, .inl rfl⟩

theorem lb_wrap (x : Int) (j : Nat) (hj : j < 8) : ((lb x j).toNat : Int) = IntKind.u64.wrap x / 2 ^ (8 * j) % 256 := by
  rw [lb_nat, IntKind.wrap_u64]
  have h : j = 0 ∨ j = 1 ∨ j = 2 ∨ j = 3 ∨ j = 4 ∨ j = 5 ∨ j = 6 ∨ j = 7 := by omega
  rcases h with rfl | rfl | rfl | rfl | rfl | rfl | rfl | rfl <;> simp only [Nat.reduceMul, Int.reducePow] <;> omega

set_option maxHeartbeats 400000 in
theorem refwint_any (base : Nat) (A : Option Addr) (n cap : Nat) (l : List UInt8) (x : Int) (w : World) (hown : w.ownsRow base 5 1 (.slice A n cap) n (bc l)) (hb : base ≤ w.heap.size) (hn : n ≤ 100000000000) :
    Calls Tryz.prog 71 #[.slice A n cap, .int .i64 x] w fun e w' => ∃ A2 c2, e = .returned (.slice A2 (n + 8) c2) ∧ Wrote w w' base A n cap l A2 8 c2 (leb x 8) := by
  obtain ⟨i0, hi0, hz0, hz1, hz2⟩ := info_parts infoByte
  have HO := Lib.hid hown
  clear hown
  go_enter Tryz.func71, Tryz.ntmps71
  go_wp2
  go_loopw [0, 5] (fun b i wr => ∃ j : Nat, ∃ Aj cj, j ≤ 8 ∧ i = .int .i64 j ∧ b = .slice Aj (n + j) cj ∧ Wrote w wr base A n cap l Aj j cj (leb x j)) (fun _ i _ => 8 - (intOf i).toNat)
  case atStart => exact ⟨0, A, cap, by omega, rfl, rfl, wrote_start HO.out⟩
  case round =>
    obtain ⟨j, Aj, cj, hj, rfl, rfl, hW⟩ := hrel
    by_cases hlt : j < 8
    · have hbr : base ≤ wr.heap.size := Nat.le_trans hb hW.2.2.1.size
      have hone := own_one wr base _ (lb x j) (lb_wrap x j hlt) hbr
      have HSRC := Lib.hid ((Shows.of_own hone).src (P := Tryz.prog) Tryz.underlying29)
      have HOW := Lib.hid (hW.1.alloc (.cells #[Value.int .u8 (IntKind.u64.wrap x / 2 ^ (8 * j) % 256)] 5))
      have HWR := Lib.hid hW
      have hnx := leb_next x j
      have HNX := Lib.hid hnx
      clear hone hW hnx
      go_wp2_with (at_builtin; refine wpList_ap _ rfl (.tmp 10) (.tmp 18) 29 29 rfl base 5 i0 Tryz.underlying29 hi0 hz0 hz1 hz2 Aj (n + j) cj _ rfl HOW.out _ 1 [lb x j] rfl HSRC.out ?c1 ?c2 ?_)
      case c1 => omega
      case c2 => simp; omega
      intro A2 c2 w2 hown2 hold2 hg2 hat
      have hw2 := wrote_step (m := 1) (l2 := [lb x j]) HO.out HWR.out (World.grownBy_alloc wr (.cells #[Value.int .u8 (IntKind.u64.wrap x / 2 ^ (8 * j) % 256)] 5) none) (by rw [List.append_assoc] at *; simpa using hown2) (by simpa using hold2) hg2 (at_far hat)
      have HW2 := Lib.hid hw2
      clear hown2 hold2 hg2 hat hw2 HOW HSRC HWR
      go_wp2
      go_roundw
      case rel => exact ⟨j + 1, A2, c2, by omega, by go_num, by rw [← Nat.add_assoc], by rw [HNX.out]; exact HW2.out⟩
      case measure => simp [intOf]; omega
    · obtain rfl : j = 8 := by omega
      go_wp2
      go_ret
      exact ⟨Aj, cj, rfl, hW⟩

end Go.Proofs.YtmebdnblobobnaaGreatDoor

