/- Merged: Chapter 4's laws: a number taken within a bound. A slice of acts (structs of four numbers and a slice of bytes) that came in. What chapter 4's scripts of acts do: one act, at the program's memory and at the reference's. What acts at two memories leave of others. Chapter 4's Same: of two memories that are one it answers true. -/
import Derived.Test.YtmebdnblobobnaaGreatDoorKFlash
import Derived.Test.YtmebdnblobobnaaGreatDoorProg
import Derived.Test.YtmebdnblobobnaaGreatDoorKMem
import Derived.Deep.Slices
import Derived.ChangeSame
import Derived.ChangeArms
import Derived.OpenShut
import Derived.Lib.Hide
import Derived.Lib.ConvBytes
import Derived.Test.YtmebdnblobobnaaGreatDoorKRf
import Derived.Deep.RegionHeld3
import Derived.Orders
import Derived.Test.YtmebdnblobobnaaGreatDoorKBase
import Derived.Deep.QuietTactic
import Derived.BigQuiet
namespace Go.Proofs.YtmebdnblobobnaaGreatDoor
set_option maxRecDepth 100000
open Go.RowKit _root_.Go.Proofs.YtmebdnblobobnaaGreatDoor.Wd _root_.Go.Proofs.YtmebdnblobobnaaGreatDoor.Fm

theorem within4_any (x n : Int) (w : World) (hn : 0 < n) (hm : n ≤ 1000000) :
    Calls Tryz.prog 51 #[.int .i64 x, .int .i64 n] w fun e w' => e = .returned (.int .i64 (x % n)) ∧ w = w' := by
  have hf := tmod_fix x n hn
  have HF := Lib.hid hf
  have hlo : -n < x.tmod n := Int.lt_tmod_of_pos x hn
  have hhi : x.tmod n < n := Int.tmod_lt_of_pos x hn
  clear hf
  by_cases hs : x.tmod n < 0
  · go_enter Tryz.func51, Tryz.ntmps51
    go_wp2
    go_ret
    exact ⟨ret_int4 (by rw [← HF.out, if_pos hs]), rfl⟩
  · go_enter Tryz.func51, Tryz.ntmps51
    go_wp2
    go_ret
    exact ⟨ret_int4 (by rw [← HF.out, if_neg (by omega)]), rfl⟩

end Go.Proofs.YtmebdnblobobnaaGreatDoor

namespace Go.Proofs.YtmebdnblobobnaaGreatDoor
set_option maxRecDepth 100000
open Go.RowKit _root_.Go.Proofs.YtmebdnblobobnaaGreatDoor.Wd _root_.Go.Proofs.YtmebdnblobobnaaGreatDoor.Nm Go.ChangeShapes Go.WideShapes

theorem addr_add0 (p : Addr) : p.add 0 = p := by cases p; simp [Addr.add]
/-- An act: its four numbers, where its bytes lie, and which they are. -/
structure ActV where
  K : Int
  S : Int
  P : Int
  N : Int
  A : Option Addr
  n : Nat
  cap : Nat
  l : List UInt8
instance : Inhabited ActV := ⟨⟨0, 0, 0, 0, none, 0, 0, []⟩⟩
def ActV.cells (a : ActV) : List Value := [.int .i64 a.K, .int .i64 a.S, .int .i64 a.P, .int .i64 a.N, .slice a.A a.n a.cap]
structure ActAt (w : World) (p : Addr) (a : ActV) : Prop where
  c0 : w.cell? p = some (.int .i64 a.K)
  c1 : w.cell? (p.add 1) = some (.int .i64 a.S)
  c2 : w.cell? (p.add 2) = some (.int .i64 a.P)
  c3 : w.cell? (p.add 3) = some (.int .i64 a.N)
  c4 : w.cell? (p.add 4) = some (.slice a.A a.n a.cap)
structure ActWf (w : World) (B : Nat) (a : ActV) : Prop where
  k : (Lit.int .i64 a.K).wf = true
  s : (Lit.int .i64 a.S).wf = true
  p : (Lit.int .i64 a.P).wf = true
  n : (Lit.int .i64 a.N).wf = true
  b : Shows w B a.A a.n a.cap a.l
theorem ActWf.below {w w' : World} {B : Nat} {a : ActV} (h : ActWf w B a) (hb : Below B w w') : ActWf w' B a := ⟨h.k, h.s, h.p, h.n, h.b.below hb⟩
/-- Acts that lie one behind the other. -/
structure LaidActs (w : World) (B : Nat) (A : Option Addr) (n : Nat) (acs : List ActV) : Prop where
  len : acs.length = n
  spot : 0 < n → ∃ g o, A = some ⟨g, o, none⟩ ∧ g < B ∧ ∀ j (h : j < acs.length), ActAt w ⟨g, o + j * 5, none⟩ acs[j]
  each : ∀ p ∈ acs, ActWf w B p
theorem LaidActs.below {w w' : World} {B : Nat} {A : Option Addr} {n : Nat} {acs : List ActV} (h : LaidActs w B A n acs) (hb : Below B w w') : LaidActs w' B A n acs :=
  ⟨h.len, fun hn => by
    obtain ⟨g, o, e, hg, hc⟩ := h.spot hn
    refine ⟨g, o, e, hg, fun j hj => ?_⟩
    have hh := hc j hj
    have key : ∀ k v, w.cell? ((⟨g, o + j * 5, none⟩ : Addr).add k) = some v → w'.cell? ((⟨g, o + j * 5, none⟩ : Addr).add k) = some v := fun k v h => by
      rw [Addr.add_lit] at h ⊢
      exact (hb.cell (p := ⟨g, o + j * 5 + k, none⟩) hg).trans h
    refine ⟨?_, key 1 _ hh.c1, key 2 _ hh.c2, key 3 _ hh.c3, key 4 _ hh.c4⟩
    exact (hb.cell (p := ⟨g, o + j * 5, none⟩) hg).trans hh.c0, fun p hp => (h.each p hp).below hb⟩

end Go.Proofs.YtmebdnblobobnaaGreatDoor

namespace Go.Proofs.YtmebdnblobobnaaGreatDoor
set_option maxRecDepth 100000
open Go.RowKit _root_.Go.Proofs.YtmebdnblobobnaaGreatDoor.Wd _root_.Go.Proofs.YtmebdnblobobnaaGreatDoor.Fm

theorem Rf.other {w w' : World} {g x : Nat} {m m' : Mem} (hx : Rf w x m) (hf : Fl w g m') (hg : w.grownBy w' (some g)) (hne : g ≠ x) : Rf w' x m := by
  obtain ⟨A, n, cap, hr, _⟩ := hf.spot
  exact hx.kept hg hne _ _ hr ty_ne
theorem Fl.other {w w' : World} {g x : Nat} {m m' : Mem} (hf : Fl w g m) (hx : Rf w x m') (hg : w.grownBy w' (some x)) (hne : g ≠ x) : Fl w' g m := by
  obtain ⟨_, A, n, cap, hr, _⟩ := hx.spot
  exact hf.kept hg (fun e => hne e.symm) _ _ hr tyx_ne

def actS (a : ActV) : Int := a.S % 7 - (a.N % 40).tdiv 39
def actP (a : ActV) : Int := if a.N.tmod 13 = 12 then a.P else a.P % 5
def actB (a : ActV) : List UInt8 := if 0 < a.N.tmod 5 ∧ 16 < a.l.length then a.l.take 16 else a.l
def actM (m : Mem) (a : ActV) : Mem :=
  if a.K % 9 ≤ 5 then (programM m (actS a) (actP a) (actB a)).2
  else if a.K % 9 = 6 then (eraseM m (actS a)).2
  else if a.K % 9 = 7 then stopM m (a.N % 6 - 1) a.l
  else startM m

set_option maxRecDepth 100000 in
set_option maxHeartbeats 4000000 in
/-- The numbers of an act, drawn in whatever order: sector and page. -/
theorem do_any (g x : Nat) (m : Mem) (a : ActV) (w : World) (hf : Fl w g m) (hx : Rf w x m) (hgx : g ≠ x) (ha : ActWf w w.heap.size a) (hn : a.n ≤ 40) (hA : ∀ p, a.A = some p → 0 < a.n → p.block ≠ g ∧ p.block ≠ x) :
    Calls Tryz.prog 26 #[.agg #[.int .i64 a.K, .int .i64 a.S, .int .i64 a.P, .int .i64 a.N, .slice a.A a.n a.cap], .pointer (some ⟨g, 0, none⟩), .pointer (some ⟨x, 0, none⟩)] w fun e w' => e = .returned (.bool true) ∧ Fl w' g (actM m a) ∧ Rf w' x (actM m a) ∧ ∃ w1, w.grownBy w1 (some g) ∧ w1.grownBy w' (some x) := by
  have HA := Lib.hid (And.intro hf (And.intro hx (And.intro hgx (And.intro ha hA))))
  have hb := below_new (Below.refl w.heap.size w) (.cells #[.int .i64 a.K, .int .i64 a.S, .int .i64 a.P, .int .i64 a.N, .slice a.A a.n a.cap] 31)
  have hr := Row.new w 31 [.int .i64 a.K, .int .i64 a.S, .int .i64 a.P, .int .i64 a.N, .slice a.A a.n a.cap]
  obtain ⟨K, S, P, N, A, n, cap, l⟩ := a
  obtain ⟨Z, hZ⟩ : ∃ Z, actM m ⟨K, S, P, N, A, n, cap, l⟩ = Z := ⟨_, rfl⟩
  rw [hZ]
  have HZ := Lib.hid hZ
  obtain ⟨G, hG⟩ : ∃ G, w.heap.size = G := ⟨_, rfl⟩
  have HB := Lib.hid (And.intro hr (And.intro hb hG))
  clear hf hx hgx ha hA hZ hb hr hG
  go_enter Tryz.func26, Tryz.ntmps26
  go_wp2_with fail
  obtain ⟨W, hW⟩ : ∃ W, w.alloc (.cells #[.int .i64 K, .int .i64 S, .int .i64 P, .int .i64 N, .slice A n cap] 31) = W := ⟨_, rfl⟩
  have hG := HB.out.2.2
  have hWr := HB.out.1
  change Row (w.alloc (.cells #[.int .i64 K, .int .i64 S, .int .i64 P, .int .i64 N, .slice A n cap] 31)) w.heap.size 31 [.int .i64 K, .int .i64 S, .int .i64 P, .int .i64 N, .slice A n cap] at hWr
  rw [hW, hG] at hWr
  try rw [hW]
  try rw [hG]
  have d0 := hWr.cell (j := 0) rfl
  have d1 := hWr.cell (j := 1) rfl
  have d2 := hWr.cell (j := 2) rfl
  have d3 := hWr.cell (j := 3) rfl
  have d4 := hWr.cell (j := 4) rfl
  clear hWr
  refine wp_region_held_drew (S := fun V => ∃ d, V = W.drewN d) (by kernel_rfl) ⟨1, rfl⟩ (fun hH0 => ?_)
  refine wpAnyH_take (i := 0) (v := ?_) rfl (by kernel_rfl) (by kernel_rfl) (by kernel_rfl) (fun _ _ _ h => h) (Or.inl ⟨by rfl, ?_⟩) (by assumption) ?_
  rotate_left
  · intro w' hS'; obtain ⟨d, rfl⟩ := hS'; go_simp; try exact rfl
  try simp only [Act.put, List.getElem_toArray, List.getElem_cons_zero, List.setIfInBounds_toArray, List.set_cons_zero, List.set_cons_succ]
  refine wpAnyH_take (i := 1) (v := ?_) rfl (by kernel_rfl) (by kernel_rfl) (by kernel_rfl) (fun _ _ _ h => h) (Or.inl ⟨by rfl, ?_⟩) (by assumption) ?_
  rotate_left
  · intro w' hS'; obtain ⟨d, rfl⟩ := hS'; go_simp; try exact rfl
  try simp only [Act.put, List.getElem_toArray, List.getElem_cons_succ, List.getElem_cons_zero, List.setIfInBounds_toArray, List.set_cons_zero, List.set_cons_succ]
  refine wpAnyH_take (i := 3) (v := ?_) rfl (by kernel_rfl) (by kernel_rfl) (by kernel_rfl) (fun _ _ _ h => h) (Or.inl ⟨by rfl, ?_⟩) (by assumption) ?_
  rotate_left
  · intro w' hS'; obtain ⟨d, rfl⟩ := hS'; go_simp; try exact rfl
  try simp only [Act.put, List.getElem_toArray, List.getElem_cons_succ, List.getElem_cons_zero, List.setIfInBounds_toArray, List.set_cons_zero, List.set_cons_succ]
  refine wpAnyH_take (i := 4) (v := ?_) rfl (by kernel_rfl) (by kernel_rfl) (by kernel_rfl) (fun _ _ _ h => h) (Or.inl ⟨by rfl, ?_⟩) (by assumption) ?_
  rotate_left
  · intro w' hS'; obtain ⟨d, rfl⟩ := hS'; go_simp; try exact rfl
  try simp only [Act.put, List.getElem_toArray, List.getElem_cons_succ, List.getElem_cons_zero, List.setIfInBounds_toArray, List.set_cons_zero, List.set_cons_succ]
  refine wpAnyH_take (i := 8) (v := ?_) rfl (by kernel_rfl) (by kernel_rfl) (by kernel_rfl) (fun _ _ _ h => h) (Or.inl ⟨by rfl, ?_⟩) (by assumption) ?_
  rotate_left
  · intro w' hS'; obtain ⟨d, rfl⟩ := hS'; go_simp; try exact rfl
  try simp only [Act.put, List.getElem_toArray, List.getElem_cons_succ, List.getElem_cons_zero, List.setIfInBounds_toArray, List.set_cons_zero, List.set_cons_succ]
  refine wpAnyH_take (i := 9) (v := ?_) rfl (by kernel_rfl) (by kernel_rfl) (by kernel_rfl) (fun _ _ _ h => h) (Or.inl ⟨by rfl, ?_⟩) (by assumption) ?_
  rotate_left
  · intro w' hS'; obtain ⟨d, rfl⟩ := hS'; go_simp; try exact rfl
  try simp only [Act.put, List.getElem_toArray, List.getElem_cons_succ, List.getElem_cons_zero, List.setIfInBounds_toArray, List.set_cons_zero, List.set_cons_succ]
  refine wpAnyH_ready (rs := [2]) (by kernel_rfl) (by simp) ?_
  refine AllReadyH.cons rfl (fun K hK => ?_) AllReadyH.nil
  go_simp
  (with_reducible refine (within4_any _ 7 _ (by decide) (by decide)).mono ?_)
  rintro _ w5 ⟨rfl, rfl⟩
  go_wp2_with fail
  refine hK.out _ _ (by assumption) (fun hH1 => ?_)
  clear hK K
  try simp only [Act.put, List.getElem_toArray, List.getElem_cons_succ, List.getElem_cons_zero, List.setIfInBounds_toArray, List.set_cons_zero, List.set_cons_succ]
  refine wpAnyH_ready (rs := [5]) (by kernel_rfl) (by simp) ?_
  refine AllReadyH.cons rfl (fun K hK => ?_) AllReadyH.nil
  go_simp
  (with_reducible refine (within4_any _ 40 _ (by decide) (by decide)).mono ?_)
  rintro _ w5 ⟨rfl, rfl⟩
  go_wp2_with fail
  refine hK.out _ _ (by assumption) (fun hH2 => ?_)
  clear hK K
  try simp only [Act.put, List.getElem_toArray, List.getElem_cons_succ, List.getElem_cons_zero, List.setIfInBounds_toArray, List.set_cons_zero, List.set_cons_succ]
  refine wpAnyH_take (i := 6) (v := ?_) rfl (by kernel_rfl) (by kernel_rfl) (by kernel_rfl) (fun _ _ _ h => h) (Or.inl ⟨by rfl, ?_⟩) (by assumption) ?_
  rotate_left
  · intro w' hS'; obtain ⟨d, rfl⟩ := hS'; go_simp; try exact rfl
  try simp only [Act.put, List.getElem_toArray, List.getElem_cons_succ, List.getElem_cons_zero, List.setIfInBounds_toArray, List.set_cons_zero, List.set_cons_succ]
  refine wpAnyH_take (i := 7) (v := ?_) rfl (by kernel_rfl) (by kernel_rfl) (by kernel_rfl) (fun _ _ _ h => h) (Or.inl ⟨by rfl, ?_⟩) (by assumption) ?_
  rotate_left
  · intro w' hS'; obtain ⟨d, rfl⟩ := hS'; go_simp; try exact rfl
  try simp only [Act.put, List.getElem_toArray, List.getElem_cons_succ, List.getElem_cons_zero, List.setIfInBounds_toArray, List.set_cons_zero, List.set_cons_succ]
  refine wpAnyH_ready (rs := [10]) (by kernel_rfl) (by simp) ?_
  refine AllReadyH.cons rfl (fun K hK => ?_) AllReadyH.nil
  go_simp
  (with_reducible refine (within4_any _ 5 _ (by decide) (by decide)).mono ?_)
  rintro _ w5 ⟨rfl, rfl⟩
  go_wp2_with fail
  refine hK.out _ _ (by assumption) (fun hH3 => ?_)
  clear hK K
  try simp only [Act.put, List.getElem_toArray, List.getElem_cons_succ, List.getElem_cons_zero, List.setIfInBounds_toArray, List.set_cons_zero, List.set_cons_succ]
  refine wpAnyH_take (i := 11) (v := ?_) rfl (by kernel_rfl) (by kernel_rfl) (by kernel_rfl) (fun _ _ _ h => h) (Or.inl ⟨by rfl, ?_⟩) (by assumption) ?_
  rotate_left
  · intro w' hS'; obtain ⟨d, rfl⟩ := hS'; go_simp; try exact rfl
  try simp only [Act.put, List.getElem_toArray, List.getElem_cons_succ, List.getElem_cons_zero, List.setIfInBounds_toArray, List.set_cons_zero, List.set_cons_succ]
  refine wpAnyH_take (i := 12) (v := ?_) rfl (by kernel_rfl) (by kernel_rfl) (by kernel_rfl) (fun _ _ _ h => h) (Or.inl ⟨by rfl, ?_⟩) (by assumption) ?_
  rotate_left
  · intro w' hS'; obtain ⟨d, rfl⟩ := hS'; go_simp; try exact rfl
  try simp only [Act.put, List.getElem_toArray, List.getElem_cons_succ, List.getElem_cons_zero, List.setIfInBounds_toArray, List.set_cons_zero, List.set_cons_succ]
  refine wpAnyH_done (by kernel_rfl) ?_ _
  obtain ⟨V, hV⟩ : ∃ V, W.drew = V := ⟨_, rfl⟩
  rw [hV]
  have HV : Hid (Fl V g m ∧ Rf V x m ∧ Shows V V.heap.size A n cap l ∧ w.grownBy V (some g) ∧ g ≠ x ∧ (∀ p, A = some p → 0 < n → p.block ≠ g ∧ p.block ≠ x)) := by
    have hb : Below w.heap.size w V := by
      rw [← hV, ← hW]
      exact HB.out.2.1.drew
    obtain ⟨h1, h2, h3, h4, h5⟩ := HA.out
    exact Lib.hid ⟨h1.below hb, h2.below hb, (h4.b.below hb).more hb.size, below_grow hb _, h3, h5⟩
  have d0 : V.cell? ⟨G, 0, none⟩ = some (.int .i64 K) := by rw [← hV]; exact d0
  have d2 : V.cell? ⟨G, 2, none⟩ = some (.int .i64 P) := by rw [← hV]; exact d2
  have d3 : V.cell? ⟨G, 3, none⟩ = some (.int .i64 N) := by rw [← hV]; exact d3
  have d4 : V.cell? ⟨G, 4, none⟩ = some (.slice A n cap) := by rw [← hV]; exact d4
  obtain ⟨sv, hsv⟩ : ∃ sv, IntKind.i64.wrap (S % 7 - IntKind.i64.wrap ((N % 40).tdiv 39)) = sv := ⟨_, rfl⟩
  have hsa : S % 7 - (N % 40).tdiv 39 = sv := by
    rw [← hsv]
    have ht : (N % 40).tdiv 39 = (N % 40) / 39 := Int.tdiv_eq_ediv_of_nonneg (by omega)
    rw [ht, IntKind.wrap_i64, IntKind.wrap_i64]
    omega
  have HSA := Lib.hid hsa
  have HGN : Hid (G ≠ g ∧ G ≠ x) := by
    have h1 := HA.out.1.lt
    have h2 := HA.out.2.1.lt
    have h3 := HB.out.2.2
    exact Lib.hid ⟨by omega, by omega⟩
  rw [hsv]
  have hln : l.length = n := HV.out.2.2.1.len
  have hcap : n ≤ cap := HV.out.2.2.1.le
  have HLN := Lib.hid (And.intro hln hcap)
  clear hsv hsa hV hW HA HB hH0 hH1 hH2 hH3 hln
  obtain ⟨i0, hi0, hz0, hz1, hz2⟩ := info_parts infoByte
  have HI0 := Lib.hid hi0
  have HZ0 := Lib.hid hz0
  have HZ1 := Lib.hid hz1
  have HZ2 := Lib.hid hz2
  clear hi0 hz0 hz1 hz2
  have h9 : K % 9 ≤ 5 ∨ K % 9 = 6 ∨ K % 9 = 7 ∨ K % 9 = 8 := by omega
  obtain ⟨pv, hpv⟩ : ∃ pv, actP ⟨K, S, P, N, A, n, cap, l⟩ = pv := ⟨_, rfl⟩
  have HP := Lib.hid hpv
  by_cases h13 : N.tmod 13 = 12
  all_goals
    unfold actP at hpv
    simp only at hpv
    first | rw [if_pos h13] at hpv | rw [if_neg h13] at hpv
    first | rw [hpv] at d2 | rw [hpv]
    first
      | have h13i : (N.tmod 13 == 12) = true := by simpa using h13
      | have h13i : (N.tmod 13 == 12) = false := by simpa using h13
    rcases h9 with h9 | h9 | h9 | h9
  · have hk6 : K % 9 = 0 ∨ K % 9 = 1 ∨ K % 9 = 2 ∨ K % 9 = 3 ∨ K % 9 = 4 ∨ K % 9 = 5 := by omega
    have hcut : (0 < N.tmod 5 ∧ 16 < n) ∨ (0 < N.tmod 5 ∧ ¬ 16 < n) ∨ ¬ 0 < N.tmod 5 := by omega
    rcases hcut with ⟨hc1, hc2⟩ | ⟨hc1, hc2⟩ | hc1
    · have hc2i : (n : Int) > 16 := by omega
      have hc16 : 16 ≤ cap := by omega
      have hbv : actB ⟨K, S, P, N, A, n, cap, l⟩ = l.take 16 := by
        unfold actB
        exact if_pos ⟨hc1, by have := HLN.out.1; simp only; omega⟩
      have hMv : (programM m sv pv (l.take 16)).2 = Z := by
        rw [← HZ.out]
        unfold actM
        rw [if_pos h9, hbv, HP.out]
        show _ = (programM m (S % 7 - (N % 40).tdiv 39) pv (l.take 16)).2
        rw [HSA.out]
      obtain ⟨R, hR⟩ : ∃ R, programM m sv pv (l.take 16) = R := ⟨_, rfl⟩
      rw [hR] at hMv
      have HR := Lib.hid (And.intro hR hMv)
      have HOWN0 := Lib.hid (show (V.alloc (.cells #[] 5)).ownsRow V.heap.size 5 1 (.slice (some ⟨V.heap.size, 0, none⟩) 0 0) 0 (bc []) from World.ownsRow_made V #[] 0 (Nat.le_refl _) (Nat.zero_le _) rfl)
      have HSHV := Lib.hid (HV.out.2.2.1.take (k := 16) (by omega))
      have HSRC := Lib.hid ((HSHV.out.below (below_new (Below.refl _ _) (.cells #[] 5))).src (P := Tryz.prog) Tryz.underlying29)
      have HAL : Hid (∀ p, A = some p → 0 < 16 → p.block ≠ g ∧ p.block ≠ x) := Lib.hid (fun p h1 h2 => HV.out.2.2.2.2.2 p h1 (by omega))
      clear hbv hMv hR h9 hpv
      rcases hk6 with hk | hk | hk | hk | hk | hk
      all_goals
        go_wp2_with fail
        (with_reducible refine (within4_any K 9 _ (by decide) (by decide)).mono ?_)
        rintro _ w5 ⟨rfl, rfl⟩
        rw [hk]
        go_wp2_with (at_builtin; refine wpList_ap _ rfl (.tmp 53) (.tmp 54) 29 29 rfl V.heap.size 5 i0 Tryz.underlying29 HI0.out HZ0.out HZ1.out HZ2.out _ 0 0 [] rfl HOWN0.out _ 16 (l.take 16) rfl HSRC.out ?c1 ?c2 ?_)
        case c1 => omega
        try (case c2 => simp)
        intro A1 c1 w1 ho1 _ hg1 _
        have hb1 : Below V.heap.size V w1 := (below_new (Below.refl _ _) _).grown hg1 (by simp) (by intro k hk; simp at hk; omega)
        have H1 := Lib.hid (And.intro ((Shows.of_own ho1).more (Nat.le_refl _)) (And.intro (HV.out.1.below hb1) hb1))
        clear ho1 hg1 hb1
        go_wp2_with fail
        (with_reducible refine (program_any g m sv pv A1 16 c1 (l.take 16) w1 H1.out.2.1 H1.out.1 (by omega)).mono ?_)
        rintro _ w2 ⟨rfl, hf2, hg2⟩
        rw [HR.out.1] at hf2 ⊢
        have hx2 := (HV.out.2.1.below H1.out.2.2).other H1.out.2.1 hg2 HV.out.2.2.2.2.1
        have hs2 := ((HSHV.out.below H1.out.2.2).apart hg2 (fun p h1 h2 => (HAL.out p h1 h2).1)).more (Nat.le_trans H1.out.2.2.size hg2.size)
        have H2 := Lib.hid (And.intro hf2 (And.intro hx2 (And.intro hs2 (grow_trans HV.out.2.2.2.1 (grow_trans (below_grow H1.out.2.2 (some g)) hg2 (.inl rfl)) (.inl rfl)))))
        clear hf2 hg2 hx2 hs2
        go_wp2_with fail
        (with_reducible refine (xprogram_any x m sv pv A 16 cap (l.take 16) w2 H2.out.2.1 H2.out.2.2.1 (by omega)).mono ?_)
        rintro _ w3 ⟨rfl, hx3, hg3⟩
        rw [HR.out.1] at hx3 ⊢
        have hf3 := H2.out.1.other H2.out.2.1 hg3 HV.out.2.2.2.2.1
        rw [HR.out.2] at hx3 hf3
        have H3 := Lib.hid (And.intro hf3 (And.intro hx3 (And.intro H2.out.2.2.2 hg3)))
        clear hf3 hx3 hg3
        go_wp2
        go_ret
        exact ⟨by simp, H3.out.1, H3.out.2.1, w2, H3.out.2.2.1, H3.out.2.2.2⟩
    · have hc2i : ¬ (n : Int) > 16 := by omega
      have hbv : actB ⟨K, S, P, N, A, n, cap, l⟩ = l := by
        unfold actB
        exact if_neg (by have := HLN.out.1; simp only; omega)
      have hMv : (programM m sv pv (l)).2 = Z := by
        rw [← HZ.out]
        unfold actM
        rw [if_pos h9, hbv, HP.out]
        show _ = (programM m (S % 7 - (N % 40).tdiv 39) pv (l)).2
        rw [HSA.out]
      obtain ⟨R, hR⟩ : ∃ R, programM m sv pv (l) = R := ⟨_, rfl⟩
      rw [hR] at hMv
      have HR := Lib.hid (And.intro hR hMv)
      have HOWN0 := Lib.hid (show (V.alloc (.cells #[] 5)).ownsRow V.heap.size 5 1 (.slice (some ⟨V.heap.size, 0, none⟩) 0 0) 0 (bc []) from World.ownsRow_made V #[] 0 (Nat.le_refl _) (Nat.zero_le _) rfl)
      have HSHV := Lib.hid (HV.out.2.2.1)
      have HSRC := Lib.hid ((HSHV.out.below (below_new (Below.refl _ _) (.cells #[] 5))).src (P := Tryz.prog) Tryz.underlying29)
      have HAL : Hid (∀ p, A = some p → 0 < n → p.block ≠ g ∧ p.block ≠ x) := Lib.hid (fun p h1 h2 => HV.out.2.2.2.2.2 p h1 (by omega))
      clear hbv hMv hR h9 hpv
      rcases hk6 with hk | hk | hk | hk | hk | hk
      all_goals
        go_wp2_with fail
        (with_reducible refine (within4_any K 9 _ (by decide) (by decide)).mono ?_)
        rintro _ w5 ⟨rfl, rfl⟩
        rw [hk]
        go_wp2_with (at_builtin; refine wpList_ap _ rfl (.tmp 53) (.tmp 54) 29 29 rfl V.heap.size 5 i0 Tryz.underlying29 HI0.out HZ0.out HZ1.out HZ2.out _ 0 0 [] rfl HOWN0.out _ n (l) rfl HSRC.out ?c1 ?c2 ?_)
        case c1 => omega
        try (case c2 => simp)
        intro A1 c1 w1 ho1 _ hg1 _
        have hb1 : Below V.heap.size V w1 := (below_new (Below.refl _ _) _).grown hg1 (by simp) (by intro k hk; simp at hk; omega)
        have H1 := Lib.hid (And.intro ((Shows.of_own ho1).more (Nat.le_refl _)) (And.intro (HV.out.1.below hb1) hb1))
        clear ho1 hg1 hb1
        go_wp2_with fail
        (with_reducible refine (program_any g m sv pv A1 n c1 (l) w1 H1.out.2.1 H1.out.1 (by omega)).mono ?_)
        rintro _ w2 ⟨rfl, hf2, hg2⟩
        rw [HR.out.1] at hf2 ⊢
        have hx2 := (HV.out.2.1.below H1.out.2.2).other H1.out.2.1 hg2 HV.out.2.2.2.2.1
        have hs2 := ((HSHV.out.below H1.out.2.2).apart hg2 (fun p h1 h2 => (HAL.out p h1 h2).1)).more (Nat.le_trans H1.out.2.2.size hg2.size)
        have H2 := Lib.hid (And.intro hf2 (And.intro hx2 (And.intro hs2 (grow_trans HV.out.2.2.2.1 (grow_trans (below_grow H1.out.2.2 (some g)) hg2 (.inl rfl)) (.inl rfl)))))
        clear hf2 hg2 hx2 hs2
        go_wp2_with fail
        (with_reducible refine (xprogram_any x m sv pv A n cap (l) w2 H2.out.2.1 H2.out.2.2.1 (by omega)).mono ?_)
        rintro _ w3 ⟨rfl, hx3, hg3⟩
        rw [HR.out.1] at hx3 ⊢
        have hf3 := H2.out.1.other H2.out.2.1 hg3 HV.out.2.2.2.2.1
        rw [HR.out.2] at hx3 hf3
        have H3 := Lib.hid (And.intro hf3 (And.intro hx3 (And.intro H2.out.2.2.2 hg3)))
        clear hf3 hx3 hg3
        go_wp2
        go_ret
        exact ⟨by simp, H3.out.1, H3.out.2.1, w2, H3.out.2.2.1, H3.out.2.2.2⟩
    · have hc0 : True := trivial
      have hbv : actB ⟨K, S, P, N, A, n, cap, l⟩ = l := by
        unfold actB
        exact if_neg (by simp only; omega)
      have hMv : (programM m sv pv (l)).2 = Z := by
        rw [← HZ.out]
        unfold actM
        rw [if_pos h9, hbv, HP.out]
        show _ = (programM m (S % 7 - (N % 40).tdiv 39) pv (l)).2
        rw [HSA.out]
      obtain ⟨R, hR⟩ : ∃ R, programM m sv pv (l) = R := ⟨_, rfl⟩
      rw [hR] at hMv
      have HR := Lib.hid (And.intro hR hMv)
      have HOWN0 := Lib.hid (show (V.alloc (.cells #[] 5)).ownsRow V.heap.size 5 1 (.slice (some ⟨V.heap.size, 0, none⟩) 0 0) 0 (bc []) from World.ownsRow_made V #[] 0 (Nat.le_refl _) (Nat.zero_le _) rfl)
      have HSHV := Lib.hid (HV.out.2.2.1)
      have HSRC := Lib.hid ((HSHV.out.below (below_new (Below.refl _ _) (.cells #[] 5))).src (P := Tryz.prog) Tryz.underlying29)
      have HAL : Hid (∀ p, A = some p → 0 < n → p.block ≠ g ∧ p.block ≠ x) := Lib.hid (fun p h1 h2 => HV.out.2.2.2.2.2 p h1 (by omega))
      clear hbv hMv hR h9 hpv
      rcases hk6 with hk | hk | hk | hk | hk | hk
      all_goals
        go_wp2_with fail
        (with_reducible refine (within4_any K 9 _ (by decide) (by decide)).mono ?_)
        rintro _ w5 ⟨rfl, rfl⟩
        rw [hk]
        go_wp2_with (at_builtin; refine wpList_ap _ rfl (.tmp 53) (.tmp 54) 29 29 rfl V.heap.size 5 i0 Tryz.underlying29 HI0.out HZ0.out HZ1.out HZ2.out _ 0 0 [] rfl HOWN0.out _ n (l) rfl HSRC.out ?c1 ?c2 ?_)
        case c1 => omega
        try (case c2 => simp)
        intro A1 c1 w1 ho1 _ hg1 _
        have hb1 : Below V.heap.size V w1 := (below_new (Below.refl _ _) _).grown hg1 (by simp) (by intro k hk; simp at hk; omega)
        have H1 := Lib.hid (And.intro ((Shows.of_own ho1).more (Nat.le_refl _)) (And.intro (HV.out.1.below hb1) hb1))
        clear ho1 hg1 hb1
        go_wp2_with fail
        (with_reducible refine (program_any g m sv pv A1 n c1 (l) w1 H1.out.2.1 H1.out.1 (by omega)).mono ?_)
        rintro _ w2 ⟨rfl, hf2, hg2⟩
        rw [HR.out.1] at hf2 ⊢
        have hx2 := (HV.out.2.1.below H1.out.2.2).other H1.out.2.1 hg2 HV.out.2.2.2.2.1
        have hs2 := ((HSHV.out.below H1.out.2.2).apart hg2 (fun p h1 h2 => (HAL.out p h1 h2).1)).more (Nat.le_trans H1.out.2.2.size hg2.size)
        have H2 := Lib.hid (And.intro hf2 (And.intro hx2 (And.intro hs2 (grow_trans HV.out.2.2.2.1 (grow_trans (below_grow H1.out.2.2 (some g)) hg2 (.inl rfl)) (.inl rfl)))))
        clear hf2 hg2 hx2 hs2
        go_wp2_with fail
        (with_reducible refine (xprogram_any x m sv pv A n cap (l) w2 H2.out.2.1 H2.out.2.2.1 (by omega)).mono ?_)
        rintro _ w3 ⟨rfl, hx3, hg3⟩
        rw [HR.out.1] at hx3 ⊢
        have hf3 := H2.out.1.other H2.out.2.1 hg3 HV.out.2.2.2.2.1
        rw [HR.out.2] at hx3 hf3
        have H3 := Lib.hid (And.intro hf3 (And.intro hx3 (And.intro H2.out.2.2.2 hg3)))
        clear hf3 hx3 hg3
        go_wp2
        go_ret
        exact ⟨by simp, H3.out.1, H3.out.2.1, w2, H3.out.2.2.1, H3.out.2.2.2⟩
  · have hMv : (eraseM m sv).2 = Z := by
      rw [← HZ.out]
      unfold actM
      rw [if_neg (by simp only; omega), if_pos h9]
      show _ = (eraseM m (S % 7 - (N % 40).tdiv 39)).2
      rw [HSA.out]
    obtain ⟨R, hR⟩ : ∃ R, eraseM m sv = R := ⟨_, rfl⟩
    rw [hR] at hMv
    have HR := Lib.hid (And.intro hR hMv)
    clear hMv hR hpv
    go_wp2_with fail
    (with_reducible refine (within4_any K 9 _ (by decide) (by decide)).mono ?_)
    rintro _ w5 ⟨rfl, rfl⟩
    rw [h9]
    go_wp2_with fail
    (with_reducible refine (erase_any g m sv _ HV.out.1).mono ?_)
    rintro _ w2 ⟨rfl, hf2, hg2⟩
    rw [HR.out.1] at hf2 ⊢
    have hx2 := HV.out.2.1.other HV.out.1 hg2 HV.out.2.2.2.2.1
    have H2 := Lib.hid (And.intro hf2 (And.intro hx2 (grow_trans HV.out.2.2.2.1 hg2 (.inl rfl))))
    clear hf2 hg2 hx2
    go_wp2_with fail
    (with_reducible refine (xerase_any x m sv w2 H2.out.2.1).mono ?_)
    rintro _ w3 ⟨rfl, hx3, hg3⟩
    rw [HR.out.1] at hx3 ⊢
    have hf3 := H2.out.1.other H2.out.2.1 hg3 HV.out.2.2.2.2.1
    rw [HR.out.2] at hx3 hf3
    have H3 := Lib.hid (And.intro hf3 (And.intro hx3 (And.intro H2.out.2.2 hg3)))
    clear hf3 hx3 hg3
    go_wp2
    go_ret
    exact ⟨by simp, H3.out.1, H3.out.2.1, w2, H3.out.2.2.1, H3.out.2.2.2⟩
  · have hMv : stopM m (N % 6 - 1) l = Z := by
      rw [← HZ.out]
      unfold actM
      rw [if_neg (by simp only; omega), if_neg (by simp only; omega), if_pos h9]
    have HMV := Lib.hid hMv
    clear hMv hpv
    have hwr6 : IntKind.i64.wrap (N % 6 - 1) = N % 6 - 1 := by rw [IntKind.wrap_i64]; omega
    go_wp2_with fail
    (with_reducible refine (within4_any K 9 _ (by decide) (by decide)).mono ?_)
    rintro _ w5 ⟨rfl, rfl⟩
    rw [h9]
    go_wp2_with fail
    refine wp_region_held_drew (S := fun U => U.cell? ⟨G, 3, none⟩ = some (.int .i64 N) ∧ U.cell? ⟨G, 4, none⟩ = some (.slice A n cap)) (by kernel_rfl) ⟨d3, d4⟩ (fun hH0 => ?_)
    refine wpAnyH_take (i := 0) (v := ?_) rfl (by kernel_rfl) (by kernel_rfl) (by kernel_rfl) (fun _ _ _ h => h) (Or.inl ⟨by rfl, ?_⟩) (by assumption) ?_
    rotate_left
    · intro w' hS'; obtain ⟨e3, e4⟩ := hS'; go_simp; try exact rfl
    try simp only [Act.put, List.getElem_toArray, List.getElem_cons_zero, List.setIfInBounds_toArray, List.set_cons_zero, List.set_cons_succ]
    refine wpAnyH_take (i := 1) (v := ?_) rfl (by kernel_rfl) (by kernel_rfl) (by kernel_rfl) (fun _ _ _ h => h) (Or.inl ⟨by rfl, ?_⟩) (by assumption) ?_
    rotate_left
    · intro w' hS'; obtain ⟨e3, e4⟩ := hS'; go_simp; try exact rfl
    try simp only [Act.put, List.getElem_toArray, List.getElem_cons_succ, List.getElem_cons_zero, List.setIfInBounds_toArray, List.set_cons_zero, List.set_cons_succ]
    refine wpAnyH_take (i := 2) (v := ?_) rfl (by kernel_rfl) (by kernel_rfl) (by kernel_rfl) (fun _ _ _ h => h) (Or.inl ⟨by rfl, ?_⟩) (by assumption) ?_
    rotate_left
    · intro w' hS'; obtain ⟨e3, e4⟩ := hS'; go_simp; try exact rfl
    try simp only [Act.put, List.getElem_toArray, List.getElem_cons_succ, List.getElem_cons_zero, List.setIfInBounds_toArray, List.set_cons_zero, List.set_cons_succ]
    refine wpAnyH_take (i := 5) (v := ?_) rfl (by kernel_rfl) (by kernel_rfl) (by kernel_rfl) (fun _ _ _ h => h) (Or.inl ⟨by rfl, ?_⟩) (by assumption) ?_
    rotate_left
    · intro w' hS'; obtain ⟨e3, e4⟩ := hS'; go_simp; try exact rfl
    try simp only [Act.put, List.getElem_toArray, List.getElem_cons_succ, List.getElem_cons_zero, List.setIfInBounds_toArray, List.set_cons_zero, List.set_cons_succ]
    refine wpAnyH_take (i := 6) (v := ?_) rfl (by kernel_rfl) (by kernel_rfl) (by kernel_rfl) (fun _ _ _ h => h) (Or.inl ⟨by rfl, ?_⟩) (by assumption) ?_
    rotate_left
    · intro w' hS'; obtain ⟨e3, e4⟩ := hS'; go_simp; try exact rfl
    try simp only [Act.put, List.getElem_toArray, List.getElem_cons_succ, List.getElem_cons_zero, List.setIfInBounds_toArray, List.set_cons_zero, List.set_cons_succ]
    refine wpAnyH_ready (rs := [3]) (by kernel_rfl) (by simp) ?_
    refine AllReadyH.cons rfl (fun K hK => ?_) AllReadyH.nil
    go_simp
    (with_reducible refine (within4_any N 6 _ (by decide) (by decide)).mono ?_)
    rintro _ w5 ⟨rfl, rfl⟩
    go_wp2_with fail
    refine hK.out _ _ (by assumption) (fun hH1 => ?_)
    clear hK K
    try simp only [Act.put, List.getElem_toArray, List.getElem_cons_succ, List.getElem_cons_zero, List.setIfInBounds_toArray, List.set_cons_zero, List.set_cons_succ]
    refine wpAnyH_take (i := 4) (v := ?_) rfl (by kernel_rfl) (by kernel_rfl) (by kernel_rfl) (fun _ _ _ h => h) (Or.inl ⟨by rfl, ?_⟩) (by assumption) ?_
    rotate_left
    · intro w' hS'; obtain ⟨e3, e4⟩ := hS'; go_simp; try exact rfl
    try simp only [Act.put, List.getElem_toArray, List.getElem_cons_succ, List.getElem_cons_zero, List.setIfInBounds_toArray, List.set_cons_zero, List.set_cons_succ]
    refine wpAnyH_ready (rs := [7]) (by kernel_rfl) (by simp) ?_
    refine AllReadyH.cons rfl (fun K hK => ?_) AllReadyH.nil
    go_simp
    (with_reducible refine (stop_any g m (N % 6 - 1) A n cap l V.drew (HV.out.1.below (Below.refl _ _).drew) (by omega) ((HV.out.2.2.1.below (Below.refl V.heap.size V).drew).more (Below.refl V.heap.size V).drew.size) (fun p h1 h2 => (HV.out.2.2.2.2.2 p h1 h2).1) (by omega)).mono ?_)
    rintro _ w2 ⟨rfl, hf2, hg2⟩
    rw [HMV.out] at hf2
    have k3 : w2.cell? ⟨G, 3, none⟩ = some (.int .i64 N) := hg2.cell (show V.drew.cell? ⟨G, 3, none⟩ = some (.int .i64 N) from d3) (fun e => HGN.out.1 (by injection e))
    have k4 : w2.cell? ⟨G, 4, none⟩ = some (.slice A n cap) := hg2.cell (show V.drew.cell? ⟨G, 4, none⟩ = some (.slice A n cap) from d4) (fun e => HGN.out.1 (by injection e))
    have hvd := HV.out.1.below (Below.refl V.heap.size V).drew
    have hx2 := (HV.out.2.1.below (Below.refl V.heap.size V).drew).other hvd hg2 HV.out.2.2.2.2.1
    have hs2 := ((HV.out.2.2.1.below (Below.refl V.heap.size V).drew).apart hg2 (fun p h1 h2 => (HV.out.2.2.2.2.2 p h1 h2).1)).more hg2.size
    have H2 := Lib.hid (And.intro hf2 (And.intro hx2 (And.intro hs2 (grow_trans (grow_drew HV.out.2.2.2.1) hg2 (.inl rfl)))))
    clear hf2 hg2 hx2 hs2 hvd
    go_wp2_with fail
    refine hK.out _ _ ⟨k3, k4⟩ (fun hH2 => ?_)
    clear hK K
    try simp only [Act.put, List.getElem_toArray, List.getElem_cons_succ, List.getElem_cons_zero, List.setIfInBounds_toArray, List.set_cons_zero, List.set_cons_succ]
    refine wpAnyH_done (by kernel_rfl) ?_ _
    go_wp2_with fail
    clear hH0 hH1 hH2
    refine wp_region_held_drew (S := fun U => U.cell? ⟨G, 3, none⟩ = some (.int .i64 N) ∧ U.cell? ⟨G, 4, none⟩ = some (.slice A n cap)) (by kernel_rfl) ⟨k3, k4⟩ (fun hH0 => ?_)
    refine wpAnyH_take (i := 0) (v := ?_) rfl (by kernel_rfl) (by kernel_rfl) (by kernel_rfl) (fun _ _ _ h => h) (Or.inl ⟨by rfl, ?_⟩) (by assumption) ?_
    rotate_left
    · intro w' hS'; obtain ⟨e3, e4⟩ := hS'; go_simp; try exact rfl
    try simp only [Act.put, List.getElem_toArray, List.getElem_cons_zero, List.setIfInBounds_toArray, List.set_cons_zero, List.set_cons_succ]
    refine wpAnyH_take (i := 1) (v := ?_) rfl (by kernel_rfl) (by kernel_rfl) (by kernel_rfl) (fun _ _ _ h => h) (Or.inl ⟨by rfl, ?_⟩) (by assumption) ?_
    rotate_left
    · intro w' hS'; obtain ⟨e3, e4⟩ := hS'; go_simp; try exact rfl
    try simp only [Act.put, List.getElem_toArray, List.getElem_cons_succ, List.getElem_cons_zero, List.setIfInBounds_toArray, List.set_cons_zero, List.set_cons_succ]
    refine wpAnyH_take (i := 2) (v := ?_) rfl (by kernel_rfl) (by kernel_rfl) (by kernel_rfl) (fun _ _ _ h => h) (Or.inl ⟨by rfl, ?_⟩) (by assumption) ?_
    rotate_left
    · intro w' hS'; obtain ⟨e3, e4⟩ := hS'; go_simp; try exact rfl
    try simp only [Act.put, List.getElem_toArray, List.getElem_cons_succ, List.getElem_cons_zero, List.setIfInBounds_toArray, List.set_cons_zero, List.set_cons_succ]
    refine wpAnyH_take (i := 5) (v := ?_) rfl (by kernel_rfl) (by kernel_rfl) (by kernel_rfl) (fun _ _ _ h => h) (Or.inl ⟨by rfl, ?_⟩) (by assumption) ?_
    rotate_left
    · intro w' hS'; obtain ⟨e3, e4⟩ := hS'; go_simp; try exact rfl
    try simp only [Act.put, List.getElem_toArray, List.getElem_cons_succ, List.getElem_cons_zero, List.setIfInBounds_toArray, List.set_cons_zero, List.set_cons_succ]
    refine wpAnyH_take (i := 6) (v := ?_) rfl (by kernel_rfl) (by kernel_rfl) (by kernel_rfl) (fun _ _ _ h => h) (Or.inl ⟨by rfl, ?_⟩) (by assumption) ?_
    rotate_left
    · intro w' hS'; obtain ⟨e3, e4⟩ := hS'; go_simp; try exact rfl
    try simp only [Act.put, List.getElem_toArray, List.getElem_cons_succ, List.getElem_cons_zero, List.setIfInBounds_toArray, List.set_cons_zero, List.set_cons_succ]
    refine wpAnyH_ready (rs := [3]) (by kernel_rfl) (by simp) ?_
    refine AllReadyH.cons rfl (fun K hK => ?_) AllReadyH.nil
    go_simp
    (with_reducible refine (within4_any N 6 _ (by decide) (by decide)).mono ?_)
    rintro _ w5 ⟨rfl, rfl⟩
    go_wp2_with fail
    refine hK.out _ _ (by assumption) (fun hH1 => ?_)
    clear hK K
    try simp only [Act.put, List.getElem_toArray, List.getElem_cons_succ, List.getElem_cons_zero, List.setIfInBounds_toArray, List.set_cons_zero, List.set_cons_succ]
    refine wpAnyH_take (i := 4) (v := ?_) rfl (by kernel_rfl) (by kernel_rfl) (by kernel_rfl) (fun _ _ _ h => h) (Or.inl ⟨by rfl, ?_⟩) (by assumption) ?_
    rotate_left
    · intro w' hS'; obtain ⟨e3, e4⟩ := hS'; go_simp; try exact rfl
    try simp only [Act.put, List.getElem_toArray, List.getElem_cons_succ, List.getElem_cons_zero, List.setIfInBounds_toArray, List.set_cons_zero, List.set_cons_succ]
    refine wpAnyH_ready (rs := [7]) (by kernel_rfl) (by simp) ?_
    refine AllReadyH.cons rfl (fun K hK => ?_) AllReadyH.nil
    go_simp
    (with_reducible refine (xstop_any x m (N % 6 - 1) A n cap l w2.drew (H2.out.2.1.below (Below.refl _ _).drew) (by omega) ((H2.out.2.2.1.below (Below.refl w2.heap.size w2).drew).more (Below.refl w2.heap.size w2).drew.size) (by omega)).mono ?_)
    rintro _ w3 ⟨rfl, hx3, hg3⟩
    rw [HMV.out] at hx3
    have q3 : w3.cell? ⟨G, 3, none⟩ = some (.int .i64 N) := hg3.cell (show w2.drew.cell? ⟨G, 3, none⟩ = some (.int .i64 N) from k3) (fun e => HGN.out.2 (by injection e))
    have q4 : w3.cell? ⟨G, 4, none⟩ = some (.slice A n cap) := hg3.cell (show w2.drew.cell? ⟨G, 4, none⟩ = some (.slice A n cap) from k4) (fun e => HGN.out.2 (by injection e))
    have hf3 := (H2.out.1.below (Below.refl w2.heap.size w2).drew).other (H2.out.2.1.below (Below.refl w2.heap.size w2).drew) hg3 HV.out.2.2.2.2.1
    have H3 := Lib.hid (And.intro hf3 (And.intro hx3 (And.intro (grow_drew H2.out.2.2.2) hg3)))
    clear hf3 hx3 hg3
    go_wp2_with fail
    refine hK.out _ _ ⟨q3, q4⟩ (fun hH2 => ?_)
    clear hK K
    try simp only [Act.put, List.getElem_toArray, List.getElem_cons_succ, List.getElem_cons_zero, List.setIfInBounds_toArray, List.set_cons_zero, List.set_cons_succ]
    refine wpAnyH_done (by kernel_rfl) ?_ _
    go_wp2
    go_ret
    exact ⟨rfl, H3.out.1, H3.out.2.1, w2.drew, H3.out.2.2.1, H3.out.2.2.2⟩
  · have hMv : startM m = Z := by
      rw [← HZ.out]
      unfold actM
      rw [if_neg (by simp only; omega), if_neg (by simp only; omega), if_neg (by simp only; omega)]
    have HMV := Lib.hid hMv
    clear hMv hpv
    go_wp2_with fail
    (with_reducible refine (within4_any K 9 _ (by decide) (by decide)).mono ?_)
    rintro _ w5 ⟨rfl, rfl⟩
    rw [h9]
    go_wp2_with fail
    (with_reducible refine (start_any g m _ HV.out.1).mono ?_)
    rintro _ w2 ⟨rfl, hf2, hg2⟩
    rw [HMV.out] at hf2
    have hx2 := HV.out.2.1.other HV.out.1 hg2 HV.out.2.2.2.2.1
    have H2 := Lib.hid (And.intro hf2 (And.intro hx2 (grow_trans HV.out.2.2.2.1 hg2 (.inl rfl))))
    clear hf2 hg2 hx2
    go_wp2_with fail
    (with_reducible refine (xstart_any x m w2 H2.out.2.1).mono ?_)
    rintro _ w3 ⟨rfl, hx3, hg3⟩
    rw [HMV.out] at hx3
    have hf3 := H2.out.1.other H2.out.2.1 hg3 HV.out.2.2.2.2.1
    have H3 := Lib.hid (And.intro hf3 (And.intro hx3 (And.intro H2.out.2.2 hg3)))
    clear hf3 hx3 hg3
    go_wp2
    go_ret
    exact ⟨rfl, H3.out.1, H3.out.2.1, w2, H3.out.2.2.1, H3.out.2.2.2⟩
  · have hk6 : K % 9 = 0 ∨ K % 9 = 1 ∨ K % 9 = 2 ∨ K % 9 = 3 ∨ K % 9 = 4 ∨ K % 9 = 5 := by omega
    have hcut : (0 < N.tmod 5 ∧ 16 < n) ∨ (0 < N.tmod 5 ∧ ¬ 16 < n) ∨ ¬ 0 < N.tmod 5 := by omega
    rcases hcut with ⟨hc1, hc2⟩ | ⟨hc1, hc2⟩ | hc1
    · have hc2i : (n : Int) > 16 := by omega
      have hc16 : 16 ≤ cap := by omega
      have hbv : actB ⟨K, S, P, N, A, n, cap, l⟩ = l.take 16 := by
        unfold actB
        exact if_pos ⟨hc1, by have := HLN.out.1; simp only; omega⟩
      have hMv : (programM m sv pv (l.take 16)).2 = Z := by
        rw [← HZ.out]
        unfold actM
        rw [if_pos h9, hbv, HP.out]
        show _ = (programM m (S % 7 - (N % 40).tdiv 39) pv (l.take 16)).2
        rw [HSA.out]
      obtain ⟨R, hR⟩ : ∃ R, programM m sv pv (l.take 16) = R := ⟨_, rfl⟩
      rw [hR] at hMv
      have HR := Lib.hid (And.intro hR hMv)
      have HOWN0 := Lib.hid (show (V.alloc (.cells #[] 5)).ownsRow V.heap.size 5 1 (.slice (some ⟨V.heap.size, 0, none⟩) 0 0) 0 (bc []) from World.ownsRow_made V #[] 0 (Nat.le_refl _) (Nat.zero_le _) rfl)
      have HSHV := Lib.hid (HV.out.2.2.1.take (k := 16) (by omega))
      have HSRC := Lib.hid ((HSHV.out.below (below_new (Below.refl _ _) (.cells #[] 5))).src (P := Tryz.prog) Tryz.underlying29)
      have HAL : Hid (∀ p, A = some p → 0 < 16 → p.block ≠ g ∧ p.block ≠ x) := Lib.hid (fun p h1 h2 => HV.out.2.2.2.2.2 p h1 (by omega))
      clear hbv hMv hR h9 hpv
      rcases hk6 with hk | hk | hk | hk | hk | hk
      all_goals
        go_wp2_with fail
        (with_reducible refine (within4_any K 9 _ (by decide) (by decide)).mono ?_)
        rintro _ w5 ⟨rfl, rfl⟩
        rw [hk]
        go_wp2_with (at_builtin; refine wpList_ap _ rfl (.tmp 53) (.tmp 54) 29 29 rfl V.heap.size 5 i0 Tryz.underlying29 HI0.out HZ0.out HZ1.out HZ2.out _ 0 0 [] rfl HOWN0.out _ 16 (l.take 16) rfl HSRC.out ?c1 ?c2 ?_)
        case c1 => omega
        try (case c2 => simp)
        intro A1 c1 w1 ho1 _ hg1 _
        have hb1 : Below V.heap.size V w1 := (below_new (Below.refl _ _) _).grown hg1 (by simp) (by intro k hk; simp at hk; omega)
        have H1 := Lib.hid (And.intro ((Shows.of_own ho1).more (Nat.le_refl _)) (And.intro (HV.out.1.below hb1) hb1))
        clear ho1 hg1 hb1
        go_wp2_with fail
        (with_reducible refine (program_any g m sv pv A1 16 c1 (l.take 16) w1 H1.out.2.1 H1.out.1 (by omega)).mono ?_)
        rintro _ w2 ⟨rfl, hf2, hg2⟩
        rw [HR.out.1] at hf2 ⊢
        have hx2 := (HV.out.2.1.below H1.out.2.2).other H1.out.2.1 hg2 HV.out.2.2.2.2.1
        have hs2 := ((HSHV.out.below H1.out.2.2).apart hg2 (fun p h1 h2 => (HAL.out p h1 h2).1)).more (Nat.le_trans H1.out.2.2.size hg2.size)
        have H2 := Lib.hid (And.intro hf2 (And.intro hx2 (And.intro hs2 (grow_trans HV.out.2.2.2.1 (grow_trans (below_grow H1.out.2.2 (some g)) hg2 (.inl rfl)) (.inl rfl)))))
        clear hf2 hg2 hx2 hs2
        go_wp2_with fail
        (with_reducible refine (xprogram_any x m sv pv A 16 cap (l.take 16) w2 H2.out.2.1 H2.out.2.2.1 (by omega)).mono ?_)
        rintro _ w3 ⟨rfl, hx3, hg3⟩
        rw [HR.out.1] at hx3 ⊢
        have hf3 := H2.out.1.other H2.out.2.1 hg3 HV.out.2.2.2.2.1
        rw [HR.out.2] at hx3 hf3
        have H3 := Lib.hid (And.intro hf3 (And.intro hx3 (And.intro H2.out.2.2.2 hg3)))
        clear hf3 hx3 hg3
        go_wp2
        go_ret
        exact ⟨by simp, H3.out.1, H3.out.2.1, w2, H3.out.2.2.1, H3.out.2.2.2⟩
    · have hc2i : ¬ (n : Int) > 16 := by omega
      have hbv : actB ⟨K, S, P, N, A, n, cap, l⟩ = l := by
        unfold actB
        exact if_neg (by have := HLN.out.1; simp only; omega)
      have hMv : (programM m sv pv (l)).2 = Z := by
        rw [← HZ.out]
        unfold actM
        rw [if_pos h9, hbv, HP.out]
        show _ = (programM m (S % 7 - (N % 40).tdiv 39) pv (l)).2
        rw [HSA.out]
      obtain ⟨R, hR⟩ : ∃ R, programM m sv pv (l) = R := ⟨_, rfl⟩
      rw [hR] at hMv
      have HR := Lib.hid (And.intro hR hMv)
      have HOWN0 := Lib.hid (show (V.alloc (.cells #[] 5)).ownsRow V.heap.size 5 1 (.slice (some ⟨V.heap.size, 0, none⟩) 0 0) 0 (bc []) from World.ownsRow_made V #[] 0 (Nat.le_refl _) (Nat.zero_le _) rfl)
      have HSHV := Lib.hid (HV.out.2.2.1)
      have HSRC := Lib.hid ((HSHV.out.below (below_new (Below.refl _ _) (.cells #[] 5))).src (P := Tryz.prog) Tryz.underlying29)
      have HAL : Hid (∀ p, A = some p → 0 < n → p.block ≠ g ∧ p.block ≠ x) := Lib.hid (fun p h1 h2 => HV.out.2.2.2.2.2 p h1 (by omega))
      clear hbv hMv hR h9 hpv
      rcases hk6 with hk | hk | hk | hk | hk | hk
      all_goals
        go_wp2_with fail
        (with_reducible refine (within4_any K 9 _ (by decide) (by decide)).mono ?_)
        rintro _ w5 ⟨rfl, rfl⟩
        rw [hk]
        go_wp2_with (at_builtin; refine wpList_ap _ rfl (.tmp 53) (.tmp 54) 29 29 rfl V.heap.size 5 i0 Tryz.underlying29 HI0.out HZ0.out HZ1.out HZ2.out _ 0 0 [] rfl HOWN0.out _ n (l) rfl HSRC.out ?c1 ?c2 ?_)
        case c1 => omega
        try (case c2 => simp)
        intro A1 c1 w1 ho1 _ hg1 _
        have hb1 : Below V.heap.size V w1 := (below_new (Below.refl _ _) _).grown hg1 (by simp) (by intro k hk; simp at hk; omega)
        have H1 := Lib.hid (And.intro ((Shows.of_own ho1).more (Nat.le_refl _)) (And.intro (HV.out.1.below hb1) hb1))
        clear ho1 hg1 hb1
        go_wp2_with fail
        (with_reducible refine (program_any g m sv pv A1 n c1 (l) w1 H1.out.2.1 H1.out.1 (by omega)).mono ?_)
        rintro _ w2 ⟨rfl, hf2, hg2⟩
        rw [HR.out.1] at hf2 ⊢
        have hx2 := (HV.out.2.1.below H1.out.2.2).other H1.out.2.1 hg2 HV.out.2.2.2.2.1
        have hs2 := ((HSHV.out.below H1.out.2.2).apart hg2 (fun p h1 h2 => (HAL.out p h1 h2).1)).more (Nat.le_trans H1.out.2.2.size hg2.size)
        have H2 := Lib.hid (And.intro hf2 (And.intro hx2 (And.intro hs2 (grow_trans HV.out.2.2.2.1 (grow_trans (below_grow H1.out.2.2 (some g)) hg2 (.inl rfl)) (.inl rfl)))))
        clear hf2 hg2 hx2 hs2
        go_wp2_with fail
        (with_reducible refine (xprogram_any x m sv pv A n cap (l) w2 H2.out.2.1 H2.out.2.2.1 (by omega)).mono ?_)
        rintro _ w3 ⟨rfl, hx3, hg3⟩
        rw [HR.out.1] at hx3 ⊢
        have hf3 := H2.out.1.other H2.out.2.1 hg3 HV.out.2.2.2.2.1
        rw [HR.out.2] at hx3 hf3
        have H3 := Lib.hid (And.intro hf3 (And.intro hx3 (And.intro H2.out.2.2.2 hg3)))
        clear hf3 hx3 hg3
        go_wp2
        go_ret
        exact ⟨by simp, H3.out.1, H3.out.2.1, w2, H3.out.2.2.1, H3.out.2.2.2⟩
    · have hc0 : True := trivial
      have hbv : actB ⟨K, S, P, N, A, n, cap, l⟩ = l := by
        unfold actB
        exact if_neg (by simp only; omega)
      have hMv : (programM m sv pv (l)).2 = Z := by
        rw [← HZ.out]
        unfold actM
        rw [if_pos h9, hbv, HP.out]
        show _ = (programM m (S % 7 - (N % 40).tdiv 39) pv (l)).2
        rw [HSA.out]
      obtain ⟨R, hR⟩ : ∃ R, programM m sv pv (l) = R := ⟨_, rfl⟩
      rw [hR] at hMv
      have HR := Lib.hid (And.intro hR hMv)
      have HOWN0 := Lib.hid (show (V.alloc (.cells #[] 5)).ownsRow V.heap.size 5 1 (.slice (some ⟨V.heap.size, 0, none⟩) 0 0) 0 (bc []) from World.ownsRow_made V #[] 0 (Nat.le_refl _) (Nat.zero_le _) rfl)
      have HSHV := Lib.hid (HV.out.2.2.1)
      have HSRC := Lib.hid ((HSHV.out.below (below_new (Below.refl _ _) (.cells #[] 5))).src (P := Tryz.prog) Tryz.underlying29)
      have HAL : Hid (∀ p, A = some p → 0 < n → p.block ≠ g ∧ p.block ≠ x) := Lib.hid (fun p h1 h2 => HV.out.2.2.2.2.2 p h1 (by omega))
      clear hbv hMv hR h9 hpv
      rcases hk6 with hk | hk | hk | hk | hk | hk
      all_goals
        go_wp2_with fail
        (with_reducible refine (within4_any K 9 _ (by decide) (by decide)).mono ?_)
        rintro _ w5 ⟨rfl, rfl⟩
        rw [hk]
        go_wp2_with (at_builtin; refine wpList_ap _ rfl (.tmp 53) (.tmp 54) 29 29 rfl V.heap.size 5 i0 Tryz.underlying29 HI0.out HZ0.out HZ1.out HZ2.out _ 0 0 [] rfl HOWN0.out _ n (l) rfl HSRC.out ?c1 ?c2 ?_)
        case c1 => omega
        try (case c2 => simp)
        intro A1 c1 w1 ho1 _ hg1 _
        have hb1 : Below V.heap.size V w1 := (below_new (Below.refl _ _) _).grown hg1 (by simp) (by intro k hk; simp at hk; omega)
        have H1 := Lib.hid (And.intro ((Shows.of_own ho1).more (Nat.le_refl _)) (And.intro (HV.out.1.below hb1) hb1))
        clear ho1 hg1 hb1
        go_wp2_with fail
        (with_reducible refine (program_any g m sv pv A1 n c1 (l) w1 H1.out.2.1 H1.out.1 (by omega)).mono ?_)
        rintro _ w2 ⟨rfl, hf2, hg2⟩
        rw [HR.out.1] at hf2 ⊢
        have hx2 := (HV.out.2.1.below H1.out.2.2).other H1.out.2.1 hg2 HV.out.2.2.2.2.1
        have hs2 := ((HSHV.out.below H1.out.2.2).apart hg2 (fun p h1 h2 => (HAL.out p h1 h2).1)).more (Nat.le_trans H1.out.2.2.size hg2.size)
        have H2 := Lib.hid (And.intro hf2 (And.intro hx2 (And.intro hs2 (grow_trans HV.out.2.2.2.1 (grow_trans (below_grow H1.out.2.2 (some g)) hg2 (.inl rfl)) (.inl rfl)))))
        clear hf2 hg2 hx2 hs2
        go_wp2_with fail
        (with_reducible refine (xprogram_any x m sv pv A n cap (l) w2 H2.out.2.1 H2.out.2.2.1 (by omega)).mono ?_)
        rintro _ w3 ⟨rfl, hx3, hg3⟩
        rw [HR.out.1] at hx3 ⊢
        have hf3 := H2.out.1.other H2.out.2.1 hg3 HV.out.2.2.2.2.1
        rw [HR.out.2] at hx3 hf3
        have H3 := Lib.hid (And.intro hf3 (And.intro hx3 (And.intro H2.out.2.2.2 hg3)))
        clear hf3 hx3 hg3
        go_wp2
        go_ret
        exact ⟨by simp, H3.out.1, H3.out.2.1, w2, H3.out.2.2.1, H3.out.2.2.2⟩
  · have hMv : (eraseM m sv).2 = Z := by
      rw [← HZ.out]
      unfold actM
      rw [if_neg (by simp only; omega), if_pos h9]
      show _ = (eraseM m (S % 7 - (N % 40).tdiv 39)).2
      rw [HSA.out]
    obtain ⟨R, hR⟩ : ∃ R, eraseM m sv = R := ⟨_, rfl⟩
    rw [hR] at hMv
    have HR := Lib.hid (And.intro hR hMv)
    clear hMv hR hpv
    go_wp2_with fail
    (with_reducible refine (within4_any K 9 _ (by decide) (by decide)).mono ?_)
    rintro _ w5 ⟨rfl, rfl⟩
    rw [h9]
    go_wp2_with fail
    (with_reducible refine (erase_any g m sv _ HV.out.1).mono ?_)
    rintro _ w2 ⟨rfl, hf2, hg2⟩
    rw [HR.out.1] at hf2 ⊢
    have hx2 := HV.out.2.1.other HV.out.1 hg2 HV.out.2.2.2.2.1
    have H2 := Lib.hid (And.intro hf2 (And.intro hx2 (grow_trans HV.out.2.2.2.1 hg2 (.inl rfl))))
    clear hf2 hg2 hx2
    go_wp2_with fail
    (with_reducible refine (xerase_any x m sv w2 H2.out.2.1).mono ?_)
    rintro _ w3 ⟨rfl, hx3, hg3⟩
    rw [HR.out.1] at hx3 ⊢
    have hf3 := H2.out.1.other H2.out.2.1 hg3 HV.out.2.2.2.2.1
    rw [HR.out.2] at hx3 hf3
    have H3 := Lib.hid (And.intro hf3 (And.intro hx3 (And.intro H2.out.2.2 hg3)))
    clear hf3 hx3 hg3
    go_wp2
    go_ret
    exact ⟨by simp, H3.out.1, H3.out.2.1, w2, H3.out.2.2.1, H3.out.2.2.2⟩
  · have hMv : stopM m (N % 6 - 1) l = Z := by
      rw [← HZ.out]
      unfold actM
      rw [if_neg (by simp only; omega), if_neg (by simp only; omega), if_pos h9]
    have HMV := Lib.hid hMv
    clear hMv hpv
    have hwr6 : IntKind.i64.wrap (N % 6 - 1) = N % 6 - 1 := by rw [IntKind.wrap_i64]; omega
    go_wp2_with fail
    (with_reducible refine (within4_any K 9 _ (by decide) (by decide)).mono ?_)
    rintro _ w5 ⟨rfl, rfl⟩
    rw [h9]
    go_wp2_with fail
    refine wp_region_held_drew (S := fun U => U.cell? ⟨G, 3, none⟩ = some (.int .i64 N) ∧ U.cell? ⟨G, 4, none⟩ = some (.slice A n cap)) (by kernel_rfl) ⟨d3, d4⟩ (fun hH0 => ?_)
    refine wpAnyH_take (i := 0) (v := ?_) rfl (by kernel_rfl) (by kernel_rfl) (by kernel_rfl) (fun _ _ _ h => h) (Or.inl ⟨by rfl, ?_⟩) (by assumption) ?_
    rotate_left
    · intro w' hS'; obtain ⟨e3, e4⟩ := hS'; go_simp; try exact rfl
    try simp only [Act.put, List.getElem_toArray, List.getElem_cons_zero, List.setIfInBounds_toArray, List.set_cons_zero, List.set_cons_succ]
    refine wpAnyH_take (i := 1) (v := ?_) rfl (by kernel_rfl) (by kernel_rfl) (by kernel_rfl) (fun _ _ _ h => h) (Or.inl ⟨by rfl, ?_⟩) (by assumption) ?_
    rotate_left
    · intro w' hS'; obtain ⟨e3, e4⟩ := hS'; go_simp; try exact rfl
    try simp only [Act.put, List.getElem_toArray, List.getElem_cons_succ, List.getElem_cons_zero, List.setIfInBounds_toArray, List.set_cons_zero, List.set_cons_succ]
    refine wpAnyH_take (i := 2) (v := ?_) rfl (by kernel_rfl) (by kernel_rfl) (by kernel_rfl) (fun _ _ _ h => h) (Or.inl ⟨by rfl, ?_⟩) (by assumption) ?_
    rotate_left
    · intro w' hS'; obtain ⟨e3, e4⟩ := hS'; go_simp; try exact rfl
    try simp only [Act.put, List.getElem_toArray, List.getElem_cons_succ, List.getElem_cons_zero, List.setIfInBounds_toArray, List.set_cons_zero, List.set_cons_succ]
    refine wpAnyH_take (i := 5) (v := ?_) rfl (by kernel_rfl) (by kernel_rfl) (by kernel_rfl) (fun _ _ _ h => h) (Or.inl ⟨by rfl, ?_⟩) (by assumption) ?_
    rotate_left
    · intro w' hS'; obtain ⟨e3, e4⟩ := hS'; go_simp; try exact rfl
    try simp only [Act.put, List.getElem_toArray, List.getElem_cons_succ, List.getElem_cons_zero, List.setIfInBounds_toArray, List.set_cons_zero, List.set_cons_succ]
    refine wpAnyH_take (i := 6) (v := ?_) rfl (by kernel_rfl) (by kernel_rfl) (by kernel_rfl) (fun _ _ _ h => h) (Or.inl ⟨by rfl, ?_⟩) (by assumption) ?_
    rotate_left
    · intro w' hS'; obtain ⟨e3, e4⟩ := hS'; go_simp; try exact rfl
    try simp only [Act.put, List.getElem_toArray, List.getElem_cons_succ, List.getElem_cons_zero, List.setIfInBounds_toArray, List.set_cons_zero, List.set_cons_succ]
    refine wpAnyH_ready (rs := [3]) (by kernel_rfl) (by simp) ?_
    refine AllReadyH.cons rfl (fun K hK => ?_) AllReadyH.nil
    go_simp
    (with_reducible refine (within4_any N 6 _ (by decide) (by decide)).mono ?_)
    rintro _ w5 ⟨rfl, rfl⟩
    go_wp2_with fail
    refine hK.out _ _ (by assumption) (fun hH1 => ?_)
    clear hK K
    try simp only [Act.put, List.getElem_toArray, List.getElem_cons_succ, List.getElem_cons_zero, List.setIfInBounds_toArray, List.set_cons_zero, List.set_cons_succ]
    refine wpAnyH_take (i := 4) (v := ?_) rfl (by kernel_rfl) (by kernel_rfl) (by kernel_rfl) (fun _ _ _ h => h) (Or.inl ⟨by rfl, ?_⟩) (by assumption) ?_
    rotate_left
    · intro w' hS'; obtain ⟨e3, e4⟩ := hS'; go_simp; try exact rfl
    try simp only [Act.put, List.getElem_toArray, List.getElem_cons_succ, List.getElem_cons_zero, List.setIfInBounds_toArray, List.set_cons_zero, List.set_cons_succ]
    refine wpAnyH_ready (rs := [7]) (by kernel_rfl) (by simp) ?_
    refine AllReadyH.cons rfl (fun K hK => ?_) AllReadyH.nil
    go_simp
    (with_reducible refine (stop_any g m (N % 6 - 1) A n cap l V.drew (HV.out.1.below (Below.refl _ _).drew) (by omega) ((HV.out.2.2.1.below (Below.refl V.heap.size V).drew).more (Below.refl V.heap.size V).drew.size) (fun p h1 h2 => (HV.out.2.2.2.2.2 p h1 h2).1) (by omega)).mono ?_)
    rintro _ w2 ⟨rfl, hf2, hg2⟩
    rw [HMV.out] at hf2
    have k3 : w2.cell? ⟨G, 3, none⟩ = some (.int .i64 N) := hg2.cell (show V.drew.cell? ⟨G, 3, none⟩ = some (.int .i64 N) from d3) (fun e => HGN.out.1 (by injection e))
    have k4 : w2.cell? ⟨G, 4, none⟩ = some (.slice A n cap) := hg2.cell (show V.drew.cell? ⟨G, 4, none⟩ = some (.slice A n cap) from d4) (fun e => HGN.out.1 (by injection e))
    have hvd := HV.out.1.below (Below.refl V.heap.size V).drew
    have hx2 := (HV.out.2.1.below (Below.refl V.heap.size V).drew).other hvd hg2 HV.out.2.2.2.2.1
    have hs2 := ((HV.out.2.2.1.below (Below.refl V.heap.size V).drew).apart hg2 (fun p h1 h2 => (HV.out.2.2.2.2.2 p h1 h2).1)).more hg2.size
    have H2 := Lib.hid (And.intro hf2 (And.intro hx2 (And.intro hs2 (grow_trans (grow_drew HV.out.2.2.2.1) hg2 (.inl rfl)))))
    clear hf2 hg2 hx2 hs2 hvd
    go_wp2_with fail
    refine hK.out _ _ ⟨k3, k4⟩ (fun hH2 => ?_)
    clear hK K
    try simp only [Act.put, List.getElem_toArray, List.getElem_cons_succ, List.getElem_cons_zero, List.setIfInBounds_toArray, List.set_cons_zero, List.set_cons_succ]
    refine wpAnyH_done (by kernel_rfl) ?_ _
    go_wp2_with fail
    clear hH0 hH1 hH2
    refine wp_region_held_drew (S := fun U => U.cell? ⟨G, 3, none⟩ = some (.int .i64 N) ∧ U.cell? ⟨G, 4, none⟩ = some (.slice A n cap)) (by kernel_rfl) ⟨k3, k4⟩ (fun hH0 => ?_)
    refine wpAnyH_take (i := 0) (v := ?_) rfl (by kernel_rfl) (by kernel_rfl) (by kernel_rfl) (fun _ _ _ h => h) (Or.inl ⟨by rfl, ?_⟩) (by assumption) ?_
    rotate_left
    · intro w' hS'; obtain ⟨e3, e4⟩ := hS'; go_simp; try exact rfl
    try simp only [Act.put, List.getElem_toArray, List.getElem_cons_zero, List.setIfInBounds_toArray, List.set_cons_zero, List.set_cons_succ]
    refine wpAnyH_take (i := 1) (v := ?_) rfl (by kernel_rfl) (by kernel_rfl) (by kernel_rfl) (fun _ _ _ h => h) (Or.inl ⟨by rfl, ?_⟩) (by assumption) ?_
    rotate_left
    · intro w' hS'; obtain ⟨e3, e4⟩ := hS'; go_simp; try exact rfl
    try simp only [Act.put, List.getElem_toArray, List.getElem_cons_succ, List.getElem_cons_zero, List.setIfInBounds_toArray, List.set_cons_zero, List.set_cons_succ]
    refine wpAnyH_take (i := 2) (v := ?_) rfl (by kernel_rfl) (by kernel_rfl) (by kernel_rfl) (fun _ _ _ h => h) (Or.inl ⟨by rfl, ?_⟩) (by assumption) ?_
    rotate_left
    · intro w' hS'; obtain ⟨e3, e4⟩ := hS'; go_simp; try exact rfl
    try simp only [Act.put, List.getElem_toArray, List.getElem_cons_succ, List.getElem_cons_zero, List.setIfInBounds_toArray, List.set_cons_zero, List.set_cons_succ]
    refine wpAnyH_take (i := 5) (v := ?_) rfl (by kernel_rfl) (by kernel_rfl) (by kernel_rfl) (fun _ _ _ h => h) (Or.inl ⟨by rfl, ?_⟩) (by assumption) ?_
    rotate_left
    · intro w' hS'; obtain ⟨e3, e4⟩ := hS'; go_simp; try exact rfl
    try simp only [Act.put, List.getElem_toArray, List.getElem_cons_succ, List.getElem_cons_zero, List.setIfInBounds_toArray, List.set_cons_zero, List.set_cons_succ]
    refine wpAnyH_take (i := 6) (v := ?_) rfl (by kernel_rfl) (by kernel_rfl) (by kernel_rfl) (fun _ _ _ h => h) (Or.inl ⟨by rfl, ?_⟩) (by assumption) ?_
    rotate_left
    · intro w' hS'; obtain ⟨e3, e4⟩ := hS'; go_simp; try exact rfl
    try simp only [Act.put, List.getElem_toArray, List.getElem_cons_succ, List.getElem_cons_zero, List.setIfInBounds_toArray, List.set_cons_zero, List.set_cons_succ]
    refine wpAnyH_ready (rs := [3]) (by kernel_rfl) (by simp) ?_
    refine AllReadyH.cons rfl (fun K hK => ?_) AllReadyH.nil
    go_simp
    (with_reducible refine (within4_any N 6 _ (by decide) (by decide)).mono ?_)
    rintro _ w5 ⟨rfl, rfl⟩
    go_wp2_with fail
    refine hK.out _ _ (by assumption) (fun hH1 => ?_)
    clear hK K
    try simp only [Act.put, List.getElem_toArray, List.getElem_cons_succ, List.getElem_cons_zero, List.setIfInBounds_toArray, List.set_cons_zero, List.set_cons_succ]
    refine wpAnyH_take (i := 4) (v := ?_) rfl (by kernel_rfl) (by kernel_rfl) (by kernel_rfl) (fun _ _ _ h => h) (Or.inl ⟨by rfl, ?_⟩) (by assumption) ?_
    rotate_left
    · intro w' hS'; obtain ⟨e3, e4⟩ := hS'; go_simp; try exact rfl
    try simp only [Act.put, List.getElem_toArray, List.getElem_cons_succ, List.getElem_cons_zero, List.setIfInBounds_toArray, List.set_cons_zero, List.set_cons_succ]
    refine wpAnyH_ready (rs := [7]) (by kernel_rfl) (by simp) ?_
    refine AllReadyH.cons rfl (fun K hK => ?_) AllReadyH.nil
    go_simp
    (with_reducible refine (xstop_any x m (N % 6 - 1) A n cap l w2.drew (H2.out.2.1.below (Below.refl _ _).drew) (by omega) ((H2.out.2.2.1.below (Below.refl w2.heap.size w2).drew).more (Below.refl w2.heap.size w2).drew.size) (by omega)).mono ?_)
    rintro _ w3 ⟨rfl, hx3, hg3⟩
    rw [HMV.out] at hx3
    have q3 : w3.cell? ⟨G, 3, none⟩ = some (.int .i64 N) := hg3.cell (show w2.drew.cell? ⟨G, 3, none⟩ = some (.int .i64 N) from k3) (fun e => HGN.out.2 (by injection e))
    have q4 : w3.cell? ⟨G, 4, none⟩ = some (.slice A n cap) := hg3.cell (show w2.drew.cell? ⟨G, 4, none⟩ = some (.slice A n cap) from k4) (fun e => HGN.out.2 (by injection e))
    have hf3 := (H2.out.1.below (Below.refl w2.heap.size w2).drew).other (H2.out.2.1.below (Below.refl w2.heap.size w2).drew) hg3 HV.out.2.2.2.2.1
    have H3 := Lib.hid (And.intro hf3 (And.intro hx3 (And.intro (grow_drew H2.out.2.2.2) hg3)))
    clear hf3 hx3 hg3
    go_wp2_with fail
    refine hK.out _ _ ⟨q3, q4⟩ (fun hH2 => ?_)
    clear hK K
    try simp only [Act.put, List.getElem_toArray, List.getElem_cons_succ, List.getElem_cons_zero, List.setIfInBounds_toArray, List.set_cons_zero, List.set_cons_succ]
    refine wpAnyH_done (by kernel_rfl) ?_ _
    go_wp2
    go_ret
    exact ⟨rfl, H3.out.1, H3.out.2.1, w2.drew, H3.out.2.2.1, H3.out.2.2.2⟩
  · have hMv : startM m = Z := by
      rw [← HZ.out]
      unfold actM
      rw [if_neg (by simp only; omega), if_neg (by simp only; omega), if_neg (by simp only; omega)]
    have HMV := Lib.hid hMv
    clear hMv hpv
    go_wp2_with fail
    (with_reducible refine (within4_any K 9 _ (by decide) (by decide)).mono ?_)
    rintro _ w5 ⟨rfl, rfl⟩
    rw [h9]
    go_wp2_with fail
    (with_reducible refine (start_any g m _ HV.out.1).mono ?_)
    rintro _ w2 ⟨rfl, hf2, hg2⟩
    rw [HMV.out] at hf2
    have hx2 := HV.out.2.1.other HV.out.1 hg2 HV.out.2.2.2.2.1
    have H2 := Lib.hid (And.intro hf2 (And.intro hx2 (grow_trans HV.out.2.2.2.1 hg2 (.inl rfl))))
    clear hf2 hg2 hx2
    go_wp2_with fail
    (with_reducible refine (xstart_any x m w2 H2.out.2.1).mono ?_)
    rintro _ w3 ⟨rfl, hx3, hg3⟩
    rw [HMV.out] at hx3
    have hf3 := H2.out.1.other H2.out.2.1 hg3 HV.out.2.2.2.2.1
    have H3 := Lib.hid (And.intro hf3 (And.intro hx3 (And.intro H2.out.2.2 hg3)))
    clear hf3 hx3 hg3
    go_wp2
    go_ret
    exact ⟨rfl, H3.out.1, H3.out.2.1, w2, H3.out.2.2.1, H3.out.2.2.2⟩
end Go.Proofs.YtmebdnblobobnaaGreatDoor

namespace Go.Proofs.YtmebdnblobobnaaGreatDoor
set_option maxRecDepth 100000
open Go.RowKit _root_.Go.Proofs.YtmebdnblobobnaaGreatDoor.Wd _root_.Go.Proofs.YtmebdnblobobnaaGreatDoor.Fm

theorem ActWf.more {w : World} {B B' : Nat} {a : ActV} (h : ActWf w B a) (hb : B ≤ B') : ActWf w B' a := ⟨h.k, h.s, h.p, h.n, h.b.more hb⟩
theorem LaidActs.more {w : World} {B B' : Nat} {A : Option Addr} {n : Nat} {acs : List ActV} (h : LaidActs w B A n acs) (hb : B ≤ B') : LaidActs w B' A n acs :=
  ⟨h.len, fun hn => by
    obtain ⟨g, o, e, hg, hc⟩ := h.spot hn
    exact ⟨g, o, e, Nat.lt_of_lt_of_le hg hb, hc⟩, fun p hp => (h.each p hp).more hb⟩
theorem LaidActs.cells {w W : World} {B G o : Nat} {n : Nat} {acs : List ActV} (h : LaidActs w B (some ⟨G, o, none⟩) n acs) (hb : Below B w W) (j : Nat) (hj : j < acs.length) :
    W.cell? ⟨G, o + j * 5, none⟩ = some (.int .i64 acs[j].K) ∧ W.cell? ⟨G, o + j * 5 + 1, none⟩ = some (.int .i64 acs[j].S) ∧ W.cell? ⟨G, o + j * 5 + 2, none⟩ = some (.int .i64 acs[j].P) ∧ W.cell? ⟨G, o + j * 5 + 3, none⟩ = some (.int .i64 acs[j].N) ∧ W.cell? ⟨G, o + j * 5 + 4, none⟩ = some (.slice acs[j].A acs[j].n acs[j].cap) := by
  obtain ⟨g, o', e, _, hc⟩ := (h.below hb).spot (by have := h.len; omega)
  injection e with e
  injection e with e1 e2
  subst e1 e2
  have hat := hc j hj
  have c1 := hat.c1
  have c2 := hat.c2
  have c3 := hat.c3
  have c4 := hat.c4
  rw [Addr.add_lit] at c1 c2 c3 c4
  exact ⟨hat.c0, c1, c2, c3, c4⟩
theorem Fl.kept2 {w w' : World} {g k : Nat} {m m' : Mem} (h : Fl w g m) (hk : Fl w k m') (hg : w.grownBy w' (some k)) (hne : g ≠ k) : Fl w' g m := by
  obtain ⟨A, n, cap, hr, _⟩ := hk.spot
  exact h.kept hg (fun e => hne e.symm) _ _ hr ty_ne
/-- What an act at two memories leaves of others. -/
theorem act_fl {w w1 w' : World} {g x k : Nat} {m m' mk : Mem} (hf : Fl w g m) (hx : Rf w x m') (hgx : g ≠ x) (h1 : w.grownBy w1 (some g)) (h2 : w1.grownBy w' (some x)) (hk : Fl w k mk) (n1 : k ≠ g) (n2 : k ≠ x) : Fl w' k mk := by
  obtain ⟨A, n, cap, hr, _⟩ := hf.spot
  obtain ⟨_, A2, n2', cap2, hr2, _⟩ := hx.spot
  have e1 := hk.kept h1 (fun e => n1 e.symm) _ _ hr ty_ne
  have e2 : w1.heap[x]? = some (.cells (rfCells m' (.slice A2 n2' cap2)).toArray 63 (0, 0)) := (h1.block x hx.lt (fun e => hgx (by injection e with e; exact e.symm))).trans hr2
  exact e1.kept h2 (fun e => n2 e.symm) _ _ e2 tyx_ne
theorem act_rf {w w1 w' : World} {g x k : Nat} {m m' mk : Mem} (hf : Fl w g m) (hx : Rf w x m') (hgx : g ≠ x) (h1 : w.grownBy w1 (some g)) (h2 : w1.grownBy w' (some x)) (hk : Rf w k mk) (n1 : k ≠ g) (n2 : k ≠ x) : Rf w' k mk := by
  obtain ⟨A, n, cap, hr, _⟩ := hf.spot
  obtain ⟨_, A2, n2', cap2, hr2, _⟩ := hx.spot
  have e1 := hk.kept h1 (fun e => n1 e.symm) _ _ hr ty_ne
  have e2 : w1.heap[x]? = some (.cells (rfCells m' (.slice A2 n2' cap2)).toArray 63 (0, 0)) := (h1.block x hx.lt (fun e => hgx (by injection e with e; exact e.symm))).trans hr2
  exact e1.kept h2 (fun e => n2 e.symm) _ _ e2 tyx_ne
end Go.Proofs.YtmebdnblobobnaaGreatDoor

namespace Go.Proofs.YtmebdnblobobnaaGreatDoor
set_option maxRecDepth 100000
open Go.RowKit _root_.Go.Proofs.YtmebdnblobobnaaGreatDoor.Wd _root_.Go.Proofs.YtmebdnblobobnaaGreatDoor.Fm

theorem below_drewN {B : Nat} {w w' : World} (h : Below B w w') (q : Nat) : Below B w (w'.drewN q) := ⟨h.os, h.tape, h.output, h.size, h.block⟩

set_option maxHeartbeats 2000000 in
theorem same_any (g x : Nat) (m : Mem) (w : World) (hf : Fl w g m) (hx : Rf w x m) :
    Calls Tryz.prog 10 #[.pointer (some ⟨g, 0, none⟩), .pointer (some ⟨x, 0, none⟩)] w fun e w' => e = .returned (.bool true) ∧ Below w.heap.size w w' := by
  have H := Lib.hid (And.intro hf hx)
  clear hf hx
  go_enter Tryz.func10, Tryz.ntmps10
  go_wp2_with fail
  go_loopw [5] (fun i wr => ∃ k : Nat, k ≤ 8 ∧ i = .int .i64 ((k : Int) - 1) ∧ Hid (Below w.heap.size w wr)) (fun i _ => 8 - (intOf i + 1).toNat)
  case atStart => exact ⟨0, by omega, rfl, Lib.hid (Below.refl _ _)⟩
  case round =>
    obtain ⟨k, hk, rfl, HB⟩ := hrel
    by_cases hlt : k < 8
    · have hki : (k : Int) - 1 < 7 := by omega
      obtain ⟨s, hs⟩ : ∃ s, (k : Int) - 1 = s := ⟨_, rfl⟩
      have HS := Lib.hid hs
      obtain ⟨L, hL⟩ : ∃ L, readM m s = L := ⟨_, rfl⟩
      have HL := Lib.hid hL
      have hs1 : -1 ≤ s ∧ s ≤ 6 := by omega
      rw [hs] at hki ⊢
      clear hs hL
      go_wp2_with fail
      have hM0 : Below w.heap.size w wr.drew := HB.out.drew
      refine wp_region_held_drew (S := fun W => Below w.heap.size w W) (by kernel_rfl) hM0 (fun hH0 => ?_)
      refine wpAnyH_take (i := 0) (v := ?_) rfl (by kernel_rfl) (by kernel_rfl) (by kernel_rfl) (fun _ _ _ h => h) (Or.inl ⟨by rfl, ?_⟩) (by assumption) ?_
      rotate_left
      · intro w' hS'; go_simp; try exact rfl
      try simp only [Act.put, List.getElem_toArray, List.getElem_cons_zero, List.setIfInBounds_toArray, List.set_cons_zero, List.set_cons_succ]
      refine wpAnyH_take (i := 1) (v := ?_) rfl (by kernel_rfl) (by kernel_rfl) (by kernel_rfl) (fun _ _ _ h => h) (Or.inl ⟨by rfl, ?_⟩) (by assumption) ?_
      rotate_left
      · intro w' hS'; go_simp; try exact rfl
      try simp only [Act.put, List.getElem_toArray, List.getElem_cons_succ, List.getElem_cons_zero, List.setIfInBounds_toArray, List.set_cons_zero, List.set_cons_succ]
      refine wpAnyH_take (i := 4) (v := ?_) rfl (by kernel_rfl) (by kernel_rfl) (by kernel_rfl) (fun _ _ _ h => h) (Or.inl ⟨by rfl, ?_⟩) (by assumption) ?_
      rotate_left
      · intro w' hS'; go_simp; try exact rfl
      try simp only [Act.put, List.getElem_toArray, List.getElem_cons_succ, List.getElem_cons_zero, List.setIfInBounds_toArray, List.set_cons_zero, List.set_cons_succ]
      refine wpAnyH_take (i := 5) (v := ?_) rfl (by kernel_rfl) (by kernel_rfl) (by kernel_rfl) (fun _ _ _ h => h) (Or.inl ⟨by rfl, ?_⟩) (by assumption) ?_
      rotate_left
      · intro w' hS'; go_simp; try exact rfl
      try simp only [Act.put, List.getElem_toArray, List.getElem_cons_succ, List.getElem_cons_zero, List.setIfInBounds_toArray, List.set_cons_zero, List.set_cons_succ]
      refine wpAnyH_ready (rs := [2]) (by kernel_rfl) (by simp) ?_
      refine AllReadyH.cons rfl (fun K hK => ?_) AllReadyH.nil
      go_simp
      (with_reducible refine (read_any g m s _ (H.out.1.below hH0)).mono ?_)
      rintro _ wB ⟨A1, n1, c1, rfl, ho1, hb1⟩
      rw [HL.out] at ho1
      have hB1 := step_below hH0 hb1
      have hs1 := Shows.of_own ho1
      go_wp2_with fail
      refine hK.out _ _ hB1 (fun hH1 => ?_)
      clear hK K
      try simp only [Act.put, List.getElem_toArray, List.getElem_cons_succ, List.getElem_cons_zero, List.setIfInBounds_toArray, List.set_cons_zero, List.set_cons_succ]
      refine wpAnyH_up (S' := fun W => Below w.heap.size w W ∧ Below wB.heap.size wB W) (fun W h => h.1) _ _ _ _ ?_
      have hHC : Below w.heap.size w wB ∧ Below wB.heap.size wB wB := ⟨hH1, Below.refl _ _⟩
      refine wpAnyH_take (i := 3) (v := ?_) rfl (by kernel_rfl) (by kernel_rfl) (by kernel_rfl) (fun _ _ _ h => h) (Or.inl ⟨by rfl, ?_⟩) (by assumption) ?_
      rotate_left
      · intro w' hS'; have hcv := (hs1.below hS'.2).conv (P := Tryz.prog) Tryz.underlying29 Tryz.underlying5 Tryz.underlying9; go_simp; try exact rfl
      try simp only [Act.put, List.getElem_toArray, List.getElem_cons_succ, List.getElem_cons_zero, List.setIfInBounds_toArray, List.set_cons_zero, List.set_cons_succ]
      refine wpAnyH_ready (rs := [6]) (by kernel_rfl) (by simp) ?_
      refine AllReadyH.cons rfl (fun K hK => ?_) AllReadyH.nil
      go_simp
      (with_reducible refine (xread_any x m s _ (H.out.2.below hH1)).mono ?_)
      rintro _ wC ⟨A2, n2, c2, rfl, ho2, hb2⟩
      rw [HL.out] at ho2
      have hB2 := step_below hH1 hb2
      have hs2 := Shows.of_own ho2
      go_wp2_with fail
      refine hK.out _ _ ⟨hB2, hb2⟩ (fun hH2 => ?_)
      clear hK K
      try simp only [Act.put, List.getElem_toArray, List.getElem_cons_succ, List.getElem_cons_zero, List.setIfInBounds_toArray, List.set_cons_zero, List.set_cons_succ]
      refine wpAnyH_up (S' := fun W => (Below w.heap.size w W ∧ Below wB.heap.size wB W) ∧ Below wC.heap.size wC W) (fun W h => h.1) _ _ _ _ ?_
      have hHD : (Below w.heap.size w wC ∧ Below wB.heap.size wB wC) ∧ Below wC.heap.size wC wC := ⟨hH2, Below.refl _ _⟩
      refine wpAnyH_take (i := 7) (v := ?_) rfl (by kernel_rfl) (by kernel_rfl) (by kernel_rfl) (fun _ _ _ h => h) (Or.inl ⟨by rfl, ?_⟩) (by assumption) ?_
      rotate_left
      · intro w' hS'; have hcv := (hs2.below hS'.2).conv (P := Tryz.prog) Tryz.underlying29 Tryz.underlying5 Tryz.underlying9; go_simp; try exact rfl
      try simp only [Act.put, List.getElem_toArray, List.getElem_cons_succ, List.getElem_cons_zero, List.setIfInBounds_toArray, List.set_cons_zero, List.set_cons_succ]
      refine wpAnyH_take (i := 8) (v := ?_) rfl (by kernel_rfl) (by kernel_rfl) (by kernel_rfl) (fun _ _ _ h => h) (Or.inl ⟨by rfl, ?_⟩) (by assumption) ?_
      rotate_left
      · intro w' hS'; go_simp; try exact rfl
      try simp only [Act.put, List.getElem_toArray, List.getElem_cons_succ, List.getElem_cons_zero, List.setIfInBounds_toArray, List.set_cons_zero, List.set_cons_succ]
      refine wpAnyH_done (by kernel_rfl) ?_ _
      have HE := Lib.hid hHD.1.1
      clear hHD hH0 hH1 hH2 hM0 hB1 hB2 hHC hs1 hs2 ho1 ho2 hb1 hb2 HB HL
      go_wp2
      go_roundw
      case rel => exact ⟨k + 1, by omega, by rw [← HS.out]; go_num, HE⟩
      case measure => simp [intOf]; have := HS.out; omega
    · have hk8 : k = 8 := by omega
      subst hk8
      have hF := H.out.1.below HB.out
      have hX := H.out.2.below HB.out
      obtain ⟨xm, A, n, cap, hr, _, _⟩ := hX.spot
      obtain ⟨a0, _, _, a3⟩ := rfCells_at m (.slice A n cap) hX.size
      have c0 := hr.cell a0
      have c3 := hr.cell a3
      have HD : Hid (∀ q, Calls Tryz.prog 29 #[.pointer (some ⟨g, 0, none⟩)] (wr.drewN q) fun e w' => e = .returned (.bool m.dead) ∧ w' = wr.drewN q) := Lib.hid (fun q => by
        refine (dead_any g m (wr.drewN q) (hF.below (below_drewN (Below.refl _ _) q))).mono ?_
        rintro _ _ ⟨rfl, rfl⟩
        exact ⟨rfl, rfl⟩)
      have HO : Hid (∀ q, Calls Tryz.prog 30 #[.pointer (some ⟨g, 0, none⟩)] (wr.drewN q) fun e w' => e = .returned (.int .i64 m.ops) ∧ w' = wr.drewN q) := Lib.hid (fun q => by
        refine (ops_any g m (wr.drewN q) (hF.below (below_drewN (Below.refl _ _) q))).mono ?_
        rintro _ _ ⟨rfl, rfl⟩
        exact ⟨rfl, rfl⟩)
      clear hF hX hr a0 a3
      go_wp2_with fail
      go_quiet ((first | (go_at_call 29; exact Calls.quiet_of_same (HD.out _)) | (go_at_call 30; exact Calls.quiet_of_same (HO.out _))))
      go_wp2
      go_ret
      exact ⟨rfl, below_drewN HB.out _⟩
end Go.Proofs.YtmebdnblobobnaaGreatDoor

