/- A slice of chapter 6's acts (structs of two numbers, a slice of bytes, and an act of chapter 4's) that came in. -/
import Derived.Test.YtmebdnblobobnaaGreatDoorKAct
namespace Go.Proofs.YtmebdnblobobnaaGreatDoor
set_option maxRecDepth 100000
open Go.RowKit _root_.Go.Proofs.YtmebdnblobobnaaGreatDoor.Wd _root_.Go.Proofs.YtmebdnblobobnaaGreatDoor.Nm Go.ChangeShapes Go.WideShapes

structure ActW where
  K : Int
  N : Int
  A : Option Addr
  n : Nat
  cap : Nat
  l : List UInt8
  F : ActV
instance : Inhabited ActW := ⟨⟨0, 0, none, 0, 0, [], default⟩⟩
def ActW.cells (a : ActW) : List Value := [.int .i64 a.K, .int .i64 a.N, .slice a.A a.n a.cap, .int .i64 a.F.K, .int .i64 a.F.S, .int .i64 a.F.P, .int .i64 a.F.N, .slice a.F.A a.F.n a.F.cap]
structure ActWf6 (w : World) (B : Nat) (a : ActW) : Prop where
  k : (Lit.int .i64 a.K).wf = true
  n : (Lit.int .i64 a.N).wf = true
  b : Shows w B a.A a.n a.cap a.l
  f : ActWf w B a.F
theorem ActWf6.below {w w' : World} {B : Nat} {a : ActW} (h : ActWf6 w B a) (hb : Below B w w') : ActWf6 w' B a := ⟨h.k, h.n, h.b.below hb, h.f.below hb⟩
structure LaidActs6 (w : World) (B : Nat) (A : Option Addr) (n : Nat) (acs : List ActW) : Prop where
  len : acs.length = n
  spot : 0 < n → ∃ g o, A = some ⟨g, o, none⟩ ∧ g < B ∧ ∀ j (_ : j < acs.length), ∀ i v, acs[j].cells[i]? = some v → w.cell? ⟨g, o + j * 8 + i, none⟩ = some v
  each : ∀ p ∈ acs, ActWf6 w B p
theorem LaidActs6.below {w w' : World} {B : Nat} {A : Option Addr} {n : Nat} {acs : List ActW} (h : LaidActs6 w B A n acs) (hb : Below B w w') : LaidActs6 w' B A n acs :=
  ⟨h.len, fun hn => by
    obtain ⟨g, o, e, hg, hc⟩ := h.spot hn
    exact ⟨g, o, e, hg, fun j hj i v hv => (hb.cell (p := ⟨g, o + j * 8 + i, none⟩) hg).trans (hc j hj i v hv)⟩, fun p hp => (h.each p hp).below hb⟩

theorem addr_add_add (p : Addr) (a b : Nat) : (p.add a).add b = p.add (a + b) := by
  by_cases ha : a = 0
  · subst ha; rw [addr_add0, Nat.zero_add]
  · by_cases hb : b = 0
    · subst hb; rw [addr_add0, Nat.add_zero]
    · cases p
      unfold Addr.add
      rw [if_neg ha, if_neg hb, if_neg (by omega), Nat.add_assoc]
theorem open_bytes6 {H : Type} {enc : TypeId × Value → H} {W : World} {held : Bool} {fuel : Nat} {v : Value} {x : DataW H × List MemPlace} (h : DataW.trod enc Tryz.prog W 0 (fun _ => true) held fuel 29 [v] = some x) :
    ∃ A n cap l, v = .slice A n cap ∧ Shows W W.heap.size A n cap l := by
  rcases open_ints Tryz.underlying29 Tryz.underlying5 (by kernel_rfl) h with ⟨hcs, _⟩ | ⟨x, l, c, zs, hcs, _, hl2, hm2, hz, _, hc2, hwz⟩
  · injection hcs with hcs
    exact ⟨none, 0, 0, [], hcs, Shows.nil _ _⟩
  · injection hcs with hcs
    have hlay : Lays W W.heap.size (some x) l c ((zs.map (Value.int .u8)).take l) := Lays.of_cells hl2 hm2 (by simpa using hz) (fun i hi => by
      rw [List.length_map] at hi
      rw [hc2 i hi, List.getElem?_map, List.getElem?_eq_getElem hi, List.getD_eq_getElem?_getD, List.getElem?_eq_getElem hi]
      rfl)
    rw [← List.map_take, bc_of_ints _ (fun n hn => hwz n (List.mem_of_mem_take hn))] at hlay
    exact ⟨some x, l, c, _, hcs, Shows.of_lays hlay⟩
theorem open_acts6 {H : Type} {enc : TypeId × Value → H} {W : World} {held : Bool} {fuel : Nat} {cs : List Value} {x : DataW H × List MemPlace} (h : DataW.trod enc Tryz.prog W 0 (fun _ => true) held fuel 22 cs = some x)
    (A : Option Addr) (len cap : Nat) (hcs : cs = [.slice A len cap]) : (∃ acs : List ActW, LaidActs6 W W.heap.size A len acs) ∧ len ≤ cap ∧ cap ≤ maxLen := by
  subst hcs
  rcases Deep.open_slice Tryz.underlying22 h with ⟨hcs, _⟩ | ⟨a, len', cap', m, n, D, Pl, hcs, _, hl, hm, hmm, _, hx⟩
  · injection hcs with hcs
    injection hcs with h1 h2 h3
    subst h1 h2 h3
    exact ⟨⟨[], rfl, fun h => absurd h (by omega), fun p hp => by cases hp⟩, Nat.le_refl _, Nat.zero_le _⟩
  · injection hcs with hcs
    injection hcs with h1 h2 h3
    subst h1 h2 h3
    simp only [if_true] at hmm
    subst hmm
    have ce : (Tryz.prog).cellsOf 33 = 8 := by kernel_rfl
    have ca : (Tryz.prog).cellsOf 31 = 5 := by kernel_rfl
    have ci : (Tryz.prog).cellsOf 3 = 1 := by kernel_rfl
    have cb : (Tryz.prog).cellsOf 29 = 1 := by kernel_rfl
    have each : ∀ i, i < m → ∃ v : ActW, (∀ j u, v.cells[j]? = some u → W.cell? (a.add (i * 8 + j)) = some u) ∧ ActWf6 W W.heap.size v := by
      intro i hi
      obtain ⟨cs', h1, h2⟩ := hx i hi
      rw [ce] at h1
      obtain ⟨_, hlen, hcell⟩ := World.cells?_some h1
      obtain ⟨xs, k, hk, hxy, _, hxl, hf⟩ := DataW.trod_struct Tryz.underlying33 h2
      match xs, hxl, cs', hlen with
      | [y0, y1, y2, y3], _, [v0, v1, v2, v3, v4, v5, v6, v7], _ =>
        have g0 := hf 0 _ rfl
        have g1 := hf 1 _ rfl
        have g2 := hf 2 _ rfl
        have g3 := hf 3 _ rfl
        simp [ci, cb, ca] at g0 g1 g2 g3
        obtain ⟨ys, k2, hk2, hxy2, _, hyl, hf2⟩ := DataW.trod_struct Tryz.underlying31 g3
        match ys, hyl with
        | [z0, z1, z2, z3, z4], _ =>
          have r0 := hf2 0 _ rfl
          have r1 := hf2 1 _ rfl
          have r2 := hf2 2 _ rfl
          have r3 := hf2 3 _ rfl
          have r4 := hf2 4 _ rfl
          simp [ci, cb] at r0 r1 r2 r3 r4
          obtain ⟨p0, q0, _, w0⟩ := DataW.trod_int Tryz.underlying3 g0
          obtain ⟨p1, q1, _, w1⟩ := DataW.trod_int Tryz.underlying3 g1
          obtain ⟨A2, n2, c2, l2, q2, w2⟩ := open_bytes6 g2
          obtain ⟨p3, q3, _, w3⟩ := DataW.trod_int Tryz.underlying3 r0
          obtain ⟨p4, q4, _, w4⟩ := DataW.trod_int Tryz.underlying3 r1
          obtain ⟨p5, q5, _, w5⟩ := DataW.trod_int Tryz.underlying3 r2
          obtain ⟨p6, q6, _, w6⟩ := DataW.trod_int Tryz.underlying3 r3
          obtain ⟨A7, n7, c7, l7, q7, w7⟩ := open_bytes6 r4
          injection q0 with q0
          injection q1 with q1
          injection q3 with q3
          injection q4 with q4
          injection q5 with q5
          injection q6 with q6
          subst q0 q1 q2 q3 q4 q5 q6 q7
          refine ⟨⟨p0, p1, A2, n2, c2, l2, ⟨p3, p4, p5, p6, A7, n7, c7, l7⟩⟩, fun j u hu => ?_, ⟨w0, w1, w2, ⟨w3, w4, w5, w6, w7⟩⟩⟩
          have hj : j < 8 := (List.getElem?_eq_some_iff.1 hu).1
          have e := hcell j hj
          have hu2 : ([Value.int .i64 p0, .int .i64 p1, .slice A2 n2 c2, .int .i64 p3, .int .i64 p4, .int .i64 p5, .int .i64 p6, .slice A7 n7 c7] : List Value)[j]? = some u := hu
          rw [addr_add_add] at e
          exact e.trans hu2
    obtain ⟨q, hq⟩ := Deep.choose_lt each
    refine ⟨⟨(List.range len).map q, by simp, fun h0 => ?_, fun p hp => ?_⟩, hl, hm⟩
    · obtain ⟨g, o, spot⟩ := a
      have h0' := (hq 0 (by omega)).1 0 _ rfl
      have hs : spot = none := by simpa [Addr.add] using World.cell?_spot h0'
      subst hs
      refine ⟨g, o, rfl, ?_, fun j hj i v hv => ?_⟩
      · have := World.block_lt_of_cell? W _ h0'
        simpa [Addr.add] using this
      · have hj' : j < len := by simpa using hj
        have := (hq j (by omega)).1 i v (by simpa using hv)
        rw [Addr.add_lit, ← Nat.add_assoc] at this
        exact this
    · obtain ⟨r, hrl, rfl⟩ := List.mem_map.1 hp
      have hrl' : r < len := by simpa using hrl
      exact (hq r (by omega)).2
end Go.Proofs.YtmebdnblobobnaaGreatDoor
