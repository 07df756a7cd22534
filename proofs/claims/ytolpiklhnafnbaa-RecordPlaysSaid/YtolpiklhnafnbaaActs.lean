/- A slice of acts (structs of four numbers and a slice of bytes) that came in. -/
import Derived.Test.YtolpiklhnafnbaaProg
import Derived.Test.YtolpiklhnafnbaaCz
import Derived.Deep.Slices
import Derived.ChangeSame
import Derived.ChangeArms
import Derived.OpenShut
import Derived.Lib.Hide
import Derived.Lib.ConvBytes
namespace Go.Proofs.Ytolpiklhnafnbaa
set_option maxRecDepth 100000
open Go.RowKit Wd Nm Go.ChangeShapes Go.WideShapes

theorem addr_add0 (p : Addr) : p.add 0 = p := by cases p; simp [Addr.add]
/-- An act: its four numbers, where its bytes lie, and which they are. -/
structure ActV where
  K : Int
  S : Int
  P : Int
  N : Int
  A : Option Addr
  n : Nat
  cap : Nat
  l : List UInt8
instance : Inhabited ActV := ⟨⟨0, 0, 0, 0, none, 0, 0, []⟩⟩
def ActV.cells (a : ActV) : List Value := [.int .i64 a.K, .int .i64 a.S, .int .i64 a.P, .int .i64 a.N, .slice a.A a.n a.cap]
structure ActAt (w : World) (p : Addr) (a : ActV) : Prop where
  c0 : w.cell? p = some (.int .i64 a.K)
  c1 : w.cell? (p.add 1) = some (.int .i64 a.S)
  c2 : w.cell? (p.add 2) = some (.int .i64 a.P)
  c3 : w.cell? (p.add 3) = some (.int .i64 a.N)
  c4 : w.cell? (p.add 4) = some (.slice a.A a.n a.cap)
structure ActWf (w : World) (B : Nat) (a : ActV) : Prop where
  k : (Lit.int .i64 a.K).wf = true
  s : (Lit.int .i64 a.S).wf = true
  p : (Lit.int .i64 a.P).wf = true
  n : (Lit.int .i64 a.N).wf = true
  b : Shows w B a.A a.n a.cap a.l
theorem ActWf.below {w w' : World} {B : Nat} {a : ActV} (h : ActWf w B a) (hb : Below B w w') : ActWf w' B a := ⟨h.k, h.s, h.p, h.n, h.b.below hb⟩
/-- Acts that lie one behind the other. -/
structure LaidActs (w : World) (B : Nat) (A : Option Addr) (n : Nat) (acs : List ActV) : Prop where
  len : acs.length = n
  spot : 0 < n → ∃ g o, A = some ⟨g, o, none⟩ ∧ g < B ∧ ∀ j (h : j < acs.length), ActAt w ⟨g, o + j * 5, none⟩ acs[j]
  each : ∀ p ∈ acs, ActWf w B p
theorem LaidActs.below {w w' : World} {B : Nat} {A : Option Addr} {n : Nat} {acs : List ActV} (h : LaidActs w B A n acs) (hb : Below B w w') : LaidActs w' B A n acs :=
  ⟨h.len, fun hn => by
    obtain ⟨g, o, e, hg, hc⟩ := h.spot hn
    refine ⟨g, o, e, hg, fun j hj => ?_⟩
    have hh := hc j hj
    have key : ∀ k v, w.cell? ((⟨g, o + j * 5, none⟩ : Addr).add k) = some v → w'.cell? ((⟨g, o + j * 5, none⟩ : Addr).add k) = some v := fun k v h => by
      rw [Addr.add_lit] at h ⊢
      exact (hb.cell (p := ⟨g, o + j * 5 + k, none⟩) hg).trans h
    refine ⟨?_, key 1 _ hh.c1, key 2 _ hh.c2, key 3 _ hh.c3, key 4 _ hh.c4⟩
    exact (hb.cell (p := ⟨g, o + j * 5, none⟩) hg).trans hh.c0, fun p hp => (h.each p hp).below hb⟩

theorem open_acts {H : Type} {enc : TypeId × Value → H} {W : World} {held : Bool} {fuel : Nat} {cs : List Value} {x : DataW H × List MemPlace} (h : DataW.trod enc Try.prog W 0 (fun _ => true) held fuel 22 cs = some x)
    (A : Option Addr) (len cap : Nat) (hcs : cs = [.slice A len cap]) : (∃ acs : List ActV, LaidActs W W.heap.size A len acs) ∧ len ≤ cap ∧ cap ≤ maxLen := by
  subst hcs
  rcases Deep.open_slice Try.underlying22 h with ⟨hcs, _⟩ | ⟨a, len', cap', m, n, D, Pl, hcs, _, hl, hm, hmm, _, hx⟩
  · injection hcs with hcs
    injection hcs with h1 h2 h3
    subst h1 h2 h3
    exact ⟨⟨[], rfl, fun h => absurd h (by omega), fun p hp => by cases hp⟩, Nat.le_refl _, Nat.zero_le _⟩
  · injection hcs with hcs
    injection hcs with h1 h2 h3
    subst h1 h2 h3
    simp only [if_true] at hmm
    subst hmm
    have ce : (Try.prog).cellsOf 31 = 5 := by kernel_rfl
    have ci : (Try.prog).cellsOf 3 = 1 := by kernel_rfl
    have cb : (Try.prog).cellsOf 29 = 1 := by kernel_rfl
    have each : ∀ i, i < m → ∃ v : ActV, ActAt W (a.add (i * 5)) v ∧ ActWf W W.heap.size v := by
      intro i hi
      obtain ⟨cs', h1, h2⟩ := hx i hi
      rw [ce] at h1
      obtain ⟨_, hlen, hcell⟩ := World.cells?_some h1
      obtain ⟨xs, k, hk, hxy, _, hxl, hf⟩ := DataW.trod_struct Try.underlying31 h2
      match xs, hxl, cs', hlen with
      | [y0, y1, y2, y3, y4], _, [v0, v1, v2, v3, v4], _ =>
        have g0 := hf 0 _ rfl
        have g1 := hf 1 _ rfl
        have g2 := hf 2 _ rfl
        have g3 := hf 3 _ rfl
        have g4 := hf 4 _ rfl
        simp [ci, cb] at g0 g1 g2 g3 g4
        have e0 := hcell 0 (by omega)
        rw [addr_add0] at e0
        have e1 := hcell 1 (by omega)
        have e2 := hcell 2 (by omega)
        have e3 := hcell 3 (by omega)
        have e4 := hcell 4 (by omega)
        obtain ⟨z0, q0, _, w0⟩ := DataW.trod_int Try.underlying3 g0
        obtain ⟨z1, q1, _, w1⟩ := DataW.trod_int Try.underlying3 g1
        obtain ⟨z2, q2, _, w2⟩ := DataW.trod_int Try.underlying3 g2
        obtain ⟨z3, q3, _, w3⟩ := DataW.trod_int Try.underlying3 g3
        injection q0 with q0
        injection q1 with q1
        injection q2 with q2
        injection q3 with q3
        subst q0 q1 q2 q3
        rcases open_ints Try.underlying29 Try.underlying5 (by kernel_rfl) g4 with ⟨hcs, _⟩ | ⟨x, l, c, zs, hcs, _, hl2, hm2, hz, _, hc2, hwz⟩
        · injection hcs with hcs
          subst hcs
          exact ⟨⟨z0, z1, z2, z3, none, 0, 0, []⟩, ⟨by simpa using e0, by simpa using e1, by simpa using e2, by simpa using e3, by simpa using e4⟩, ⟨w0, w1, w2, w3, Shows.nil _ _⟩⟩
        · injection hcs with hcs
          subst hcs
          have hlay : Lays W W.heap.size (some x) l c ((zs.map (Value.int .u8)).take l) := Lays.of_cells hl2 hm2 (by simpa using hz) (fun i hi => by
            rw [List.length_map] at hi
            rw [hc2 i hi, List.getElem?_map, List.getElem?_eq_getElem hi, List.getD_eq_getElem?_getD, List.getElem?_eq_getElem hi]
            rfl)
          rw [← List.map_take, bc_of_ints _ (fun n hn => hwz n (List.mem_of_mem_take hn))] at hlay
          exact ⟨⟨z0, z1, z2, z3, some x, l, c, _⟩, ⟨by simpa using e0, by simpa using e1, by simpa using e2, by simpa using e3, by simpa using e4⟩, ⟨w0, w1, w2, w3, Shows.of_lays hlay⟩⟩
    obtain ⟨q, hq⟩ := Deep.choose_lt each
    refine ⟨⟨(List.range len).map q, by simp, fun h0 => ?_, fun p hp => ?_⟩, hl, hm⟩
    · obtain ⟨g, o, spot⟩ := a
      have h0' := (hq 0 (by omega)).1.c0
      have hs : spot = none := by simpa [Addr.add] using World.cell?_spot h0'
      subst hs
      refine ⟨g, o, rfl, ?_, fun j hj => ?_⟩
      · have := World.block_lt_of_cell? W _ h0'
        simpa [Addr.add] using this
      · have hj' : j < len := by simpa using hj
        have := (hq j (by omega)).1
        rw [Addr.add_lit] at this
        simpa using this
    · obtain ⟨r, hrl, rfl⟩ := List.mem_map.1 hp
      have hrl' : r < len := by simpa using hrl
      exact (hq r (by omega)).2
end Go.Proofs.Ytolpiklhnafnbaa
