/- Chapter 6's law: an act, at both memories (the law's function Do), kind by kind. -/
import Derived.Test.YtmebdnblobobnaaGreatDoorActs6
import Derived.Test.YtmebdnblobobnaaGreatDoorLaw6Base
import Derived.Test.YtmebdnblobobnaaGreatDoorRef6Mark
import Derived.Test.YtmebdnblobobnaaGreatDoorKShaRef
namespace Go.Proofs.YtmebdnblobobnaaGreatDoor
set_option maxRecDepth 100000
open Go.RowKit _root_.Go.Proofs.YtmebdnblobobnaaGreatDoor.Wd _root_.Go.Proofs.YtmebdnblobobnaaGreatDoor.Nm _root_.Go.Proofs.YtmebdnblobobnaaGreatDoor.Cm _root_.Go.Proofs.YtmebdnblobobnaaGreatDoor.Fm _root_.Go.Proofs.YtmebdnblobobnaaGreatDoor.Sm

/-- Both memories, and the act's own block. -/
structure Sd (w0 V : World) (B f x D : Nat) (C : List Value) (mf mx : Mem) : Prop where
  pf : Fl V f mf
  px : Rf V x mx
  row : Row V D 33 C
  low : Below B w0 V
  pd : B ≤ f ∧ f < x ∧ x < D
section
variable {w0 V V' : World} {B f x D : Nat} {C : List Value} {mf mx mf' mx' : Mem}
theorem Sd.below (h : Sd w0 V B f x D C mf mx) (hb : Below V.heap.size V V') : Sd w0 V' B f x D C mf mx :=
  ⟨h.pf.below hb, h.px.below hb, h.row.below hb h.row.lt, h.low.trans (hb.mono (by have := h.pf.lt; have := h.pd; omega)), h.pd⟩
theorem Sd.goF (h : Sd w0 V B f x D C mf mx) (hf : Fl V' f mf') (hg : V.grownBy V' (some f)) : Sd w0 V' B f x D C mf' mx :=
  ⟨hf, h.px.other h.pf hg (by have := h.pd; omega), h.row.grown hg (by have := h.pd; omega), h.low.grown hg (by have := h.pf.lt; have := h.pd; omega) (by intro k hk; injection hk with hk; have := h.pd; omega), h.pd⟩
theorem Sd.goX (h : Sd w0 V B f x D C mf mx) (hx : Rf V' x mx') (hg : V.grownBy V' (some x)) : Sd w0 V' B f x D C mf mx' :=
  ⟨h.pf.other h.px hg (by have := h.pd; omega), hx, h.row.grown hg (by have := h.pd; omega), h.low.grown hg (by have := h.pf.lt; have := h.pd; omega) (by intro k hk; injection hk with hk; have := h.pd; omega), h.pd⟩
theorem Sd.bs (h : Sd w0 V B f x D C mf mx) : B ≤ V.heap.size := by have := h.pf.lt; have := h.pd; omega
theorem Sd.shows (h : Sd w0 V B f x D C mf mx) {A : Option Addr} {n cap : Nat} {l : List UInt8} (hs : Shows w0 B A n cap l) : Shows V V.heap.size A n cap l := (hs.below h.low).more h.bs
end
theorem shows_in {w0 : World} {B y : Nat} {A : Option Addr} {n cap : Nat} {l : List UInt8} (hs : Shows w0 B A n cap l) (hy : B ≤ y) : ∀ p, A = some p → 0 < n → p.block ≠ y := fun p hp h0 => by
  obtain ⟨g, o, e, hg, _⟩ := hs.spot h0
  rw [hp] at e
  injection e with e
  rw [e]
  show g ≠ y
  omega
def Did (w0 : World) (B f x : Nat) (e : Ending) (w' : World) : Prop := e = .returned (.bool true) ∧ ∃ m, Fl w' f m ∧ Rf w' x m ∧ Below B w0 w'
theorem own_base {w : World} {base : Nat} {e : TypeId} {A : Option Addr} {n cap m : Nat} {xs : List Value} (h : w.ownsRow base e 1 (.slice A n cap) m xs) : ∀ p, A = some p → 0 < n → base ≤ p.block := by
  intro p hp h0
  rcases h.2 with ⟨h', hn⟩ | ⟨g, cap', cur, h', hb, _⟩
  · injection h' with h1 h2 h3
    rw [hp] at h1; cases h1
  · injection h' with h1 h2 h3
    rw [hp] at h1
    injection h1 with h1
    rw [h1]
    exact hb
theorem hash_zero6 (BZ : List Value) (h : bc (List.replicate 32 0) = BZ) : ∀ w : World, (zeroValue 39).run Tryz.prog w = .ok (.agg BZ.toArray) w := by
  subst h
  exact (zero_of_info (show (Tryz.prog.info? 39).map (fun i => (i.zero, i.size)) = some (some (.agg (bc (List.replicate 32 0)).toArray), 32) by kernel_rfl)).1
end Go.Proofs.YtmebdnblobobnaaGreatDoor
