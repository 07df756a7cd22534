/- Contracts of both sides' writers in the shape that the law CodeWrites asks for. -/
import Derived.Test.YtjnpadokmhhffaaRefWrite
namespace Go.Proofs.Ytjnpadokmhhffaa
open Go.RowKit Wd Nm

/-- What stays, from the law's start on: nothing older than the call has turned; the copy is owned still; the argument shows what it did. -/
def Mid (w : World) (A Aw : Option Addr) (n cap cw : Nat) (bs : List UInt8) (W : World) : Prop :=
  Below w.heap.size w W ∧ W.ownsRow w.heap.size 5 1 (.slice Aw n cw) n (bc bs) ∧ Shows w w.heap.size A n cap bs
/-- A slice that lies in a block behind the copy's. -/
def Apart (W : World) (Aw A1 : Option Addr) (m k : Nat) (l : List UInt8) : Prop := ∃ b2, W.ownsRow b2 5 1 (.slice A1 m k) m (bc l) ∧ ∀ g, Aw.map (·.block) = some g → g < b2

theorem Mid.drew {w W : World} {A Aw : Option Addr} {n cap cw : Nat} {bs : List UInt8} (h : Mid w A Aw n cap cw bs W) : Mid w A Aw n cap cw bs W.drew := ⟨h.1.drew, h.2.1, h.2.2⟩
theorem Mid.shows {w W : World} {A Aw : Option Addr} {n cap cw : Nat} {bs : List UInt8} (h : Mid w A Aw n cap cw bs W) : Shows W W.heap.size A n cap bs := (h.2.2.below h.1).more h.1.size
theorem Mid.next {w W W' : World} {A Aw : Option Addr} {n cap cw : Nat} {bs : List UInt8} (h : Mid w A Aw n cap cw bs W) (hb : Below W.heap.size W W') : Mid w A Aw n cap cw bs W' :=
  ⟨step_below h.1 hb, grow_own h.2.1 (below_grow hb none) (fun _ _ h => by cases h), h.2.2⟩
theorem Mid.wrote {w W W' : World} {A Aw A2 : Option Addr} {n cap cw m c2 : Nat} {bs more : List UInt8} (h : Mid w A Aw n cap cw bs W) (hW : Wrote W W' w.heap.size Aw n cw bs A2 m c2 more) : Mid w A Aw n cap cw bs W' :=
  ⟨h.1.grown hW.2.2.1 h.1.size (fun k hk => (own_block h.2.1 k hk).1), hW.2.1, h.2.2⟩
theorem Mid.apart {w W W' : World} {A Aw A1 : Option Addr} {n cap cw m k : Nat} {bs l : List UInt8} (h : Mid w A Aw n cap cw bs W) (hown : W'.ownsRow W.heap.size 5 1 (.slice A1 m k) m (bc l)) : Apart W' Aw A1 m k l :=
  ⟨_, hown, fun g hg => (own_block h.2.1 g hg).2⟩
theorem Apart.wrote {w W W' : World} {Aw A1 A2 : Option Addr} {n cw m k m2 c2 : Nat} {bs l more : List UInt8} (h : Apart W Aw A1 m k l) (hW : Wrote W W' w.heap.size Aw n cw bs A2 m2 c2 more) : Apart W' Aw A1 m k l := by
  obtain ⟨b2, ho, hlt⟩ := h
  exact ⟨b2, grow_own ho hW.2.2.1 (fun g hg he => by have := own_block ho g hg; have := hlt g he; omega), hlt⟩
theorem Apart.below {W W' : World} {Aw A1 : Option Addr} {m k : Nat} {l : List UInt8} (h : Apart W Aw A1 m k l) (hb : Below W.heap.size W W') : Apart W' Aw A1 m k l := by
  obtain ⟨b2, ho, hlt⟩ := h
  exact ⟨b2, grow_own ho (below_grow hb none) (fun _ _ h => by cases h), hlt⟩
theorem Apart.conv {W : World} {Aw A1 : Option Addr} {m k : Nat} {l : List UInt8} (h : Apart W Aw A1 m k l) : (convert 22 9 (.slice A1 m k)).run Try.prog W = .ok (.string ⟨l.toArray⟩) W := by
  obtain ⟨b2, ho, _⟩ := h
  exact (Shows.of_own ho).conv Try.underlying22 Try.underlying5 Try.underlying9

theorem codeInt_mid (w : World) (A Aw : Option Addr) (n cap cw : Nat) (bs : List UInt8) (x : Int) (W : World) (h : Mid w A Aw n cap cw bs W) (hn : n ≤ 1000) :
    Calls Try.prog 11 #[.slice A n cap, .int .i64 x] W fun e w' => ∃ A1 k1, e = .returned (.slice A1 (n + 8) k1) ∧ Mid w A Aw n cap cw bs w' ∧ Apart w' Aw A1 (n + 8) k1 (bs ++ leb x 8) ∧ (∀ (A3 : Option Addr) (m3 k3 : Nat) (l3 : List UInt8), Apart W Aw A3 m3 k3 l3 → Apart w' Aw A3 m3 k3 l3) := by
  refine (int_any A n cap bs x W h.shows (by omega)).mono ?_
  rintro _ w' ⟨A1, k1, rfl, ho, hb⟩
  exact ⟨A1, k1, rfl, h.next hb, h.apart ho, fun _ _ _ _ ha => ha.below hb⟩
theorem refInt_mid (w : World) (A Aw : Option Addr) (n cap cw : Nat) (bs : List UInt8) (x : Int) (W : World) (h : Mid w A Aw n cap cw bs W) (hn : n ≤ 1000) :
    Calls Try.prog 12 #[.slice Aw n cw, .int .i64 x] W fun e w' => ∃ A2 k2, e = .returned (.slice A2 (n + 8) k2) ∧ Mid w A Aw n cap cw bs w' ∧
      (∀ (A3 : Option Addr) (m3 k3 : Nat) (l3 : List UInt8), Apart W Aw A3 m3 k3 l3 → Apart w' Aw A3 m3 k3 l3) ∧
      (convert 22 9 (.slice A2 (n + 8) k2)).run Try.prog w' = .ok (.string ⟨(bs ++ leb x 8).toArray⟩) w' := by
  refine (refwint_any w.heap.size Aw n cw bs x W h.2.1 h.1.size (by omega)).mono ?_
  rintro _ w' ⟨A2, k2, rfl, hW⟩
  exact ⟨A2, k2, rfl, h.wrote hW, fun _ _ _ _ ha => ha.wrote hW, (Shows.of_own hW.1).conv Try.underlying22 Try.underlying5 Try.underlying9⟩

theorem codeByte_mid (w : World) (A Aw : Option Addr) (n cap cw : Nat) (bs : List UInt8) (x : Int) (W : World) (h : Mid w A Aw n cap cw bs W) (hn : n ≤ 1000) :
    Calls Try.prog 13 #[.slice A n cap, .int .i64 x] W fun e w' => ∃ A1 k1, e = .returned (.slice A1 (n + 1) k1) ∧ Mid w A Aw n cap cw bs w' ∧ Apart w' Aw A1 (n + 1) k1 (bs ++ leb x 1) ∧ (∀ (A3 : Option Addr) (m3 k3 : Nat) (l3 : List UInt8), Apart W Aw A3 m3 k3 l3 → Apart w' Aw A3 m3 k3 l3) := by
  refine (byte_any A n cap bs x W h.shows (by omega)).mono ?_
  rintro _ w' ⟨A1, k1, rfl, ho, hb⟩
  exact ⟨A1, k1, rfl, h.next hb, h.apart ho, fun _ _ _ _ ha => ha.below hb⟩
theorem refByte_mid (w : World) (A Aw : Option Addr) (n cap cw : Nat) (bs : List UInt8) (x : Int) (W : World) (h : Mid w A Aw n cap cw bs W) (hn : n ≤ 1000) :
    Calls Try.prog 14 #[.slice Aw n cw, .int .i64 x] W fun e w' => ∃ A2 k2, e = .returned (.slice A2 (n + 1) k2) ∧ Mid w A Aw n cap cw bs w' ∧
      (∀ (A3 : Option Addr) (m3 k3 : Nat) (l3 : List UInt8), Apart W Aw A3 m3 k3 l3 → Apart w' Aw A3 m3 k3 l3) ∧
      (convert 22 9 (.slice A2 (n + 1) k2)).run Try.prog w' = .ok (.string ⟨(bs ++ leb x 1).toArray⟩) w' := by
  refine (refwbyte_any w.heap.size Aw n cw bs x W h.2.1 h.1.size (by omega)).mono ?_
  rintro _ w' ⟨A2, k2, rfl, hW⟩
  exact ⟨A2, k2, rfl, h.wrote hW, fun _ _ _ _ ha => ha.wrote hW, (Shows.of_own hW.1).conv Try.underlying22 Try.underlying5 Try.underlying9⟩

theorem codeText_mid (w : World) (A Aw : Option Addr) (n cap cw : Nat) (bs : List UInt8) (s : ByteArray) (W : World) (h : Mid w A Aw n cap cw bs W) (hn : n ≤ 1000) (hs : s.size ≤ 65535) :
    Calls Try.prog 15 #[.slice A n cap, .string s] W fun e w' => ∃ A1 k1, e = .returned (.slice A1 (n + 2 + s.size) k1) ∧ Mid w A Aw n cap cw bs w' ∧ Apart w' Aw A1 (n + 2 + s.size) k1 (bs ++ leb s.size 2 ++ s.data.toList) ∧ (∀ (A3 : Option Addr) (m3 k3 : Nat) (l3 : List UInt8), Apart W Aw A3 m3 k3 l3 → Apart w' Aw A3 m3 k3 l3) := by
  refine (text_small A n cap bs s W h.shows (by omega) hs).mono ?_
  rintro _ w' ⟨A1, k1, rfl, ho, hb⟩
  exact ⟨A1, k1, rfl, h.next hb, h.apart ho, fun _ _ _ _ ha => ha.below hb⟩
theorem refText_mid (w : World) (A Aw : Option Addr) (n cap cw : Nat) (bs : List UInt8) (s : ByteArray) (W : World) (h : Mid w A Aw n cap cw bs W) (hn : n ≤ 1000) (hs : s.size ≤ 65535) :
    Calls Try.prog 16 #[.slice Aw n cw, .string s] W fun e w' => ∃ A2 k2, e = .returned (.slice A2 (n + (2 + s.size)) k2) ∧ Mid w A Aw n cap cw bs w' ∧
      (∀ (A3 : Option Addr) (m3 k3 : Nat) (l3 : List UInt8), Apart W Aw A3 m3 k3 l3 → Apart w' Aw A3 m3 k3 l3) ∧
      (convert 22 9 (.slice A2 (n + (2 + s.size)) k2)).run Try.prog w' = .ok (.string ⟨(bs ++ leb s.size 2 ++ s.data.toList).toArray⟩) w' := by
  refine (refwtext_any w.heap.size Aw n cw bs s W h.2.1 h.1.size (by omega) hs).mono ?_
  rintro _ w' ⟨A2, k2, rfl, hW⟩
  exact ⟨A2, k2, rfl, h.wrote hW, fun _ _ _ _ ha => ha.wrote hW, by rw [List.append_assoc]; exact (Shows.of_own hW.1).conv Try.underlying22 Try.underlying5 Try.underlying9⟩
end Go.Proofs.Ytjnpadokmhhffaa
