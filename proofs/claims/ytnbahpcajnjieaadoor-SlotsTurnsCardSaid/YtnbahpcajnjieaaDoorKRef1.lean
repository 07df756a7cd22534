/- Merged: Package code's Reader in the shapes that laws ask for: behind an error; cut; with enough bytes. Contracts for the reference's Reader (chapter 1): New, take, Int, Byte, Text, Fail, End. Contracts for the reference's Reader (chapter 1) by the same model as package code's: Int, Byte, Text, Fail, End, New. Contracts for the reference's Int, Byte and Text (chapter 1): each appends behind what it is handed; what was handed in still shows what it did. -/
import Derived.Test.YtnbahpcajnjieaaDoorKCode
import Derived.Deep.RegionHeld3
import Derived.Deep.QuietTactic
import Derived.BigQuiet
import Derived.Test.YtnbahpcajnjieaaDoorKMem
namespace Go.Proofs.YtnbahpcajnjieaaDoor
set_option maxRecDepth 100000
open Go.RowKit _root_.Go.Proofs.YtnbahpcajnjieaaDoor.Wd _root_.Go.Proofs.YtnbahpcajnjieaaDoor.Nm

theorem i64_of_wf {x : Int} (h : (Lit.int .i64 x).wf = true) : -9223372036854775808 ≤ x ∧ x ≤ 9223372036854775807 := by
  simp [Lit.wf, IntKind.min, IntKind.max, IntKind.signed, IntKind.bits] at h
  omega
theorem rdNum_err (k : Nat) (l : List UInt8) {er : Int} (h : er ≠ 0) : rdNum k l er = (0, l, er) := by unfold rdNum; rw [if_neg h]
theorem rdFail_err (f : Int) {er : Int} (h : er ≠ 0) : rdFail f er = er := by unfold rdFail; rw [if_neg h]
theorem rdFail_ok (f : Int) : rdFail f 0 = f := rfl
theorem rdEnd_err (l : List UInt8) {er : Int} (h : er ≠ 0) : rdEnd l er = er := by unfold rdEnd; rw [if_neg (fun h' => h h'.1)]
theorem rdNum_cut {k : Nat} {l : List UInt8} (h : l.length < k) : rdNum k l 0 = (0, l, 8) := by unfold rdNum; rw [if_pos rfl, if_neg (by omega)]
theorem rdNum_ok {k : Nat} {l : List UInt8} (h : k ≤ l.length) : rdNum k l 0 = (wrap64 (leNat (l.take k) : Nat), l.drop k, 0) := by unfold rdNum; rw [if_pos rfl, if_pos h]
theorem rdEnd_more {l : List UInt8} (h : 0 < l.length) : rdEnd l 0 = 9 := by unfold rdEnd; rw [if_pos ⟨rfl, h⟩]
theorem rdEnd_ok : rdEnd [] 0 = 0 := by unfold rdEnd; rw [if_neg (by simp)]

/-- A number that was written is read as it was. -/
theorem rdNum_int (x : Int) (r : List UInt8) (h0 : -9223372036854775808 ≤ x) (h1 : x ≤ 9223372036854775807) : rdNum 8 (leb x 8 ++ r) 0 = (x, r, 0) := by
  rw [rdNum_ok (by rw [List.length_append, leb_len]; omega)]
  have e1 : (leb x 8 ++ r).take 8 = leb x 8 := by rw [List.take_append_of_le_length (by rw [leb_len]; omega), List.take_of_length_le (by rw [leb_len]; omega)]
  have e2 : (leb x 8 ++ r).drop 8 = r := by rw [List.drop_append_of_le_length (by rw [leb_len]; omega), List.drop_of_length_le (by rw [leb_len]; omega), List.nil_append]
  rw [e1, e2, back64 x h0 h1]
theorem rdNum_byte (x : Int) (r : List UInt8) : rdNum 1 (leb x 1 ++ r) 0 = (x % 256, r, 0) := by
  rw [rdNum_ok (by rw [List.length_append, leb_len]; omega)]
  have e1 : (leb x 1 ++ r).take 1 = leb x 1 := by rw [List.take_append_of_le_length (by rw [leb_len]; omega), List.take_of_length_le (by rw [leb_len]; omega)]
  have e2 : (leb x 1 ++ r).drop 1 = r := by rw [List.drop_append_of_le_length (by rw [leb_len]; omega), List.drop_of_length_le (by rw [leb_len]; omega), List.nil_append]
  rw [e1, e2, leNat_leb]
  have h : x % 2 ^ (8 * 1) = x % 256 := rfl
  rw [h, wrap64_of _ (by omega) (by omega)]
/-- The bytes of a literal of one, or two, that the call has just made. -/
theorem own_one (w : World) (base : Nat) (a : Int) (c : UInt8) (ha : (c.toNat : Int) = a) (hb : base ≤ w.heap.size) : (w.alloc (.cells #[.int .u8 a] 5)).ownsRow base 5 1 (.slice (some ⟨w.heap.size, 0, none⟩) 1 1) 1 (bc [c]) := by
  subst ha
  exact World.ownsRow_lit w #[.int .u8 (c.toNat : Int)] 1 hb (by simp [maxLen]) rfl
theorem own_two (w : World) (base : Nat) (a b : Int) (c d : UInt8) (ha : (c.toNat : Int) = a) (hd : (d.toNat : Int) = b) (hb : base ≤ w.heap.size) : (w.alloc (.cells #[.int .u8 a, .int .u8 b] 5)).ownsRow base 5 1 (.slice (some ⟨w.heap.size, 0, none⟩) 2 2) 2 (bc [c, d]) := by
  subst ha hd
  exact World.ownsRow_lit w #[.int .u8 (c.toNat : Int), .int .u8 (d.toNat : Int)] 2 hb (by simp [maxLen]) rfl
theorem leb_two (T : Int) (h0 : 0 ≤ T) (h1 : T < 65536) : leb T 2 = [lb T 0, lb T 1] ∧ ((lb T 0).toNat : Int) = T % 256 ∧ ((lb T 1).toNat : Int) = T / 256 := by
  refine ⟨rfl, ?_, ?_⟩
  · rw [lb_nat]; simp
  · rw [lb_nat]
    have : (2 : Int) ^ (8 * 1) = 256 := rfl
    rw [this]
    omega
end Go.Proofs.YtnbahpcajnjieaaDoor

namespace Go.Proofs.YtnbahpcajnjieaaDoor
set_option maxRecDepth 100000
open Go.RowKit _root_.Go.Proofs.YtnbahpcajnjieaaDoor.Wd _root_.Go.Proofs.YtnbahpcajnjieaaDoor.Nm
theorem drewN_grow1 {w w' : World} {q : Nat} {row : Option Nat} (h : (w.drewN q).grownBy w' row) : w.grownBy w' row := ⟨h.os, h.tape, h.output, h.size, h.block⟩
theorem grow_drewN {w w' : World} {row : Option Nat} (h : w.grownBy w' row) (q : Nat) : w.grownBy (w'.drewN q) row := ⟨h.os, h.tape, h.output, h.size, h.block⟩
theorem ret_slice {A : Option Addr} {a b c : Nat} (h : a = b) : Ending.returned (.slice A a c) = .returned (.slice A b c) := by rw [h]
theorem shows_setB {w : World} {B g : Nat} {A : Option Addr} {n cap : Nat} {l : List UInt8} (h : Shows w B A n cap l) (hB : B ≤ g) (i : Nat) (u : Value) : Shows (w.setCell ⟨g, i, none⟩ u) B A n cap l :=
  h.keep fun p hp => World.cell?_setCell_other w _ p u (fun e => by subst e; simp at hp; omega)
end Go.Proofs.YtnbahpcajnjieaaDoor

namespace Go.Proofs.YtnbahpcajnjieaaDoor
set_option maxRecDepth 100000
open Go.RowKit _root_.Go.Proofs.YtnbahpcajnjieaaDoor.Wd _root_.Go.Proofs.YtnbahpcajnjieaaDoor.Nm
def rdTake (k : Nat) (l : List UInt8) (er : Int) : List UInt8 × List UInt8 × Int :=
  if er = 0 then (if k ≤ l.length then (l.take k, l.drop k, 0) else ([], l, 8)) else ([], l, er)
theorem rdNum_take (k : Nat) (l : List UInt8) (er : Int) : rdNum k l er = (wrap64 (leNat (rdTake k l er).1 : Nat), (rdTake k l er).2.1, (rdTake k l er).2.2) := by
  have h0 : wrap64 ((leNat [] : Nat) : Int) = 0 := by simp [leNat, wrap64]
  unfold rdNum rdTake
  split
  · split
    · rfl
    · rw [h0]
  · rw [h0]
theorem rdTake_len (k : Nat) (l : List UInt8) (er : Int) : (rdTake k l er).1.length = k ∨ (rdTake k l er).1 = [] := by
  unfold rdTake
  split
  · split
    · exact .inl (by rw [List.length_take]; omega)
    · exact .inr rfl
  · exact .inr rfl

theorem leNat_drop (t : List UInt8) (j : Nat) (h : j < t.length) : leNat (t.drop j) = t[j].toNat + 256 * leNat (t.drop (j + 1)) := by
  rw [List.drop_eq_getElem_cons h]
  rfl
theorem or_low (U c : Nat) (hU : U < 2 ^ 56) (hc : c < 256) : bits BinOp.or IntKind.u64 (IntKind.u64.wrap ((U : Int) * 256)) (IntKind.u64.wrap (c : Int)) = ((c + 256 * U : Nat) : Int) := by
  have h56 : (2 : Nat) ^ 56 = 72057594037927936 := rfl
  have e1 : IntKind.u64.wrap ((U : Int) * 256) = (U : Int) * 256 := by rw [IntKind.wrap_u64]; omega
  have e2 : IntKind.u64.wrap (c : Int) = c := by rw [IntKind.wrap_u64]; omega
  have h64 : (2 : Int) ^ 64 = 18446744073709551616 := rfl
  have h8 : (2 : Int) ^ 8 = 256 := rfl
  rw [e1, e2, bits_join .u64 64 (by decide) (fun n h0 h1 => by rw [IntKind.wrap_u64]; rw [h64] at h1; omega) 8 _ _ (by omega) (by rw [h8]; omega) (by rw [h64]; omega) (by omega) (by rw [h8]; omega) (by rw [h64]; omega)]
  omega

theorem rdTake_err (k : Nat) (l : List UInt8) (er : Int) (h : (rdTake k l er).1 ≠ []) : (rdTake k l er).2.2 = 0 := by
  unfold rdTake at h ⊢
  split
  · split
    · rfl
    · rename_i h1 h2; rw [if_pos h1, if_neg h2] at h; exact absurd rfl h
  · rename_i h1; rw [if_neg h1] at h; exact absurd rfl h

end Go.Proofs.YtnbahpcajnjieaaDoor

namespace Go.Proofs.YtnbahpcajnjieaaDoor
set_option maxRecDepth 100000
open Go.RowKit _root_.Go.Proofs.YtnbahpcajnjieaaDoor.Wd _root_.Go.Proofs.YtnbahpcajnjieaaDoor.Nm

/-- What a reference's writer leaves: the new slice, the old one, and which blocks may have turned. -/
def Wrote (w w' : World) (base : Nat) (A : Option Addr) (n cap : Nat) (l : List UInt8) (A2 : Option Addr) (m c2 : Nat) (more : List UInt8) : Prop :=
  w'.ownsRow base 5 1 (.slice A2 (n + m) c2) (n + m) (bc (l ++ more)) ∧ w'.ownsRow base 5 1 (.slice A n cap) n (bc l) ∧ w.grownBy w' (A.map (·.block)) ∧
    (A2.map (·.block) = A.map (·.block) ∨ ∀ k, A2.map (·.block) = some k → w.heap.size ≤ k)

theorem own_form {w : World} {base n cap : Nat} {e : TypeId} {A : Option Addr} {xs : List Value} (h : w.ownsRow base e 1 (.slice A n cap) n xs) : (A = none ∧ n = 0 ∧ cap = 0) ∨ ∃ g cur, A = some ⟨g, 0, none⟩ ∧ base ≤ g ∧ w.heap[g]? = some (.cells cur e (0, 0)) ∧ n ≤ cap ∧ cap ≤ maxLen ∧ cur.size = cap ∧ cur.toList.take n = xs := by
  rcases h.2 with ⟨h', hn⟩ | ⟨g, cap', cur, h', h1, h2, h3, h4, h5, h6⟩
  · injection h' with a b c
    exact .inl ⟨a, b, c⟩
  · injection h' with a b c
    subst c
    exact .inr ⟨g, cur, a, h1, h2, h3, h4, by omega, by simpa using h6⟩

theorem none_trans {w w1 w2 : World} {r : Option Nat} (h1 : w.grownBy w1 none) (h2 : w1.grownBy w2 r) : w.grownBy w2 r :=
  ⟨h2.os.trans h1.os, h2.tape.trans h1.tape, h2.output.trans h1.output, Nat.le_trans h1.size h2.size, fun k hk hne => (h2.block k (Nat.lt_of_lt_of_le hk h1.size) hne).trans (h1.block k hk (fun e => by cases e))⟩

/-- One append more, to what was written so far. -/
theorem wrote_step {w wr wr' w2 : World} {base n cap j cj m c2 : Nat} {A Aj A2 : Option Addr} {l more l2 : List UInt8} (h0 : w.ownsRow base 5 1 (.slice A n cap) n (bc l)) (hW : Wrote w wr base A n cap l Aj j cj more) (hgr : wr.grownBy wr' none)
    (hown2 : w2.ownsRow base 5 1 (.slice A2 (n + j + m) c2) (n + j + m) (bc ((l ++ more) ++ l2))) (hold2 : w2.ownsRow base 5 1 (.slice Aj (n + j) cj) (n + j) (bc (l ++ more)))
    (hg2 : wr'.grownBy w2 (Aj.map (·.block))) (hat : A2.map (·.block) = Aj.map (·.block) ∨ ∀ k, A2.map (·.block) = some k → wr.heap.size ≤ k) : Wrote w w2 base A n cap l A2 (j + m) c2 (more ++ l2) := by
  obtain ⟨hj, ha, hg, hat0⟩ := hW
  have hl : l.length = n := by have := h0.1; simpa [bc_len] using this
  have hgw2 : wr.grownBy w2 (Aj.map (·.block)) := none_trans hgr hg2
  refine ⟨by rw [← List.append_assoc, ← Nat.add_assoc]; exact hown2, ?_, grow_trans hg hgw2 ?_, ?_⟩
  · -- the slice that was handed in
    rcases own_form h0 with ⟨rfl, rfl, rfl⟩ | ⟨g, cur0, rfl, hb0, hh0, hn0, _, _, _⟩
    · have : l = [] := List.eq_nil_of_length_eq_zero hl
      subst this
      exact World.ownsRow_nil w2 base _ 1
    · have hlt0 : g < w.heap.size := (Array.getElem?_eq_some_iff.1 hh0).1
      by_cases hsame : Aj.map (·.block) = some g
      · rcases own_form ha with ⟨h', _⟩ | ⟨ga, cura, e1, _, hha, _, hca, hsa, _⟩
        · cases h'
        injection e1 with e1
        injection e1 with e1 _ _
        subst e1
        rcases own_form hj with ⟨rfl, _⟩ | ⟨gj, curj, rfl, _, hhj, hnj, _, hsj, _⟩
        · cases hsame
        simp at hsame
        subst hsame
        rw [hha] at hhj
        injection hhj with hhj
        injection hhj with hhj
        subst hhj
        have hcc : cap = cj := by omega
        subst hcc
        rcases own_form hold2 with ⟨h', _⟩ | ⟨g2, cur2, e2, hb2, hh2, hn2, hm2, hs2, ht2⟩
        · cases h'
        injection e2 with e2
        injection e2 with e2 _ _
        subst e2
        refine ⟨by rw [bc_len, hl, Nat.mul_one], .inr ⟨_, cap, cur2, rfl, hb2, hh2, hn0, hm2, by omega, ?_⟩⟩
        rw [Nat.mul_one]
        have h3 : (cur2.toList.take (n + j)).take n = cur2.toList.take n := by rw [List.take_take, Nat.min_eq_left (by omega)]
        rw [← h3, ht2, bc_app]
        have h4 : n = (bc l).length := by rw [bc_len, hl]
        rw [h4, List.take_left]
      · refine grow_own ha hgw2 (fun k hk he => ?_)
        injection hk with hk
        subst hk
        exact hsame he
  · rcases hat0 with h | h
    · exact .inl h
    · exact .inr h
  · have hsz := hg.size
    rcases hat with h | h
    · rw [h]
      exact hat0
    · exact .inr (fun k hk => Nat.le_trans hsz (h k hk))
theorem at_far {A A2 : Option Addr} {s : Nat} (h : A2.map (·.block) = A.map (·.block) ∨ ∃ a, A2 = some a ∧ a.block = s + 1) : A2.map (·.block) = A.map (·.block) ∨ ∀ k, A2.map (·.block) = some k → s ≤ k := by
  rcases h with h | ⟨a, rfl, h⟩
  · exact .inl h
  · refine .inr fun k hk => ?_
    simp at hk
    omega
theorem wrote_start {w : World} {base n cap : Nat} {A : Option Addr} {l : List UInt8} (h0 : w.ownsRow base 5 1 (.slice A n cap) n (bc l)) : Wrote w w base A n cap l A 0 cap [] :=
  ⟨by simpa using h0, h0, grow_refl _ _, .inl rfl⟩

theorem lb_wrap (x : Int) (j : Nat) (hj : j < 8) : ((lb x j).toNat : Int) = IntKind.u64.wrap x / 2 ^ (8 * j) % 256 := by
  rw [lb_nat, IntKind.wrap_u64]
  have h : j = 0 ∨ j = 1 ∨ j = 2 ∨ j = 3 ∨ j = 4 ∨ j = 5 ∨ j = 6 ∨ j = 7 := by omega
  rcases h with rfl | rfl | rfl | rfl | rfl | rfl | rfl | rfl <;> simp only [Nat.reduceMul, Int.reducePow] <;> omega

end Go.Proofs.YtnbahpcajnjieaaDoor

