/- Contracts for the reference's Int, Byte and Text (chapter 1): each appends behind what it is handed; what was handed in still shows what it did. -/
import Derived.Test.YtjnpadokmhhffaaReadKit
namespace Go.Proofs.Ytjnpadokmhhffaa
open Go.RowKit Wd Nm

/-- What a reference's writer leaves: the new slice, the old one, and which blocks may have turned. -/
def Wrote (w w' : World) (base : Nat) (A : Option Addr) (n cap : Nat) (l : List UInt8) (A2 : Option Addr) (m c2 : Nat) (more : List UInt8) : Prop :=
  w'.ownsRow base 5 1 (.slice A2 (n + m) c2) (n + m) (bc (l ++ more)) ∧ w'.ownsRow base 5 1 (.slice A n cap) n (bc l) ∧ w.grownBy w' (A.map (·.block)) ∧
    (A2.map (·.block) = A.map (·.block) ∨ ∀ k, A2.map (·.block) = some k → w.heap.size ≤ k)

theorem own_form {w : World} {base n cap : Nat} {e : TypeId} {A : Option Addr} {xs : List Value} (h : w.ownsRow base e 1 (.slice A n cap) n xs) : (A = none ∧ n = 0 ∧ cap = 0) ∨ ∃ g cur, A = some ⟨g, 0, none⟩ ∧ base ≤ g ∧ w.heap[g]? = some (.cells cur e (0, 0)) ∧ n ≤ cap ∧ cap ≤ maxLen ∧ cur.size = cap ∧ cur.toList.take n = xs := by
  rcases h.2 with ⟨h', hn⟩ | ⟨g, cap', cur, h', h1, h2, h3, h4, h5, h6⟩
  · injection h' with a b c
    exact .inl ⟨a, b, c⟩
  · injection h' with a b c
    subst c
    exact .inr ⟨g, cur, a, h1, h2, h3, h4, by omega, by simpa using h6⟩

theorem none_trans {w w1 w2 : World} {r : Option Nat} (h1 : w.grownBy w1 none) (h2 : w1.grownBy w2 r) : w.grownBy w2 r :=
  ⟨h2.os.trans h1.os, h2.tape.trans h1.tape, h2.output.trans h1.output, Nat.le_trans h1.size h2.size, fun k hk hne => (h2.block k (Nat.lt_of_lt_of_le hk h1.size) hne).trans (h1.block k hk (fun e => by cases e))⟩

/-- One append more, to what was written so far. -/
theorem wrote_step {w wr wr' w2 : World} {base n cap j cj m c2 : Nat} {A Aj A2 : Option Addr} {l more l2 : List UInt8} (h0 : w.ownsRow base 5 1 (.slice A n cap) n (bc l)) (hW : Wrote w wr base A n cap l Aj j cj more) (hgr : wr.grownBy wr' none)
    (hown2 : w2.ownsRow base 5 1 (.slice A2 (n + j + m) c2) (n + j + m) (bc ((l ++ more) ++ l2))) (hold2 : w2.ownsRow base 5 1 (.slice Aj (n + j) cj) (n + j) (bc (l ++ more)))
    (hg2 : wr'.grownBy w2 (Aj.map (·.block))) (hat : A2.map (·.block) = Aj.map (·.block) ∨ ∀ k, A2.map (·.block) = some k → wr.heap.size ≤ k) : Wrote w w2 base A n cap l A2 (j + m) c2 (more ++ l2) := by
  obtain ⟨hj, ha, hg, hat0⟩ := hW
  have hl : l.length = n := by have := h0.1; simpa [bc_len] using this
  have hgw2 : wr.grownBy w2 (Aj.map (·.block)) := none_trans hgr hg2
  refine ⟨by rw [← List.append_assoc, ← Nat.add_assoc]; exact hown2, ?_, grow_trans hg hgw2 ?_, ?_⟩
  · -- the slice that was handed in
    rcases own_form h0 with ⟨rfl, rfl, rfl⟩ | ⟨g, cur0, rfl, hb0, hh0, hn0, _, _, _⟩
    · have : l = [] := List.eq_nil_of_length_eq_zero hl
      subst this
      exact World.ownsRow_nil w2 base _ 1
    · have hlt0 : g < w.heap.size := (Array.getElem?_eq_some_iff.1 hh0).1
      by_cases hsame : Aj.map (·.block) = some g
      · rcases own_form ha with ⟨h', _⟩ | ⟨ga, cura, e1, _, hha, _, hca, hsa, _⟩
        · cases h'
        injection e1 with e1
        injection e1 with e1 _ _
        subst e1
        rcases own_form hj with ⟨rfl, _⟩ | ⟨gj, curj, rfl, _, hhj, hnj, _, hsj, _⟩
        · cases hsame
        simp at hsame
        subst hsame
        rw [hha] at hhj
        injection hhj with hhj
        injection hhj with hhj
        subst hhj
        have hcc : cap = cj := by omega
        subst hcc
        rcases own_form hold2 with ⟨h', _⟩ | ⟨g2, cur2, e2, hb2, hh2, hn2, hm2, hs2, ht2⟩
        · cases h'
        injection e2 with e2
        injection e2 with e2 _ _
        subst e2
        refine ⟨by rw [bc_len, hl, Nat.mul_one], .inr ⟨_, cap, cur2, rfl, hb2, hh2, hn0, hm2, by omega, ?_⟩⟩
        rw [Nat.mul_one]
        have h3 : (cur2.toList.take (n + j)).take n = cur2.toList.take n := by rw [List.take_take, Nat.min_eq_left (by omega)]
        rw [← h3, ht2, bc_app]
        have h4 : n = (bc l).length := by rw [bc_len, hl]
        rw [h4, List.take_left]
      · refine grow_own ha hgw2 (fun k hk he => ?_)
        injection hk with hk
        subst hk
        exact hsame he
  · rcases hat0 with h | h
    · exact .inl h
    · exact .inr h
  · have hsz := hg.size
    rcases hat with h | h
    · rw [h]
      exact hat0
    · exact .inr (fun k hk => Nat.le_trans hsz (h k hk))
theorem at_far {A A2 : Option Addr} {s : Nat} (h : A2.map (·.block) = A.map (·.block) ∨ ∃ a, A2 = some a ∧ a.block = s + 1) : A2.map (·.block) = A.map (·.block) ∨ ∀ k, A2.map (·.block) = some k → s ≤ k := by
  rcases h with h | ⟨a, rfl, h⟩
  · exact .inl h
  · refine .inr fun k hk => ?_
    simp at hk
    omega
theorem wrote_start {w : World} {base n cap : Nat} {A : Option Addr} {l : List UInt8} (h0 : w.ownsRow base 5 1 (.slice A n cap) n (bc l)) : Wrote w w base A n cap l A 0 cap [] :=
  ⟨by simpa using h0, h0, grow_refl _ _, .inl rfl⟩

set_option maxHeartbeats 400000 in
theorem refwbyte_any (base : Nat) (A : Option Addr) (n cap : Nat) (l : List UInt8) (x : Int) (w : World) (hown : w.ownsRow base 5 1 (.slice A n cap) n (bc l)) (hb : base ≤ w.heap.size) (hn : n ≤ 100000000000) :
    Calls Try.prog 14 #[.slice A n cap, .int .i64 x] w fun e w' => ∃ A2 c2, e = .returned (.slice A2 (n + 1) c2) ∧ Wrote w w' base A n cap l A2 1 c2 (leb x 1) := by
  obtain ⟨i0, hi0, hz0, hz1, hz2⟩ := info_parts infoByte
  have hlb : ((lb x 0).toNat : Int) = x % 256 := by rw [lb_nat]; simp
  have hone := own_one w base (x % 256) (lb x 0) hlb hb
  have hsrc := (Shows.of_own hone).src (P := Try.prog) Try.underlying22
  have HW := Lib.hid (hown.alloc (.cells #[Value.int .u8 (x % 256)] 5))
  have HSRC := Lib.hid hsrc
  have HO := Lib.hid hown
  clear hone hsrc hlb hown
  go_enter Try.func14, Try.ntmps14
  go_wp2_with (at_builtin; refine wpList_ap _ rfl (.tmp 5) (.tmp 8) 22 22 rfl base 5 i0 Try.underlying22 hi0 hz0 hz1 hz2 A n cap l rfl HW.out _ 1 [lb x 0] rfl HSRC.out ?c1 ?c2 ?_)
  case c1 => omega
  case c2 => simp; omega
  intro A2 c2 w2 hown2 hold2 hg2 hat
  have hat' : A2.map (·.block) = A.map (·.block) ∨ ∀ k, A2.map (·.block) = some k → w.heap.size ≤ k := at_far hat
  have hw2 := wrote_step HO.out (wrote_start HO.out) (World.grownBy_alloc w (.cells #[Value.int .u8 (x % 256)] 5) none) (by simpa using hown2) (by simpa using hold2) hg2 hat'
  have HW2 := Lib.hid hw2
  clear hown2 hold2 hg2 hat hat' hw2 HW HSRC
  go_wp2
  go_ret
  exact ⟨A2, c2, rfl, by have h := HW2.out; simp only [Nat.zero_add, List.nil_append] at h; exact h⟩

theorem lb_wrap (x : Int) (j : Nat) (hj : j < 8) : ((lb x j).toNat : Int) = IntKind.u64.wrap x / 2 ^ (8 * j) % 256 := by
  rw [lb_nat, IntKind.wrap_u64]
  have h : j = 0 ∨ j = 1 ∨ j = 2 ∨ j = 3 ∨ j = 4 ∨ j = 5 ∨ j = 6 ∨ j = 7 := by omega
  rcases h with rfl | rfl | rfl | rfl | rfl | rfl | rfl | rfl <;> simp only [Nat.reduceMul, Int.reducePow] <;> omega

set_option maxHeartbeats 400000 in
theorem refwint_any (base : Nat) (A : Option Addr) (n cap : Nat) (l : List UInt8) (x : Int) (w : World) (hown : w.ownsRow base 5 1 (.slice A n cap) n (bc l)) (hb : base ≤ w.heap.size) (hn : n ≤ 100000000000) :
    Calls Try.prog 12 #[.slice A n cap, .int .i64 x] w fun e w' => ∃ A2 c2, e = .returned (.slice A2 (n + 8) c2) ∧ Wrote w w' base A n cap l A2 8 c2 (leb x 8) := by
  obtain ⟨i0, hi0, hz0, hz1, hz2⟩ := info_parts infoByte
  have HO := Lib.hid hown
  clear hown
  go_enter Try.func12, Try.ntmps12
  go_wp2
  go_loopw [0, 5] (fun b i wr => ∃ j : Nat, ∃ Aj cj, j ≤ 8 ∧ i = .int .i64 j ∧ b = .slice Aj (n + j) cj ∧ Wrote w wr base A n cap l Aj j cj (leb x j)) (fun _ i _ => 8 - (intOf i).toNat)
  case atStart => exact ⟨0, A, cap, by omega, rfl, rfl, wrote_start HO.out⟩
  case round =>
    obtain ⟨j, Aj, cj, hj, rfl, rfl, hW⟩ := hrel
    by_cases hlt : j < 8
    · have hbr : base ≤ wr.heap.size := Nat.le_trans hb hW.2.2.1.size
      have hone := own_one wr base _ (lb x j) (lb_wrap x j hlt) hbr
      have HSRC := Lib.hid ((Shows.of_own hone).src (P := Try.prog) Try.underlying22)
      have HOW := Lib.hid (hW.1.alloc (.cells #[Value.int .u8 (IntKind.u64.wrap x / 2 ^ (8 * j) % 256)] 5))
      have HWR := Lib.hid hW
      have hnx := leb_next x j
      have HNX := Lib.hid hnx
      clear hone hW hnx
      go_wp2_with (at_builtin; refine wpList_ap _ rfl (.tmp 10) (.tmp 18) 22 22 rfl base 5 i0 Try.underlying22 hi0 hz0 hz1 hz2 Aj (n + j) cj _ rfl HOW.out _ 1 [lb x j] rfl HSRC.out ?c1 ?c2 ?_)
      case c1 => omega
      case c2 => simp; omega
      intro A2 c2 w2 hown2 hold2 hg2 hat
      have hw2 := wrote_step (m := 1) (l2 := [lb x j]) HO.out HWR.out (World.grownBy_alloc wr (.cells #[Value.int .u8 (IntKind.u64.wrap x / 2 ^ (8 * j) % 256)] 5) none) (by rw [List.append_assoc] at *; simpa using hown2) (by simpa using hold2) hg2 (at_far hat)
      have HW2 := Lib.hid hw2
      clear hown2 hold2 hg2 hat hw2 HOW HSRC HWR
      go_wp2
      go_roundw
      case rel => exact ⟨j + 1, A2, c2, by omega, by go_num, by rw [← Nat.add_assoc], by rw [HNX.out]; exact HW2.out⟩
      case measure => simp [intOf]; omega
    · obtain rfl : j = 8 := by omega
      go_wp2
      go_ret
      exact ⟨Aj, cj, rfl, hW⟩

set_option maxHeartbeats 400000 in
theorem refwtext_any (base : Nat) (A : Option Addr) (n cap : Nat) (l : List UInt8) (s : ByteArray) (w : World) (hown : w.ownsRow base 5 1 (.slice A n cap) n (bc l)) (hb : base ≤ w.heap.size) (hn : n ≤ 100000000000) (hs : s.size ≤ 65535) :
    Calls Try.prog 16 #[.slice A n cap, .string s] w fun e w' => ∃ A2 c2, e = .returned (.slice A2 (n + (2 + s.size)) c2) ∧ Wrote w w' base A n cap l A2 (2 + s.size) c2 (leb s.size 2 ++ s.data.toList) := by
  obtain ⟨i0, hi0, hz0, hz1, hz2⟩ := info_parts infoByte
  obtain ⟨hle, hle0, hle1⟩ := leb_two (s.size : Int) (by omega) (by omega)
  have hone := own_two w base _ _ _ _ hle0 hle1 hb
  have HSRC := Lib.hid ((Shows.of_own hone).src (P := Try.prog) Try.underlying22)
  have HOW := Lib.hid (hown.alloc (.cells #[Value.int .u8 ((s.size : Int) % 256), Value.int .u8 ((s.size : Int) / 256)] 5))
  have HO := Lib.hid hown
  have HLE := Lib.hid hle
  clear hone hown hle hle0 hle1
  go_enter Try.func16, Try.ntmps16
  go_wp2_with (at_builtin; refine wpList_ap _ rfl (.tmp 10) (.tmp 18) 22 22 rfl base 5 i0 Try.underlying22 hi0 hz0 hz1 hz2 A n cap l rfl HOW.out _ 2 _ rfl HSRC.out ?c1 ?c2 ?_)
  case c1 => omega
  case c2 => simp; omega
  intro A2 c2 w2 hown2 hold2 hg2 hat
  have hw2 := wrote_step (m := 2) (l2 := [lb (s.size : Int) 0, lb (s.size : Int) 1]) HO.out (wrote_start HO.out) (World.grownBy_alloc w (.cells #[Value.int .u8 ((s.size : Int) % 256), Value.int .u8 ((s.size : Int) / 256)] 5) none) (by simpa using hown2) (by simpa using hold2) hg2 (at_far hat)
  rw [← HLE.out] at hw2
  simp only [Nat.zero_add, List.nil_append] at hw2
  have hb2 : base ≤ w2.heap.size := Nat.le_trans hb hw2.2.2.1.size
  have HSRC2 := Lib.hid (Src.ofString (P := Try.prog) w2 Try.underlying9 s)
  have HW2 := Lib.hid hw2
  clear hown2 hold2 hg2 hat hw2 HOW HSRC
  go_wp2_with (at_builtin; refine wpList_ap _ rfl (.tmp 19) (.tmp 20) 22 9 rfl base 5 i0 Try.underlying22 hi0 hz0 hz1 hz2 A2 (n + 2) c2 _ rfl HW2.out.1 _ s.size s.data.toList rfl HSRC2.out ?c1 ?c2 ?_)
  case c1 => omega
  case c2 => exact hb2
  intro A3 c3 w3 hown3 hold3 hg3 hat3
  have hat3' : A3.map (·.block) = A2.map (·.block) ∨ ∀ k, A3.map (·.block) = some k → w2.heap.size ≤ k := by
    rcases hat3 with h | ⟨a, rfl, h⟩
    · exact .inl h
    · exact .inr fun k hk => by simp at hk; omega
  have hw3 := wrote_step (m := s.size) (l2 := s.data.toList) HO.out HW2.out (grow_refl w2 none) (by rw [List.append_assoc]; exact hown3) hold3 hg3 hat3'
  have HW3 := Lib.hid hw3
  clear hown3 hold3 hg3 hat3 hat3' hw3 HW2 HSRC2
  go_wp2
  go_ret
  exact ⟨A3, c3, by rw [Nat.add_assoc]; rfl, HW3.out⟩
end Go.Proofs.Ytjnpadokmhhffaa
