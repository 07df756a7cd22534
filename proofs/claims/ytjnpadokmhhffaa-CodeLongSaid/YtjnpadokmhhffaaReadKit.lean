/- Package code's Reader in the shapes that laws ask for: behind an error; cut; with enough bytes. -/
import Derived.Test.YtjnpadokmhhffaaLawBase
import Derived.Test.YtjnpadokmhhffaaNew
import Derived.Test.YtjnpadokmhhffaaReadText
namespace Go.Proofs.Ytjnpadokmhhffaa
open Go.RowKit Wd Nm

theorem i64_of_wf {x : Int} (h : (Lit.int .i64 x).wf = true) : -9223372036854775808 ≤ x ∧ x ≤ 9223372036854775807 := by
  simp [Lit.wf, IntKind.min, IntKind.max, IntKind.signed, IntKind.bits] at h
  omega
theorem u8_of_wf {x : Int} (h : (Lit.int .u8 x).wf = true) : 0 ≤ x ∧ x ≤ 255 := by
  simp [Lit.wf, IntKind.min, IntKind.max, IntKind.signed, IntKind.bits] at h
  omega

theorem step_grow {w a b : World} {g : Nat} (h : Below w.heap.size w a) (hg : a.grownBy b (some g)) (hB : w.heap.size ≤ g) : Below w.heap.size w b :=
  h.grown hg h.size (by intro k hk; injection hk; omega)
theorem step_below {w a b : World} (h : Below w.heap.size w a) (h2 : Below a.heap.size a b) : Below w.heap.size w b := h.trans (h2.mono h.size)

theorem rdNum_err (k : Nat) (l : List UInt8) {er : Int} (h : er ≠ 0) : rdNum k l er = (0, l, er) := by unfold rdNum; rw [if_neg h]
theorem rdText_err (l : List UInt8) {er : Int} (h : er ≠ 0) : rdText l er = ([], l, er) := by unfold rdText; rw [if_neg h]
theorem rdFail_err (f : Int) {er : Int} (h : er ≠ 0) : rdFail f er = er := by unfold rdFail; rw [if_neg h]
theorem rdFail_ok (f : Int) : rdFail f 0 = f := rfl
theorem rdEnd_err (l : List UInt8) {er : Int} (h : er ≠ 0) : rdEnd l er = er := by unfold rdEnd; rw [if_neg (fun h' => h h'.1)]
theorem rdNum_cut {k : Nat} {l : List UInt8} (h : l.length < k) : rdNum k l 0 = (0, l, 8) := by unfold rdNum; rw [if_pos rfl, if_neg (by omega)]
theorem rdNum_ok {k : Nat} {l : List UInt8} (h : k ≤ l.length) : rdNum k l 0 = (wrap64 (leNat (l.take k) : Nat), l.drop k, 0) := by unfold rdNum; rw [if_pos rfl, if_pos h]
theorem rdEnd_more {l : List UInt8} (h : 0 < l.length) : rdEnd l 0 = 9 := by unfold rdEnd; rw [if_pos ⟨rfl, h⟩]
theorem rdEnd_ok : rdEnd [] 0 = 0 := by unfold rdEnd; rw [if_neg (by simp)]

/-- A number that was written is read as it was. -/
theorem rdNum_int (x : Int) (r : List UInt8) (h0 : -9223372036854775808 ≤ x) (h1 : x ≤ 9223372036854775807) : rdNum 8 (leb x 8 ++ r) 0 = (x, r, 0) := by
  rw [rdNum_ok (by rw [List.length_append, leb_len]; omega)]
  have e1 : (leb x 8 ++ r).take 8 = leb x 8 := by rw [List.take_append_of_le_length (by rw [leb_len]; omega), List.take_of_length_le (by rw [leb_len]; omega)]
  have e2 : (leb x 8 ++ r).drop 8 = r := by rw [List.drop_append_of_le_length (by rw [leb_len]; omega), List.drop_of_length_le (by rw [leb_len]; omega), List.nil_append]
  rw [e1, e2, back64 x h0 h1]
theorem rdNum_byte (x : Int) (r : List UInt8) : rdNum 1 (leb x 1 ++ r) 0 = (x % 256, r, 0) := by
  rw [rdNum_ok (by rw [List.length_append, leb_len]; omega)]
  have e1 : (leb x 1 ++ r).take 1 = leb x 1 := by rw [List.take_append_of_le_length (by rw [leb_len]; omega), List.take_of_length_le (by rw [leb_len]; omega)]
  have e2 : (leb x 1 ++ r).drop 1 = r := by rw [List.drop_append_of_le_length (by rw [leb_len]; omega), List.drop_of_length_le (by rw [leb_len]; omega), List.nil_append]
  rw [e1, e2, leNat_leb]
  have h : x % 2 ^ (8 * 1) = x % 256 := rfl
  rw [h, wrap64_of _ (by omega) (by omega)]
/-- A text that was written is read as it was. -/
theorem rdText_back (s r : List UInt8) (hs : s.length ≤ 65535) : rdText (leb s.length 2 ++ s ++ r) 0 = (s, r, 0) := by
  have e1 : (leb (s.length : Int) 2 ++ s ++ r).take 2 = leb s.length 2 := by rw [List.append_assoc, List.take_append_of_le_length (by rw [leb_len]; omega), List.take_of_length_le (by rw [leb_len]; omega)]
  have e2 : (leb (s.length : Int) 2 ++ s ++ r).drop 2 = s ++ r := by rw [List.append_assoc, List.drop_append_of_le_length (by rw [leb_len]; omega), List.drop_of_length_le (by rw [leb_len]; omega), List.nil_append]
  have e3 : leNat (leb (s.length : Int) 2) = s.length := by
    have h := leNat_leb (s.length : Int) 2
    have h2 : (s.length : Int) % 2 ^ (8 * 2) = (s.length : Int) % 65536 := rfl
    rw [h2] at h
    omega
  unfold rdText rdTextOf
  rw [if_pos rfl, if_pos (by rw [List.length_append, List.length_append, leb_len]; omega), e1, e2, e3, if_pos (by rw [List.length_append]; omega)]
  simp

/-- The bytes of a literal of one, or two, that the call has just made. -/
theorem own_one (w : World) (base : Nat) (a : Int) (c : UInt8) (ha : (c.toNat : Int) = a) (hb : base ≤ w.heap.size) : (w.alloc (.cells #[.int .u8 a] 5)).ownsRow base 5 1 (.slice (some ⟨w.heap.size, 0, none⟩) 1 1) 1 (bc [c]) := by
  subst ha
  exact World.ownsRow_lit w #[.int .u8 (c.toNat : Int)] 1 hb (by simp [maxLen]) rfl
theorem own_two (w : World) (base : Nat) (a b : Int) (c d : UInt8) (ha : (c.toNat : Int) = a) (hd : (d.toNat : Int) = b) (hb : base ≤ w.heap.size) : (w.alloc (.cells #[.int .u8 a, .int .u8 b] 5)).ownsRow base 5 1 (.slice (some ⟨w.heap.size, 0, none⟩) 2 2) 2 (bc [c, d]) := by
  subst ha hd
  exact World.ownsRow_lit w #[.int .u8 (c.toNat : Int), .int .u8 (d.toNat : Int)] 2 hb (by simp [maxLen]) rfl
theorem leb_two (T : Int) (h0 : 0 ≤ T) (h1 : T < 65536) : leb T 2 = [lb T 0, lb T 1] ∧ ((lb T 0).toNat : Int) = T % 256 ∧ ((lb T 1).toNat : Int) = T / 256 := by
  refine ⟨rfl, ?_, ?_⟩
  · rw [lb_nat]; simp
  · rw [lb_nat]
    have : (2 : Int) ^ (8 * 1) = 256 := rfl
    rw [this]
    omega
/-- A text that says it is longer than what is left is cut. -/
theorem rdText_cut (T : Nat) (l : List UInt8) (h : l.length < T) (hT : T < 65536) : rdText (leb T 2 ++ l) 0 = ([], l, 8) := by
  have e1 : (leb (T : Int) 2 ++ l).take 2 = leb T 2 := by rw [List.take_append_of_le_length (by rw [leb_len]; omega), List.take_of_length_le (by rw [leb_len]; omega)]
  have e2 : (leb (T : Int) 2 ++ l).drop 2 = l := by rw [List.drop_append_of_le_length (by rw [leb_len]; omega), List.drop_of_length_le (by rw [leb_len]; omega), List.nil_append]
  have e3 : leNat (leb (T : Int) 2) = T := by
    have h := leNat_leb (T : Int) 2
    have h2 : (T : Int) % 2 ^ (8 * 2) = (T : Int) % 65536 := rfl
    rw [h2] at h
    omega
  unfold rdText rdTextOf
  rw [if_pos rfl, if_pos (by rw [List.length_append, leb_len]; omega), e1, e2, e3, if_neg (by omega)]

theorem new_nil (w : World) :
    Calls Try.prog 17 #[.slice none 0 0] w fun e w' => ∃ g, e = .returned (.pointer (some ⟨g, 0, none⟩)) ∧ Rd w' g [] 0 ∧ w.heap.size ≤ g ∧ Below w.heap.size w w' :=
  new_any none 0 0 [] w (Shows.nil _ _) (by omega)
end Go.Proofs.Ytjnpadokmhhffaa
