/- Plain facts for the law CodeBack: what a Reader holds while what was written is read, whole, with a byte more, with a byte less. -/
import Derived.Test.YtjnpadokmhhffaaReadKit

namespace Go.Proofs.Ytjnpadokmhhffaa
open Go.RowKit Wd Nm

theorem drop_exact {a b : List UInt8} {m : Nat} (h : a.length = m) : (a ++ b).drop m = b := by subst h; exact List.drop_left
theorem take_exact {a b : List UInt8} {m : Nat} (h : a.length = m) : (a ++ b).take m = a := by subst h; exact List.take_left
/-- Numbers, each as eight bytes. -/
def encI : List Int → List UInt8
  | [] => []
  | x :: r => leb x 8 ++ encI r
/-- Texts, each with its length ahead. -/
def encT : List ByteArray → List UInt8
  | [] => []
  | s :: r => leb s.size 2 ++ s.data.toList ++ encT r
theorem encI_app (a b : List Int) : encI (a ++ b) = encI a ++ encI b := by
  induction a with
  | nil => simp [encI]
  | cons x r ih => simp [encI, ih]
theorem encT_app (a b : List ByteArray) : encT (a ++ b) = encT a ++ encT b := by
  induction a with
  | nil => simp [encT]
  | cons x r ih => simp [encT, ih]
theorem encI_len (a : List Int) : (encI a).length = 8 * a.length := by
  induction a with
  | nil => simp [encI]
  | cons x r ih => simp [encI, ih, leb_len]; omega
theorem encI_next (xs : List Int) (j : Nat) (h : j < xs.length) : encI (xs.take (j + 1)) = encI (xs.take j) ++ leb xs[j] 8 := by
  rw [List.take_succ_eq_append_getElem h, encI_app]
  simp [encI]
theorem encI_drop (xs : List Int) (j : Nat) (h : j < xs.length) : encI (xs.drop j) = leb xs[j] 8 ++ encI (xs.drop (j + 1)) := by
  rw [List.drop_eq_getElem_cons h]
  simp [encI]
theorem encT_next (xs : List ByteArray) (j : Nat) (h : j < xs.length) : encT (xs.take (j + 1)) = encT (xs.take j) ++ leb xs[j].size 2 ++ xs[j].data.toList := by
  rw [List.take_succ_eq_append_getElem h, encT_app]
  simp [encT]
theorem encT_drop (xs : List ByteArray) (j : Nat) (h : j < xs.length) : encT (xs.drop j) = leb xs[j].size 2 ++ xs[j].data.toList ++ encT (xs.drop (j + 1)) := by
  rw [List.drop_eq_getElem_cons h]
  simp [encT]

/-- R is what is still to be read; in the round k the Reader has it all (0), a byte more (1), a byte less (2). -/
def Goes (k : Nat) (R l : List UInt8) (er : Int) (ok : Bool) : Prop :=
  if k = 2 then er = 8 ∨ (er = 0 ∧ ∃ z, l ++ [z] = R) else er = 0 ∧ l = R ++ (if k = 1 then [7] else []) ∧ ok = true

theorem goes_num {k m : Nat} {R c l : List UInt8} {er x : Int} {ok : Bool} (hc : c.length = m) (hx : wrap64 (leNat c : Nat) = x) (h : Goes k (c ++ R) l er ok) :
    Goes k R (rdNum m l er).2.1 (rdNum m l er).2.2 ((rdNum m l er).1 == x && ok) := by
  unfold Goes at h ⊢
  by_cases hk : k = 2
  · rw [if_pos hk] at h ⊢
    rcases h with h | ⟨rfl, z, hz⟩
    · subst h
      rw [rdNum_err _ _ (by decide)]
      exact .inl rfl
    · by_cases hl : m ≤ l.length
      · rw [rdNum_ok hl]
        refine .inr ⟨rfl, z, ?_⟩
        have h1 : (l ++ [z]).drop m = R := by rw [hz, ← hc, List.drop_left]
        rw [← h1, List.drop_append_of_le_length hl]
      · rw [rdNum_cut (by omega)]
        exact .inl rfl
  · rw [if_neg hk] at h ⊢
    obtain ⟨rfl, rfl, rfl⟩ := h
    rw [rdNum_ok (by rw [List.length_append, List.length_append]; omega)]
    have e1 : (c ++ R ++ (if k = 1 then [7] else [])).take m = c := by rw [List.append_assoc, ← hc, List.take_left]
    have e2 : (c ++ R ++ (if k = 1 then [7] else [])).drop m = R ++ (if k = 1 then [7] else []) := by rw [List.append_assoc, ← hc, List.drop_left]
    rw [e1, e2, hx]
    simp

theorem goes_int {k : Nat} {R l : List UInt8} {er x : Int} {ok : Bool} (h0 : -9223372036854775808 ≤ x) (h1 : x ≤ 9223372036854775807) (h : Goes k (leb x 8 ++ R) l er ok) :
    Goes k R (rdNum 8 l er).2.1 (rdNum 8 l er).2.2 ((rdNum 8 l er).1 == x && ok) := goes_num (leb_len x 8) (back64 x h0 h1) h
theorem goes_byte {k : Nat} {R l : List UInt8} {er x : Int} {ok : Bool} (h0 : 0 ≤ x) (h1 : x ≤ 255) (h : Goes k (leb x 1 ++ R) l er ok) :
    Goes k R (rdNum 1 l er).2.1 (rdNum 1 l er).2.2 ((rdNum 1 l er).1 == x && ok) := by
  refine goes_num (leb_len x 1) ?_ h
  rw [leNat_leb]
  have h2 : x % 2 ^ (8 * 1) = x % 256 := rfl
  rw [h2, wrap64_of _ (by omega) (by omega)]
  omega

theorem goes_text {k : Nat} {R l : List UInt8} {er : Int} {ok : Bool} (s : List UInt8) (hs : s.length ≤ 65535) (h : Goes k (leb s.length 2 ++ s ++ R) l er ok) :
    Goes k R (rdText l er).2.1 (rdText l er).2.2 ((rdText l er).1 == s && ok) := by
  unfold Goes at h ⊢
  by_cases hk : k = 2
  · rw [if_pos hk] at h ⊢
    rcases h with h | ⟨rfl, z, hz⟩
    · subst h
      rw [rdText_err _ (by decide)]
      exact .inl rfl
    · unfold rdText
      rw [if_pos rfl]
      by_cases hl : 2 ≤ l.length
      · rw [if_pos hl]
        unfold rdTextOf
        have h1 : (l ++ [z]).drop 2 = s ++ R := by
          rw [hz, List.append_assoc, drop_exact (leb_len _ 2)]
        rw [List.drop_append_of_le_length hl] at h1
        have h2 : l.take 2 = leb s.length 2 := by
          have : (l ++ [z]).take 2 = leb s.length 2 := by
            rw [hz, List.append_assoc, take_exact (leb_len _ 2)]
          rw [List.take_append_of_le_length hl] at this
          exact this
        have e3 : leNat (leb (s.length : Int) 2) = s.length := by
          have h := leNat_leb (s.length : Int) 2
          have h2 : (s.length : Int) % 2 ^ (8 * 2) = (s.length : Int) % 65536 := rfl
          rw [h2] at h
          omega
        rw [h2, e3]
        by_cases hm : s.length ≤ (l.drop 2).length
        · rw [if_pos hm]
          refine .inr ⟨rfl, z, ?_⟩
          have h3 : (l.drop 2 ++ [z]).drop s.length = R := by rw [h1, List.drop_left]
          rw [← h3, List.drop_append_of_le_length hm]
        · rw [if_neg hm]
          exact .inl rfl
      · rw [if_neg hl]
        exact .inl rfl
  · rw [if_neg hk] at h ⊢
    obtain ⟨rfl, rfl, rfl⟩ := h
    have := rdText_back s (R ++ (if k = 1 then [7] else [])) hs
    rw [← List.append_assoc] at this
    rw [this]
    simp

theorem goes_true {k : Nat} {R l : List UInt8} {er : Int} {ok : Bool} (hk : k ≠ 2) (h : Goes k R l er ok) : ok = true := by
  unfold Goes at h
  rw [if_neg hk] at h
  exact h.2.2
theorem goes_end0 {l : List UInt8} {er : Int} {ok : Bool} (h : Goes 0 [] l er ok) : ok = true ∧ rdEnd l er = 0 := by
  obtain ⟨rfl, rfl, rfl⟩ : er = 0 ∧ l = [] ∧ ok = true := by simpa [Goes] using h
  exact ⟨rfl, rdEnd_ok⟩
theorem goes_end1 {l : List UInt8} {er : Int} {ok : Bool} (h : Goes 1 [] l er ok) : ok = true ∧ rdEnd l er = 9 := by
  obtain ⟨rfl, rfl, rfl⟩ : er = 0 ∧ l = [7] ∧ ok = true := by simpa [Goes] using h
  exact ⟨rfl, rdEnd_more (by simp)⟩
theorem goes_end2 {l : List UInt8} {er : Int} {ok : Bool} (h : Goes 2 [] l er ok) : rdEnd l er = 8 := by
  have h' : er = 8 ∨ (er = 0 ∧ ∃ z, l ++ [z] = []) := by simpa [Goes] using h
  rcases h' with rfl | ⟨_, z, hz⟩
  · exact rdEnd_err _ (by decide)
  · simp at hz
theorem str_eq (v : List UInt8) (s : ByteArray) : ((⟨v.toArray⟩ : ByteArray).toList == s.toList) = (v == s.data.toList) := by
  rw [Lib.toList_data, Lib.toList_data]
theorem byte_nil (x : Int) (w : World) :
    Calls Try.prog 13 #[.slice none 0 0, .int .i64 x] w fun e w' => ∃ A2 c2, e = .returned (.slice A2 1 c2) ∧ w'.ownsRow w.heap.size 5 1 (.slice A2 1 c2) 1 (bc (leb x 1)) ∧ Below w.heap.size w w' := by
  have h := byte_any none 0 0 [] x w (Shows.nil _ _) (by omega)
  simp only [Nat.zero_add, List.nil_append] at h
  exact h
end Go.Proofs.Ytjnpadokmhhffaa
