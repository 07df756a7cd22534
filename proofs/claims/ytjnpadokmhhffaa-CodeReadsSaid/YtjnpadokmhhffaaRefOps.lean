/- Contracts for the reference's Reader (chapter 1) by the same model as package code's: Int, Byte, Text, Fail, End, New. -/
import Derived.Test.YtjnpadokmhhffaaRefRead
namespace Go.Proofs.Ytjnpadokmhhffaa
open Go.RowKit Wd Nm

/-- The reference's Reader, by what is left. -/
def RL (w : World) (B g : Nat) (l : List UInt8) (er : Int) : Prop := ∃ bs p, RR w B g bs p er ∧ l = bs.drop p
def rdTake (k : Nat) (l : List UInt8) (er : Int) : List UInt8 × List UInt8 × Int :=
  if er = 0 then (if k ≤ l.length then (l.take k, l.drop k, 0) else ([], l, 8)) else ([], l, er)
theorem rdNum_take (k : Nat) (l : List UInt8) (er : Int) : rdNum k l er = (wrap64 (leNat (rdTake k l er).1 : Nat), (rdTake k l er).2.1, (rdTake k l er).2.2) := by
  have h0 : wrap64 ((leNat [] : Nat) : Int) = 0 := by simp [leNat, wrap64]
  unfold rdNum rdTake
  split
  · split
    · rfl
    · rw [h0]
  · rw [h0]
theorem rdTake_len (k : Nat) (l : List UInt8) (er : Int) : (rdTake k l er).1.length = k ∨ (rdTake k l er).1 = [] := by
  unfold rdTake
  split
  · split
    · exact .inl (by rw [List.length_take]; omega)
    · exact .inr rfl
  · exact .inr rfl

theorem RL.lt {w : World} {B g : Nat} {l : List UInt8} {er : Int} (h : RL w B g l er) : g < w.heap.size ∧ B ≤ g := by
  obtain ⟨bs, p, h, _⟩ := h
  exact ⟨h.lt, h.le.1⟩
theorem RL.grown {w w' : World} {B g : Nat} {l : List UInt8} {er : Int} {row : Option Nat} (h : RL w B g l er) (hg : w.grownBy w' row) (hr : ∀ k, row = some k → B ≤ k ∧ k ≠ g) : RL w' B g l er := by
  obtain ⟨bs, p, h, rfl⟩ := h
  exact ⟨bs, p, h.grown hg hr, rfl⟩
theorem RL.drewN {w : World} {B g : Nat} {l : List UInt8} {er : Int} (h : RL w B g l er) (q : Nat) : RL (w.drewN q) B g l er := by
  obtain ⟨bs, p, h, rfl⟩ := h
  exact ⟨bs, p, h.drewN q, rfl⟩
theorem RR.drew {w : World} {B g : Nat} {bs : List UInt8} {p : Nat} {er : Int} (h : RR w B g bs p er) : RR w.drew B g bs p er := by
  obtain ⟨A, n, cap, hg, hs, hp, hB, hn⟩ := h
  exact ⟨A, n, cap, hg, hs.keep fun _ _ => rfl, hp, hB, hn⟩
theorem RL.drew {w : World} {B g : Nat} {l : List UInt8} {er : Int} (h : RL w B g l er) : RL w.drew B g l er := by
  obtain ⟨bs, p, h, rfl⟩ := h
  exact ⟨bs, p, h.drew, rfl⟩

theorem reftake_any (B g : Nat) (l : List UInt8) (er : Int) (k : Nat) (w : World) (hr : RL w B g l er) (hk : k ≤ 100000) :
    Calls Try.prog 35 #[.pointer (some ⟨g, 0, none⟩), .int .i64 k] w fun e w' => ∃ A m c, e = .returned (.slice A m c) ∧ Shows w' B A m c (rdTake k l er).1 ∧ RL w' B g (rdTake k l er).2.1 (rdTake k l er).2.2 ∧ w.grownBy w' (some g) := by
  obtain ⟨bs, p, hr, rfl⟩ := hr
  have hle := hr.le.2
  by_cases h0 : er = 0
  · subst h0
    by_cases hn : k ≤ (bs.drop p).length
    · have e1 : rdTake k (bs.drop p) 0 = ((bs.drop p).take k, (bs.drop p).drop k, 0) := by unfold rdTake; rw [if_pos rfl, if_pos hn]
      rw [e1]
      refine (reftake_ok B g bs p k w hr (by rw [List.length_drop] at hn; omega)).mono ?_
      rintro e w' ⟨A2, c2, rfl, hs, hr2, hg⟩
      exact ⟨A2, k, c2, rfl, hs, ⟨bs, p + k, hr2, by rw [List.drop_drop]⟩, hg⟩
    · have e1 : rdTake k (bs.drop p) 0 = ([], bs.drop p, 8) := by unfold rdTake; rw [if_pos rfl, if_neg hn]
      rw [e1]
      refine (reftake_cut B g bs p k w hr (by rw [List.length_drop] at hn; omega) hk).mono ?_
      rintro e w' ⟨rfl, hr2, hg⟩
      exact ⟨none, 0, 0, rfl, Shows.nil _ _, ⟨bs, p, hr2, rfl⟩, hg⟩
  · have e1 : rdTake k (bs.drop p) er = ([], bs.drop p, er) := by unfold rdTake; rw [if_neg h0]
    rw [e1]
    refine (reftake_err B g bs p k er w hr (by simpa using h0)).mono ?_
    rintro e w' ⟨rfl, hr2, hg⟩
    exact ⟨none, 0, 0, rfl, Shows.nil _ _, ⟨bs, p, hr2, rfl⟩, hg⟩

theorem leNat_drop (t : List UInt8) (j : Nat) (h : j < t.length) : leNat (t.drop j) = t[j].toNat + 256 * leNat (t.drop (j + 1)) := by
  rw [List.drop_eq_getElem_cons h]
  rfl
theorem or_low (U c : Nat) (hU : U < 2 ^ 56) (hc : c < 256) : bits BinOp.or IntKind.u64 (IntKind.u64.wrap ((U : Int) * 256)) (IntKind.u64.wrap (c : Int)) = ((c + 256 * U : Nat) : Int) := by
  have h56 : (2 : Nat) ^ 56 = 72057594037927936 := rfl
  have e1 : IntKind.u64.wrap ((U : Int) * 256) = (U : Int) * 256 := by rw [IntKind.wrap_u64]; omega
  have e2 : IntKind.u64.wrap (c : Int) = c := by rw [IntKind.wrap_u64]; omega
  have h64 : (2 : Int) ^ 64 = 18446744073709551616 := rfl
  have h8 : (2 : Int) ^ 8 = 256 := rfl
  rw [e1, e2, bits_join .u64 64 (by decide) (fun n h0 h1 => by rw [IntKind.wrap_u64]; rw [h64] at h1; omega) 8 _ _ (by omega) (by rw [h8]; omega) (by rw [h64]; omega) (by omega) (by rw [h8]; omega) (by rw [h64]; omega)]
  omega

set_option maxHeartbeats 1000000 in
theorem refint_any (B g : Nat) (l : List UInt8) (er : Int) (w : World) (hr : RL w B g l er) :
    Calls Try.prog 21 #[.pointer (some ⟨g, 0, none⟩)] w fun e w' => e = .returned (.int .i64 (rdNum 8 l er).1) ∧ RL w' B g (rdNum 8 l er).2.1 (rdNum 8 l er).2.2 ∧ w.grownBy w' (some g) := by
  have ht := reftake_any B g l er 8 w hr (by omega)
  have hlen := rdTake_len 8 l er
  rw [rdNum_take]
  generalize rdTake 8 l er = q at ht hlen
  obtain ⟨t, l', er'⟩ := q
  have ht8 : t.length ≤ 8 := by
    rcases hlen with h | h
    · simp only at h; omega
    · simp only at h; subst h; simp
  have HT := Lib.hid ht
  clear ht hlen hr
  go_enter Try.func21, Try.ntmps21
  go_wp2_with fail
  refine HT.out.mono ?_
  rintro e w1 ⟨A, m, c, rfl, hs, hr1, hg1⟩
  have hml := hs.len
  have HML := Lib.hid hml
  have hm8 : m ≤ 8 := by omega
  clear HT hml
  go_wp2
  go_loop [3, 5] (fun u i => ∃ j : Nat, j ≤ m ∧ i = .int .i64 ((j : Int) - 1) ∧ u = .int .u64 (leNat (t.drop j) : Nat)) (fun _ i => (intOf i + 1).toNat)
  case atStart => exact ⟨m, Nat.le_refl _, rfl, by rw [List.drop_of_length_le (by have := HML.out; omega)]; rfl⟩
  case round =>
    obtain ⟨j, hj, rfl, rfl⟩ := hrel
    by_cases hlt : 0 < j
    · obtain ⟨b, o, rfl, _, hc⟩ := hs.spot (by omega)
      obtain ⟨j, rfl⟩ : ∃ j', j = j' + 1 := ⟨j - 1, by omega⟩
      have hjl : j < t.length := by have := HML.out; omega
      have hcj : w1.cell? ⟨b, o + j, none⟩ = some (.int .u8 (t[j].toNat : Int)) := hc j hjl
      have hlt8 := leNat_lt (t.drop (j + 1))
      have hp8 : (2 : Nat) ^ (8 * (t.drop (j + 1)).length) ≤ 2 ^ 56 := Nat.pow_le_pow_right (by decide) (by rw [List.length_drop]; omega)
      have HO := Lib.hid (or_low (leNat (t.drop (j + 1))) t[j].toNat (by omega) t[j].toNat_lt)
      have HD := Lib.hid (leNat_drop t j hjl)
      clear hc hlt8 hp8 hs
      go_wp2
      go_round
      case rel => exact ⟨j, by omega, rfl, by rw [HO.out, HD.out]⟩
      case measure => simp [intOf]
    · obtain rfl : j = 0 := by omega
      go_wp2
      go_ret
      exact ⟨rfl, hr1, hg1⟩

set_option maxHeartbeats 1000000 in
theorem refbyte_any (B g : Nat) (l : List UInt8) (er : Int) (w : World) (hr : RL w B g l er) :
    Calls Try.prog 23 #[.pointer (some ⟨g, 0, none⟩)] w fun e w' => e = .returned (.int .i64 (rdNum 1 l er).1) ∧ RL w' B g (rdNum 1 l er).2.1 (rdNum 1 l er).2.2 ∧ w.grownBy w' (some g) := by
  have ht := reftake_any B g l er 1 w hr (by omega)
  have hlen := rdTake_len 1 l er
  rw [rdNum_take]
  generalize rdTake 1 l er = q at ht hlen
  obtain ⟨t, l', er'⟩ := q
  rcases hlen with h | h
  · obtain ⟨x, rfl⟩ : ∃ x, t = [x] := by
      match t, h with
      | [x], _ => exact ⟨x, rfl⟩
    have hw : wrap64 ((leNat [x] : Nat) : Int) = x.toNat := by
      have := x.toNat_lt
      have e1 : leNat [x] = x.toNat := by simp [leNat]
      rw [e1, wrap64_of _ (by omega) (by omega)]
    simp only [hw]
    have HT := Lib.hid ht
    clear ht hr hw h
    go_enter Try.func23, Try.ntmps23
    go_wp2_with fail
    refine HT.out.mono ?_
    rintro e w1 ⟨A, m, c, rfl, hs, hr1, hg1⟩
    clear HT
    obtain rfl : m = 1 := by have := hs.len; simpa using this.symm
    obtain ⟨b, o, rfl, _, hc⟩ := hs.spot (by omega)
    have hc0 : w1.cell? ⟨b, o, none⟩ = some (.int .u8 (x.toNat : Int)) := hc 0 (by simp)
    clear hc hs
    go_wp2
    go_ret
    exact ⟨ret_int (wrap64_of _ (by omega) (by have := x.toNat_lt; omega)), hr1, hg1⟩
  · simp only at h
    subst h
    have hw : wrap64 ((leNat [] : Nat) : Int) = 0 := by simp [leNat, wrap64]
    simp only [hw]
    have HT := Lib.hid ht
    clear ht hr hw
    go_enter Try.func23, Try.ntmps23
    go_wp2_with fail
    refine HT.out.mono ?_
    rintro e w1 ⟨A, m, c, rfl, hs, hr1, hg1⟩
    clear HT
    obtain rfl : m = 0 := by have := hs.len; simpa using this.symm
    clear hs
    go_wp2
    go_ret
    exact ⟨rfl, hr1, hg1⟩

theorem rdText_take (l : List UInt8) (er : Int) : rdText l er = if (rdTake 2 l er).1 = [] then ([], (rdTake 2 l er).2.1, (rdTake 2 l er).2.2) else rdTake (leNat (rdTake 2 l er).1) (rdTake 2 l er).2.1 0 := by
  unfold rdText
  by_cases h0 : er = 0
  · rw [if_pos h0]
    by_cases hl : 2 ≤ l.length
    · have e1 : rdTake 2 l er = (l.take 2, l.drop 2, 0) := by unfold rdTake; rw [if_pos h0, if_pos hl]
      rw [if_pos hl, e1, if_neg (by intro h; rw [List.take_eq_nil_iff] at h; rcases h with h | h <;> simp_all)]
      rfl
    · have e1 : rdTake 2 l er = ([], l, 8) := by unfold rdTake; rw [if_pos h0, if_neg hl]
      rw [if_neg hl, e1, if_pos rfl]
  · have e1 : rdTake 2 l er = ([], l, er) := by unfold rdTake; rw [if_neg h0]
    rw [if_neg h0, e1, if_pos rfl]
theorem rdTake_err (k : Nat) (l : List UInt8) (er : Int) (h : (rdTake k l er).1 ≠ []) : (rdTake k l er).2.2 = 0 := by
  unfold rdTake at h ⊢
  split
  · split
    · rfl
    · rename_i h1 h2; rw [if_pos h1, if_neg h2] at h; exact absurd rfl h
  · rename_i h1; rw [if_neg h1] at h; exact absurd rfl h

theorem refnew_any (B : Nat) (A : Option Addr) (n cap : Nat) (l : List UInt8) (w : World) (hs : Shows w B A n cap l) (hB : B ≤ w.heap.size) (hn : n ≤ 1000000) :
    Calls Try.prog 18 #[.slice A n cap] w fun e w' => e = .returned (.pointer (some ⟨w.heap.size, 0, none⟩)) ∧ RL w' B w.heap.size l 0 ∧ w.heap.size < w'.heap.size ∧ Below w.heap.size w w' := by
  have hb : ∀ o, Below w.heap.size w (w.alloc o) := fun o => (Below.refl _ _).alloc (Nat.le_refl _) o
  have HB := Lib.hid hb
  have HS := Lib.hid hs
  clear hs hb
  go_enter Try.func18, Try.ntmps18
  go_wp2
  go_ret
  exact ⟨rfl, ⟨l, 0, ⟨A, n, cap, heap_alloc_new w _, HS.out.below ((HB.out _).mono hB), Nat.zero_le _, hB, hn⟩, by simp⟩, by simp, HB.out _⟩

theorem reffail_any (B g : Nat) (l : List UInt8) (er f : Int) (w : World) (hr : RL w B g l er) :
    Calls Try.prog 27 #[.pointer (some ⟨g, 0, none⟩), .int .i64 f] w fun e w' => e = .returned (.tuple #[]) ∧ RL w' B g l (rdFail f er) ∧ w.grownBy w' (some g) := by
  obtain ⟨bs, p, hr, rfl⟩ := hr
  have HR := Lib.hid hr
  obtain ⟨A, n, cap, hg, _⟩ := hr
  have c2 : w.cell? ⟨g, 2, none⟩ = some (.int .i64 er) := by rw [cell_of_row w g 2 _ _ (0, 0) hg]; rfl
  have f2 : w.frozen? ⟨g, 2, none⟩ = false := by simp [World.frozen?, hg]
  clear hg
  by_cases h0 : er = 0
  · subst h0
    rw [rdFail_ok]
    go_enter Try.func27, Try.ntmps27
    go_wp2
    go_end0
    exact ⟨rfl, ⟨bs, p, HR.out.setErr f, rfl⟩, grow_set _ _ _ _⟩
  · rw [rdFail_err _ h0]
    have hb : (er == 0) = false := by simpa using h0
    clear h0
    go_enter Try.func27, Try.ntmps27
    go_wp2
    go_end0
    exact ⟨rfl, ⟨bs, p, HR.out, rfl⟩, grow_refl _ _⟩

set_option maxHeartbeats 1000000 in
theorem refend_any (B g : Nat) (l : List UInt8) (er : Int) (w : World) (hr : RL w B g l er) :
    Calls Try.prog 29 #[.pointer (some ⟨g, 0, none⟩)] w fun e w' => e = .returned (.int .i64 (rdEnd l er)) ∧ ∃ q, w' = w.drewN q := by
  obtain ⟨bs, p, hr, rfl⟩ := hr
  have hle := hr.le.2
  obtain ⟨A, n, cap, hg, hs, hp, hB, hn⟩ := hr
  have c0 : w.cell? ⟨g, 0, none⟩ = some (.slice A n cap) := by rw [cell_of_row w g 0 _ _ (0, 0) hg]; rfl
  have c1 : w.cell? ⟨g, 1, none⟩ = some (.int .i64 p) := by rw [cell_of_row w g 1 _ _ (0, 0) hg]; rfl
  have c2 : w.cell? ⟨g, 2, none⟩ = some (.int .i64 er) := by rw [cell_of_row w g 2 _ _ (0, 0) hg]; rfl
  have hl := hs.len
  clear hg hs
  by_cases h0 : er = 0
  · subst h0
    by_cases hm : p < n
    · rw [rdEnd_more (by rw [List.length_drop]; omega)]
      have hlt : (p : Int) < n := by omega
      clear hl hle hp hm
      go_enter Try.func29, Try.ntmps29
      go_wp2
      first
        | go_quiet (fail)
        | fail "the region"
      go_wp2
      go_ret
      exact ⟨rfl, _, rfl⟩
    · have hd : bs.drop p = [] := List.drop_of_length_le (by omega)
      rw [hd, rdEnd_ok]
      have hlt : decide ((p : Int) < n) = false := by simp; omega
      have hlt2 : decide (p < n) = false := by simp; omega
      clear hl hle hp hm hd
      go_enter Try.func29, Try.ntmps29
      go_wp2
      first
        | go_quiet (fail)
        | fail "the region"
      go_wp2
      go_ret
      exact ⟨rfl, _, rfl⟩
  · rw [rdEnd_err _ h0]
    have hb : (er == 0) = false := by simpa using h0
    clear hl hle hp h0
    go_enter Try.func29, Try.ntmps29
    go_wp2
    first
      | go_quiet (fail)
      | fail "the region"
    go_wp2
    go_ret
    exact ⟨rfl, _, rfl⟩

set_option maxHeartbeats 1000000 in
theorem reftext_no (B g : Nat) (l : List UInt8) (er : Int) (w : World) (hr : RL w B g l er) (h : (rdTake 2 l er).1 = []) :
    Calls Try.prog 25 #[.pointer (some ⟨g, 0, none⟩)] w fun e w' => e = .returned (.string ⟨#[]⟩) ∧ RL w' B g (rdTake 2 l er).2.1 (rdTake 2 l er).2.2 ∧ w.grownBy w' (some g) := by
  have ht := reftake_any B g l er 2 w hr (by omega)
  rw [h] at ht
  generalize rdTake 2 l er = q at ht
  obtain ⟨t, l', er'⟩ := q
  have HT := Lib.hid ht
  clear ht hr h
  go_enter Try.func25, Try.ntmps25
  go_wp2_with fail
  refine HT.out.mono ?_
  rintro e w1 ⟨A, m, c, rfl, hs, hr1, hg1⟩
  clear HT
  obtain rfl : m = 0 := by have := hs.len; simpa using this.symm
  clear hs
  go_wp2
  go_ret
  exact ⟨rfl, hr1, hg1⟩

set_option maxHeartbeats 1000000 in
theorem reftext_yes (B g : Nat) (l l' : List UInt8) (er er' : Int) (x y : UInt8) (w : World) (hr : RL w B g l er) (h : rdTake 2 l er = ([x, y], l', er')) :
    Calls Try.prog 25 #[.pointer (some ⟨g, 0, none⟩)] w fun e w' => e = .returned (.string ⟨(rdTake (leNat [x, y]) l' er').1.toArray⟩) ∧ RL w' B g (rdTake (leNat [x, y]) l' er').2.1 (rdTake (leNat [x, y]) l' er').2.2 ∧ w.grownBy w' (some g) := by
  have ht := reftake_any B g l er 2 w hr (by omega)
  have hgB := hr.lt
  rw [h] at ht
  have hx := x.toNat_lt
  have hy := y.toNat_lt
  have hk : leNat [x, y] = x.toNat + 256 * y.toNat := by simp [leNat]
  have hk2 := fun (W : World) (h : RL W B g l' er') => reftake_any B g l' er' (leNat [x, y]) W h (by omega)
  generalize leNat [x, y] = k at hk hk2 ⊢
  generalize rdTake k l' er' = q at hk2 ⊢
  obtain ⟨t, l2, er2⟩ := q
  have HT := Lib.hid ht
  have HK2 := Lib.hid hk2
  have hkk : (x.toNat : Int) + 256 * (y.toNat : Int) = (k : Int) := by omega
  have hsum : IntKind.i64.wrap (IntKind.i64.wrap (x.toNat : Int) + IntKind.i64.wrap (256 * IntKind.i64.wrap (y.toNat : Int))) = (k : Int) := by
    rw [IntKind.wrap_i64, IntKind.wrap_i64, IntKind.wrap_i64, IntKind.wrap_i64]
    omega
  have HSUM := Lib.hid hsum
  clear ht hr h hk2 hk hkk hsum
  go_enter Try.func25, Try.ntmps25
  go_wp2_with fail
  refine HT.out.mono ?_
  rintro e w1 ⟨A, m, c, rfl, hs, hr1, hg1⟩
  clear HT
  obtain rfl : m = 2 := by have := hs.len; simpa using this.symm
  obtain ⟨b, o, rfl, hbB, hc⟩ := hs.spot (by omega)
  have hc0 : w1.cell? ⟨b, o, none⟩ = some (.int .u8 (x.toNat : Int)) := hc 0 (by simp)
  have hc1 : w1.cell? ⟨b, o + 1, none⟩ = some (.int .u8 (y.toNat : Int)) := hc 1 (by simp)
  have hne : some b ≠ some g := by intro h; injection h with h; omega
  clear hc hs
  go_wp2
  first
    | go_region_with ((go_at_call 35; rw [HSUM.out]; refine (HK2.out _ hr1.drew).mono ?_; rintro _ wa ⟨A2, m2, c2, rfl, hs2, hr2, hg2⟩; have hcv := hs2.conv Try.underlying22 Try.underlying5 Try.underlying9))
    | fail "the region"
  all_goals
    go_wp2
    go_ret
    exact ⟨rfl, hr2, grow_trans hg1 (drew_grow hg2) (.inl rfl)⟩

theorem reftext_any (B g : Nat) (l : List UInt8) (er : Int) (w : World) (hr : RL w B g l er) :
    Calls Try.prog 25 #[.pointer (some ⟨g, 0, none⟩)] w fun e w' => e = .returned (.string ⟨(rdText l er).1.toArray⟩) ∧ RL w' B g (rdText l er).2.1 (rdText l er).2.2 ∧ w.grownBy w' (some g) := by
  rw [rdText_take]
  by_cases h : (rdTake 2 l er).1 = []
  · rw [if_pos h]
    exact reftext_no B g l er w hr h
  · rw [if_neg h]
    have hlen := rdTake_len 2 l er
    have herr := rdTake_err 2 l er h
    rcases hlen with hl | hl
    · obtain ⟨t, l', er', hq⟩ : ∃ t l' er', rdTake 2 l er = (t, l', er') := ⟨_, _, _, rfl⟩
      rw [hq] at hl herr ⊢
      simp only at hl herr ⊢
      subst herr
      match t, hl with
      | [x, y], _ => exact reftext_yes B g l l' er 0 x y w hr hq
    · exact absurd hl h
end Go.Proofs.Ytjnpadokmhhffaa
