/- Contracts for package code's Reader: Text, Fail, End; New, which copies the bytes. -/
import Derived.Test.YtjnpadokmhhffaaReadOps
namespace Go.Proofs.Ytjnpadokmhhffaa
open Go.RowKit Wd Nm

theorem leNat2_lt (l : List UInt8) : leNat (l.take 2) < 65536 := by
  have h := leNat_lt (l.take 2)
  have hl : (l.take 2).length ≤ 2 := List.length_take_le _ _
  have : (2 : Nat) ^ (8 * (l.take 2).length) ≤ 2 ^ 16 := Nat.pow_le_pow_right (by decide) (by omega)
  omega
theorem srclittle2 (g : Nat) (l : List UInt8) (er : Int) (w : World) (hr : Rd w g l er) (hn : 2 ≤ l.length) :
    Calls Try.prog 42 #[.pointer (some ⟨g, 0, none⟩), .int .i64 2] w fun e w' => e = .returned (.tuple #[.int .i64 (leNat (l.take 2) : Nat), .int .i64 0]) ∧ Rd w' g (l.drop 2) er ∧ w.grownBy w' (some g) := by
  have h := srclittle_yes g l er 2 w hr (by omega) hn
  have hlt := leNat2_lt l
  rw [wrap64_of _ (by omega) (by omega)] at h
  exact h

set_option maxHeartbeats 400000 in
theorem text_full (g : Nat) (l : List UInt8) (er : Int) (w : World) (hr : Rd w g l er) (hn : 2 ≤ l.length) (hm : leNat (l.take 2) ≤ (l.drop 2).length) :
    Calls Try.prog 38 #[.pointer (some ⟨g, 0, none⟩)] w fun e w' => e = .returned (.tuple #[.string ⟨((l.drop 2).take (leNat (l.take 2))).toArray⟩, .int .i64 0]) ∧ Rd w' g ((l.drop 2).drop (leNat (l.take 2))) er ∧ w.grownBy w' (some g) := by
  have ht := srclittle2 g l er w hr hn
  have hlt := leNat2_lt l
  have hlim : leNat (l.take 2) ≤ 100000 := by omega
  have hk := fun (w : World) (hr : Rd w g (l.drop 2) er) => take_yes g (l.drop 2) er (leNat (l.take 2)) w hr hlim hm
  clear hn hr hm hlt hlim
  go_enter Try.func38, Try.ntmps38
  go_wp2_with fail
  refine ht.mono ?_
  clear ht
  rintro e w1 ⟨rfl, hr1, hg1⟩
  go_wp2_with fail
  refine (hk _ hr1).mono ?_
  clear hk hr1
  rintro e w2 ⟨A, cap, rfl, hs2, hr2, hg2⟩
  have hcv := hs2.conv Try.underlying22 Try.underlying5 Try.underlying9
  clear hs2
  go_wp2
  go_ret2
  exact ⟨rfl, hr2, grow_trans hg1 hg2 (.inl rfl)⟩
set_option maxHeartbeats 400000 in
theorem text_cut (g : Nat) (l : List UInt8) (er : Int) (w : World) (hr : Rd w g l er) (hn : 2 ≤ l.length) (hm : (l.drop 2).length < leNat (l.take 2)) :
    Calls Try.prog 38 #[.pointer (some ⟨g, 0, none⟩)] w fun e w' => e = .returned (.tuple #[.string ⟨#[]⟩, .int .i64 8]) ∧ Rd w' g (l.drop 2) er ∧ w.grownBy w' (some g) := by
  have ht := srclittle2 g l er w hr hn
  have hlt := leNat2_lt l
  have hlim : leNat (l.take 2) ≤ 100000 := by omega
  have hk := fun (w : World) (hr : Rd w g (l.drop 2) er) => take_no g (l.drop 2) er (leNat (l.take 2)) w hr hlim hm
  have hcv := fun w => Lib.run_convert_nil_bytes (P := Try.prog) w 22 9 5 0 Try.underlying22 Try.underlying5 Try.underlying9
  clear hn hr hm hlt hlim
  go_enter Try.func38, Try.ntmps38
  go_wp2_with fail
  refine ht.mono ?_
  clear ht
  rintro e w1 ⟨rfl, hr1, hg1⟩
  go_wp2_with fail
  refine (hk _ hr1).mono ?_
  clear hk
  rintro e w2 ⟨rfl, rfl⟩
  go_wp2
  go_ret2
  exact ⟨rfl, hr1, hg1⟩
set_option maxHeartbeats 400000 in
theorem text_none (g : Nat) (l : List UInt8) (er : Int) (w : World) (hr : Rd w g l er) (hn : l.length < 2) :
    Calls Try.prog 38 #[.pointer (some ⟨g, 0, none⟩)] w fun e w' => e = .returned (.tuple #[.string ⟨#[]⟩, .int .i64 8]) ∧ w = w' := by
  have ht := srclittle_no g l er 2 w hr (by omega) hn
  clear hn hr
  go_enter Try.func38, Try.ntmps38
  go_wp2_with fail
  refine ht.mono ?_
  clear ht
  rintro e w1 ⟨rfl, rfl⟩
  go_wp2
  go_ret2
  exact ⟨rfl, rfl⟩

/-- next over text, where text answers no error. -/
theorem next_text_ok (g : Nat) (s : ByteArray) (l : List UInt8) (w : World) (c1 : w.cell? ⟨g, 1, none⟩ = some (.int .i64 0))
    (ht : Calls Try.prog 38 #[.pointer (some ⟨g, 0, none⟩)] w fun e w' => e = .returned (.tuple #[.string s, .int .i64 0]) ∧ Rd w' g l 0 ∧ w.grownBy w' (some g)) :
    Calls Try.prog 37 #[.pointer (some ⟨g, 1, none⟩), .func (.func 38) #[.pointer (some ⟨g, 0, none⟩)] #[]] w fun e w' => e = .returned (.string s) ∧ Rd w' g l 0 ∧ w.grownBy w' (some g) := by
  go_enter Try.func37, Try.ntmps37
  go_wp2_with fail
  refine (sound_yes _ _ c1).mono ?_
  rintro e w1 ⟨rfl, rfl⟩
  go_wp2_with fail
  refine ht.mono ?_
  rintro e w1 ⟨rfl, hr1, hg1⟩
  clear ht c1
  go_wp2
  go_ret
  exact ⟨rfl, hr1, hg1⟩
/-- next over text, where text is cut. -/
theorem next_text_cut (g : Nat) (l : List UInt8) (w : World) (c1 : w.cell? ⟨g, 1, none⟩ = some (.int .i64 0))
    (ht : Calls Try.prog 38 #[.pointer (some ⟨g, 0, none⟩)] w fun e w' => e = .returned (.tuple #[.string ⟨#[]⟩, .int .i64 8]) ∧ Rd w' g l 0 ∧ w.grownBy w' (some g)) :
    Calls Try.prog 37 #[.pointer (some ⟨g, 1, none⟩), .func (.func 38) #[.pointer (some ⟨g, 0, none⟩)] #[]] w fun e w' => e = .returned (.string ⟨#[]⟩) ∧ Rd w' g l 8 ∧ w.grownBy w' (some g) := by
  have hnote := fun (w : World) (hr : Rd w g l 0) => note_yes g l 8 w hr
  go_enter Try.func37, Try.ntmps37
  go_wp2_with fail
  refine (sound_yes _ _ c1).mono ?_
  rintro e w1 ⟨rfl, rfl⟩
  go_wp2_with fail
  refine ht.mono ?_
  rintro e w1 ⟨rfl, hr1, hg1⟩
  clear ht c1
  go_wp2_with fail
  refine (hnote _ hr1).mono ?_
  rintro e w2 ⟨rfl, hr2, hg2⟩
  clear hnote hr1
  go_wp2
  go_ret
  exact ⟨rfl, hr2, grow_trans hg1 hg2 (.inl rfl)⟩
theorem next_text_no (g : Nat) (er : Int) (w : World) (c1 : w.cell? ⟨g, 1, none⟩ = some (.int .i64 er)) (h : (er == 0) = false) :
    Calls Try.prog 37 #[.pointer (some ⟨g, 1, none⟩), .func (.func 38) #[.pointer (some ⟨g, 0, none⟩)] #[]] w fun e w' => e = .returned (.string ⟨#[]⟩) ∧ w = w' := by
  have hs := sound_no g er w c1 h
  clear c1 h
  go_enter Try.func37, Try.ntmps37
  go_wp2_with fail
  refine hs.mono ?_
  rintro e w1 ⟨rfl, rfl⟩
  clear hs
  go_wp2
  go_ret
  exact ⟨rfl, rfl⟩
theorem next_text (g : Nat) (l : List UInt8) (er : Int) (w : World) (hr : Rd w g l er) :
    Calls Try.prog 37 #[.pointer (some ⟨g, 1, none⟩), .func (.func 38) #[.pointer (some ⟨g, 0, none⟩)] #[]] w fun e w' => e = .returned (.string ⟨(rdText l er).1.toArray⟩) ∧ Rd w' g (rdText l er).2.1 (rdText l er).2.2 ∧ w.grownBy w' (some g) := by
  by_cases h0 : er = 0
  · subst h0
    by_cases hn : 2 ≤ l.length
    · by_cases hm : leNat (l.take 2) ≤ (l.drop 2).length
      · have e1 : rdText l 0 = ((l.drop 2).take (leNat (l.take 2)), (l.drop 2).drop (leNat (l.take 2)), 0) := by unfold rdText rdTextOf; rw [if_pos rfl, if_pos hn, if_pos hm]
        rw [e1]
        exact next_text_ok g _ _ w hr.cell1 (text_full g l 0 w hr hn hm)
      · have e1 : rdText l 0 = ([], l.drop 2, 8) := by unfold rdText rdTextOf; rw [if_pos rfl, if_pos hn, if_neg hm]
        rw [e1]
        exact next_text_cut g _ w hr.cell1 (text_cut g l 0 w hr hn (by omega))
    · have e1 : rdText l 0 = ([], l, 8) := by unfold rdText; rw [if_pos rfl, if_neg hn]
      rw [e1]
      exact next_text_cut g _ w hr.cell1 ((text_none g l 0 w hr (by omega)).mono (by rintro e w' ⟨rfl, rfl⟩; exact ⟨rfl, hr, grow_refl _ _⟩))
  · have e1 : rdText l er = ([], l, er) := by unfold rdText; rw [if_neg h0]
    rw [e1]
    exact (next_text_no g er w hr.cell1 (by simpa using h0)).mono (by rintro e w' ⟨rfl, rfl⟩; exact ⟨rfl, hr, grow_refl _ _⟩)
set_option maxHeartbeats 400000 in
theorem read_Text (g : Nat) (l : List UInt8) (er : Int) (w : World) (hr : Rd w g l er) :
    Calls Try.prog 24 #[.pointer (some ⟨g, 0, none⟩)] w fun e w' => e = .returned (.string ⟨(rdText l er).1.toArray⟩) ∧ Rd w' g (rdText l er).2.1 (rdText l er).2.2 ∧ w.grownBy w' (some g) := by
  have ht := next_text g l er w.drew hr.drew
  have hmf : ∀ (fn : Fn) (first cap : Array Value) (w : World), (Instr.makeFunc fn first cap).run Try.prog w = .ok (.func fn first cap) w := fun _ _ _ _ => rfl
  clear hr
  go_enter Try.func24, Try.ntmps24
  go_wp2
  go_region_with ((go_at_call 37; refine ht.mono ?_; rintro e w1 ⟨rfl, hr1, hg1⟩))
  all_goals (go_wp2; go_ret; exact ⟨rfl, hr1, drew_grow hg1⟩)

theorem fail_any (g : Nat) (l : List UInt8) (er f : Int) (w : World) (hr : Rd w g l er) :
    Calls Try.prog 26 #[.pointer (some ⟨g, 0, none⟩), .int .i64 f] w fun e w' => e = .returned (.tuple #[]) ∧ Rd w' g l (rdFail f er) ∧ w.grownBy w' (some g) := by
  by_cases h0 : er = 0
  · subst h0
    have e1 : rdFail f 0 = f := rfl
    rw [e1]
    have hn := note_yes g l f w hr
    clear hr e1
    go_enter Try.func26, Try.ntmps26
    go_wp2_with fail
    refine hn.mono ?_
    rintro e w1 ⟨rfl, hr1, hg1⟩
    clear hn
    go_wp2
    go_end0
    exact ⟨rfl, hr1, hg1⟩
  · have e1 : rdFail f er = er := by unfold rdFail; rw [if_neg h0]
    rw [e1]
    have hn := note_no g l er f w hr (by simpa using h0)
    clear e1 h0
    go_enter Try.func26, Try.ntmps26
    go_wp2_with fail
    refine hn.mono ?_
    rintro e w1 ⟨rfl, rfl⟩
    clear hn
    go_wp2
    go_end0
    exact ⟨rfl, hr, grow_refl _ _⟩
end Go.Proofs.Ytjnpadokmhhffaa
