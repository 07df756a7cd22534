/- The walk of the law CodeFails: the first error stays, and behind it nothing is read. -/
import Derived.Test.YtjnpadokmhhffaaReadKit
namespace Go.Proofs.Ytjnpadokmhhffaa
open Go.RowKit Wd Nm

set_option maxHeartbeats 1000000 in
theorem codeFails_walk (A : Option Addr) (n cap : Nat) (l : List UInt8) (e f : Int) (w : World) (hs : Shows w w.heap.size A n cap l) (he : (Lit.int .i64 e).wf = true) (hf : (Lit.int .i64 f).wf = true) :
    Calls Try.prog 6 #[.slice A n cap, .int .i64 e, .int .i64 f] w fun e w' => e = .returned (.bool true) ∧ Below w.heap.size w w' := by
  obtain ⟨e0, e1⟩ := i64_of_wf he
  obtain ⟨f0, f1⟩ := i64_of_wf hf
  have hl := hs.len
  clear he hf
  go_enter Try.func6, Try.ntmps6
  go_wp2_with fail
  refine (known_any _).mono ?_
  rintro _ w1 ⟨rfl, hb1⟩
  have hs1 := (hs.below hb1).more hb1.size
  clear hs
  by_cases hn : 100 < n
  · clear hl
    go_wp2
    go_ret
    exact ⟨rfl, hb1⟩
  · have hE : 1 + e % 22 ≠ 0 := by have := Int.emod_nonneg e (show (22 : Int) ≠ 0 by decide); omega
    have HE := Lib.hid hE
    have HL := Lib.hid hl
    have HN := Lib.hid (new_any A n cap l w1 hs1 (by omega))
    clear hE hl hs1
    go_wp2_with fail
    refine (within_any _ _ _ (by omega) (by omega)).mono ?_
    rintro _ w2 ⟨rfl, rfl⟩
    go_wp2_with fail
    refine (within_any _ _ _ (by omega) (by omega)).mono ?_
    rintro _ w2 ⟨rfl, rfl⟩
    go_wp2_with fail
    refine HN.out.mono ?_
    rintro _ w2 ⟨g, rfl, hr2, hg2, hb⟩
    have hw1 := hb1.size
    have hb2 := step_below hb1 hb
    clear hb hb1 HN
    go_wp2_with fail
    refine (fail_any g l 0 0 _ hr2).mono ?_
    rintro _ w3 ⟨rfl, hr3, hb⟩
    have hb3 := step_grow hb2 hb (by omega)
    rw [rdFail_ok] at hr3
    clear hr2 hb hb2
    go_wp2_with fail
    refine (end_any g l 0 _ hr3).mono ?_
    rintro _ w4 ⟨rfl, rfl⟩
    generalize hEE : 1 + e % 22 = E
    generalize hFF : 1 + f % 22 = F
    have HE2 := HE.out
    rw [hEE] at HE2
    have HE := Lib.hid HE2
    clear HE2 hEE hFF
    go_wp2_with fail
    refine (fail_any g l 0 _ _ hr3).mono ?_
    rintro _ w5 ⟨rfl, hr5, hb⟩
    have hb5 := step_grow hb3 hb (by omega)
    rw [rdFail_ok] at hr5
    clear hr3 hb hb3
    go_wp2_with fail
    refine (fail_any g l _ _ _ hr5).mono ?_
    rintro _ w6 ⟨rfl, hr6, hb⟩
    have hb6 := step_grow hb5 hb (by omega)
    rw [rdFail_err _ HE.out] at hr6
    have h7 := read_Int g l _ w6 hr6
    rw [rdNum_err _ _ HE.out] at h7
    have H7 := Lib.hid h7
    clear h7 hr5 hr6 hb hb5
    go_wp2_with fail
    refine H7.out.mono ?_
    rintro _ w7 ⟨rfl, hr7, hb⟩
    have hb7 := step_grow hb6 hb (by omega)
    have h8 := read_Text g l _ w7 hr7
    rw [rdText_err _ HE.out] at h8
    have H8 := Lib.hid h8
    clear h8 hr7 H7 hb hb6
    go_wp2_with fail
    refine H8.out.mono ?_
    rintro _ w8 ⟨rfl, hr8, hb⟩
    have hb8 := step_grow hb7 hb (by omega)
    have h9 := read_Byte g l _ w8 hr8
    rw [rdNum_err _ _ HE.out] at h9
    have H9 := Lib.hid h9
    clear h9 hr8 H8 hb hb7
    go_wp2_with fail
    refine H9.out.mono ?_
    rintro _ w9 ⟨rfl, hr9, hb⟩
    have hb9 := step_grow hb8 hb (by omega)
    clear H9 hb hb8
    go_wp2_with fail
    refine (new_nil _).mono ?_
    rintro _ w10 ⟨gx, rfl, hx10, hgx, hb⟩
    have hb10 := step_below hb9 hb
    have hr10 := hr9.grown (below_grow hb none) (by intro k hk; cases hk)
    have hlt : g < gx := Nat.lt_of_lt_of_le hr9.lt hgx
    have h11 := read_Int gx [] 0 w10 hx10
    rw [rdNum_cut (by simp)] at h11
    have H11 := Lib.hid h11
    clear h11 hr9 hx10 hb hb9 hgx
    go_wp2_with fail
    refine H11.out.mono ?_
    rintro _ w11 ⟨rfl, hx11, hb⟩
    have hb11 := step_grow hb10 hb (by omega)
    have hr11 := hr10.grown hb (by intro k hk; injection hk; omega)
    clear H11 hr10 hb hb10
    go_wp2_with fail
    refine (fail_any gx [] 8 _ _ hx11).mono ?_
    rintro _ w12 ⟨rfl, hx12, hb⟩
    have hb12 := step_grow hb11 hb (by omega)
    have hr12 := hr11.grown hb (by intro k hk; injection hk; omega)
    rw [rdFail_err _ (by omega)] at hx12
    clear hx11 hr11 hb hb11 hlt
    have h13 := end_any g l E w12 hr12
    rw [rdEnd_err _ HE.out] at h13
    have h14 := end_any gx [] 8 w12 hx12
    rw [rdEnd_err _ (by omega)] at h14
    have H13 := Lib.hid h13
    have H14 := Lib.hid h14
    clear h13 h14 hr12 hx12
    have hl := HL.out
    by_cases hz : n = 0
    · subst hz
      obtain rfl : l = [] := List.eq_nil_of_length_eq_zero hl
      rw [rdEnd_ok]
      clear hl HL
      go_wp2_with fail
      refine H13.out.mono ?_
      rintro _ w13 ⟨rfl, rfl⟩
      go_wp2_with fail
      refine H14.out.mono ?_
      rintro _ w13 ⟨rfl, rfl⟩
      clear H13 H14
      go_wp2
      go_ret
      exact ⟨rfl, hb12⟩
    · rw [rdEnd_more (by omega)]
      have hz' : ((n : Int) == 0) = false := by simp; omega
      clear hl HL hz
      go_wp2_with fail
      refine H13.out.mono ?_
      rintro _ w13 ⟨rfl, rfl⟩
      go_wp2_with fail
      refine H14.out.mono ?_
      rintro _ w13 ⟨rfl, rfl⟩
      clear H13 H14
      go_wp2
      go_ret
      exact ⟨rfl, hb12⟩
end Go.Proofs.Ytjnpadokmhhffaa
