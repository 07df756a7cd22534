/- The walk of the law CodeLess: a text that says it is longer than what is left is cut, and so is a number of less than eight bytes. -/
import Derived.Test.YtjnpadokmhhffaaReadKit
namespace Go.Proofs.Ytjnpadokmhhffaa
open Go.RowKit Wd Nm

set_option maxRecDepth 100000 in
set_option maxHeartbeats 1000000 in
theorem codeLess_walk (m : Int) (A : Option Addr) (n cap : Nat) (l : List UInt8) (w : World) (_hm : (Lit.int .i64 m).wf = true) (hs : Shows w w.heap.size A n cap l) :
    Calls Try.prog 9 #[.int .i64 m, .slice A n cap] w fun e w' => e = .returned (.bool true) ∧ Below w.heap.size w w' := by
  have hl := hs.len
  obtain ⟨i0, hi0, hz0, hz1, hz2⟩ := info_parts infoByte
  go_enter Try.func9, Try.ntmps9
  go_wp2_with fail
  refine (known_any _).mono ?_
  rintro _ w1 ⟨rfl, hb1⟩
  have hs1 := (hs.below hb1).more hb1.size
  clear hs
  by_cases hn : 200 < n
  · clear hl
    go_wp2
    go_ret
    exact ⟨rfl, hb1⟩
  · have HL := Lib.hid hl
    clear hl
    go_wp2_with fail
    refine (within_any _ _ _ (by omega) (by omega)).mono ?_
    rintro _ w2 ⟨rfl, rfl⟩
    have h300 : 0 ≤ m % 300 ∧ m % 300 < 300 := ⟨Int.emod_nonneg _ (by decide), Int.emod_lt_of_pos _ (by decide)⟩
    obtain ⟨k, hk⟩ : ∃ k : Nat, m % 300 = k := ⟨(m % 300).toNat, by omega⟩
    rw [hk] at h300 ⊢
    obtain ⟨_, h300b⟩ := h300
    clear hk
    have hT : ((n : Int) + 1 + k) = ((n + 1 + k : Nat) : Int) := by omega
    obtain ⟨hle, hle0, hle1⟩ := leb_two ((n : Int) + 1 + k) (by omega) (by omega)
    have HO := Lib.hid (own_two w1 w.heap.size _ _ _ _ hle0 hle1 hb1.size)
    have hcut := rdText_cut (n + 1 + k) l (by have := HL.out; omega) (by omega)
    rw [← hT, hle] at hcut
    simp only [List.cons_append, List.nil_append] at hcut
    have HC := Lib.hid hcut
    have HB := Lib.hid (hb1.alloc hb1.size (.cells #[Value.int .u8 (((n : Int) + 1 + k) % 256), Value.int .u8 (((n : Int) + 1 + k) / 256)] 5))
    have HS := Lib.hid (hs1.below ((Below.refl _ _).alloc (Nat.le_refl _) (.cells #[Value.int .u8 (((n : Int) + 1 + k) % 256), Value.int .u8 (((n : Int) + 1 + k) / 256)] 5)))
    clear hT hle hle0 hle1 hcut hs1
    go_wp2_with (at_builtin; refine wpList_ap _ rfl (.tmp 25) (.tmp 26) 22 22 rfl w.heap.size 5 i0 Try.underlying22 hi0 hz0 hz1 hz2 _ 2 2 _ rfl HO.out _ n l rfl (HS.out.src Try.underlying22) ?c2 ?c3 ?_)
    case c2 => omega
    case c3 => exact HB.out.size
    intro A2 c2 w2 hown2 _ hg2 _
    have hb2 := HB.out.grown hg2 HB.out.size (by intro k hk; injection hk with hk; have := hb1.size; omega)
    have hs2 := Shows.of_own hown2
    have hw12 : w1.heap.size < w2.heap.size := by have := hg2.size; simp at this; omega
    have hsx := HS.out.grown hg2 (by simp) (by intro k hk; injection hk with hk; omega)
    clear hg2 hown2 HB HO HS
    go_wp2_with fail
    refine (new_any A2 (2 + n) c2 _ w2 hs2 (by omega)).mono ?_
    rintro _ w3 ⟨g, rfl, hr3, hg3, hb⟩
    have hb3 := step_below hb2 hb
    have hg : w.heap.size ≤ g := by have := hb2.size; omega
    have hsx3 := (hsx.below (hb.mono (by have := hb2.size; omega))).more (show w1.heap.size ≤ g by omega)
    have hlt3 := hr3.lt
    have h4 := read_Text g _ 0 w3 hr3
    rw [HC.out] at h4
    have H4 := Lib.hid h4
    clear h4 hr3 hb hs2 hsx hb2 HC hg3
    go_wp2_with fail
    refine H4.out.mono ?_
    rintro _ w4 ⟨rfl, hr4, hb⟩
    have hb4 := step_grow hb3 hb hg
    have hsx4 := (hsx3.grown hb (by omega) (by intro k hk; injection hk with hk; omega)).more (show g ≤ w4.heap.size by have := hr4.lt; omega)
    clear H4 hb hb3 hsx3
    have fin : ∀ j : Nat, j ≤ n → j < 8 → Calls Try.prog 17 #[.slice A j cap] w4 fun e w' => ∃ gx, e = .returned (.pointer (some ⟨gx, 0, none⟩)) ∧ Rd w' gx (l.take j) 0 ∧ w4.heap.size ≤ gx ∧ Below w4.heap.size w4 w' :=
      fun j h1 _ => new_any A j cap _ w4 (hsx4.take h1) (by omega)
    have FIN := Lib.hid fin
    have hcap := hsx4.le
    clear fin hsx4 hlt3
    have rest : ∀ (j gx : Nat) (w5 : World), j < 8 → Rd w5 gx (l.take j) 0 → Calls Try.prog 20 #[.pointer (some ⟨gx, 0, none⟩)] w5 fun e w' => e = .returned (.int .i64 0) ∧ Rd w' gx (l.take j) 8 ∧ w5.grownBy w' (some gx) := by
      intro j gx w5 hj hr
      have h := read_Int gx _ 0 w5 hr
      rw [rdNum_cut (by rw [List.length_take]; omega)] at h
      exact h
    have REST := Lib.hid rest
    clear rest
    by_cases h7 : n ≤ 7
    · go_wp2_with fail
      refine (FIN.out n (Nat.le_refl _) (by omega)).mono ?_
      rintro _ w5 ⟨gx, rfl, hx5, hgx, hb⟩
      have hb5 := step_below hb4 hb
      have hr5 := hr4.grown (below_grow hb none) (by intro k hk; cases hk)
      have hlt : g < gx := Nat.lt_of_lt_of_le hr4.lt hgx
      clear hb hb4 hr4 FIN
      go_wp2_with fail
      refine (REST.out n gx w5 (by omega) hx5).mono ?_
      rintro _ w6 ⟨rfl, hx6, hb⟩
      have hb6 := step_grow hb5 hb (by omega)
      have H7 := Lib.hid (end_any g l 8 w6 (hr5.grown hb (by intro k hk; injection hk with hk; omega)))
      have H8 := Lib.hid (end_any gx _ 8 w6 hx6)
      clear hb hb5 hr5 hx5 hx6 REST
      go_wp2_with fail
      refine H7.out.mono ?_
      rintro _ w7 ⟨rfl, rfl⟩
      rw [rdEnd_err _ (by omega)]
      go_wp2_with fail
      refine H8.out.mono ?_
      rintro _ w7 ⟨rfl, rfl⟩
      rw [rdEnd_err _ (by omega)]
      clear H7 H8
      go_wp2
      go_ret
      exact ⟨rfl, hb6⟩
    · go_wp2_with fail
      refine (FIN.out 7 (by omega) (by omega)).mono ?_
      rintro _ w5 ⟨gx, rfl, hx5, hgx, hb⟩
      have hb5 := step_below hb4 hb
      have hr5 := hr4.grown (below_grow hb none) (by intro k hk; cases hk)
      have hlt : g < gx := Nat.lt_of_lt_of_le hr4.lt hgx
      clear hb hb4 hr4 FIN
      go_wp2_with fail
      refine (REST.out 7 gx w5 (by omega) hx5).mono ?_
      rintro _ w6 ⟨rfl, hx6, hb⟩
      have hb6 := step_grow hb5 hb (by omega)
      have H7 := Lib.hid (end_any g l 8 w6 (hr5.grown hb (by intro k hk; injection hk with hk; omega)))
      have H8 := Lib.hid (end_any gx _ 8 w6 hx6)
      clear hb hb5 hr5 hx5 hx6 REST
      go_wp2_with fail
      refine H7.out.mono ?_
      rintro _ w7 ⟨rfl, rfl⟩
      rw [rdEnd_err _ (by omega)]
      go_wp2_with fail
      refine H8.out.mono ?_
      rintro _ w7 ⟨rfl, rfl⟩
      rw [rdEnd_err _ (by omega)]
      clear H7 H8
      go_wp2
      go_ret
      exact ⟨rfl, hb6⟩
end Go.Proofs.Ytjnpadokmhhffaa
