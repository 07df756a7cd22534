/- Package flash: contracts of sets and blend. -/
import Derived.Test.YtolpiklhnafnbaaFlPower
import Derived.StillTailTactics
namespace Go.Proofs.Ytolpiklhnafnbaa
set_option maxRecDepth 100000
open Go.RowKit Wd Fm

theorem setsB_of {P N : List UInt8} {k : Nat} (hk : k < N.length) (h : N.getD k 0 &&& ~~~(P.getD k 0) ≠ 0) : setsB P N = true := by
  unfold setsB
  rw [List.any_eq_true]
  exact ⟨k, by simpa using hk, by simpa using h⟩
theorem setsB_not {P N : List UInt8} (h : ∀ k, k < N.length → N.getD k 0 &&& ~~~(P.getD k 0) = 0) : setsB P N = false := by
  unfold setsB
  rw [List.any_eq_false]
  intro k hk
  have := h k (by simpa using hk)
  rw [this]
  decide

set_option maxHeartbeats 400000 in
theorem sets_any (g o n cap G n2 cap2 : Nat) (P N : List UInt8) (w : World) (hP : Shows w w.heap.size (some ⟨g, o, none⟩) n cap P) (hN : Shows w w.heap.size (some ⟨G, 0, none⟩) n2 cap2 N) (hle : n2 ≤ n) (hn : n ≤ 1000000) :
    Calls Try.prog 41 #[.slice (some ⟨g, o, none⟩) n cap, .slice (some ⟨G, 0, none⟩) n2 cap2] w fun e w' => e = .returned (.bool (setsB P N)) ∧ w = w' := by
  have hPl := hP.len
  have hNl := hN.len
  have HC : ∀ j, j < n2 → w.cell? ⟨G, j, none⟩ = some (.int .u8 ((N.getD j 0).toNat : Int)) ∧ w.cell? ⟨g, o + j, none⟩ = some (.int .u8 ((P.getD j 0).toNat : Int)) := by
    intro j hj
    obtain ⟨g1, o1, e1, _, h1⟩ := hN.cells (by omega)
    injection e1 with e1
    injection e1 with e1 e2
    subst e1 e2
    obtain ⟨g2, o2, e3, _, h2⟩ := hP.cells (by omega)
    injection e3 with e3
    injection e3 with e3 e4
    subst e3 e4
    have := h1 j hj
    rw [Nat.zero_add] at this
    exact ⟨this, h2 j (by omega)⟩
  have HH := Lib.hid (And.intro HC hNl)
  obtain ⟨R, hR⟩ : ∃ R, setsB P N = R := ⟨_, rfl⟩
  rw [hR]
  have HR := Lib.hid hR
  clear hP hN HC hPl hNl hR
  go_enter Try.func41, Try.ntmps41
  go_wp2_with fail
  go_loop [9] (fun i => ∃ k : Nat, k ≤ n2 ∧ i = .int .i64 k ∧ Hid (∀ j, j < k → N.getD j 0 &&& ~~~(P.getD j 0) = 0)) (fun i => n2 - (intOf i).toNat)
  case atStart => exact ⟨0, by omega, rfl, Lib.hid (fun j hj => absurd hj (by omega))⟩
  case round =>
    obtain ⟨k, hk, rfl, hall⟩ := hrel
    by_cases hlt : k < n2
    · obtain ⟨c1, c2⟩ := HH.out.1 k hlt
      obtain ⟨a, ha⟩ : ∃ a, N.getD k 0 = a := ⟨_, rfl⟩
      obtain ⟨b, hb⟩ : ∃ b, P.getD k 0 = b := ⟨_, rfl⟩
      rw [ha] at c1
      rw [hb] at c2
      have hv := u8_andNot8 a b
      have hkn : (k : Int) < (n : Int) := by omega
      obtain ⟨x, hx⟩ : ∃ x, N.getD k 0 &&& ~~~(P.getD k 0) = x := ⟨_, rfl⟩
      rw [← ha, ← hb] at hv
      rw [hx, ha, hb] at hv
      have HX := Lib.hid hx
      clear hx ha hb
      by_cases h0 : x = 0
      · have hz : ((x.toNat : Int) != 0) = false := by rw [h0]; rfl
        have hz2 : ((x.toNat : Int) == 0) = true := by rw [h0]; rfl
        have H0 := Lib.hid h0
        clear h0
        go_wp2
        go_round
        case rel => exact ⟨k + 1, by omega, by go_num, Lib.hid (fun j hj => by
          by_cases hjk : j = k
          · rw [hjk, HX.out, H0.out]
          · exact hall.out j (by omega))⟩
        case measure => simp [intOf]; omega
      · have hz0 : ¬ (x.toNat : Int) = 0 := fun h => h0 (by
          apply UInt8.toNat_inj.1
          show x.toNat = 0
          omega)
        have hz : ((x.toNat : Int) != 0) = true := by simpa using hz0
        have hz2 : ((x.toNat : Int) == 0) = false := by simpa using hz0
        clear hz0
        have hT : R = true := by
          rw [← HR.out]
          exact setsB_of (by rw [HH.out.2]; exact hlt) (by rw [HX.out]; exact h0)
        clear h0
        subst hT
        go_wp2
        go_ret
        exact ⟨rfl, rfl⟩
    · have hT : R = false := by
        rw [← HR.out]
        exact setsB_not fun j hj => hall.out j (by rw [HH.out.2] at hj; omega)
      subst hT
      go_wp2
      go_ret
      exact ⟨rfl, rfl⟩

theorem flCells_put (m : Mem) (v : Value) (h : m.B.length = 6144) (i : Nat) (hi : i < 6144) (c : UInt8) : (flCells m v).set i (.int .u8 (c.toNat : Int)) = flCells { m with B := m.B.set i c } v := by
  unfold flCells
  rw [List.set_append_left _ _ (by rw [bc_len, h]; exact hi)]
  congr 1
  unfold bc
  rw [← List.map_set]
theorem Fl.shows {w : World} {g : Nat} {m : Mem} (h : Fl w g m) (o n cap : Nat) (hn : o + n ≤ 6144) (hc : n ≤ cap) (hm : cap ≤ maxLen) : Shows w w.heap.size (some ⟨g, o, none⟩) n cap (m.page o n) := by
  obtain ⟨A, k, c, hr, _⟩ := h.spot
  have hl : (m.page o n).length = n := page_len m o n (by rw [h.size]; exact hn)
  refine ⟨hl, hc, hm, fun _ => ⟨g, o, rfl, hr.lt, fun j hj => ?_⟩⟩
  rw [hl] at hj
  have h1 := hr.cell (flCells_byte m (.slice A k c) h.size (o + j) (by omega))
  rw [h1, ← page_at m o n j hj]
  simp [List.getD, List.getElem?_eq_getElem (show j < (m.page o n).length by omega)]

set_option maxHeartbeats 800000 in
theorem blend_any (g o n cap G cap2 : Nat) (A3 : Option Addr) (n3 cap3 : Nat) (m : Mem) (N M : List UInt8) (w : World) (h : Fl w g m) (hN : Shows w w.heap.size (some ⟨G, 0, none⟩) n cap2 N) (hG : G ≠ g)
    (hM : Shows w w.heap.size A3 n3 cap3 M) (hne : ∀ a, A3 = some a → 0 < n3 → a.block ≠ g) (hn : o + n ≤ 6144) (hn0 : 0 < n) (h3 : n3 ≤ 1000000) :
    Calls Try.prog 61 #[.slice (some ⟨g, o, none⟩) n cap, .slice (some ⟨G, 0, none⟩) n cap2, .slice A3 n3 cap3] w fun e w' => e = .returned (.tuple #[]) ∧ Fl w' g { m with B := lay m.B o (mixL (m.page o n) N M) } ∧ w.grownBy w' (some g) := by
  have hNl := hN.len
  have hMl := hM.len
  have hpl := page_len m o n (by rw [h.size]; exact hn)
  by_cases hz : n3 = 0
  · subst hz
    have hM0 : M = [] := List.eq_nil_of_length_eq_zero hMl
    subst hM0
    have e : lay m.B o (mixL (m.page o n) N []) = m.B := by
      rw [mixL_none _ _ (by omega)]
      apply List.ext_getElem (by rw [lay_len _ _ _ (by rw [hpl, h.size]; exact hn)])
      intro i h1 h2
      have e : (lay m.B o (m.page o n)).getD i 0 = m.B.getD i 0 := by
        rw [lay_at _ _ _ (by rw [hpl, h.size]; exact hn)]
        split
        · rw [page_at m o n _ (by omega)]; congr 1; omega
        · rfl
      simpa [List.getD, List.getElem?_eq_getElem h1, List.getElem?_eq_getElem h2] using e
    rw [e]
    have HH := Lib.hid h
    clear h hN hM hNl hMl hpl e
    go_enter Try.func61, Try.ntmps61
    go_wp2
    exact bodyPost_ret (results_none rfl _ _ _) rfl ⟨rfl, HH.out, grow_refl _ _⟩
  · obtain ⟨X, hX⟩ : ∃ X, mixL (m.page o n) N M = X := ⟨_, rfl⟩
    have hXl : X.length = n := by rw [← hX, mixL_len, hNl]
    rw [hX]
    obtain ⟨A, k, c, hr, ho⟩ := h.spot
    have hsz := h.size
    obtain ⟨fg, fo, fe, _, hNc⟩ := hN.cells hn0
    injection fe with fe
    injection fe with fe fe2
    subst fe fe2
    obtain ⟨mg, mo, rfl, _, hMc⟩ := hM.cells (by omega)
    have hmg : mg ≠ g := hne _ rfl (by omega)
    have H1 := Lib.hid (And.intro h (And.intro hr (And.intro ho (And.intro hsz (And.intro hNc (And.intro hMc (And.intro hX (And.intro hXl (And.intro hNl (And.intro hMl hmg))))))))))
    clear h hN hM hne hr ho hsz hNc hMc hX hXl hNl hMl hpl hmg
    go_enter Try.func61, Try.ntmps61
    go_wp2_with fail
    go_loopw [13] (fun i wr => ∃ j : Nat, j ≤ n ∧ i = .int .i64 j ∧ Row wr g 64 (flCells { m with B := lay m.B o (X.take j) } (.slice A k c)) ∧ w.grownBy wr (some g)) (fun i _ => n - (intOf i).toNat)
    case atStart => exact ⟨0, by omega, rfl, by rw [List.take_zero, lay_nil]; exact H1.out.2.1, grow_refl _ _⟩
    case round =>
      obtain ⟨j, hj, rfl, hrow, hgr⟩ := hrel
      by_cases hlt : j < n
      · obtain ⟨h, hr, ho, hsz, hNc, hMc, hX, hXl, hNl, hMl, hmg⟩ := H1.out
        have hBl : (lay m.B o (X.take j)).length = 6144 := by rw [lay_len _ _ _ (by rw [List.length_take, hsz]; omega), hsz]
        have c2 := hrow.cell (flCells_byte { m with B := lay m.B o (X.take j) } (.slice A k c) hBl (o + j) (by omega))
        rw [show ({ m with B := lay m.B o (X.take j) } : Mem).B.getD (o + j) 0 = m.B.getD (o + j) 0 from lay_front m.B X o j j (by omega) (Nat.le_refl _) (by rw [hsz]; omega)] at c2
        have f2 := hrow.frozen (o + j)
        have c1 : wr.cell? ⟨G, j, none⟩ = some (.int .u8 ((N.getD j 0).toNat : Int)) := by
          have := hNc j hlt
          rw [Nat.zero_add] at this
          exact hgr.cell this (fun e => hG (by injection e))
        obtain ⟨q, hq⟩ : ∃ q, j % n3 = q := ⟨_, rfl⟩
        have hq3 : q < n3 := by rw [← hq]; exact Nat.mod_lt _ (by omega)
        have c3 : wr.cell? ⟨mg, mo + q, none⟩ = some (.int .u8 ((M.getD q 0).toNat : Int)) := hgr.cell (hMc q hq3) (fun e => hmg (by injection e))
        have hmod : ((j : Nat) : Int).tmod (n3 : Int) = (q : Int) := by rw [Int.tmod_eq_emod_of_nonneg (by omega), ← hq]; rfl
        obtain ⟨p, hp⟩ : ∃ p, m.B.getD (o + j) 0 = p := ⟨_, rfl⟩
        obtain ⟨b, hb⟩ : ∃ p, N.getD j 0 = p := ⟨_, rfl⟩
        obtain ⟨mm, hm⟩ : ∃ p, M.getD q 0 = p := ⟨_, rfl⟩
        rw [hp] at c2
        rw [hb] at c1
        rw [hm] at c3
        have v1 := u8_xor8 p b
        have v2 := u8_and8 (p ^^^ b) mm
        have v3 := u8_xor8 p ((p ^^^ b) &&& mm)
        have hx : p ^^^ ((p ^^^ b) &&& mm) = X.getD j 0 := by
          rw [mix_bits, ← hX, mixL_at _ _ _ _ (by omega), page_at m o n j hlt, hp, hb]
          congr 1
          rw [← hm, ← hq, maskAt, hMl, if_neg (by omega)]
        rw [hx] at v3
        have r4 := hrow.drew.set (o + j) (.int .u8 ((X.getD j 0).toNat : Int))
        rw [flCells_put _ _ hBl (o + j) (by omega), show ({ m with B := lay m.B o (X.take j) } : Mem).B.set (o + j) (X.getD j 0) = lay m.B o (X.take (j + 1)) from lay_step m.B X o j (by omega) (by rw [hsz]; omega)] at r4
        have g4 := grow_set (grow_drew hgr) (o + j) (.int .u8 ((X.getD j 0).toNat : Int))
        generalize X.getD j 0 = xx at v3 r4 g4
        generalize (p ^^^ b) &&& mm = x2 at v2 v3
        generalize p ^^^ b = x1 at v1 v2
        have hlz : (q : Int) < (n3 : Int) := by omega
        have HR := Lib.hid (And.intro r4 g4)
        clear h hr ho hsz hNc hMc hX hXl hNl hMl hmg hrow hgr hBl r4 g4 hx hp hb hm hq
        go_wp2_with fail
        go_still_tail 20, (by kernel_rfl)
        change wpList _ _ _ _ _ wr.drew
        go_wp2
        go_roundw
        case rel => exact ⟨j + 1, by omega, by go_num, HR.out.1, HR.out.2⟩
        case measure => simp [intOf]; omega
      · have hjn : j = n := by omega
        subst hjn
        obtain ⟨h, hr, ho, hsz, hNc, hMc, hX, hXl, hNl, hMl, hmg⟩ := H1.out
        rw [List.take_of_length_le (by omega)] at hrow
        have ho2 := grow_own ho hgr (own_other ho hr ty_ne)
        have hF : Fl wr g { m with B := lay m.B o X } := ⟨by show (lay m.B o X).length = 6144; rw [lay_len _ _ _ (by rw [hXl, hsz]; exact hn), hsz], h.l0, h.l1, h.few, A, k, c, hrow, ho2⟩
        have HF := Lib.hid (And.intro hF hgr)
        clear h hr ho hsz hNc hMc hX hXl hNl hMl hmg hrow hgr ho2 hF
        go_wp2
        exact bodyPost_end (results_none rfl _ _ _) rfl ⟨rfl, HF.out.1, HF.out.2⟩
end Go.Proofs.Ytolpiklhnafnbaa
