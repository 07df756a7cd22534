/- The walk of the law FlashTwins: two memories led alike are alike, whatever a third one does. -/
import Derived.Test.YtolpiklhnafnbaaActDo
import Derived.Test.YtolpiklhnafnbaaSame
import Derived.Test.YtolpiklhnafnbaaTwinsParts
namespace Go.Proofs.Ytolpiklhnafnbaa
set_option maxRecDepth 100000
open Go.RowKit Wd Fm

theorem ActWf.more {w : World} {B B' : Nat} {a : ActV} (h : ActWf w B a) (hb : B ≤ B') : ActWf w B' a := ⟨h.k, h.s, h.p, h.n, h.b.more hb⟩
theorem LaidActs.more {w : World} {B B' : Nat} {A : Option Addr} {n : Nat} {acs : List ActV} (h : LaidActs w B A n acs) (hb : B ≤ B') : LaidActs w B' A n acs :=
  ⟨h.len, fun hn => by
    obtain ⟨g, o, e, hg, hc⟩ := h.spot hn
    exact ⟨g, o, e, Nat.lt_of_lt_of_le hg hb, hc⟩, fun p hp => (h.each p hp).more hb⟩
theorem LaidActs.cells {w W : World} {B G o : Nat} {n : Nat} {acs : List ActV} (h : LaidActs w B (some ⟨G, o, none⟩) n acs) (hb : Below B w W) (j : Nat) (hj : j < acs.length) :
    W.cell? ⟨G, o + j * 5, none⟩ = some (.int .i64 acs[j].K) ∧ W.cell? ⟨G, o + j * 5 + 1, none⟩ = some (.int .i64 acs[j].S) ∧ W.cell? ⟨G, o + j * 5 + 2, none⟩ = some (.int .i64 acs[j].P) ∧ W.cell? ⟨G, o + j * 5 + 3, none⟩ = some (.int .i64 acs[j].N) ∧ W.cell? ⟨G, o + j * 5 + 4, none⟩ = some (.slice acs[j].A acs[j].n acs[j].cap) := by
  obtain ⟨g, o', e, _, hc⟩ := (h.below hb).spot (by have := h.len; omega)
  injection e with e
  injection e with e1 e2
  subst e1 e2
  have hat := hc j hj
  have c1 := hat.c1
  have c2 := hat.c2
  have c3 := hat.c3
  have c4 := hat.c4
  rw [Addr.add_lit] at c1 c2 c3 c4
  exact ⟨hat.c0, c1, c2, c3, c4⟩
theorem Fl.kept2 {w w' : World} {g k : Nat} {m m' : Mem} (h : Fl w g m) (hk : Fl w k m') (hg : w.grownBy w' (some k)) (hne : g ≠ k) : Fl w' g m := by
  obtain ⟨A, n, cap, hr, _⟩ := hk.spot
  exact h.kept hg (fun e => hne e.symm) _ _ hr ty_ne
/-- What an act at two memories leaves of others. -/
theorem act_fl {w w1 w' : World} {g x k : Nat} {m m' mk : Mem} (hf : Fl w g m) (hx : Rf w x m') (hgx : g ≠ x) (h1 : w.grownBy w1 (some g)) (h2 : w1.grownBy w' (some x)) (hk : Fl w k mk) (n1 : k ≠ g) (n2 : k ≠ x) : Fl w' k mk := by
  obtain ⟨A, n, cap, hr, _⟩ := hf.spot
  obtain ⟨_, A2, n2', cap2, hr2, _⟩ := hx.spot
  have e1 := hk.kept h1 (fun e => n1 e.symm) _ _ hr ty_ne
  have e2 : w1.heap[x]? = some (.cells (rfCells m' (.slice A2 n2' cap2)).toArray 66 (0, 0)) := (h1.block x hx.lt (fun e => hgx (by injection e with e; exact e.symm))).trans hr2
  exact e1.kept h2 (fun e => n2 e.symm) _ _ e2 tyx_ne
theorem act_rf {w w1 w' : World} {g x k : Nat} {m m' mk : Mem} (hf : Fl w g m) (hx : Rf w x m') (hgx : g ≠ x) (h1 : w.grownBy w1 (some g)) (h2 : w1.grownBy w' (some x)) (hk : Rf w k mk) (n1 : k ≠ g) (n2 : k ≠ x) : Rf w' k mk := by
  obtain ⟨A, n, cap, hr, _⟩ := hf.spot
  obtain ⟨_, A2, n2', cap2, hr2, _⟩ := hx.spot
  have e1 := hk.kept h1 (fun e => n1 e.symm) _ _ hr ty_ne
  have e2 : w1.heap[x]? = some (.cells (rfCells m' (.slice A2 n2' cap2)).toArray 66 (0, 0)) := (h1.block x hx.lt (fun e => hgx (by injection e with e; exact e.symm))).trans hr2
  exact e1.kept h2 (fun e => n2 e.symm) _ _ e2 tyx_ne
/-- Three memories of the program's, two of the reference's, in blocks of their own. -/
structure Five (W : World) (B f g h x y : Nat) (m mh : Mem) : Prop where
  ff : Fl W f m
  fg : Fl W g m
  fh : Fl W h mh
  fx : Rf W x m
  fy : Rf W y m
  od : B ≤ f ∧ f < g ∧ g < h ∧ h < x ∧ x < y
theorem Five.below {W W' : World} {B f g h x y : Nat} {m mh : Mem} (a : Five W B f g h x y m mh) (hb : Below W.heap.size W W') : Five W' B f g h x y m mh :=
  ⟨a.ff.below hb, a.fg.below hb, a.fh.below hb, a.fx.below hb, a.fy.below hb, a.od⟩

set_option maxHeartbeats 4000000 in
theorem flashTwins_walk (A : Option Addr) (n cap : Nat) (acs : List ActV) (w : World) (hl : LaidActs w w.heap.size A n acs) (hc : n ≤ cap) (hn : n ≤ 9223372036854775807) :
    Calls Try.prog 3 #[.slice A n cap] w fun e w' => e = .returned (.bool true) ∧ Below w.heap.size w w' := by
  have H := Lib.hid hl
  have HF0 := Lib.hid (fun (W : World) (hb : Below w.heap.size w W) => few_any A n cap acs W ((hl.below hb).more hb.size) hc hn)
  clear hl hc
  go_enter Try.func3, Try.ntmps3
  go_wp2_with fail
  (with_reducible refine (known4_any _).mono ?_)
  rintro _ w1 ⟨rfl, hb1⟩
  have HB1 := Lib.hid hb1
  clear hb1
  go_wp2_with fail
  (with_reducible refine (HF0.out _ HB1.out).mono ?_)
  rintro _ w2 ⟨rfl, rfl⟩
  clear HF0
  by_cases hfew : fewActs acs = true
  · have h80 : n ≤ 80 ∧ ∀ a ∈ acs, a.n ≤ 40 := by
      unfold fewActs at hfew
      rw [Bool.and_eq_true, List.all_eq_true] at hfew
      have := H.out.len
      have h2 := of_decide_eq_true hfew.2
      exact ⟨by omega, fun a ha => of_decide_eq_true (hfew.1 a ha)⟩
    have hn80 := h80.1
    have H80 := Lib.hid h80.2
    rw [hfew]
    clear h80 hfew hn
    go_wp2_with fail
    (with_reducible refine (new_any _).mono ?_)
    rintro _ w2 ⟨rfl, hf2, hb2⟩
    obtain ⟨f, hf⟩ : ∃ f, w1.heap.size = f := ⟨_, rfl⟩
    rw [hf] at hf2 ⊢
    have K2 := Lib.hid (And.intro hf2 (And.intro (step_below HB1.out hb2) (show w.heap.size ≤ f by have := HB1.out.size; omega)))
    clear hf2 hb2 hf
    go_wp2_with fail
    (with_reducible refine (new_any _).mono ?_)
    rintro _ w3 ⟨rfl, hf3, hb3⟩
    obtain ⟨g, hg⟩ : ∃ g, w2.heap.size = g := ⟨_, rfl⟩
    rw [hg] at hf3 ⊢
    have K3 := Lib.hid (And.intro (K2.out.1.below hb3) (And.intro hf3 (And.intro (step_below K2.out.2.1 hb3) (show f < g by have := K2.out.1.lt; omega))))
    clear hf3 hb3 hg
    go_wp2_with fail
    (with_reducible refine (new_any _).mono ?_)
    rintro _ w4 ⟨rfl, hf4, hb4⟩
    obtain ⟨h, hh⟩ : ∃ h, w3.heap.size = h := ⟨_, rfl⟩
    rw [hh] at hf4 ⊢
    have K4 := Lib.hid (And.intro (K3.out.1.below hb4) (And.intro (K3.out.2.1.below hb4) (And.intro hf4 (And.intro (step_below K3.out.2.2.1 hb4) (show g < h by have := K3.out.2.1.lt; omega)))))
    clear hf4 hb4 hh
    go_wp2_with fail
    (with_reducible refine (xnew_any _).mono ?_)
    rintro _ w5 ⟨rfl, hf5, hb5⟩
    obtain ⟨x, hx⟩ : ∃ x, w4.heap.size = x := ⟨_, rfl⟩
    rw [hx] at hf5 ⊢
    have K5 := Lib.hid (And.intro (K4.out.1.below hb5) (And.intro (K4.out.2.1.below hb5) (And.intro (K4.out.2.2.1.below hb5) (And.intro hf5 (And.intro (step_below K4.out.2.2.2.1 hb5) (show h < x by have := K4.out.2.2.1.lt; omega))))))
    clear hf5 hb5 hx
    go_wp2_with fail
    (with_reducible refine (xnew_any _).mono ?_)
    rintro _ w6 ⟨rfl, hf6, hb6⟩
    obtain ⟨y, hy⟩ : ∃ y, w5.heap.size = y := ⟨_, rfl⟩
    rw [hy] at hf6 ⊢
    have K6 : Hid (Five w6 w.heap.size f g h x y Mem.fresh Mem.fresh ∧ Below w.heap.size w w6) := Lib.hid ⟨⟨K5.out.1.below hb6, K5.out.2.1.below hb6, K5.out.2.2.1.below hb6, K5.out.2.2.2.1.below hb6, hf6, ⟨K2.out.2.2, K3.out.2.2.2, K4.out.2.2.2.2, K5.out.2.2.2.2.2, by have := K5.out.2.2.2.1.lt; omega⟩⟩, step_below K5.out.2.2.2.2.1 hb6⟩
    clear hf6 hb6 hy K2 K3 K4 K5 HB1
    go_wp2_with fail
    go_loopw [8] (fun i wr => ∃ j : Nat, j ≤ n ∧ i = .int .i64 j ∧ Hid (∃ m mh, Five wr w.heap.size f g h x y m mh ∧ Below w.heap.size w wr)) (fun i _ => n - (intOf i).toNat)
    case atStart => exact ⟨0, by omega, rfl, Lib.hid ⟨_, _, K6.out⟩⟩
    case round =>
      obtain ⟨j, hj, rfl, HJ⟩ := hrel
      obtain ⟨m, mh, h5, hbr⟩ := HJ.out
      clear HJ K6
      by_cases hlt : j < n
      · have hji : (j : Int) < (n : Int) := by omega
        have hjl : j < acs.length := by have := H.out.len; omega
        obtain ⟨a0, ha0⟩ : ∃ a, acs[j] = a := ⟨_, rfl⟩
        obtain ⟨G, o, rfl, _, _⟩ := H.out.spot (by omega)
        obtain ⟨c0, c1, c2, c3, c4⟩ := H.out.cells hbr j hjl
        have hwf := H.out.each acs[j] (List.getElem_mem hjl)
        have h40 := H80.out acs[j] (List.getElem_mem hjl)
        have HC := Lib.hid (fun (W : World) (hb : Below w.heap.size w W) => H.out.cells hb j hjl)
        rw [ha0] at c0 c1 c2 c3 c4 hwf h40 HC
        have hne : ∀ p, a0.A = some p → 0 < a0.n → p.block < w.heap.size := fun p hp h0 => by
          obtain ⟨g', o', e, hb', _⟩ := hwf.b.spot h0
          rw [hp] at e
          injection e with e
          rw [e]
          exact hb'
        obtain ⟨q1, q2, q3, q4, q5⟩ := h5.od
        have hd1 := do_any f x m a0 wr h5.ff h5.fx (by omega) ((hwf.below hbr).more hbr.size) h40 (fun p hp h0 => by have := hne p hp h0; omega)
        have HD1 := Lib.hid hd1
        have HA := Lib.hid (And.intro h5 (And.intro hbr (And.intro hwf (And.intro h40 hne))))
        clear hwf h40 hne ha0 h5 hbr hd1
        go_wp2_with fail
        (with_reducible refine HD1.out.mono ?_)
        rintro _ w7 ⟨rfl, hf7, hx7, V, hV1, hV2⟩
        clear c0 c1 c2 c3 c4 HD1
        have h5 := HA.out.1
        have hb7 : Below w.heap.size w w7 := step_grow (step_grow HA.out.2.1 hV1 q1) hV2 (by omega)
        have g7 := act_fl h5.ff h5.fx (by omega) hV1 hV2 h5.fg (by omega) (by omega)
        have h7 := act_fl h5.ff h5.fx (by omega) hV1 hV2 h5.fh (by omega) (by omega)
        have y7 := act_rf h5.ff h5.fx (by omega) hV1 hV2 h5.fy (by omega) (by omega)
        obtain ⟨c0, c1, c2, c3, c4⟩ := HC.out w7 hb7
        have hd2 := do_any g y m a0 w7 g7 y7 (by omega) ((HA.out.2.2.1.below hb7).more hb7.size) HA.out.2.2.2.1 (fun p hp h0 => by have := HA.out.2.2.2.2 p hp h0; omega)
        have HD2 := Lib.hid hd2
        obtain ⟨m2, hm2⟩ : ∃ m2, actM m a0 = m2 := ⟨_, rfl⟩
        rw [hm2] at hf7 hx7 HD2
        have HB := Lib.hid (And.intro hf7 (And.intro hx7 (And.intro g7 (And.intro y7 (And.intro h7 hb7)))))
        clear hf7 hx7 hV1 hV2 h5 hb7 g7 h7 y7 hd2 hm2
        go_wp2_with fail
        (with_reducible refine HD2.out.mono ?_)
        rintro _ w8 ⟨rfl, hg8, hy8, V2, hU1, hU2⟩
        clear c0 c1 c2 c3 c4 HD2 HC
        obtain ⟨f7, x7, g7, y7, h7, hb7⟩ := HB.out
        have hb8 : Below w.heap.size w w8 := step_grow (step_grow hb7 hU1 (by omega)) hU2 (by omega)
        have f8 := act_fl g7 y7 (by omega) hU1 hU2 f7 (by omega) (by omega)
        have h8 := act_fl g7 y7 (by omega) hU1 hU2 h7 (by omega) (by omega)
        have x8 := act_rf g7 y7 (by omega) hU1 hU2 x7 (by omega) (by omega)
        have h5 : Five w8 w.heap.size f g h x y m2 mh := ⟨f8, hg8, h8, x8, hy8, ⟨q1, q2, q3, q4, q5⟩⟩
        have bn := below_new (Below.refl _ w8) (.cells #[.int .u8 1, .int .u8 2] 5)
        have h59 := h5.below bn
        have hlit : Shows (w8.alloc (.cells #[.int .u8 1, .int .u8 2] 5)) (w8.alloc (.cells #[.int .u8 1, .int .u8 2] 5)).heap.size (some ⟨w8.heap.size, 0, none⟩) 2 2 [1, 2] := lit_shows w8 [1, 2] (by simp)
        have hd3 := fun (s p : Int) => program_any h mh s p _ 2 2 [1, 2] _ h59.fh hlit (by decide)
        have HD3 := Lib.hid hd3
        have HE := Lib.hid (And.intro h59 (below_new hb8 (.cells #[.int .u8 1, .int .u8 2] 5)))
        clear f7 x7 g7 y7 h7 hb7 f8 h8 x8 h5 bn h59 hlit hd3 hg8 hy8 hU1 hU2 hb8 HB HA
        go_wp2_with fail
        (with_reducible refine (HD3.out _ _).mono ?_)
        rintro _ w9 ⟨rfl, hh9, hg9⟩
        obtain ⟨h59, hb9⟩ := HE.out
        have h10 : Five w9 w.heap.size f g h x y m2 _ := ⟨h59.ff.kept2 h59.fh hg9 (by omega), h59.fg.kept2 h59.fh hg9 (by omega), hh9, h59.fx.other h59.fh hg9 (by omega), h59.fy.other h59.fh hg9 (by omega), ⟨q1, q2, q3, q4, q5⟩⟩
        have HN := Lib.hid (And.intro h10 (step_grow hb9 hg9 (by omega)))
        clear h59 hb9 hh9 hg9 h10 HE HD3
        go_wp2
        go_roundw
        case rel => exact ⟨j + 1, by omega, by go_num, Lib.hid ⟨_, _, HN.out⟩⟩
        case measure => simp [intOf]; omega
      · have hji : ¬ (j : Int) < (n : Int) := by omega
        have HS1 := Lib.hid (same_any f y m wr h5.ff h5.fy)
        have HQ := Lib.hid (And.intro h5 hbr)
        clear h5 hbr
        go_wp2_with fail
        (with_reducible refine HS1.out.mono ?_)
        rintro _ w7 ⟨rfl, hb7⟩
        have HS2 := Lib.hid (same_any g x m w7 (HQ.out.1.fg.below hb7) (HQ.out.1.fx.below hb7))
        have HB7 := Lib.hid (step_below HQ.out.2 hb7)
        clear hb7 HS1
        go_wp2_with fail
        (with_reducible refine HS2.out.mono ?_)
        rintro _ w8 ⟨rfl, hb8⟩
        have HB8 := Lib.hid (step_below HB7.out hb8)
        clear hb8 HS2
        go_wp2
        go_ret
        exact ⟨rfl, HB8.out⟩
  · have hfew2 : fewActs acs = false := by simpa using hfew
    rw [hfew2]
    clear hfew hfew2
    go_wp2
    go_ret
    exact ⟨rfl, HB1.out⟩
end Go.Proofs.Ytolpiklhnafnbaa
