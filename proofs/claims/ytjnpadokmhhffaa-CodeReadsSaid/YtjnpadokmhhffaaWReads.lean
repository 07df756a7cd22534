/- The walk of the law CodeReads: any bytes, read by any row of questions, are answered as the document says. -/
import Derived.Test.YtjnpadokmhhffaaRefOps
namespace Go.Proofs.Ytjnpadokmhhffaa
open Go.RowKit Wd Nm

theorem grow_below_row {W a b : World} {g : Nat} (h : Below W.heap.size W a) (hg : a.grownBy b (some g)) (hB : W.heap.size ≤ g) : Below W.heap.size W b := step_grow h hg hB

theorem drewN_Rd {w : World} {g : Nat} {l : List UInt8} {er : Int} (h : Rd w g l er) (q : Nat) : Rd (w.drewN q) g l er := by
  obtain ⟨A, n, cap, hg, hs⟩ := h
  exact ⟨A, n, cap, hg, hs.keep fun _ _ => rfl⟩
theorem drewN_below {B : Nat} {w w' : World} (h : Below B w w') (q : Nat) : Below B w (w'.drewN q) := ⟨h.os, h.tape, h.output, h.size, h.block⟩

set_option maxRecDepth 100000 in
set_option maxHeartbeats 4000000 in
theorem codeReads_walk (A : Option Addr) (n cap : Nat) (bs : List UInt8) (A1 : Option Addr) (n1 c1 : Nat) (xs : List Int) (w : World) (hs : Shows w w.heap.size A n cap bs)
    (hx : Lays w w.heap.size A1 n1 c1 (xs.map (Value.int .i64))) (_hxr : ∀ n ∈ xs, (Lit.int .i64 n).wf = true) :
    Calls Try.prog 4 #[.slice A n cap, .slice A1 n1 c1] w fun e w' => e = .returned (.bool true) ∧ Below w.heap.size w w' := by
  obtain ⟨i0, hi0, hz0, hz1, hz2⟩ := info_parts infoByte
  have HXL := Lib.hid (show xs.length = n1 by have := hx.len; simpa using this)
  go_enter Try.func4, Try.ntmps4
  go_wp2_with fail
  refine (known_any _).mono ?_
  rintro _ w1 ⟨rfl, hb1⟩
  by_cases hn : 500 < n
  · clear hs hx
    go_wp2
    go_ret
    exact ⟨rfl, hb1⟩
  have hs1 := hs.below hb1
  have hx1 := hx.below hb1
  have hbs := hb1.size
  have hown0 : (w1.alloc (.cells #[] 5)).ownsRow w.heap.size 5 1 (.slice (some ⟨w1.heap.size, 0, none⟩) 0 0) 0 (bc []) := World.ownsRow_made w1 #[] 0 hbs (Nat.zero_le _) rfl
  have hba0 : Below w1.heap.size w1 (w1.alloc (.cells #[] 5)) := (Below.refl _ _).alloc (Nat.le_refl _) _
  have hsrc := (hs1.below (hba0.mono hbs)).src (P := Try.prog) Try.underlying22
  have HX := Lib.hid hx
  have HS := Lib.hid hs
  clear hs hx hs1 hx1
  go_wp2_with (at_builtin; refine wpList_ap _ rfl (.tmp 13) (.tmp 14) 22 22 rfl w.heap.size 5 i0 Try.underlying22 hi0 hz0 hz1 hz2 _ 0 0 [] rfl hown0 _ n bs rfl hsrc ?c1 ?c2 ?_)
  case c1 => omega
  case c2 => simp; omega
  intro A2 c2 wA hownA _ hgA _
  have hbA := (step_below hb1 hba0).grown hgA (by simp; omega) (by intro k hk; injection hk with hk; omega)
  have HN := Lib.hid (new_any A2 n c2 _ wA (Shows.of_own hownA) (by omega))
  clear hown0 hsrc hgA hba0 hownA hb1
  go_wp2_with fail
  refine HN.out.mono ?_
  rintro _ w3 ⟨gr, rfl, hr3, hgr, hb⟩
  have hb3 := step_below hbA hb
  have hrlt := hr3.lt
  have hBr : w.heap.size ≤ gr := Nat.le_trans hbA.size hgr
  have HF := Lib.hid (refnew_any w.heap.size A n cap bs w3 (HS.out.below hb3) hb3.size (by omega))
  clear HN hb hbA hgr
  go_wp2_with fail
  refine HF.out.mono ?_
  rintro _ w4 ⟨rfl, hx4, _, hb⟩
  have hb4 := step_below hb3 hb
  have hr4 := hr3.grown (below_grow hb none) (by intro k hk; cases hk)
  generalize w3.heap.size = gx at hrlt hx4 ⊢
  clear HF hb hb3 hr3 HS
  go_wp2
  go_loopw [7] (fun i wr => ∃ j : Nat, ∃ l er, j ≤ n1 ∧ i = .int .i64 j ∧ Rd wr gr l er ∧ RL wr w.heap.size gx l er ∧ Below w.heap.size w wr) (fun i _ => n1 - (intOf i).toNat)
  case atStart => exact ⟨0, _, _, by omega, rfl, hr4, hx4, hb4⟩
  case round =>
    clear hr4 hx4 hb4
    obtain ⟨j, l, er, hj, rfl, hr, hx, hb⟩ := hrel
    by_cases hlt : j < n1 ∧ j < 30
    · obtain ⟨hlt, hlt30⟩ := hlt
      have hjl : j < xs.length := by have := HXL.out; omega
      obtain ⟨g, o, rfl, hg, hc⟩ := (HX.out.below hb).spot (by omega)
      have hcj : wr.cell? ⟨g, o + j, none⟩ = some (.int .i64 xs[j]) := by rw [hc j (by simpa using hjl), List.getElem_map]
      have hd0 := Int.emod_nonneg xs[j] (show (7 : Int) ≠ 0 by decide)
      have hd1 := Int.emod_lt_of_pos xs[j] (show (0 : Int) < 7 by decide)
      have hne : g ≠ gr ∧ g ≠ gx := ⟨by omega, by omega⟩
      clear hc
      go_wp2_with fail
      refine (within_any _ _ _ (by omega) (by omega)).mono ?_
      rintro _ w5 ⟨rfl, rfl⟩
      generalize hdd : xs[j] % 7 = d at hd0 hd1
      clear hdd
      have h7 : d = 0 ∨ d = 1 ∨ d = 2 ∨ d = 3 ∨ d = 4 ∨ d = 5 ∨ d = 6 := by omega
      clear hd0 hd1
      rcases h7 with rfl | rfl | rfl | rfl | rfl | rfl | rfl
      · have HR := Lib.hid (read_Int gr l er wr hr)
        have HF := fun (W : World) (h : RL W w.heap.size gx l er) => refint_any w.heap.size gx l er W h
        generalize rdNum 8 l er = q at HR HF
        obtain ⟨v, l', er'⟩ := q
        have HF := Lib.hid HF
        clear hcj hne
        go_wp2_with fail
        refine HR.out.mono ?_
        rintro _ w6 ⟨rfl, hr6, hg6⟩
        have hx6 := hx.grown hg6 (by intro k hk; injection hk with hk; omega)
        have hb6 := step_grow hb hg6 hBr
        clear HR hr hx hb hg6
        go_wp2_with fail
        refine (HF.out _ hx6).mono ?_
        rintro _ w7 ⟨rfl, hx2, hg7⟩
        have hr2 := hr6.grown hg7 (by intro k hk; injection hk with hk; omega)
        have hb2 := step_grow hb6 hg7 (by omega)
        clear HF hr6 hx6 hb6 hg7
        have H5 := Lib.hid (end_any gr l' er' _ hr2)
        have H6 := Lib.hid (refend_any w.heap.size gx l' er' _ hx2)
        generalize rdEnd l' er' = z at H5 H6
        go_wp2_with fail
        refine H5.out.mono ?_
        rintro _ w8 ⟨rfl, rfl⟩
        go_wp2_with fail
        refine H6.out.mono ?_
        rintro _ w9 ⟨rfl, q, rfl⟩
        clear H5 H6
        go_wp2
        go_roundw
        case rel => exact ⟨j + 1, l', er', by omega, by go_num, (drewN_Rd hr2 q), hx2.drewN q, drewN_below hb2 q⟩
        case measure => simp [intOf]; omega
      · have HR := Lib.hid (read_Int gr l er wr hr)
        have HF := fun (W : World) (h : RL W w.heap.size gx l er) => refint_any w.heap.size gx l er W h
        generalize rdNum 8 l er = q at HR HF
        obtain ⟨v, l', er'⟩ := q
        have HF := Lib.hid HF
        clear hcj hne
        go_wp2_with fail
        refine HR.out.mono ?_
        rintro _ w6 ⟨rfl, hr6, hg6⟩
        have hx6 := hx.grown hg6 (by intro k hk; injection hk with hk; omega)
        have hb6 := step_grow hb hg6 hBr
        clear HR hr hx hb hg6
        go_wp2_with fail
        refine (HF.out _ hx6).mono ?_
        rintro _ w7 ⟨rfl, hx2, hg7⟩
        have hr2 := hr6.grown hg7 (by intro k hk; injection hk with hk; omega)
        have hb2 := step_grow hb6 hg7 (by omega)
        clear HF hr6 hx6 hb6 hg7
        have H5 := Lib.hid (end_any gr l' er' _ hr2)
        have H6 := Lib.hid (refend_any w.heap.size gx l' er' _ hx2)
        generalize rdEnd l' er' = z at H5 H6
        go_wp2_with fail
        refine H5.out.mono ?_
        rintro _ w8 ⟨rfl, rfl⟩
        go_wp2_with fail
        refine H6.out.mono ?_
        rintro _ w9 ⟨rfl, q, rfl⟩
        clear H5 H6
        go_wp2
        go_roundw
        case rel => exact ⟨j + 1, l', er', by omega, by go_num, (drewN_Rd hr2 q), hx2.drewN q, drewN_below hb2 q⟩
        case measure => simp [intOf]; omega
      · have HR := Lib.hid (read_Byte gr l er wr hr)
        have HF := fun (W : World) (h : RL W w.heap.size gx l er) => refbyte_any w.heap.size gx l er W h
        generalize rdNum 1 l er = q at HR HF
        obtain ⟨v, l', er'⟩ := q
        have HF := Lib.hid HF
        clear hcj hne
        go_wp2_with fail
        refine HR.out.mono ?_
        rintro _ w6 ⟨rfl, hr6, hg6⟩
        have hx6 := hx.grown hg6 (by intro k hk; injection hk with hk; omega)
        have hb6 := step_grow hb hg6 hBr
        clear HR hr hx hb hg6
        go_wp2_with fail
        refine (HF.out _ hx6).mono ?_
        rintro _ w7 ⟨rfl, hx2, hg7⟩
        have hr2 := hr6.grown hg7 (by intro k hk; injection hk with hk; omega)
        have hb2 := step_grow hb6 hg7 (by omega)
        clear HF hr6 hx6 hb6 hg7
        have H5 := Lib.hid (end_any gr l' er' _ hr2)
        have H6 := Lib.hid (refend_any w.heap.size gx l' er' _ hx2)
        generalize rdEnd l' er' = z at H5 H6
        go_wp2_with fail
        refine H5.out.mono ?_
        rintro _ w8 ⟨rfl, rfl⟩
        go_wp2_with fail
        refine H6.out.mono ?_
        rintro _ w9 ⟨rfl, q, rfl⟩
        clear H5 H6
        go_wp2
        go_roundw
        case rel => exact ⟨j + 1, l', er', by omega, by go_num, (drewN_Rd hr2 q), hx2.drewN q, drewN_below hb2 q⟩
        case measure => simp [intOf]; omega
      · have HR := Lib.hid (read_Byte gr l er wr hr)
        have HF := fun (W : World) (h : RL W w.heap.size gx l er) => refbyte_any w.heap.size gx l er W h
        generalize rdNum 1 l er = q at HR HF
        obtain ⟨v, l', er'⟩ := q
        have HF := Lib.hid HF
        clear hcj hne
        go_wp2_with fail
        refine HR.out.mono ?_
        rintro _ w6 ⟨rfl, hr6, hg6⟩
        have hx6 := hx.grown hg6 (by intro k hk; injection hk with hk; omega)
        have hb6 := step_grow hb hg6 hBr
        clear HR hr hx hb hg6
        go_wp2_with fail
        refine (HF.out _ hx6).mono ?_
        rintro _ w7 ⟨rfl, hx2, hg7⟩
        have hr2 := hr6.grown hg7 (by intro k hk; injection hk with hk; omega)
        have hb2 := step_grow hb6 hg7 (by omega)
        clear HF hr6 hx6 hb6 hg7
        have H5 := Lib.hid (end_any gr l' er' _ hr2)
        have H6 := Lib.hid (refend_any w.heap.size gx l' er' _ hx2)
        generalize rdEnd l' er' = z at H5 H6
        go_wp2_with fail
        refine H5.out.mono ?_
        rintro _ w8 ⟨rfl, rfl⟩
        go_wp2_with fail
        refine H6.out.mono ?_
        rintro _ w9 ⟨rfl, q, rfl⟩
        clear H5 H6
        go_wp2
        go_roundw
        case rel => exact ⟨j + 1, l', er', by omega, by go_num, (drewN_Rd hr2 q), hx2.drewN q, drewN_below hb2 q⟩
        case measure => simp [intOf]; omega
      · have HR := Lib.hid (read_Text gr l er wr hr)
        have HF := fun (W : World) (h : RL W w.heap.size gx l er) => reftext_any w.heap.size gx l er W h
        generalize rdText l er = q at HR HF
        obtain ⟨v, l', er'⟩ := q
        have HF := Lib.hid HF
        clear hcj hne
        go_wp2_with fail
        refine HR.out.mono ?_
        rintro _ w6 ⟨rfl, hr6, hg6⟩
        have hx6 := hx.grown hg6 (by intro k hk; injection hk with hk; omega)
        have hb6 := step_grow hb hg6 hBr
        clear HR hr hx hb hg6
        go_wp2_with fail
        refine (HF.out _ hx6).mono ?_
        rintro _ w7 ⟨rfl, hx2, hg7⟩
        have hr2 := hr6.grown hg7 (by intro k hk; injection hk with hk; omega)
        have hb2 := step_grow hb6 hg7 (by omega)
        clear HF hr6 hx6 hb6 hg7
        have H5 := Lib.hid (end_any gr l' er' _ hr2)
        have H6 := Lib.hid (refend_any w.heap.size gx l' er' _ hx2)
        generalize rdEnd l' er' = z at H5 H6
        go_wp2_with fail
        refine H5.out.mono ?_
        rintro _ w8 ⟨rfl, rfl⟩
        go_wp2_with fail
        refine H6.out.mono ?_
        rintro _ w9 ⟨rfl, q, rfl⟩
        clear H5 H6
        go_wp2
        go_roundw
        case rel => exact ⟨j + 1, l', er', by omega, by go_num, (drewN_Rd hr2 q), hx2.drewN q, drewN_below hb2 q⟩
        case measure => simp [intOf]; omega
      · have HR := Lib.hid (read_Text gr l er wr hr)
        have HF := fun (W : World) (h : RL W w.heap.size gx l er) => reftext_any w.heap.size gx l er W h
        generalize rdText l er = q at HR HF
        obtain ⟨v, l', er'⟩ := q
        have HF := Lib.hid HF
        clear hcj hne
        go_wp2_with fail
        refine HR.out.mono ?_
        rintro _ w6 ⟨rfl, hr6, hg6⟩
        have hx6 := hx.grown hg6 (by intro k hk; injection hk with hk; omega)
        have hb6 := step_grow hb hg6 hBr
        clear HR hr hx hb hg6
        go_wp2_with fail
        refine (HF.out _ hx6).mono ?_
        rintro _ w7 ⟨rfl, hx2, hg7⟩
        have hr2 := hr6.grown hg7 (by intro k hk; injection hk with hk; omega)
        have hb2 := step_grow hb6 hg7 (by omega)
        clear HF hr6 hx6 hb6 hg7
        have H5 := Lib.hid (end_any gr l' er' _ hr2)
        have H6 := Lib.hid (refend_any w.heap.size gx l' er' _ hx2)
        generalize rdEnd l' er' = z at H5 H6
        go_wp2_with fail
        refine H5.out.mono ?_
        rintro _ w8 ⟨rfl, rfl⟩
        go_wp2_with fail
        refine H6.out.mono ?_
        rintro _ w9 ⟨rfl, q, rfl⟩
        clear H5 H6
        go_wp2
        go_roundw
        case rel => exact ⟨j + 1, l', er', by omega, by go_num, (drewN_Rd hr2 q), hx2.drewN q, drewN_below hb2 q⟩
        case measure => simp [intOf]; omega
      · have HX1 := Lib.hid (HX.out)
        go_wp2_with fail
        refine (within_any _ _ _ (by omega) (by omega)).mono ?_
        rintro _ w5 ⟨rfl, rfl⟩
        go_wp2_with fail
        refine (fail_any gr l er _ wr hr).mono ?_
        rintro _ w6 ⟨rfl, hr6, hg6⟩
        have hx6 := hx.grown hg6 (by intro k hk; injection hk with hk; omega)
        have hb6 := step_grow hb hg6 hBr
        have hcj6 : w6.cell? ⟨g, o + j, none⟩ = some (.int .i64 xs[j]) := hg6.cell hcj (by intro h; injection h with h; exact hne.1 h)
        clear hr hx hb hg6 hcj hne HX1
        go_wp2_with fail
        refine (within_any _ _ _ (by omega) (by omega)).mono ?_
        rintro _ w7 ⟨rfl, rfl⟩
        go_wp2_with fail
        refine (reffail_any w.heap.size gx l er _ w6 hx6).mono ?_
        rintro _ w7 ⟨rfl, hx2, hg7⟩
        have hr2 := hr6.grown hg7 (by intro k hk; injection hk with hk; omega)
        have hb2 := step_grow hb6 hg7 (by omega)
        clear hr6 hx6 hb6 hg7 hcj6
        generalize rdFail _ er = er' at hr2 hx2
        obtain ⟨l', hl'⟩ : ∃ l', l' = l := ⟨_, rfl⟩
        rw [← hl'] at hr2 hx2
        clear hl'
        have H5 := Lib.hid (end_any gr l' er' _ hr2)
        have H6 := Lib.hid (refend_any w.heap.size gx l' er' _ hx2)
        generalize rdEnd l' er' = z at H5 H6
        go_wp2_with fail
        refine H5.out.mono ?_
        rintro _ w8 ⟨rfl, rfl⟩
        go_wp2_with fail
        refine H6.out.mono ?_
        rintro _ w9 ⟨rfl, q, rfl⟩
        clear H5 H6
        go_wp2
        go_roundw
        case rel => exact ⟨j + 1, l', er', by omega, by go_num, (drewN_Rd hr2 q), hx2.drewN q, drewN_below hb2 q⟩
        case measure => simp [intOf]; omega
    · have hstop : (decide ((j : Int) < n1) && decide ((j : Int) < 30)) = false := by
        rw [Bool.and_eq_false_iff, decide_eq_false_iff_not, decide_eq_false_iff_not]; omega
      have H5 := Lib.hid (end_any gr l er _ hr)
      have H6 := Lib.hid (refend_any w.heap.size gx l er _ hx)
      generalize rdEnd l er = z at H5 H6
      clear hr hx
      have h2 : ¬ j < n1 ∨ (j < n1 ∧ ¬ j < 30) := by omega
      rcases h2 with h2 | ⟨h2, h3⟩
      all_goals
        go_wp2_with fail
        refine H5.out.mono ?_
        rintro _ w8 ⟨rfl, rfl⟩
        go_wp2_with fail
        refine H6.out.mono ?_
        rintro _ w9 ⟨rfl, q, rfl⟩
        have hbz := drewN_below hb q
        clear H5 H6 hb
        go_wp2
        go_ret
        exact ⟨rfl, hbz⟩
end Go.Proofs.Ytjnpadokmhhffaa
