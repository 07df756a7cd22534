/- Contract for package sha's spread: a block's 64 words. -/
import Derived.Test.YtkclbhmjhjfgiaaDoorArr
import Derived.Test.YtkclbhmjhjfgiaaDoorShaRot
import Derived.IntWalk
import Derived.StillTailTactics
import Derived.Deep.QuietTactic
import Derived.BigQuiet
namespace Go.Proofs.YtkclbhmjhjfgiaaDoor
open Go.RowKit Wd Nm Cm Sm

/-- The words so far, noughts behind them. -/
def wz (l : List (BitVec 32)) : List (BitVec 32) := l ++ List.replicate (64 - l.length) 0
theorem wz_len (l : List (BitVec 32)) (h : l.length ≤ 64) : (wz l).length = 64 := by simp [wz]; omega
theorem wz_set (l : List (BitVec 32)) (c : BitVec 32) (h : l.length < 64) : (wz l).set l.length c = wz (l ++ [c]) := by
  unfold wz
  rw [List.set_append_right _ _ (Nat.le_refl _), Nat.sub_self, show 64 - l.length = (64 - (l ++ [c]).length) + 1 by simp; omega, List.replicate_succ]
  simp
theorem wz_put (l : List (BitVec 32)) (x c : BitVec 32) : (wz (l ++ [x])).set l.length c = wz (l ++ [c]) := by
  simp [wz]
theorem wz_at (l : List (BitVec 32)) (j : Nat) (h : j < l.length) : (wz l).getD j 0 = l.getD j 0 := by
  simp [wz, List.getD, List.getElem?_append_left h]
theorem wz_last (l : List (BitVec 32)) (c : BitVec 32) : (wz (l ++ [c])).getD l.length 0 = c := by simp [wz, List.getD]
theorem wz_full (l : List (BitVec 32)) (h : l.length = 64) : wz l = l := by simp [wz, h]
theorem wz_end (l : List (BitVec 32)) : wz (l ++ [0]) = wz l ∨ 64 ≤ l.length := by
  by_cases h : l.length < 64
  · left
    unfold wz
    rw [show 64 - l.length = (64 - (l ++ [(0 : BitVec 32)]).length) + 1 by simp; omega, List.replicate_succ]
    simp
  · right; omega
theorem word_next (c : BitVec 32) (x : UInt8) : bits BinOp.or IntKind.u32 (tn c * 256 % 4294967296) ((x.toNat : Int) % 4294967296) = tn ((c <<< 8) ||| wide x) := by
  have h := u32_shl c 8
  have h2 : (x.toNat : Int) % 4294967296 = tn (wide x) := by rw [tn_wide]; have := x.toNat_lt; omega
  rw [h2, show (256 : Int) = 2 ^ 8 by rfl, h, u32_or]
/-- A new array of noughts. -/
theorem Row.zero (w : World) (T : TypeId) (cs : Array Value) (h : cs = (wc (wz [])).toArray) : Row (w.alloc (.cells cs T)) w.heap.size T (wc (wz [])) := by
  subst h
  exact Row.new w T _
theorem range_lt {w : World} {g o : Nat} {bl : List UInt8} (hl : 0 < bl.length) (hr : w.rangeAt g o (bc bl)) : g < w.heap.size :=
  block_lt_of_cell (hr 0 _ (bc_get bl 0 hl))
theorem range_at {w : World} {g o : Nat} {bl : List UInt8} (hr : w.rangeAt g o (bc bl)) (j : Nat) (hj : j < bl.length) : w.cell? ⟨g, o + j, none⟩ = some (.int .u8 ((bl.getD j 0).toNat : Int)) := by
  rw [hr j _ (bc_get bl j hj), List.getD, List.getElem?_eq_getElem hj]
  rfl
theorem range_below {w w' : World} {B g o : Nat} {cs : List Value} (hr : w.rangeAt g o cs) (hb : Below B w w') (hg : g < B) : w'.rangeAt g o cs := fun j v hv => (hb.cell (p := ⟨g, o + j, none⟩) hg).trans (hr j v hv)

/-- Cuts of a block. -/
theorem block_cut (W : World) (g o l h : Nat) (x y : Int) (hx : x = l) (hy : y = h) (h1 : l ≤ h) (h2 : h ≤ 64) (h3 : l < 64) :
    (Instr.sliceAt 41 (.pointer (some ⟨g, o, none⟩)) (some (.int .i64 x)) (some (.int .i64 y)) none).run Tryd.prog W = .ok (.slice (some ⟨g, o + l, none⟩) (h - l) (64 - l)) W := by
  subst hx hy
  have hL : Tryd.prog.arrayLen 41 = 64 := by kernel_rfl
  have hE : Tryd.prog.elem 41 = 5 := by kernel_rfl
  obtain ⟨i0, hi0, hz0, hz1, hz2⟩ := info_parts infoByte
  rw [run_sliceAt_array_lh W _ _ (by rw [hL, hE]; exact Tryd.underlying41) .i64 .i64 l h (by omega) (by omega) (by rw [hL]; omega), hL, hE]
  simp [sizeOf, typeInfo, hi0, hz1, Result.andThen, slicedAt, Addr.add_mid]
  omega

set_option maxHeartbeats 1000000 in
theorem spread_any (g o : Nat) (bl : List UInt8) (w : World) (hl : bl.length = 64) (hr : w.rangeAt g o (bc bl)) :
    Calls Tryd.prog 20 #[.pointer (some ⟨g, o, none⟩)] w fun e w' => e = .returned (.agg (wc (sched bl 64)).toArray) ∧ Below w.heap.size w w' := by
  obtain ⟨N, hN⟩ : ∃ N, 64 = N := ⟨_, rfl⟩
  obtain ⟨S, hS⟩ : ∃ S, sched bl N = S := ⟨_, rfl⟩
  have hSl : S.length = 64 := by rw [← hS, sched_len, hN]
  rw [show sched bl 64 = sched bl N by rw [hN], hS]
  have HS := Lib.hid hS
  have HSL := Lib.hid hSl
  have HN := Lib.hid hN
  clear hS hSl hN
  go_enter Tryd.func20, Tryd.ntmps20
  go_wp2
  have hg := range_lt (by omega) hr
  go_loopw [4, 6, 10] (fun _ _ i wr => ∃ m : Nat, m ≤ 16 ∧ i = .int .i64 m ∧ Row wr (w.heap.size + 1) 43 (wc (wz (sched bl m))) ∧ Row wr w.heap.size 43 (wc (wz [])) ∧ Below w.heap.size w wr) (fun _ _ i _ => 16 - (intOf i).toNat)
  case atStart =>
    refine ⟨0, Nat.zero_le _, rfl, ?_, ?_, ?_⟩
    · have h := Row.zero (w.alloc (.cells (wc (wz [])).toArray 43)) 43 (wc (wz [])).toArray rfl
      rw [show (w.alloc (.cells (wc (wz [])).toArray 43)).heap.size = w.heap.size + 1 by simp] at h
      exact h
    · exact (Row.zero w 43 (wc (wz [])).toArray rfl).alloc _
    · exact below_new (below_new (Below.refl _ _) _) _
  case round =>
    obtain ⟨m, hm, rfl, h1, h0, hb⟩ := hrel
    by_cases hm16 : m < 16
    · obtain ⟨c, hc⟩ : ∃ c, 64 - 4 * m = c := ⟨_, rfl⟩
      have hsl : ∀ W : World, (Instr.sliceAt 41 (.pointer (some ⟨g, o, none⟩)) (some (.int .i64 (4 * (m : Int)))) (some (.int .i64 (4 * ((m : Int) + 1)))) none).run Tryd.prog W = .ok (.slice (some ⟨g, o + 4 * m, none⟩) 4 c) W := by
        intro W
        have h := block_cut W g o (4 * m) (4 * m + 4) (4 * (m : Int)) (4 * ((m : Int) + 1)) (by omega) (by omega) (by omega) (by omega) (by omega)
        rw [h, hc, show 4 * m + 4 - 4 * m = 4 by omega]
      have HS := Lib.hid (show sched bl (m + 1) = sched bl m ++ [wpart bl m 4] by rw [sched, if_pos hm16])
      go_wp2
      go_loopw [6, 22] (fun _ k wr => ∃ j : Nat, j ≤ 4 ∧ k = .int .i64 j ∧ Row wr (w.heap.size + 1) 43 (wc (wz (sched bl m ++ [wpart bl m j]))) ∧ Row wr w.heap.size 43 (wc (wz [])) ∧ Below w.heap.size w wr) (fun _ k _ => 4 - (intOf k).toNat)
      case atStart => exact ⟨0, by omega, rfl, by rw [show wpart bl m 0 = 0 from rfl, (wz_end (sched bl m)).resolve_right (by rw [sched_len]; omega)]; exact h1, h0, hb⟩
      case round =>
        clear h1 h0 hb hsl
        obtain ⟨j, hj, rfl, h1, h0, hb⟩ := hrel
        by_cases hj4 : j < 4
        · have hx := range_at (range_below hr hb hg) (4 * m + j) (by omega)
          have hc1 := h1.cell (wc_get _ m (by rw [wz_len _ (by simp [sched_len]; omega)]; omega))
          have hla := wz_last (sched bl m) (wpart bl m j)
          rw [sched_len] at hla
          rw [hla] at hc1
          have HP := Lib.hid (wz_put (sched bl m) (wpart bl m j) (wpart bl m (j + 1)))
          clear hla
          have hf := h1.frozen m
          have hv := word_next (wpart bl m j) (bl.getD (4 * m + j) 0)
          have HN := Lib.hid (show wpart bl m (j + 1) = (wpart bl m j <<< 8) ||| wide (bl.getD (4 * m + j) 0) from rfl)
          rw [← Nat.add_assoc] at hx
          generalize bl.getD (4 * m + j) 0 = x at hx hv HN
          generalize hcc : wpart bl m j = cc at hc1 hv HN
          have H1 := Lib.hid h1
          have H0 := Lib.hid h0
          clear h1 h0 hcc
          go_wp2
          go_roundw
          case rel => 
            refine ⟨j + 1, by omega, by go_num, ?_, ?_, ?_⟩
            · have := H1.out.set m (.int .u32 (tn (cc <<< 8 ||| wide x)))
              have hp := HP.out
              rw [sched_len] at hp
              rw [wc_set, ← HN.out, hp] at this
              rw [← HN.out]
              exact this
            · exact H0.out.other _ _ (by simp)
            · exact below_set hb _ _ _ (by omega)
          case measure => simp [intOf]; omega
        · obtain rfl : j = 4 := by omega
          go_wp2
          go_roundw
          case rel => exact ⟨m + 1, by omega, by go_num, by rw [HS.out]; exact h1, h0, hb⟩
          case measure => simp [intOf]; omega
    · have hm2 : m = 16 := by omega
      rw [hm2] at h1
      clear hm2 hm
      go_wp2
      go_loopw [7, 8, 9] (fun i _ _ wr => ∃ n : Nat, 16 ≤ n ∧ n ≤ 64 ∧ i = .int .i64 n ∧ Row wr (w.heap.size + 1) 43 (wc (wz (sched bl n))) ∧ Row wr w.heap.size 43 (wc (wz [])) ∧ Below w.heap.size w wr) (fun i _ _ _ => 64 - (intOf i).toNat)
      case atStart => exact ⟨16, by omega, by omega, rfl, h1, h0, hb⟩
      case round =>
        clear h1 h0 hb
        obtain ⟨n, hn, hn64, rfl, h1, h0, hb⟩ := hrel
        by_cases hn6 : n < 64
        · have c2 := h1.cell (wc_get _ (n - 2) (by rw [wz_len _ (by rw [sched_len]; omega)]; omega))
          have c7 := h1.cell (wc_get _ (n - 7) (by rw [wz_len _ (by rw [sched_len]; omega)]; omega))
          have c15 := h1.cell (wc_get _ (n - 15) (by rw [wz_len _ (by rw [sched_len]; omega)]; omega))
          have c16 := h1.cell (wc_get _ (n - 16) (by rw [wz_len _ (by rw [sched_len]; omega)]; omega))
          have cn := h1.cell (wc_get _ n (by rw [wz_len _ (by rw [sched_len]; omega)]; omega))
          rw [wz_at _ _ (by rw [sched_len]; omega)] at c2 c7 c15 c16
          have hf := h1.frozen n
          have HN := Lib.hid (show sched bl (n + 1) = sched bl n ++ [nxt (sched bl n) n] by rw [sched, if_neg (by omega)])
          have HX := Lib.hid (show nxt (sched bl n) n = (ror ((sched bl n).getD (n - 2) 0) 17 ^^^ ror ((sched bl n).getD (n - 2) 0) 19 ^^^ (sched bl n).getD (n - 2) 0 >>> 10) + (sched bl n).getD (n - 7) 0 + (ror ((sched bl n).getD (n - 15) 0) 7 ^^^ ror ((sched bl n).getD (n - 15) 0) 18 ^^^ (sched bl n).getD (n - 15) 0 >>> 3) + (sched bl n).getD (n - 16) 0 from rfl)
          generalize (sched bl n).getD (n - 2) 0 = x2 at c2 HX
          generalize (sched bl n).getD (n - 7) 0 = x7 at c7 HX
          generalize (sched bl n).getD (n - 15) 0 = x15 at c15 HX
          generalize (sched bl n).getD (n - 16) 0 = x16 at c16 HX
          have H1 := Lib.hid h1
          have H0 := Lib.hid h0
          clear h1 h0
          go_wp2_with fail
          go_quiet (fail)
          have c7' : (wr.drewN nq).cell? ⟨w.heap.size + 1, n - 7, none⟩ = some (.int .u32 (tn x7)) := c7
          have c16' : (wr.drewN nq).cell? ⟨w.heap.size + 1, n - 16, none⟩ = some (.int .u32 (tn x16)) := c16
          have cn' : ((wr.drewN nq).cell? ⟨w.heap.size + 1, n, none⟩).isSome = true := by show (wr.cell? _).isSome = true; rw [cn]; rfl
          have hf' : (wr.drewN nq).frozen? ⟨w.heap.size + 1, n, none⟩ = false := hf
          have H1' : Hid (Row (wr.drewN nq) (w.heap.size + 1) 43 (wc (wz (sched bl n)))) := H1.out
          have H0' : Hid (Row (wr.drewN nq) w.heap.size 43 (wc (wz []))) := H0.out
          have hb' : Below w.heap.size w (wr.drewN nq) := ⟨hb.os, hb.tape, hb.output, hb.size, hb.block⟩
          clear c2 c7 c15 c16 cn hf H1 H0 hb
          generalize wr.drewN nq = w2 at c7' c16' cn' hf' H1' H0' hb' ⊢
          obtain ⟨v0, cn⟩ := Option.isSome_iff_exists.1 cn'
          clear cn'
          have ux := u32_xor
          have ua := u32_add
          have s3 := u32_shr3
          have s10 := u32_shr10
          go_wp2_with fail
          refine (right_17 _ _).mono ?_
          rintro _ w1 ⟨rfl, rfl⟩
          go_wp2_with fail
          refine (right_19 _ _).mono ?_
          rintro _ w1 ⟨rfl, rfl⟩
          go_wp2_with fail
          refine (right_7 _ _).mono ?_
          rintro _ w1 ⟨rfl, rfl⟩
          go_wp2_with fail
          refine (right_18 _ _).mono ?_
          rintro _ w1 ⟨rfl, rfl⟩
          go_wp2_with fail
          obtain ⟨p7, q7⟩ : ∃ p, n - 7 = p := ⟨_, rfl⟩
          obtain ⟨p16, q16⟩ : ∃ p, n - 16 = p := ⟨_, rfl⟩
          have i7 : IntKind.i64.wrap ((n : Int) - 7) = (p7 : Int) := by rw [IntKind.wrap_i64]; omega
          have i16 : IntKind.i64.wrap ((n : Int) - 16) = (p16 : Int) := by rw [IntKind.wrap_i64]; omega
          have l7 : (p7 : Int) < 64 := by omega
          have l16 : (p16 : Int) < 64 := by omega
          rw [q7] at c7'
          rw [q16] at c16'
          clear q7 q16
          go_still_tail 15, (by kernel_rfl)
          change wpList _ _ _ _ _ (World.drew _)
          go_wp2
          go_roundw
          case rel =>
            refine ⟨n + 1, by omega, by omega, by go_num, ?_, H0'.out.drew.other _ _ (by simp), below_set (w := w2.drew) ⟨hb'.os, hb'.tape, hb'.output, hb'.size, hb'.block⟩ _ _ _ (by omega)⟩
            have h := H1'.out.drew.set n (.int .u32 (tn (nxt (sched bl n) n)))
            have hz := wz_set (sched bl n) (nxt (sched bl n) n) (by rw [sched_len]; omega)
            rw [sched_len] at hz
            rw [wc_set, hz, ← HN.out, HX.out] at h
            exact h
          case measure => simp [intOf]; omega
        · have hn2 : n = 64 := by omega
          rw [hn2, HN.out, HS.out, wz_full _ HSL.out] at h1
          clear hn2 hn64
          have hi : (Tryd.prog.info? 43).map (·.size) = some (wc S).toArray.size := by
            rw [show (Tryd.prog.info? 43).map (·.size) = some 64 by kernel_rfl]
            simp [wc_len, HSL.out]
          have hs0 : (wc (wz [])).toArray.size = (wc S).toArray.size := by simp [wc_len, wz, HSL.out]
          have hone := all_oneCell_toArray (wc_one S)
          have HI := Lib.hid hi
          have HS0 := Lib.hid hs0
          have HO := Lib.hid hone
          clear hi hs0 hone
          go_wp2_with (first
            | (refine wpList_load_row rfl _ _ rfl (w.heap.size + 1) rfl _ _ (0, 0) _ h1 Tryd.underlying43 rfl HI.out ?_)
            | (refine wpList_store_row rfl _ _ _ rfl w.heap.size _ rfl rfl _ _ h0 HI.out HS0.out HO.out ?_))
          refine bodyPost_ret (v := .agg (wc S).toArray) ?_ rfl ⟨rfl, below_setRow hb (Nat.le_refl _) _⟩
          exact results_cell_row rfl _ _ w.heap.size 43 _ (0, 0) _ rfl (setRow_heap wr _ _ _ _ _ h0) Tryd.underlying43 rfl HI.out
end Go.Proofs.YtkclbhmjhjfgiaaDoor
