/- The walk of the law ShaLong: bytes of each length about the ends of blocks, turned at one place, too, are summed as the document says. -/
import Derived.Test.YtkclbhmjhjfgiaaDoorShaOne
namespace Go.Proofs.YtkclbhmjhjfgiaaDoor
open Go.RowKit Wd Nm Cm Sm

def rb (b : UInt8) (i : Nat) : UInt8 := b + UInt8.ofNat i
def rbs (b : UInt8) (n : Nat) : List UInt8 := (List.range n).map (rb b)
theorem rbs_len (b : UInt8) (n : Nat) : (rbs b n).length = n := by simp [rbs]
theorem rb_nat (b : UInt8) (i : Nat) : ((rb b i).toNat : Int) = ((b.toNat : Int) + (i : Int)) % 256 := by
  unfold rb
  rw [UInt8.toNat_add]
  simp
theorem Cz_all (b : UInt8) (n : Nat) : Cz (fun i => ((rb b i).toNat : Int)) n n = (bc (rbs b n)).toArray := by
  apply Array.ext'
  simp only [Cz, Nat.sub_self, List.replicate_zero, List.append_nil, bc, rbs, List.map_map]
  rfl

set_option maxRecDepth 100000 in
set_option maxHeartbeats 2000000 in
theorem shaLong_walk (x b a t : Int) (w : World) (hT : Tables w) (_hx : (Lit.int .i64 x).wf = true) (hb : (Lit.int .u8 b).wf = true) (_ha : (Lit.int .i64 a).wf = true) (ht : (Lit.int .u8 t).wf = true) :
    Calls Tryd.prog 4 #[.int .i64 x, .int .u8 b, .int .i64 a, .int .u8 t] w fun e w' => e = .returned (.bool true) ∧ Below w.heap.size w w' := by
  obtain ⟨hb0, hb255⟩ := u8_of_wf hb
  obtain ⟨ht0, ht255⟩ := u8_of_wf ht
  obtain ⟨i0, hi0, hz0, hz1, hz2⟩ := info_parts infoByte
  obtain ⟨B, rfl⟩ : ∃ B : UInt8, b = (B.toNat : Int) := ⟨UInt8.ofNat b.toNat, by simp; omega⟩
  obtain ⟨U, rfl⟩ : ∃ B : UInt8, t = (B.toNat : Int) := ⟨UInt8.ofNat t.toNat, by simp; omega⟩
  have hmk : ∀ (W : World) (N : Nat), N ≤ 1000000 → (Instr.makeSlice 26 (.int .i64 (N : Int)) (.int .i64 (N : Int))).run Tryd.prog W = .ok (.slice (some ⟨W.heap.size, 0, none⟩) N N) (W.alloc (.cells (Cz (fun i => ((rb B i).toNat : Int)) 0 N) 5)) := by
    intro W N hN
    have h := run_make (P := Tryd.prog) W 26 5 i0 _ Tryd.underlying26 hi0 hz0 .i64 .i64 N N (by omega) (by omega) (by rw [hz2]; omega) (by omega)
    simp only [Int.toNat_natCast] at h
    rw [h, hz1, Cz_zero]
    rfl
  have HMK := Lib.hid hmk
  have HT := Lib.hid hT
  clear hmk hb ht hT hi0 hz0 hz1 hz2
  go_enter Tryd.func4, Tryd.ntmps4
  go_wp2_with fail
  (with_reducible refine (known3_any _ HT.out).mono ?_)
  rintro _ w1 ⟨rfl, hb1⟩
  have HT1 := Lib.hid (HT.out.below hb1)
  go_wp2_with fail
  (with_reducible refine (within3_any _ _ _ (by omega) (by omega)).mono ?_)
  rintro _ w2 ⟨rfl, rfl⟩
  have h5 : 0 ≤ x % 300 ∧ x % 300 < 300 := ⟨Int.emod_nonneg _ (by decide), Int.emod_lt_of_pos _ (by decide)⟩
  obtain ⟨N, hN⟩ : ∃ d : Nat, x % 300 = d := ⟨(x % 300).toNat, by omega⟩
  rw [hN] at h5 ⊢
  obtain ⟨_, h5⟩ := h5
  have hN300 : N < 300 := by omega
  clear hN h5
  have hmk := HMK.out w1 N (by omega)
  go_wp2_with fail
  clear hmk
  go_loopw [10] (fun i wr => ∃ k : Nat, k ≤ N ∧ i = .int .i64 k ∧ wr = w1.alloc (.cells (Cz (fun i => ((rb B i).toNat : Int)) k N) 5)) (fun i _ => N - (intOf i).toNat)
  case atStart => exact ⟨0, by omega, rfl, rfl⟩
  case round =>
    obtain ⟨k, hk, rfl, rfl⟩ := hrel
    by_cases hkN : k < N
    · have hc := Cz_next (fun i => ((rb B i).toNat : Int)) k N hkN
      have hst := Cz_step (fun i => ((rb B i).toNat : Int)) k N hkN
      have hv := rb_nat B k
      rw [hv] at hst
      go_wp2
      go_roundw
      case rel => exact ⟨k + 1, by omega, by go_num, rfl⟩
      case measure => simp [intOf]; omega
    · have hkN2 : k = N := by omega
      subst hkN2
      rw [Cz_all]
      have hs1 := shows_cells w1 5 (0, 0) (rbs B k) (by rw [rbs_len]; omega)
      rw [rbs_len] at hs1
      have hb2 := hb1.alloc hb1.size (.cells (bc (rbs B k)).toArray 5)
      have r2 := Row.new w1 5 (bc (rbs B k))
      have ez : (w1.alloc (.cells (bc (rbs B k)).toArray 5)).heap.size = w1.heap.size + 1 := by simp
      generalize w1.alloc (.cells (bc (rbs B k)).toArray 5) = w2 at hs1 hb2 ez r2 ⊢
      rw [← ez] at hs1
      obtain ⟨L, hL⟩ : ∃ L, rbs B k = L := ⟨_, rfl⟩
      have hLl : L.length = k := by rw [← hL, rbs_len]
      obtain ⟨G, hG⟩ : ∃ G, w1.heap.size = G := ⟨_, rfl⟩
      rw [hL] at hs1 r2
      rw [hG] at hs1 r2 ez ⊢
      have HS1 := Lib.hid hs1
      have HB2 := Lib.hid hb2
      have HR2 := Lib.hid r2
      have HEZ := Lib.hid ez
      have HLL := Lib.hid hLl
      have HG := Lib.hid hG
      clear hs1 hb2 hL r2 ez hLl hkN hG
      go_wp2_with fail
      (with_reducible refine (shasum_one _ _ _ _ w2 (HT.out.below HB2.out) HS1.out (by omega)).mono ?_)
      rintro _ w3 ⟨rfl, hb3⟩
      have HB3 := Lib.hid hb3
      clear hb3
      go_wp2_with fail
      (with_reducible refine (refsum3_any _ _ _ L w3 ((HS1.out.below HB3.out).more HB3.out.size) (by omega)).mono ?_)
      rintro _ w4 ⟨rfl, hb4⟩
      have HB4 := Lib.hid (HB3.out.trans (hb4.mono HB3.out.size))
      clear hb4 HB3
      have hb5 : Below w.heap.size w w4 := step_below HB2.out HB4.out
      have hne := hash_neq L
      by_cases hk0 : 0 < k
      · obtain ⟨j, hj⟩ : ∃ d : Nat, a % (k : Int) = d := ⟨(a % (k : Int)).toNat, by have := Int.emod_nonneg a (show (k : Int) ≠ 0 by omega); omega⟩
        have hjk : j < k := by have := Int.emod_lt_of_pos a (show (0 : Int) < (k : Int) by omega); omega
        have hr4 := HR2.out.below HB4.out HR2.out.lt
        have hc := hr4.cell (bc_get L j (by rw [HLL.out]; exact hjk))
        have hfz := hr4.frozen j
        obtain ⟨x0, hx0⟩ : ∃ c, L[j]'(by rw [HLL.out]; exact hjk) = c := ⟨_, rfl⟩
        rw [hx0] at hc
        have hv : ((x0 + U).toNat : Int) = ((x0.toNat : Int) + (U.toNat : Int)) % 256 := by rw [UInt8.toNat_add]; simp
        have hr5 := hr4.set j (.int .u8 ((x0 + U).toNat : Int))
        rw [show (bc L).set j (.int .u8 ((x0 + U).toNat : Int)) = bc (L.set j (x0 + U)) by unfold bc; rw [← List.map_set]] at hr5
        obtain ⟨L2, hL2⟩ : ∃ l, L.set j (x0 + U) = l := ⟨_, rfl⟩
        rw [hL2, hv] at hr5
        have hl2 : L2.length = k := by rw [← hL2, List.length_set, HLL.out]
        have hT5 : Below w.heap.size w (w4.setCell ⟨G, j, none⟩ (.int .u8 (((x0.toNat : Int) + (U.toNat : Int)) % 256))) := below_set hb5 _ _ _ (by rw [← HG.out]; exact hb1.size)
        have HX0 := Lib.hid (And.intro (HT.out.below hT5) (And.intro (row_shows3 hr5 hl2 (by unfold maxLen; omega)) hT5))
        have HJ := Lib.hid hj
        have hjki : (j : Int) < (k : Int) := by omega
        clear hj hr4 hx0 hv hr5 hL2 hl2 hT5 hb5
        go_wp2_with fail
        (with_reducible refine (within3_any a (k : Int) _ (by omega) (by omega)).mono ?_)
        rintro _ w5 ⟨rfl, rfl⟩
        rw [HJ.out]
        clear hne
        go_wp2_with fail
        obtain ⟨w5, hw5⟩ : ∃ W, w4.setCell ⟨G, j, none⟩ (.int .u8 (((x0.toNat : Int) + (U.toNat : Int)) % 256)) = W := ⟨_, rfl⟩
        have hz5 : w4.heap.size = w5.heap.size := by rw [← hw5]; simp
        rw [hw5] at HX0 ⊢
        rw [hz5]
        have HX := HX0
        clear HX0 hw5 hz5
        go_wp2_with fail
        (with_reducible refine (shasum_one _ _ _ _ w5 HX.out.1 HX.out.2.1 (by omega)).mono ?_)
        rintro _ w6 ⟨rfl, hb6⟩
        have HB6 := Lib.hid hb6
        clear hb6
        go_wp2_with fail
        (with_reducible refine (refsum3_any _ _ _ L2 w6 ((HX.out.2.1.below HB6.out).more HB6.out.size) (by omega)).mono ?_)
        rintro _ w7 ⟨rfl, hb7⟩
        have HB7 := Lib.hid (step_below HX.out.2.2 (HB6.out.trans (hb7.mono HB6.out.size)))
        have heq := hash_eql L2
        clear hb7 HB6
        go_wp2
        go_ret
        exact ⟨rfl, HB7.out⟩
      · have hx0 : Shows w4 w4.heap.size (some ⟨G, 0, none⟩) k k L := (HS1.out.below HB4.out).more HB4.out.size
        obtain ⟨w5, hw5⟩ : ∃ W, w4 = W := ⟨_, rfl⟩
        rw [hw5] at hx0
        rw [hw5] at hb5 ⊢
        have HX := Lib.hid (And.intro (HT.out.below hb5) (And.intro hx0 hb5))
        clear hx0 hb5 HB4 hw5
        go_wp2_with fail
        (with_reducible refine (shasum_one _ _ _ _ w5 HX.out.1 HX.out.2.1 (by omega)).mono ?_)
        rintro _ w6 ⟨rfl, hb6⟩
        have HB6 := Lib.hid hb6
        clear hb6
        go_wp2_with fail
        (with_reducible refine (refsum3_any _ _ _ L w6 ((HX.out.2.1.below HB6.out).more HB6.out.size) (by omega)).mono ?_)
        rintro _ w7 ⟨rfl, hb7⟩
        have HB7 := Lib.hid (step_below HX.out.2.2 (HB6.out.trans (hb7.mono HB6.out.size)))
        have heq := hash_eql L
        clear hb7 HB6
        go_wp2
        go_ret
        exact ⟨rfl, HB7.out⟩
end Go.Proofs.YtkclbhmjhjfgiaaDoor
