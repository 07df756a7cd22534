/- The walk of the law CodeEnds: numbers at the ends, and bytes of any number, are read as they must. -/
import Derived.Test.YtjnpadokmhhffaaReadKit
import Derived.Deep.RegionHeld3
namespace Go.Proofs.Ytjnpadokmhhffaa
open Go.RowKit Wd Nm

/-- The lowest eight bits. -/
theorem and255 (n : Int) : bits .and .i64 n 255 = n % 256 := by
  show IntKind.i64.wrap ((BitVec.ofInt 64 n &&& BitVec.ofInt 64 255).toNat : Int) = n % 256
  have h1 : (BitVec.ofInt 64 255).toNat = 2 ^ 8 - 1 := by decide
  rw [BitVec.toNat_and, h1, Nat.and_two_pow_sub_one_eq_mod, BitVec.toNat_ofInt, IntKind.wrap_i64]
  omega
/-- Numbers, each written as eight bytes and as one. -/
def encs : List Int → List UInt8
  | [] => []
  | x :: r => leb x 8 ++ leb x 1 ++ encs r
theorem encs_app (a b : List Int) : encs (a ++ b) = encs a ++ encs b := by
  induction a with
  | nil => simp [encs]
  | cons x r ih => simp [encs, ih]
theorem encs_len (a : List Int) : (encs a).length = 9 * a.length := by
  induction a with
  | nil => simp [encs]
  | cons x r ih => simp [encs, ih, leb_len]; omega
theorem encs_drop (xs : List Int) (j : Nat) (h : j < xs.length) : encs (xs.drop j) = leb xs[j] 8 ++ (leb xs[j] 1 ++ encs (xs.drop (j + 1))) := by
  rw [List.drop_eq_getElem_cons h]
  simp [encs]
theorem encs_next (xs : List Int) (j : Nat) (h : j < xs.length) : encs (xs.take (j + 1)) = encs (xs.take j) ++ leb xs[j] 8 ++ leb xs[j] 1 := by
  rw [List.take_succ_eq_append_getElem h, encs_app]
  simp [encs]

/-- The six numbers of the law, as the call has laid them. -/
theorem six_laid (x P : Int) (w1 : World) (x0 : -9223372036854775808 ≤ x) (x1 : x ≤ 9223372036854775807) (p0 : -9223372036854775808 ≤ P) (p1 : P ≤ 9223372036854775807) :
    ∃ xs : List Int, xs.length = 6 ∧ (∀ z ∈ xs, -9223372036854775808 ≤ z ∧ z ≤ 9223372036854775807) ∧
      ∀ j (h : j < xs.length), (w1.alloc (Obj.cells #[Value.int .i64 x, Value.int .i64 9223372036854775807, Value.int .i64 (-9223372036854775808), Value.int .i64 0, Value.int .i64 (-1), Value.int .i64 P] 3)).cell? ⟨w1.heap.size, j, none⟩ = some (.int .i64 xs[j]) := by
  refine ⟨[x, 9223372036854775807, -9223372036854775808, 0, -1, P], rfl, ?_, fun j h => ?_⟩
  · intro z hz
    simp at hz
    omega
  · have hn := heap_alloc_new w1 (Obj.cells ([x, 9223372036854775807, -9223372036854775808, 0, -1, P].map (Value.int .i64)).toArray 3)
    have := cell_of_row _ w1.heap.size j _ _ (0, 0) hn
    rw [List.getElem?_toArray, List.getElem?_map, List.getElem?_eq_getElem h] at this
    exact this

set_option maxRecDepth 100000 in
set_option maxHeartbeats 1000000 in
theorem codeEnds_walk (x k : Int) (w : World) (hx : (Lit.int .i64 x).wf = true) (_hk : (Lit.int .i64 k).wf = true) :
    Calls Try.prog 7 #[.int .i64 x, .int .i64 k] w fun e w' => e = .returned (.bool true) ∧ Below w.heap.size w w' := by
  obtain ⟨x0, x1⟩ := i64_of_wf hx
  clear hx
  go_enter Try.func7, Try.ntmps7
  go_wp2_with fail
  refine (known_any _).mono ?_
  rintro _ w1 ⟨rfl, hb1⟩
  go_wp2_with fail
  refine (within_any _ _ _ (by omega) (by omega)).mono ?_
  rintro _ w2 ⟨rfl, rfl⟩
  have h62 : 0 ≤ k % 62 ∧ k % 62 < 62 := ⟨Int.emod_nonneg _ (by decide), Int.emod_lt_of_pos _ (by decide)⟩
  obtain ⟨m, hm⟩ : ∃ m : Nat, k % 62 = m := ⟨(k % 62).toNat, by omega⟩
  rw [hm] at h62 ⊢
  obtain ⟨_, h62⟩ := h62
  clear hm
  go_wp2
  obtain ⟨W0, hW0⟩ : ∃ W0 : World, W0 = w1.alloc (Obj.cells #[Value.int .i64 x, Value.int .i64 9223372036854775807, Value.int .i64 (-9223372036854775808), Value.int .i64 0, Value.int .i64 (-1), Value.int .i64 (wrap64 (2 ^ m))] 3) := ⟨_, rfl⟩
  rw [← hW0]
  have hsix := six_laid x (wrap64 (2 ^ m)) w1 x0 x1 (by unfold wrap64; omega) (by unfold wrap64; omega)
  rw [← hW0] at hsix
  obtain ⟨xs, hlen, hall, hcell⟩ := hsix
  have hb0 : Below w.heap.size w W0 := by rw [hW0]; exact hb1.alloc hb1.size _
  have hgl : w1.heap.size < W0.heap.size := by rw [hW0]; simp
  generalize w1.heap.size = gl at hgl hcell ⊢
  clear hW0 h62 x0 x1 hb1
  have HLEN := Lib.hid hlen
  clear hlen
  go_loopw [6, 7] (fun b i wr => ∃ j : Nat, ∃ A c, j ≤ 6 ∧ i = .int .i64 j ∧ b = .slice A (9 * j) c ∧ Shows wr wr.heap.size A (9 * j) c (encs (xs.take j)) ∧ Below W0.heap.size W0 wr) (fun _ i _ => 6 - (intOf i).toNat)
  case atStart => exact ⟨0, none, 0, by omega, rfl, rfl, Shows.nil _ _, Below.refl _ _⟩
  case round =>
    obtain ⟨j, A, c, hj, rfl, rfl, hs, hb⟩ := hrel
    by_cases hlt : j < 6
    · have hjl : j < xs.length := by have := HLEN.out; omega
      have hc : wr.cell? ⟨gl, j, none⟩ = some (.int .i64 xs[j]) := (hb.cell (p := ⟨gl, j, none⟩) hgl).trans (hcell j hjl)
      have HCELL := Lib.hid hcell
      clear hcell
      have hglr : gl < wr.drew.heap.size := Nat.lt_of_lt_of_le hgl hb.size
      have hsd : Shows wr.drew wr.drew.heap.size A (9 * j) c (encs (xs.take j)) := hs.keep fun _ _ => rfl
      have HN := Lib.hid (encs_next xs j hjl)
      clear hs
      go_wp2
      go_region_held3 (fun w' => w'.cell? ⟨gl, j, none⟩ = some (.int .i64 xs[j]))
        (first | exact hc | exact hca | exact hcb)
        ((first
          | (go_at_call 11; refine (int_any A (9 * j) c _ xs[j] _ hsd (by omega)).mono ?_; rintro _ wa ⟨A1, c1, rfl, hown1, hba⟩; have hca : wa.cell? ⟨gl, j, none⟩ = some (.int .i64 xs[j]) := (hba.cell (p := ⟨gl, j, none⟩) hglr).trans hc; have hsa := Shows.of_own hown1)
          | (go_at_call 13; refine (byte_any A1 (9 * j + 8) c1 _ xs[j] _ hsa (by omega)).mono ?_; rintro _ wb ⟨A2, c2, rfl, hown2, hbb⟩; have hcb : wb.cell? ⟨gl, j, none⟩ = some (.int .i64 xs[j]) := (hbb.cell (p := ⟨gl, j, none⟩) (Nat.lt_of_lt_of_le hglr hba.size)).trans hca)))
      have hb2 : Below W0.heap.size W0 wb := hb.drew.trans ((hba.trans (hbb.mono hba.size)).mono hb.size)
      have hs2 := Shows.of_own hown2
      have HN2 := HN.out
      clear hc hca hcb hba hbb hown1 hown2 hsa hsd hb hglr HN
      go_wp2
      go_roundw
      case rel => exact ⟨j + 1, A2, c2, by omega, by go_num, by rw [show 9 * (j + 1) = 9 * j + 8 + 1 by omega], by rw [HN2]; exact hs2, hb2⟩
      case measure => simp [intOf]; omega
    · obtain rfl : j = 6 := by omega
      have htk : xs.take 6 = xs := List.take_of_length_le (by have := HLEN.out; omega)
      rw [htk] at hs
      clear htk
      go_wp2_with fail
      refine (new_any A (9 * 6) c _ _ hs (by omega)).mono ?_
      rintro _ w3 ⟨g, rfl, hr3, hg3, hb3⟩
      have hbw := hb.trans (hb3.mono hb.size)
      have hgg : W0.heap.size ≤ g := Nat.le_trans hb.size hg3
      clear hs hb hb3 hg3
      go_wp2
      go_loopw [9] (fun i wr => ∃ j : Nat, j ≤ 6 ∧ i = .int .i64 j ∧ Rd wr g (encs (xs.drop j)) 0 ∧ Below W0.heap.size W0 wr) (fun i _ => 6 - (intOf i).toNat)
      case atStart => exact ⟨0, by omega, rfl, hr3, hbw⟩
      case round =>
        clear hr3 hbw
        obtain ⟨j, hj, rfl, hr, hb⟩ := hrel
        by_cases hlt : j < 6
        · have hjl : j < xs.length := by have := HLEN.out; omega
          have hc : wr.cell? ⟨gl, j, none⟩ = some (.int .i64 xs[j]) := (hb.cell (p := ⟨gl, j, none⟩) hgl).trans (hcell j hjl)
          have hne : some gl ≠ some g := by intro h; injection h with h; omega
          have hrg := hall xs[j] (List.getElem_mem hjl)
          have HCELL := Lib.hid hcell
          have hi := read_Int g _ 0 wr.drew hr.drew
          rw [encs_drop xs j hjl, rdNum_int _ _ hrg.1 hrg.2] at hi
          have HI := Lib.hid hi
          have hy := fun (w5 : World) (h : Rd w5 g (leb xs[j] 1 ++ encs (xs.drop (j + 1))) 0) => read_Byte g _ 0 w5 h
          simp only [rdNum_byte] at hy
          have HY := Lib.hid hy
          have hand := and255 xs[j]
          clear hcell hi hy hr hrg
          go_wp2
          go_region_held3 (fun w' => w'.cell? ⟨gl, j, none⟩ = some (.int .i64 xs[j]))
            (first | exact hc | exact hca | exact hcb)
            ((first
              | (go_at_call 20; refine HI.out.mono ?_; rintro _ wa ⟨rfl, hra, hga⟩; have hca : wa.cell? ⟨gl, j, none⟩ = some (.int .i64 xs[j]) := World.grownBy.cell (drew_grow hga) hc hne)
              | (go_at_call 22; refine (HY.out _ hra).mono ?_; rintro _ wb ⟨rfl, hrb, hgb⟩; have hcb : wb.cell? ⟨gl, j, none⟩ = some (.int .i64 xs[j]) := hgb.cell hca hne)))
          have hb2 : Below W0.heap.size W0 wb := step_grow (step_grow hb (drew_grow hga) hgg) hgb hgg
          clear hc hca hcb hga hgb hra hb HI HY hne
          go_wp2
          go_roundw
          case rel => exact ⟨j + 1, by omega, by go_num, hrb, hb2⟩
          case measure => simp [intOf]; omega
        · obtain rfl : j = 6 := by omega
          have hdr : xs.drop 6 = [] := List.drop_of_length_le (by have := HLEN.out; omega)
          rw [hdr] at hr
          have he := end_any g [] 0 wr hr
          rw [rdEnd_ok] at he
          have HE := Lib.hid he
          have hbz := hb0.trans (hb.mono hb0.size)
          clear hdr hr he hb hb0 hcell hall
          go_wp2_with fail
          refine HE.out.mono ?_
          rintro _ w9 ⟨rfl, rfl⟩
          clear HE
          go_wp2
          go_ret
          exact ⟨rfl, hbz⟩
end Go.Proofs.Ytjnpadokmhhffaa
