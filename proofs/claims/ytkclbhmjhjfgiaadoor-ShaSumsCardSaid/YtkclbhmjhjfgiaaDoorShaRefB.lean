/- What the reference's Sum of chapter 3 keeps in memory over its blocks, and what each store makes of it. -/
import Derived.Test.YtkclbhmjhjfgiaaDoorShaRefA
namespace Go.Proofs.YtkclbhmjhjfgiaaDoor
open Go.RowKit Wd Nm Cm Sm

structure RInv (G0 Gk Gs Gt Gw : Nat) (KS CT : List Value) (w W : World) (S Wd : List (BitVec 32)) : Prop where
  r0 : Row W G0 24 (bc (List.replicate 32 0))
  rk : Row W Gk 42 KS
  rs : Row W Gs 39 (wc S)
  rt : Row W Gt 5 CT
  rw : Row W Gw 42 (wc Wd)
  below : Below G0 w W
  o1 : G0 < Gk
  o2 : Gk < Gs
  o3 : Gs < Gt
  o4 : Gt < Gw
section
variable {G0 Gk Gs Gt Gw : Nat} {KS CT : List Value} {w W : World} {S Wd : List (BitVec 32)}
theorem RInv.drew (h : RInv G0 Gk Gs Gt Gw KS CT w W S Wd) : RInv G0 Gk Gs Gt Gw KS CT w W.drew S Wd :=
  ⟨h.r0, h.rk, h.rs, h.rt, h.rw, h.below.drew, h.o1, h.o2, h.o3, h.o4⟩
theorem RInv.drewN (h : RInv G0 Gk Gs Gt Gw KS CT w W S Wd) (q : Nat) : RInv G0 Gk Gs Gt Gw KS CT w (W.drewN q) S Wd :=
  ⟨h.r0, h.rk, h.rs, h.rt, h.rw, ⟨h.below.os, h.below.tape, h.below.output, h.below.size, h.below.block⟩, h.o1, h.o2, h.o3, h.o4⟩
theorem RInv.setw (h : RInv G0 Gk Gs Gt Gw KS CT w W S Wd) (i : Nat) (c : BitVec 32) : RInv G0 Gk Gs Gt Gw KS CT w (W.setCell ⟨Gw, i, none⟩ (.int .u32 (tn c))) S (Wd.set i c) := by
  have := h.o1; have := h.o2; have := h.o3; have := h.o4
  refine ⟨h.r0.other _ _ (by show G0 ≠ Gw; omega), h.rk.other _ _ (by show Gk ≠ Gw; omega), h.rs.other _ _ (by show Gs ≠ Gw; omega), h.rt.other _ _ (by show Gt ≠ Gw; omega), ?_, below_set h.below _ _ _ (by omega), h.o1, h.o2, h.o3, h.o4⟩
  have e := h.rw.set i (.int .u32 (tn c))
  rw [wc_set] at e
  exact e
theorem RInv.sets (h : RInv G0 Gk Gs Gt Gw KS CT w W S Wd) (i : Nat) (c : BitVec 32) : RInv G0 Gk Gs Gt Gw KS CT w (W.setCell ⟨Gs, i, none⟩ (.int .u32 (tn c))) (S.set i c) Wd := by
  have := h.o1; have := h.o2; have := h.o3; have := h.o4
  refine ⟨h.r0.other _ _ (by show G0 ≠ Gs; omega), h.rk.other _ _ (by show Gk ≠ Gs; omega), ?_, h.rt.other _ _ (by show Gt ≠ Gs; omega), h.rw.other _ _ (by show Gw ≠ Gs; omega), below_set h.below _ _ _ (by omega), h.o1, h.o2, h.o3, h.o4⟩
  have e := h.rs.set i (.int .u32 (tn c))
  rw [wc_set] at e
  exact e
/-- A world in which all blocks up to the words' stand as they stood. -/
theorem RInv.onto {W' : World} (h : RInv G0 Gk Gs Gt Gw KS CT w W S Wd) {B : Nat} (hb : Below B W W') (hB : Gw < B) : RInv G0 Gk Gs Gt Gw KS CT w W' S Wd := by
  have := h.o1; have := h.o2; have := h.o3; have := h.o4
  exact ⟨h.r0.below hb (by omega), h.rk.below hb (by omega), h.rs.below hb (by omega), h.rt.below hb (by omega), h.rw.below hb hB, h.below.trans (hb.mono (by omega)), h.o1, h.o2, h.o3, h.o4⟩
end
theorem word_whole (b : List UInt8) (i : Nat) : wpart b i 4 = (wide (b.getD (4 * i) 0) <<< 24 ||| wide (b.getD (4 * i + 1) 0) <<< 16 ||| wide (b.getD (4 * i + 2) 0) <<< 8) ||| wide (b.getD (4 * i + 3) 0) := by
  simp only [wpart, Nat.add_zero]
  have z : ((0 : BitVec 32) <<< 8) ||| wide (b.getD (4 * i) 0) = wide (b.getD (4 * i) 0) := by simp
  rw [z, BitVec.shiftLeft_or_distrib, BitVec.shiftLeft_or_distrib, BitVec.shiftLeft_or_distrib, ← BitVec.shiftLeft_add, ← BitVec.shiftLeft_add, ← BitVec.shiftLeft_add]
theorem wide_at (x : UInt8) (k : Nat) : (x.toNat : Int) % 4294967296 * (2 : Int) ^ k % 4294967296 = tn (wide x <<< k) := by
  have h2 : (x.toNat : Int) % 4294967296 = tn (wide x) := by rw [tn_wide]; have := x.toNat_lt; omega
  rw [h2, u32_shl]
theorem word_four (a b c d : UInt8) : bits BinOp.or IntKind.u32 (bits BinOp.or IntKind.u32 (bits BinOp.or IntKind.u32 ((a.toNat : Int) % 4294967296 * 16777216 % 4294967296) ((b.toNat : Int) % 4294967296 * 65536 % 4294967296)) ((c.toNat : Int) % 4294967296 * 256 % 4294967296)) ((d.toNat : Int) % 4294967296) =
    tn (((wide a <<< 24 ||| wide b <<< 16) ||| wide c <<< 8) ||| wide d) := by
  have ha := wide_at a 24
  have hb := wide_at b 16
  have hc := wide_at c 8
  have hd : (d.toNat : Int) % 4294967296 = tn (wide d) := by rw [tn_wide]; have := d.toNat_lt; omega
  rw [show (2 : Int) ^ 24 = 16777216 from rfl] at ha
  rw [show (2 : Int) ^ 16 = 65536 from rfl] at hb
  rw [show (2 : Int) ^ 8 = 256 from rfl] at hc
  rw [ha, hb, hc, hd, u32_or, u32_or, u32_or]
theorem pre_set (A B : List (BitVec 32)) (i : Nat) (c : BitVec 32) (hA : A.length = i) (h : i < B.length) : (A ++ B.drop i).set i c = (A ++ [c]) ++ B.drop (i + 1) := by
  subst hA
  rw [List.set_append_right _ _ (Nat.le_refl _), Nat.sub_self, List.drop_eq_getElem_cons h, List.set_cons_zero, List.append_assoc]
  rfl
theorem pre_get (A B : List (BitVec 32)) (j : Nat) (h : j < A.length) : (A ++ B).getD j 0 = A.getD j 0 := by
  simp [List.getD, List.getElem?_append_left h]
end Go.Proofs.YtkclbhmjhjfgiaaDoor
