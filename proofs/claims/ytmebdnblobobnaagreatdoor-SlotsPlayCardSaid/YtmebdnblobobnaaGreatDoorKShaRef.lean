/- Merged: The reference's Sum of chapter 3: its table of steps, and what its blocks hold. What the reference's Sum of chapter 3 keeps in memory over its blocks, and what each store makes of it. Contract for the reference's Sum of chapter 3: it is SHA-256 of the bytes, and nothing that was there turns. -/
import Derived.Test.YtmebdnblobobnaaGreatDoorKSha
import Derived.Test.YtmebdnblobobnaaGreatDoorKMem
import Derived.StillTailTactics
import Derived.Deep.RegionHeld
import Derived.Deep.QuietTactic
import Derived.BigQuiet
import Derived.Deep.AppendSrc
namespace Go.Proofs.YtmebdnblobobnaaGreatDoor
set_option maxRecDepth 100000
open Go.RowKit _root_.Go.Proofs.YtmebdnblobobnaaGreatDoor.Wd _root_.Go.Proofs.YtmebdnblobobnaaGreatDoor.Nm _root_.Go.Proofs.YtmebdnblobobnaaGreatDoor.Cm Sm

set_option maxHeartbeats 2000000 in
theorem words_any (w : World) : Calls Tryz.prog 34 #[] w fun e w' => e = .returned (.agg (wc ks).toArray) ∧ Below w.heap.size w w' := by
  obtain ⟨KS, hK⟩ : ∃ K, (wc ks).toArray = K := ⟨_, rfl⟩
  have h1 : (Tryz.prog.info? 68).map (·.size) = some KS.size := by rw [← hK]; kernel_rfl
  have h2 : (wc (List.replicate 64 (0 : BitVec 32))).toArray.size = KS.size := by rw [← hK]; decide +kernel
  have h3 : KS.all (·.oneCell') = true := by rw [← hK]; decide +kernel
  rw [hK]
  have H1 := Lib.hid h1
  have H2 := Lib.hid h2
  have H3 := Lib.hid h3
  have HK := Lib.hid hK
  clear h1 h2 h3 hK
  go_enter Tryz.func34, Tryz.ntmps34
  have HR := Lib.hid (Row.zero w 68 (wc (wz [])).toArray rfl)
  go_wp2_with (first
    | (refine wpList_build_is rfl 68 _ rfl KS ?_ ?_; (focus (rw [← HK.out]; kernel_rfl)))
    | (refine wpList_store_row rfl _ _ _ rfl w.heap.size KS rfl rfl 68 _ HR.out H1.out H2.out H3.out ?_))
  refine bodyPost_ret (v := .agg KS) ?_ rfl ⟨rfl, below_setRow (below_new (Below.refl _ _) _) (Nat.le_refl _) _⟩
  exact results_cell_row rfl _ _ w.heap.size 68 _ (0, 0) _ rfl (setRow_heap _ _ _ _ _ _ HR.out) Tryz.underlying68 rfl H1.out
end Go.Proofs.YtmebdnblobobnaaGreatDoor

namespace Go.Proofs.YtmebdnblobobnaaGreatDoor
set_option maxRecDepth 100000
open Go.RowKit _root_.Go.Proofs.YtmebdnblobobnaaGreatDoor.Wd _root_.Go.Proofs.YtmebdnblobobnaaGreatDoor.Nm _root_.Go.Proofs.YtmebdnblobobnaaGreatDoor.Cm Sm

structure RInv (G0 Gk Gs Gt Gw : Nat) (KS CT : List Value) (w W : World) (S Wd : List (BitVec 32)) : Prop where
  r0 : Row W G0 39 (bc (List.replicate 32 0))
  rk : Row W Gk 68 KS
  rs : Row W Gs 70 (wc S)
  rt : Row W Gt 5 CT
  rw : Row W Gw 68 (wc Wd)
  below : Below G0 w W
  o1 : G0 < Gk
  o2 : Gk < Gs
  o3 : Gs < Gt
  o4 : Gt < Gw
section
variable {G0 Gk Gs Gt Gw : Nat} {KS CT : List Value} {w W : World} {S Wd : List (BitVec 32)}
theorem RInv.drew (h : RInv G0 Gk Gs Gt Gw KS CT w W S Wd) : RInv G0 Gk Gs Gt Gw KS CT w W.drew S Wd :=
  ⟨h.r0, h.rk, h.rs, h.rt, h.rw, h.below.drew, h.o1, h.o2, h.o3, h.o4⟩
theorem RInv.drewN (h : RInv G0 Gk Gs Gt Gw KS CT w W S Wd) (q : Nat) : RInv G0 Gk Gs Gt Gw KS CT w (W.drewN q) S Wd :=
  ⟨h.r0, h.rk, h.rs, h.rt, h.rw, ⟨h.below.os, h.below.tape, h.below.output, h.below.size, h.below.block⟩, h.o1, h.o2, h.o3, h.o4⟩
theorem RInv.setw (h : RInv G0 Gk Gs Gt Gw KS CT w W S Wd) (i : Nat) (c : BitVec 32) : RInv G0 Gk Gs Gt Gw KS CT w (W.setCell ⟨Gw, i, none⟩ (.int .u32 (tn c))) S (Wd.set i c) := by
  have := h.o1; have := h.o2; have := h.o3; have := h.o4
  refine ⟨h.r0.other _ _ (by show G0 ≠ Gw; omega), h.rk.other _ _ (by show Gk ≠ Gw; omega), h.rs.other _ _ (by show Gs ≠ Gw; omega), h.rt.other _ _ (by show Gt ≠ Gw; omega), ?_, below_set h.below _ _ _ (by omega), h.o1, h.o2, h.o3, h.o4⟩
  have e := h.rw.set i (.int .u32 (tn c))
  rw [wc_set] at e
  exact e
theorem RInv.sets (h : RInv G0 Gk Gs Gt Gw KS CT w W S Wd) (i : Nat) (c : BitVec 32) : RInv G0 Gk Gs Gt Gw KS CT w (W.setCell ⟨Gs, i, none⟩ (.int .u32 (tn c))) (S.set i c) Wd := by
  have := h.o1; have := h.o2; have := h.o3; have := h.o4
  refine ⟨h.r0.other _ _ (by show G0 ≠ Gs; omega), h.rk.other _ _ (by show Gk ≠ Gs; omega), ?_, h.rt.other _ _ (by show Gt ≠ Gs; omega), h.rw.other _ _ (by show Gw ≠ Gs; omega), below_set h.below _ _ _ (by omega), h.o1, h.o2, h.o3, h.o4⟩
  have e := h.rs.set i (.int .u32 (tn c))
  rw [wc_set] at e
  exact e
/-- A world in which all blocks up to the words' stand as they stood. -/
theorem RInv.onto {W' : World} (h : RInv G0 Gk Gs Gt Gw KS CT w W S Wd) {B : Nat} (hb : Below B W W') (hB : Gw < B) : RInv G0 Gk Gs Gt Gw KS CT w W' S Wd := by
  have := h.o1; have := h.o2; have := h.o3; have := h.o4
  exact ⟨h.r0.below hb (by omega), h.rk.below hb (by omega), h.rs.below hb (by omega), h.rt.below hb (by omega), h.rw.below hb hB, h.below.trans (hb.mono (by omega)), h.o1, h.o2, h.o3, h.o4⟩
end
theorem word_whole (b : List UInt8) (i : Nat) : wpart b i 4 = (wide (b.getD (4 * i) 0) <<< 24 ||| wide (b.getD (4 * i + 1) 0) <<< 16 ||| wide (b.getD (4 * i + 2) 0) <<< 8) ||| wide (b.getD (4 * i + 3) 0) := by
  simp only [wpart, Nat.add_zero]
  have z : ((0 : BitVec 32) <<< 8) ||| wide (b.getD (4 * i) 0) = wide (b.getD (4 * i) 0) := by simp
  rw [z, BitVec.shiftLeft_or_distrib, BitVec.shiftLeft_or_distrib, BitVec.shiftLeft_or_distrib, ← BitVec.shiftLeft_add, ← BitVec.shiftLeft_add, ← BitVec.shiftLeft_add]
theorem wide_at (x : UInt8) (k : Nat) : (x.toNat : Int) % 4294967296 * (2 : Int) ^ k % 4294967296 = tn (wide x <<< k) := by
  have h2 : (x.toNat : Int) % 4294967296 = tn (wide x) := by rw [tn_wide]; have := x.toNat_lt; omega
  rw [h2, u32_shl]
theorem word_four (a b c d : UInt8) : bits BinOp.or IntKind.u32 (bits BinOp.or IntKind.u32 (bits BinOp.or IntKind.u32 ((a.toNat : Int) % 4294967296 * 16777216 % 4294967296) ((b.toNat : Int) % 4294967296 * 65536 % 4294967296)) ((c.toNat : Int) % 4294967296 * 256 % 4294967296)) ((d.toNat : Int) % 4294967296) =
    tn (((wide a <<< 24 ||| wide b <<< 16) ||| wide c <<< 8) ||| wide d) := by
  have ha := wide_at a 24
  have hb := wide_at b 16
  have hc := wide_at c 8
  have hd : (d.toNat : Int) % 4294967296 = tn (wide d) := by rw [tn_wide]; have := d.toNat_lt; omega
  rw [show (2 : Int) ^ 24 = 16777216 from rfl] at ha
  rw [show (2 : Int) ^ 16 = 65536 from rfl] at hb
  rw [show (2 : Int) ^ 8 = 256 from rfl] at hc
  rw [ha, hb, hc, hd, u32_or, u32_or, u32_or]
theorem pre_set (A B : List (BitVec 32)) (i : Nat) (c : BitVec 32) (hA : A.length = i) (h : i < B.length) : (A ++ B.drop i).set i c = (A ++ [c]) ++ B.drop (i + 1) := by
  subst hA
  rw [List.set_append_right _ _ (Nat.le_refl _), Nat.sub_self, List.drop_eq_getElem_cons h, List.set_cons_zero, List.append_assoc]
  rfl
theorem pre_get (A B : List (BitVec 32)) (j : Nat) (h : j < A.length) : (A ++ B).getD j 0 = A.getD j 0 := by
  simp [List.getD, List.getElem?_append_left h]
end Go.Proofs.YtmebdnblobobnaaGreatDoor

namespace Go.Proofs.YtmebdnblobobnaaGreatDoor
set_option maxRecDepth 100000
open Go.RowKit _root_.Go.Proofs.YtmebdnblobobnaaGreatDoor.Wd _root_.Go.Proofs.YtmebdnblobobnaaGreatDoor.Nm _root_.Go.Proofs.YtmebdnblobobnaaGreatDoor.Cm Sm

theorem lit_own (W : World) (z : Int) (c : UInt8) (h : (c.toNat : Int) = z) : Src Tryz.prog 1 29 (.slice (some ⟨W.heap.size, 0, none⟩) 1 1) 1 (bc [c]) (W.alloc (.cells #[.int .u8 z] 5)) := by
  subst h
  have hs := shows_cells W 5 (0, 0) [c] (by simp)
  have e : (W.alloc (.cells (bc [c]).toArray 5)).heap.size = W.heap.size + 1 := by simp
  rw [← e] at hs
  exact hs.src Tryz.underlying29
theorem beb_next (N : Int) (j k : Nat) (h : j < 8) (hk : 7 - j = k) : (beb N 8).take (j + 1) = (beb N 8).take j ++ [lb N k] := by
  subst hk
  rw [List.take_succ_eq_append_getElem (by rw [beb_len]; exact h)]
  congr 1
  simp [beb]
theorem fill_ne (n j : Nat) (h : j < fill n) : (n + 1 + j) % 64 ≠ 56 := by unfold fill at h; omega
theorem fill_eq (n : Nat) : (n + 1 + fill n) % 64 = 56 := by unfold fill; omega

theorem add_flat (a b : Int) (x y : BitVec 32) (ha : a % 4294967296 = tn x) (hb : b % 4294967296 = tn y) : (a + b) % 4294967296 = tn (x + y) := by
  rw [← u32_add, ← ha, ← hb]
  omega
theorem four_set (A : List UInt8) (x m : Nat) (a b c d : UInt8) (hA : A.length = x) (hm : 4 ≤ m) :
    ((((bc (A ++ List.replicate m 0)).set x (.int .u8 (a.toNat : Int))).set (x + 1) (.int .u8 (b.toNat : Int))).set (x + 2) (.int .u8 (c.toNat : Int))).set (x + 3) (.int .u8 (d.toNat : Int)) = bc ((A ++ [a, b, c, d]) ++ List.replicate (m - 4) 0) := by
  subst hA
  obtain ⟨k, rfl⟩ : ∃ k, m = k + 4 := ⟨m - 4, by omega⟩
  have e : ∀ (l : List UInt8) (i : Nat) (y : UInt8), (bc l).set i (.int .u8 (y.toNat : Int)) = bc (l.set i y) := fun l i y => by unfold bc; rw [← List.map_set]
  rw [e, e, e, e]
  congr 1
  rw [show k + 4 - 4 = k by omega]
  simp [List.replicate_succ, List.set_append_right]
theorem u32_add4 (a b c d : BitVec 32) : (tn a + tn b + tn c + tn d) % 4294967296 = tn (a + b + c + d) := by
  unfold tn
  simp only [BitVec.toNat_add]
  omega
theorem nxt_raw (L : List (BitVec 32)) (n : Nat) :
    (bits BinOp.xor IntKind.u32 (bits BinOp.xor IntKind.u32 (tn (ror (L.getD (n - 2) 0) 17)) (tn (ror (L.getD (n - 2) 0) 19))) (tn (L.getD (n - 2) 0) / 1024) + tn (L.getD (n - 7) 0) +
      bits BinOp.xor IntKind.u32 (bits BinOp.xor IntKind.u32 (tn (ror (L.getD (n - 15) 0) 7)) (tn (ror (L.getD (n - 15) 0) 18))) (tn (L.getD (n - 15) 0) / 8) + tn (L.getD (n - 16) 0)) % 4294967296 = tn (nxt L n) := by
  rw [u32_shr10, u32_shr3]
  simp only [u32_xor]
  rw [u32_add4]
  rfl

set_option maxRecDepth 20000 in
set_option maxHeartbeats 40000000 in
theorem refsum3_any (A : Option Addr) (n cap : Nat) (l : List UInt8) (w : World) (hs : Shows w w.heap.size A n cap l) (hn : n ≤ 1000000000) :
    Calls Tryz.prog 14 #[.slice A n cap] w fun e w' => e = .returned (.agg (bc (sha l)).toArray) ∧ Below w.heap.size w w' := by
  obtain ⟨S, hS⟩ : ∃ S, sha l = S := ⟨_, rfl⟩
  rw [hS]
  have HS := Lib.hid hS
  have HSH := Lib.hid hs
  have HI := Lib.hid infoByte
  have Z24 := Lib.hid (zero_of_info (show (Tryz.prog.info? 39).map (fun i => (i.zero, i.size)) = some (some (.agg (bc (List.replicate 32 0)).toArray), 32) by kernel_rfl)).1
  have Z42 := Lib.hid (zero_of_info (show (Tryz.prog.info? 68).map (fun i => (i.zero, i.size)) = some (some (.agg (wc (wz [])).toArray), 64) by kernel_rfl)).1
  have Z39 := Lib.hid (zero_of_info (show (Tryz.prog.info? 70).map (fun i => (i.zero, i.size)) = some (some (.agg (wc (List.replicate 8 0)).toArray), 8) by kernel_rfl)).1
  have I42 := Lib.hid (show (Tryz.prog.info? 68).map (·.size) = some (wc ks).length by kernel_rfl)
  have I39 := Lib.hid (show (Tryz.prog.info? 70).map (·.size) = some (wc ini.list).length by kernel_rfl)
  have L42 := Lib.hid (show (wc (wz [])).length = (wc ks).length by decide +kernel)
  have L39 := Lib.hid (show (wc (List.replicate 8 0)).length = (wc ini.list).length by decide +kernel)
  obtain ⟨KS, hKS⟩ : ∃ K, wc ks = K := ⟨_, rfl⟩
  obtain ⟨IS, hIS⟩ : ∃ K, wc ini.list = K := ⟨_, rfl⟩
  obtain ⟨ZS, hZS⟩ : ∃ K, wc (wz []) = K := ⟨_, rfl⟩
  have B39 := Lib.hid (show Tryz.prog.built 70 [(0, .int .u32 1779033703), (1, .int .u32 3144134277), (2, .int .u32 1013904242), (3, .int .u32 2773480762), (4, .int .u32 1359893119), (5, .int .u32 2600822924), (6, .int .u32 528734635), (7, .int .u32 1541459225)] = some IS.toArray by rw [← hIS]; kernel_rfl)
  have OKS := Lib.hid (wc_one ks)
  have OIS := Lib.hid (wc_one ini.list)
  have WK := fun w => words_any w
  rw [hKS] at I42 L42 OKS WK
  rw [hIS] at I39 L39 OIS
  rw [hZS] at Z42 L42
  have HWK := Lib.hid WK
  have HKS := Lib.hid hKS
  have HIS := Lib.hid hIS
  have HZS := Lib.hid hZS
  clear hS hs hKS hIS hZS WK
  go_enter Tryz.func14, Tryz.ntmps14
  go_wp2_with (refine wpList_alloc_row rfl 39 rfl (bc (List.replicate 32 0)) Z24.out ?_)
  intro w1 r0 b1 t1
  have s1 := Lib.hid t1
  clear t1
  have R0 := Lib.hid r0
  clear r0
  go_wp2_with fail
  refine (HWK.out w1).mono ?_
  rintro _ w2 ⟨rfl, b2⟩
  go_wp2_with (refine wpList_alloc_row rfl 68 rfl ZS Z42.out ?_)
  intro w3 r3 b3 t3
  have s3 := Lib.hid t3
  clear t3
  have R3 := Lib.hid r3
  clear r3
  go_wp2_with (refine wpList_store_as rfl _ _ _ rfl w2.heap.size KS rfl rfl 68 ZS R3.out I42.out L42.out OKS.out ?_)
  intro w4 rk k4 g4 t4
  have s4 := Lib.hid t4
  clear t4
  have RK := Lib.hid rk
  clear rk R3
  go_wp2_with (first
    | (refine wpList_build_is rfl 70 _ rfl IS.toArray ?_ ?_; (focus (go_simp; exact B39.out)))
    | (refine wpList_alloc_row rfl 70 rfl (wc (List.replicate 8 0)) Z39.out ?_))
  intro w5 r5 b5 t5
  have s5 := Lib.hid t5
  clear t5
  have R5 := Lib.hid r5
  clear r5
  go_wp2_with (refine wpList_store_as rfl _ _ _ rfl w4.heap.size IS rfl rfl 70 _ R5.out I39.out L39.out OIS.out ?_)
  intro w6 rs k6 g6 s6
  have s1 := s1.out
  have s3 := s3.out
  have s4 := s4.out
  have s5 := s5.out
  obtain ⟨G0, e0⟩ : ∃ G, w.heap.size = G := ⟨_, rfl⟩
  obtain ⟨Gk, ek⟩ : ∃ G, w2.heap.size = G := ⟨_, rfl⟩
  obtain ⟨Gs, es⟩ : ∃ G, w4.heap.size = G := ⟨_, rfl⟩
  have d1 : G0 < Gk := by have := b2.size; omega
  have d2 : Gk < Gs := by omega
  have d3 : Gs < w6.heap.size := by omega
  have q0 : Row w6 G0 39 (bc (List.replicate 32 0)) := by
    have h2 := (e0 ▸ R0.out : Row w1 G0 _ _).below b2 (by omega)
    have h3 := h2.below b3 (by omega)
    have h4 : Row w4 G0 _ _ := (k4 G0 (by omega)).trans h3
    have h5 := h4.below b5 (by omega)
    exact (k6 G0 (by omega)).trans h5
  have qk : Row w6 Gk 68 KS := by
    have h5 := (ek ▸ RK.out : Row w4 Gk _ _).below b5 (by omega)
    exact (k6 Gk (by omega)).trans h5
  have qs : Row w6 Gs 70 IS := es ▸ rs
  have bb : Below G0 w w6 := by
    have h2 : Below G0 w w2 := by rw [← e0]; exact b1.trans (b2.mono (by omega))
    have h3 := h2.trans (b3.mono (by omega))
    have h4 := h3.grown g4 (by omega) (by intro k hk; injection hk; omega)
    have h5 := h4.trans (b5.mono (by omega))
    exact h5.grown g6 (by omega) (by intro k hk; injection hk; omega)
  rw [e0, ek, es]
  have E0 := Lib.hid e0
  have Q0 := Lib.hid q0
  have QK := Lib.hid qk
  have QS := Lib.hid qs
  have hs6 : Shows w6 w6.heap.size A n cap l := (HSH.out.below (by rw [e0]; exact bb)).more (by omega)
  clear e0 ek es q0 qk qs rs RK R0 R5 b1 b2 b3 b5 k4 k6 g4 g6 s1 s3 s4 s5 s6
  have HS6 := Lib.hid hs6
  clear hs6
  obtain ⟨i0, hi0, hz0, hz1, hz2⟩ := info_parts HI.out
  have hown0 : (w6.alloc (.cells #[] 5)).ownsRow w6.heap.size 5 1 (.slice (some ⟨w6.heap.size, 0, none⟩) 0 0) 0 (bc []) := World.ownsRow_made w6 #[] 0 (Nat.le_refl _) (Nat.zero_le _) rfl
  have hsrc := (HS6.out.below (below_new (Below.refl _ _) (.cells #[] 5))).src (P := Tryz.prog) Tryz.underlying29
  have HOWN0 := Lib.hid hown0
  have HSRC := Lib.hid hsrc
  have HI0 := Lib.hid hi0
  have HZ0 := Lib.hid hz0
  have HZ1 := Lib.hid hz1
  have HZ2 := Lib.hid hz2
  clear hown0 hsrc hi0 hz0 hz1 hz2
  go_wp2_with (at_builtin; refine wpList_ap _ rfl (.tmp 25) (.tmp 26) 29 29 rfl w6.heap.size 5 i0 Tryz.underlying29 HI0.out HZ0.out HZ1.out HZ2.out _ 0 0 [] rfl HOWN0.out _ n l rfl HSRC.out ?c1 ?c2 ?_)
  case c1 => omega
  case c2 => simp
  intro A1 c1 w7 ho7 _ hg7 _
  have b7 : Below w6.heap.size w6 w7 := (below_new (Below.refl _ _) _).grown hg7 (by simp) (by intro k hk; injection hk with hk; omega)
  have HO7 := Lib.hid (ho7.alloc (.cells #[.int .u8 128] 5))
  have HS7 := Lib.hid (lit_own w7 128 128 rfl)
  have b7a : Below w6.heap.size w6 (w7.alloc (.cells #[.int .u8 128] 5)) := below_new b7 _
  have HB7 := Lib.hid b7a
  clear ho7 hg7 b7 b7a HOWN0 HSRC
  go_wp2_with (at_builtin; refine wpList_ap _ rfl (.tmp 28) (.tmp 29) 29 29 rfl w6.heap.size 5 i0 Tryz.underlying29 HI0.out HZ0.out HZ1.out HZ2.out A1 n c1 l rfl HO7.out _ 1 [128] rfl HS7.out ?c1 ?c2 ?_)
  case c1 => omega
  case c2 => exact HB7.out.size
  intro A2 c2 w8 ho8 _ hg8 _
  have b8 : Below w6.heap.size w6 w8 := HB7.out.grown hg8 HB7.out.size (fun k hk => (own_block HO7.out k hk).1)
  have HO8 := Lib.hid ho8
  clear ho8 hg8 HO7 HS7 HB7
  obtain ⟨F, hF⟩ : ∃ F, fill n = F := ⟨_, rfl⟩
  have hF64 : F < 64 := by rw [← hF]; exact fill_lt n
  have HFF := Lib.hid hF
  clear hF
  go_wp2_with fail
  go_loopw [5] (fun v wr => ∃ (j M : Nat) (A3 : Option Addr) (c3 : Nat), j ≤ F ∧ M = n + 1 + j ∧ v = .slice A3 M c3 ∧ wr.ownsRow w6.heap.size 5 1 (.slice A3 M c3) M (bc (l ++ [128] ++ List.replicate j 0)) ∧ Below w6.heap.size w6 wr) (fun v _ => match v with | .slice _ k _ => (n + 1 + F) - k | _ => 0)
  case atStart => exact ⟨0, n + 1, A2, c2, by omega, rfl, rfl, by rw [List.replicate_zero, List.append_nil]; exact HO8.out, b8⟩
  case round =>
    clear HO8 b8
    obtain ⟨j, M, A3, c3, hj, hM, rfl, hown, hb⟩ := hrel
    by_cases hjF : j < F
    · obtain ⟨k, hk⟩ : ∃ k, M % 64 = k := ⟨_, rfl⟩
      have hmod : ((M : Nat) : Int).tmod 64 = (k : Int) := by rw [Int.tmod_eq_emod_of_nonneg (by omega)]; omega
      have hk56 : ¬ (k : Int) = 56 := by have := fill_ne n j (by rw [HFF.out]; exact hjF); omega
      have HM := Lib.hid hM
      have HO := Lib.hid (hown.alloc (.cells #[.int .u8 0] 5))
      have HSL := Lib.hid (lit_own wr 0 0 rfl)
      have HB := Lib.hid (below_new hb (.cells #[.int .u8 0] 5))
      have hMb : M ≤ 1000000100 := by omega
      clear hown hb hk hM
      go_wp2_with (at_builtin; refine wpList_ap _ rfl (.tmp 35) (.tmp 36) 29 29 rfl w6.heap.size 5 i0 Tryz.underlying29 HI0.out HZ0.out HZ1.out HZ2.out A3 M c3 _ rfl HO.out _ 1 [0] rfl HSL.out ?c1 ?c2 ?_)
      case c1 => omega
      case c2 => exact HB.out.size
      intro A4 c4 w9 ho9 _ hg9 _
      have b9 : Below w6.heap.size w6 w9 := HB.out.grown hg9 HB.out.size (fun k hk => (own_block HO.out k hk).1)
      have HO9 := Lib.hid ho9
      clear ho9 hg9 HO HSL HB
      go_wp2
      go_roundw
      case rel =>
        refine ⟨j + 1, M + 1, A4, c4, by omega, by have := HM.out; omega, rfl, ?_, b9⟩
        rw [show List.replicate (j + 1) (0 : UInt8) = List.replicate j 0 ++ [0] from List.replicate_succ', ← List.append_assoc]
        simpa [List.append_assoc] using HO9.out
      case measure => have := HM.out; simp; omega
    · have hjF2 : j = F := by omega
      have hmod : ((M : Nat) : Int).tmod 64 = 56 := by
        have := fill_eq n
        rw [HFF.out] at this
        rw [Int.tmod_eq_emod_of_nonneg (by omega)]
        omega
      rw [hjF2] at hown hM
      have HOW := Lib.hid hown
      have HM := Lib.hid hM
      have hMb : M ≤ 1000000100 := by omega
      have h8 : (n : Int) * 8 % 18446744073709551616 = 8 * (n : Int) := by omega
      clear hown hM hj hjF hjF2 hF64
      go_wp2_with fail
      obtain ⟨Pr, hPr⟩ : ∃ x, l ++ [128] ++ List.replicate F 0 = x := ⟨_, rfl⟩
      obtain ⟨NN, hNN⟩ : ∃ x : Int, (n : Int) * 8 = x := ⟨_, rfl⟩
      rw [hPr] at HOW
      rw [hNN]
      have HPr := Lib.hid hPr
      have HNN := Lib.hid hNN
      have hNN0 : 0 ≤ NN := by omega
      have hNN1 : NN ≤ 10000000000 := by omega
      clear hPr hNN h8 hmod
      go_loopw [5, 7] (fun v i wr => ∃ (j M2 : Nat) (A4 : Option Addr) (c4 : Nat), j ≤ 8 ∧ M2 = M + j ∧ i = .int .i64 (7 - (j : Int)) ∧ v = .slice A4 M2 c4 ∧ wr.ownsRow w6.heap.size 5 1 (.slice A4 M2 c4) M2 (bc (Pr ++ (beb NN 8).take j)) ∧ Below w6.heap.size w6 wr) (fun _ i _ => (intOf i + 1).toNat)
      case atStart => exact ⟨0, M, A3, c3, by omega, rfl, rfl, rfl, by rw [List.take_zero, List.append_nil]; exact HOW.out, hb⟩
      case round =>
        clear HOW hb
        obtain ⟨j, M2, A4, c4, hj, hM2, rfl, rfl, hown, hb⟩ := hrel
        by_cases hj8 : j < 8
        · obtain ⟨k, hk⟩ : ∃ k, 7 - j = k := ⟨_, rfl⟩
          obtain ⟨t, ht⟩ : ∃ t, 8 * k = t := ⟨_, rfl⟩
          have h7 : (7 : Int) - (j : Int) = (k : Int) := by omega
          have h8k : (8 : Int) * (k : Int) = (t : Int) := by omega
          have hk8 : k ≤ 7 := by omega
          have HSL := Lib.hid (lit_own wr (NN / 2 ^ t % 256) (lb NN k) (by rw [lb_nat, ht]))
          have HO := Lib.hid (hown.alloc (.cells #[.int .u8 (NN / 2 ^ t % 256)] 5))
          have HB := Lib.hid (below_new hb (.cells #[.int .u8 (NN / 2 ^ t % 256)] 5))
          have HM2 := Lib.hid hM2
          have HNX := Lib.hid (beb_next NN j k hj8 hk)
          have hM2b : M2 ≤ 1000000200 := by omega
          rw [h7]
          clear hown hb hk ht hM2
          go_wp2_with (at_builtin; refine wpList_ap _ rfl (.tmp 46) (.tmp 53) 29 29 rfl w6.heap.size 5 i0 Tryz.underlying29 HI0.out HZ0.out HZ1.out HZ2.out A4 M2 c4 _ rfl HO.out _ 1 [lb NN k] rfl HSL.out ?c1 ?c2 ?_)
          case c1 => omega
          case c2 => exact HB.out.size
          intro A5 c5 w9 ho9 _ hg9 _
          have b9 : Below w6.heap.size w6 w9 := HB.out.grown hg9 HB.out.size (fun k hk => (own_block HO.out k hk).1)
          have HO9 := Lib.hid ho9
          clear ho9 hg9 HO HSL HB
          go_wp2
          go_roundw
          case rel =>
            refine ⟨j + 1, M2 + 1, A5, c5, by omega, by have := HM2.out; omega, congrArg (Value.int .i64) (by omega), rfl, ?_, b9⟩
            rw [HNX.out]
            exact HO9.out
          case measure => simp [intOf]
        · have hj2 : j = 8 := by omega
          rw [hj2, List.take_of_length_le (by rw [beb_len]; exact Nat.le_refl _)] at hown
          have hpad : Pr ++ beb NN 8 = pad l := by
            have hll := HSH.out.len
            unfold pad
            rw [← HPr.out, ← HNN.out, hll, HFF.out, show (n : Int) * 8 = ((8 * n : Nat) : Int) by omega]
          rw [hpad] at hown
          obtain ⟨P, hP⟩ : ∃ P, pad l = P := ⟨_, rfl⟩
          rw [hP] at hown
          have hPl : P.length = M2 := by have := hown.1; simpa [bc_len] using this
          have hPQ : M2 % 64 = 0 := by rw [← hPl, ← hP, pad_len]; exact fill_whole _
          obtain ⟨Gt, cap2, cur, hA4, hGt, hheap, hcap1, _, _, htake⟩ : ∃ g cap cur, (Value.slice A4 M2 c4 = .slice (some ⟨g, 0, none⟩) M2 cap) ∧ w6.heap.size ≤ g ∧ wr.heap[g]? = some (.cells cur 5 (0, 0)) ∧ M2 ≤ cap ∧ cap ≤ maxLen ∧ cur.size = cap * 1 ∧ cur.toList.take (M2 * 1) = bc P := by
            rcases hown.2 with ⟨_, h0⟩ | h
            · exfalso
              rw [← hPl, ← hP, pad_len] at h0
              omega
            · exact h
          injection hA4 with hA4 _ hc4
          subst hA4 hc4
          have hrt : Row wr Gt 5 cur.toList := hheap
          have hct : ∀ x, x < M2 → cur.toList[x]? = some (.int .u8 ((P.getD x 0).toNat : Int)) := fun x hx => by
            have h1 := bc_get P x (by omega)
            rw [← htake, List.getElem?_take_of_lt (by omega)] at h1
            rw [h1, List.getD, List.getElem?_eq_getElem (by omega)]
            rfl
          generalize cur.toList = CT at hrt hct
          have HRT := Lib.hid hrt
          have HCT := Lib.hid hct
          have HP := Lib.hid hP
          have HPL := Lib.hid hPl
          have hM2b : M2 ≤ 1000000200 := by omega
          have hneg : (7 : Int) - (j : Int) < 0 := by omega
          clear hown hP hPl hpad hheap htake hrt hct hj2 hj8 hj hM2 hcap1
          go_wp2_with (refine wpList_alloc_row rfl 68 rfl ZS Z42.out ?_)
          intro w10 r10 b10 t10
          obtain ⟨Gw, eGw⟩ : ∃ G, wr.heap.size = G := ⟨_, rfl⟩
          have hGtw : Gt < Gw := by rw [← eGw]; exact HRT.out.lt
          have INV : RInv G0 Gk Gs Gt Gw KS CT w w10 ini.list (wz []) := by
            have e := hb.size
            refine ⟨?_, ?_, ?_, HRT.out.below b10 (by omega), ?_, ?_, d1, d2, by omega, hGtw⟩
            · exact (Q0.out.below hb (by omega)).below b10 (by omega)
            · exact (QK.out.below hb (by omega)).below b10 (by omega)
            · rw [HIS.out]; exact (QS.out.below hb (by omega)).below b10 (by omega)
            · rw [HZS.out, ← eGw]; exact r10
            · exact (bb.trans (hb.mono (by omega))).trans (b10.mono (by omega))
          rw [eGw]
          have HINV := Lib.hid INV
          have HSZ := Lib.hid (show Gw < w10.heap.size by omega)
          have dd : G0 < Gw := by omega
          clear INV r10 b10 t10 eGw hb HRT
          go_wp2_with fail
          go_loopw [9] (fun p wr => ∃ (q pv : Nat) (Wd : List (BitVec 32)), pv = 64 * q ∧ pv ≤ M2 ∧ p = .int .i64 pv ∧ Wd.length = 64 ∧ RInv G0 Gk Gs Gt Gw KS CT w wr (folded P q).list Wd ∧ Gw < wr.heap.size) (fun p _ => M2 - (intOf p).toNat)
          case atStart => exact ⟨0, 0, wz [], rfl, by omega, rfl, rfl, HINV.out, HSZ.out⟩
          case round =>
            clear HINV HSZ bb
            obtain ⟨q, pv, Wd, hpv, hpM, rfl, hWd, hI, hsz⟩ := hrel
            by_cases hlt : pv < M2
            · have hq64 : pv + 64 ≤ M2 := by omega
              obtain ⟨bl, hbl⟩ : ∃ bl, (P.drop (64 * q)).take 64 = bl := ⟨_, rfl⟩
              have hbll : bl.length = 64 := by rw [← hbl, List.length_take, List.length_drop, HPL.out]; omega
              have hbt : ∀ x, x < 64 → CT[pv + x]? = some (.int .u8 ((bl.getD x 0).toNat : Int)) := fun x hx => by
                rw [HCT.out _ (by omega), ← hbl, hpv]
                congr 3
                simp [List.getD, List.getElem?_take_of_lt hx]
              have HBT := Lib.hid hbt
              have HBL := Lib.hid hbl
              have HBLL := Lib.hid hbll
              have HI1 := Lib.hid hI
              have HWD := Lib.hid hWd
              have HPV := Lib.hid hpv
              clear hbt hbl hbll hI hWd hpv
              go_wp2_with fail
              go_loopw [10] (fun i wr => ∃ m : Nat, m ≤ 16 ∧ i = .int .i64 m ∧ RInv G0 Gk Gs Gt Gw KS CT w wr (folded P q).list (sched bl m ++ Wd.drop m) ∧ Gw < wr.heap.size) (fun i _ => 16 - (intOf i).toNat)
              case atStart => exact ⟨0, by omega, rfl, HI1.out, hsz⟩
              case round =>
                clear HI1 hsz
                obtain ⟨m, hm16, rfl, hI, hsz⟩ := hrel
                by_cases hm : m < 16
                · as_aux_lemma =>
                  obtain ⟨x, hx⟩ : ∃ x, pv + 4 * m = x := ⟨_, rfl⟩
                  obtain ⟨x1, hx1⟩ : ∃ y, x + 1 = y := ⟨_, rfl⟩
                  obtain ⟨x2, hx2⟩ : ∃ y, x + 2 = y := ⟨_, rfl⟩
                  obtain ⟨x3, hx3⟩ : ∃ y, x + 3 = y := ⟨_, rfl⟩
                  have c0 : wr.cell? ⟨Gt, x, none⟩ = some (.int .u8 ((bl.getD (4 * m) 0).toNat : Int)) := hI.rt.cell (by rw [← hx]; exact HBT.out _ (by omega))
                  have c1' : wr.cell? ⟨Gt, x1, none⟩ = some (.int .u8 ((bl.getD (4 * m + 1) 0).toNat : Int)) := hI.rt.cell (by rw [show x1 = pv + (4 * m + 1) by omega]; exact HBT.out _ (by omega))
                  have c2' : wr.cell? ⟨Gt, x2, none⟩ = some (.int .u8 ((bl.getD (4 * m + 2) 0).toNat : Int)) := hI.rt.cell (by rw [show x2 = pv + (4 * m + 2) by omega]; exact HBT.out _ (by omega))
                  have c3' : wr.cell? ⟨Gt, x3, none⟩ = some (.int .u8 ((bl.getD (4 * m + 3) 0).toNat : Int)) := hI.rt.cell (by rw [show x3 = pv + (4 * m + 3) by omega]; exact HBT.out _ (by omega))
                  have hlw : (sched bl m ++ Wd.drop m).length = 64 := by rw [List.length_append, sched_len, List.length_drop, HWD.out]; omega
                  have cw := hI.rw.cell (wc_get _ m (by rw [hlw]; omega))
                  have fw := hI.rw.frozen m
                  have hI2 := hI.drew.setw m (wpart bl m 4)
                  rw [pre_set _ _ _ _ (sched_len bl m) (by rw [HWD.out]; omega), show sched bl m ++ [wpart bl m 4] = sched bl (m + 1) by rw [sched, if_pos hm]] at hI2
                  have hv := word_four (bl.getD (4 * m) 0) (bl.getD (4 * m + 1) 0) (bl.getD (4 * m + 2) 0) (bl.getD (4 * m + 3) 0)
                  rw [← word_whole] at hv
                  have HI2 := Lib.hid hI2
                  generalize bl.getD (4 * m) 0 = y0 at c0 hv
                  generalize bl.getD (4 * m + 1) 0 = y1 at c1' hv
                  generalize bl.getD (4 * m + 2) 0 = y2 at c2' hv
                  generalize bl.getD (4 * m + 3) 0 = y3 at c3' hv
                  generalize wpart bl m 4 = ww at hv HI2
                  generalize (sched bl m ++ Wd.drop m).getD m 0 = old at cw
                  have h4 : (pv : Int) + 4 * (m : Int) = (x : Int) := by omega
                  have k1 : (x : Int) + 1 = (x1 : Int) := by omega
                  have k2 : (x : Int) + 2 = (x2 : Int) := by omega
                  have k3 : (x : Int) + 3 = (x3 : Int) := by omega
                  have u1 : IntKind.i64.wrap (x1 : Int) = (x1 : Int) := by rw [IntKind.wrap_i64]; omega
                  have u2 : IntKind.i64.wrap (x2 : Int) = (x2 : Int) := by rw [IntKind.wrap_i64]; omega
                  have u3 : IntKind.i64.wrap (x3 : Int) = (x3 : Int) := by rw [IntKind.wrap_i64]; omega
                  have lm : (m : Int) < 64 := by omega
                  have l0 : (x : Int) < (M2 : Int) := by omega
                  have l1 : (x1 : Int) < (M2 : Int) := by omega
                  have l2 : (x2 : Int) < (M2 : Int) := by omega
                  have l3 : (x3 : Int) < (M2 : Int) := by omega
                  clear hI hI2 hlw hx hx1 hx2 hx3
                  go_wp2_with fail
                  go_still_tail 31, (by kernel_rfl)
                  change wpList _ _ _ _ _ (World.drew _)
                  go_wp2
                  go_roundw
                  case rel => exact ⟨m + 1, by omega, by go_num, HI2.out, by simpa using hsz⟩
                  case measure => simp [intOf]; omega
                · have hm2 : m = 16 := by omega
                  rw [hm2] at hI
                  have HI1 := Lib.hid hI
                  clear hI hm2 hm16
                  go_wp2_with fail
                  go_loopw [12] (fun i wr => ∃ m : Nat, 16 ≤ m ∧ m ≤ 64 ∧ i = .int .i64 m ∧ RInv G0 Gk Gs Gt Gw KS CT w wr (folded P q).list (sched bl m ++ Wd.drop m) ∧ Gw < wr.heap.size) (fun i _ => 64 - (intOf i).toNat)
                  case atStart => exact ⟨16, by omega, by omega, rfl, HI1.out, hsz⟩
                  case round =>
                    clear HI1 hsz
                    obtain ⟨m, hm16, hm64, rfl, hI, hsz⟩ := hrel
                    by_cases hm6 : m < 64
                    · as_aux_lemma =>
                      have hlw : (sched bl m ++ Wd.drop m).length = 64 := by rw [List.length_append, sched_len, List.length_drop, HWD.out]; omega
                      have e2 := hI.rw.cell (wc_get _ (m - 2) (by rw [hlw]; omega))
                      have e7 := hI.rw.cell (wc_get _ (m - 7) (by rw [hlw]; omega))
                      have e15 := hI.rw.cell (wc_get _ (m - 15) (by rw [hlw]; omega))
                      have e16 := hI.rw.cell (wc_get _ (m - 16) (by rw [hlw]; omega))
                      have cw := hI.rw.cell (wc_get _ m (by rw [hlw]; omega))
                      rw [pre_get _ _ _ (by rw [sched_len]; omega)] at e2 e7 e15 e16
                      have fw := hI.rw.frozen m
                      have HNX := Lib.hid (show nxt (sched bl m) m = _ from rfl)
                      have hI2 := fun q2 => ((hI.drewN q2).drew).setw m (nxt (sched bl m) m)
                      rw [pre_set _ _ _ _ (sched_len bl m) (by rw [HWD.out]; omega), show sched bl m ++ [nxt (sched bl m) m] = sched bl (m + 1) by rw [sched, if_neg (by omega)]] at hI2
                      have hv := nxt_raw (sched bl m) m
                      have HI2 := Lib.hid hI2
                      generalize nxt (sched bl m) m = nn at hv HI2
                      generalize (sched bl m).getD (m - 2) 0 = x2 at e2 hv
                      generalize (sched bl m).getD (m - 7) 0 = x7 at e7 hv
                      generalize (sched bl m).getD (m - 15) 0 = x15 at e15 hv
                      generalize (sched bl m).getD (m - 16) 0 = x16 at e16 hv
                      generalize (sched bl m ++ Wd.drop m).getD m 0 = old at cw
                      clear hI hI2 hlw HNX
                      go_wp2_with fail
                      go_quiet (fail)
                      have f7 : (wr.drewN nq).cell? ⟨Gw, m - 7, none⟩ = some (.int .u32 (tn x7)) := e7
                      have f16 : (wr.drewN nq).cell? ⟨Gw, m - 16, none⟩ = some (.int .u32 (tn x16)) := e16
                      have fcw : (wr.drewN nq).cell? ⟨Gw, m, none⟩ = some (.int .u32 (tn old)) := cw
                      have ffw : (wr.drewN nq).frozen? ⟨Gw, m, none⟩ = false := fw
                      have fsz : Gw < (wr.drewN nq).heap.size := hsz
                      have HI3 := Lib.hid (HI2.out nq)
                      clear e2 e7 e15 e16 cw fw HI2 hsz
                      generalize wr.drewN nq = wq at f7 f16 fcw ffw fsz HI3 ⊢
                      obtain ⟨p7, q7⟩ : ∃ p, m - 7 = p := ⟨_, rfl⟩
                      obtain ⟨p16, q16⟩ : ∃ p, m - 16 = p := ⟨_, rfl⟩
                      have i7 : IntKind.i64.wrap ((m : Int) - 7) = (p7 : Int) := by rw [IntKind.wrap_i64]; omega
                      have i16 : IntKind.i64.wrap ((m : Int) - 16) = (p16 : Int) := by rw [IntKind.wrap_i64]; omega
                      have l7 : (p7 : Int) < 64 := by omega
                      have l16 : (p16 : Int) < 64 := by omega
                      have lm : (m : Int) < 64 := by omega
                      rw [q7] at f7
                      rw [q16] at f16
                      clear q7 q16
                      go_wp2_with fail
                      go_still_tail 29, (by kernel_rfl)
                      still_call ((rot_17 _ _).mono fun _ _ ⟨h1, h2⟩ => ⟨h1, h2.symm⟩)
                      repeat still_step
                      still_call ((rot_19 _ _).mono fun _ _ ⟨h1, h2⟩ => ⟨h1, h2.symm⟩)
                      repeat still_step
                      still_call ((rot_7 _ _).mono fun _ _ ⟨h1, h2⟩ => ⟨h1, h2.symm⟩)
                      repeat still_step
                      still_call ((rot_18 _ _).mono fun _ _ ⟨h1, h2⟩ => ⟨h1, h2.symm⟩)
                      repeat still_step
                      refine wpStill_nil ?_
                      change wpList _ _ _ _ _ (World.drew _)
                      go_wp2
                      go_roundw
                      case rel => exact ⟨m + 1, by omega, by omega, by go_num, HI3.out, by simpa using fsz⟩
                      case measure => simp [intOf]; omega
                    · obtain ⟨Ww, hWw⟩ : ∃ x, sched bl m = x := ⟨_, rfl⟩
                      have hm2 : m = 64 := by omega
                      rw [hWw, List.drop_eq_nil_of_le (by rw [HWD.out]; omega), List.append_nil] at hI
                      have hWl : Ww.length = 64 := by rw [← hWw, sched_len, hm2]
                      obtain ⟨st, hst⟩ : ∃ s, folded P q = s := ⟨_, rfl⟩
                      rw [hst] at hI
                      have HFIN := Lib.hid (show folded P (q + 1) = st.plus (rounds Ww st 64) by
                        rw [show folded P (q + 1) = comp (folded P q) ((P.drop (64 * q)).take 64) from rfl, hst, HBL.out, comp, ← hWw, hm2])
                      have HWL := Lib.hid hWl
                      have HI4 := Lib.hid hI
                      have I8 := Lib.hid (show (Tryz.prog.info? 70).map (·.size) = some (wc st.list).toArray.size by rw [List.size_toArray, wc_len, St.list_len]; kernel_rfl)
                      have I8b := Lib.hid (show (Tryz.prog.info? 70).map (·.size) = some (wc st.list).length by rw [wc_len, St.list_len]; kernel_rfl)
                      have L8 := Lib.hid (show (wc (List.replicate 8 0)).length = (wc st.list).length by rw [wc_len, wc_len, St.list_len]; rfl)
                      have O8 := Lib.hid (wc_one st.list)
                      clear hI hm2 hm16 hm64 hWw hWl hst
                      go_wp2_with (first
                        | (refine wpList_load_row rfl _ _ rfl Gs rfl _ _ (0, 0) _ HI4.out.rs Tryz.underlying70 rfl I8.out ?_)
                        | (refine wpList_alloc_row rfl 70 rfl (wc (List.replicate 8 0)) Z39.out ?_))
                      intro v1 ra ba ta
                      obtain ⟨Ga, eGa⟩ : ∃ G, wr.heap.size = G := ⟨_, rfl⟩
                      have hI5 := HI4.out.onto ba hsz
                      rw [eGa] at ra
                      rw [eGa]
                      have hGa : Gw < Ga := by omega
                      have hsz5 : Ga < v1.heap.size := by omega
                      have RA := Lib.hid ra
                      have HI5 := Lib.hid hI5
                      clear ra ba ta eGa hI5 hsz HI4
                      go_wp2_with (refine wpList_store_as rfl _ _ _ rfl Ga (wc st.list) rfl rfl 70 _ RA.out I8b.out L8.out O8.out ?_)
                      intro v2 ra ka ga ta
                      have hI6 := HI5.out.onto (B := Ga) ((Below.refl _ _).grown ga (by omega) (by intro k hk; injection hk; omega)) (by omega)
                      have hsz6 : Ga < v2.heap.size := by omega
                      have RA2 := Lib.hid ra
                      have HI6 := Lib.hid hI6
                      obtain ⟨N64, hN64⟩ : ∃ N, 64 = N := ⟨_, rfl⟩
                      obtain ⟨RR, hRR⟩ : ∃ R, rounds Ww st N64 = R := ⟨_, rfl⟩
                      have HFIN2 := Lib.hid (show folded P (q + 1) = st.plus RR by rw [HFIN.out, hN64, hRR])
                      have HRR := Lib.hid hRR
                      have HN64 := Lib.hid hN64
                      clear ra ka ga ta hI6 RA HI5 hsz5 HFIN hRR hN64
                      go_wp2_with fail
                      go_loopw [16, 17, 18, 19] (fun i _ _ _ wr => ∃ k : Nat, k ≤ 64 ∧ i = .int .i64 k ∧ Row wr Ga 70 (wc (rounds Ww st k).list) ∧ RInv G0 Gk Gs Gt Gw KS CT w wr st.list Ww ∧ Ga < wr.heap.size) (fun i _ _ _ _ => 64 - (intOf i).toNat)
                      case atStart => exact ⟨0, by omega, rfl, RA2.out, HI6.out, hsz6⟩
                      case round =>
                        clear RA2 HI6 hsz6
                        obtain ⟨k, hk64, rfl, hra, hI, hsz⟩ := hrel
                        by_cases hk : k < 64
                        · have x0 : wr.cell? ⟨Ga, 0, none⟩ = some (.int .u32 (tn (rounds Ww st k).a)) := hra.cell rfl
                          have x1 : wr.cell? ⟨Ga, 1, none⟩ = some (.int .u32 (tn (rounds Ww st k).b)) := hra.cell rfl
                          have x2 : wr.cell? ⟨Ga, 2, none⟩ = some (.int .u32 (tn (rounds Ww st k).c)) := hra.cell rfl
                          have x3 : wr.cell? ⟨Ga, 3, none⟩ = some (.int .u32 (tn (rounds Ww st k).d)) := hra.cell rfl
                          have x4 : wr.cell? ⟨Ga, 4, none⟩ = some (.int .u32 (tn (rounds Ww st k).e)) := hra.cell rfl
                          have x5 : wr.cell? ⟨Ga, 5, none⟩ = some (.int .u32 (tn (rounds Ww st k).f)) := hra.cell rfl
                          have x6 : wr.cell? ⟨Ga, 6, none⟩ = some (.int .u32 (tn (rounds Ww st k).g)) := hra.cell rfl
                          have x7 : wr.cell? ⟨Ga, 7, none⟩ = some (.int .u32 (tn (rounds Ww st k).h)) := hra.cell rfl
                          have ck : wr.cell? ⟨Gk, k, none⟩ = some (.int .u32 (tn (ks.getD k 0))) := hI.rk.cell (by rw [← HKS.out]; exact wc_get ks k hk)
                          have cw : wr.cell? ⟨Gw, k, none⟩ = some (.int .u32 (tn (Ww.getD k 0))) := hI.rw.cell (wc_get Ww k (by rw [HWL.out]; exact hk))
                          have HSTEP := Lib.hid (show rounds Ww st (k + 1) = (rounds Ww st k).step (ks.getD k 0) (Ww.getD k 0) from rfl)
                          have HRA := Lib.hid hra
                          have HI7 := Lib.hid hI
                          clear hra hI
                          generalize rounds Ww st k = s at x0 x1 x2 x3 x4 x5 x6 x7 HSTEP HRA ⊢
                          generalize ks.getD k 0 = kk at ck HSTEP
                          generalize Ww.getD k 0 = wk at cw HSTEP
                          have lk : (k : Int) < 64 := by omega
                          go_wp2_with fail
                          go_quiet (first | (with_reducible exact rotq_6 _ _ _) | (with_reducible exact rotq_11 _ _ _) | (with_reducible exact rotq_25 _ _ _))
                          have y0 : (wr.drewN nq).cell? ⟨Ga, 0, none⟩ = some (.int .u32 (tn s.a)) := x0
                          have y1 : (wr.drewN nq).cell? ⟨Ga, 1, none⟩ = some (.int .u32 (tn s.b)) := x1
                          have y2 : (wr.drewN nq).cell? ⟨Ga, 2, none⟩ = some (.int .u32 (tn s.c)) := x2
                          have y3 : (wr.drewN nq).cell? ⟨Ga, 3, none⟩ = some (.int .u32 (tn s.d)) := x3
                          have y4 : (wr.drewN nq).cell? ⟨Ga, 4, none⟩ = some (.int .u32 (tn s.e)) := x4
                          have y5 : (wr.drewN nq).cell? ⟨Ga, 5, none⟩ = some (.int .u32 (tn s.f)) := x5
                          have y6 : (wr.drewN nq).cell? ⟨Ga, 6, none⟩ = some (.int .u32 (tn s.g)) := x6
                          have y7 : (wr.drewN nq).cell? ⟨Ga, 7, none⟩ = some (.int .u32 (tn s.h)) := x7
                          have hsz2 : Ga < (wr.drewN nq).heap.size := hsz
                          have HRB : Hid (Row (wr.drewN nq) Ga 70 (wc s.list)) := HRA.out
                          have HI8 := Lib.hid (HI7.out.drewN nq)
                          clear x0 x1 x2 x3 x4 x5 x6 x7 ck cw HRA HI7 hsz
                          generalize wr.drewN nq = wq at y0 y1 y2 y3 y4 y5 y6 y7 hsz2 HRB HI8 ⊢
                          go_wp2_with fail
                          go_quiet (first | (with_reducible exact rotq_2 _ _ _) | (with_reducible exact rotq_13 _ _ _) | (with_reducible exact rotq_22 _ _ _))
                          have z0 : (wq.drewN nq).cell? ⟨Ga, 0, none⟩ = some (.int .u32 (tn s.a)) := y0
                          have z1 : (wq.drewN nq).cell? ⟨Ga, 1, none⟩ = some (.int .u32 (tn s.b)) := y1
                          have z2 : (wq.drewN nq).cell? ⟨Ga, 2, none⟩ = some (.int .u32 (tn s.c)) := y2
                          have z3 : (wq.drewN nq).cell? ⟨Ga, 3, none⟩ = some (.int .u32 (tn s.d)) := y3
                          have z4 : (wq.drewN nq).cell? ⟨Ga, 4, none⟩ = some (.int .u32 (tn s.e)) := y4
                          have z5 : (wq.drewN nq).cell? ⟨Ga, 5, none⟩ = some (.int .u32 (tn s.f)) := y5
                          have z6 : (wq.drewN nq).cell? ⟨Ga, 6, none⟩ = some (.int .u32 (tn s.g)) := y6
                          have z7 : (wq.drewN nq).cell? ⟨Ga, 7, none⟩ = some (.int .u32 (tn s.h)) := y7
                          have hsz3 : Ga < (wq.drewN nq).heap.size := hsz2
                          have HRC : Hid (Row (wq.drewN nq) Ga 70 (wc s.list)) := HRB.out
                          have HI9 := Lib.hid (HI8.out.drewN nq)
                          clear y0 y1 y2 y3 y4 y5 y6 y7 HRB HI8 hsz2
                          generalize wq.drewN nq = wz2 at z0 z1 z2 z3 z4 z5 z6 z7 hsz3 HRC HI9 ⊢
                          have I8c := Lib.hid (show (Tryz.prog.info? 70).map (·.size) = some (wc (s.step kk wk).list).length by rw [wc_len, St.list_len]; kernel_rfl)
                          have L8c := Lib.hid (show (wc s.list).length = (wc (s.step kk wk).list).length by rw [wc_len, wc_len]; rfl)
                          have O8c := Lib.hid (wc_one (s.step kk wk).list)
                          go_wp2_with (refine wpList_store_as rfl _ _ _ rfl Ga (wc (s.step kk wk).list) rfl ?_ 70 _ HRC.out I8c.out L8c.out O8c.out ?_)
                          · show Value.agg #[_, _, _, _, _, _, _, _] = _
                            rw [add_flat _ _ _ _ (step_x s kk wk) (step_y s), add_flat _ _ _ _ (tn_mod s.d) (step_x s kk wk)]
                            rfl
                          intro v3 ra3 ka3 ga3 ta3
                          have hI10 := HI9.out.onto (B := Ga) ((Below.refl _ _).grown ga3 (by omega) (by intro k hk; injection hk; omega)) (by omega)
                          have hsz4 : Ga < v3.heap.size := by omega
                          rw [← HSTEP.out] at ra3
                          have HRD := Lib.hid ra3
                          have HI10 := Lib.hid hI10
                          clear ra3 ka3 ga3 ta3 hI10 HI9 HRC hsz3 z0 z1 z2 z3 z4 z5 z6 z7
                          go_wp2
                          go_roundw
                          case rel => exact ⟨k + 1, by omega, by go_num, HRD.out, HI10.out, hsz4⟩
                          case measure => simp [intOf]; omega
                        · have hk2 : k = N64 := by have := HN64.out; omega
                          rw [hk2, HRR.out] at hra
                          obtain ⟨FF, hFF⟩ : ∃ F, (st.plus RR).list = F := ⟨_, rfl⟩
                          have hFl : FF.length = 8 := by rw [← hFF]; rfl
                          have HFF2 := Lib.hid hFF
                          have HFL := Lib.hid hFl
                          have HRA := Lib.hid hra
                          have HI7 := Lib.hid hI
                          clear hk2 hk64 hra hI hFF hFl
                          go_wp2_with fail
                          go_loopw [20] (fun i wr => ∃ t : Nat, t ≤ 8 ∧ i = .int .i64 t ∧ Row wr Ga 70 (wc RR.list) ∧ RInv G0 Gk Gs Gt Gw KS CT w wr (FF.take t ++ st.list.drop t) Ww ∧ Ga < wr.heap.size) (fun i _ => 8 - (intOf i).toNat)
                          case atStart => exact ⟨0, by omega, rfl, HRA.out, HI7.out, hsz⟩
                          case round =>
                            clear HRA HI7 hsz
                            obtain ⟨t, ht8, rfl, hra, hI, hsz⟩ := hrel
                            have hGsa : Gs < Ga := by have := hI.o3; have := hI.o4; omega
                            by_cases ht : t < 8
                            · have hlS : (FF.take t ++ st.list.drop t).length = 8 := by rw [List.length_append, List.length_take, List.length_drop, HFL.out, St.list_len]; omega
                              have cS := hI.rs.cell (wc_get _ t (by rw [hlS]; exact ht))
                              rw [upto_get FF st.list t HFL.out ht] at cS
                              have fS := hI.rs.frozen t
                              have cA := hra.cell (wc_get _ t (by rw [St.list_len]; exact ht))
                              have hv : (tn (st.list.getD t 0) + tn (RR.list.getD t 0)) % 4294967296 = tn (FF.getD t 0) := by rw [u32_add, ← HFF2.out, plus_get]
                              have hI2 := hI.drew.sets t (FF.getD t 0)
                              rw [upto_set FF st.list t HFL.out rfl ht] at hI2
                              have hr2 := hra.drew.other ⟨Gs, t, none⟩ (.int .u32 (tn (FF.getD t 0))) (by show Ga ≠ Gs; omega)
                              have HI8 := Lib.hid hI2
                              have HR2 := Lib.hid hr2
                              generalize FF.getD t 0 = ff at hv HI8 HR2
                              generalize st.list.getD t 0 = sf at hv cS
                              generalize RR.list.getD t 0 = rf at hv cA
                              have lt8 : (t : Int) < 8 := by omega
                              clear hI hra hI2 hr2 hlS
                              go_wp2_with fail
                              go_still_tail 8, (by kernel_rfl)
                              change wpList _ _ _ _ _ (World.drew _)
                              go_wp2
                              go_roundw
                              case rel => exact ⟨t + 1, by omega, by go_num, HR2.out, HI8.out, by simpa using hsz⟩
                              case measure => simp [intOf]; omega
                            · have ht2 : t = 8 := by omega
                              rw [ht2, List.take_of_length_le (by rw [HFL.out]; exact Nat.le_refl _), List.drop_eq_nil_of_le (by rw [St.list_len]; exact Nat.le_refl _), List.append_nil, ← HFF2.out, ← HFIN2.out] at hI
                              have HI8 := Lib.hid hI
                              clear ht2 ht8 hI hra
                              go_wp2
                              go_roundw
                              case rel => exact ⟨q + 1, pv + 64, Ww, by have := HPV.out; omega, by omega, by go_num, HWL.out, HI8.out, by omega⟩
                              case measure => simp [intOf]; omega
            · as_aux_lemma =>
              have hq2 : q = M2 / 64 := by omega
              have hpv2 : pv = M2 := by omega
              rw [hq2] at hI
              obtain ⟨st, hst⟩ : ∃ s, folded P (M2 / 64) = s := ⟨_, rfl⟩
              rw [hst] at hI
              have hSo : out st = S := by rw [← HS.out, sha, HP.out, HPL.out, hst]
              have HSO := Lib.hid hSo
              have HI4 := Lib.hid hI
              have HSL := Lib.hid (show S.length = 32 by rw [← HS.out, sha_len])
              clear hI hst hSo hq2 hpv hWd
              go_wp2_with (refine wpList_alloc_row rfl 39 rfl (bc (List.replicate 32 0)) Z24.out ?_)
              intro v1 ra ba ta
              obtain ⟨Go, eGo⟩ : ∃ G, wr.heap.size = G := ⟨_, rfl⟩
              have hI5 := HI4.out.onto ba hsz
              rw [eGo] at ra
              rw [eGo]
              have hGo : Gw < Go := by omega
              have RO := Lib.hid ra
              have HI5 := Lib.hid hI5
              clear ra ba ta eGo hI5 hsz HI4 hpv2
              go_wp2_with fail
              go_loopw [22] (fun i wr => ∃ t : Nat, t ≤ 8 ∧ i = .int .i64 t ∧ Row wr Go 39 (bc (S.take (4 * t) ++ List.replicate (32 - 4 * t) 0)) ∧ RInv G0 Gk Gs Gt Gw KS CT w wr st.list Wd) (fun i _ => 8 - (intOf i).toNat)
              case atStart => exact ⟨0, by omega, rfl, RO.out, HI5.out⟩
              case round =>
                clear RO HI5
                obtain ⟨t, ht8, rfl, hro, hI⟩ := hrel
                have hGso : Gs < Go := by have := hI.o3; have := hI.o4; omega
                by_cases ht : t < 8
                · as_aux_lemma =>
                  obtain ⟨c, hc⟩ : ∃ c, st.list.getD t 0 = c := ⟨_, rfl⟩
                  have hbe : (S.drop (4 * t)).take 4 = [lb (tn c) 3, lb (tn c) 2, lb (tn c) 1, lb (tn c) 0] := by rw [← HSO.out, out_at st t ht, hc]; rfl
                  obtain ⟨x0, hx0⟩ : ∃ y, 4 * t = y := ⟨_, rfl⟩
                  have hb3 : tn c / 16777216 = ((lb (tn c) 3).toNat : Int) := by rw [lb_nat]; have := tn_bd c; show tn c / 16777216 = tn c / 16777216 % 256; omega
                  have hb2 : tn c / 65536 % 256 = ((lb (tn c) 2).toNat : Int) := by rw [lb_nat]; rfl
                  have hb1 : tn c / 256 % 256 = ((lb (tn c) 1).toNat : Int) := by rw [lb_nat]; rfl
                  have hb0 : tn c % 256 = ((lb (tn c) 0).toNat : Int) := by rw [lb_nat]; simp
                  have hn1 := tn_bd c
                  obtain ⟨x1, hx1⟩ : ∃ y, x0 + 1 = y := ⟨_, rfl⟩
                  obtain ⟨x2, hx2⟩ : ∃ y, x0 + 2 = y := ⟨_, rfl⟩
                  obtain ⟨x3, hx3⟩ : ∃ y, x0 + 3 = y := ⟨_, rfl⟩
                  have bw3 : IntKind.u8.wrap ((lb (tn c) 3).toNat : Int) = ((lb (tn c) 3).toNat : Int) := by rw [IntKind.wrap_u8]; have := (lb (tn c) 3).toNat_lt; omega
                  have bw2 : IntKind.u8.wrap (tn c / 65536) = ((lb (tn c) 2).toNat : Int) := by rw [IntKind.wrap_u8, hb2]
                  have bw1 : IntKind.u8.wrap (tn c / 256) = ((lb (tn c) 1).toNat : Int) := by rw [IntKind.wrap_u8, hb1]
                  have bw0 : IntKind.u8.wrap (tn c) = ((lb (tn c) 0).toNat : Int) := by rw [IntKind.wrap_u8, hb0]
                  have cS := hI.rs.cell (wc_get _ t (by rw [St.list_len]; exact ht))
                  rw [hc] at cS
                  have hA : (S.take x0).length = x0 := by rw [List.length_take, HSL.out]; omega
                  rw [hx0] at hro hbe
                  have hr4 := (((hro.drew.set x0 (.int .u8 ((lb (tn c) 3).toNat : Int))).set (x0 + 1) (.int .u8 ((lb (tn c) 2).toNat : Int))).set (x0 + 2) (.int .u8 ((lb (tn c) 1).toNat : Int))).set (x0 + 3) (.int .u8 ((lb (tn c) 0).toNat : Int))
                  rw [four_set (S.take x0) x0 (32 - x0) _ _ _ _ hA (by omega), ← hbe, ← List.take_add, show 32 - x0 - 4 = 32 - (x0 + 4) by omega] at hr4
                  rw [hx1, hx2, hx3] at hr4
                  have hin : RInv G0 Gk Gs Gt Gw KS CT w ((((wr.drew.setCell ⟨Go, x0, none⟩ (.int .u8 ((lb (tn c) 3).toNat : Int))).setCell ⟨Go, x1, none⟩ (.int .u8 ((lb (tn c) 2).toNat : Int))).setCell ⟨Go, x2, none⟩ (.int .u8 ((lb (tn c) 1).toNat : Int))).setCell ⟨Go, x3, none⟩ (.int .u8 ((lb (tn c) 0).toNat : Int))) st.list Wd :=
                    hI.drew.onto (B := Go) (below_set (below_set (below_set (below_set (Below.refl _ _) _ _ _ (Nat.le_refl _)) _ _ _ (Nat.le_refl _)) _ _ _ (Nat.le_refl _)) _ _ _ (Nat.le_refl _)) hGo
                  have hold : ∀ y, y < 32 → ∃ v, wr.cell? ⟨Go, y, none⟩ = some v := fun y hy => ⟨_, hro.cell (List.getElem?_eq_getElem (by rw [bc_len, List.length_append, List.length_replicate, hA]; omega))⟩
                  obtain ⟨o0, p0⟩ := hold x0 (by omega)
                  obtain ⟨o1, p1⟩ := hold x1 (by omega)
                  obtain ⟨o2, p2⟩ := hold x2 (by omega)
                  obtain ⟨o3, p3⟩ := hold x3 (by omega)
                  have g0 := hro.frozen x0
                  have g1 := hro.frozen x1
                  have g2 := hro.frozen x2
                  have g3 := hro.frozen x3
                  have m0 : IntKind.i64.wrap (4 * (t : Int)) = (x0 : Int) := by rw [IntKind.wrap_i64]; omega
                  have lt8 : (t : Int) < 8 := by omega
                  have lx0 : (x0 : Int) < 32 := by omega
                  have lx1 : (x1 : Int) < 32 := by omega
                  have mm1 : IntKind.i64.wrap ((x0 : Int) + 1) = (x1 : Int) := by rw [IntKind.wrap_i64]; omega
                  have lx2 : (x2 : Int) < 32 := by omega
                  have mm2 : IntKind.i64.wrap ((x0 : Int) + 2) = (x2 : Int) := by rw [IntKind.wrap_i64]; omega
                  have lx3 : (x3 : Int) < 32 := by omega
                  have mm3 : IntKind.i64.wrap ((x0 : Int) + 3) = (x3 : Int) := by rw [IntKind.wrap_i64]; omega
                  have HR4 := Lib.hid hr4
                  have HIN := Lib.hid hin
                  have HX0 := Lib.hid hx0
                  have ne1 : ¬ x1 = x0 := by omega
                  have ne2 : ¬ x2 = x0 := by omega
                  have ne3 : ¬ x2 = x1 := by omega
                  have ne4 : ¬ x3 = x0 := by omega
                  have ne5 : ¬ x3 = x1 := by omega
                  have ne6 : ¬ x3 = x2 := by omega
                  have ne7 : ¬ x0 = x1 := by omega
                  have ne8 : ¬ x0 = x2 := by omega
                  have ne9 : ¬ x1 = x2 := by omega
                  have ne10 : ¬ x0 = x3 := by omega
                  have ne11 : ¬ x1 = x3 := by omega
                  have ne12 : ¬ x2 = x3 := by omega
                  clear hx1 hx2 hx3 hc hbe hx0 hro hI hA hr4 hin hold
                  generalize lb (tn c) 3 = L3 at hb3 bw3 HR4 HIN
                  generalize lb (tn c) 2 = L2 at hb2 bw2 HR4 HIN
                  generalize lb (tn c) 1 = L1 at hb1 bw1 HR4 HIN
                  generalize lb (tn c) 0 = L0 at hb0 bw0 HR4 HIN
                  go_wp2_with fail
                  refine wp_region_held_drew (S := fun W => W.cell? ⟨Gs, t, none⟩ = some (.int .u32 (tn c))) (by as_aux_lemma => kernel_rfl) cS (fun hH0 => ?_)
                  refine wpAnyH_take (i := 0) (v := ?_) rfl (by as_aux_lemma => kernel_rfl) (by as_aux_lemma => kernel_rfl) (by as_aux_lemma => kernel_rfl) (fun _ _ _ h => h) (Or.inl ⟨by rfl, ?_⟩) (by assumption) ?_
                  rotate_left
                  · intro w' hS'; have hS2 : w'.cell? ⟨Gs, t, none⟩ = _ := hS'; go_simp; try exact rfl
                  try simp only [Act.put, List.getElem_toArray, List.getElem_cons_zero, List.setIfInBounds_toArray, List.set_cons_zero, List.set_cons_succ]
                  refine wpAnyH_take (i := 1) (v := ?_) rfl (by as_aux_lemma => kernel_rfl) (by as_aux_lemma => kernel_rfl) (by as_aux_lemma => kernel_rfl) (fun _ _ _ h => h) (Or.inl ⟨by rfl, ?_⟩) (by assumption) ?_
                  rotate_left
                  · intro w' hS'; have hS2 : w'.cell? ⟨Gs, t, none⟩ = _ := hS'; go_simp; try exact rfl
                  try simp only [Act.put, List.getElem_toArray, List.getElem_cons_succ, List.getElem_cons_zero, List.setIfInBounds_toArray, List.set_cons_zero, List.set_cons_succ]
                  refine wpAnyH_take (i := 2) (v := ?_) rfl (by as_aux_lemma => kernel_rfl) (by as_aux_lemma => kernel_rfl) (by as_aux_lemma => kernel_rfl) (fun _ _ _ h => h) (Or.inl ⟨by rfl, ?_⟩) (by assumption) ?_
                  rotate_left
                  · intro w' hS'; have hS2 : w'.cell? ⟨Gs, t, none⟩ = _ := hS'; go_simp; try exact rfl
                  try simp only [Act.put, List.getElem_toArray, List.getElem_cons_succ, List.getElem_cons_zero, List.setIfInBounds_toArray, List.set_cons_zero, List.set_cons_succ]
                  refine wpAnyH_take (i := 3) (v := ?_) rfl (by as_aux_lemma => kernel_rfl) (by as_aux_lemma => kernel_rfl) (by as_aux_lemma => kernel_rfl) (fun _ _ _ h => h) (Or.inl ⟨by rfl, ?_⟩) (by assumption) ?_
                  rotate_left
                  · intro w' hS'; have hS2 : w'.cell? ⟨Gs, t, none⟩ = _ := hS'; go_simp; try exact rfl
                  try simp only [Act.put, List.getElem_toArray, List.getElem_cons_succ, List.getElem_cons_zero, List.setIfInBounds_toArray, List.set_cons_zero, List.set_cons_succ]
                  refine wpAnyH_take (i := 4) (v := ?_) rfl (by as_aux_lemma => kernel_rfl) (by as_aux_lemma => kernel_rfl) (by as_aux_lemma => kernel_rfl) (fun _ _ _ h => h) (Or.inl ⟨by rfl, ?_⟩) (by assumption) ?_
                  rotate_left
                  · intro w' hS'; have hS2 : w'.cell? ⟨Gs, t, none⟩ = _ := hS'; go_simp; try exact rfl
                  try simp only [Act.put, List.getElem_toArray, List.getElem_cons_succ, List.getElem_cons_zero, List.setIfInBounds_toArray, List.set_cons_zero, List.set_cons_succ]
                  refine wpAnyH_take (i := 5) (v := ?_) rfl (by as_aux_lemma => kernel_rfl) (by as_aux_lemma => kernel_rfl) (by as_aux_lemma => kernel_rfl) (fun _ _ _ h => h) (Or.inl ⟨by rfl, ?_⟩) (by assumption) ?_
                  rotate_left
                  · intro w' hS'; have hS2 : w'.cell? ⟨Gs, t, none⟩ = _ := hS'; go_simp; try exact rfl
                  try simp only [Act.put, List.getElem_toArray, List.getElem_cons_succ, List.getElem_cons_zero, List.setIfInBounds_toArray, List.set_cons_zero, List.set_cons_succ]
                  refine wpAnyH_take (i := 6) (v := ?_) rfl (by as_aux_lemma => kernel_rfl) (by as_aux_lemma => kernel_rfl) (by as_aux_lemma => kernel_rfl) (fun _ _ _ h => h) (Or.inl ⟨by rfl, ?_⟩) (by assumption) ?_
                  rotate_left
                  · intro w' hS'; have hS2 : w'.cell? ⟨Gs, t, none⟩ = _ := hS'; go_simp; try exact rfl
                  try simp only [Act.put, List.getElem_toArray, List.getElem_cons_succ, List.getElem_cons_zero, List.setIfInBounds_toArray, List.set_cons_zero, List.set_cons_succ]
                  refine wpAnyH_take (i := 7) (v := ?_) rfl (by as_aux_lemma => kernel_rfl) (by as_aux_lemma => kernel_rfl) (by as_aux_lemma => kernel_rfl) (fun _ _ _ h => h) (Or.inl ⟨by rfl, ?_⟩) (by assumption) ?_
                  rotate_left
                  · intro w' hS'; have hS2 : w'.cell? ⟨Gs, t, none⟩ = _ := hS'; go_simp; try exact rfl
                  try simp only [Act.put, List.getElem_toArray, List.getElem_cons_succ, List.getElem_cons_zero, List.setIfInBounds_toArray, List.set_cons_zero, List.set_cons_succ]
                  refine wpAnyH_take (i := 8) (v := ?_) rfl (by as_aux_lemma => kernel_rfl) (by as_aux_lemma => kernel_rfl) (by as_aux_lemma => kernel_rfl) (fun _ _ _ h => h) (Or.inl ⟨by rfl, ?_⟩) (by assumption) ?_
                  rotate_left
                  · intro w' hS'; have hS2 : w'.cell? ⟨Gs, t, none⟩ = _ := hS'; go_simp; try exact rfl
                  try simp only [Act.put, List.getElem_toArray, List.getElem_cons_succ, List.getElem_cons_zero, List.setIfInBounds_toArray, List.set_cons_zero, List.set_cons_succ]
                  refine wpAnyH_take (i := 9) (v := ?_) rfl (by as_aux_lemma => kernel_rfl) (by as_aux_lemma => kernel_rfl) (by as_aux_lemma => kernel_rfl) (fun _ _ _ h => h) (Or.inl ⟨by rfl, ?_⟩) (by assumption) ?_
                  rotate_left
                  · intro w' hS'; have hS2 : w'.cell? ⟨Gs, t, none⟩ = _ := hS'; go_simp; try exact rfl
                  try simp only [Act.put, List.getElem_toArray, List.getElem_cons_succ, List.getElem_cons_zero, List.setIfInBounds_toArray, List.set_cons_zero, List.set_cons_succ]
                  refine wpAnyH_take (i := 10) (v := ?_) rfl (by as_aux_lemma => kernel_rfl) (by as_aux_lemma => kernel_rfl) (by as_aux_lemma => kernel_rfl) (fun _ _ _ h => h) (Or.inl ⟨by rfl, ?_⟩) (by assumption) ?_
                  rotate_left
                  · intro w' hS'; have hS2 : w'.cell? ⟨Gs, t, none⟩ = _ := hS'; go_simp; try exact rfl
                  try simp only [Act.put, List.getElem_toArray, List.getElem_cons_succ, List.getElem_cons_zero, List.setIfInBounds_toArray, List.set_cons_zero, List.set_cons_succ]
                  refine wpAnyH_take (i := 11) (v := ?_) rfl (by as_aux_lemma => kernel_rfl) (by as_aux_lemma => kernel_rfl) (by as_aux_lemma => kernel_rfl) (fun _ _ _ h => h) (Or.inl ⟨by rfl, ?_⟩) (by assumption) ?_
                  rotate_left
                  · intro w' hS'; have hS2 : w'.cell? ⟨Gs, t, none⟩ = _ := hS'; go_simp; try exact rfl
                  try simp only [Act.put, List.getElem_toArray, List.getElem_cons_succ, List.getElem_cons_zero, List.setIfInBounds_toArray, List.set_cons_zero, List.set_cons_succ]
                  refine wpAnyH_take (i := 12) (v := ?_) rfl (by as_aux_lemma => kernel_rfl) (by as_aux_lemma => kernel_rfl) (by as_aux_lemma => kernel_rfl) (fun _ _ _ h => h) (Or.inl ⟨by rfl, ?_⟩) (by assumption) ?_
                  rotate_left
                  · intro w' hS'; have hS2 : w'.cell? ⟨Gs, t, none⟩ = _ := hS'; go_simp; try exact rfl
                  try simp only [Act.put, List.getElem_toArray, List.getElem_cons_succ, List.getElem_cons_zero, List.setIfInBounds_toArray, List.set_cons_zero, List.set_cons_succ]
                  refine wpAnyH_take (i := 13) (v := ?_) rfl (by as_aux_lemma => kernel_rfl) (by as_aux_lemma => kernel_rfl) (by as_aux_lemma => kernel_rfl) (fun _ _ _ h => h) (Or.inl ⟨by rfl, ?_⟩) (by assumption) ?_
                  rotate_left
                  · intro w' hS'; have hS2 : w'.cell? ⟨Gs, t, none⟩ = _ := hS'; go_simp; try exact rfl
                  try simp only [Act.put, List.getElem_toArray, List.getElem_cons_succ, List.getElem_cons_zero, List.setIfInBounds_toArray, List.set_cons_zero, List.set_cons_succ]
                  refine wpAnyH_take (i := 14) (v := ?_) rfl (by as_aux_lemma => kernel_rfl) (by as_aux_lemma => kernel_rfl) (by as_aux_lemma => kernel_rfl) (fun _ _ _ h => h) (Or.inl ⟨by rfl, ?_⟩) (by assumption) ?_
                  rotate_left
                  · intro w' hS'; have hS2 : w'.cell? ⟨Gs, t, none⟩ = _ := hS'; go_simp; try exact rfl
                  try simp only [Act.put, List.getElem_toArray, List.getElem_cons_succ, List.getElem_cons_zero, List.setIfInBounds_toArray, List.set_cons_zero, List.set_cons_succ]
                  refine wpAnyH_take (i := 15) (v := ?_) rfl (by as_aux_lemma => kernel_rfl) (by as_aux_lemma => kernel_rfl) (by as_aux_lemma => kernel_rfl) (fun _ _ _ h => h) (Or.inl ⟨by rfl, ?_⟩) (by assumption) ?_
                  rotate_left
                  · intro w' hS'; have hS2 : w'.cell? ⟨Gs, t, none⟩ = _ := hS'; go_simp; try exact rfl
                  try simp only [Act.put, List.getElem_toArray, List.getElem_cons_succ, List.getElem_cons_zero, List.setIfInBounds_toArray, List.set_cons_zero, List.set_cons_succ]
                  refine wpAnyH_take (i := 16) (v := ?_) rfl (by as_aux_lemma => kernel_rfl) (by as_aux_lemma => kernel_rfl) (by as_aux_lemma => kernel_rfl) (fun _ _ _ h => h) (Or.inl ⟨by rfl, ?_⟩) (by assumption) ?_
                  rotate_left
                  · intro w' hS'; have hS2 : w'.cell? ⟨Gs, t, none⟩ = _ := hS'; go_simp; try exact rfl
                  try simp only [Act.put, List.getElem_toArray, List.getElem_cons_succ, List.getElem_cons_zero, List.setIfInBounds_toArray, List.set_cons_zero, List.set_cons_succ]
                  refine wpAnyH_take (i := 17) (v := ?_) rfl (by as_aux_lemma => kernel_rfl) (by as_aux_lemma => kernel_rfl) (by as_aux_lemma => kernel_rfl) (fun _ _ _ h => h) (Or.inl ⟨by rfl, ?_⟩) (by assumption) ?_
                  rotate_left
                  · intro w' hS'; have hS2 : w'.cell? ⟨Gs, t, none⟩ = _ := hS'; go_simp; try exact rfl
                  try simp only [Act.put, List.getElem_toArray, List.getElem_cons_succ, List.getElem_cons_zero, List.setIfInBounds_toArray, List.set_cons_zero, List.set_cons_succ]
                  refine wpAnyH_take (i := 18) (v := ?_) rfl (by as_aux_lemma => kernel_rfl) (by as_aux_lemma => kernel_rfl) (by as_aux_lemma => kernel_rfl) (fun _ _ _ h => h) (Or.inl ⟨by rfl, ?_⟩) (by assumption) ?_
                  rotate_left
                  · intro w' hS'; have hS2 : w'.cell? ⟨Gs, t, none⟩ = _ := hS'; go_simp; try exact rfl
                  try simp only [Act.put, List.getElem_toArray, List.getElem_cons_succ, List.getElem_cons_zero, List.setIfInBounds_toArray, List.set_cons_zero, List.set_cons_succ]
                  refine wpAnyH_take (i := 19) (v := ?_) rfl (by as_aux_lemma => kernel_rfl) (by as_aux_lemma => kernel_rfl) (by as_aux_lemma => kernel_rfl) (fun _ _ _ h => h) (Or.inl ⟨by rfl, ?_⟩) (by assumption) ?_
                  rotate_left
                  · intro w' hS'; have hS2 : w'.cell? ⟨Gs, t, none⟩ = _ := hS'; go_simp; try exact rfl
                  try simp only [Act.put, List.getElem_toArray, List.getElem_cons_succ, List.getElem_cons_zero, List.setIfInBounds_toArray, List.set_cons_zero, List.set_cons_succ]
                  refine wpAnyH_take (i := 20) (v := ?_) rfl (by as_aux_lemma => kernel_rfl) (by as_aux_lemma => kernel_rfl) (by as_aux_lemma => kernel_rfl) (fun _ _ _ h => h) (Or.inl ⟨by rfl, ?_⟩) (by assumption) ?_
                  rotate_left
                  · intro w' hS'; have hS2 : w'.cell? ⟨Gs, t, none⟩ = _ := hS'; go_simp; try exact rfl
                  try simp only [Act.put, List.getElem_toArray, List.getElem_cons_succ, List.getElem_cons_zero, List.setIfInBounds_toArray, List.set_cons_zero, List.set_cons_succ]
                  refine wpAnyH_take (i := 21) (v := ?_) rfl (by as_aux_lemma => kernel_rfl) (by as_aux_lemma => kernel_rfl) (by as_aux_lemma => kernel_rfl) (fun _ _ _ h => h) (Or.inl ⟨by rfl, ?_⟩) (by assumption) ?_
                  rotate_left
                  · intro w' hS'; have hS2 : w'.cell? ⟨Gs, t, none⟩ = _ := hS'; go_simp; try exact rfl
                  try simp only [Act.put, List.getElem_toArray, List.getElem_cons_succ, List.getElem_cons_zero, List.setIfInBounds_toArray, List.set_cons_zero, List.set_cons_succ]
                  refine wpAnyH_take (i := 22) (v := ?_) rfl (by as_aux_lemma => kernel_rfl) (by as_aux_lemma => kernel_rfl) (by as_aux_lemma => kernel_rfl) (fun _ _ _ h => h) (Or.inl ⟨by rfl, ?_⟩) (by assumption) ?_
                  rotate_left
                  · intro w' hS'; have hS2 : w'.cell? ⟨Gs, t, none⟩ = _ := hS'; go_simp; try exact rfl
                  try simp only [Act.put, List.getElem_toArray, List.getElem_cons_succ, List.getElem_cons_zero, List.setIfInBounds_toArray, List.set_cons_zero, List.set_cons_succ]
                  refine wpAnyH_take (i := 23) (v := ?_) rfl (by as_aux_lemma => kernel_rfl) (by as_aux_lemma => kernel_rfl) (by as_aux_lemma => kernel_rfl) (fun _ _ _ h => h) (Or.inl ⟨by rfl, ?_⟩) (by assumption) ?_
                  rotate_left
                  · intro w' hS'; have hS2 : w'.cell? ⟨Gs, t, none⟩ = _ := hS'; go_simp; try exact rfl
                  try simp only [Act.put, List.getElem_toArray, List.getElem_cons_succ, List.getElem_cons_zero, List.setIfInBounds_toArray, List.set_cons_zero, List.set_cons_succ]
                  refine wpAnyH_take (i := 24) (v := ?_) rfl (by as_aux_lemma => kernel_rfl) (by as_aux_lemma => kernel_rfl) (by as_aux_lemma => kernel_rfl) (fun _ _ _ h => h) (Or.inl ⟨by rfl, ?_⟩) (by assumption) ?_
                  rotate_left
                  · intro w' hS'; have hS2 : w'.cell? ⟨Gs, t, none⟩ = _ := hS'; go_simp; try exact rfl
                  try simp only [Act.put, List.getElem_toArray, List.getElem_cons_succ, List.getElem_cons_zero, List.setIfInBounds_toArray, List.set_cons_zero, List.set_cons_succ]
                  refine wpAnyH_take (i := 25) (v := ?_) rfl (by as_aux_lemma => kernel_rfl) (by as_aux_lemma => kernel_rfl) (by as_aux_lemma => kernel_rfl) (fun _ _ _ h => h) (Or.inl ⟨by rfl, ?_⟩) (by assumption) ?_
                  rotate_left
                  · intro w' hS'; have hS2 : w'.cell? ⟨Gs, t, none⟩ = _ := hS'; go_simp; try exact rfl
                  try simp only [Act.put, List.getElem_toArray, List.getElem_cons_succ, List.getElem_cons_zero, List.setIfInBounds_toArray, List.set_cons_zero, List.set_cons_succ]
                  refine wpAnyH_take (i := 26) (v := ?_) rfl (by as_aux_lemma => kernel_rfl) (by as_aux_lemma => kernel_rfl) (by as_aux_lemma => kernel_rfl) (fun _ _ _ h => h) (Or.inl ⟨by rfl, ?_⟩) (by assumption) ?_
                  rotate_left
                  · intro w' hS'; have hS2 : w'.cell? ⟨Gs, t, none⟩ = _ := hS'; go_simp; try exact rfl
                  try simp only [Act.put, List.getElem_toArray, List.getElem_cons_succ, List.getElem_cons_zero, List.setIfInBounds_toArray, List.set_cons_zero, List.set_cons_succ]
                  refine wpAnyH_take (i := 27) (v := ?_) rfl (by as_aux_lemma => kernel_rfl) (by as_aux_lemma => kernel_rfl) (by as_aux_lemma => kernel_rfl) (fun _ _ _ h => h) (Or.inl ⟨by rfl, ?_⟩) (by assumption) ?_
                  rotate_left
                  · intro w' hS'; have hS2 : w'.cell? ⟨Gs, t, none⟩ = _ := hS'; go_simp; try exact rfl
                  try simp only [Act.put, List.getElem_toArray, List.getElem_cons_succ, List.getElem_cons_zero, List.setIfInBounds_toArray, List.set_cons_zero, List.set_cons_succ]
                  refine wpAnyH_take (i := 28) (v := ?_) rfl (by as_aux_lemma => kernel_rfl) (by as_aux_lemma => kernel_rfl) (by as_aux_lemma => kernel_rfl) (fun _ _ _ h => h) (Or.inl ⟨by rfl, ?_⟩) (by assumption) ?_
                  rotate_left
                  · intro w' hS'; have hS2 : w'.cell? ⟨Gs, t, none⟩ = _ := hS'; go_simp; try exact rfl
                  try simp only [Act.put, List.getElem_toArray, List.getElem_cons_succ, List.getElem_cons_zero, List.setIfInBounds_toArray, List.set_cons_zero, List.set_cons_succ]
                  refine wpAnyH_take (i := 29) (v := ?_) rfl (by as_aux_lemma => kernel_rfl) (by as_aux_lemma => kernel_rfl) (by as_aux_lemma => kernel_rfl) (fun _ _ _ h => h) (Or.inl ⟨by rfl, ?_⟩) (by assumption) ?_
                  rotate_left
                  · intro w' hS'; have hS2 : w'.cell? ⟨Gs, t, none⟩ = _ := hS'; go_simp; try exact rfl
                  try simp only [Act.put, List.getElem_toArray, List.getElem_cons_succ, List.getElem_cons_zero, List.setIfInBounds_toArray, List.set_cons_zero, List.set_cons_succ]
                  refine wpAnyH_take (i := 30) (v := ?_) rfl (by as_aux_lemma => kernel_rfl) (by as_aux_lemma => kernel_rfl) (by as_aux_lemma => kernel_rfl) (fun _ _ _ h => h) (Or.inl ⟨by rfl, ?_⟩) (by assumption) ?_
                  rotate_left
                  · intro w' hS'; have hS2 : w'.cell? ⟨Gs, t, none⟩ = _ := hS'; go_simp; try exact rfl
                  try simp only [Act.put, List.getElem_toArray, List.getElem_cons_succ, List.getElem_cons_zero, List.setIfInBounds_toArray, List.set_cons_zero, List.set_cons_succ]
                  refine wpAnyH_ready (rs := [31]) (by as_aux_lemma => kernel_rfl) (by simp) ?_
                  refine AllReadyH.cons rfl (fun K hK => ?_) AllReadyH.nil
                  go_simp
                  refine hK.out _ _ (by first | assumption | (refine (World.cell?_setCell_other _ _ _ _ (by simp <;> omega)).trans (by assumption))) (fun hH1 => ?_)
                  clear hK K
                  try simp only [Act.put, List.getElem_toArray, List.getElem_cons_succ, List.getElem_cons_zero, List.setIfInBounds_toArray, List.set_cons_zero, List.set_cons_succ]
                  refine wpAnyH_take (i := 32) (v := ?_) rfl (by as_aux_lemma => kernel_rfl) (by as_aux_lemma => kernel_rfl) (by as_aux_lemma => kernel_rfl) (fun _ _ _ h => h) (Or.inl ⟨by rfl, ?_⟩) (by assumption) ?_
                  rotate_left
                  · intro w' hS'; have hS2 : w'.cell? ⟨Gs, t, none⟩ = _ := hS'; go_simp; try exact rfl
                  try simp only [Act.put, List.getElem_toArray, List.getElem_cons_succ, List.getElem_cons_zero, List.setIfInBounds_toArray, List.set_cons_zero, List.set_cons_succ]
                  refine wpAnyH_ready (rs := [33]) (by as_aux_lemma => kernel_rfl) (by simp) ?_
                  refine AllReadyH.cons rfl (fun K hK => ?_) AllReadyH.nil
                  go_simp
                  refine hK.out _ _ (by first | assumption | (refine (World.cell?_setCell_other _ _ _ _ (by simp <;> omega)).trans (by assumption))) (fun hH2 => ?_)
                  clear hK K
                  try simp only [Act.put, List.getElem_toArray, List.getElem_cons_succ, List.getElem_cons_zero, List.setIfInBounds_toArray, List.set_cons_zero, List.set_cons_succ]
                  refine wpAnyH_take (i := 34) (v := ?_) rfl (by as_aux_lemma => kernel_rfl) (by as_aux_lemma => kernel_rfl) (by as_aux_lemma => kernel_rfl) (fun _ _ _ h => h) (Or.inl ⟨by rfl, ?_⟩) (by assumption) ?_
                  rotate_left
                  · intro w' hS'; have hS2 : w'.cell? ⟨Gs, t, none⟩ = _ := hS'; go_simp; try exact rfl
                  try simp only [Act.put, List.getElem_toArray, List.getElem_cons_succ, List.getElem_cons_zero, List.setIfInBounds_toArray, List.set_cons_zero, List.set_cons_succ]
                  refine wpAnyH_ready (rs := [35]) (by as_aux_lemma => kernel_rfl) (by simp) ?_
                  refine AllReadyH.cons rfl (fun K hK => ?_) AllReadyH.nil
                  go_simp
                  refine hK.out _ _ (by first | assumption | (refine (World.cell?_setCell_other _ _ _ _ (by simp <;> omega)).trans (by assumption))) (fun hH3 => ?_)
                  clear hK K
                  try simp only [Act.put, List.getElem_toArray, List.getElem_cons_succ, List.getElem_cons_zero, List.setIfInBounds_toArray, List.set_cons_zero, List.set_cons_succ]
                  refine wpAnyH_take (i := 36) (v := ?_) rfl (by as_aux_lemma => kernel_rfl) (by as_aux_lemma => kernel_rfl) (by as_aux_lemma => kernel_rfl) (fun _ _ _ h => h) (Or.inl ⟨by rfl, ?_⟩) (by assumption) ?_
                  rotate_left
                  · intro w' hS'; have hS2 : w'.cell? ⟨Gs, t, none⟩ = _ := hS'; go_simp; try exact rfl
                  try simp only [Act.put, List.getElem_toArray, List.getElem_cons_succ, List.getElem_cons_zero, List.setIfInBounds_toArray, List.set_cons_zero, List.set_cons_succ]
                  refine wpAnyH_ready (rs := [37]) (by as_aux_lemma => kernel_rfl) (by simp) ?_
                  refine AllReadyH.cons rfl (fun K hK => ?_) AllReadyH.nil
                  go_simp
                  refine hK.out _ _ (by first | assumption | (refine (World.cell?_setCell_other _ _ _ _ (by simp <;> omega)).trans (by assumption))) (fun hH4 => ?_)
                  clear hK K
                  try simp only [Act.put, List.getElem_toArray, List.getElem_cons_succ, List.getElem_cons_zero, List.setIfInBounds_toArray, List.set_cons_zero, List.set_cons_succ]
                  refine wpAnyH_done (by as_aux_lemma => kernel_rfl) ?_ _
                  clear hH0 hH1 hH2 hH3 hH4
                  go_wp2
                  go_roundw
                  case rel => exact ⟨t + 1, by omega, by go_num, by rw [show 4 * (t + 1) = x0 + 4 by have := HX0.out; omega]; exact HR4.out, HIN.out⟩
                  case measure => simp [intOf]; omega
                · have ht2 : t = 8 := by omega
                  rw [ht2, List.take_of_length_le (by rw [HSL.out]; exact Nat.le_refl _), show List.replicate (32 - 4 * 8) (0 : UInt8) = [] from rfl, List.append_nil] at hro
                  have HIH := Lib.hid (show (Tryz.prog.info? 39).map (·.size) = some (bc S).toArray.size by
                    rw [List.size_toArray, bc_len, HSL.out]
                    kernel_rfl)
                  have HS0 := Lib.hid (show (bc (List.replicate 32 0)).toArray.size = (bc S).toArray.size by simp [bc_len, HSL.out])
                  have HO := Lib.hid (all_oneCell_toArray (bc_one S))
                  have h0 := hI.r0
                  have HBW := Lib.hid hI.below
                  clear ht2 ht8 hI
                  go_wp2_with (first
                    | (refine wpList_load_row rfl _ _ rfl Go rfl _ _ (0, 0) _ hro Tryz.underlying39 rfl HIH.out ?_)
                    | (refine wpList_store_row rfl _ _ _ rfl G0 _ rfl rfl _ _ h0 HIH.out HS0.out HO.out ?_))
                  refine bodyPost_ret (v := .agg (bc S).toArray) ?_ rfl ⟨rfl, ?_⟩
                  · exact results_cell_row rfl _ _ G0 39 _ (0, 0) _ rfl (setRow_heap wr _ _ _ _ _ h0) Tryz.underlying39 rfl HIH.out
                  · rw [E0.out]
                    exact below_setRow HBW.out (Nat.le_refl _) _
end Go.Proofs.YtmebdnblobobnaaGreatDoor

