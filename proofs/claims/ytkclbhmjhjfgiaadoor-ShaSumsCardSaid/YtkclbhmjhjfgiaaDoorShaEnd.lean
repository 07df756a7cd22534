/- Contract for package sha's end: the last block is filled, the state answered as bytes. -/
import Derived.Test.YtkclbhmjhjfgiaaDoorShaTake
import Derived.Test.YtkclbhmjhjfgiaaDoorShaBig
import Derived.Deep.RegionHeld3
import Derived.Deep.RegionHeld
namespace Go.Proofs.YtkclbhmjhjfgiaaDoor
open Go.RowKit Wd Nm Cm Sm

theorem make_zeros (W : World) (z : Nat) (h : z ≤ 1000) : (Instr.makeSlice 26 (.int .i64 (z : Int)) (.int .i64 (z : Int))).run Tryd.prog W = .ok (.slice (some ⟨W.heap.size, 0, none⟩) z z) (W.alloc (.cells (bc (List.replicate z 0)).toArray 5)) := by
  obtain ⟨i0, hi0, hz0, hz1, hz2⟩ := info_parts infoByte
  have h := run_make (P := Tryd.prog) W 26 5 i0 _ Tryd.underlying26 hi0 hz0 .i64 .i64 z z (by omega) (by omega) (by rw [hz2]; omega) (by omega)
  simp only [Int.toNat_natCast] at h
  have e := Cz_zero (fun _ => 0) z
  rw [show #[Value.int .u8 0] = (Value.int .u8 0).cells from rfl] at e
  rw [h, hz1, ← e]
  simp [Cz, bc]
theorem Summer.alloc {w : World} {g : Nat} {m : List UInt8} (h : Summer w g m) (o : Obj) : Summer (w.alloc o) g m :=
  h.keep (by obtain ⟨_, _, _, _, _, h4⟩ := h; exact Below.heap_alloc w o g (Array.getElem?_eq_some_iff.1 h4).1)
theorem Summer.lt {w : World} {g : Nat} {m : List UInt8} (h : Summer w g m) : g < w.heap.size := by
  obtain ⟨_, _, _, _, _, h4⟩ := h; exact (Array.getElem?_eq_some_iff.1 h4).1
theorem Summer.n {w : World} {g : Nat} {m : List UInt8} (h : Summer w g m) : w.cell? ⟨g, 72, none⟩ = some (.int .i64 (m.length : Int)) := by
  obtain ⟨o, l, ho, hl, _, h4⟩ := h; exact Row.cell h4 (cellsOf_n _ _ _ _ _ rfl ho)
theorem grow_alloc {w w' : World} {r : Option Nat} (h : w.grownBy w' r) (o : Obj) : w.grownBy (w'.alloc o) r :=
  grow_trans h (below_grow (below_new (Below.refl _ _) o) r) (.inl rfl)
theorem StepsAt.keep {w w' : World} {g : Nat} (h : StepsAt w) (hg : w.grownBy w' (some g)) (h1 : 1 < g) : StepsAt w' := StepsAt.grown h hg h1

theorem Row.grown {w w' : World} {g G : Nat} {T : TypeId} {cs : List Value} (h : Row w G T cs) (hg : w.grownBy w' (some g)) (hne : G ≠ g) : Row w' G T cs :=
  (hg.block G h.lt (fun e => hne (Option.some.inj e))).trans h
/-- take, of bytes that were just laid. -/
theorem take_lit (g : Nat) (m l : List UInt8) (n G : Nat) (w : World) (cs : Array Value) (hcs : cs = (bc l).toArray) (hG : w.heap.size = G) (hn : l.length = n) (hS : Summer w g m) (hk : StepsAt w) (hg : 1 < g) (hsm : m.length ≤ 100000000000100) (hn2 : n ≤ 1000) :
    Calls Tryd.prog 14 #[.pointer (some ⟨g, 0, none⟩), .slice (some ⟨G, 0, none⟩) n n] (w.alloc (.cells cs 5)) fun e w' => e = .returned (.tuple #[]) ∧ Summer w' g (m ++ l) ∧ w.grownBy w' (some g) := by
  subst hcs hG hn
  have hs := shows_cells w 5 (0, 0) l (by omega)
  have e : (w.alloc (.cells (bc l).toArray 5)).heap.size = w.heap.size + 1 := by simp
  rw [← e] at hs
  have g1 : w.grownBy (w.alloc (.cells (bc l).toArray 5)) (some g) := grow_alloc (grow_refl w _) _
  refine (take_any g m l _ _ _ _ (hS.alloc _) hs (fun a ha _ => ?_) (hk.keep g1 hg) hg (by omega)).mono ?_
  · injection ha with ha
    subst ha
    have := hS.lt
    show w.heap.size ≠ g
    omega
  · rintro _ w' ⟨rfl, h2, h3⟩
    exact ⟨rfl, h2, grow_trans g1 h3 (.inl rfl)⟩

theorem grow_on {w a b : World} {g B : Nat} (h : w.grownBy a (some g)) (hb : Below B a b) (hB : w.heap.size ≤ B) : w.grownBy b (some g) :=
  ⟨hb.os.trans h.os, hb.tape.trans h.tape, hb.output.trans h.output, Nat.le_trans h.size hb.size, fun k hk hne => (hb.block k (by omega)).trans (h.block k hk hne)⟩
theorem splice_fill (S : List UInt8) (x n : Nat) (c : List UInt8) (hS : S.length = n) (hx : x + c.length ≤ n) (hc : (S.drop x).take c.length = c) :
    splice (S.take x ++ List.replicate (n - x) 0) x c = S.take (x + c.length) ++ List.replicate (n - (x + c.length)) 0 := by
  unfold splice
  have h1 : (S.take x).length = x := by rw [List.length_take]; omega
  rw [List.take_left' h1, List.drop_append, List.drop_eq_nil_of_le (by omega), List.nil_append, h1, List.drop_replicate, ← List.append_assoc]
  congr 1
  · rw [List.take_add, hc]
  · congr 1
    omega
theorem bc_splice (l : List UInt8) (k : Nat) (r : List UInt8) : splice (bc l) k (bc r) = bc (splice l k r) := by
  unfold splice
  simp [bc, List.map_take, List.map_drop]
theorem out_at (st : St) (j : Nat) (h : j < 8) : ((out st).drop (4 * j)).take 4 = beb (tn (st.list.getD j 0)) 4 := by
  match j, h with
  | 0, _ | 1, _ | 2, _ | 3, _ | 4, _ | 5, _ | 6, _ | 7, _ => rfl
theorem hash_cut (W : World) (g k : Nat) (x : Int) (hx : x = k) (h1 : k < 32) :
    (Instr.sliceAt 24 (.pointer (some ⟨g, 0, none⟩)) (some (.int .i64 x)) none none).run Tryd.prog W = .ok (.slice (some ⟨g, k, none⟩) (32 - k) (32 - k)) W := by
  subst hx
  have hL : Tryd.prog.arrayLen 24 = 32 := by kernel_rfl
  have hE : Tryd.prog.elem 24 = 5 := by kernel_rfl
  obtain ⟨i0, hi0, hz0, hz1, hz2⟩ := info_parts infoByte
  rw [run_sliceAt_array_l W _ _ (by rw [hL, hE]; exact Tryd.underlying24) .i64 k (by omega) (by rw [hL]; omega), hL, hE]
  simp [sizeOf, typeInfo, hi0, hz1, Result.andThen, slicedAt, Addr.add_mid]
  omega

set_option maxHeartbeats 2000000 in
theorem end_any (g : Nat) (m : List UInt8) (w : World) (hS : Summer w g m) (hk : StepsAt w) (hg : 1 < g) (hsm : m.length ≤ 100000000000000) :
    Calls Tryd.prog 15 #[.pointer (some ⟨g, 0, none⟩)] w fun e w' => e = .returned (.agg (bc (sha m)).toArray) ∧ w.grownBy w' (some g) := by
  obtain ⟨S, hSS⟩ : ∃ S, sha m = S := ⟨_, rfl⟩
  rw [hSS]
  have HSS := Lib.hid hSS
  clear hSS
  obtain ⟨M, hM⟩ : ∃ M, m.length = M := ⟨_, rfl⟩
  have hglt := hS.lt
  have hn0 := hS.n
  rw [hM] at hn0 hsm
  have h8 : (8 : Int) * (M : Int) % 18446744073709551616 = 8 * (M : Int) := by omega
  have HS := Lib.hid hS
  have HK := Lib.hid hk
  have HM := Lib.hid hM
  clear hS hk hM
  go_enter Tryd.func15, Tryd.ntmps15
  go_wp2_with fail
  have a1 : w.grownBy (w.alloc (.cells (bc (List.replicate 32 0)).toArray 24)) (some g) := grow_alloc (grow_refl w _) _
  have r1 : Row (w.alloc (.cells (bc (List.replicate 32 0)).toArray 24)) w.heap.size 24 (bc (List.replicate 32 0)) := Row.new w _ _
  refine (take_lit g m [128] 1 (w.heap.size + 1) (w.alloc (.cells (bc (List.replicate 32 0)).toArray 24)) _ rfl (by simp) rfl (HS.out.alloc _) (HK.out.keep a1 hg) hg (by rw [HM.out]; omega) (by omega)).mono ?_
  rintro _ W1 ⟨rfl, s1, g1⟩
  have r2 := r1.grown g1 (by omega)
  have g2 := grow_trans a1 g1 (.inl rfl)
  clear a1 r1 g1 hn0 HS
  have hn1 := s1.n
  obtain ⟨k, hk⟩ : ∃ k, (M + 1) % 64 = k := ⟨_, rfl⟩
  obtain ⟨z, hz⟩ : ∃ z, fill M = z := ⟨_, rfl⟩
  have hzk : (120 - k) % 64 = z := by rw [← hz, ← hk]; rfl
  have e1 : (m ++ [128]).length = M + 1 := by simp [HM.out]
  rw [e1] at hn1
  have hm1 : (((M + 1 : Nat) : Int)).tmod 64 = (k : Int) := by rw [Int.tmod_eq_emod_of_nonneg (by omega)]; omega
  have hm2 : ((120 : Int) - (k : Int)).tmod 64 = (z : Int) := by rw [Int.tmod_eq_emod_of_nonneg (by omega)]; omega
  have hz64 : z < 64 := by omega
  have hw : wrap64 ((120 : Int) - (k : Int)) = 120 - (k : Int) := by unfold wrap64; omega
  have hmk := fun W : World => make_zeros W z (by omega)
  obtain ⟨M1, hM1⟩ : ∃ x, M + 1 = x := ⟨_, rfl⟩
  rw [hM1] at hn1 hm1
  have S1 := Lib.hid s1
  have R2 := Lib.hid r2
  have HZ := Lib.hid hz
  clear s1 r2 hk hz hzk hM1 e1
  go_wp2_with fail
  refine (take_lit g (m ++ [128]) (List.replicate z 0) z W1.heap.size W1 _ rfl rfl (by simp) S1.out (HK.out.keep g2 hg) hg (by rw [List.length_append, HM.out]; simp; omega) (by omega)).mono ?_
  rintro _ W2 ⟨rfl, s2, g3⟩
  have r3 := R2.out.grown g3 (by omega)
  have g4 := grow_trans g2 g3 (.inl rfl)
  have S2 := Lib.hid s2
  have R3 := Lib.hid r3
  clear s2 r3 g2 g3 hn1 hm1 hm2 hw hmk S1 R2
  go_wp2_with fail
  refine (big_any (8 * (M : Int)) 8 (by omega) _).mono ?_
  rintro _ W3 ⟨rfl, rfl⟩
  go_wp2_with fail
  refine (take_lit g (m ++ [128] ++ List.replicate z 0) (beb (8 * (M : Int)) 8) 8 W2.heap.size W2 _ rfl rfl (by rw [beb_len]) S2.out (HK.out.keep g4 hg) hg (by simp [HM.out]; omega) (by omega)).mono ?_
  rintro _ W3 ⟨rfl, s3, g5⟩
  have r4 := R3.out.grown g5 (by omega)
  have g6 := grow_trans g4 g5 (.inl rfl)
  have hpad : m ++ [128] ++ List.replicate z 0 ++ beb (8 * (M : Int)) 8 = pad m := by
    unfold pad
    rw [HM.out, HZ.out]
    simp
  rw [hpad] at s3
  obtain ⟨o, l, ho, hl, _, hrow⟩ := s3
  have HF := Lib.hid (show out (folded (pad m) ((pad m).length / 64)) = S from HSS.out)
  generalize (pad m).length / 64 = q at hrow HF
  generalize folded (pad m) q = st at hrow HF
  generalize ((pad m).length : Int) = nn at hrow
  generalize sched l 64 = ws at hrow
  have HRG := Lib.hid (show World.rangeAt W3 g 0 (wc st.list) from Row.range hrow 0 _ (fun j v hj => by
    have hj8 : j < (wc st.list).length := (List.getElem?_eq_some_iff.1 hj).1
    rw [wc_len] at hj8
    rw [Nat.zero_add, cellsOf_get _ _ _ _ _ _ hj8, ← wc_get _ _ hj8]
    exact hj))
  have HI8 := Lib.hid (show (Tryd.prog.info? 39).map (·.size) = some (wc st.list).length by rw [wc_len, St.list_len]; kernel_rfl)
  have R4 := Lib.hid r4
  have hlt0 := r4.lt
  have hlt3 : W2.heap.size ≤ W3.heap.size := g5.size
  clear hpad hrow r4 g4 g5 S2 R3 HZ HSS HK HM
  go_wp2_with (refine wpList_load_mid rfl _ _ rfl g 0 rfl (wc st.list) _ (World.rangeAt_alloc HRG.out _) Tryd.underlying39 rfl HI8.out ?_)
  have hS32 : S.length = 32 := by rw [← HF.out, out_len]
  have HSL := Lib.hid hS32
  go_loopw [5, 6, 34] (fun _ _ i wr => ∃ j : Nat, j ≤ 8 ∧ i = .int .i64 j ∧ Row wr W3.heap.size 24 (bc (S.take (4 * j) ++ List.replicate (32 - 4 * j) 0)) ∧ Row wr w.heap.size 24 (bc (List.replicate 32 0)) ∧ w.grownBy wr (some g)) (fun _ _ i _ => 8 - (intOf i).toNat)
  case atStart =>
    refine ⟨0, by omega, rfl, ?_, R4.out.alloc _, grow_alloc g6 _⟩
    exact Row.new W3 _ (bc (List.replicate 32 0))
  case round =>
    clear g6
    obtain ⟨j, hj8, rfl, r1, r0, hgr⟩ := hrel
    by_cases hj : j < 8
    · have hx : ∀ W : World, (Instr.index 39 (.agg (wc st.list).toArray) (.int .i64 (j : Int))).run Tryd.prog W = .ok (.int .u32 (tn (st.list.getD j 0))) W := fun W =>
        index_cell W _ _ _ 8 Tryd.underlying39 Tryd.underlying38 (by kernel_rfl) (wc st.list) _ j rfl hj _ (wc_get st.list j hj)
      obtain ⟨x4, hx4⟩ : ∃ x, 4 * j = x := ⟨_, rfl⟩
      obtain ⟨d, hd⟩ : ∃ d, 32 - x4 = d := ⟨_, rfl⟩
      have hw4 : IntKind.i64.wrap (4 * (j : Int)) = (x4 : Int) := by rw [IntKind.wrap_i64]; omega
      have hsl : ∀ W : World, (Instr.sliceAt 24 (.pointer (some ⟨W3.heap.size, 0, none⟩)) (some (.int .i64 (x4 : Int))) none none).run Tryd.prog W = .ok (.slice (some ⟨W3.heap.size, x4, none⟩) d d) W := fun W => by
        rw [hash_cut W _ x4 _ rfl (by omega), hd]
      obtain ⟨wj, hwj⟩ : ∃ x, st.list.getD j 0 = x := ⟨_, rfl⟩
      have hcv : IntKind.u64.wrap (tn wj) = tn wj := by have := tn_bd wj; rw [IntKind.wrap_u64]; omega
      rw [hwj] at hx
      rw [hx4] at r1
      have hM0 : Row wr.drew w.heap.size 24 (bc (List.replicate 32 0)) ∧ w.grownBy wr.drew (some g) := ⟨r0, grow_drew hgr⟩
      have RD : Hid (Row wr.drew W3.heap.size 24 (bc (S.take x4 ++ List.replicate (32 - x4) 0))) := Lib.hid r1.drew
      have hHF : (S.drop x4).take 4 = beb (tn wj) 4 := by
        rw [← HF.out, ← hx4, ← hwj]
        exact out_at st j hj
      have F1 := Lib.hid (And.intro hx4 (And.intro hd (And.intro hwj hHF)))
      clear r1 r0 hgr hx4 hd hwj hHF
      go_wp2_with fail
      refine wp_region_held_drew (S := fun W => Row W w.heap.size 24 (bc (List.replicate 32 0)) ∧ w.grownBy W (some g)) (by kernel_rfl) hM0 (fun hH0 => ?_)
      refine wpAnyH_take (i := 0) (v := ?_) rfl (by kernel_rfl) (by kernel_rfl) (by kernel_rfl) (fun _ _ _ h => h) (Or.inl ⟨by rfl, ?_⟩) (by assumption) ?_
      rotate_left
      · intro w' hS'; go_simp; try exact rfl
      try simp only [Act.put, List.getElem_toArray, List.getElem_cons_zero, List.setIfInBounds_toArray, List.set_cons_zero, List.set_cons_succ]
      refine wpAnyH_take (i := 1) (v := ?_) rfl (by kernel_rfl) (by kernel_rfl) (by kernel_rfl) (fun _ _ _ h => h) (Or.inl ⟨by rfl, ?_⟩) (by assumption) ?_
      rotate_left
      · intro w' hS'; go_simp; try exact rfl
      try simp only [Act.put, List.getElem_toArray, List.getElem_cons_succ, List.getElem_cons_zero, List.setIfInBounds_toArray, List.set_cons_zero, List.set_cons_succ]
      refine wpAnyH_take (i := 2) (v := ?_) rfl (by kernel_rfl) (by kernel_rfl) (by kernel_rfl) (fun _ _ _ h => h) (Or.inl ⟨by rfl, ?_⟩) (by assumption) ?_
      rotate_left
      · intro w' hS'; go_simp; try exact rfl
      try simp only [Act.put, List.getElem_toArray, List.getElem_cons_succ, List.getElem_cons_zero, List.setIfInBounds_toArray, List.set_cons_zero, List.set_cons_succ]
      refine wpAnyH_take (i := 3) (v := ?_) rfl (by kernel_rfl) (by kernel_rfl) (by kernel_rfl) (fun _ _ _ h => h) (Or.inl ⟨by rfl, ?_⟩) (by assumption) ?_
      rotate_left
      · intro w' hS'; go_simp; try exact rfl
      try simp only [Act.put, List.getElem_toArray, List.getElem_cons_succ, List.getElem_cons_zero, List.setIfInBounds_toArray, List.set_cons_zero, List.set_cons_succ]
      refine wpAnyH_take (i := 4) (v := ?_) rfl (by kernel_rfl) (by kernel_rfl) (by kernel_rfl) (fun _ _ _ h => h) (Or.inl ⟨by rfl, ?_⟩) (by assumption) ?_
      rotate_left
      · intro w' hS'; go_simp; try exact rfl
      try simp only [Act.put, List.getElem_toArray, List.getElem_cons_succ, List.getElem_cons_zero, List.setIfInBounds_toArray, List.set_cons_zero, List.set_cons_succ]
      refine wpAnyH_ready (rs := [5]) (by kernel_rfl) (by simp) ?_
      refine AllReadyH.cons rfl (fun K hK => ?_) AllReadyH.nil
      go_simp
      refine (big_any (tn wj) 4 (by omega) _).mono ?_
      rintro _ wB ⟨rfl, rfl⟩
      have hnew := Row.new wr.drew 5 (bc (beb (tn wj) 4))
      go_wp2_with fail
      refine hK.out _ _ ⟨hH0.1.alloc _, grow_alloc hH0.2 _⟩ (fun hHB => ?_)
      clear hK K
      try simp only [Act.put, List.getElem_toArray, List.getElem_cons_succ, List.getElem_cons_zero, List.setIfInBounds_toArray, List.set_cons_zero, List.set_cons_succ]
      refine wpAnyH_ready (rs := [6]) (by kernel_rfl) (by simp) ?_
      refine AllReadyH.cons rfl (fun K hK => ?_) AllReadyH.nil
      have hlen4 : (bc (beb (tn wj) 4)).length = 4 := by rw [bc_len, beb_len]
      refine step_copy_splice rfl (.tmp 40) (.tmp 43) 26 26 rfl 5 Tryd.underlying26 (by kernel_rfl) _ _ d d 4 4 rfl rfl W3.heap.size x4 (bc (S.take x4 ++ List.replicate (32 - x4) 0)) 24 (RD.out.alloc _) (bc (beb (tn wj) 4)) ?_ ?_ ?_ (bc_one _) W3.heap.size _ (Below.refl _ _) (Nat.le_refl _) ?_
      · rw [hlen4]
        have := F1.out.2.1
        have := F1.out.1
        exact (Nat.min_eq_left (by omega)).symm
      · exact fun _ => ⟨rfl, ⟨wr.heap.size, 0, none⟩, rfl, fun j v hj => by rw [Addr.add_lit, Nat.zero_add]; exact Row.cell hnew hj⟩
      · rw [hlen4, bc_len, List.length_append, List.length_take, List.length_replicate, HSL.out]
        have := F1.out.1
        omega
      intro w' hg' hb'
      have hr' : Row w' W3.heap.size 24 (bc (S.take (x4 + 4) ++ List.replicate (32 - (x4 + 4)) 0)) := by
        obtain ⟨h1, h2, _, h4⟩ := F1.out
        have h := hg'.out
        rw [bc_splice, splice_fill S x4 32 (beb (tn wj) 4) HSL.out (by rw [beb_len]; omega) (by rw [beb_len]; exact h4), beb_len] at h
        exact h
      refine hK.out _ _ ⟨hHB.1.below hb' (by omega), grow_on hHB.2 hb' (by omega)⟩ (fun hHC => ?_)
      clear hK K
      try simp only [Act.put, List.getElem_toArray, List.getElem_cons_succ, List.getElem_cons_zero, List.setIfInBounds_toArray, List.set_cons_zero, List.set_cons_succ]
      refine wpAnyH_done (by kernel_rfl) ?_ _
      have R' := Lib.hid hr'
      clear hr' hg' hb' hnew
      go_wp2
      go_roundw
      case rel => exact ⟨j + 1, by omega, by go_num, by rw [show 4 * (j + 1) = x4 + 4 by have := F1.out.1; omega]; exact R'.out, hHC.1, hHC.2⟩
      case measure => simp [intOf]; omega
    · have hj2 : j = 8 := by omega
      rw [hj2, List.take_of_length_le (by rw [HSL.out]; decide), show List.replicate (32 - 4 * 8) (0 : UInt8) = [] from rfl, List.append_nil] at r1
      have HIH := Lib.hid (show (Tryd.prog.info? 24).map (·.size) = some (bc S).toArray.size by
        rw [List.size_toArray, bc_len, HSL.out]
        kernel_rfl)
      have HS0 := Lib.hid (show (bc (List.replicate 32 0)).toArray.size = (bc S).toArray.size by simp [bc_len, HSL.out])
      have HO := Lib.hid (all_oneCell_toArray (bc_one S))
      clear hj2 hj8
      go_wp2_with (first
        | (refine wpList_load_row rfl _ _ rfl W3.heap.size rfl _ _ (0, 0) _ r1 Tryd.underlying24 rfl HIH.out ?_)
        | (refine wpList_store_row rfl _ _ _ rfl w.heap.size _ rfl rfl _ _ r0 HIH.out HS0.out HO.out ?_))
      refine bodyPost_ret (v := .agg (bc S).toArray) ?_ rfl ⟨rfl, grow_on hgr (below_setRow (Below.refl _ _) (Nat.le_refl _) _) (Nat.le_refl _)⟩
      exact results_cell_row rfl _ _ w.heap.size 24 _ (0, 0) _ rfl (setRow_heap wr _ _ _ _ _ r0) Tryd.underlying24 rfl HIH.out
end Go.Proofs.YtkclbhmjhjfgiaaDoor
