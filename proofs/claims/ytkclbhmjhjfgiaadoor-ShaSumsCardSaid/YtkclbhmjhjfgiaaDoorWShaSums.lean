/- The walk of the law ShaSums: the sum of any parts, however they are cut, is the document's, and how it is written. -/
import Derived.Test.YtkclbhmjhjfgiaaDoorShaOne
import Derived.Test.YtkclbhmjhjfgiaaDoorShaRefHex
import Derived.Deep.RegionHeld
namespace Go.Proofs.YtkclbhmjhjfgiaaDoor
open Go.RowKit Wd Nm Cm Sm

theorem hash_in3 (l : List UInt8) (W : World) : (Op.equalIn 10000 24 (.agg (bc (sha l)).toArray) (.agg (bc (sha l)).toArray)).run Tryd.prog W = .ok true W := by
  have h := run_equalIn_bytes (P := Tryd.prog) W 9998 24 5 32 Tryd.underlying24 Tryd.underlying5 (by kernel_rfl) (sha l) (sha l) (sha_len l) (sha_len l)
  rw [h]
  simp
theorem bytes_front (W : World) (A : Option Addr) (n cap c : Nat) (hc : c ≤ cap) :
    (Instr.sliceAt 26 (.slice A n cap) none (some (.int .i64 (c : Int))) none).run Tryd.prog W = .ok (.slice A c cap) W := by
  have hE : Tryd.prog.elem 26 = 5 := by kernel_rfl
  have hu : Tryd.prog.underlying 26 = some (.slice (Tryd.prog.elem 26)) := by rw [hE]; exact Tryd.underlying26
  obtain ⟨i0, hi0, hz0, hz1, hz2⟩ := info_parts infoByte
  rw [run_sliceAt_slice W _ _ _ _ _ hu, run_slice_h W _ A n cap hu .i64 c (by omega) (by omega), hE]
  simp [sizeOf, typeInfo, hi0, hz1, Result.andThen, sliced]
  intro _
  cases A with
  | none => rfl
  | some a => simp [Addr.add_zero']
theorem laid_more {w : World} {B B' : Nat} {A : Option Addr} {n : Nat} {ps : List Part} (h : LaidAt w B A n ps) (hB : B ≤ B') : LaidAt w B' A n ps :=
  ⟨h.len, fun hn => by
    obtain ⟨g, o, e, hg, hc⟩ := h.spot hn
    exact ⟨g, o, e, by omega, hc⟩, fun p hp => (h.each p hp).more hB⟩
theorem shasum_two (w : World) (ht : Tables w) (p q : Part) (hp : Shows w w.heap.size p.A p.n p.cap p.l) (hq : Shows w w.heap.size q.A q.n q.cap q.l) (h1 : p.n ≤ 1000000) (h2 : q.n ≤ 1000000) :
    Calls Tryd.prog 10 #[.slice (some ⟨w.heap.size, 0, none⟩) 2 2] (w.alloc (.cells #[.slice p.A p.n p.cap, .slice q.A q.n q.cap] 26)) fun e w' => e = .returned (.agg (bc (sha (p.l ++ q.l))).toArray) ∧ Below w.heap.size w w' := by
  have hb : Below w.heap.size w (w.alloc (.cells #[.slice p.A p.n p.cap, .slice q.A q.n q.cap] 26)) := (Below.refl _ _).alloc (Nat.le_refl _) _
  have hl := LaidAt.of_laid (laid_two (w := w) (p := p) (q := q) hp hq 26) (by simp)
  refine (shasum_any _ _ 2 [p, q] _ hl (ht.below hb) (show (2 : Nat) ≤ 1000000 by decide) (by simp [total]; omega)).mono ?_
  rintro e w' ⟨rfl, hb2⟩
  exact ⟨by simp [joined], hb.trans (hb2.mono hb.size)⟩

set_option maxRecDepth 100000 in
set_option maxHeartbeats 8000000 in
theorem shaSums_walk (A : Option Addr) (n cap : Nat) (ps : List Part) (x : Int) (h : List UInt8) (w : World) (hT : Tables w) (hl : LaidAt w w.heap.size A n ps) (hn : n ≤ 9223372036854775807) (_hx : (Lit.int .i64 x).wf = true) (hh : h.length = 32) :
    Calls Tryd.prog 3 #[.slice A n cap, .int .i64 x, .agg (bc h).toArray] w fun e w' => e = .returned (.bool true) ∧ Below w.heap.size w w' := by
  clear _hx
  obtain ⟨i0, hi0, hz0, hz1, hz2⟩ := info_parts infoByte
  have r0 := Row.new w 24 (bc h)
  have b0 : Below w.heap.size w (w.alloc (.cells (bc h).toArray 24)) := below_new (Below.refl _ _) _
  have HL := Lib.hid hl
  have HT := Lib.hid hT
  have H0 := Lib.hid (And.intro r0 (And.intro b0 hh))
  have HI0 := Lib.hid hi0
  have HZ0 := Lib.hid hz0
  have HZ1 := Lib.hid hz1
  have HZ2 := Lib.hid hz2
  clear hl hT r0 b0 hi0 hz0 hz1 hz2 hh
  go_enter Tryd.func3, Tryd.ntmps3
  go_wp2_with fail
  obtain ⟨W0, hW0⟩ : ∃ W, w.alloc (.cells (bc h).toArray 24) = W := ⟨_, rfl⟩
  rw [hW0] at H0 ⊢
  obtain ⟨Gh, hG⟩ : ∃ G, w.heap.size = G := ⟨_, rfl⟩
  have H0g : Hid (Row W0 Gh 24 (bc h)) := by rw [← hG]; exact Lib.hid H0.out.1
  have HG := Lib.hid hG
  rw [hG]
  clear hW0 hG
  (with_reducible refine (known3_any _ (HT.out.below H0.out.2.1)).mono ?_)
  rintro _ w1 ⟨rfl, hb1⟩
  have HB1 := Lib.hid (And.intro (step_below H0.out.2.1 hb1) (H0g.out.below hb1 H0g.out.lt))
  clear hb1
  by_cases hn10 : 10 < n
  · go_wp2
    go_ret
    exact ⟨rfl, HB1.out.1⟩
  go_wp2_with fail
  go_loopw [7, 8] (fun v i wr => ∃ (k m : Nat) (Ab : Option Addr) (cb : Nat), k ≤ n ∧ m ≤ k * 200 ∧ cb ≤ 9223372036854775807 ∧ i = .int .i64 k ∧ v = .slice Ab m cb ∧
    Hid (wr.ownsRow w.heap.size 5 1 (.slice Ab m cb) m (bc (joined (ps.take k))) ∧ Below w.heap.size w wr ∧ Row wr Gh 24 (bc h) ∧ total (ps.take k) = m)) (fun _ i _ => n - (intOf i).toNat)
  case atStart => exact ⟨0, 0, none, 0, by omega, by omega, by omega, rfl, rfl, Lib.hid ⟨World.ownsRow_nil _ _ _ _, HB1.out.1, HB1.out.2, rfl⟩⟩
  case round =>
    obtain ⟨k, m, Ab, cb, hk, hm, hcb, rfl, rfl, HK⟩ := hrel
    by_cases hkN : k < n
    · have hkn : (k : Int) < (n : Int) := by omega
      have hkl : k < ps.length := by rw [HL.out.len]; omega
      obtain ⟨pg, po, rfl, hpg, hpc⟩ := HL.out.spot (by omega)
      have cp := (HK.out.2.1.cell (p := ⟨pg, po + k, none⟩) hpg).trans (hpc k hkl)
      have hsh := HL.out.each (ps[k]) (List.getElem_mem hkl)
      have hj := joined_next ps k hkl
      have ht := total_next ps k hkl
      obtain ⟨pA, pn, pc, l, hp⟩ : ∃ pA pn pc l, ps[k] = ⟨pA, pn, pc, l⟩ := ⟨_, _, _, _, rfl⟩
      rw [hp] at cp hsh hj ht
      have hsh : Shows w w.heap.size pA pn pc l := hsh
      have cp : wr.cell? ⟨pg, po + k, none⟩ = some (.slice pA pn pc) := cp
      have hj : joined (ps.take (k + 1)) = joined (ps.take k) ++ l := hj
      have ht : total (ps.take (k + 1)) = total (ps.take k) + pn := ht
      have hpcap : pn ≤ pc := hsh.le
      have hptop : pc ≤ maxLen := hsh.top
      unfold maxLen at hptop
      have HP := Lib.hid (And.intro hsh (And.intro hj ht))
      have hsrc := ((HP.out.1.below HK.out.2.1).more HK.out.2.1.size).src (P := Tryd.prog) Tryd.underlying26
      have HSRC := Lib.hid hsrc
      clear hp hsh hpg hpc hkl hj ht hsrc
      by_cases hp2 : 200 < pn
      · go_wp2
        go_ret
        exact ⟨rfl, HK.out.2.1⟩
      · go_wp2_with (at_builtin; refine wpList_ap _ rfl (.tmp 27) (.tmp 31) 26 26 rfl w.heap.size 5 i0 Tryd.underlying26 HI0.out HZ0.out HZ1.out HZ2.out Ab m cb _ rfl HK.out.1 _ pn l rfl HSRC.out ?c1 ?c2 ?_)
        case c1 => omega
        case c2 => exact HK.out.2.1.size
        intro A4 c4 w4 ho4 _ hg4 _
        have hc4 : c4 ≤ maxLen := (Shows.of_own ho4).top
        unfold maxLen at hc4
        have hb4 := HK.out.2.1.grown hg4 HK.out.2.1.size (fun q hq => (own_block HK.out.1 q hq).1)
        have hr4 : Row w4 Gh 24 (bc h) := by
          refine (hg4.block Gh HK.out.2.2.1.lt (fun e => ?_)).trans HK.out.2.2.1
          rcases HK.out.1.2 with ⟨h', _⟩ | ⟨g', cap', cur', h', _, hg', _⟩
          · injection h' with h1 _ _
            subst h1
            cases e
          · injection h' with h1 _ _
            subst h1
            have e2 : Gh = g' := by injection e
            rw [← e2] at hg'
            have h3 := HK.out.2.2.1
            unfold Row at h3
            rw [hg'] at h3
            injection h3 with h3
            injection h3 with _ h4 _
            exact absurd h4 (by decide)
        have HR : Hid (w4.ownsRow w.heap.size 5 1 (.slice A4 (m + pn) c4) (m + pn) (bc (joined (ps.take (k + 1)))) ∧ Below w.heap.size w w4 ∧ Row w4 Gh 24 (bc h) ∧ total (ps.take (k + 1)) = m + pn) :=
          Lib.hid ⟨by rw [HP.out.2.1]; exact ho4, hb4, hr4, by rw [HP.out.2.2, HK.out.2.2.2]⟩
        clear ho4 hg4 hb4 hr4 HSRC
        go_wp2
        go_roundw
        case rel => exact ⟨k + 1, m + pn, A4, c4, by omega, by omega, hc4, by go_num, rfl, HR⟩
        case measure => simp [intOf]; omega
    have hkn : ¬ (k : Int) < (n : Int) := by omega
    obtain ⟨B, hB⟩ : ∃ B, joined (ps.take k) = B := ⟨_, rfl⟩
    have hpsk : ps.take k = ps := List.take_of_length_le (by rw [HL.out.len]; omega)
    have hsb : Shows wr wr.heap.size Ab m cb B := by rw [← hB]; exact Shows.of_own HK.out.1
    have hm2 : m ≤ 2000 := by omega
    have hcap := hsb.le
    obtain ⟨k', hk'⟩ : ∃ d : Nat, x % ((m : Int) + 1) = d := ⟨(x % ((m : Int) + 1)).toNat, by have := Int.emod_nonneg x (show (m : Int) + 1 ≠ 0 by omega); omega⟩
    have hk'm : k' ≤ m := by have := Int.emod_lt_of_pos x (show (0 : Int) < (m : Int) + 1 by omega); omega
    obtain ⟨A2, hA2⟩ : ∃ A', (if cb = k' then Ab else Ab.map (·.add k')) = A' := ⟨_, rfl⟩
    obtain ⟨m2, hmm2⟩ : ∃ d, m - k' = d := ⟨_, rfl⟩
    obtain ⟨c2, hcc2⟩ : ∃ d, cb - k' = d := ⟨_, rfl⟩
    have hcut2 : ∀ W : World, (Instr.sliceAt 26 (.slice Ab m cb) (some (.int .i64 (k' : Int))) none none).run Tryd.prog W = .ok (.slice A2 m2 c2) W := fun W => by
      rw [bytes_cut W Ab m cb k' hk'm, hA2, hmm2, hcc2]
    have hcut1 : ∀ W : World, (Instr.sliceAt 26 (.slice Ab m cb) none (some (.int .i64 (k' : Int))) none).run Tryd.prog W = .ok (.slice Ab k' cb) W := fun W => bytes_front W Ab m cb k' (by omega)
    have hsb2 := hsb.drop hk'm
    rw [hA2, hmm2, hcc2] at hsb2
    have hlaid := laid_more (HL.out.below HK.out.2.1) HK.out.2.1.size
    have htw := HT.out.below HK.out.2.1
    have hjB : joined ps = B := by rw [← hB, hpsk]
    have hs1 : Calls Tryd.prog 10 #[.slice A n cap] wr.drew (fun e w' => e = .returned (.agg (bc (sha B)).toArray) ∧ Below wr.heap.size wr w') := by
      refine (shasum_any A n cap ps wr.drew (hlaid.below (Below.refl wr.heap.size wr).drew) (htw.below (Below.refl _ _).drew) (by omega) (by have := HK.out.2.2.2; rw [hpsk] at this; omega)).mono ?_
      rintro e w' ⟨rfl, hb⟩
      exact ⟨by rw [hjB], (Below.refl wr.heap.size wr).drew.trans hb⟩
    have HS1 := Lib.hid hs1
    have HSB := Lib.hid hsb
    have HSB1 := Lib.hid (hsb.take hk'm)
    have HSB2 := Lib.hid hsb2
    have HTW := Lib.hid htw
    have HM1 := Lib.hid (show k' ≤ 1000000 by omega)
    have HM2 := Lib.hid (show m2 ≤ 1000000 by omega)
    have HM3 := Lib.hid (show m ≤ 1000000 by omega)
    have HTD := Lib.hid (List.take_append_drop k' B)
    have HNL := Lib.hid (List.append_nil B)
    have HGH := Lib.hid HK.out.2.2.1.lt
    have HRG := Lib.hid (show ∀ q v, (bc h)[q]? = some v → wr.cell? ⟨Gh, 0 + q, none⟩ = some v from fun q v hq => by rw [Nat.zero_add]; exact HK.out.2.2.1.cell hq)
    have HIH := Lib.hid (show (Tryd.prog.info? 24).map (·.size) = some (bc h).length by rw [bc_len, H0.out.2.2]; kernel_rfl)
    have HHL := Lib.hid H0.out.2.2
    have HKB := Lib.hid HK.out.2.1
    have HK1 := Lib.hid hk'
    clear hB hpsk hsb hk' hA2 hmm2 hcc2 hsb2 hlaid htw hjB hs1 HK hkN
    go_wp2_with fail
    (with_reducible refine (within3_any _ _ _ (by omega) (by omega)).mono ?_)
    rintro _ w2 ⟨rfl, rfl⟩
    rw [HK1.out]
    go_wp2_with fail
    refine wp_region_held_drew (S := fun W => Below wr.heap.size wr W) (by kernel_rfl) (Below.refl _ _).drew (fun hH0 => ?_)
    refine wpAnyH_take (i := 0) (v := ?_) rfl (by kernel_rfl) (by kernel_rfl) (by kernel_rfl) (fun _ _ _ h => h) (Or.inl ⟨by rfl, ?_⟩) (by assumption) ?_
    rotate_left
    · intro w' hS'; have hS2 : Below wr.heap.size wr w' := hS'; go_simp; try exact rfl
    try simp only [Act.put, List.getElem_toArray, List.getElem_cons_zero, List.setIfInBounds_toArray, List.set_cons_zero, List.set_cons_succ]
    refine wpAnyH_take (i := 2) (v := ?_) rfl (by kernel_rfl) (by kernel_rfl) (by kernel_rfl) (fun _ _ _ h => h) (Or.inl ⟨by rfl, ?_⟩) (by assumption) ?_
    rotate_left
    · intro w' hS'; have hS2 : Below wr.heap.size wr w' := hS'; go_simp; try exact rfl
    try simp only [Act.put, List.getElem_toArray, List.getElem_cons_succ, List.getElem_cons_zero, List.setIfInBounds_toArray, List.set_cons_zero, List.set_cons_succ]
    refine wpAnyH_ready (rs := [1]) (by kernel_rfl) (by simp) ?_
    refine AllReadyH.cons rfl (fun K hK => ?_) AllReadyH.nil
    go_simp
    (with_reducible refine HS1.out.mono ?_)
    rintro _ w2 ⟨rfl, hb2⟩
    go_wp2_with fail
    refine hK.out _ _ hb2 (fun hH1 => ?_)
    clear hK K
    try simp only [Act.put, List.getElem_toArray, List.getElem_cons_succ, List.getElem_cons_zero, List.setIfInBounds_toArray, List.set_cons_zero, List.set_cons_succ]
    refine wpAnyH_ready (rs := [3]) (by kernel_rfl) (by simp) ?_
    refine AllReadyH.cons rfl (fun K hK => ?_) AllReadyH.nil
    go_simp
    (with_reducible refine (refsum3_any Ab m cb B _ ((HSB.out.below hH1).more hH1.size) (by omega)).mono ?_)
    rintro _ w3 ⟨rfl, hb3⟩
    go_wp2_with fail
    refine hK.out _ _ (step_below hH1 hb3) (fun hH2 => ?_)
    clear hK K
    try simp only [Act.put, List.getElem_toArray, List.getElem_cons_succ, List.getElem_cons_zero, List.setIfInBounds_toArray, List.set_cons_zero, List.set_cons_succ]
    refine wpAnyH_take (i := 4) (v := ?_) rfl (by kernel_rfl) (by kernel_rfl) (by kernel_rfl) (fun _ _ _ h => h) (Or.inl ⟨by rfl, ?_⟩) (by assumption) ?_
    rotate_left
    · intro w' hS'; have hS2 : Below wr.heap.size wr w' := hS'; have he := hash_in3 B w'; go_simp; try exact rfl
    try simp only [Act.put, List.getElem_toArray, List.getElem_cons_succ, List.getElem_cons_zero, List.setIfInBounds_toArray, List.set_cons_zero, List.set_cons_succ]
    refine wpAnyH_take (i := 5) (v := ?_) rfl (by kernel_rfl) (by kernel_rfl) (by kernel_rfl) (fun _ _ _ h => h) (Or.inl ⟨by rfl, ?_⟩) (by assumption) ?_
    rotate_left
    · intro w' hS'; have hS2 : Below wr.heap.size wr w' := hS'; go_simp; try exact rfl
    try simp only [Act.put, List.getElem_toArray, List.getElem_cons_succ, List.getElem_cons_zero, List.setIfInBounds_toArray, List.set_cons_zero, List.set_cons_succ]
    refine wpAnyH_take (i := 6) (v := ?_) rfl (by kernel_rfl) (by kernel_rfl) (by kernel_rfl) (fun _ _ _ h => h) (Or.inl ⟨by rfl, ?_⟩) (by assumption) ?_
    rotate_left
    · intro w' hS'; have hS2 : Below wr.heap.size wr w' := hS'; go_simp; try exact rfl
    try simp only [Act.put, List.getElem_toArray, List.getElem_cons_succ, List.getElem_cons_zero, List.setIfInBounds_toArray, List.set_cons_zero, List.set_cons_succ]
    refine wpAnyH_take (i := 7) (v := ?_) rfl (by kernel_rfl) (by kernel_rfl) (by kernel_rfl) (fun _ _ _ h => h) (Or.inl ⟨by rfl, ?_⟩) (by assumption) ?_
    rotate_left
    · intro w' hS'; have hS2 : Below wr.heap.size wr w' := hS'; go_simp; try exact rfl
    try simp only [Act.put, List.getElem_toArray, List.getElem_cons_succ, List.getElem_cons_zero, List.setIfInBounds_toArray, List.set_cons_zero, List.set_cons_succ]
    refine wpAnyH_take (i := 8) (v := ?_) rfl (by kernel_rfl) (by kernel_rfl) (by kernel_rfl) (fun _ _ _ h => h) (Or.inl ⟨by rfl, ?_⟩) (by assumption) ?_
    rotate_left
    · intro w' hS'; have hS2 : Below wr.heap.size wr w' := hS'; have hc := hcut1 w'; go_simp; try exact rfl
    try simp only [Act.put, List.getElem_toArray, List.getElem_cons_succ, List.getElem_cons_zero, List.setIfInBounds_toArray, List.set_cons_zero, List.set_cons_succ]
    refine wpAnyH_take (i := 9) (v := ?_) rfl (by kernel_rfl) (by kernel_rfl) (by kernel_rfl) (fun _ _ _ h => h) (Or.inl ⟨by rfl, ?_⟩) (by assumption) ?_
    rotate_left
    · intro w' hS'; have hS2 : Below wr.heap.size wr w' := hS'; go_simp; try exact rfl
    try simp only [Act.put, List.getElem_toArray, List.getElem_cons_succ, List.getElem_cons_zero, List.setIfInBounds_toArray, List.set_cons_zero, List.set_cons_succ]
    refine wpAnyH_take (i := 10) (v := ?_) rfl (by kernel_rfl) (by kernel_rfl) (by kernel_rfl) (fun _ _ _ h => h) (Or.inl ⟨by rfl, ?_⟩) (by assumption) ?_
    rotate_left
    · intro w' hS'; have hS2 : Below wr.heap.size wr w' := hS'; go_simp; try exact rfl
    try simp only [Act.put, List.getElem_toArray, List.getElem_cons_succ, List.getElem_cons_zero, List.setIfInBounds_toArray, List.set_cons_zero, List.set_cons_succ]
    refine wpAnyH_take (i := 11) (v := ?_) rfl (by kernel_rfl) (by kernel_rfl) (by kernel_rfl) (fun _ _ _ h => h) (Or.inl ⟨by rfl, ?_⟩) (by assumption) ?_
    rotate_left
    · intro w' hS'; have hS2 : Below wr.heap.size wr w' := hS'; have hc := hcut2 w'; go_simp; try exact rfl
    try simp only [Act.put, List.getElem_toArray, List.getElem_cons_succ, List.getElem_cons_zero, List.setIfInBounds_toArray, List.set_cons_zero, List.set_cons_succ]
    refine wpAnyH_take (i := 14) (v := ?_) rfl (by kernel_rfl) (by kernel_rfl) (by kernel_rfl) (fun _ _ _ h => h) (Or.inl ⟨by rfl, ?_⟩) (by assumption) ?_
    rotate_left
    · intro w' hS'; have hS2 : Below wr.heap.size wr w' := hS'; go_simp; try exact rfl
    try simp only [Act.put, List.getElem_toArray, List.getElem_cons_succ, List.getElem_cons_zero, List.setIfInBounds_toArray, List.set_cons_zero, List.set_cons_succ]
    refine wpAnyH_ready (rs := [12]) (by kernel_rfl) (by simp) ?_
    refine AllReadyH.cons rfl (fun K hK => ?_) AllReadyH.nil
    go_simp
    refine hK.out _ _ (below_new hH2 _) (fun hH3 => ?_)
    clear hK K
    try simp only [Act.put, List.getElem_toArray, List.getElem_cons_succ, List.getElem_cons_zero, List.setIfInBounds_toArray, List.set_cons_zero, List.set_cons_succ]
    refine wpAnyH_ready (rs := [13]) (by kernel_rfl) (by simp) ?_
    refine AllReadyH.cons rfl (fun K hK => ?_) AllReadyH.nil
    go_simp
    (with_reducible refine (shasum_two w3 (HTW.out.below hH2) ⟨Ab, k', cb, B.take k'⟩ ⟨A2, m2, c2, B.drop k'⟩ ((HSB1.out.below hH2).more hH2.size) ((HSB2.out.below hH2).more hH2.size) HM1.out HM2.out).mono ?_)
    rintro _ w5 ⟨rfl, hb5⟩
    rw [HTD.out]
    go_wp2_with fail
    refine hK.out _ _ (step_below hH2 hb5) (fun hH4 => ?_)
    clear hK K
    try simp only [Act.put, List.getElem_toArray, List.getElem_cons_succ, List.getElem_cons_zero, List.setIfInBounds_toArray, List.set_cons_zero, List.set_cons_succ]
    refine wpAnyH_ready (rs := [15]) (by kernel_rfl) (by simp) ?_
    refine AllReadyH.cons rfl (fun K hK => ?_) AllReadyH.nil
    go_simp
    (with_reducible refine (refsum3_any Ab m cb B _ ((HSB.out.below hH4).more hH4.size) (by omega)).mono ?_)
    rintro _ w6 ⟨rfl, hb6⟩
    go_wp2_with fail
    refine hK.out _ _ (step_below hH4 hb6) (fun hH5 => ?_)
    clear hK K
    try simp only [Act.put, List.getElem_toArray, List.getElem_cons_succ, List.getElem_cons_zero, List.setIfInBounds_toArray, List.set_cons_zero, List.set_cons_succ]
    refine wpAnyH_take (i := 16) (v := ?_) rfl (by kernel_rfl) (by kernel_rfl) (by kernel_rfl) (fun _ _ _ h => h) (Or.inl ⟨by rfl, ?_⟩) (by assumption) ?_
    rotate_left
    · intro w' hS'; have hS2 : Below wr.heap.size wr w' := hS'; have he := hash_in3 B w'; go_simp; try exact rfl
    try simp only [Act.put, List.getElem_toArray, List.getElem_cons_succ, List.getElem_cons_zero, List.setIfInBounds_toArray, List.set_cons_zero, List.set_cons_succ]
    refine wpAnyH_take (i := 17) (v := ?_) rfl (by kernel_rfl) (by kernel_rfl) (by kernel_rfl) (fun _ _ _ h => h) (Or.inl ⟨by rfl, ?_⟩) (by assumption) ?_
    rotate_left
    · intro w' hS'; have hS2 : Below wr.heap.size wr w' := hS'; go_simp; try exact rfl
    try simp only [Act.put, List.getElem_toArray, List.getElem_cons_succ, List.getElem_cons_zero, List.setIfInBounds_toArray, List.set_cons_zero, List.set_cons_succ]
    refine wpAnyH_take (i := 18) (v := ?_) rfl (by kernel_rfl) (by kernel_rfl) (by kernel_rfl) (fun _ _ _ h => h) (Or.inl ⟨by rfl, ?_⟩) (by assumption) ?_
    rotate_left
    · intro w' hS'; have hS2 : Below wr.heap.size wr w' := hS'; go_simp; try exact rfl
    try simp only [Act.put, List.getElem_toArray, List.getElem_cons_succ, List.getElem_cons_zero, List.setIfInBounds_toArray, List.set_cons_zero, List.set_cons_succ]
    refine wpAnyH_take (i := 19) (v := ?_) rfl (by kernel_rfl) (by kernel_rfl) (by kernel_rfl) (fun _ _ _ h => h) (Or.inl ⟨by rfl, ?_⟩) (by assumption) ?_
    rotate_left
    · intro w' hS'; have hS2 : Below wr.heap.size wr w' := hS'; go_simp; try exact rfl
    try simp only [Act.put, List.getElem_toArray, List.getElem_cons_succ, List.getElem_cons_zero, List.setIfInBounds_toArray, List.set_cons_zero, List.set_cons_succ]
    refine wpAnyH_take (i := 22) (v := ?_) rfl (by kernel_rfl) (by kernel_rfl) (by kernel_rfl) (fun _ _ _ h => h) (Or.inl ⟨by rfl, ?_⟩) (by assumption) ?_
    rotate_left
    · intro w' hS'; have hS2 : Below wr.heap.size wr w' := hS'; go_simp; try exact rfl
    try simp only [Act.put, List.getElem_toArray, List.getElem_cons_succ, List.getElem_cons_zero, List.setIfInBounds_toArray, List.set_cons_zero, List.set_cons_succ]
    refine wpAnyH_ready (rs := [20]) (by kernel_rfl) (by simp) ?_
    refine AllReadyH.cons rfl (fun K hK => ?_) AllReadyH.nil
    go_simp
    refine hK.out _ _ (below_new hH5 _) (fun hH6 => ?_)
    clear hK K
    try simp only [Act.put, List.getElem_toArray, List.getElem_cons_succ, List.getElem_cons_zero, List.setIfInBounds_toArray, List.set_cons_zero, List.set_cons_succ]
    refine wpAnyH_ready (rs := [21]) (by kernel_rfl) (by simp) ?_
    refine AllReadyH.cons rfl (fun K hK => ?_) AllReadyH.nil
    go_simp
    (with_reducible refine (shasum_two w6 (HTW.out.below hH5) ⟨Ab, m, cb, B⟩ ⟨none, 0, 0, []⟩ ((HSB.out.below hH5).more hH5.size) (Shows.nil _ _) HM3.out (by decide)).mono ?_)
    rintro _ w7 ⟨rfl, hb7⟩
    rw [HNL.out]
    go_wp2_with fail
    refine hK.out _ _ (step_below hH5 hb7) (fun hH7 => ?_)
    clear hK K
    try simp only [Act.put, List.getElem_toArray, List.getElem_cons_succ, List.getElem_cons_zero, List.setIfInBounds_toArray, List.set_cons_zero, List.set_cons_succ]
    refine wpAnyH_ready (rs := [23]) (by kernel_rfl) (by simp) ?_
    refine AllReadyH.cons rfl (fun K hK => ?_) AllReadyH.nil
    go_simp
    (with_reducible refine (refsum3_any Ab m cb B _ ((HSB.out.below hH7).more hH7.size) (by omega)).mono ?_)
    rintro _ w8 ⟨rfl, hb8⟩
    go_wp2_with fail
    refine hK.out _ _ (step_below hH7 hb8) (fun hH8 => ?_)
    clear hK K
    try simp only [Act.put, List.getElem_toArray, List.getElem_cons_succ, List.getElem_cons_zero, List.setIfInBounds_toArray, List.set_cons_zero, List.set_cons_succ]
    refine wpAnyH_take (i := 24) (v := ?_) rfl (by kernel_rfl) (by kernel_rfl) (by kernel_rfl) (fun _ _ _ h => h) (Or.inl ⟨by rfl, ?_⟩) (by assumption) ?_
    rotate_left
    · intro w' hS'; have hS2 : Below wr.heap.size wr w' := hS'; have he := hash_in3 B w'; go_simp; try exact rfl
    try simp only [Act.put, List.getElem_toArray, List.getElem_cons_succ, List.getElem_cons_zero, List.setIfInBounds_toArray, List.set_cons_zero, List.set_cons_succ]
    refine wpAnyH_take (i := 25) (v := ?_) rfl (by kernel_rfl) (by kernel_rfl) (by kernel_rfl) (fun _ _ _ h => h) (Or.inl ⟨by rfl, ?_⟩) (by assumption) ?_
    rotate_left
    · intro w' hS'; have hS2 : Below wr.heap.size wr w' := hS'; go_simp; try exact rfl
    try simp only [Act.put, List.getElem_toArray, List.getElem_cons_succ, List.getElem_cons_zero, List.setIfInBounds_toArray, List.set_cons_zero, List.set_cons_succ]
    refine wpAnyH_take (i := 26) (v := ?_) rfl (by kernel_rfl) (by kernel_rfl) (by kernel_rfl) (fun _ _ _ h => h) (Or.inl ⟨by rfl, ?_⟩) (by assumption) ?_
    rotate_left
    · intro w' hS'; have hS2 : Below wr.heap.size wr w' := hS'; go_simp; try exact rfl
    try simp only [Act.put, List.getElem_toArray, List.getElem_cons_succ, List.getElem_cons_zero, List.setIfInBounds_toArray, List.set_cons_zero, List.set_cons_succ]
    refine wpAnyH_take (i := 27) (v := .agg (bc h).toArray) rfl (by kernel_rfl) (by kernel_rfl) (by kernel_rfl) (fun _ _ _ h => h) (yieldsIf_load_mid (by rfl) _ _ rfl Gh 0 rfl (bc h) _ (fun w' hS' q v hq => ((show Below wr.heap.size wr w' from hS').cell (p := ⟨Gh, 0 + q, none⟩) HGH.out).trans (HRG.out q v hq)) Tryd.underlying24 rfl HIH.out) (by assumption) ?_
    try simp only [Act.put, List.getElem_toArray, List.getElem_cons_succ, List.getElem_cons_zero, List.setIfInBounds_toArray, List.set_cons_zero, List.set_cons_succ]
    refine wpAnyH_take (i := 29) (v := .agg (bc h).toArray) rfl (by kernel_rfl) (by kernel_rfl) (by kernel_rfl) (fun _ _ _ h => h) (yieldsIf_load_mid (by rfl) _ _ rfl Gh 0 rfl (bc h) _ (fun w' hS' q v hq => ((show Below wr.heap.size wr w' from hS').cell (p := ⟨Gh, 0 + q, none⟩) HGH.out).trans (HRG.out q v hq)) Tryd.underlying24 rfl HIH.out) (by assumption) ?_
    try simp only [Act.put, List.getElem_toArray, List.getElem_cons_succ, List.getElem_cons_zero, List.setIfInBounds_toArray, List.set_cons_zero, List.set_cons_succ]
    refine wpAnyH_ready (rs := [28]) (by kernel_rfl) (by simp) ?_
    refine AllReadyH.cons rfl (fun K hK => ?_) AllReadyH.nil
    go_simp
    (with_reducible refine (hex_any h _ HHL.out).mono ?_)
    rintro _ w9 ⟨rfl, hb9⟩
    go_wp2_with fail
    refine hK.out _ _ (step_below hH8 hb9) (fun hH9 => ?_)
    clear hK K
    try simp only [Act.put, List.getElem_toArray, List.getElem_cons_succ, List.getElem_cons_zero, List.setIfInBounds_toArray, List.set_cons_zero, List.set_cons_succ]
    refine wpAnyH_ready (rs := [30]) (by kernel_rfl) (by simp) ?_
    refine AllReadyH.cons rfl (fun K hK => ?_) AllReadyH.nil
    go_simp
    (with_reducible refine (refhex_any h _ HHL.out).mono ?_)
    rintro _ w10 ⟨rfl, hb10⟩
    go_wp2_with fail
    refine hK.out _ _ (step_below hH9 hb10) (fun hH10 => ?_)
    clear hK K
    try simp only [Act.put, List.getElem_toArray, List.getElem_cons_succ, List.getElem_cons_zero, List.setIfInBounds_toArray, List.set_cons_zero, List.set_cons_succ]
    refine wpAnyH_take (i := 31) (v := ?_) rfl (by kernel_rfl) (by kernel_rfl) (by kernel_rfl) (fun _ _ _ h => h) (Or.inl ⟨by rfl, ?_⟩) (by assumption) ?_
    rotate_left
    · intro w' hS'; have hS2 : Below wr.heap.size wr w' := hS'; go_simp; try exact rfl
    try simp only [Act.put, List.getElem_toArray, List.getElem_cons_succ, List.getElem_cons_zero, List.setIfInBounds_toArray, List.set_cons_zero, List.set_cons_succ]
    refine wpAnyH_take (i := 32) (v := ?_) rfl (by kernel_rfl) (by kernel_rfl) (by kernel_rfl) (fun _ _ _ h => h) (Or.inl ⟨by rfl, ?_⟩) (by assumption) ?_
    rotate_left
    · intro w' hS'; have hS2 : Below wr.heap.size wr w' := hS'; go_simp; try exact rfl
    try simp only [Act.put, List.getElem_toArray, List.getElem_cons_succ, List.getElem_cons_zero, List.setIfInBounds_toArray, List.set_cons_zero, List.set_cons_succ]
    refine wpAnyH_take (i := 33) (v := ?_) rfl (by kernel_rfl) (by kernel_rfl) (by kernel_rfl) (fun _ _ _ h => h) (Or.inl ⟨by rfl, ?_⟩) (by assumption) ?_
    rotate_left
    · intro w' hS'; have hS2 : Below wr.heap.size wr w' := hS'; go_simp; try exact rfl
    try simp only [Act.put, List.getElem_toArray, List.getElem_cons_succ, List.getElem_cons_zero, List.setIfInBounds_toArray, List.set_cons_zero, List.set_cons_succ]
    refine wpAnyH_done (by kernel_rfl) ?_ _
    have HR := Lib.hid (step_below HKB.out hH10)
    clear hH0 hH1 hH2 hH3 hH4 hH5 hH6 hH7 hH8 hH9 hH10
    go_wp2
    go_ret
    exact ⟨rfl, HR.out⟩
end Go.Proofs.YtkclbhmjhjfgiaaDoor
