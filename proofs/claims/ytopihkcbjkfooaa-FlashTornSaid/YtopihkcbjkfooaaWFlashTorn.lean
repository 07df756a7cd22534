/- The walk of the law FlashTorn: of an operation at which the power goes just the bits of the mask change; all behind it is refused, till it is there again. -/
import Derived.Test.YtopihkcbjkfooaaWFlashBits
namespace Go.Proofs.Ytopihkcbjkfooaa
open Go.RowKit Wd Fm

theorem ones_at (i : Nat) (h : i < 8) : (255 : UInt8).toBitVec[i] = true := by
  have : ∀ i : Nat, (h : i < 8) → (255 : UInt8).toBitVec[i] = true := by decide
  exact this i h
theorem mix_low (m : UInt8) : mixB 0 255 m = m := by
  unfold mixB
  apply UInt8.eq_of_toBitVec_eq
  simp only [UInt8.toBitVec_and, UInt8.toBitVec_or, UInt8.toBitVec_not]
  ext i hi
  simp only [BitVec.getElem_and, BitVec.getElem_or, BitVec.getElem_not, ones_at i hi]
  simp
theorem mix_high (m : UInt8) : mixB 255 255 m = 255 := by
  rw [← mix_bits]
  simp
theorem mix_byte (b m : UInt8) : mixB 255 b m = b ||| ~~~m := by
  unfold mixB
  apply UInt8.eq_of_toBitVec_eq
  simp only [UInt8.toBitVec_and, UInt8.toBitVec_or, UInt8.toBitVec_not]
  ext i hi
  simp only [BitVec.getElem_and, BitVec.getElem_or, BitVec.getElem_not]
  rw [ones_at i hi]
  cases b.toBitVec[i] <;> cases m.toBitVec[i] <;> rfl

def tornM : Mem := ⟨lay Mem.fresh.B 1072 (padded [0, 0, 0]), false, 1, 0, []⟩
theorem torn_len : tornM.B.length = 6144 := (lay_len _ _ _ (by rw [fresh_len]; decide)).trans fresh_len
theorem three_zero : ∀ k, k < 3 → ([0, 0, 0] : List UInt8).getD k 0 = 0 := by decide
theorem torn_at (i : Nat) (h : i < 6144) : tornM.B.getD i 0 = if 1072 ≤ i ∧ i < 1075 then 0 else 255 := by
  show (lay Mem.fresh.B 1072 (padded [0, 0, 0])).getD i 0 = _
  rw [lay_at _ _ _ (by rw [fresh_len]; decide), show (padded [0, 0, 0]).length = 16 from rfl]
  by_cases h1 : 1072 ≤ i ∧ i < 1072 + 16
  · rw [if_pos h1, padded_at _ _ (by omega), show ([0, 0, 0] : List UInt8).length = 3 from rfl]
    by_cases h2 : i - 1072 < 3
    · rw [if_pos h2, if_pos (by omega)]
      exact three_zero _ h2
    · rw [if_neg h2, if_neg (by omega)]
  · rw [if_neg h1, if_neg (by omega), fresh_at i h]
theorem torn_one : programM Mem.fresh 1 3 [0, 0, 0] = (0, tornM) := by
  have h := program_blank (m := Mem.fresh) (s := 1) (p := 3) (b := [0, 0, 0]) rfl (by decide) (by decide) (by decide) rfl (fun i hi => fresh_at _ (by omega))
  rw [show wrap64 (Mem.fresh.ops + 1) = 1 by decide +kernel] at h
  exact h
set_option maxRecDepth 100000 in
theorem dead_start (m3 : Mem) (hl : m3.B.length = 6144) : ∃ m5, eraseM (startM m3) 1 = (0, m5) ∧ (readM m5 1).length = 1024 ∧ (readM m5 1).getD 48 0 = 255 := by
  have h : eraseM (startM m3) ((1 : Nat) : Int) = _ := eraseM_ok (m := startM m3) 1 rfl (by decide)
  rw [writeM_go (m := startM m3) (1 * 1024) (List.replicate 1024 255) rfl] at h
  have hfit : 1 * 1024 + (List.replicate 1024 (255 : UInt8)).length ≤ (startM m3).B.length := by rw [List.length_replicate]; show _ ≤ m3.B.length; omega
  obtain ⟨r1, r2⟩ := readM_at ⟨lay (startM m3).B (1 * 1024) (List.replicate 1024 255), (startM m3).dead, wrap64 ((startM m3).ops + 1), 0, (startM m3).mask⟩ 1 (by decide) (by show (lay _ _ _).length = _; rw [lay_len _ _ _ hfit]; exact hl)
  refine ⟨_, h, r1, ?_⟩
  have := r2 48 (by decide)
  refine this.trans ?_
  show (lay (startM m3).B (1 * 1024) (List.replicate 1024 255)).getD (1 * 1024 + 48) 0 = 255
  rw [lay_at _ _ _ hfit, List.length_replicate, if_pos (by omega), rep_getD _ _ _ (by omega)]
set_option maxRecDepth 100000 in
theorem torn_erase (mask : List UInt8) (hm : mask.length ≤ 20) : ∃ m3, eraseM (stopM tornM 1 mask) 1 = (14, m3) ∧ m3.dead = true ∧ m3.B.length = 6144 ∧ (readM m3 1).length = 1024 ∧
    ∀ i, i < 16 → (readM m3 1).getD (48 + i) 0 = if i < 3 then maskAt mask (48 + i) else 255 := by
  have hst : stopM tornM 1 mask = { tornM with left := 1, mask := mask } := by
    unfold stopM
    rw [if_pos (by decide), List.take_of_length_le (by omega)]
  rw [hst]
  have h : eraseM { tornM with left := 1, mask := mask } ((1 : Nat) : Int) = _ := eraseM_ok (m := { tornM with left := 1, mask := mask }) 1 rfl (by decide)
  unfold writeM at h
  rw [if_pos rfl, List.length_replicate] at h
  obtain ⟨X, hX⟩ : ∃ X, mixL (({ tornM with left := 1, mask := mask } : Mem).page (1 * 1024) 1024) (List.replicate 1024 255) mask = X := ⟨_, rfl⟩
  have hXl : X.length = 1024 := by rw [← hX, mixL_len, List.length_replicate]
  have hfit : 1 * 1024 + X.length ≤ tornM.B.length := by rw [hXl, torn_len]; decide
  rw [hX] at h
  have hlen : (lay tornM.B (1 * 1024) X).length = 6144 := (lay_len _ _ _ hfit).trans torn_len
  obtain ⟨r1, r2⟩ := readM_at ⟨lay tornM.B (1 * 1024) X, true, wrap64 (tornM.ops + 1), 0, []⟩ 1 (by decide) hlen
  refine ⟨_, h, rfl, hlen, r1, fun i hi => ?_⟩
  refine (r2 (48 + i) (by omega)).trans ?_
  show (lay tornM.B (1 * 1024) X).getD (1 * 1024 + (48 + i)) 0 = _
  rw [lay_at _ _ _ hfit, hXl, if_pos (by omega), ← hX, mixL_at _ _ _ _ (by rw [List.length_replicate]; omega), rep_getD _ _ _ (by omega), page_at _ _ _ _ (by omega)]
  show mixB (tornM.B.getD (1 * 1024 + (1 * 1024 + (48 + i) - 1 * 1024)) 0) 255 _ = _
  rw [show 1 * 1024 + (48 + i) - 1 * 1024 = 48 + i by omega, torn_at _ (by omega)]
  by_cases h3 : i < 3
  · rw [if_pos (by omega), if_pos h3, mix_low]
  · rw [if_neg (by omega), if_neg h3, mix_high]
set_option maxRecDepth 100000 in
theorem torn_program (b mask : List UInt8) (hb : b.length ≤ 16) (hm : mask.length ≤ 20) : ∃ m3, programM (stopM tornM 1 mask) 1 5 b = (14, m3) ∧ m3.dead = true ∧ m3.B.length = 6144 ∧ (readM m3 1).length = 1024 ∧
    ∀ i, i < 16 → (readM m3 1).getD (80 + i) 0 = if i < b.length then b.getD i 0 ||| ~~~(maskAt mask i) else 255 := by
  have hst : stopM tornM 1 mask = { tornM with left := 1, mask := mask } := by
    unfold stopM
    rw [if_pos (by decide), List.take_of_length_le (by omega)]
  rw [hst]
  have hpb := padded_len b hb
  have hpg : ∀ i, i < 16 → (({ tornM with left := 1, mask := mask } : Mem).page (1 * 1024 + 5 * 16) 16).getD i 0 = 255 := fun i hi => by
    rw [page_at _ _ _ _ hi]
    show tornM.B.getD (1 * 1024 + 5 * 16 + i) 0 = 255
    rw [torn_at _ (by omega), if_neg (by omega)]
  have h : programM { tornM with left := 1, mask := mask } ((1 : Nat) : Int) ((5 : Nat) : Int) b = _ := programM_ok (m := { tornM with left := 1, mask := mask }) (s := 1) (p := 5) (b := b) rfl (by decide) (by decide) hb (sets_blank _ _ (fun i hi => hpg i (by omega)))
  unfold writeM at h
  rw [if_pos rfl, hpb] at h
  obtain ⟨X, hX⟩ : ∃ X, mixL (({ tornM with left := 1, mask := mask } : Mem).page (1 * 1024 + 5 * 16) 16) (padded b) mask = X := ⟨_, rfl⟩
  have hXl : X.length = 16 := by rw [← hX, mixL_len, hpb]
  have hfit : 1 * 1024 + 5 * 16 + X.length ≤ tornM.B.length := by rw [hXl, torn_len]; decide
  rw [hX] at h
  have hlen : (lay tornM.B (1 * 1024 + 5 * 16) X).length = 6144 := (lay_len _ _ _ hfit).trans torn_len
  obtain ⟨r1, r2⟩ := readM_at ⟨lay tornM.B (1 * 1024 + 5 * 16) X, true, wrap64 (tornM.ops + 1), 0, []⟩ 1 (by decide) hlen
  refine ⟨_, h, rfl, hlen, r1, fun i hi => ?_⟩
  refine (r2 (80 + i) (by omega)).trans ?_
  show (lay tornM.B (1 * 1024 + 5 * 16) X).getD (1 * 1024 + (80 + i)) 0 = _
  rw [lay_at _ _ _ hfit, hXl, if_pos (by omega), show 1 * 1024 + (80 + i) - (1 * 1024 + 5 * 16) = i by omega, ← hX, mixL_at _ _ _ _ (by omega), hpg i hi, padded_at b i hi]
  by_cases h3 : i < b.length
  · rw [if_pos h3, if_pos h3, mix_byte]
  · rw [if_neg h3, if_neg h3, mix_high]

theorem lit_three (w : World) : Shows (w.alloc (.cells #[.int .u8 0, .int .u8 0, .int .u8 0] 5)) (w.alloc (.cells #[.int .u8 0, .int .u8 0, .int .u8 0] 5)).heap.size (some ⟨w.heap.size, 0, none⟩) 3 3 [0, 0, 0] := lit_shows w [0, 0, 0] (by simp)
theorem u8_not8 (m : UInt8) : bits BinOp.xor IntKind.u8 (if IntKind.u8.signed = true then -1 else IntKind.u8.max) (m.toNat : Int) = ((~~~m).toNat : Int) := by
  have h := u8_xor8 255 m
  have e : (255 : UInt8) ^^^ m = ~~~m := by
    apply UInt8.eq_of_toBitVec_eq
    simp only [UInt8.toBitVec_xor, UInt8.toBitVec_not]
    ext i hi
    simp only [BitVec.getElem_xor, BitVec.getElem_not, ones_at i hi]
    cases m.toBitVec[i] <;> rfl
  rw [e] at h
  exact h
theorem mask_byte {w : World} {A : Option Addr} {n cap : Nat} {l : List UInt8} (h : Shows w w.heap.size A n cap l) (k : Nat) :
    (n = 0 ∧ maskAt l k = 0) ∨ (0 < n ∧ ∃ g o, A = some ⟨g, o, none⟩ ∧ k % n < n ∧ w.cell? ⟨g, o + k % n, none⟩ = some (.int .u8 ((maskAt l k).toNat : Int))) := by
  have hl := h.len
  by_cases hn : n = 0
  · exact .inl ⟨hn, by unfold maskAt; rw [if_pos (by omega)]⟩
  · obtain ⟨g, o, e, _, hc⟩ := h.cells (by omega)
    have hlt : k % n < n := Nat.mod_lt _ (by omega)
    refine .inr ⟨by omega, g, o, e, hlt, ?_⟩
    rw [hc _ hlt, maskAt, if_neg (by omega), hl]

set_option maxRecDepth 100000 in
set_option maxHeartbeats 4000000 in
theorem flashTorn_e (Ba : Option Addr) (nb cb : Nat) (b : List UInt8) (M : Option Addr) (nm cm : Nat) (mask : List UInt8) (w : World) (ha : Shows w w.heap.size Ba nb cb b) (hb : Shows w w.heap.size M nm cm mask) :
    Calls Try.prog 4 #[.slice Ba nb cb, .slice M nm cm, .bool true] w fun e w' => e = .returned (.bool true) ∧ Below w.heap.size w w' := by
  have hal := ha.len
  have hbl := hb.len
  have HAB := Lib.hid (And.intro ha (And.intro hb (And.intro hal hbl)))
  have hna := ha.le
  have hnat := ha.top
  have hnb := hb.le
  have hnbt := hb.top
  unfold maxLen at hnat hnbt
  clear ha hb hal hbl
  by_cases hna : 16 < nb
  · go_enter Try.func4, Try.ntmps4
    go_wp2_with fail
    (with_reducible refine (known4_any _).mono ?_)
    rintro _ w1 ⟨rfl, hb1⟩
    have HB1 := Lib.hid hb1
    clear hb1
    go_wp2
    go_ret
    exact ⟨rfl, HB1.out⟩
  by_cases hnb : 20 < nm
  · go_enter Try.func4, Try.ntmps4
    go_wp2_with fail
    (with_reducible refine (known4_any _).mono ?_)
    rintro _ w1 ⟨rfl, hb1⟩
    have HB1 := Lib.hid hb1
    clear hb1
    go_wp2
    go_ret
    exact ⟨rfl, HB1.out⟩
  obtain ⟨m3, q1, q2, q3, q4, q5⟩ := torn_erase mask (by rw [HAB.out.2.2.2]; omega)
  obtain ⟨m5, q6, q7, q8⟩ := dead_start m3 q3
  have HQ := Lib.hid (And.intro q1 (And.intro q2 (And.intro q4 (And.intro q5 (And.intro q6 (And.intro q7 q8))))))
  clear q1 q2 q3 q4 q5 q6 q7 q8
  go_enter Try.func4, Try.ntmps4
  go_wp2_with fail
  (with_reducible refine (known4_any _).mono ?_)
  rintro _ w1 ⟨rfl, hb1⟩
  have HB1 := Lib.hid hb1
  clear hb1
  go_wp2_with fail
  (with_reducible refine (new_any _).mono ?_)
  rintro _ w2 ⟨rfl, hf, hb⟩
  obtain ⟨g, hg⟩ : ∃ g, w1.heap.size = g := ⟨_, rfl⟩
  rw [hg] at hf ⊢
  have hgw : w.heap.size ≤ g := by have := HB1.out.size; omega
  have f2 := hf.below (below_new (Below.refl _ _) (.cells #[.int .u8 0, .int .u8 0, .int .u8 0] 5))
  have b2 := below_new (step_below HB1.out hb) (.cells #[.int .u8 0, .int .u8 0, .int .u8 0] 5)
  have H2 := Lib.hid (And.intro f2 (And.intro b2 hgw))
  clear hf hb hg hgw f2 b2
  go_wp2_with fail
  (with_reducible refine (program_any g Mem.fresh 1 3 _ _ _ [0, 0, 0] _ H2.out.1 (lit_three w2) (by decide)).mono ?_)
  rintro _ w3 ⟨rfl, hf, hgr⟩
  rw [torn_one] at hf ⊢
  have H3 := Lib.hid (And.intro hf (step_grow H2.out.2.1 hgr H2.out.2.2))
  clear hf hgr
  go_wp2_with fail
  (with_reducible refine (stop_any g tornM 1 M nm cm mask _ H3.out.1 (by decide) ((HAB.out.2.1.below H3.out.2).more H3.out.2.size) (fun a ha hn => by
    obtain ⟨x, y, e, hx, _⟩ := HAB.out.2.1.spot hn
    have hgw := H2.out.2.2
    rw [ha] at e
    injection e with e
    subst e
    show x ≠ g
    omega) (by omega)).mono ?_)
  rintro _ w4 ⟨rfl, hf, hgr⟩
  have H4 := Lib.hid (And.intro hf (step_grow H3.out.2 hgr H2.out.2.2))
  clear hf hgr
  go_wp2_with fail
  (with_reducible refine (erase_any g _ 1 _ H4.out.1).mono ?_)
  rintro _ w5 ⟨rfl, hf, hgr⟩
  rw [HQ.out.1] at hf ⊢
  have H5 := Lib.hid (And.intro hf (step_grow H4.out.2 hgr H2.out.2.2))
  clear hf hgr
  go_wp2_with fail
  (with_reducible refine (dead_any g m3 _ H5.out.1).mono ?_)
  rintro _ w6 ⟨rfl, rfl⟩
  rw [HQ.out.2.1]
  go_wp2_with fail
  (with_reducible refine (program_any g m3 0 0 none 0 0 [] _ H5.out.1 (Shows.nil _ _) (by decide)).mono ?_)
  rintro _ w6 ⟨rfl, hf, hgr⟩
  rw [programM_dead _ _ _ HQ.out.2.1] at hf ⊢
  have H6 := Lib.hid (And.intro hf (step_grow H5.out.2 hgr H2.out.2.2))
  clear hf hgr
  go_wp2_with fail
  (with_reducible refine (erase_any g m3 2 _ H6.out.1).mono ?_)
  rintro _ w7 ⟨rfl, hf, hgr⟩
  rw [eraseM_dead _ HQ.out.2.1] at hf ⊢
  have H7 := Lib.hid (And.intro hf (step_grow H6.out.2 hgr H2.out.2.2))
  clear hf hgr
  go_wp2_with fail
  (with_reducible refine (read_any g m3 1 _ H7.out.1).mono ?_)
  rintro _ w8 ⟨Ar, nr, cr, rfl, ho, hb⟩
  have hn : nr = 1024 := by have := ho.1; rw [bc_len, HQ.out.2.2.1] at this; omega
  subst hn
  obtain ⟨x, y, rfl, _, hc⟩ := (Shows.of_own ho).cells (by decide)
  have hb8 := step_below H7.out.2 hb
  have H8 := Lib.hid (And.intro hb8 (And.intro hc (And.intro (H7.out.1.below hb) (And.intro ((HAB.out.1.below hb8).more hb8.size) ((HAB.out.2.1.below hb8).more hb8.size)))))
  clear ho hb hc hb8
  go_wp2_with fail
  go_loop [11] (fun i => ∃ k : Nat, k ≤ 16 ∧ i = .int .i64 k) (fun i => 16 - (intOf i).toNat)
  case atStart => exact ⟨0, by omega, rfl⟩
  case round =>
    obtain ⟨i, hk, rfl⟩ := hrel
    by_cases hlt : i < 16
    · have hki : (i : Int) < 16 := by omega
      have c1 := H8.out.2.1 (48 + i) (by omega)
      rw [HQ.out.2.2.2.1 i hlt] at c1
      have hti : (((48 : Int) + (i : Int)).toNat) = 48 + i := by omega
      have hm := mask_byte H8.out.2.2.2.2 (48 + i)
      obtain ⟨q, hq⟩ : ∃ q, (48 + i) % nm = q := ⟨_, rfl⟩
      obtain ⟨mm, hmm⟩ : ∃ mm, maskAt mask (48 + i) = mm := ⟨_, rfl⟩
      rw [hq, hmm] at hm
      rw [hmm] at c1
      obtain ⟨k, hkk⟩ : ∃ k, 48 + i = k := ⟨_, rfl⟩
      rw [hkk] at hq hti c1
      have hkz : (48 : Int) + (i : Int) = (k : Int) := by omega
      have hmod : 0 < nm → (k : Int).tmod (nm : Int) = (q : Int) := fun h => by rw [Int.tmod_eq_emod_of_nonneg (by omega), ← hq]; rfl
      have hk1024 : (k : Int) < 1024 := by omega
      clear hti hq hmm hkk hlt
      rcases hm with ⟨hn0, hm0⟩ | ⟨hn0, mg, mo, rfl, hqn, hmc⟩
      all_goals
        by_cases h3 : i < 3
        · rw [if_pos h3] at c1
          try rw [hm0, show (((0 : UInt8).toNat : Nat) : Int) = 0 from rfl] at c1
          try have hmod := hmod hn0
          have hqz : (q : Int) < (nm : Int) ∨ nm = 0 := by omega
          go_wp2
          go_round
          case rel => exact ⟨i + 1, by omega, by go_num⟩
          case measure => simp [intOf]; omega
        · rw [if_neg h3, show (((255 : UInt8).toNat : Nat) : Int) = 255 from rfl] at c1
          try have hmod := hmod hn0
          go_wp2
          go_round
          case rel => exact ⟨i + 1, by omega, by go_num⟩
          case measure => simp [intOf]; omega
    · have hk16 : i = 16 := by omega
      subst hk16
      go_wp2_with fail
      (with_reducible refine (start_any g m3 _ H8.out.2.2.1).mono ?_)
      rintro _ w9 ⟨rfl, hf, hgr⟩
      have H9 := Lib.hid (And.intro hf (step_grow H8.out.1 hgr H2.out.2.2))
      clear hf hgr
      go_wp2_with fail
      (with_reducible refine (dead_any g _ _ H9.out.1).mono ?_)
      rintro _ w10 ⟨rfl, rfl⟩
      rw [show (startM m3).dead = false from rfl]
      go_wp2_with fail
      (with_reducible refine (erase_any g _ 1 _ H9.out.1).mono ?_)
      rintro _ w10 ⟨rfl, hf, hgr⟩
      rw [HQ.out.2.2.2.2.1] at hf ⊢
      have H10 := Lib.hid (And.intro hf (step_grow H9.out.2 hgr H2.out.2.2))
      clear hf hgr
      go_wp2_with fail
      (with_reducible refine (read_any g m5 1 _ H10.out.1).mono ?_)
      rintro _ w11 ⟨Ar2, nr2, cr2, rfl, ho, hb⟩
      have hn : nr2 = 1024 := by have := ho.1; rw [bc_len, HQ.out.2.2.2.2.2.1] at this; omega
      subst hn
      obtain ⟨x2, y2, rfl, _, hc⟩ := (Shows.of_own ho).cells (by decide)
      have c2 := hc 48 (by decide)
      rw [HQ.out.2.2.2.2.2.2, show (((255 : UInt8).toNat : Nat) : Int) = 255 from rfl] at c2
      have H11 := Lib.hid (step_below H10.out.2 hb)
      clear ho hb hc
      go_wp2
      go_ret
      exact ⟨rfl, H11.out⟩

set_option maxRecDepth 100000 in
set_option maxHeartbeats 4000000 in
theorem flashTorn_p (Ba : Option Addr) (nb cb : Nat) (b : List UInt8) (M : Option Addr) (nm cm : Nat) (mask : List UInt8) (w : World) (ha : Shows w w.heap.size Ba nb cb b) (hb : Shows w w.heap.size M nm cm mask) :
    Calls Try.prog 4 #[.slice Ba nb cb, .slice M nm cm, .bool false] w fun e w' => e = .returned (.bool true) ∧ Below w.heap.size w w' := by
  have hal := ha.len
  have hbl := hb.len
  have HAB := Lib.hid (And.intro ha (And.intro hb (And.intro hal hbl)))
  have hna := ha.le
  have hnat := ha.top
  have hnb := hb.le
  have hnbt := hb.top
  unfold maxLen at hnat hnbt
  clear ha hb hal hbl
  by_cases hna : 16 < nb
  · go_enter Try.func4, Try.ntmps4
    go_wp2_with fail
    (with_reducible refine (known4_any _).mono ?_)
    rintro _ w1 ⟨rfl, hb1⟩
    have HB1 := Lib.hid hb1
    clear hb1
    go_wp2
    go_ret
    exact ⟨rfl, HB1.out⟩
  by_cases hnb : 20 < nm
  · go_enter Try.func4, Try.ntmps4
    go_wp2_with fail
    (with_reducible refine (known4_any _).mono ?_)
    rintro _ w1 ⟨rfl, hb1⟩
    have HB1 := Lib.hid hb1
    clear hb1
    go_wp2
    go_ret
    exact ⟨rfl, HB1.out⟩
  obtain ⟨m3, q1, q2, q3, q4, q5⟩ := torn_program b mask (by rw [HAB.out.2.2.1]; omega) (by rw [HAB.out.2.2.2]; omega)
  obtain ⟨m5, q6, q7, q8⟩ := dead_start m3 q3
  have HQ := Lib.hid (And.intro q1 (And.intro q2 (And.intro q4 (And.intro q5 (And.intro q6 (And.intro q7 q8))))))
  clear q1 q2 q3 q4 q5 q6 q7 q8
  go_enter Try.func4, Try.ntmps4
  go_wp2_with fail
  (with_reducible refine (known4_any _).mono ?_)
  rintro _ w1 ⟨rfl, hb1⟩
  have HB1 := Lib.hid hb1
  clear hb1
  go_wp2_with fail
  (with_reducible refine (new_any _).mono ?_)
  rintro _ w2 ⟨rfl, hf, hb⟩
  obtain ⟨g, hg⟩ : ∃ g, w1.heap.size = g := ⟨_, rfl⟩
  rw [hg] at hf ⊢
  have hgw : w.heap.size ≤ g := by have := HB1.out.size; omega
  have f2 := hf.below (below_new (Below.refl _ _) (.cells #[.int .u8 0, .int .u8 0, .int .u8 0] 5))
  have b2 := below_new (step_below HB1.out hb) (.cells #[.int .u8 0, .int .u8 0, .int .u8 0] 5)
  have H2 := Lib.hid (And.intro f2 (And.intro b2 hgw))
  clear hf hb hg hgw f2 b2
  go_wp2_with fail
  (with_reducible refine (program_any g Mem.fresh 1 3 _ _ _ [0, 0, 0] _ H2.out.1 (lit_three w2) (by decide)).mono ?_)
  rintro _ w3 ⟨rfl, hf, hgr⟩
  rw [torn_one] at hf ⊢
  have H3 := Lib.hid (And.intro hf (step_grow H2.out.2.1 hgr H2.out.2.2))
  clear hf hgr
  go_wp2_with fail
  (with_reducible refine (stop_any g tornM 1 M nm cm mask _ H3.out.1 (by decide) ((HAB.out.2.1.below H3.out.2).more H3.out.2.size) (fun a ha hn => by
    obtain ⟨x, y, e, hx, _⟩ := HAB.out.2.1.spot hn
    have hgw := H2.out.2.2
    rw [ha] at e
    injection e with e
    subst e
    show x ≠ g
    omega) (by omega)).mono ?_)
  rintro _ w4 ⟨rfl, hf, hgr⟩
  have H4 := Lib.hid (And.intro hf (step_grow H3.out.2 hgr H2.out.2.2))
  clear hf hgr
  go_wp2_with fail
  (with_reducible refine (program_any g _ 1 5 Ba nb cb b _ H4.out.1 ((HAB.out.1.below H4.out.2).more H4.out.2.size) (by omega)).mono ?_)
  rintro _ w5 ⟨rfl, hf, hgr⟩
  rw [HQ.out.1] at hf ⊢
  have H5 := Lib.hid (And.intro hf (step_grow H4.out.2 hgr H2.out.2.2))
  clear hf hgr
  go_wp2_with fail
  (with_reducible refine (dead_any g m3 _ H5.out.1).mono ?_)
  rintro _ w6 ⟨rfl, rfl⟩
  rw [HQ.out.2.1]
  go_wp2_with fail
  (with_reducible refine (program_any g m3 0 0 none 0 0 [] _ H5.out.1 (Shows.nil _ _) (by decide)).mono ?_)
  rintro _ w6 ⟨rfl, hf, hgr⟩
  rw [programM_dead _ _ _ HQ.out.2.1] at hf ⊢
  have H6 := Lib.hid (And.intro hf (step_grow H5.out.2 hgr H2.out.2.2))
  clear hf hgr
  go_wp2_with fail
  (with_reducible refine (erase_any g m3 2 _ H6.out.1).mono ?_)
  rintro _ w7 ⟨rfl, hf, hgr⟩
  rw [eraseM_dead _ HQ.out.2.1] at hf ⊢
  have H7 := Lib.hid (And.intro hf (step_grow H6.out.2 hgr H2.out.2.2))
  clear hf hgr
  go_wp2_with fail
  (with_reducible refine (read_any g m3 1 _ H7.out.1).mono ?_)
  rintro _ w8 ⟨Ar, nr, cr, rfl, ho, hb⟩
  have hn : nr = 1024 := by have := ho.1; rw [bc_len, HQ.out.2.2.1] at this; omega
  subst hn
  obtain ⟨x, y, rfl, _, hc⟩ := (Shows.of_own ho).cells (by decide)
  have hb8 := step_below H7.out.2 hb
  have H8 := Lib.hid (And.intro hb8 (And.intro hc (And.intro (H7.out.1.below hb) (And.intro ((HAB.out.1.below hb8).more hb8.size) ((HAB.out.2.1.below hb8).more hb8.size)))))
  clear ho hb hc hb8
  go_wp2_with fail
  go_loop [11] (fun i => ∃ k : Nat, k ≤ 16 ∧ i = .int .i64 k) (fun i => 16 - (intOf i).toNat)
  case atStart => exact ⟨0, by omega, rfl⟩
  case round =>
    obtain ⟨i, hk, rfl⟩ := hrel
    by_cases hlt : i < 16
    · have hki : (i : Int) < 16 := by omega
      have c1 := H8.out.2.1 (80 + i) (by omega)
      rw [HQ.out.2.2.2.1 i hlt] at c1
      have hti : (((80 : Int) + (i : Int)).toNat) = 80 + i := by omega
      have hm := mask_byte H8.out.2.2.2.2 (i)
      obtain ⟨q, hq⟩ : ∃ q, i % nm = q := ⟨_, rfl⟩
      obtain ⟨mm, hmm⟩ : ∃ mm, maskAt mask i = mm := ⟨_, rfl⟩
      rw [hq, hmm] at hm
      rw [hmm] at c1
      obtain ⟨k, hkk⟩ : ∃ k, 80 + i = k := ⟨_, rfl⟩
      rw [hkk] at hti c1
      have hkz : (80 : Int) + (i : Int) = (k : Int) := by omega
      have hmod : 0 < nm → (i : Int).tmod (nm : Int) = (q : Int) := fun h => by rw [Int.tmod_eq_emod_of_nonneg (by omega), ← hq]; rfl
      have hk1024 : (k : Int) < 1024 := by omega
      have hbc : i < nb → ∃ x y, Ba = some ⟨x, y, none⟩ ∧ w8.cell? ⟨x, y + i, none⟩ = some (.int .u8 ((b.getD i 0).toNat : Int)) := fun h => by
        obtain ⟨x, y, e, _, h2⟩ := H8.out.2.2.2.1.cells (by omega)
        exact ⟨x, y, e, h2 i h⟩
      rw [HAB.out.2.2.1] at c1
      clear hti hq hmm hkk hlt
      rcases hm with ⟨hn0, hm0⟩ | ⟨hn0, mg, mo, rfl, hqn, hmc⟩
      all_goals
        by_cases h3 : i < nb
        · rw [if_pos h3] at c1
          have hbc2 := hbc h3
          clear hbc
          obtain ⟨bb, hbb⟩ : ∃ z, b.getD i 0 = z := ⟨_, rfl⟩
          rw [hbb] at c1 hbc2
          obtain ⟨bx, by', rfl, hbc⟩ := hbc2
          clear hbb
          have v1 := u8_not8 mm
          have v2 := u8_or8 bb (~~~mm)
          generalize bb ||| ~~~mm = vv at c1 v2
          generalize ~~~mm = nn at v1 v2
          try rw [hm0, show (((0 : UInt8).toNat : Nat) : Int) = 0 from rfl] at v1
          have v3 := v2
          rw [← v1] at v3
          clear v1 v2
          try have hmod := hmod hn0
          go_wp2
          go_round
          case rel => exact ⟨i + 1, by omega, by go_num⟩
          case measure => simp [intOf]; omega
        · rw [if_neg h3, show (((255 : UInt8).toNat : Nat) : Int) = 255 from rfl] at c1
          clear hbc
          try have hmod := hmod hn0
          go_wp2
          go_round
          case rel => exact ⟨i + 1, by omega, by go_num⟩
          case measure => simp [intOf]; omega
    · have hk16 : i = 16 := by omega
      subst hk16
      go_wp2_with fail
      (with_reducible refine (start_any g m3 _ H8.out.2.2.1).mono ?_)
      rintro _ w9 ⟨rfl, hf, hgr⟩
      have H9 := Lib.hid (And.intro hf (step_grow H8.out.1 hgr H2.out.2.2))
      clear hf hgr
      go_wp2_with fail
      (with_reducible refine (dead_any g _ _ H9.out.1).mono ?_)
      rintro _ w10 ⟨rfl, rfl⟩
      rw [show (startM m3).dead = false from rfl]
      go_wp2_with fail
      (with_reducible refine (erase_any g _ 1 _ H9.out.1).mono ?_)
      rintro _ w10 ⟨rfl, hf, hgr⟩
      rw [HQ.out.2.2.2.2.1] at hf ⊢
      have H10 := Lib.hid (And.intro hf (step_grow H9.out.2 hgr H2.out.2.2))
      clear hf hgr
      go_wp2_with fail
      (with_reducible refine (read_any g m5 1 _ H10.out.1).mono ?_)
      rintro _ w11 ⟨Ar2, nr2, cr2, rfl, ho, hb⟩
      have hn : nr2 = 1024 := by have := ho.1; rw [bc_len, HQ.out.2.2.2.2.2.1] at this; omega
      subst hn
      obtain ⟨x2, y2, rfl, _, hc⟩ := (Shows.of_own ho).cells (by decide)
      have c2 := hc 48 (by decide)
      rw [HQ.out.2.2.2.2.2.2, show (((255 : UInt8).toNat : Nat) : Int) = 255 from rfl] at c2
      have H11 := Lib.hid (step_below H10.out.2 hb)
      clear ho hb hc
      go_wp2
      go_ret
      exact ⟨rfl, H11.out⟩

theorem flashTorn_walk (Ba : Option Addr) (nb cb : Nat) (b : List UInt8) (M : Option Addr) (nm cm : Nat) (mask : List UInt8) (er : Bool) (w : World) (ha : Shows w w.heap.size Ba nb cb b) (hb : Shows w w.heap.size M nm cm mask) :
    Calls Try.prog 4 #[.slice Ba nb cb, .slice M nm cm, .bool er] w fun e w' => e = .returned (.bool true) ∧ Below w.heap.size w w' := by
  cases er
  · exact flashTorn_p Ba nb cb b M nm cm mask w ha hb
  · exact flashTorn_e Ba nb cb b M nm cm mask w ha hb
end Go.Proofs.Ytopihkcbjkfooaa
