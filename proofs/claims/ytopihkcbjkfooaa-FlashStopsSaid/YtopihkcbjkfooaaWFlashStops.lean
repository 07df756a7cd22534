/- The walk of the law FlashStops: the power goes at the operation that was said, of those that are done; what is refused is none; a later word takes the place of an earlier one. -/
import Derived.Test.YtopihkcbjkfooaaWFlashErase
namespace Go.Proofs.Ytopihkcbjkfooaa
open Go.RowKit Wd Fm

theorem mix_all (p b : UInt8) : mixB p b 255 = b := by
  unfold mixB
  rw [show ~~~(255 : UInt8) = 0 from rfl, UInt8.and_zero, UInt8.zero_or]
  apply UInt8.eq_of_toBitVec_eq
  simp only [UInt8.toBitVec_and]
  ext i hi
  have : (255 : UInt8).toBitVec[i] = true := by
    have : ∀ i : Nat, (h : i < 8) → (255 : UInt8).toBitVec[i] = true := by decide
    exact this i hi
  simp only [BitVec.getElem_and, this, Bool.and_true]
theorem mixL_all (p n : List UInt8) : mixL p n [255] = n := by
  apply ext_getD (mixL_len _ _ _)
  intro i hi
  rw [mixL_len] at hi
  rw [mixL_at _ _ _ _ hi]
  have : maskAt [255] i = 255 := by
    unfold maskAt
    rw [if_neg (by simp)]
    simp [Nat.mod_one]
  rw [this, mix_all]
theorem writeM_stop {m : Mem} (o : Nat) (x : List UInt8) (n k : Nat) (hl : m.left = (n : Int) - k) (hk : k < n) (hm : m.mask = [255]) (ho : m.ops = k) (hn : n ≤ 100) :
    ∃ m', writeM m o x = (if k + 1 = n then 14 else 0, m') ∧ m'.B = lay m.B o x ∧ m'.ops = ((k + 1 : Nat) : Int) ∧ (k + 1 = n → m'.dead = true) ∧ (k + 1 < n → m'.dead = m.dead ∧ m'.left = (n : Int) - ((k + 1 : Nat) : Int) ∧ m'.mask = [255]) := by
  have hw : wrap64 (m.ops + 1) = ((k + 1 : Nat) : Int) := by rw [ho]; unfold wrap64; omega
  unfold writeM
  by_cases h1 : k + 1 = n
  · rw [if_pos (by omega), if_pos h1, hm, mixL_all]
    exact ⟨_, rfl, rfl, hw, fun _ => rfl, fun h => absurd h (by omega)⟩
  · rw [if_neg (by omega), if_neg h1]
    refine ⟨_, rfl, rfl, hw, fun h => absurd h h1, fun _ => ⟨rfl, ?_, hm⟩⟩
    show max (m.left - 1) 0 = _
    omega
structure St (n o i : Nat) (m : Mem) : Prop where
  len : m.B.length = 6144
  le : o ≤ n
  few : n ≤ 100
  live : o < n → m.dead = false ∧ m.left = (n : Int) - o ∧ m.ops = o ∧ m.mask = [255] ∧ ∀ k x, k < 6 → x < 1024 → 16 * i ≤ x → m.B.getD (k * 1024 + x) 0 = 255
  gone : o = n → m.dead = true
theorem St.next {n o i : Nat} {m : Mem} (h : St n o i m) : St n o (i + 1) m :=
  ⟨h.len, h.le, h.few, fun hl => by
    obtain ⟨a, b, c, d, e⟩ := h.live hl
    exact ⟨a, b, c, d, fun k x hk hx hi => e k x hk hx (by omega)⟩, h.gone⟩
theorem St.program {n o i s : Nat} {m : Mem} (h : St n o i m) (hl : o < n) (hs : s < 6) (hi : i < 64) (c : UInt8) : ∃ m', programM m s i [c] = (if o + 1 = n then 14 else 0, m') ∧ St n (o + 1) (i + 1) m' ∧ m'.ops = ((o + 1 : Nat) : Int) := by
  obtain ⟨a, b, c', d, e⟩ := h.live hl
  have h1 := programM_ok a hs hi (show ([c] : List UInt8).length ≤ 16 by simp) (sets_blank _ _ (fun j hj => by
    rw [one_len] at hj
    rw [page_at _ _ _ _ hj, show s * 1024 + i * 16 + j = s * 1024 + (i * 16 + j) by omega]
    exact e s (i * 16 + j) hs (by omega) (by omega)))
  obtain ⟨m', w1, w2, w3, w4, w5⟩ := writeM_stop (m := m) (s * 1024 + i * 16) (padded [c]) n o b hl d c' h.few
  have hfit : s * 1024 + i * 16 + (padded [c]).length ≤ m.B.length := by rw [one_len, h.len]; omega
  refine ⟨m', h1.trans w1, ⟨?_, by omega, h.few, fun hl2 => ?_, fun hg => w4 hg⟩, w3⟩
  · rw [w2, lay_len _ _ _ hfit, h.len]
  · obtain ⟨v1, v2, v3⟩ := w5 hl2
    refine ⟨by rw [v1, a], v2, w3, v3, fun k x hk hx hi2 => ?_⟩
    rw [w2, lay_at _ _ _ hfit, one_len, if_neg (by omega)]
    exact e k x hk hx (by omega)
theorem St.erase {n o i s : Nat} {m : Mem} (h : St n o i m) (hl : o < n) (hs : s < 6) : ∃ m', eraseM m s = (if o + 1 = n then 14 else 0, m') ∧ St n (o + 1) (i + 1) m' ∧ m'.ops = ((o + 1 : Nat) : Int) := by
  obtain ⟨a, b, c', d, e⟩ := h.live hl
  have h1 := eraseM_ok s a hs
  obtain ⟨F, hF⟩ : ∃ F : List UInt8, List.replicate 1024 255 = F := ⟨_, rfl⟩
  have hFl : F.length = 1024 := by rw [← hF, List.length_replicate]
  rw [hF] at h1
  obtain ⟨m', w1, w2, w3, w4, w5⟩ := writeM_stop (m := m) (s * 1024) F n o b hl d c' h.few
  have hfit : s * 1024 + F.length ≤ m.B.length := by rw [hFl, h.len]; omega
  refine ⟨m', h1.trans w1, ⟨?_, by omega, h.few, fun hl2 => ?_, fun hg => w4 hg⟩, w3⟩
  · rw [w2, lay_len _ _ _ hfit, h.len]
  · obtain ⟨v1, v2, v3⟩ := w5 hl2
    refine ⟨by rw [v1, a], v2, w3, v3, fun k x hk hx hi2 => ?_⟩
    rw [w2, lay_at _ _ _ hfit, hFl]
    by_cases hks : k = s
    · rw [if_pos (by omega), ← hF, rep_getD _ _ _ (by omega)]
    · rw [if_neg (by omega)]
      exact e k x hk hx (by omega)
theorem St.start (n : Nat) (h0 : 1 ≤ n) (hn : n ≤ 100) : St n 0 0 (stopM (stopM Mem.fresh 3 []) n [255]) := by
  have e : stopM (stopM Mem.fresh 3 []) n [255] = ⟨Mem.fresh.B, false, 0, n, [255]⟩ := by
    have e1 : stopM Mem.fresh 3 [] = ⟨Mem.fresh.B, false, 0, 3, []⟩ := by
      unfold stopM
      rw [if_pos (by decide)]
      rfl
    rw [e1]
    unfold stopM
    rw [if_pos (by omega)]
    rfl
  rw [e]
  exact ⟨fresh_len, by omega, hn, fun _ => ⟨rfl, by show (n : Int) = n - ((0 : Nat) : Int); omega, rfl, rfl, fun k x hk hx _ => fresh_at _ (by omega)⟩, fun h => absurd h (by omega)⟩
theorem erase_two (m : Mem) (k : Int) (hk : k ≤ 0) : (stopM (startM m) k []).dead = false ∧ ∃ m1 m2, eraseM (stopM (startM m) k []) 0 = (0, m1) ∧ eraseM m1 1 = (0, m2) := by
  have e : stopM (startM m) k [] = ⟨m.B, false, m.ops, 0, []⟩ := by
    unfold stopM
    rw [if_neg (by omega)]
    rfl
  rw [e]
  have h1 : eraseM ⟨m.B, false, m.ops, 0, []⟩ ((0 : Nat) : Int) = _ := eraseM_ok (m := ⟨m.B, false, m.ops, 0, []⟩) 0 rfl (by decide)
  obtain ⟨F, hF⟩ : ∃ F : List UInt8, List.replicate 1024 255 = F := ⟨_, rfl⟩
  rw [hF, writeM_go _ _ rfl] at h1
  have h2 : eraseM ⟨lay m.B (0 * 1024) F, false, wrap64 (m.ops + 1), 0, []⟩ ((1 : Nat) : Int) = _ := eraseM_ok (m := ⟨lay m.B (0 * 1024) F, false, wrap64 (m.ops + 1), 0, []⟩) 1 rfl (by decide)
  rw [hF, writeM_go _ _ rfl] at h2
  exact ⟨rfl, _, _, h1, h2⟩

set_option maxRecDepth 100000 in
set_option maxHeartbeats 4000000 in
theorem flashStops_walk (x : Int) (A : Option Addr) (n cap : Nat) (zs : List Int) (y : Int) (w : World) (_hs : (Lit.int .i64 x).wf = true) (hz : Lays w w.heap.size A n cap (zs.map (Value.int .i64))) (_hw : ∀ n ∈ zs, (Lit.int .i64 n).wf = true) (_hy : (Lit.int .i64 y).wf = true) :
    Calls Try.prog 8 #[.int .i64 x, .slice A n cap, .int .i64 y] w fun e w' => e = .returned (.bool true) ∧ Below w.heap.size w w' := by
  clear _hs _hw _hy
  have hzl := hz.len
  have hnc := hz.le
  have hct := hz.top
  unfold maxLen at hct
  have hcell : ∀ j, j < n → ∃ g o, A = some ⟨g, o, none⟩ ∧ g < w.heap.size ∧ w.cell? ⟨g, o + j, none⟩ = some (.int .i64 (zs.getD j 0)) := fun j hj => by
    obtain ⟨g, o, e, hg, hc⟩ := hz.spot (by omega)
    refine ⟨g, o, e, hg, ?_⟩
    rw [hc j (by omega), List.getElem_map, List.getD_eq_getElem?_getD, List.getElem?_eq_getElem (by rw [List.length_map] at hzl; omega)]
    rfl
  obtain ⟨N, hN, hN25, hNn⟩ : ∃ N, (n ≤ 25 ∧ N = n ∨ 25 < n ∧ N = 25) ∧ N ≤ 25 ∧ N ≤ n := by
    by_cases h : n ≤ 25
    · exact ⟨n, .inl ⟨h, rfl⟩, h, Nat.le_refl _⟩
    · exact ⟨25, .inr ⟨by omega, rfl⟩, Nat.le_refl _, by omega⟩
  obtain ⟨d, hd⟩ : ∃ d : Nat, x % 10 = d := ⟨(x % 10).toNat, by omega⟩
  obtain ⟨M, hM⟩ : ∃ M, M = 1 + d := ⟨_, rfl⟩
  have hM1 : 1 ≤ M := by omega
  have hM10 : M ≤ 10 := by omega
  have hMd : (1 : Int) + (d : Int) = (M : Int) := by omega
  have HA := Lib.hid (And.intro hcell (And.intro hd hMd))
  clear hz hzl hcell hd hM hMd
  go_enter Try.func8, Try.ntmps8
  go_wp2_with fail
  (with_reducible refine (known4_any _).mono ?_)
  rintro _ w1 ⟨rfl, hb1⟩
  have HB1 := Lib.hid hb1
  clear hb1
  go_wp2_with fail
  (with_reducible refine (new_any _).mono ?_)
  rintro _ w2 ⟨rfl, hf, hb⟩
  obtain ⟨g, hg⟩ : ∃ g, w1.heap.size = g := ⟨_, rfl⟩
  rw [hg] at hf ⊢
  have hgw : w.heap.size ≤ g := by have := HB1.out.size; omega
  have H2 := Lib.hid (And.intro hf (And.intro (step_below HB1.out hb) hgw))
  clear hf hb hg hgw
  go_wp2_with fail
  (with_reducible refine (stop_any g Mem.fresh 3 none 0 0 [] _ H2.out.1 (by decide) (Shows.nil _ _) (fun a ha => by cases ha) (by decide)).mono ?_)
  rintro _ w3 ⟨rfl, hf, hgr⟩
  have H3 := Lib.hid (And.intro hf (step_grow H2.out.2.1 hgr H2.out.2.2))
  clear hf hgr
  go_wp2_with fail
  (with_reducible refine (within4_any _ _ _ (by omega) (by omega)).mono ?_)
  rintro _ w4 ⟨rfl, rfl⟩
  rw [HA.out.2.1]
  have hMd := HA.out.2.2
  have f3 := H3.out.1.below (below_new (Below.refl _ _) (.cells #[.int .u8 255] 5))
  have b3 := below_new H3.out.2 (.cells #[.int .u8 255] 5)
  have H4 := Lib.hid (And.intro f3 b3)
  clear f3 b3
  go_wp2_with fail
  clear hMd
  (with_reducible refine (stop_any g _ (M : Int) _ 1 1 [255] _ H4.out.1 (by omega) (lit_one w3 255 255 rfl) (fun a ha _ => by
    have h1 := H3.out.1.lt
    injection ha with ha
    subst ha
    show w3.heap.size ≠ g
    omega) (by decide)).mono ?_)
  rintro _ w4 ⟨rfl, hf, hgr⟩
  have H5 := Lib.hid (And.intro (St.start M hM1 (by omega)) (And.intro hf (step_grow H4.out.2 hgr H2.out.2.2)))
  clear hf hgr
  go_wp2_with fail
  go_loopw [8, 9] (fun v i wr => ∃ (o k : Nat) (m : Mem), k ≤ N ∧ o ≤ M ∧ v = .int .i64 o ∧ i = .int .i64 k ∧ Hid (St M o k m ∧ Fl wr g m ∧ Below w.heap.size w wr)) (fun _ i _ => N - (intOf i).toNat)
  case atStart => exact ⟨0, 0, _, by omega, by omega, rfl, rfl, H5⟩
  case round =>
    clear H5 H4
    obtain ⟨o, k, m, hk, ho, rfl, rfl, HK⟩ := hrel
    by_cases hkN : k < N
    · have hki : (k : Int) < 25 := by omega
      have hkn : (k : Int) < (n : Int) := by omega
      obtain ⟨zg, zo, rfl, hzg, hc⟩ := HA.out.1 k (by omega)
      have hc2 := (HK.out.2.2.cell (p := ⟨zg, zo + k, none⟩) hzg).trans hc
      obtain ⟨z, hz⟩ : ∃ z, zs.getD k 0 = z := ⟨_, rfl⟩
      rw [hz] at hc2
      obtain ⟨kd, hkd⟩ : ∃ d : Nat, z % 4 = d := ⟨(z % 4).toNat, by omega⟩
      obtain ⟨s, hs⟩ : ∃ d : Nat, wrap64 (z.tdiv 4) % 6 = d := ⟨(wrap64 (z.tdiv 4) % 6).toNat, by omega⟩
      have hs6 : s < 6 := by omega
      have hkd4 : kd < 4 := by omega
      have HZ := Lib.hid (And.intro hkd (And.intro hs hc2))
      have HZG := Lib.hid hzg
      clear hz hc hkd hs hzg
      have hk256 : (k : Int) ≤ 255 := by omega
      have hkk : kd = 0 ∨ kd = 1 ∨ kd = 2 ∨ kd = 3 := by omega
      have HG : Hid (zg < w.heap.size) := HZG
      by_cases hoM : o < M
      · have hoi : (o : Int) < (M : Int) := by omega
        have hdc : decide (M ≤ o) = false := decide_eq_false (by omega)
        rcases hkk with rfl | rfl | rfl | rfl
        · obtain ⟨m', q1, q2, q3⟩ := HK.out.1.program hoM hs6 (show k < 64 by omega) (UInt8.ofNat k)
          have hcv : ((UInt8.ofNat k).toNat : Int) = (k : Int) := by simp; omega
          have f2 := HK.out.2.1.below (below_new (Below.refl _ _) (.cells #[.int .u8 (k : Int)] 5))
          have b2 := below_new HK.out.2.2 (.cells #[.int .u8 (k : Int)] 5)
          have HQ := Lib.hid (And.intro q1 (And.intro q2 (And.intro q3 (And.intro hcv (And.intro f2 b2)))))
          have hc2 := HZ.out.2.2
          clear q1 q2 q3 hcv f2 b2
          go_wp2_with fail
          (with_reducible refine (within4_any _ _ _ (by omega) (by omega)).mono ?_)
          rintro _ w5 ⟨rfl, rfl⟩
          rw [HZ.out.1]
          go_wp2_with fail
          (with_reducible refine (within4_any _ _ _ (by omega) (by omega)).mono ?_)
          rintro _ w5 ⟨rfl, rfl⟩
          rw [HZ.out.2.1]
          go_wp2_with fail
          (with_reducible refine (program_any g m s k _ _ _ [UInt8.ofNat k] _ HQ.out.2.2.2.2.1 (lit_one wr (k : Int) (UInt8.ofNat k) HQ.out.2.2.2.1) (by decide)).mono ?_)
          rintro _ w5 ⟨rfl, hf, hgr⟩
          rw [HQ.out.1] at hf ⊢
          have HR := Lib.hid (And.intro HQ.out.2.1 (And.intro hf (step_grow HQ.out.2.2.2.2.2 hgr H2.out.2.2)))
          have c5 : w5.cell? ⟨zg, zo + k, none⟩ = some (.int .i64 z) := hgr.cell ((below_new (Below.refl _ _) _).cell (p := ⟨zg, zo + k, none⟩) (World.block_lt_of_cell? wr _ hc2) |>.trans hc2) (fun e => by
            have e2 : zg = g := by injection e
            have h1 := H2.out.2.2
            have h2 := HG.out
            omega)
          clear hf hgr hc2
          by_cases ho1 : o + 1 = M
          · rw [if_pos ho1]
            have ho2 : (o : Int) + 1 = (M : Int) := by omega
            clear ho1
            go_wp2_with fail
            (with_reducible refine (within4_any _ _ _ (by omega) (by omega)).mono ?_)
            rintro _ w6 ⟨rfl, rfl⟩
            rw [HZ.out.1]
            go_wp2_with fail
            (with_reducible refine (ops_any g m' _ HR.out.2.1).mono ?_)
            rintro _ w6 ⟨rfl, rfl⟩
            rw [HQ.out.2.2.1]
            have hoo : ((o + 1 : Nat) : Int) = (M : Int) := by omega
            rw [hoo]
            clear hoo
            go_wp2
            all_goals
              go_roundw
              case rel => exact ⟨o + 1, k + 1, m', by omega, by omega, by first | rfl | (congr 1; omega), by go_num, HR⟩
              case measure => simp [intOf]; omega
          · rw [if_neg ho1]
            have ho2 : ¬ (o : Int) + 1 = (M : Int) := by omega
            clear ho1
            go_wp2_with fail
            (with_reducible refine (ops_any g m' _ HR.out.2.1).mono ?_)
            rintro _ w6 ⟨rfl, rfl⟩
            rw [HQ.out.2.2.1]
            have hoo : ((o + 1 : Nat) : Int) = (o : Int) + 1 := by omega
            rw [hoo]
            clear hoo
            go_wp2
            all_goals
              go_roundw
              case rel => exact ⟨o + 1, k + 1, m', by omega, by omega, by go_num, by go_num, HR⟩
              case measure => simp [intOf]; omega
        · obtain ⟨m', q1, q2, q3⟩ := HK.out.1.erase hoM hs6
          have hcv : ((UInt8.ofNat k).toNat : Int) = (k : Int) := by simp; omega
          have f2 := HK.out.2.1.below (below_new (Below.refl _ _) (.cells #[.int .u8 (k : Int)] 5))
          have b2 := below_new HK.out.2.2 (.cells #[.int .u8 (k : Int)] 5)
          have HQ := Lib.hid (And.intro q1 (And.intro q2 (And.intro q3 (And.intro hcv (And.intro f2 b2)))))
          have hc2 := HZ.out.2.2
          clear q1 q2 q3 hcv f2 b2
          go_wp2_with fail
          (with_reducible refine (within4_any _ _ _ (by omega) (by omega)).mono ?_)
          rintro _ w5 ⟨rfl, rfl⟩
          rw [HZ.out.1]
          go_wp2_with fail
          (with_reducible refine (within4_any _ _ _ (by omega) (by omega)).mono ?_)
          rintro _ w5 ⟨rfl, rfl⟩
          rw [HZ.out.2.1]
          go_wp2_with fail
          (with_reducible refine (erase_any g m s _ HK.out.2.1).mono ?_)
          rintro _ w5 ⟨rfl, hf, hgr⟩
          rw [HQ.out.1] at hf ⊢
          have HR := Lib.hid (And.intro HQ.out.2.1 (And.intro hf (step_grow HK.out.2.2 hgr H2.out.2.2)))
          have c5 : w5.cell? ⟨zg, zo + k, none⟩ = some (.int .i64 z) := hgr.cell hc2 (fun e => by
            have e2 : zg = g := by injection e
            have h1 := H2.out.2.2
            have h2 := HG.out
            omega)
          clear hf hgr hc2
          by_cases ho1 : o + 1 = M
          · rw [if_pos ho1]
            have ho2 : (o : Int) + 1 = (M : Int) := by omega
            clear ho1
            go_wp2_with fail
            (with_reducible refine (within4_any _ _ _ (by omega) (by omega)).mono ?_)
            rintro _ w6 ⟨rfl, rfl⟩
            rw [HZ.out.1]
            go_wp2_with fail
            (with_reducible refine (ops_any g m' _ HR.out.2.1).mono ?_)
            rintro _ w6 ⟨rfl, rfl⟩
            rw [HQ.out.2.2.1]
            have hoo : ((o + 1 : Nat) : Int) = (M : Int) := by omega
            rw [hoo]
            clear hoo
            go_wp2
            all_goals
              go_roundw
              case rel => exact ⟨o + 1, k + 1, m', by omega, by omega, by first | rfl | (congr 1; omega), by go_num, HR⟩
              case measure => simp [intOf]; omega
          · rw [if_neg ho1]
            have ho2 : ¬ (o : Int) + 1 = (M : Int) := by omega
            clear ho1
            go_wp2_with fail
            (with_reducible refine (ops_any g m' _ HR.out.2.1).mono ?_)
            rintro _ w6 ⟨rfl, rfl⟩
            rw [HQ.out.2.2.1]
            have hoo : ((o + 1 : Nat) : Int) = (o : Int) + 1 := by omega
            rw [hoo]
            clear hoo
            go_wp2
            all_goals
              go_roundw
              case rel => exact ⟨o + 1, k + 1, m', by omega, by omega, by go_num, by go_num, HR⟩
              case measure => simp [intOf]; omega
        · have hc2 := HZ.out.2.2
          have hlive := (HK.out.1.live hoM).1
          have hops := (HK.out.1.live hoM).2.2.1
          have HQ := Lib.hid (And.intro hlive hops)
          clear hlive hops
          have hoM2 : ¬ (o : Int) = (M : Int) := by omega
          go_wp2_with fail
          (with_reducible refine (within4_any _ _ _ (by omega) (by omega)).mono ?_)
          rintro _ w5 ⟨rfl, rfl⟩
          rw [HZ.out.1]
          go_wp2_with fail
          (with_reducible refine (program_any g m 7 0 none 0 0 [] _ HK.out.2.1 (Shows.nil _ _) (by decide)).mono ?_)
          rintro _ w5 ⟨rfl, hf, hgr⟩
          rw [programM_addr _ HQ.out.1 (by unfold isPage isSector; omega)] at hf ⊢
          have HR := Lib.hid (And.intro HK.out.1.next (And.intro hf (step_grow HK.out.2.2 hgr H2.out.2.2)))
          clear hf hgr hc2
          go_wp2_with fail
          (with_reducible refine (ops_any g m _ HR.out.2.1).mono ?_)
          rintro _ w6 ⟨rfl, rfl⟩
          rw [HQ.out.2]
          go_wp2
          all_goals
            go_roundw
            case rel => exact ⟨o, k + 1, m, by omega, by omega, rfl, by go_num, HR⟩
            case measure => simp [intOf]; omega
        · have hc2 := HZ.out.2.2
          have hlive := (HK.out.1.live hoM).1
          have hops := (HK.out.1.live hoM).2.2.1
          have HQ := Lib.hid (And.intro hlive hops)
          clear hlive hops
          have hoM2 : ¬ (o : Int) = (M : Int) := by omega
          go_wp2_with fail
          (with_reducible refine (within4_any _ _ _ (by omega) (by omega)).mono ?_)
          rintro _ w5 ⟨rfl, rfl⟩
          rw [HZ.out.1]
          go_wp2_with fail
          (with_reducible refine (program_any g m 0 64 none 0 0 [] _ HK.out.2.1 (Shows.nil _ _) (by decide)).mono ?_)
          rintro _ w5 ⟨rfl, hf, hgr⟩
          rw [programM_addr _ HQ.out.1 (by unfold isPage isSector; omega)] at hf ⊢
          have HR := Lib.hid (And.intro HK.out.1.next (And.intro hf (step_grow HK.out.2.2 hgr H2.out.2.2)))
          clear hf hgr hc2
          go_wp2_with fail
          (with_reducible refine (ops_any g m _ HR.out.2.1).mono ?_)
          rintro _ w6 ⟨rfl, rfl⟩
          rw [HQ.out.2]
          go_wp2
          all_goals
            go_roundw
            case rel => exact ⟨o, k + 1, m, by omega, by omega, rfl, by go_num, HR⟩
            case measure => simp [intOf]; omega
      · have hoM2 : o = M := by omega
        have HD := Lib.hid (HK.out.1.gone hoM2)
        have HOM := Lib.hid hoM2
        have hoi : (M : Int) ≤ (o : Int) := by omega
        have hdc : decide (M ≤ o) = true := decide_eq_true (by omega)
        clear hoM hoM2
        rcases hkk with rfl | rfl | rfl | rfl
        · have hc2 := HZ.out.2.2
          go_wp2_with fail
          (with_reducible refine (within4_any _ _ _ (by omega) (by omega)).mono ?_)
          rintro _ w5 ⟨rfl, rfl⟩
          rw [HZ.out.1]
          go_wp2_with fail
          (with_reducible refine (within4_any _ _ _ (by omega) (by omega)).mono ?_)
          rintro _ w5 ⟨rfl, rfl⟩
          rw [HZ.out.2.1]
          go_wp2_with fail
          have hcv : ((UInt8.ofNat k).toNat : Int) = (k : Int) := by simp; omega
          have f2 := HK.out.2.1.below (below_new (Below.refl _ _) (.cells #[.int .u8 (k : Int)] 5))
          have b2 := below_new HK.out.2.2 (.cells #[.int .u8 (k : Int)] 5)
          (with_reducible refine (program_any g m s k _ _ _ [UInt8.ofNat k] _ f2 (lit_one wr (k : Int) (UInt8.ofNat k) hcv) (by decide)).mono ?_)
          rintro _ w5 ⟨rfl, hf, hgr⟩
          rw [programM_dead _ _ _ HD.out] at hf ⊢
          have HR := Lib.hid (And.intro HK.out.1.next (And.intro hf (step_grow b2 hgr H2.out.2.2)))
          clear hf hgr hc2 hcv f2 b2
          go_wp2_with fail
          (with_reducible refine (dead_any g m _ HR.out.2.1).mono ?_)
          rintro _ w6 ⟨rfl, rfl⟩
          rw [HD.out]
          go_wp2
          all_goals
            go_roundw
            case rel => exact ⟨M, k + 1, m, by omega, Nat.le_refl _, rfl, by go_num, Lib.hid (by have h := HR.out; rwa [HOM.out] at h)⟩
            case measure => simp [intOf]; omega
        · have hc2 := HZ.out.2.2
          go_wp2_with fail
          (with_reducible refine (within4_any _ _ _ (by omega) (by omega)).mono ?_)
          rintro _ w5 ⟨rfl, rfl⟩
          rw [HZ.out.1]
          go_wp2_with fail
          (with_reducible refine (within4_any _ _ _ (by omega) (by omega)).mono ?_)
          rintro _ w5 ⟨rfl, rfl⟩
          rw [HZ.out.2.1]
          go_wp2_with fail
          (with_reducible refine (erase_any g m s _ HK.out.2.1).mono ?_)
          rintro _ w5 ⟨rfl, hf, hgr⟩
          rw [eraseM_dead _ HD.out] at hf ⊢
          have HR := Lib.hid (And.intro HK.out.1.next (And.intro hf (step_grow HK.out.2.2 hgr H2.out.2.2)))
          clear hf hgr hc2
          go_wp2_with fail
          (with_reducible refine (dead_any g m _ HR.out.2.1).mono ?_)
          rintro _ w6 ⟨rfl, rfl⟩
          rw [HD.out]
          go_wp2
          all_goals
            go_roundw
            case rel => exact ⟨M, k + 1, m, by omega, Nat.le_refl _, rfl, by go_num, Lib.hid (by have h := HR.out; rwa [HOM.out] at h)⟩
            case measure => simp [intOf]; omega
        · have hc2 := HZ.out.2.2
          go_wp2_with fail
          (with_reducible refine (within4_any _ _ _ (by omega) (by omega)).mono ?_)
          rintro _ w5 ⟨rfl, rfl⟩
          rw [HZ.out.1]
          go_wp2_with fail
          (with_reducible refine (program_any g m 7 0 none 0 0 [] _ HK.out.2.1 (Shows.nil _ _) (by decide)).mono ?_)
          rintro _ w5 ⟨rfl, hf, hgr⟩
          rw [programM_dead _ _ _ HD.out] at hf ⊢
          have HR := Lib.hid (And.intro HK.out.1.next (And.intro hf (step_grow HK.out.2.2 hgr H2.out.2.2)))
          clear hf hgr hc2
          go_wp2_with fail
          (with_reducible refine (dead_any g m _ HR.out.2.1).mono ?_)
          rintro _ w6 ⟨rfl, rfl⟩
          rw [HD.out]
          go_wp2
          all_goals
            go_roundw
            case rel => exact ⟨M, k + 1, m, by omega, Nat.le_refl _, rfl, by go_num, Lib.hid (by have h := HR.out; rwa [HOM.out] at h)⟩
            case measure => simp [intOf]; omega
        · have hc2 := HZ.out.2.2
          go_wp2_with fail
          (with_reducible refine (within4_any _ _ _ (by omega) (by omega)).mono ?_)
          rintro _ w5 ⟨rfl, rfl⟩
          rw [HZ.out.1]
          go_wp2_with fail
          (with_reducible refine (program_any g m 0 64 none 0 0 [] _ HK.out.2.1 (Shows.nil _ _) (by decide)).mono ?_)
          rintro _ w5 ⟨rfl, hf, hgr⟩
          rw [programM_dead _ _ _ HD.out] at hf ⊢
          have HR := Lib.hid (And.intro HK.out.1.next (And.intro hf (step_grow HK.out.2.2 hgr H2.out.2.2)))
          clear hf hgr hc2
          go_wp2_with fail
          (with_reducible refine (dead_any g m _ HR.out.2.1).mono ?_)
          rintro _ w6 ⟨rfl, rfl⟩
          rw [HD.out]
          go_wp2
          all_goals
            go_roundw
            case rel => exact ⟨M, k + 1, m, by omega, Nat.le_refl _, rfl, by go_num, Lib.hid (by have h := HR.out; rwa [HOM.out] at h)⟩
            case measure => simp [intOf]; omega
    · have hkN2 : k = N := by omega
      have hout : (n ≤ 25 ∧ (k : Int) = (n : Int)) ∨ (25 < n ∧ k = 25) := by omega
      obtain ⟨e, he⟩ : ∃ d : Nat, y % 3 = d := ⟨(y % 3).toNat, by omega⟩
      have he3 : e < 3 := by omega
      obtain ⟨dd, m1, m2, r1, r2⟩ := erase_two m ((e : Int) - 2) (by omega)
      have HE := Lib.hid (And.intro he (And.intro dd (And.intro r1 r2)))
      clear he dd r1 r2
      have hxx : (n ≤ 25 ∧ ¬ (k : Int) < (n : Int)) ∨ ((k : Int) < (n : Int) ∧ ¬ (k : Int) < 25) := by omega
      clear hout hkN2 hkN hN
      rcases hxx with ⟨h1, h2⟩ | ⟨h1, h2⟩
      all_goals
        go_wp2_with fail
        (with_reducible refine (start_any g m _ HK.out.2.1).mono ?_)
        rintro _ w5 ⟨rfl, hf, hgr⟩
        have H6 := Lib.hid (And.intro hf (step_grow HK.out.2.2 hgr H2.out.2.2))
        clear hf hgr
        go_wp2_with fail
        (with_reducible refine (within4_any _ _ _ (by omega) (by omega)).mono ?_)
        rintro _ w6 ⟨rfl, rfl⟩
        rw [HE.out.1]
        go_wp2_with fail
        (with_reducible refine (stop_any g _ ((e : Int) - 2) none 0 0 [] _ H6.out.1 (by omega) (Shows.nil _ _) (fun a ha => by cases ha) (by decide)).mono ?_)
        rintro _ w6 ⟨rfl, hf, hgr⟩
        have H7 := Lib.hid (And.intro hf (step_grow H6.out.2 hgr H2.out.2.2))
        clear hf hgr
        go_wp2_with fail
        (with_reducible refine (dead_any g _ _ H7.out.1).mono ?_)
        rintro _ w7 ⟨rfl, rfl⟩
        rw [HE.out.2.1]
        go_wp2_with fail
        (with_reducible refine (erase_any g _ 0 _ H7.out.1).mono ?_)
        rintro _ w7 ⟨rfl, hf, hgr⟩
        rw [HE.out.2.2.1] at hf ⊢
        have H8 := Lib.hid (And.intro hf (step_grow H7.out.2 hgr H2.out.2.2))
        clear hf hgr
        go_wp2_with fail
        (with_reducible refine (erase_any g _ 1 _ H8.out.1).mono ?_)
        rintro _ w8 ⟨rfl, hf, hgr⟩
        rw [HE.out.2.2.2] at hf ⊢
        have H9 := Lib.hid (step_grow H8.out.2 hgr H2.out.2.2)
        clear hf hgr
        go_wp2
        go_ret
        exact ⟨rfl, H9.out⟩
end Go.Proofs.Ytopihkcbjkfooaa
