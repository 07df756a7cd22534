/- The walk of the law FlashErase: an erased sector is blank, others stay; what was programmed may be programmed again then. -/
import Derived.Test.YtopihkcbjkfooaaWFlashBits
namespace Go.Proofs.Ytopihkcbjkfooaa
open Go.RowKit Wd Fm

/-- Whether one of the first pages begins at a place. -/
def hit (q : Nat → Nat) (c i : Nat) : Bool := (List.range c).any fun j => q j * 16 == i
theorem hit_next (q : Nat → Nat) (c i : Nat) : hit q (c + 1) i = (hit q c i || q c * 16 == i) := by
  simp [hit, List.range_succ, List.any_append]
theorem hit_not (q : Nat → Nat) (c i : Nat) (h : ¬ i % 16 = 0) : hit q c i = false := by
  unfold hit
  rw [List.any_eq_false]
  intro j _ e
  have : q j * 16 = i := by simpa using e
  omega
structure Er (q : Nat → Nat) (cnt : Nat → Nat) (m : Mem) : Prop where
  len : m.B.length = 6144
  live : m.dead = false
  left : m.left = 0
  at' : ∀ k i, k < 6 → i < 1024 → m.B.getD (k * 1024 + i) 0 = if hit q (cnt k) i = true then UInt8.ofNat k else 255
theorem Er.fresh (q : Nat → Nat) : Er q (fun _ => 0) Mem.fresh :=
  ⟨fresh_len, rfl, rfl, fun k i hk hi => by rw [fresh_at _ (by omega)]; rfl⟩
theorem ff_not (x : UInt8) : x &&& ~~~(255 : UInt8) = 0 := by rw [show ~~~(255 : UInt8) = 0 from rfl, UInt8.and_zero]
theorem self_not (x : UInt8) : x &&& ~~~x = 0 := by
  apply UInt8.eq_of_toBitVec_eq
  simp
theorem one_at (c : UInt8) (i : Nat) (h : i < 16) : (padded [c]).getD i 0 = if i = 0 then c else 255 := by
  rw [padded_at _ _ h]
  by_cases h0 : i = 0
  · subst h0; rfl
  · rw [if_neg (by simp; omega), if_neg h0]
theorem one_len {c : UInt8} : (padded [c]).length = 16 := padded_len _ (by simp)
theorem Er.program {q cnt cnt' : Nat → Nat} {m : Mem} {k p : Nat} (h : Er q cnt m) (hk : k < 6) (hp : p < 64) (hq : q (cnt k) = p) (hc : ∀ k', cnt' k' = if k' = k then cnt k + 1 else cnt k') :
    ∃ m', programM m k p [UInt8.ofNat k] = (0, m') ∧ Er q cnt' m' := by
  have hs : setsB (m.page (k * 1024 + p * 16) 16) (padded [UInt8.ofNat k]) = false := by
    unfold setsB
    rw [List.any_eq_false]
    intro i hi
    have hi : i < 16 := by rw [one_len] at hi; simpa using hi
    rw [page_at _ _ _ _ hi, one_at _ _ hi, show k * 1024 + p * 16 + i = k * 1024 + (p * 16 + i) by omega, h.at' k (p * 16 + i) hk (by omega)]
    by_cases h0 : i = 0
    · rw [if_pos h0]
      split
      · rw [self_not]; decide
      · rw [ff_not]; decide
    · rw [if_neg h0, if_neg (by rw [hit_not _ _ _ (by omega)]; decide), ff_not]; decide
  have h1 := programM_ok h.live hk hp (show ([UInt8.ofNat k] : List UInt8).length ≤ 16 by simp) hs
  rw [writeM_go _ _ h.left] at h1
  have hfit : k * 1024 + p * 16 + (padded [UInt8.ofNat k]).length ≤ m.B.length := by rw [one_len, h.len]; omega
  refine ⟨_, h1, ?_, h.live, rfl, fun k' i hk' hi => ?_⟩
  · exact (lay_len _ _ _ hfit).trans h.len
  · show (lay m.B (k * 1024 + p * 16) (padded [UInt8.ofNat k])).getD (k' * 1024 + i) 0 = _
    rw [lay_at _ _ _ hfit, one_len, hc k']
    by_cases hkk : k' = k
    · subst hkk
      rw [if_pos rfl, hit_next, hq]
      by_cases hin : p * 16 ≤ i ∧ i < p * 16 + 16
      · rw [if_pos (by omega), show k' * 1024 + i - (k' * 1024 + p * 16) = i - p * 16 by omega, one_at _ _ (by omega)]
        by_cases h0 : i = p * 16
        · rw [if_pos (by omega), if_pos (by simp [h0])]
        · rw [if_neg (by omega), if_neg (by rw [hit_not _ _ _ (by omega)]; simp; omega)]
      · rw [if_neg (by omega), h.at' k' i hk' hi]
        have : (p * 16 == i) = false := by simp; omega
        rw [this, Bool.or_false]
    · rw [if_neg (by omega), if_neg hkk, h.at' k' i hk' hi]
theorem Er.erase {q cnt : Nat → Nat} {m : Mem} {s : Nat} (h : Er q cnt m) (hs : s < 6) : ∃ m', eraseM m s = (0, m') ∧ Er q (fun k => if k = s then 0 else cnt k) m' := by
  have h1 := eraseM_ok s h.live hs
  rw [writeM_go _ _ h.left] at h1
  obtain ⟨F, hF⟩ : ∃ F : List UInt8, List.replicate 1024 255 = F := ⟨_, rfl⟩
  have hFl : F.length = 1024 := by rw [← hF, List.length_replicate]
  rw [hF] at h1
  have hfit : s * 1024 + F.length ≤ m.B.length := by rw [hFl, h.len]; omega
  refine ⟨_, h1, ?_, h.live, rfl, fun k i hk hi => ?_⟩
  · exact (lay_len _ _ _ hfit).trans h.len
  · show (lay m.B (s * 1024) F).getD (k * 1024 + i) 0 = _
    rw [lay_at _ _ _ hfit, hFl]
    by_cases hks : k = s
    · rw [if_pos (by omega), if_pos hks, ← hF, rep_getD _ _ _ (by omega)]
      rfl
    · rw [if_neg (by omega), if_neg hks, h.at' k i hk hi]
theorem Er.read {q cnt : Nat → Nat} {m : Mem} {k : Nat} (h : Er q cnt m) (hk : k < 6) : (readM m k).length = 1024 ∧ ∀ i, i < 1024 → (readM m k).getD i 0 = if hit q (cnt k) i = true then UInt8.ofNat k else 255 := by
  obtain ⟨r1, r2⟩ := readM_at m k hk h.len
  exact ⟨r1, fun i hi => by rw [r2 i hi, h.at' k i hk hi]⟩
theorem Er.last {q cnt : Nat → Nat} {m : Mem} {s : Nat} (h : Er q cnt m) (hs : s < 6) (h0 : cnt s = 0) : ∃ m', programM m s 0 [77] = (0, m') ∧ (readM m' s).length = 1024 ∧ (readM m' s).getD 0 0 = 77 := by
  have h1 : programM m s ((0 : Nat) : Int) [77] = _ := program_blank (m := m) (s := s) (p := 0) (b := [77]) h.live hs (by decide) (by decide) h.left (fun i hi => by
    rw [show s * 1024 + 0 * 16 + i = s * 1024 + i by omega, h.at' s i hs (by omega), h0]
    rfl)
  have hfit : s * 1024 + 0 * 16 + (padded [77]).length ≤ m.B.length := by rw [one_len, h.len]; omega
  obtain ⟨r1, r2⟩ := readM_at ⟨lay m.B (s * 1024 + 0 * 16) (padded [77]), m.dead, wrap64 (m.ops + 1), 0, m.mask⟩ s hs ((lay_len _ _ _ hfit).trans h.len)
  refine ⟨_, h1, r1, (r2 0 (by decide)).trans ?_⟩
  show (lay m.B (s * 1024 + 0 * 16) (padded [77])).getD (s * 1024 + 0) 0 = 77
  rw [lay_at _ _ _ hfit, one_len, if_pos (by omega), show s * 1024 + 0 - (s * 1024 + 0 * 16) = 0 by omega]
  rfl

def cntAt (N K j : Nat) (k : Nat) : Nat := if k < K then N else if k = K then j else 0
theorem cnt_start (N K : Nat) : cntAt N K N = cntAt N (K + 1) 0 := by
  funext k
  unfold cntAt
  by_cases h1 : k < K
  · rw [if_pos h1, if_pos (by omega)]
  · by_cases h2 : k = K
    · rw [if_neg h1, if_pos h2, if_pos (by omega)]
    · rw [if_neg h1, if_neg h2, if_neg (by omega)]
      split <;> rfl
theorem byte_nat (k : Nat) (h : k < 6) : ((UInt8.ofNat k).toNat : Int) = (k : Int) := by
  simp
  omega

set_option maxRecDepth 100000 in
set_option maxHeartbeats 4000000 in
theorem flashErase_walk (s : Int) (A : Option Addr) (n cap : Nat) (zs : List Int) (w : World) (_hs : (Lit.int .i64 s).wf = true) (hz : Lays w w.heap.size A n cap (zs.map (Value.int .i64))) (_hw : ∀ n ∈ zs, (Lit.int .i64 n).wf = true) :
    Calls Try.prog 7 #[.int .i64 s, .slice A n cap] w fun e w' => e = .returned (.bool true) ∧ Below w.heap.size w w' := by
  clear _hs _hw
  have hzl := hz.len
  have hnc := hz.le
  have hct := hz.top
  unfold maxLen at hct
  obtain ⟨q, hq⟩ : ∃ q : Nat → Nat, ∀ j, (zs.getD j 0) % 64 = (q j : Int) ∧ q j < 64 := ⟨fun j => (zs.getD j 0 % 64).toNat, fun j => ⟨by show _ = (((zs.getD j 0 % 64).toNat : Nat) : Int); omega, by show (zs.getD j 0 % 64).toNat < 64; omega⟩⟩
  have hcell : ∀ j, j < n → ∃ g o, A = some ⟨g, o, none⟩ ∧ g < w.heap.size ∧ w.cell? ⟨g, o + j, none⟩ = some (.int .i64 (zs.getD j 0)) := fun j hj => by
    obtain ⟨g, o, e, hg, hc⟩ := hz.spot (by omega)
    refine ⟨g, o, e, hg, ?_⟩
    rw [hc j (by omega), List.getElem_map, List.getD_eq_getElem?_getD, List.getElem?_eq_getElem (by rw [List.length_map] at hzl; omega)]
    rfl
  obtain ⟨N, hN, hN20, hNn⟩ : ∃ N, (n ≤ 20 ∧ N = n ∨ 20 < n ∧ N = 20) ∧ N ≤ 20 ∧ N ≤ n := by
    by_cases h : n ≤ 20
    · exact ⟨n, .inl ⟨h, rfl⟩, h, Nat.le_refl _⟩
    · exact ⟨20, .inr ⟨by omega, rfl⟩, Nat.le_refl _, by omega⟩
  obtain ⟨S, hS⟩ : ∃ d : Nat, s % 6 = d := ⟨(s % 6).toNat, by omega⟩
  have hS6 : S < 6 := by omega
  have HA := Lib.hid (And.intro hq (And.intro hcell hS))
  clear hz hzl hq hcell hS
  go_enter Try.func7, Try.ntmps7
  go_wp2_with fail
  (with_reducible refine (known4_any _).mono ?_)
  rintro _ w1 ⟨rfl, hb1⟩
  have HB1 := Lib.hid hb1
  clear hb1
  go_wp2_with fail
  (with_reducible refine (within4_any _ _ _ (by omega) (by omega)).mono ?_)
  rintro _ w2 ⟨rfl, rfl⟩
  rw [HA.out.2.2]
  go_wp2_with fail
  (with_reducible refine (new_any _).mono ?_)
  rintro _ w2 ⟨rfl, hf, hb⟩
  obtain ⟨g, hg⟩ : ∃ g, w1.heap.size = g := ⟨_, rfl⟩
  rw [hg] at hf ⊢
  have hgw : w.heap.size ≤ g := by have := HB1.out.size; omega
  have H2 := Lib.hid (And.intro hf (And.intro (step_below HB1.out hb) hgw))
  clear hf hb hg hgw
  go_wp2_with fail
  go_loopw [6] (fun i wr => ∃ (k : Nat) (m : Mem), k ≤ 6 ∧ i = .int .i64 k ∧ Hid (Er q (cntAt N k 0) m ∧ Fl wr g m ∧ Below w.heap.size w wr)) (fun i _ => 6 - (intOf i).toNat)
  case atStart =>
    refine ⟨0, Mem.fresh, by omega, rfl, Lib.hid ⟨?_, H2.out.1, H2.out.2.1⟩⟩
    have : cntAt N 0 0 = fun _ => 0 := by funext k; unfold cntAt; rw [if_neg (by omega)]; split <;> rfl
    rw [this]
    exact Er.fresh q
  case round =>
    obtain ⟨k, m, hk, rfl, HK⟩ := hrel
    by_cases hlt : k < 6
    · have hki : (k : Int) < 6 := by omega
      go_wp2_with fail
      go_loopw [7] (fun i wr => ∃ (j : Nat) (m : Mem), j ≤ N ∧ i = .int .i64 j ∧ Hid (Er q (cntAt N k j) m ∧ Fl wr g m ∧ Below w.heap.size w wr)) (fun i _ => N - (intOf i).toNat)
      case atStart => exact ⟨0, m, by omega, rfl, HK⟩
      case round =>
        clear HK
        obtain ⟨j, m2, hj, rfl, HJ⟩ := hrel
        by_cases hjN : j < N
        · have hji : (j : Int) < 20 := by omega
          have hjn : (j : Int) < (n : Int) := by omega
          obtain ⟨zg, zo, rfl, hzg, hc⟩ := HA.out.2.1 j (by omega)
          have hc2 := (HJ.out.2.2.cell (p := ⟨zg, zo + j, none⟩) hzg).trans hc
          obtain ⟨z, hz⟩ : ∃ z, zs.getD j 0 = z := ⟨_, rfl⟩
          obtain ⟨p, hp⟩ : ∃ p, q j = p := ⟨_, rfl⟩
          have hqj := HA.out.1 j
          rw [hz, hp] at hqj
          rw [hz] at hc2
          obtain ⟨m3, hpr, her⟩ := HJ.out.1.program (k := k) (p := p) (cnt' := cntAt N k (j + 1)) hlt hqj.2 (by rw [show cntAt N k j k = j by unfold cntAt; rw [if_neg (by omega), if_pos rfl]]; exact hp) (fun k' => by
            by_cases h : k' = k
            · subst h
              simp [cntAt]
            · simp [cntAt, h])
          have hwr := HJ.out.2.2
          have f2 := HJ.out.2.1.below (below_new (Below.refl _ _) (.cells #[.int .u8 (k : Int)] 5))
          have b2 := below_new hwr (.cells #[.int .u8 (k : Int)] 5)
          have HX := Lib.hid (And.intro hpr (And.intro her (And.intro f2 (And.intro b2 hqj))))
          have hk256 : (k : Int) ≤ 255 := by omega
          clear hc hz hp hqj hpr her hwr f2 b2 hzg
          go_wp2_with fail
          (with_reducible refine (within4_any _ _ _ (by omega) (by omega)).mono ?_)
          rintro _ w3 ⟨rfl, rfl⟩
          rw [HX.out.2.2.2.2.1]
          go_wp2_with fail
          (with_reducible refine (program_any g m2 k p _ _ _ [UInt8.ofNat k] _ HX.out.2.2.1 (lit_one wr (k : Int) (UInt8.ofNat k) (byte_nat k hlt)) (by decide)).mono ?_)
          rintro _ w4 ⟨rfl, hf, hgr⟩
          rw [HX.out.1] at hf ⊢
          have HR := Lib.hid (And.intro HX.out.2.1 (And.intro hf (step_grow HX.out.2.2.2.1 hgr H2.out.2.2)))
          clear hf hgr
          go_wp2
          go_roundw
          case rel => exact ⟨j + 1, m3, by omega, by go_num, HR⟩
          case measure => simp [intOf]; omega
        · have hjN2 : j = N := by omega
          have hout : (n ≤ 20 ∧ (j : Int) = (n : Int)) ∨ (20 < n ∧ j = 20) := by omega
          have HR : Hid (Er q (cntAt N (k + 1) 0) m2 ∧ Fl wr g m2 ∧ Below w.heap.size w wr) := by
            have h := HJ
            rw [hjN2] at h
            rw [← cnt_start]
            exact h
          clear HJ hN
          rcases hout with ⟨h1, h2⟩ | ⟨h1, h2⟩
          · have h3 : ¬ (j : Int) < (n : Int) := by omega
            clear h2
            go_wp2
            go_roundw
            case rel => exact ⟨k + 1, m2, by omega, by go_num, HR⟩
            case measure => simp [intOf]; omega
          · have h3 : ¬ (j : Int) < 20 := by omega
            have h4 : (j : Int) < (n : Int) := by omega
            clear h2 hjN2 hjN
            go_wp2
            go_roundw
            case rel => exact ⟨k + 1, m2, by omega, by go_num, HR⟩
            case measure => simp [intOf]; omega
    · have hk6 : k = 6 := by omega
      subst hk6
      obtain ⟨m3, he, her⟩ := HK.out.1.erase hS6
      have HX := Lib.hid (And.intro he (And.intro her HK.out.2))
      clear he her HK
      go_wp2_with fail
      (with_reducible refine (erase_any g m S _ HX.out.2.2.1).mono ?_)
      rintro _ w4 ⟨rfl, hf, hgr⟩
      rw [HX.out.1] at hf ⊢
      have HR := Lib.hid (And.intro hf (step_grow HX.out.2.2.2 hgr H2.out.2.2))
      clear hf hgr
      go_wp2_with fail
      go_loopw [8] (fun i wr => ∃ k : Nat, k ≤ 6 ∧ i = .int .i64 k ∧ Hid (Fl wr g m3 ∧ Below w.heap.size w wr)) (fun i _ => 6 - (intOf i).toNat)
      case atStart => exact ⟨0, by omega, rfl, HR⟩
      case round =>
        clear HR
        obtain ⟨k, hk, rfl, HK⟩ := hrel
        by_cases hlt : k < 6
        · have hki : (k : Int) < 6 := by omega
          go_wp2_with fail
          (with_reducible refine (read_any g m3 k _ HK.out.1).mono ?_)
          rintro _ w5 ⟨Ar, nr, cr, rfl, ho, hb⟩
          obtain ⟨r1, r2⟩ := HX.out.2.1.read hlt
          have hn : nr = 1024 := by have := ho.1; rw [bc_len, r1] at this; omega
          subst hn
          obtain ⟨x, y, rfl, _, hc⟩ := (Shows.of_own ho).cells (by decide)
          have hcells : ∀ i, i < 1024 → w5.cell? ⟨x, y + i, none⟩ = some (.int .u8 ((if hit q (if k = S then 0 else N) i = true then UInt8.ofNat k else 255 : UInt8).toNat : Int)) := fun i hi => by
            rw [hc i hi, r2 i hi]
            have : cntAt N 6 0 k = N := by unfold cntAt; rw [if_pos hlt]
            rw [this]
          have H5 := Lib.hid (And.intro hcells (And.intro (HK.out.1.below hb) (step_below HK.out.2 hb)))
          clear ho hb hc r1 r2 hcells
          go_wp2_with fail
          go_loop [10] (fun i => ∃ k : Nat, k ≤ 1024 ∧ i = .int .i64 k) (fun i => 1024 - (intOf i).toNat)
          case atStart => exact ⟨0, by omega, rfl⟩
          case round =>
            obtain ⟨i, hi, rfl⟩ := hrel
            by_cases hi2 : i < 1024
            · have hii : (i : Int) < 1024 := by omega
              have c1 := H5.out.1 i hi2
              go_wp2_with fail
              go_loop [11, 12] (fun v i' => ∃ (j : Nat) (c : UInt8), j ≤ N ∧ i' = .int .i64 j ∧ v = .int .u8 (c.toNat : Int) ∧ Hid (c = if hit q j i = true then UInt8.ofNat k else 255) ∧ Hid (k = S → j = 0)) (fun _ i' => N - (intOf i').toNat)
              case atStart => exact ⟨0, 255, by omega, rfl, rfl, Lib.hid rfl, Lib.hid (fun _ => rfl)⟩
              case round =>
                obtain ⟨j, c, hj, rfl, rfl, HC, HS⟩ := hrel
                by_cases hkS : k = S
                · have hj0 := HS.out hkS
                  have hc : c = (if hit q (if k = S then 0 else N) i = true then UInt8.ofNat k else 255 : UInt8) := by rw [HC.out, hj0, if_pos hkS]
                  rw [← hc] at c1
                  have hkk : (k : Int) = (S : Int) := by omega
                  clear hc HC HS hj
                  subst hj0
                  go_wp2
                  all_goals
                    go_round
                    case rel => exact ⟨i + 1, by omega, by go_num⟩
                    case measure => simp [intOf]; omega
                · have hkk : ¬ (k : Int) = (S : Int) := by omega
                  by_cases hjN : j < N
                  · have hji : (j : Int) < 20 := by omega
                    have hjn : (j : Int) < (n : Int) := by omega
                    clear c1
                    obtain ⟨zg, zo, rfl, hzg, hc⟩ := HA.out.2.1 j (by omega)
                    have hc2 := (H5.out.2.2.cell (p := ⟨zg, zo + j, none⟩) hzg).trans hc
                    obtain ⟨z, hz⟩ : ∃ z, zs.getD j 0 = z := ⟨_, rfl⟩
                    obtain ⟨p, hp⟩ : ∃ p, q j = p := ⟨_, rfl⟩
                    have hqj := HA.out.1 j
                    rw [hz, hp] at hqj
                    rw [hz] at hc2
                    have hnx := hit_next q j i
                    rw [hp] at hnx
                    have HX2 := Lib.hid (And.intro hqj hnx)
                    have hk256 : (k : Int) ≤ 255 := by omega
                    have hp64 := hqj.2
                    clear hc hz hp hqj hnx hzg HS
                    go_wp2_with fail
                    (with_reducible refine (within4_any _ _ _ (by omega) (by omega)).mono ?_)
                    rintro _ w6 ⟨rfl, rfl⟩
                    rw [HX2.out.1.1]
                    by_cases hpi : p * 16 = i
                    · have hpi2 : (16 : Int) * (p : Int) = (i : Int) := by omega
                      have HC2 : Hid (UInt8.ofNat k = if hit q (j + 1) i = true then UInt8.ofNat k else 255) := by
                        have : hit q (j + 1) i = true := by rw [HX2.out.2]; simp [hpi]
                        exact Lib.hid (by rw [if_pos this])
                      clear HC hpi
                      go_wp2
                      all_goals
                        go_round
                        case rel => exact ⟨j + 1, UInt8.ofNat k, by omega, by go_num, by rw [byte_nat k hlt], HC2, Lib.hid (fun h => absurd h hkS)⟩
                        case measure => simp [intOf]; omega
                    · have hpi2 : ¬ (16 : Int) * (p : Int) = (i : Int) := by omega
                      have HC2 : Hid (c = if hit q (j + 1) i = true then UInt8.ofNat k else 255) := by
                        have h0 : (p * 16 == i) = false := by simp [hpi]
                        have : hit q (j + 1) i = hit q j i := by rw [HX2.out.2, h0, Bool.or_false]
                        rw [this]
                        exact HC
                      clear HC hpi
                      go_wp2
                      all_goals
                        go_round
                        case rel => exact ⟨j + 1, c, by omega, by go_num, rfl, HC2, Lib.hid (fun h => absurd h hkS)⟩
                        case measure => simp [intOf]; omega
                  · have hjN2 : j = N := by omega
                    have hc : c = (if hit q (if k = S then 0 else N) i = true then UInt8.ofNat k else 255 : UInt8) := by rw [HC.out, if_neg hkS, hjN2]
                    rw [← hc] at c1
                    have hout : (n ≤ 20 ∧ (j : Int) = (n : Int)) ∨ (20 < n ∧ j = 20) := by omega
                    clear hc HC HS
                    rcases hout with ⟨h1, h2⟩ | ⟨h1, h2⟩
                    · have h3 : ¬ (j : Int) < (n : Int) := by omega
                      clear h2 hjN2 hjN hN
                      go_wp2
                      all_goals
                        go_round
                        case rel => exact ⟨i + 1, by omega, by go_num⟩
                        case measure => simp [intOf]; omega
                    · have h3 : ¬ (j : Int) < 20 := by omega
                      have h4 : (j : Int) < (n : Int) := by omega
                      clear h2 hjN2 hjN hN
                      go_wp2
                      all_goals
                        go_round
                        case rel => exact ⟨i + 1, by omega, by go_num⟩
                        case measure => simp [intOf]; omega
            · have hi3 : i = 1024 := by omega
              subst hi3
              go_wp2
              go_roundw
              case rel => exact ⟨k + 1, by omega, by go_num, Lib.hid H5.out.2⟩
              case measure => simp [intOf]; omega
        · have hk6 : k = 6 := by omega
          subst hk6
          obtain ⟨m4, hp4, l1, l2⟩ := HX.out.2.1.last hS6 (if_pos rfl)
          have f2 := HK.out.1.below (below_new (Below.refl _ _) (.cells #[.int .u8 77] 5))
          have b2 := below_new HK.out.2 (.cells #[.int .u8 77] 5)
          have HY := Lib.hid (And.intro hp4 (And.intro l1 (And.intro l2 (And.intro f2 b2))))
          clear hp4 l1 l2 f2 b2
          go_wp2_with fail
          (with_reducible refine (program_any g m3 S 0 _ _ _ [77] _ HY.out.2.2.2.1 (lit_one wr 77 77 rfl) (by decide)).mono ?_)
          rintro _ w5 ⟨rfl, hf, hgr⟩
          rw [HY.out.1] at hf ⊢
          have H5 := Lib.hid (And.intro hf (step_grow HY.out.2.2.2.2 hgr H2.out.2.2))
          clear hf hgr
          go_wp2_with fail
          (with_reducible refine (read_any g m4 S _ H5.out.1).mono ?_)
          rintro _ w6 ⟨Ar, nr, cr, rfl, ho, hb⟩
          have hn : nr = 1024 := by have := ho.1; rw [bc_len, HY.out.2.1] at this; omega
          subst hn
          obtain ⟨x, y, rfl, _, hc⟩ := (Shows.of_own ho).cells (by decide)
          have c0 := hc 0 (by decide)
          rw [HY.out.2.2.1, Nat.add_zero, show (((77 : UInt8).toNat : Nat) : Int) = 77 from rfl] at c0
          have H6 := Lib.hid (step_below H5.out.2 hb)
          clear ho hb hc
          go_wp2
          go_ret
          exact ⟨rfl, H6.out⟩
end Go.Proofs.Ytopihkcbjkfooaa
