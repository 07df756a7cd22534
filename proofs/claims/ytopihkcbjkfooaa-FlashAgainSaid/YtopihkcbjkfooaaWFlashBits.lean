/- The walk of the law FlashBits: a program clears just the bits that it has 0, if it has none that cannot be set; what is not touched stays. -/
import Derived.Test.YtopihkcbjkfooaaLaw4Base
namespace Go.Proofs.Ytopihkcbjkfooaa
open Go.RowKit Wd Fm

theorem readM_at (m : Mem) (s : Nat) (hs : s < 6) (hl : m.B.length = 6144) : (readM m s).length = 1024 ∧ ∀ i, i < 1024 → (readM m s).getD i 0 = m.B.getD (s * 1024 + i) 0 := by
  have e : readM m s = m.page (s * 1024) 1024 := by
    unfold readM placeOf
    rw [if_pos (by unfold isSector; omega)]
    simp only [Int.toNat_natCast, Int.toNat_zero, Nat.zero_mul, Nat.add_zero]
  rw [e]
  exact ⟨page_len _ _ _ (by omega), fun i hi => page_at _ _ _ _ hi⟩
theorem bits_prog (s p : Nat) (hs : s < 6) (hp : p < 64) (a b : List UInt8) (ha : a.length ≤ 16) (hb : b.length ≤ 16) : ∃ m1 m2, programM Mem.fresh s p a = (0, m1) ∧ programM m1 s p b = (if setsB (padded a) (padded b) = true then 13 else 0, m2) ∧
    (readM m2 s).length = 1024 ∧ ∀ i, i < 1024 → (readM m2 s).getD i 0 = if p * 16 ≤ i ∧ i < p * 16 + 16 then (if setsB (padded a) (padded b) = true then padded a else padded b).getD (i - p * 16) 0 else 255 := by
  have h1 := program_blank (m := Mem.fresh) (s := s) (p := p) (b := a) rfl hs hp ha rfl (fun i hi => fresh_at _ (by omega))
  obtain ⟨m1, hm1⟩ : ∃ m, (⟨lay Mem.fresh.B (s * 1024 + p * 16) (padded a), Mem.fresh.dead, wrap64 (Mem.fresh.ops + 1), 0, Mem.fresh.mask⟩ : Mem) = m := ⟨_, rfl⟩
  have hB1 : m1.B = lay Mem.fresh.B (s * 1024 + p * 16) (padded a) := by rw [← hm1]
  have hd1 : m1.dead = false := by rw [← hm1]; rfl
  have hl1 : m1.left = 0 := by rw [← hm1]
  rw [hm1] at h1
  have hpa := padded_len a ha
  have hpb := padded_len b hb
  have hfit : s * 1024 + p * 16 + (padded a).length ≤ Mem.fresh.B.length := by rw [hpa, fresh_len]; omega
  have hlen : m1.B.length = 6144 := by rw [hB1, lay_len _ _ _ hfit, fresh_len]
  have hpg : m1.page (s * 1024 + p * 16) 16 = padded a := by
    have := page_lay m1 Mem.fresh.B _ (padded a) hB1 hfit
    rwa [hpa] at this
  by_cases hz : setsB (padded a) (padded b) = true
  · obtain ⟨r1, r2⟩ := readM_at m1 s hs hlen
    refine ⟨m1, m1, h1, ?_, r1, fun i hi => ?_⟩
    · rw [if_pos hz]
      exact programM_set hd1 hs hp hb (by rw [hpg]; exact hz)
    · rw [if_pos hz, r2 i hi, hB1, lay_at _ _ _ hfit, hpa]
      by_cases h : p * 16 ≤ i ∧ i < p * 16 + 16
      · rw [if_pos (by omega), if_pos h]
        congr 1
        omega
      · rw [if_neg (by omega), if_neg h, fresh_at _ (by omega)]
  · have h2 := programM_ok hd1 hs hp hb (by rw [hpg]; simpa using hz)
    rw [writeM_go _ _ hl1] at h2
    have hfit2 : s * 1024 + p * 16 + (padded b).length ≤ m1.B.length := by rw [hpb, hlen]; omega
    obtain ⟨r1, r2⟩ := readM_at ⟨lay m1.B (s * 1024 + p * 16) (padded b), m1.dead, wrap64 (m1.ops + 1), 0, m1.mask⟩ s hs (by show (lay _ _ _).length = _; rw [lay_len _ _ _ hfit2, hlen])
    refine ⟨m1, _, h1, by rw [if_neg hz]; exact h2, r1, fun i hi => ?_⟩
    rw [if_neg hz, r2 i hi]
    show (lay m1.B (s * 1024 + p * 16) (padded b)).getD (s * 1024 + i) 0 = _
    rw [lay_at _ _ _ hfit2, hpb, hB1, lay_at _ _ _ hfit, hpa]
    by_cases h : p * 16 ≤ i ∧ i < p * 16 + 16
    · rw [if_pos (by omega), if_pos h]
      congr 1
      omega
    · rw [if_neg (by omega), if_neg (by omega), if_neg h, fresh_at _ (by omega)]
/-- Whether the first bytes can be set. -/
def fitB (a b : List UInt8) (k : Nat) : Bool := (List.range k).all fun j => (padded b).getD j 0 &&& ~~~((padded a).getD j 0) == 0
theorem fitB_next (a b : List UInt8) (k : Nat) : fitB a b (k + 1) = (fitB a b k && ((padded b).getD k 0 &&& ~~~((padded a).getD k 0) == 0)) := by
  simp [fitB, List.range_succ, List.all_append]
theorem fitB_all (a b : List UInt8) (hb : b.length ≤ 16) : fitB a b 16 = !setsB (padded a) (padded b) := by
  unfold fitB setsB
  rw [padded_len b hb, List.not_any_eq_all_not]
  congr 1
  funext j
  simp [bne]

/-- A byte of some bytes with 255 behind, and where it stands. -/
theorem pad_byte {w : World} {A : Option Addr} {n cap : Nat} {l : List UInt8} (h : Shows w w.heap.size A n cap l) (k : Nat) (hk : k < 16) :
    ∃ x : UInt8, (padded l).getD k 0 = x ∧ ((k < n ∧ ∃ g o, A = some ⟨g, o, none⟩ ∧ w.cell? ⟨g, o + k, none⟩ = some (.int .u8 (x.toNat : Int))) ∨ (n ≤ k ∧ x = 255)) := by
  refine ⟨_, rfl, ?_⟩
  rw [padded_at l k hk, h.len]
  by_cases hn : k < n
  · rw [if_pos hn]
    obtain ⟨g, o, e, _, hc⟩ := h.cells (by omega)
    exact .inl ⟨hn, g, o, e, hc k hn⟩
  · rw [if_neg hn]
    exact .inr ⟨by omega, rfl⟩

set_option maxRecDepth 100000 in
set_option maxHeartbeats 4000000 in
theorem flashBits_walk (A : Option Addr) (na ca : Nat) (a : List UInt8) (Bb : Option Addr) (nb cb : Nat) (b : List UInt8) (s p : Int) (w : World) (ha : Shows w w.heap.size A na ca a) (hb : Shows w w.heap.size Bb nb cb b) (_hs : (Lit.int .i64 s).wf = true) (_hp : (Lit.int .i64 p).wf = true) :
    Calls Try.prog 3 #[.slice A na ca, .slice Bb nb cb, .int .i64 s, .int .i64 p] w fun e w' => e = .returned (.bool true) ∧ Below w.heap.size w w' := by
  clear _hs _hp
  have hal := ha.len
  have hbl := hb.len
  have HAB := Lib.hid (And.intro ha (And.intro hb (And.intro hal hbl)))
  have hna := ha.le
  have hnat := ha.top
  have hnb := hb.le
  have hnbt := hb.top
  unfold maxLen at hnat hnbt
  clear ha hb hal hbl
  by_cases hna : 16 < na
  · go_enter Try.func3, Try.ntmps3
    go_wp2_with fail
    (with_reducible refine (known4_any _).mono ?_)
    rintro _ w1 ⟨rfl, hb1⟩
    have HB1 := Lib.hid hb1
    clear hb1
    go_wp2
    go_ret
    exact ⟨rfl, HB1.out⟩
  by_cases hnb : 16 < nb
  · go_enter Try.func3, Try.ntmps3
    go_wp2_with fail
    (with_reducible refine (known4_any _).mono ?_)
    rintro _ w1 ⟨rfl, hb1⟩
    have HB1 := Lib.hid hb1
    clear hb1
    go_wp2
    go_ret
    exact ⟨rfl, HB1.out⟩
  obtain ⟨S, hS⟩ : ∃ d : Nat, s % 6 = d := ⟨(s % 6).toNat, by omega⟩
  have hS6 : S < 6 := by omega
  obtain ⟨P, hP⟩ : ∃ d : Nat, p % 64 = d := ⟨(p % 64).toNat, by omega⟩
  have hP64 : P < 64 := by omega
  have HSP := Lib.hid (And.intro hS hP)
  clear hS hP
  obtain ⟨m1, m2, q1, q2, q3, q4⟩ := bits_prog S P hS6 hP64 a b (by rw [HAB.out.2.2.1]; omega) (by rw [HAB.out.2.2.2]; omega)
  have HQ := Lib.hid (And.intro q1 (And.intro q2 (And.intro q3 q4)))
  clear q1 q2 q3 q4
  go_enter Try.func3, Try.ntmps3
  go_wp2_with fail
  (with_reducible refine (known4_any _).mono ?_)
  rintro _ w1 ⟨rfl, hb1⟩
  have HB1 := Lib.hid hb1
  clear hb1
  go_wp2_with fail
  (with_reducible refine (within4_any _ _ _ (by omega) (by omega)).mono ?_)
  rintro _ w2 ⟨rfl, rfl⟩
  rw [HSP.out.1]
  go_wp2_with fail
  (with_reducible refine (within4_any _ _ _ (by omega) (by omega)).mono ?_)
  rintro _ w2 ⟨rfl, rfl⟩
  rw [HSP.out.2]
  go_wp2_with fail
  (with_reducible refine (new_any _).mono ?_)
  rintro _ w2 ⟨rfl, hf, hb⟩
  obtain ⟨g, hg⟩ : ∃ g, w1.heap.size = g := ⟨_, rfl⟩
  rw [hg] at hf ⊢
  have hgw : w.heap.size ≤ g := by have := HB1.out.size; omega
  have H2 := Lib.hid (And.intro hf (And.intro (step_below HB1.out hb) hgw))
  clear hf hb hg hgw
  go_wp2_with fail
  (with_reducible refine (program_any g Mem.fresh S P A na ca a _ H2.out.1 ((HAB.out.1.below H2.out.2.1).more H2.out.2.1.size) (by omega)).mono ?_)
  rintro _ w3 ⟨rfl, hf, hgr⟩
  rw [HQ.out.1] at hf ⊢
  have H3 := Lib.hid (And.intro hf (step_grow H2.out.2.1 hgr H2.out.2.2))
  clear hf hgr
  go_wp2_with fail
  (with_reducible refine (program_any g m1 S P Bb nb cb b _ H3.out.1 ((HAB.out.2.1.below H3.out.2).more H3.out.2.size) (by omega)).mono ?_)
  rintro _ w4 ⟨rfl, hf, hgr⟩
  rw [HQ.out.2.1] at hf ⊢
  obtain ⟨F, hF⟩ : ∃ F, setsB (padded a) (padded b) = F := ⟨_, rfl⟩
  obtain ⟨E, hE⟩ : ∃ E : Int, (if setsB (padded a) (padded b) = true then (13 : Int) else 0) = E := ⟨_, rfl⟩
  rw [hE]
  have H4 := Lib.hid (And.intro hf (And.intro (step_grow H3.out.2 hgr H2.out.2.2) (And.intro hF hE)))
  clear hf hgr hF hE
  go_wp2_with fail
  (with_reducible refine (read_any g m2 S _ H4.out.1).mono ?_)
  rintro _ w5 ⟨Ar, nr, cr, rfl, ho, hb⟩
  have hn : nr = 1024 := by have := ho.1; rw [bc_len, HQ.out.2.2.1] at this; omega
  subst hn
  obtain ⟨x, y, rfl, _, hc⟩ := (Shows.of_own ho).cells (by decide)
  have hb5 := step_below H4.out.2.1 hb
  have H5 := Lib.hid (And.intro hb5 (And.intro hc (And.intro ((HAB.out.1.below hb5).more hb5.size) ((HAB.out.2.1.below hb5).more hb5.size))))
  clear ho hb hc hb5
  go_wp2_with fail
  go_loop [12, 13] (fun f i => ∃ (k : Nat) (fb : Bool), k ≤ 16 ∧ i = .int .i64 k ∧ f = .bool fb ∧ Hid (fb = fitB a b k)) (fun _ i => 16 - (intOf i).toNat)
  case atStart => exact ⟨0, true, by omega, rfl, rfl, Lib.hid rfl⟩
  case round =>
    obtain ⟨k, fb, hk, rfl, rfl, hfb⟩ := hrel
    by_cases hlt : k < 16
    · obtain ⟨xa, hxa, hca⟩ := pad_byte H5.out.2.2.1 k hlt
      obtain ⟨xb, hxb, hcb⟩ := pad_byte H5.out.2.2.2 k hlt
      have hv := u8_andNot8 xb xa
      obtain ⟨z, hz⟩ : ∃ z, xb &&& ~~~xa = z := ⟨_, rfl⟩
      rw [hz] at hv
      have hnx := fitB_next a b k
      rw [hxa, hxb, hz, ← hfb.out] at hnx
      have HN := Lib.hid hnx
      have hki : (k : Int) < 16 := by omega
      clear hz hnx hfb hxa hxb
      have hzz : (((z.toNat : Int) == 0) = true ∧ (z == 0) = true) ∨ (((z.toNat : Int) == 0) = false ∧ (z == 0) = false) := by
        by_cases h : z = 0
        · left; rw [h]; exact ⟨rfl, rfl⟩
        · right
          refine ⟨?_, by simpa using h⟩
          have : ¬ z.toNat = 0 := fun e => h (UInt8.toNat_inj.1 e)
          simp
          omega
      rcases hzz with ⟨hz1, hz2⟩ | ⟨hz1, hz2⟩
      all_goals
        rw [hz2] at HN
        clear hz2
        rcases hca with ⟨ka, ga, oa, rfl, ca⟩ | ⟨ka, rfl⟩
        all_goals
          rcases hcb with ⟨kb, gb, ob, rfl, cb⟩ | ⟨kb, rfl⟩
          all_goals
            try rw [show (((255 : UInt8).toNat : Nat) : Int) = 255 from rfl] at hv
            cases fb
            all_goals
              go_wp2
              go_round
              case rel => exact ⟨k + 1, _, by omega, by go_num, rfl, Lib.hid HN.out.symm⟩
              case measure => simp [intOf]; omega
    · have hk16 : k = 16 := by omega
      subst hk16
      have hFE : (F = true ∧ fb = false ∧ E = 13) ∨ (F = false ∧ fb = true ∧ E = 0) := by
        have h1 := hfb.out
        rw [fitB_all a b (by rw [HAB.out.2.2.2]; omega), H4.out.2.2.1] at h1
        have h2 := H4.out.2.2.2
        rw [H4.out.2.2.1] at h2
        cases F
        · exact .inr ⟨rfl, h1, h2.symm.trans rfl⟩
        · exact .inl ⟨rfl, h1, h2.symm.trans rfl⟩
      clear hfb
      rcases hFE with ⟨rfl, rfl, rfl⟩ | ⟨rfl, rfl, rfl⟩
      all_goals
        go_wp2_with fail
        go_loop [16] (fun i => ∃ k : Nat, k ≤ 1024 ∧ i = .int .i64 k) (fun i => 1024 - (intOf i).toNat)
        case atStart => exact ⟨0, by omega, rfl⟩
        case round =>
          obtain ⟨k, hk, rfl⟩ := hrel
          by_cases hlt : k < 1024
          · have hki : (k : Int) < 1024 := by omega
            have c1 := H5.out.2.1 k hlt
            rw [HQ.out.2.2.2 k hlt, H4.out.2.2.1] at c1
            by_cases hin : P * 16 ≤ k ∧ k < P * 16 + 16
            · obtain ⟨j, rfl⟩ : ∃ j, k = P * 16 + j := ⟨k - P * 16, by omega⟩
              have hj : j < 16 := by omega
              have hkj : ((P * 16 + j : Nat) : Int) - 16 * (P : Int) = (j : Int) := by omega
              obtain ⟨xa, hxa, hca⟩ := pad_byte H5.out.2.2.1 j hj
              obtain ⟨xb, hxb, hcb⟩ := pad_byte H5.out.2.2.2 j hj
              rw [if_pos hin, show P * 16 + j - P * 16 = j by omega] at c1
              simp only [Bool.false_eq_true, if_true, if_false, hxa, hxb] at c1
              have HJ := Lib.hid hkj
              clear hin hxa hxb hkj
              obtain ⟨q, hq⟩ : ∃ q, P * 16 + j = q := ⟨_, rfl⟩
              rw [hq] at c1 hki HJ ⊢
              have hkj := HJ.out
              clear hq hlt
              rcases hca with ⟨ka, ga, oa, rfl, ca⟩ | ⟨ka, rfl⟩
              all_goals
                rcases hcb with ⟨kb, gb, ob, rfl, cb⟩ | ⟨kb, rfl⟩
                all_goals
                  try rw [show (((255 : UInt8).toNat : Nat) : Int) = 255 from rfl] at c1
                  go_wp2
                  go_round
                  case rel => exact ⟨q + 1, by omega, by go_num⟩
                  case measure => simp [intOf]; omega
            · rw [if_neg hin, show (((255 : UInt8).toNat : Nat) : Int) = 255 from rfl] at c1
              have hout : ((k : Int) - 16 * (P : Int) < 0) ∨ (16 ≤ (k : Int) - 16 * (P : Int)) := by omega
              obtain ⟨q, hq⟩ : ∃ q : Int, (k : Int) - 16 * (P : Int) = q := ⟨_, rfl⟩
              rw [hq] at hout
              clear hin
              rcases hout with h | h
              all_goals
                go_wp2
                go_round
                case rel => exact ⟨k + 1, by omega, by go_num⟩
                case measure => simp [intOf]; omega
          · have hk1 : k = 1024 := by omega
            subst hk1
            go_wp2
            go_ret
            exact ⟨rfl, H5.out.1⟩
end Go.Proofs.Ytopihkcbjkfooaa
