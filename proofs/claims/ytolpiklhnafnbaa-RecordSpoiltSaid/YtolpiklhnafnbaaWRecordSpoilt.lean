/- The walk of the law RecordSpoilt: behind a record that is spoilt nothing is told, nor appended; all ahead of it is. -/
import Derived.Test.YtolpiklhnafnbaaLaw5Base
import Derived.Test.YtolpiklhnafnbaaRecSpoilt
import Derived.StillTailTactics
import Derived.IntWalk
import Derived.Deep.AppendLies
namespace Go.Proofs.Ytolpiklhnafnbaa
set_option maxRecDepth 100000
open Go.RowKit Wd Fm

theorem bc_setS (l : List UInt8) (k : Nat) (c : UInt8) : (bc l).set k (.int .u8 (c.toNat : Int)) = bc (l.set k c) := by unfold bc; rw [← List.map_set]
theorem bc_byteS (l : List UInt8) (k : Nat) (h : k < l.length) : (bc l)[k]? = some (.int .u8 ((l.getD k 0).toNat : Int)) := by
  rw [bc_get l k h]
  simp [List.getD, List.getElem?_eq_getElem h]
theorem bit_of (t : Nat) (h : t < 8) : (2 : Int) ^ (min t 8) % 256 = ((UInt8.ofNat (2 ^ t)).toNat : Int) := by
  have : ∀ t : Fin 8, (2 : Int) ^ (min t.val 8) % 256 = ((UInt8.ofNat (2 ^ t.val)).toNat : Int) := by decide
  exact this ⟨t, h⟩
theorem sets_less (P : List UInt8) (i : Nat) (M : UInt8) : setsB P (P.set i (P.getD i 0 &&& ~~~M)) = false := by
  unfold setsB
  rw [List.any_eq_false]
  intro k hk
  have hk2 : k < P.length := by simpa using hk
  have e : (P.set i (P.getD i 0 &&& ~~~M)).getD k 0 &&& ~~~(P.getD k 0) = 0 := by
    simp only [List.getD_eq_getElem?_getD, List.getElem?_set]
    by_cases h : i = k
    · subst h
      rw [if_pos rfl, if_pos hk2, List.getElem?_eq_getElem hk2]
      simp only [Option.getD_some]
      apply UInt8.eq_of_toBitVec_eq
      simp only [UInt8.toBitVec_and, UInt8.toBitVec_not]
      ext q hq
      simp only [BitVec.getElem_and, BitVec.getElem_not]
      cases P[i].toBitVec[q] <;> simp
    · rw [if_neg h]
      apply UInt8.eq_of_toBitVec_eq
      simp only [UInt8.toBitVec_and, UInt8.toBitVec_not]
      ext q hq
      simp only [BitVec.getElem_and, BitVec.getElem_not]
      cases ((P[k]?.getD 0).toBitVec[q]) <;> simp
  rw [e]
  decide

theorem spoil_prog {m : Mem} {j a idx s : Nat} (hc : Calm m) (h : Chain (m.page (1 * 1024) 1024) j) (ha : a < j) (hi : idx = 6 ∨ idx = 8) (hs : s < 8) (P : List UInt8) (hP : ((m.page (1 * 1024) 1024).drop (16 * a)).take 16 = P) :
    ∃ m', programM m 1 a (P.set idx (P.getD idx 0 &&& ~~~(UInt8.ofNat (2 ^ s)))) = (0, m') ∧ (loadM (readM m' 1)).1.length = a ∧ (loadM (readM m' 1)).2 = 64 := by
  have hj := h.good.le
  have hz := hc.size
  have hpl := page_len m (1 * 1024) 1024 (by omega)
  have hPl : P.length = 16 := by rw [← hP, List.length_take, List.length_drop]; omega
  have hpg : m.page (1 * 1024 + a * 16) 16 = P := by
    apply ext_getD (by rw [page_len _ _ _ (by omega), hPl])
    intro i hi2
    rw [page_len _ _ _ (by omega)] at hi2
    rw [page_at _ _ _ _ hi2, ← hP]
    have e : (((m.page (1 * 1024) 1024).drop (16 * a)).take 16).getD i 0 = (m.page (1 * 1024) 1024).getD (16 * a + i) 0 := by
      simp only [List.getD_eq_getElem?_getD]
      rw [List.getElem?_take, if_pos hi2, List.getElem?_drop]
    rw [e, page_at _ _ _ _ (by omega)]
    congr 1
    omega
  obtain ⟨P', hP'⟩ : ∃ P', P.set idx (P.getD idx 0 &&& ~~~(UInt8.ofNat (2 ^ s))) = P' := ⟨_, rfl⟩
  have hPl' : P'.length = 16 := by rw [← hP', List.length_set, hPl]
  have hpad : padded P' = P' := by
    unfold padded
    rw [hPl', Nat.sub_self, List.replicate_zero, List.append_nil]
  have hpr := programM_ok (m := m) (s := 1) (p := a) (b := P') hc.on (by omega) (by omega) (by omega) (by rw [hpg, hpad, ← hP']; exact sets_less P idx _)
  rw [hpad, writeM_go _ _ hc.left] at hpr
  rw [hP']
  refine ⟨_, hpr, ?_⟩
  have hrd : readM ⟨lay m.B (1 * 1024 + a * 16) P', m.dead, wrap64 (m.ops + 1), 0, m.mask⟩ 1 = lay (m.page (1 * 1024) 1024) (a * 16) P' := by
    have h1 := readM_nat ⟨lay m.B (1 * 1024 + a * 16) P', m.dead, wrap64 (m.ops + 1), 0, m.mask⟩ 1 (by omega)
    rw [show ((1 : Nat) : Int) = 1 from rfl] at h1
    rw [h1]
    exact page_in m _ 1 (a * 16) P' rfl hz (by omega) (by omega)
  rw [hrd]
  refine spoilt_model h ha hi s hs _ (by rw [lay_len _ _ _ (by omega), hpl]) (fun i hi2 => ?_)
  rw [lay_at _ _ _ (by omega), hPl']
  by_cases h1 : a * 16 ≤ i ∧ i < a * 16 + 16
  · rw [if_pos h1, ← hP']
    have e : P.getD (i - a * 16) 0 = (m.page (1 * 1024) 1024).getD i 0 := by
      rw [← hP]
      simp only [List.getD_eq_getElem?_getD]
      rw [List.getElem?_take, if_pos (by omega), List.getElem?_drop, show 16 * a + (i - a * 16) = i by omega]
    by_cases h2 : i = a * 16 + idx
    · rw [if_pos h2, ← e]
      have : i - a * 16 = idx := by omega
      rw [this]
      simp only [List.getD_eq_getElem?_getD]
      rw [List.getElem?_set, if_pos rfl, if_pos (by omega)]
      rfl
    · rw [if_neg h2, ← e]
      simp only [List.getD_eq_getElem?_getD]
      rw [List.getElem?_set, if_neg (by omega)]
  · rw [if_neg h1, if_neg (by omega)]

set_option maxHeartbeats 1000000 in
theorem recordSpoilt_walk (n0 at0 bit0 : Int) (w : World) (_hn : (Lit.int .i64 n0).wf = true) (_ha : (Lit.int .i64 at0).wf = true) (_hb : (Lit.int .i64 bit0).wf = true) :
    Calls Try.prog 9 #[.int .i64 n0, .int .i64 at0, .int .i64 bit0] w fun e w' => e = .returned (.bool true) ∧ Below w.heap.size w w' := by
  obtain ⟨k, hk⟩ : ∃ k : Nat, n0 % 8 = k := ⟨(n0 % 8).toNat, by omega⟩
  have hk8 : k < 8 := by omega
  obtain ⟨a, ha⟩ : ∃ a : Nat, at0 % (2 + (k : Int)) = a := ⟨(at0 % (2 + (k : Int))).toNat, by have := Int.emod_nonneg at0 (show 2 + (k : Int) ≠ 0 by omega); omega⟩
  have hak : a < 2 + k := by have := Int.emod_lt_of_pos at0 (show 0 < 2 + (k : Int) by omega); omega
  obtain ⟨c, hc⟩ : ∃ c : Nat, bit0 % 2 = c := ⟨(bit0 % 2).toNat, by omega⟩
  have hc2 : c < 2 := by omega
  obtain ⟨s, hs⟩ : ∃ s : Nat, IntKind.i64.wrap (bit0.tdiv 2) % 8 = s := ⟨(IntKind.i64.wrap (bit0.tdiv 2) % 8).toNat, by omega⟩
  have hs8 : s < 8 := by omega
  have HH := Lib.hid (And.intro hk (And.intro ha (And.intro hc hs)))
  clear hk ha hc hs
  go_enter Try.func9, Try.ntmps9
  go_wp2_with fail
  (with_reducible refine (known5_any _).mono ?_)
  rintro _ w1 ⟨rfl, hb⟩
  have HB := Lib.hid hb
  clear hb
  go_wp2_with fail
  (with_reducible refine (within5_any _ 8 _ (by decide) (by decide)).mono ?_)
  rintro _ w3 ⟨rfl, rfl⟩
  rw [HH.out.1]
  go_wp2_with fail
  (with_reducible refine (within5_any _ (2 + (k : Int)) _ (by omega) (by omega)).mono ?_)
  rintro _ w3 ⟨rfl, rfl⟩
  rw [HH.out.2.1]
  go_wp2_with fail
  (with_reducible refine (new_any _).mono ?_)
  rintro _ w2 ⟨rfl, hf2, hb2⟩
  obtain ⟨g, hg⟩ : ∃ g, w1.heap.size = g := ⟨_, rfl⟩
  rw [hg] at hf2 ⊢
  have H2 := Lib.hid (And.intro hf2 (And.intro (step_below HB.out hb2) (show w.heap.size ≤ g by have := HB.out.size; omega)))
  clear hf2 hb2 hg HB
  go_wp2_with fail
  go_loopw [8] (fun i wr => ∃ j : Nat, j ≤ 2 + k ∧ i = .int .i64 j ∧ Hid (∃ m, Fl wr g m ∧ Calm m ∧ Chain (m.page (1 * 1024) 1024) j ∧ Below w.heap.size w wr)) (fun i _ => 2 + k - (intOf i).toNat)
  case atStart => exact ⟨0, by omega, rfl, Lib.hid ⟨_, H2.out.1, calm_new, chain_new (good_fresh 1 (by omega)), H2.out.2.1⟩⟩
  case round =>
    obtain ⟨j, hj, rfl, HJ⟩ := hrel
    obtain ⟨m, hf, hc, hg, hb⟩ := HJ.out
    clear HJ
    by_cases hlt : j < 2 + k
    · have hji : (j : Int) < 2 + (k : Int) := by omega
      have hp1 : pagesN (recOf j).length = 1 := by
        show (3 + 21) / 16 = 1
        decide
      obtain ⟨m', ha, hc', hB, hg', _⟩ := append_good hc (by omega) hg.good (recOf j) (show 3 ≤ 1018 by omega) (by rw [hp1]; omega)
      have hsl : (sealed (recOf j)).length = 9 := by rw [sealed_len]; rfl
      have hg2 : Chain (m'.page (1 * 1024) 1024) (j + 1) := by
        rw [page_in m m' 1 (j * 16) (sealed (recOf j)) hB hc.size (by omega) (by omega)]
        exact chain_next hg (by omega)
      have b3 := below_new (Below.refl wr.heap.size wr) (.cells #[.int .u8 255, .int .u8 (j : Int), .int .u8 255] 5)
      have hjc : (((UInt8.ofNat j).toNat : Nat) : Int) = (j : Int) := by simp; omega
      have hlit : Shows (wr.alloc (.cells #[.int .u8 255, .int .u8 (j : Int), .int .u8 255] 5)) (wr.alloc (.cells #[.int .u8 255, .int .u8 (j : Int), .int .u8 255] 5)).heap.size (some ⟨wr.heap.size, 0, none⟩) 3 3 (recOf j) := by
        rw [← hjc]
        exact lit_shows wr (recOf j) (by show 3 ≤ 100000; omega)
      have HAP := Lib.hid (append_any g m 1 _ 3 3 _ _ (hf.below b3) hlit (by omega))
      rw [show ((1 : Nat) : Int) = 1 from rfl] at ha
      rw [ha] at HAP
      have HN := Lib.hid (And.intro hc' (And.intro hg2 (step_below hb b3)))
      clear hf hc hg hb hp1 ha hc' hB hg' hsl hg2 b3 hjc hlit
      go_wp2_with fail
      (with_reducible refine HAP.out.mono ?_)
      rintro _ w4 ⟨rfl, hf4, hg4⟩
      have hb4 := step_grow HN.out.2.2 hg4 H2.out.2.2
      have HE := Lib.hid (And.intro hf4 (And.intro HN.out.1 (And.intro HN.out.2.1 hb4)))
      clear hf4 hg4 hb4 HAP HN
      go_wp2
      go_roundw
      case rel => exact ⟨j + 1, by omega, by go_num, Lib.hid ⟨m', HE.out⟩⟩
      case measure => simp [intOf]; omega
    · have hjk : j = 2 + k := by omega
      have hji : ¬ (j : Int) < 2 + (k : Int) := by omega
      have HR := Lib.hid (read_any g m 1 wr hf)
      have hrd : readM m 1 = m.page (1 * 1024) 1024 := readM_nat m 1 (by omega)
      obtain ⟨L, hL⟩ : ∃ L, m.page (1 * 1024) 1024 = L := ⟨_, rfl⟩
      rw [hrd, hL] at HR
      have HM := Lib.hid (And.intro hf (And.intro hc (And.intro hg (And.intro hb (And.intro hL hjk)))))
      clear hf hc hg hb hrd hL hjk
      go_wp2_with fail
      (with_reducible refine HR.out.mono ?_)
      rintro _ w4 ⟨A4, n4, c4, rfl, ho4, hb4⟩
      have hLl : L.length = 1024 := by rw [← HM.out.2.2.2.2.1]; exact HM.out.2.2.1.good.len
      have hn4 : 1024 = n4 := by have := ho4.1; rw [bc_len] at this; omega
      subst hn4
      have hs4 := Shows.of_own ho4
      have hcap := hs4.le
      obtain ⟨G4, o4, rfl, _, _⟩ := hs4.spot (by omega)
      obtain ⟨P, hP⟩ : ∃ P, (L.drop (16 * a)).take 16 = P := ⟨_, rfl⟩
      have hPl : P.length = 16 := by rw [← hP, List.length_take, List.length_drop]; omega
      have hd16 : 16 * a + 16 - 16 * a = 16 := by omega
      have hsd := (hs4.drop (k := 16 * a) (by omega)).take (k := 16 * a + 16 - 16 * a) (by omega)
      rw [if_neg (by omega), Option.map_some, Addr.add_lit, show (L.drop (16 * a)).take (16 * a + 16 - 16 * a) = P by rw [hd16, hP]] at hsd
      obtain ⟨i0, hi0, hz0, hz1, hz2⟩ := info_parts infoByte
      have HI0 := Lib.hid hi0
      have HZ0 := Lib.hid hz0
      have HZ1 := Lib.hid hz1
      have HZ2 := Lib.hid hz2
      have HOWN0 := Lib.hid (show (w4.alloc (.cells #[] 5)).ownsRow w4.heap.size 5 1 (.slice (some ⟨w4.heap.size, 0, none⟩) 0 0) 0 (bc []) from World.ownsRow_made w4 #[] 0 (Nat.le_refl _) (Nat.zero_le _) rfl)
      have HSRC := Lib.hid ((hsd.below (below_new (Below.refl _ _) (.cells #[] 5))).src (P := Try.prog) Try.underlying29)
      have HQ := Lib.hid (And.intro hP (And.intro hPl (And.intro hLl hb4)))
      have hca1 : 16 * a + 16 ≤ c4 := by omega
      have hca2 : ¬ c4 = 16 * a := by omega
      have HD16 := Lib.hid hd16
      clear ho4 hs4 hsd hd16 hi0 hz0 hz1 hz2 hP hPl hb4 HR hLl
      go_wp2_with (at_builtin; refine wpList_ap _ rfl (.tmp 35) (.tmp 42) 29 29 rfl w4.heap.size 5 i0 Try.underlying29 HI0.out HZ0.out HZ1.out HZ2.out _ 0 0 [] rfl HOWN0.out _ (16 * a + 16 - 16 * a) P rfl HSRC.out ?c1 ?c2 ?_)
      case c1 => omega
      case c2 => simp
      intro A5 c5 w5 ho5 _ hg5 _
      obtain ⟨hP, hPl, hLl, hb4⟩ := HQ.out
      obtain ⟨hf, hc, hg, hb, hL, hjk⟩ := HM.out
      have hb5 : Below w4.heap.size w4 w5 := (below_new (Below.refl _ _) _).grown hg5 (by simp) (by intro k hk; simp at hk; omega)
      have hw5 : Below wr.heap.size wr w5 := step_below hb4 hb5
      obtain ⟨g5, c7, hf5, hg51, hg52⟩ := ho5.form (by omega)
      injection hf5 with h1 h2 h3
      subst h1 h3
      obtain ⟨M, hM⟩ : ∃ M : UInt8, UInt8.ofNat (2 ^ s) = M := ⟨_, rfl⟩
      have hMs := bit_of s hs8
      rw [hM] at hMs
      obtain ⟨idx, hidx⟩ : ∃ idx, 6 + 2 * c = idx := ⟨_, rfl⟩
      obtain ⟨m', hpr, hl1, hl2⟩ := spoil_prog hc hg (show a < j by rw [hjk]; exact hak) (show idx = 6 ∨ idx = 8 by omega) hs8 P (by rw [hL]; exact hP)
      rw [hM] at hpr
      obtain ⟨pb, hpb⟩ : ∃ pb, P.getD idx 0 = pb := ⟨_, rfl⟩
      rw [hpb] at hpr
      have hcell : w5.cell? ⟨g5, 6 + 2 * c, none⟩ = some (.int .u8 (pb.toNat : Int)) := by
        rw [ho5.cellAt _ (by omega), hidx, bc_byteS P idx (by omega), hpb]
      have hfr := ho5.frozenAt (6 + 2 * c)
      have hx := u8_andNot8 pb M
      obtain ⟨y, hy⟩ : ∃ y, pb &&& ~~~M = y := ⟨_, rfl⟩
      rw [hy] at hx hpr
      obtain ⟨ho6, hg6⟩ := ho5.stored (6 + 2 * c) (.int .u8 (y.toNat : Int))
      rw [bc_setS, show P.set (6 + 2 * c) y = P.set idx y by rw [hidx]] at ho6
      have hb6 : Below w4.heap.size w4 (w5.setCell ⟨g5, 6 + 2 * c, none⟩ (.int .u8 (y.toNat : Int))) := hb5.grown hg6 hb5.size (by intro q hq; injection hq with hq; omega)
      have hw6 : Below wr.heap.size wr (w5.setCell ⟨g5, 6 + 2 * c, none⟩ (.int .u8 (y.toNat : Int))).drew := (step_below hb4 hb6).drew
      have HS6 := Shows.of_own ho6.drew
      have HPR0 := program_any g m 1 (a : Int) (some ⟨g5, 0, none⟩) 16 c5 _ _ (hf.below hw6) HS6 (by omega)
      rw [hpr] at HPR0
      have HPR := Lib.hid HPR0
      have W1 := Lib.hid (fun (W : World) => within5_any bit0 2 W (by omega) (by omega))
      have W2 := Lib.hid (fun (W : World) => within5_any (IntKind.i64.wrap (bit0.tdiv 2)) 8 W (by omega) (by omega))
      rw [HH.out.2.2.1] at W1
      rw [HH.out.2.2.2] at W2
      have HBW := Lib.hid (step_below hb hw6)
      have HLL := Lib.hid (And.intro hl1 hl2)
      have i1 : (0 : Int) ≤ 6 + 2 * (c : Int) := by omega
      have i2 : 6 + 2 * (c : Int) < 16 := by omega
      have i3 : (6 + 2 * (c : Int)).toNat = 6 + 2 * c := by omega
      have i4 : IntKind.i64.wrap (2 * (c : Int)) = 2 * (c : Int) := IntWalk.i64_in _ (by omega)
      have i5 : IntKind.i64.wrap (6 + 2 * (c : Int)) = 6 + 2 * (c : Int) := IntWalk.i64_in _ (by omega)
      obtain ⟨W6, hW6⟩ : ∃ W6, W6 = (w5.setCell ⟨g5, 6 + 2 * c, none⟩ (.int .u8 (y.toNat : Int))).drew := ⟨_, rfl⟩
      rw [← hW6] at HPR HBW
      have HW6 := Lib.hid hW6
      clear ho5 hg5 hP hPl hLl hb4 hf hc hg hb hL hjk hb5 hw5 hg51 hg52 hM hidx hpr hl1 hl2 hpb hy ho6 hg6 hb6 hw6 HS6 HPR0 hW6 HM HQ HOWN0 HSRC hca1 hca2
      go_wp2_with fail
      go_still_tail 14, (by kernel_rfl)
      refine wpStill_step (fun K hK => ?_)
      go_simp
      refine ⟨.int .i64 (c : Int), ?_, hK _ ?_⟩
      · (with_reducible refine (W1.out _).mono ?_)
        rintro _ _ ⟨rfl, rfl⟩
        exact ⟨rfl, rfl⟩
      clear hK K
      repeat still_step
      refine wpStill_step (fun K hK => ?_)
      go_simp
      refine ⟨.int .i64 (s : Int), ?_, hK _ ?_⟩
      · (with_reducible refine (W2.out _).mono ?_)
        rintro _ _ ⟨rfl, rfl⟩
        exact ⟨rfl, rfl⟩
      clear hK K
      repeat still_step
      refine wpStill_nil ?_
      change wpList _ _ _ _ _ w5.drew
      clear W1 W2
      go_wp2_with fail
      rw [← HW6.out]
      (with_reducible refine HPR.out.mono ?_)
      rintro _ w7 ⟨rfl, hf7, hg7⟩
      have hb7 := step_grow HBW.out hg7 H2.out.2.2
      have HL := Lib.hid (load_any g m' 1 w7 hf7)
      obtain ⟨R, hR⟩ : ∃ R, loadM (readM m' 1) = R := ⟨_, rfl⟩
      obtain ⟨hl1, hl2⟩ := HLL.out
      have ham : appendM m' 1 [] = (4, m') := appendM_many (by simp) (by unfold isSector; omega) (by
        rw [hl2]
        have := pagesN_pos ([] : List UInt8).length
        omega)
      rw [hR] at HL hl1 hl2
      have HAM := Lib.hid ham
      have H7 := Lib.hid (And.intro hf7 (And.intro hb7 hl1))
      rw [hl2] at HL
      clear hf7 hg7 hb7 hR hl1 ham HPR HW6 HBW HLL hcell hfr hx hMs
      go_wp2_with fail
      (with_reducible refine HL.out.mono ?_)
      rintro _ w8 ⟨A8, n8, c8, ps, rfl, ho8, hl8, hb8⟩
      have hn8 : a = n8 := by
        rw [← H7.out.2.2, ← hl8, List.length_map, ho8.len]
      subst hn8
      have H8 := Lib.hid (step_below H7.out.2.1 hb8)
      have HAP := Lib.hid (append_any g m' 1 none 0 0 [] w8 (H7.out.1.below hb8) (Shows.nil _ _) (by omega))
      rw [HAM.out] at HAP
      clear ho8 hl8 hb8 HL
      go_wp2_with fail
      (with_reducible refine HAP.out.mono ?_)
      rintro _ w9 ⟨rfl, _, hg9⟩
      have H9 := Lib.hid (step_grow H8.out hg9 H2.out.2.2)
      clear hg9 HAP
      go_wp2
      go_ret
      exact ⟨rfl, H9.out⟩
end Go.Proofs.Ytolpiklhnafnbaa
