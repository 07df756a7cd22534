/- The walk of the law FlashAgain: a page may be programmed again and again, as long as bits are cleared alone; it has what all of them leave. -/
import Derived.Test.YtopihkcbjkfooaaWFlashErase
import Derived.Test.YtopihkcbjkfooaaAlloc
import Derived.Test.YtopihkcbjkfooaaParts
import Derived.Deep.QuietTactic
import Derived.BigQuiet
namespace Go.Proofs.Ytopihkcbjkfooaa
open Go.RowKit Wd Fm

/-- What stays of some bits. -/
def both (a l : List UInt8) : List UInt8 := (List.range 16).map fun k => a.getD k 0 &&& (padded l).getD k 0
theorem both_len (a l : List UInt8) : (both a l).length = 16 := by simp [both]
theorem both_at (a l : List UInt8) (k : Nat) (h : k < 16) : (both a l).getD k 0 = a.getD k 0 &&& (padded l).getD k 0 := by simp [both, List.getD, h]
structure Ag (i : Nat) (a : List UInt8) (m : Mem) : Prop where
  alen : a.length = 16
  len : m.B.length = 6144
  live : m.dead = false
  left : m.left = 0
  few : i ≤ 1000
  ops : m.ops = (i : Int)
  page : m.page 2192 16 = a
theorem and_not (a x : UInt8) : (a &&& x) &&& ~~~a = 0 := by
  apply UInt8.eq_of_toBitVec_eq
  simp only [UInt8.toBitVec_and, UInt8.toBitVec_not]
  ext i hi
  simp only [BitVec.getElem_and, BitVec.getElem_not]
  cases a.toBitVec[i] <;> cases x.toBitVec[i] <;> simp
theorem Ag.start : Ag 0 (List.replicate 16 255) Mem.fresh := by
  refine ⟨List.length_replicate .., fresh_len, rfl, rfl, by decide, rfl, ?_⟩
  apply ext_getD (by rw [page_len _ _ _ (by rw [fresh_len]; decide), List.length_replicate])
  intro i hi
  rw [page_len _ _ _ (by rw [fresh_len]; decide)] at hi
  rw [page_at _ _ _ _ hi, fresh_at _ (by omega), rep_getD _ _ _ hi]
theorem padded_full (b : List UInt8) (h : b.length = 16) : padded b = b := by
  unfold padded
  rw [h, Nat.sub_self, List.replicate_zero, List.append_nil]
set_option maxRecDepth 100000 in
theorem Ag.next {i : Nat} {a : List UInt8} {m : Mem} (h : Ag i a m) (l : List UInt8) (hi : i < 1000) : ∃ m', programM m 2 9 (both a l) = (0, m') ∧ Ag (i + 1) (both a l) m' ∧ (readM m' 2).length = 1024 ∧ ∀ k, k < 16 → (readM m' 2).getD (144 + k) 0 = (both a l).getD k 0 := by
  have hb := both_len a l
  have hp := padded_full _ hb
  have h1 : programM m ((2 : Nat) : Int) ((9 : Nat) : Int) (both a l) = _ := programM_ok (m := m) (s := 2) (p := 9) (b := both a l) h.live (by decide) (by decide) (by omega) (by
    rw [hp]
    unfold setsB
    rw [List.any_eq_false]
    intro k hk
    have hk : k < 16 := by rw [hb] at hk; simpa using hk
    rw [show (2 * 1024 + 9 * 16 : Nat) = 2192 from rfl, h.page, both_at _ _ _ hk, and_not]
    decide)
  rw [writeM_go _ _ h.left, hp] at h1
  have hfit : 2 * 1024 + 9 * 16 + (both a l).length ≤ m.B.length := by rw [hb, h.len]; decide
  have hlen : (lay m.B (2 * 1024 + 9 * 16) (both a l)).length = 6144 := (lay_len _ _ _ hfit).trans h.len
  obtain ⟨r1, r2⟩ := readM_at ⟨lay m.B (2 * 1024 + 9 * 16) (both a l), m.dead, wrap64 (m.ops + 1), 0, m.mask⟩ 2 (by decide) hlen
  refine ⟨_, h1, ⟨hb, hlen, h.live, rfl, by omega, ?_, ?_⟩, r1, fun k hk => ?_⟩
  · show wrap64 (m.ops + 1) = _
    rw [h.ops]
    unfold wrap64
    omega
  · have := page_lay ⟨lay m.B (2 * 1024 + 9 * 16) (both a l), m.dead, wrap64 (m.ops + 1), 0, m.mask⟩ m.B (2 * 1024 + 9 * 16) (both a l) rfl hfit
    rw [hb] at this
    exact this
  · refine (r2 (144 + k) (by omega)).trans ?_
    show (lay m.B (2 * 1024 + 9 * 16) (both a l)).getD (2 * 1024 + (144 + k)) 0 = _
    rw [lay_at _ _ _ hfit, hb, if_pos (by omega)]
    congr 1
    omega
/-- Bytes that turn one by one. -/
theorem pre_set8 (x y : List UInt8) (k : Nat) (hx : k < x.length) (hy : x.length = y.length) : (x.take k ++ y.drop k).set k (x.getD k 0) = x.take (k + 1) ++ y.drop (k + 1) := by
  have ht : (x.take k).length = k := by rw [List.length_take]; omega
  have hg : x.getD k 0 = x[k] := by simp [List.getD, List.getElem?_eq_getElem hx]
  rw [List.set_append_right _ _ (by omega), ht, Nat.sub_self, List.drop_eq_getElem_cons (by omega), List.set_cons_zero, hg, List.take_succ_eq_append_getElem hx, List.append_assoc]
  rfl
theorem pre_get8 (x y : List UInt8) (k j : Nat) (hx : k ≤ x.length) (hj : k ≤ j) : (x.take k ++ y.drop k).getD j 0 = y.getD j 0 := by
  have ht : (x.take k).length = k := by rw [List.length_take]; omega
  simp only [List.getD_eq_getElem?_getD]
  rw [List.getElem?_append_right (by omega), ht, List.getElem?_drop]
  congr 2
  omega
theorem ones_step (k : Nat) (h : k < 16) : ((List.replicate 16 (255 : UInt8)).take k ++ (List.replicate 16 0).drop k).set k 255 = (List.replicate 16 255).take (k + 1) ++ (List.replicate 16 0).drop (k + 1) := by
  have h2 := pre_set8 (List.replicate 16 255) (List.replicate 16 0) k (by rw [List.length_replicate]; exact h) (by rw [List.length_replicate, List.length_replicate])
  rw [rep_getD _ _ _ h] at h2
  exact h2
theorem bc_set8 (l : List UInt8) (k : Nat) (c : UInt8) : (bc l).set k (.int .u8 (c.toNat : Int)) = bc (l.set k c) := by unfold bc; rw [← List.map_set]
theorem Fl.drewN {w : World} {g : Nat} {m : Mem} (h : Fl w g m) (q : Nat) : Fl (w.drewN q) g m := ⟨h.size, h.l0, h.l1, h.few, h.spot⟩
theorem below_drewN {B : Nat} {w w' : World} (h : Below B w w') (q : Nat) : Below B w (w'.drewN q) := ⟨h.os, h.tape, h.output, h.size, h.block⟩
theorem bc_byte (l : List UInt8) (k : Nat) (h : k < l.length) : (bc l)[k]? = some (.int .u8 ((l.getD k 0).toNat : Int)) := by
  rw [bc_get l k h]
  simp [List.getD, List.getElem?_eq_getElem h]
theorem z16 : (Try.prog.info? 47).map (fun i => (i.zero, i.size)) = some (some (.agg (bc (List.replicate 16 0)).toArray), 16) := by kernel_rfl

set_option maxRecDepth 100000 in
set_option maxHeartbeats 4000000 in
theorem flashAgain_walk (A : Option Addr) (n cap : Nat) (ps : List Part) (w : World) (hl : LaidAt w w.heap.size A n ps) (hn : n ≤ 9223372036854775807) :
    Calls Try.prog 9 #[.slice A n cap] w fun e w' => e = .returned (.bool true) ∧ Below w.heap.size w w' := by
  have HZ := Lib.hid (zero_any _ _ z16)
  obtain ⟨N, hN, hN20, hNn⟩ : ∃ N, (n ≤ 20 ∧ N = n ∨ 20 < n ∧ N = 20) ∧ N ≤ 20 ∧ N ≤ n := by
    by_cases h : n ≤ 20
    · exact ⟨n, .inl ⟨h, rfl⟩, h, Nat.le_refl _⟩
    · exact ⟨20, .inr ⟨by omega, rfl⟩, Nat.le_refl _, by omega⟩
  have HL := Lib.hid hl
  clear hl
  go_enter Try.func9, Try.ntmps9
  go_wp2_with fail
  (with_reducible refine (known4_any _).mono ?_)
  rintro _ w1 ⟨rfl, hb1⟩
  have HB1 := Lib.hid hb1
  clear hb1
  go_wp2_with fail
  (with_reducible refine (new_any _).mono ?_)
  rintro _ w2 ⟨rfl, hf, hb⟩
  obtain ⟨g, hg⟩ : ∃ g, w1.heap.size = g := ⟨_, rfl⟩
  rw [hg] at hf ⊢
  have hgw : w.heap.size ≤ g := by have := HB1.out.size; omega
  have H2 := Lib.hid (And.intro hf (And.intro (step_below HB1.out hb) hgw))
  clear hf hb hg hgw
  go_wp2_with (refine wpList_alloc_row rfl 47 rfl (bc (List.replicate 16 0)) HZ.out ?_)
  intro w3 r3 b3 t3
  obtain ⟨Ga, hGa⟩ : ∃ G, w2.heap.size = G := ⟨_, rfl⟩
  rw [hGa] at r3 ⊢
  have hgG : g < Ga := by have := H2.out.1.lt; omega
  have H3 := Lib.hid (And.intro r3 (And.intro (H2.out.1.below b3) (And.intro (step_below H2.out.2.1 b3) hgG)))
  clear r3 b3 t3 hGa hgG
  go_wp2_with fail
  go_loopw [5] (fun i wr => ∃ k : Nat, k ≤ 16 ∧ i = .int .i64 k ∧ Hid (Row wr Ga 47 (bc ((List.replicate 16 255).take k ++ (List.replicate 16 0).drop k)) ∧ Fl wr g Mem.fresh ∧ Below w.heap.size w wr)) (fun i _ => 16 - (intOf i).toNat)
  case atStart => exact ⟨0, by omega, rfl, Lib.hid ⟨by rw [List.take_zero, List.drop_zero, List.nil_append]; exact H3.out.1, H3.out.2.1, H3.out.2.2.1⟩⟩
  case round =>
    obtain ⟨k, hk, rfl, HK⟩ := hrel
    by_cases hlt : k < 16
    · have hki : (k : Int) < 16 := by omega
      have hlen : ((List.replicate 16 (255 : UInt8)).take k ++ (List.replicate 16 0).drop k).length = 16 := by simp; omega
      have c1 := HK.out.1.cell (bc_byte _ k (by rw [hlen]; exact hlt))
      obtain ⟨old, hold⟩ : ∃ v, Value.int .u8 (((((List.replicate 16 (255 : UInt8)).take k ++ (List.replicate 16 0).drop k).getD k 0).toNat : Nat) : Int) = v := ⟨_, rfl⟩
      rw [hold] at c1
      have f1 := HK.out.1.frozen k
      have r4 := HK.out.1.set k (.int .u8 (((255 : UInt8).toNat : Nat) : Int))
      rw [bc_set8, ones_step k hlt, show (((255 : UInt8).toNat : Nat) : Int) = 255 from rfl] at r4
      have tyA : 47 ≠ 5 := by decide
      have HR : Hid (Row (wr.setCell ⟨Ga, k, none⟩ (.int .u8 255)) Ga 47 (bc ((List.replicate 16 255).take (k + 1) ++ (List.replicate 16 0).drop (k + 1))) ∧ Fl (wr.setCell ⟨Ga, k, none⟩ (.int .u8 255)) g Mem.fresh ∧ Below w.heap.size w (wr.setCell ⟨Ga, k, none⟩ (.int .u8 255))) :=
        Lib.hid ⟨r4, HK.out.2.1.kept (grow_set (grow_refl wr (some Ga)) k _) (by have := H3.out.2.2.2; omega) _ _ HK.out.1 tyA, below_set HK.out.2.2 _ _ _ (by have := H2.out.2.2; have := H3.out.2.2.2; omega)⟩
      clear HK hlen hold r4 tyA
      go_wp2
      go_roundw
      case rel => exact ⟨k + 1, by omega, by go_num, HR⟩
      case measure => simp [intOf]; omega
    · have hk16 : k = 16 := by omega
      have HS : Hid (Ag 0 (List.replicate 16 255) Mem.fresh ∧ Row wr Ga 47 (bc (List.replicate 16 255)) ∧ Fl wr g Mem.fresh ∧ Below w.heap.size w wr) := by
        have h := HK.out
        rw [hk16, List.take_of_length_le (by rw [List.length_replicate]; decide), List.drop_eq_nil_of_le (by rw [List.length_replicate]; decide), List.append_nil] at h
        exact Lib.hid ⟨Ag.start, h⟩
      have hk16i : ¬ (k : Int) < 16 := by omega
      clear HK hk16 hlt hk
      go_wp2_with fail
      go_loopw [6] (fun i wr => ∃ (k : Nat) (a : List UInt8) (m : Mem), k ≤ N ∧ i = .int .i64 k ∧ Hid (Ag k a m ∧ Row wr Ga 47 (bc a) ∧ Fl wr g m ∧ Below w.heap.size w wr)) (fun i _ => N - (intOf i).toNat)
      case atStart => exact ⟨0, _, _, by omega, rfl, HS⟩
      case round =>
        clear HS
        obtain ⟨k, a, m, hk, rfl, HK⟩ := hrel
        by_cases hkN : k < N
        · have hki : (k : Int) < 20 := by omega
          have hkn : (k : Int) < (n : Int) := by omega
          have hkl : k < ps.length := by rw [HL.out.len]; omega
          obtain ⟨pg, po, rfl, hpg, hpc⟩ := HL.out.spot (by omega)
          have cp := (HK.out.2.2.2.cell (p := ⟨pg, po + k, none⟩) hpg).trans (hpc k hkl)
          have hsh := HL.out.each (ps[k]) (List.getElem_mem hkl)
          obtain ⟨pA, pn, pc, l, hp⟩ : ∃ pA pn pc l, ps[k] = ⟨pA, pn, pc, l⟩ := ⟨_, _, _, _, rfl⟩
          rw [hp] at cp hsh
          have hsh : Shows w w.heap.size pA pn pc l := hsh
          have cp : wr.cell? ⟨pg, po + k, none⟩ = some (.slice pA pn pc) := cp
          have cp0 : w.cell? ⟨pg, po + k, none⟩ = some (.slice pA pn pc) := by rw [hpc k hkl, hp]
          have hpl : l.length = pn := hsh.len
          have hpcap : pn ≤ pc := hsh.le
          have hptop : pc ≤ maxLen := hsh.top
          unfold maxLen at hptop
          have HP := Lib.hid (And.intro hsh (And.intro hpl (And.intro hpg cp0)))
          clear hp hsh hpl hpg hpc hkl cp0
          by_cases hp16 : 16 < pn
          · go_wp2
            go_ret
            exact ⟨rfl, HK.out.2.2.2⟩
          · have hlpb : l.length ≤ 16 := by rw [HP.out.2.1]; omega
            obtain ⟨m', q1, q2, q3, q4⟩ := HK.out.1.next l (by omega)
            have HQ := Lib.hid (And.intro q1 (And.intro q2 (And.intro q3 (And.intro q4 (And.intro hlpb cp)))))
            clear q1 q2 q3 q4 hlpb
            go_wp2_with (refine wpList_alloc_row rfl 47 rfl (bc (List.replicate 16 0)) HZ.out ?_)
            clear cp
            intro w4 r4 b4 t4
            obtain ⟨Gb, hGb⟩ : ∃ G, wr.heap.size = G := ⟨_, rfl⟩
            rw [hGb] at r4 ⊢
            have hne : Ga ≠ Gb ∧ g ≠ Gb ∧ w.heap.size ≤ Gb := by have := HK.out.2.1.lt; have := HK.out.2.2.1.lt; have := HK.out.2.2.2.size; omega
            have H4 : Hid (Row w4 Ga 47 (bc ((both a l).take 0 ++ a.drop 0)) ∧ Row w4 Gb 47 (bc ((both a l).take 0 ++ (List.replicate 16 0).drop 0)) ∧ Fl w4 g m ∧ Below w.heap.size w w4) :=
              Lib.hid ⟨by rw [List.take_zero, List.drop_zero, List.nil_append]; exact HK.out.2.1.below b4 (by have := HK.out.2.1.lt; omega), by rw [List.take_zero, List.drop_zero, List.nil_append]; exact r4, HK.out.2.2.1.below b4, step_below HK.out.2.2.2 b4⟩
            have HNE := Lib.hid hne
            clear r4 b4 t4 hGb hne
            go_wp2_with fail
            go_loopw [8] (fun i wr => ∃ j : Nat, j ≤ 16 ∧ i = .int .i64 j ∧ Hid (Row wr Ga 47 (bc ((both a l).take j ++ a.drop j)) ∧ Row wr Gb 47 (bc ((both a l).take j ++ (List.replicate 16 0).drop j)) ∧ Fl wr g m ∧ Below w.heap.size w wr)) (fun i _ => 16 - (intOf i).toNat)
            case atStart => exact ⟨0, by omega, rfl, H4⟩
            case round =>
              clear H4
              obtain ⟨j, hj, rfl, HJ⟩ := hrel
              by_cases hjlt : j < 16
              · have hji : (j : Int) < 16 := by omega
                have hal := HK.out.1.alen
                have hbl := both_len a l
                obtain ⟨xa, hxa, hca⟩ := pad_byte ((HP.out.1.below HJ.out.2.2.2).more HJ.out.2.2.2.size) j hjlt
                have cpj : wr.cell? ⟨pg, po + k, none⟩ = some (.slice pA pn pc) := (HJ.out.2.2.2.cell (p := ⟨pg, po + k, none⟩) HP.out.2.2.1).trans HP.out.2.2.2
                have ca := HJ.out.1.cell (bc_byte _ j (by rw [List.length_append, List.length_take, List.length_drop]; omega))
                rw [pre_get8 (both a l) a j j (by omega) (Nat.le_refl _)] at ca
                have cb := HJ.out.2.1.cell (bc_byte _ j (by rw [List.length_append, List.length_take, List.length_drop, List.length_replicate]; omega))
                obtain ⟨ob, hob⟩ : ∃ v, Value.int .u8 (((((both a l).take j ++ (List.replicate 16 0).drop j).getD j 0).toNat : Nat) : Int) = v := ⟨_, rfl⟩
                rw [hob] at cb
                have fa := HJ.out.1.frozen j
                have fb := HJ.out.2.1.frozen j
                obtain ⟨aj, haj⟩ : ∃ c, a.getD j 0 = c := ⟨_, rfl⟩
                obtain ⟨bj, hbj⟩ : ∃ c, (both a l).getD j 0 = c := ⟨_, rfl⟩
                have hv := u8_and8 aj xa
                have hbb : aj &&& xa = bj := by rw [← hbj, both_at _ _ _ hjlt, haj, hxa]
                rw [hbb] at hv
                rw [haj] at ca
                have ra := HJ.out.1.set j (.int .u8 (bj.toNat : Int))
                rw [bc_set8, ← hbj, pre_set8 (both a l) a j (by omega) (by omega), hbj] at ra
                have rb := HJ.out.2.1.set j (.int .u8 (bj.toNat : Int))
                rw [bc_set8, ← hbj, pre_set8 (both a l) (List.replicate 16 0) j (by omega) (by rw [List.length_replicate]; omega), hbj] at rb
                have hn1 : ¬ Ga = Gb := HNE.out.1
                have hn2 : ¬ Gb = Ga := fun e => HNE.out.1 e.symm
                have tyA : 47 ≠ 5 := by decide
                have ra2 := ra.other ⟨Gb, j, none⟩ (.int .u8 (bj.toNat : Int)) hn1
                have rb2 : Row ((wr.setCell ⟨Ga, j, none⟩ (.int .u8 (bj.toNat : Int))).setCell ⟨Gb, j, none⟩ (.int .u8 (bj.toNat : Int))) Gb 47 (bc ((both a l).take (j + 1) ++ (List.replicate 16 0).drop (j + 1))) := by
                  have h := (HJ.out.2.1.other ⟨Ga, j, none⟩ (.int .u8 (bj.toNat : Int)) hn2).set j (.int .u8 (bj.toNat : Int))
                  rw [bc_set8, ← hbj, pre_set8 (both a l) (List.replicate 16 0) j (by omega) (by rw [List.length_replicate]; omega), hbj] at h
                  exact h
                have fl2 := (HJ.out.2.2.1.kept (grow_set (grow_refl wr (some Ga)) j (.int .u8 (bj.toNat : Int))) (by have := H3.out.2.2.2; omega) _ _ HJ.out.1 tyA).kept (grow_set (grow_refl _ (some Gb)) j (.int .u8 (bj.toNat : Int))) (by have := HNE.out.2.1; omega) _ _ (HJ.out.2.1.other ⟨Ga, j, none⟩ (.int .u8 (bj.toNat : Int)) hn2) tyA
                have bl2 := below_set (below_set HJ.out.2.2.2 Ga j (.int .u8 (bj.toNat : Int)) (by have := H2.out.2.2; have := H3.out.2.2.2; omega)) Gb j (.int .u8 (bj.toNat : Int)) HNE.out.2.2
                have HR := Lib.hid (And.intro ra2 (And.intro rb2 (And.intro fl2 bl2)))
                clear HJ hob haj hbj hbb ra rb ra2 rb2 fl2 bl2 tyA hal hbl hxa
                rcases hca with ⟨kb, gb, ob2, rfl, cx⟩ | ⟨kb, rfl⟩
                all_goals
                  try rw [show (((255 : UInt8).toNat : Nat) : Int) = 255 from rfl] at hv
                  go_wp2
                  go_roundw
                  case rel => exact ⟨j + 1, by omega, by go_num, HR⟩
                  case measure => simp [intOf]; omega
              · have hj16 : j = 16 := by omega
                subst hj16
                have HS : Hid (Row wr Ga 47 (bc (both a l)) ∧ Row wr Gb 47 (bc (both a l)) ∧ Fl wr g m ∧ Below w.heap.size w wr) := by
                  have h := HJ.out
                  have hal := HK.out.1.alen
                  have hbl := both_len a l
                  rw [List.take_of_length_le (by omega), List.drop_eq_nil_of_le (by omega), List.drop_eq_nil_of_le (by rw [List.length_replicate]; decide), List.append_nil] at h
                  exact Lib.hid h
                clear HJ
                go_wp2_with fail
                have hsb : Shows wr wr.heap.size (some ⟨Gb, 0, none⟩) 16 16 (both a l) := row_shows (r := []) (by rw [List.append_nil]; exact HS.out.2.1) (both_len a l) (by decide)
                (with_reducible refine (program_any g m 2 9 _ _ _ (both a l) _ HS.out.2.2.1 hsb (by decide)).mono ?_)
                rintro _ w5 ⟨rfl, hf, hgr⟩
                rw [HQ.out.1] at hf ⊢
                have tyA : 56 ≠ 5 := ty_ne
                have r5 : Row w5 Ga 47 (bc (both a l)) := (hgr.block Ga HS.out.1.lt (fun e => by
                  have e2 : Ga = g := by injection e
                  have := H3.out.2.2.2
                  omega)).trans HS.out.1
                have H5 := Lib.hid (And.intro hf (And.intro r5 (step_grow HS.out.2.2.2 hgr H2.out.2.2)))
                clear hf hgr r5 hsb tyA
                go_wp2_with fail
                (with_reducible refine (read_any g m' 2 _ H5.out.1).mono ?_)
                rintro _ w6 ⟨Ar, nr, cr, rfl, ho, hb⟩
                have hn : nr = 1024 := by have := ho.1; rw [bc_len, HQ.out.2.2.1] at this; omega
                subst hn
                obtain ⟨x, y, rfl, _, hc⟩ := (Shows.of_own ho).cells (by decide)
                have hc6 : ∀ q, q < 16 → w6.cell? ⟨x, y + (144 + q), none⟩ = some (.int .u8 (((both a l).getD q 0).toNat : Int)) := fun q hq => by
                  rw [hc (144 + q) (by omega), HQ.out.2.2.2.1 q hq]
                have r6 : Row w6 Ga 47 (bc (both a l)) := H5.out.2.1.below hb H5.out.2.1.lt
                have H6 := Lib.hid (And.intro hc6 (And.intro r6 (And.intro (H5.out.1.below hb) (step_below H5.out.2.2 hb))))
                clear ho hb hc hc6 r6
                go_wp2_with fail
                go_loopw [11] (fun i wr => ∃ q d : Nat, q ≤ 16 ∧ i = .int .i64 q ∧ wr = w6.drewN d) (fun i _ => 16 - (intOf i).toNat)
                case atStart => exact ⟨0, 0, by omega, rfl, rfl⟩
                case round =>
                  obtain ⟨q, d, hq, rfl, rfl⟩ := hrel
                  by_cases hqlt : q < 16
                  · have hqi : (q : Int) < 16 := by omega
                    have c1 := H6.out.1 q hqlt
                    have c2 := H6.out.2.1.cell (bc_byte (both a l) q (by rw [both_len]; exact hqlt))
                    obtain ⟨bq, hbq⟩ : ∃ c, (both a l).getD q 0 = c := ⟨_, rfl⟩
                    rw [hbq] at c1 c2
                    have c1 : (w6.drewN d).cell? ⟨x, y + (144 + q), none⟩ = some (.int .u8 (bq.toNat : Int)) := c1
                    have c2 : (w6.drewN d).cell? ⟨Ga, q, none⟩ = some (.int .u8 (bq.toNat : Int)) := c2
                    have hti : ((144 : Int) + (q : Int)).toNat = 144 + q := by omega
                    clear hbq
                    go_wp2_with fail
                    go_quiet (fail)
                    go_wp2
                    go_roundw
                    case rel => exact ⟨q + 1, d + nq, by omega, by go_num, rfl⟩
                    case measure => simp [intOf]; omega
                  · have hq16 : q = 16 := by omega
                    subst hq16
                    have HR : Hid (Ag (k + 1) (both a l) m' ∧ Row (w6.drewN d) Ga 47 (bc (both a l)) ∧ Fl (w6.drewN d) g m' ∧ Below w.heap.size w (w6.drewN d)) :=
                      Lib.hid ⟨HQ.out.2.1, H6.out.2.1, H6.out.2.2.1.drewN d, below_drewN H6.out.2.2.2 d⟩
                    clear H6
                    go_wp2
                    go_roundw
                    case rel =>
                      exact ⟨k + 1, both a l, m', by omega, by go_num, HR⟩
                    case measure => simp [intOf]; omega
        · have hkN2 : k = N := by omega
          have hmin : min (n : Int) 20 = (k : Int) := by omega
          have hxx : (n ≤ 20 ∧ ¬ (k : Int) < (n : Int)) ∨ ((k : Int) < (n : Int) ∧ ¬ (k : Int) < 20) := by omega
          clear hkN2 hkN hN
          rcases hxx with ⟨h1, h2⟩ | ⟨h1, h2⟩
          all_goals
            go_wp2_with fail
            (with_reducible refine (ops_any g m _ HK.out.2.2.1).mono ?_)
            rintro _ w7 ⟨rfl, rfl⟩
            rw [HK.out.1.ops]
            go_wp2
            go_ret
            exact ⟨rfl, HK.out.2.2.2⟩
end Go.Proofs.Ytopihkcbjkfooaa
