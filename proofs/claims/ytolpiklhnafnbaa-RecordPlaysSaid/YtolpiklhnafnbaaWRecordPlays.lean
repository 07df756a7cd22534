/- The walk of the law RecordPlays: whatever is appended, programmed beside, erased, wherever the power goes, records are, and are refused, as the document says. -/
import Derived.Test.YtolpiklhnafnbaaActDo
import Derived.Test.YtolpiklhnafnbaaSame
import Derived.Test.YtolpiklhnafnbaaTwinsParts
import Derived.Test.YtolpiklhnafnbaaWFlashTwins
import Derived.Test.YtolpiklhnafnbaaLaw5Base
import Derived.Test.YtolpiklhnafnbaaRefAppend
import Derived.Test.YtolpiklhnafnbaaRows5
import Derived.Test.YtolpiklhnafnbaaAlloc
import Derived.Test.YtolpiklhnafnbaaRecCount
import Derived.Deep.CutRange
import Derived.Deep.CutBlock
namespace Go.Proofs.Ytolpiklhnafnbaa
set_option maxRecDepth 100000
open Go.RowKit Wd Fm

/-- A memory of the program's and one of the reference's. -/
structure Pair (W : World) (B f x : Nat) (m : Mem) : Prop where
  pf : Fl W f m
  px : Rf W x m
  pd : B ≤ f ∧ f < x
theorem Pair.below {W W' : World} {B f x : Nat} {m : Mem} (a : Pair W B f x m) (hb : Below W.heap.size W W') : Pair W' B f x m := ⟨a.pf.below hb, a.px.below hb, a.pd⟩
def actZero : List Value := [.int .i64 0, .int .i64 0, .int .i64 0, .int .i64 0, .slice none 0 0]
theorem act_zero : (Try.prog.info? 31).map (fun i => (i.zero, i.size)) = some (some (.agg actZero.toArray), 5) := by kernel_rfl
theorem act_size : (Try.prog.info? 31).map (·.size) = some 5 := by kernel_rfl

set_option maxHeartbeats 8000000 in
theorem recordPlays_walk (A : Option Addr) (n cap : Nat) (acs : List ActV) (A2 : Option Addr) (n2 cap2 : Nat) (zs : List Int) (w : World) (hl : LaidActs w w.heap.size A n acs) (hc : n ≤ cap) (hn : n ≤ 9223372036854775807)
    (hl2 : Lays w w.heap.size A2 n2 cap2 (zs.map (Value.int .i64))) (_hz : ∀ z ∈ zs, (Lit.int .i64 z).wf = true) :
    Calls Try.prog 4 #[.slice A n cap, .slice A2 n2 cap2] w fun e w' => e = .returned (.bool true) ∧ Below w.heap.size w w' := by
  have H := Lib.hid (And.intro hl hl2)
  have HF0 := Lib.hid (fun (W : World) (hb : Below w.heap.size w W) => few_any A n cap acs W ((hl.below hb).more hb.size) hc hn)
  have hn2 : n2 ≤ 9223372036854775807 := by have := hl2.le; have := hl2.top; unfold maxLen at this; omega
  have HZL := Lib.hid (show zs.length = n2 by have := hl2.len; simpa using this)
  clear hl hc hl2 _hz
  go_enter Try.func4, Try.ntmps4
  go_wp2_with fail
  (with_reducible refine (known5_any _).mono ?_)
  rintro _ w1 ⟨rfl, hb1⟩
  have HB1 := Lib.hid hb1
  clear hb1
  go_wp2_with fail
  (with_reducible refine (HF0.out _ HB1.out).mono ?_)
  rintro _ w2 ⟨rfl, rfl⟩
  clear HF0
  by_cases hfew : fewActs acs = true
  · have h80 : n ≤ 80 ∧ ∀ a ∈ acs, a.n ≤ 40 := by
      unfold fewActs at hfew
      rw [Bool.and_eq_true, List.all_eq_true] at hfew
      have := H.out.1.len
      have h2 := of_decide_eq_true hfew.2
      exact ⟨by omega, fun a ha => of_decide_eq_true (hfew.1 a ha)⟩
    have hn80 := h80.1
    have H80 := Lib.hid h80.2
    rw [hfew]
    clear h80 hfew hn
    go_wp2_with fail
    (with_reducible refine (new_any _).mono ?_)
    rintro _ w2 ⟨rfl, hf2, hb2⟩
    obtain ⟨f, hf⟩ : ∃ f, w1.heap.size = f := ⟨_, rfl⟩
    rw [hf] at hf2 ⊢
    have K2 := Lib.hid (And.intro hf2 (And.intro (step_below HB1.out hb2) (show w.heap.size ≤ f by have := HB1.out.size; omega)))
    clear hf2 hb2 hf
    go_wp2_with fail
    (with_reducible refine (xnew_any _).mono ?_)
    rintro _ w6 ⟨rfl, hf6, hb6⟩
    obtain ⟨x, hx⟩ : ∃ y, w2.heap.size = y := ⟨_, rfl⟩
    rw [hx] at hf6 ⊢
    have K6 : Hid (Pair w6 w.heap.size f x Mem.fresh ∧ Below w.heap.size w w6) := Lib.hid ⟨⟨K2.out.1.below hb6, hf6, K2.out.2.2, by have := K2.out.1.lt; omega⟩, step_below K2.out.2.1 hb6⟩
    clear hf6 hb6 hx K2 HB1
    go_wp2_with fail
    go_loopg [7] 60 (fun gk i wr => ∃ j : Nat, j ≤ 60 ∧ gk = 60 - j ∧ j ≤ n2 ∧ i = .int .i64 j ∧ Hid (∃ m, Pair wr w.heap.size f x m ∧ Below w.heap.size w wr))
    case atStart => exact ⟨0, by omega, by omega, by omega, rfl, Lib.hid ⟨_, K6.out⟩⟩
    case round =>
      obtain ⟨j, hj, hgk, hj2, rfl, HJ⟩ := hrel
      clear K6
      have HGK := Lib.hid hgk
      clear hgk
      by_cases hcond : j < n2 ∧ j < 60
      · obtain ⟨hlt, hlt6⟩ := hcond
        have hji : (j : Int) < (n2 : Int) := by omega
        have hji6 : (j : Int) < 60 := by omega
        have hjz : j < zs.length := by have := HZL.out; omega
        obtain ⟨z, hz⟩ : ∃ z, zs[j] = z := ⟨_, rfl⟩
        have hzc : ∀ W : World, Below w.heap.size w W → ∃ g2 o2, A2 = some ⟨g2, o2, none⟩ ∧ W.cell? ⟨g2, o2 + j, none⟩ = some (.int .i64 z) := by
          intro W hb
          obtain ⟨g2, o2, e, _, h⟩ := (H.out.2.below hb).spot (by omega)
          refine ⟨g2, o2, e, ?_⟩
          rw [h j (by rw [List.length_map]; exact hjz), List.getElem_map, hz]
        have HZ := Lib.hid hzc
        obtain ⟨g2, o2, rfl, _⟩ := HZ.out w (Below.refl _ _)
        have hzc2 : ∀ W : World, Below w.heap.size w W → W.cell? ⟨g2, o2 + j, none⟩ = some (.int .i64 z) := by
          intro W hb
          obtain ⟨a, b, e, h⟩ := HZ.out W hb
          injection e with e
          injection e with e1 e2
          subst e1 e2
          exact h
        have HZC := Lib.hid hzc2
        clear hzc hzc2 HZ hz
        go_upto_if 38 with fail
        go_cut [8, 9] from 25 to 140 (fun _ _ wx => Hid (∃ m, Pair wx w.heap.size f x m ∧ Below w.heap.size w wx))
        case first =>
          by_cases hja : j < n
          · have hjai : (j : Int) < (n : Int) := by omega
            obtain ⟨m, hp, hbr⟩ := HJ.out
            have hjl : j < acs.length := by have := H.out.1.len; omega
            obtain ⟨a0, ha0⟩ : ∃ a, acs[j] = a := ⟨_, rfl⟩
            obtain ⟨G, o, rfl, _, _⟩ := H.out.1.spot (by omega)
            obtain ⟨c0, c1, c2, c3, c4⟩ := H.out.1.cells hbr j hjl
            have hwf := H.out.1.each acs[j] (List.getElem_mem hjl)
            have h40 := H80.out acs[j] (List.getElem_mem hjl)
            rw [ha0] at c0 c1 c2 c3 c4 hwf h40
            have hne : ∀ p, a0.A = some p → 0 < a0.n → p.block < w.heap.size := fun p hp h0 => by
              obtain ⟨g', o', e, hb', _⟩ := hwf.b.spot h0
              rw [hp] at e
              injection e with e
              rw [e]
              exact hb'
            obtain ⟨q1, q2⟩ := hp.pd
            have HA := Lib.hid (And.intro hp (And.intro hbr (And.intro hwf (And.intro h40 hne))))
            clear HJ hp hbr hwf h40 hne ha0
            go_wp2_with fail
            obtain ⟨W, hW⟩ : ∃ W, wr.alloc (.cells #[.int .i64 a0.K, .int .i64 a0.S, .int .i64 a0.P, .int .i64 a0.N, .slice a0.A a0.n a0.cap] 31) = W := ⟨_, rfl⟩
            obtain ⟨G1, hG1⟩ : ∃ G1, wr.heap.size = G1 := ⟨_, rfl⟩
            have hrow := Row.new wr 31 [.int .i64 a0.K, .int .i64 a0.S, .int .i64 a0.P, .int .i64 a0.N, .slice a0.A a0.n a0.cap]
            have hbW := below_new (Below.refl wr.heap.size wr) (.cells #[.int .i64 a0.K, .int .i64 a0.S, .int .i64 a0.P, .int .i64 a0.N, .slice a0.A a0.n a0.cap] 31)
            change Row (wr.alloc (.cells #[.int .i64 a0.K, .int .i64 a0.S, .int .i64 a0.P, .int .i64 a0.N, .slice a0.A a0.n a0.cap] 31)) wr.heap.size 31 [.int .i64 a0.K, .int .i64 a0.S, .int .i64 a0.P, .int .i64 a0.N, .slice a0.A a0.n a0.cap] at hrow
            rw [hW, hG1] at hrow
            rw [hW] at hbW
            try rw [hW]
            try rw [hG1]
            have dz := HZC.out W (step_below HA.out.2.1 hbW)
            have hG1r : wr.heap.size ≤ G1 := by omega
            have HW := Lib.hid (And.intro hrow (And.intro hbW hG1r))
            have hfz := hrow.frozen 0
            have d0 := hrow.cell (j := 0) rfl
            have d1 := hrow.cell (j := 1) rfl
            have d2 := hrow.cell (j := 2) rfl
            have d3 := hrow.cell (j := 3) rfl
            have d4 := hrow.cell (j := 4) rfl
            clear c0 c1 c2 c3 c4 hrow hbW hG1r
            (with_reducible refine (within5_any a0.K 9 _ (by decide) (by decide)).mono ?_)
            rintro _ w5 ⟨rfl, rfl⟩
            clear hW hG1
            by_cases hk7 : a0.K % 9 < 7
            · by_cases hz3 : z.tmod 3 > 0
              · have hrs := HW.out.1.set 0 (.int .i64 8)
                have hbs := below_set HW.out.2.1 G1 0 (.int .i64 8) HW.out.2.2
                obtain ⟨W2, hW2⟩ : ∃ W2, W.setCell ⟨G1, 0, none⟩ (.int .i64 8) = W2 := ⟨_, rfl⟩
                rw [hW2] at hrs hbs
                have e0 := hrs.cell (j := 0) (v := .int .i64 8) rfl
                have e1 := hrs.cell (j := 1) (v := .int .i64 a0.S) rfl
                have e2 := hrs.cell (j := 2) (v := .int .i64 a0.P) rfl
                have e3 := hrs.cell (j := 3) (v := .int .i64 a0.N) rfl
                have e4 := hrs.cell (j := 4) (v := .slice a0.A a0.n a0.cap) rfl
                have hwf0 := (HA.out.2.2.1.below (step_below HA.out.2.1 hbs)).more (step_below HA.out.2.1 hbs).size
                have hwf : ActWf W2 W2.heap.size ⟨8, a0.S, a0.P, a0.N, a0.A, a0.n, a0.cap, a0.l⟩ := ⟨show (Lit.int .i64 8).wf = true by decide, hwf0.s, hwf0.p, hwf0.n, hwf0.b⟩
                have hd1 := do_any f x m ⟨8, a0.S, a0.P, a0.N, a0.A, a0.n, a0.cap, a0.l⟩ W2 (HA.out.1.pf.below hbs) (HA.out.1.px.below hbs) (by omega) hwf HA.out.2.2.2.1 (fun p hp h0 => by have := HA.out.2.2.2.2 p hp h0; omega)
                have HD1 := Lib.hid hd1
                have HBW := Lib.hid (step_below HA.out.2.1 hbs)
                clear hd1 hwf hwf0 hrs hbs d1 d2 d3 d4
                go_wp2_with fail
                (with_reducible refine HD1.out.mono ?_)
                rintro _ w7 ⟨rfl, hf7, hx7, V, hV1, hV2⟩
                have hb7 : Below w.heap.size w w7 := step_grow (step_grow HBW.out hV1 q1) hV2 (by omega)
                have HE : Hid (∃ m, Pair w7 w.heap.size f x m ∧ Below w.heap.size w w7) := Lib.hid ⟨_, ⟨hf7, hx7, ⟨q1, q2⟩⟩, hb7⟩
                clear hf7 hx7 hV1 hV2 hb7 HD1 HBW d0 e0 e1 e2 e3 e4 dz hW2
                go_wp2_with fail
                go_meet
                case rel => exact HE
              · have hwf := (HA.out.2.2.1.below (step_below HA.out.2.1 HW.out.2.1)).more (step_below HA.out.2.1 HW.out.2.1).size
                have hd1 := do_any f x m a0 W (HA.out.1.pf.below HW.out.2.1) (HA.out.1.px.below HW.out.2.1) (by omega) hwf HA.out.2.2.2.1 (fun p hp h0 => by have := HA.out.2.2.2.2 p hp h0; omega)
                have HD1 := Lib.hid hd1
                have HBW := Lib.hid (step_below HA.out.2.1 HW.out.2.1)
                clear hd1
                go_wp2_with fail
                (with_reducible refine HD1.out.mono ?_)
                rintro _ w7 ⟨rfl, hf7, hx7, V, hV1, hV2⟩
                have hb7 : Below w.heap.size w w7 := step_grow (step_grow HBW.out hV1 q1) hV2 (by omega)
                have HE : Hid (∃ m, Pair w7 w.heap.size f x m ∧ Below w.heap.size w w7) := Lib.hid ⟨_, ⟨hf7, hx7, ⟨q1, q2⟩⟩, hb7⟩
                clear hf7 hx7 hV1 hV2 hb7 HD1 HBW d0 d1 d2 d3 d4 dz
                go_wp2_with fail
                go_meet
                case rel => exact HE
            · have hwf := (HA.out.2.2.1.below (step_below HA.out.2.1 HW.out.2.1)).more (step_below HA.out.2.1 HW.out.2.1).size
              have hd1 := do_any f x m a0 W (HA.out.1.pf.below HW.out.2.1) (HA.out.1.px.below HW.out.2.1) (by omega) hwf HA.out.2.2.2.1 (fun p hp h0 => by have := HA.out.2.2.2.2 p hp h0; omega)
              have HD1 := Lib.hid hd1
              have HBW := Lib.hid (step_below HA.out.2.1 HW.out.2.1)
              clear hd1
              go_wp2_with fail
              (with_reducible refine HD1.out.mono ?_)
              rintro _ w7 ⟨rfl, hf7, hx7, V, hV1, hV2⟩
              have hb7 : Below w.heap.size w w7 := step_grow (step_grow HBW.out hV1 q1) hV2 (by omega)
              have HE : Hid (∃ m, Pair w7 w.heap.size f x m ∧ Below w.heap.size w w7) := Lib.hid ⟨_, ⟨hf7, hx7, ⟨q1, q2⟩⟩, hb7⟩
              clear hf7 hx7 hV1 hV2 hb7 HD1 HBW d0 d1 d2 d3 d4 dz
              go_wp2_with fail
              go_meet
              case rel => exact HE
          · have hjai : ¬ (j : Int) < (n : Int) := by omega
            go_wp2_with fail
            go_meet
            case rel => exact HJ
        case rest =>
          clear HJ
          obtain ⟨m, hp, hbr⟩ := hcut.out
          clear hcut
          have dz := HZC.out wc hbr
          obtain ⟨t, ht⟩ : ∃ t : Nat, z % 120 = t := ⟨(z % 120).toNat, by omega⟩
          have ht1 : t < 120 := by omega
          have HT := Lib.hid ht
          have hmk := fun W => make_bytes W t (by omega)
          have HP := Lib.hid (And.intro hp hbr)
          clear ht hp hbr
          go_wp2_with fail
          (with_reducible refine (within5_any z 120 _ (by decide) (by decide)).mono ?_)
          rintro _ w5 ⟨rfl, rfl⟩
          rw [HT.out]
          go_wp2_with fail
          obtain ⟨Gb, hGb⟩ : ∃ Gb, wc.heap.size = Gb := ⟨_, rfl⟩
          have hrow := Row.new wc 5 (bc (List.replicate t 0))
          have hbb := below_new (Below.refl wc.heap.size wc) (.cells (bc (List.replicate t 0)).toArray 5)
          obtain ⟨W, hW⟩ : ∃ W, wc.alloc (.cells (bc (List.replicate t 0)).toArray 5) = W := ⟨_, rfl⟩
          rw [hW, hGb] at hrow
          rw [hW] at hbb
          try rw [hW]
          try rw [hGb]
          have hGw : wc.heap.size ≤ Gb := by omega
          have HR0 : Hid (∃ l : List UInt8, l.length = t ∧ Row W Gb 5 (bc l) ∧ Below wc.heap.size wc W) := Lib.hid ⟨_, List.length_replicate, hrow, hbb⟩
          have HGW := Lib.hid hGw
          clear hrow hbb hW hGb hmk dz hGw
          go_loopw [11] (fun i wq => ∃ q : Nat, q ≤ t ∧ i = .int .i64 q ∧ Hid (∃ l : List UInt8, l.length = t ∧ Row wq Gb 5 (bc l) ∧ Below wc.heap.size wc wq)) (fun i _ => t - (intOf i).toNat)
          case atStart => exact ⟨0, by omega, rfl, HR0⟩
          case round =>
            clear HR0
            obtain ⟨q, hq, rfl, HQ⟩ := hrel
            obtain ⟨l, hll, hrow, hbq⟩ := HQ.out
            clear HQ
            by_cases hqt : q < t
            · have hqi : (q : Int) < (t : Int) := by omega
              have ca := hrow.cell (bc_byte9 l q (by omega))
              obtain ⟨ob, hob⟩ : ∃ v, Value.int .u8 (((l.getD q 0).toNat : Nat) : Int) = v := ⟨_, rfl⟩
              rw [hob] at ca
              have fa := hrow.frozen q
              obtain ⟨c, hc⟩ : ∃ c : UInt8, ((j : Int) + (q : Int)) = (c.toNat : Int) := ⟨UInt8.ofNat (j + q), by simp <;> omega⟩
              have ra := hrow.set q (.int .u8 (c.toNat : Int))
              rw [bc_set9] at ra
              have rb := below_set hbq Gb q (.int .u8 (c.toNat : Int)) HGW.out
              rw [← hc] at ra rb
              have HR : Hid (∃ l : List UInt8, l.length = t ∧ Row (wr.setCell ⟨Gb, q, none⟩ (.int .u8 (((j : Int) + (q : Int))))) Gb 5 (bc l) ∧ Below wc.heap.size wc (wr.setCell ⟨Gb, q, none⟩ (.int .u8 (((j : Int) + (q : Int)))))) := Lib.hid ⟨l.set q c, by rw [List.length_set]; exact hll, ra, rb⟩
              clear hrow hbq hob ra rb hc hll
              go_wp2
              go_roundw
              case rel => exact ⟨q + 1, by omega, by go_num, HR⟩
              case measure => simp [intOf]; omega
            · have hqi : ¬ (q : Int) < (t : Int) := by omega
              have HRW := Lib.hid (show ∃ l : List UInt8, l.length = t ∧ Row wr Gb 5 (bc l) ∧ Below wc.heap.size wc wr from ⟨l, hll, hrow, hbq⟩)
              have dz := HZC.out wr (step_below HP.out.2 hbq)
              clear hrow hbq hll
              go_upto_if 86 with fail
              go_cut [10] from 25 to 140 (fun b wx => ∃ Gc Nc : Nat, b = .slice (some ⟨Gc, 0, none⟩) Nc Nc ∧ Nc ≤ 1100 ∧ Hid (∃ l : List UInt8, l.length = Nc ∧ Row wx Gc 5 (bc l) ∧ Below wc.heap.size wc wx))
              case first =>
                by_cases hz30 : z.tmod 31 = 30
                · have hz30b : (z.tmod 31 == 30) = true := by simp [hz30]
                  obtain ⟨u, hu⟩ : ∃ u : Nat, wrap64 (z.tdiv 31) % 14 = u := ⟨(wrap64 (z.tdiv 31) % 14).toNat, by omega⟩
                  have hu14 : u < 14 := by omega
                  have HU := Lib.hid hu
                  clear hu
                  have hmk : ∀ W : World, (Instr.makeSlice 29 (.int .i64 (1010 + (u : Int))) (.int .i64 (1010 + (u : Int)))).run Try.prog W = .ok (.slice (some ⟨W.heap.size, 0, none⟩) (1010 + u) (1010 + u)) (W.alloc (.cells (bc (List.replicate (1010 + u) 0)).toArray 5)) := fun W => by
                    have h := make_bytes W (1010 + u) (by omega)
                    rw [show ((1010 + u : Nat) : Int) = 1010 + (u : Int) by omega] at h
                    exact h
                  go_wp2_with fail
                  (with_reducible refine (within5_any _ 14 _ (by decide) (by decide)).mono ?_)
                  rintro _ w5 ⟨rfl, rfl⟩
                  rw [HU.out]
                  obtain ⟨l, _, _, hbq⟩ := HRW.out
                  have HE : Hid (∃ l : List UInt8, l.length = 1010 + u ∧ Row (wr.alloc (.cells (bc (List.replicate (1010 + u) 0)).toArray 5)) wr.heap.size 5 (bc l) ∧ Below wc.heap.size wc (wr.alloc (.cells (bc (List.replicate (1010 + u) 0)).toArray 5))) := Lib.hid ⟨_, List.length_replicate, Row.new wr _ _, below_new hbq _⟩
                  clear hbq
                  go_wp2_with fail
                  go_meet
                  case rel => exact ⟨wr.heap.size, 1010 + u, rfl, by omega, HE⟩
                · have hz30b : (z.tmod 31 == 30) = false := by simp [hz30]
                  go_wp2_with fail
                  go_meet
                  case rel => exact ⟨Gb, t, rfl, by omega, HRW.out⟩
              case rest =>
                obtain ⟨Gc, Nc, rfl, hNc, HC⟩ := hcut
                clear HRW dz
                rename World => W4
                obtain ⟨l, hll, hrow, hb4⟩ := HC.out
                clear HC
                have hsh := row_shows (r := []) (n := Nc) (by rw [List.append_nil]; exact hrow) hll (by unfold maxLen; omega)
                have dz := HZC.out W4 (step_below HP.out.2 hb4)
                obtain ⟨e, he⟩ : ∃ e : Int, wrap64 (z.tdiv 7) % 7 = e := ⟨_, rfl⟩
                have HE := Lib.hid he
                have hq1 := HP.out.1.pd
                have HAP := Lib.hid (append_any f m e _ Nc Nc l W4 (HP.out.1.pf.below hb4) hsh (by omega))
                have HX := Lib.hid (And.intro hrow (And.intro (HP.out.1.px.below hb4) (And.intro (HP.out.1.pf.below hb4) (And.intro (step_below HP.out.2 hb4) hll))))
                obtain ⟨Q, hQ⟩ : ∃ Q, appendM m e l = Q := ⟨_, rfl⟩
                rw [hQ] at HAP
                have HQ := Lib.hid hQ
                clear hrow hb4 hsh he hQ hll
                go_wp2_with fail
                (with_reducible refine (within5_any _ 7 _ (by decide) (by decide)).mono ?_)
                rintro _ w5 ⟨rfl, rfl⟩
                rw [HE.out]
                go_wp2_with fail
                (with_reducible refine HAP.out.mono ?_)
                rintro _ w5 ⟨rfl, hf5, hg5⟩
                clear HAP dz
                have hGf : Gc ≠ f := by
                  intro e
                  subst e
                  obtain ⟨A9, n9, c9, hr9, _⟩ := HX.out.2.2.1.spot
                  have h1 := HX.out.1
                  unfold Row at h1 hr9
                  rw [h1] at hr9
                  injection hr9 with hr9
                  injection hr9 with _ h2 _
                  exact absurd h2 (by decide)
                have hrow5 : Row w5 Gc 5 (bc l ++ []) := by
                  rw [List.append_nil]
                  exact (hg5.block Gc HX.out.1.lt (fun e => hGf (by injection e))).trans HX.out.1
                have hx5 := HX.out.2.1.other HX.out.2.2.1 hg5 (by omega)
                have hb5 := step_grow HX.out.2.2.2.1 hg5 hq1.1
                have HAX := Lib.hid (xappend_any x m e _ Nc Nc l w5 hx5 (row_shows hrow5 HX.out.2.2.2.2 (by unfold maxLen; omega)) (by omega))
                rw [HQ.out] at HAX
                have HF := Lib.hid (And.intro hf5 (And.intro hx5 hb5))
                clear hf5 hg5 hGf hrow5 hx5 hb5 HX
                go_wp2_with fail
                (with_reducible refine HAX.out.mono ?_)
                rintro _ w6 ⟨rfl, hx6, hg6⟩
                have hp6 : Pair w6 w.heap.size f x Q.2 := ⟨HF.out.1.other HF.out.2.1 hg6 (by omega), hx6, hq1⟩
                have HS := Lib.hid (same_any f x Q.2 w6 hp6.pf hp6.px)
                have HG := Lib.hid (And.intro hp6 (step_grow HF.out.2.2 hg6 (by omega)))
                clear hx6 hg6 hp6 HAX HF
                go_wp2_with fail
                (with_reducible refine HS.out.mono ?_)
                rintro _ w7 ⟨rfl, hb7⟩
                have HJ7 := Lib.hid (And.intro (HG.out.1.below hb7) (step_below HG.out.2 hb7))
                clear hb7 HS HG
                go_wp2_with fail
                obtain ⟨m2, hm2⟩ : ∃ m2, Q.2 = m2 := ⟨_, rfl⟩
                rw [hm2] at HJ7
                clear hm2 HQ HE HP HT HGW
                go_loopw [13] (fun i wq => ∃ q : Nat, q ≤ 8 ∧ i = .int .i64 ((q : Int) - 1) ∧ Hid (Pair wq w.heap.size f x m2 ∧ Below w.heap.size w wq)) (fun i _ => 8 - (intOf i + 1).toNat)
                case atStart => exact ⟨0, by omega, rfl, HJ7⟩
                case round =>
                  clear HJ7
                  obtain ⟨p, hp8, rfl, HK⟩ := hrel
                  by_cases hp7 : p < 8
                  · have hpi : (p : Int) - 1 < 7 := by omega
                    obtain ⟨s, hs⟩ : ∃ s, (p : Int) - 1 = s := ⟨_, rfl⟩
                    have HS := Lib.hid hs
                    have hs1 : -1 ≤ s ∧ s ≤ 6 := by omega
                    rw [hs] at hpi ⊢
                    obtain ⟨R, hR⟩ : ∃ R, loadM (readM m2 s) = R := ⟨_, rfl⟩
                    have hcnt : R.1.length ≤ 64 := by rw [← hR]; exact load_count _
                    have HL := Lib.hid (load_any f m2 s _ HK.out.1.pf)
                    rw [hR] at HL
                    have HXL := Lib.hid (fun W hb => xload_any x m2 s W (HK.out.1.px.below hb))
                    rw [hR] at HXL
                    have HCN := Lib.hid hcnt
                    clear hs hR hcnt
                    go_wp2_with fail
                    (with_reducible refine HL.out.mono ?_)
                    rintro _ w8 ⟨A8, n8, c8, ps8, rfl, ho8, hl8, hb8⟩
                    have H8 := Lib.hid (And.intro ho8 (And.intro hl8 hb8))
                    clear ho8 hl8 hb8 HL
                    go_wp2_with fail
                    (with_reducible refine (HXL.out _ H8.out.2.2).mono ?_)
                    rintro _ w9 ⟨A9, n9, c9, ps9, rfl, ho9, hl9, hb9⟩
                    have ho89 := H8.out.1.below hb9
                    have hn8 : n8 ≤ 1000000 := by
                      have h1 := ho89.len
                      have h2 := congrArg List.length H8.out.2.1
                      rw [List.length_map] at h2
                      have := HCN.out
                      omega
                    have hn9 : n9 ≤ 1000000 := by
                      have h1 := ho9.len
                      have h2 := congrArg List.length hl9
                      rw [List.length_map] at h2
                      have := HCN.out
                      omega
                    have HRW := Lib.hid (rows5_any A8 n8 c8 ps8 A9 n9 c9 ps9 w9 ho89.laid ho9.laid hn8 hn9)
                    have heq : decide (bytesOf ps8 = bytesOf ps9) = true := by
                      refine decide_eq_true ?_
                      unfold bytesOf
                      rw [H8.out.2.1, hl9]
                    rw [heq] at HRW
                    have H9 := Lib.hid (step_below (step_below HK.out.2 H8.out.2.2) hb9)
                    have HK9 := Lib.hid ((HK.out.1.below H8.out.2.2).below hb9)
                    clear ho9 hl9 hb9 ho89 heq HXL H8 hn8 hn9
                    go_wp2_with fail
                    (with_reducible refine HRW.out.mono ?_)
                    rintro _ w10 ⟨rfl, hb10⟩
                    have HN := Lib.hid (And.intro (HK9.out.below hb10) (step_below H9.out hb10))
                    clear hb10 HRW H9 HK9 HK HCN
                    go_wp2
                    go_roundw
                    case rel => exact ⟨p + 1, by omega, by rw [← HS.out]; go_num, HN⟩
                    case measure => simp [intOf]; have := HS.out; omega
                  · have hp88 : p = 8 := by omega
                    subst hp88
                    clear HZC H80 H HZL
                    go_wp2_with fail
                    go_roundg (60 - (j + 1))
                    case measure => have := HGK.out; omega
                    case rel => exact ⟨j + 1, by omega, rfl, by omega, by go_num, Lib.hid ⟨_, HK.out⟩⟩
      · obtain ⟨m, _, hbr⟩ := HJ.out
        have HB := Lib.hid hbr
        clear HJ hbr
        by_cases hlt : j < n2
        · have hji : (j : Int) < (n2 : Int) := by omega
          have hj60 : j = 60 := by omega
          subst hj60
          clear hcond
          go_wp2
          go_ret
          exact ⟨rfl, HB.out⟩
        · have hji : ¬ (j : Int) < (n2 : Int) := by omega
          clear hcond
          go_wp2
          go_ret
          exact ⟨rfl, HB.out⟩
  · have hfew2 : fewActs acs = false := by simpa using hfew
    rw [hfew2]
    clear hfew hfew2
    go_wp2
    go_ret
    exact ⟨rfl, HB1.out⟩
end Go.Proofs.Ytolpiklhnafnbaa
