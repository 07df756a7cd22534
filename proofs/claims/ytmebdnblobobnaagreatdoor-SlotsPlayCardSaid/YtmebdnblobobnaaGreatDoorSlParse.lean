/- Chapter 6: Parse of any bytes (the program's own function). -/
import Derived.Test.YtmebdnblobobnaaGreatDoorEntMath
import Derived.Test.YtmebdnblobobnaaGreatDoorKCode
import Derived.Deep.RegionHeld3
import Derived.Deep.QuietTactic
import Derived.Deep.WholeRow
import Derived.Laws.ResultCell
import Derived.Laws.Rows
import Derived.Deep.Cut
namespace Go.Proofs.YtmebdnblobobnaaGreatDoor
set_option maxRecDepth 100000
open Go.RowKit _root_.Go.Proofs.YtmebdnblobobnaaGreatDoor.Wd _root_.Go.Proofs.YtmebdnblobobnaaGreatDoor.Nm

def sent (x y : Int) (s : List UInt8) : Ent := ⟨x, y, s⟩
theorem sent_zero_info : (Tryz.prog.info? 45).map (fun i => (i.zero, i.size)) = some (some (.agg Ent.zero.cells.toArray), 34) := by kernel_rfl
theorem sent_built (x y : Int) : Tryz.prog.built 45 [(0, .int .i64 x), (1, .int .i64 y)] = some (sent x y (List.replicate 32 0)).cells.toArray := by kernel_rfl
theorem sent_built0 : Tryz.prog.built 45 [] = some Ent.zero.cells.toArray := by kernel_rfl
theorem sent_one (e : Ent) : ∀ v ∈ e.cells, v.oneCell' = true := by
  intro v hv
  unfold Ent.cells at hv
  rcases List.mem_cons.1 hv with rfl | hv
  · rfl
  rcases List.mem_cons.1 hv with rfl | hv
  · rfl
  obtain ⟨b, _, rfl⟩ := List.mem_map.1 hv
  rfl
theorem sent_set (x y : Int) (t : List UInt8) (k : Nat) (c : UInt8) : (sent x y (t ++ List.replicate (k + 1) 0)).cells.set (2 + t.length) (.int .u8 (c.toNat : Int)) = (sent x y ((t ++ [c]) ++ List.replicate k 0)).cells := by
  unfold Ent.cells sent
  rw [show 2 + t.length = t.length + 1 + 1 by omega, List.set_cons_succ, List.set_cons_succ, bc_app, bc_app, bc_app, List.replicate_succ]
  have h := bc_len t
  rw [List.set_append_right _ _ (by omega), h, Nat.sub_self]
  simp [bc]
/-- A result cell of many words beside a plain one. -/
theorem results_row_tmp {P : Program} {fn : Func} {p u : Tmp} {ty : TypeId} (h : fn.results = #[.cell p ty, .tmp u]) (tmps : Array Value) (w : World) (g : Nat) (t : TypeId) (cs : Array Value) (fr : Nat × Nat) (d : TypeDesc) (v : Value)
    (hp : tmps.getD p undef = .pointer (some ⟨g, 0, none⟩)) (hv : tmps.getD u undef = v) (hg : w.heap[g]? = some (.cells cs t fr))
    (hu : P.underlying ty = some d) (hd : (match d with | .struct _ | .array _ _ => true | _ => false) = true) (hi : (P.info? ty).map (·.size) = some cs.size) :
    (results fn tmps).run P w = .ok (.tuple #[.agg cs, v]) w := by
  rw [results_cell_tmp h]
  have hp' : tmps[p]?.getD undef = .pointer (some ⟨g, 0, none⟩) := by simpa using hp
  have hv' : tmps[u]?.getD undef = v := by simpa using hv
  simp [hp', hv', asAddr, run_loadVar_row w g t ty cs fr d hg hu hd hi]
/-- Parse's blocks: the result's, the reader's, the entry's. -/
structure SX (w w' : World) (R g E : Nat) (l : List UInt8) (er : Int) (cs : List Value) : Prop where
  row : Row w' R 45 Ent.zero.cells
  low : Below R w w'
  rd : Rd w' g l er
  ent : Row w' E 45 cs
  rg : R < g
  ge : g < E
theorem SX.read {w w1 w2 : World} {R g E : Nat} {l l' : List UInt8} {er er' : Int} {cs : List Value} (h : SX w w1 R g E l er cs) (hg : w1.grownBy w2 (some g)) (hr : Rd w2 g l' er') : SX w w2 R g E l' er' cs :=
  have hE := h.ent.lt
  have h1 := h.rg
  have h2 := h.ge
  ⟨(hg.block R (by omega) (by simp; omega)).trans h.row,
   ⟨hg.os.trans h.low.os, hg.tape.trans h.low.tape, hg.output.trans h.low.output, Nat.le_trans h.low.size hg.size, fun k hk => (hg.block k (by omega) (by simp; omega)).trans (h.low.block k hk)⟩,
   hr, (hg.block E hE (by simp; omega)).trans h.ent, h.rg, h.ge⟩
theorem SX.set {w w1 : World} {R g E : Nat} {l : List UInt8} {er : Int} {cs : List Value} (h : SX w w1 R g E l er cs) (i : Nat) (v : Value) : SX w (w1.setCell ⟨E, i, none⟩ v) R g E l er (cs.set i v) :=
  have hE := h.ent.lt
  have h1 := h.rg
  have h2 := h.ge
  have hg := grow_set1 w1 E i v
  ⟨h.row.other _ _ (by show R ≠ E; omega),
   ⟨hg.os.trans h.low.os, hg.tape.trans h.low.tape, hg.output.trans h.low.output, Nat.le_trans h.low.size hg.size, fun k hk => (hg.block k (by omega) (by simp; omega)).trans (h.low.block k hk)⟩,
   h.rd.grown hg (fun k hk => by injection hk with hk; omega), h.ent.set i v, h.rg, h.ge⟩

set_option maxHeartbeats 1000000 in
theorem slparse_any (A : Option Addr) (n cap : Nat) (l : List UInt8) (w : World) (hs : Shows w w.heap.size A n cap l) (hn : n ≤ 1000000) :
    Calls Tryz.prog 64 #[.slice A n cap] w fun e w' => e = .returned (.tuple #[.agg (parse l).1.cells.toArray, .int .i64 (parse l).2]) ∧ Below w.heap.size w w' := by
  have HS := Lib.hid hs
  clear hs
  go_enter Tryz.func64, Tryz.ntmps64
  go_wp2_with fail
  obtain ⟨R, hR⟩ : ∃ R, w.heap.size = R := ⟨_, rfl⟩
  obtain ⟨W1, hW1⟩ : ∃ W, w.alloc (Obj.cells Ent.zero.cells.toArray 45) = W := ⟨_, rfl⟩
  have hrow1 : Row W1 R 45 Ent.zero.cells := by rw [← hW1, ← hR]; exact Row.new _ _ _
  have hb1 : Below R w W1 := by rw [← hW1, ← hR]; exact (Below.refl _ _).alloc (Nat.le_refl _) _
  have hR1 := hrow1.lt
  have hs1 : Shows W1 W1.heap.size A n cap l := by rw [← hR] at hb1; exact (HS.out.below hb1).more hb1.size
  change Calls _ _ _ (w.alloc (Obj.cells Ent.zero.cells.toArray 45)) _
  have HR := Lib.hid hR
  rw [hW1, hR]
  clear hW1 hR HS
  refine (codenew_any A n cap l W1 hs1 (by omega)).mono ?_
  rintro _ w2 ⟨g, rfl, hr2, hgg, hb2⟩
  have hrow2 := hrow1.below hb2 hR1
  have hB2 : Below R w w2 := hb1.trans (hb2.mono (Nat.le_of_lt hR1))
  have hRg : R < g := by omega
  clear hs1 hb1 hb2 hrow1 hgg hR1
  obtain ⟨S1, v1⟩ := (St.start l).next 8 (by decide)
  have hc := read_Int g l 0 w2 hr2
  generalize rdNum 8 l 0 = q1 at S1 v1 hc
  obtain ⟨x1, l1, e1⟩ := q1
  have HST := Lib.hid (And.intro S1 v1)
  have HC := Lib.hid hc
  have HK := Lib.hid (And.intro hrow2 (And.intro hB2 hRg))
  clear hc S1 v1 hrow2 hB2 hr2 hRg
  go_wp2_with fail
  refine HC.out.mono ?_
  rintro _ w3 ⟨rfl, hr3, hg3⟩
  clear HC
  obtain ⟨S2, v2⟩ := HST.out.1.next 8 (by decide)
  have v1 := HST.out.2
  have hc := read_Int g l1 e1 w3 hr3
  generalize rdNum 8 l1 e1 = q2 at S2 v2 hc
  obtain ⟨x2, l2, e2⟩ := q2
  have HST2 := Lib.hid (And.intro S2 (And.intro v1 v2))
  have HC := Lib.hid hc
  have HG3 := Lib.hid hg3
  clear hc S2 v2 v1 HST hr3 hg3
  go_wp2_with fail
  refine HC.out.mono ?_
  rintro _ w4 ⟨rfl, hr4, hg4⟩
  clear HC
  have hg24 : w2.grownBy w4 (some g) := HG3.out.trans hg4
  have HK4 := Lib.hid (And.intro hr4 hg24)
  clear hr4 hg4 hg24 HG3
  obtain ⟨hz, hz2⟩ := zero_of_info sent_zero_info
  have hb := sent_built x1 x2
  obtain ⟨C1, hC1⟩ : ∃ C, (sent x1 x2 (List.replicate 32 0)).cells = C := ⟨_, rfl⟩
  obtain ⟨Z1, hZ1⟩ : ∃ C, Ent.zero.cells = C := ⟨_, rfl⟩
  have hone := sent_one (sent x1 x2 (List.replicate 32 0))
  have hl1 : C1.length = 34 := by rw [← hC1]; simp [sent, Ent.cells, bc_len]
  have hl2 : Z1.length = 34 := by rw [← hZ1]; simp [Ent.zero, Ent.cells, bc_len]
  rw [hC1] at hb hone
  rw [hZ1] at hz
  have HBU := Lib.hid hb
  have HZ := Lib.hid hz
  have HZ2 := Lib.hid (show (Tryz.prog.info? 45).map (·.size) = some C1.length by rw [hz2, hl1])
  have HZL := Lib.hid (show Z1.length = C1.length by rw [hl1, hl2])
  have HONE := Lib.hid hone
  have HC1 := Lib.hid hC1
  clear hb hz hz2 hone hl1 hl2 hC1 hZ1
  go_wp2_with (first
    | (refine wpList_build_is rfl 45 #[(0, .tmp 11), (1, .tmp 13)] rfl C1.toArray ?_ ?_; (focus (go_simp; exact HBU.out)))
    | (refine wpList_alloc_row rfl 45 rfl Z1 HZ.out ?_))
  intro w5 hrow5 hb5 hsz5
  go_wp2_with (refine wpList_store_as rfl _ _ _ rfl w4.heap.size C1 rfl rfl 45 Z1 hrow5 HZ2.out HZL.out HONE.out ?_)
  intro w6 hrow6 hoth6 hg6 hsz6
  have SX6 : SX w w6 R g w4.heap.size l2 e2 C1 := by
    obtain ⟨k1, k2, k3⟩ := HK.out
    obtain ⟨hr4, hg24⟩ := HK4.out
    have hgl := hr4.lt
    have hRl := k1.lt
    have hs24 := hg24.size
    have b4 : Below R w w4 := ⟨hg24.os.trans k2.os, hg24.tape.trans k2.tape, hg24.output.trans k2.output, Nat.le_trans k2.size hg24.size, fun k hk => (hg24.block k (by omega) (by simp; omega)).trans (k2.block k hk)⟩
    have b5 : Below R w w5 := b4.trans (hb5.mono (by omega))
    have r5 := hr4.grown (below_grow hb5 none) (fun k hk => by cases hk)
    have r6 := r5.grown hg6 (fun k hk => by injection hk with hk; omega)
    exact ⟨(hoth6 R (by omega)).trans ((hb5.block R (by omega)).trans ((hg24.block R (by omega) (by simp; omega)).trans k1)),
      ⟨hg6.os.trans b5.os, hg6.tape.trans b5.tape, hg6.output.trans b5.output, Nat.le_trans b5.size hg6.size, fun k hk => (hg6.block k (by omega) (by simp; omega)).trans (b5.block k hk)⟩,
      r6, hrow6, k3, hgl⟩
  obtain ⟨E, hE⟩ : ∃ E, w4.heap.size = E := ⟨_, rfl⟩
  rw [hE] at SX6 ⊢
  rw [← HC1.out] at SX6
  have HP6 := Lib.hid SX6
  clear hrow5 hb5 hsz5 hrow6 hoth6 hg6 hsz6 hE HBU HZ HZ2 HZL HONE HC1 HK HK4 SX6
  go_wp2_with fail
  go_loopw [15] (fun i wr => ∃ j : Nat, ∃ l3 e3 t, j ≤ 32 ∧ i = .int .i64 j ∧ Hid (SX w wr R g E l3 e3 (sent x1 x2 (t ++ List.replicate (32 - j) 0)).cells ∧ St l (16 + j) l3 e3 ∧ t.length = j ∧ (16 + j ≤ l.length → t = (l.drop 16).take j))) (fun i _ => 32 - (intOf i).toNat)
  case atStart => exact ⟨0, l2, e2, [], by omega, rfl, Lib.hid ⟨HP6.out, HST2.out.1, rfl, fun _ => by simp⟩⟩
  case round =>
    clear HP6
    obtain ⟨j, l3, e3, t, hj, rfl, HP⟩ := hrel
    by_cases hlt : j < 32
    · have hji : (j : Int) < 32 := by omega
      obtain ⟨S3, v3⟩ := HP.out.2.1.next 1 (by decide)
      have hc := read_Byte g l3 e3 wr HP.out.1.rd
      generalize rdNum 1 l3 e3 = q3 at S3 v3 hc
      obtain ⟨x3, l4, e4⟩ := q3
      have HC := Lib.hid hc
      have HS3 := Lib.hid (And.intro S3 v3)
      clear hc S3 v3
      go_wp2_with fail
      refine HC.out.mono ?_
      rintro _ wa ⟨rfl, hra, hga⟩
      have Pa := HP.out.1.read hga hra
      have hlen := HP.out.2.2.1
      obtain ⟨d, hd⟩ : ∃ d, 32 - j = d + 1 := ⟨31 - j, by omega⟩
      rw [hd] at Pa
      have fa := Pa.ent.frozen (2 + j)
      have hold : ∃ v, wa.cell? ⟨E, 2 + j, none⟩ = some v := by
        have hh : (sent x1 x2 (t ++ List.replicate (d + 1) 0)).cells[2 + j]? = some (.int .u8 0) := by
          unfold Ent.cells sent
          rw [show 2 + j = j + 1 + 1 by omega, List.getElem?_cons_succ, List.getElem?_cons_succ, bc_app, List.getElem?_append_right (by rw [bc_len]; omega), bc_len, hlen, Nat.sub_self]
          rfl
        exact ⟨_, Pa.ent.cell hh⟩
      obtain ⟨vo, co⟩ := hold
      have Pb := Pa.set (2 + j) (.int .u8 ((cut8 x3).toNat : Int))
      have hes := sent_set x1 x2 t d (cut8 x3)
      rw [hlen] at hes
      rw [hes] at Pb
      have HPB := Lib.hid Pb
      have hcv := cut8_val x3
      have HL := Lib.hid hlen
      have HD := Lib.hid hd
      clear HC hra hga Pa hes Pb hlen hd
      go_wp2_with fail
      go_roundw
      case rel =>
        refine ⟨j + 1, l4, e4, t ++ [cut8 x3], by omega, by go_num, Lib.hid ⟨?_, ?_, by simp [HL.out], fun hle => ?_⟩⟩
        · have hd2 : 32 - (j + 1) = d := by have := HD.out; omega
          rw [hd2]
          exact HPB.out
        · rw [← Nat.add_assoc]; exact HS3.out.1
        · have h16 : 16 + j < l.length := by omega
          rw [HP.out.2.2.2 (by omega), HS3.out.2 (by omega), cut8_byte l (16 + j) h16, List.take_add_one, List.getElem?_drop, List.getElem?_eq_getElem h16]
          rfl
      case measure => simp [intOf]; omega
    · obtain rfl : j = 32 := by omega
      have hc := codeend_any g l3 e3 wr HP.out.1.rd
      rw [HP.out.2.1.fin] at hc
      have HC := Lib.hid hc
      clear hc
      go_wp2_with fail
      refine HC.out.mono ?_
      rintro _ wb ⟨rfl, rfl⟩
      have Pb := HP.out.1
      rw [Nat.sub_self, List.replicate_zero, List.append_nil] at Pb
      clear HC
      have hr := HP.out.2.2.2
      have hst2 := HST2.out.2
      clear HP HST2
      obtain ⟨zz, hz2⟩ := zero_of_info sent_zero_info
      by_cases h1 : l.length < 48
      · rw [if_pos h1]
        have hpar : (parse l).1.cells = Ent.zero.cells ∧ (parse l).2 = 8 := by unfold parse; rw [if_pos h1]; exact ⟨rfl, rfl⟩
        have HPAR := Lib.hid hpar
        have HPB := Lib.hid (And.intro Pb.row Pb.low)
        clear hpar Pb hr hst2
        have HZB := Lib.hid sent_built0
        obtain ⟨Z0, hZ0⟩ : ∃ C, Ent.zero.cells = C := ⟨_, rfl⟩
        have HZL := Lib.hid (show Z0.length = 34 by rw [← hZ0]; simp [Ent.zero, Ent.cells, bc_len])
        have hone := sent_one Ent.zero
        rw [hZ0] at hone HZB HPB HPAR
        have HONE := Lib.hid hone
        have HI := Lib.hid (show (Tryz.prog.info? 45).map (·.size) = some Z0.length by rw [hz2, HZL.out])
        clear hone hZ0 zz hz2
        go_upto_region 10 with fail
        go_wp2_with (first
          | (refine wpList_build_is rfl 45 #[] rfl Z0.toArray ?_ ?_; (focus (go_simp; exact HZB.out)))
          | (refine wpList_store_as rfl _ _ _ rfl R Z0 rfl rfl 45 Z0 HPB.out.1 HI.out rfl HONE.out ?_))
        intro wc hrowc hothc hgc hszc
        have hlc : Below R w wc := ⟨hgc.os.trans HPB.out.2.os, hgc.tape.trans HPB.out.2.tape, hgc.output.trans HPB.out.2.output, Nat.le_trans HPB.out.2.size hgc.size, fun k hk => (hothc k (by omega)).trans (HPB.out.2.block k hk)⟩
        go_wp2_with fail
        refine bodyPost_ret (v := .tuple #[.agg Z0.toArray, .int .i64 8]) ?_ rfl ⟨by rw [HPAR.out.1, HPAR.out.2], by rw [HR.out]; exact hlc⟩
        exact results_row_tmp (P := Tryz.prog) rfl _ wc R 45 _ (0, 0) _ _ rfl rfl hrowc Tryz.underlying45 rfl (by simpa using HI.out)
      · rw [if_neg h1]
        by_cases h2 : 48 < l.length
        · rw [if_pos h2]
          have hpar : (parse l).1.cells = Ent.zero.cells ∧ (parse l).2 = 9 := by unfold parse; rw [if_neg h1, if_pos h2]; exact ⟨rfl, rfl⟩
          have HPAR := Lib.hid hpar
          have HPB := Lib.hid (And.intro Pb.row Pb.low)
          clear hpar Pb hr hst2
          have HZB := Lib.hid sent_built0
          obtain ⟨Z0, hZ0⟩ : ∃ C, Ent.zero.cells = C := ⟨_, rfl⟩
          have HZL := Lib.hid (show Z0.length = 34 by rw [← hZ0]; simp [Ent.zero, Ent.cells, bc_len])
          have hone := sent_one Ent.zero
          rw [hZ0] at hone HZB HPB HPAR
          have HONE := Lib.hid hone
          have HI := Lib.hid (show (Tryz.prog.info? 45).map (·.size) = some Z0.length by rw [hz2, HZL.out])
          clear hone hZ0 zz hz2
          go_upto_region 10 with fail
          go_wp2_with (first
            | (refine wpList_build_is rfl 45 #[] rfl Z0.toArray ?_ ?_; (focus (go_simp; exact HZB.out)))
            | (refine wpList_store_as rfl _ _ _ rfl R Z0 rfl rfl 45 Z0 HPB.out.1 HI.out rfl HONE.out ?_))
          intro wc hrowc hothc hgc hszc
          have hlc : Below R w wc := ⟨hgc.os.trans HPB.out.2.os, hgc.tape.trans HPB.out.2.tape, hgc.output.trans HPB.out.2.output, Nat.le_trans HPB.out.2.size hgc.size, fun k hk => (hothc k (by omega)).trans (HPB.out.2.block k hk)⟩
          go_wp2_with fail
          refine bodyPost_ret (v := .tuple #[.agg Z0.toArray, .int .i64 9]) ?_ rfl ⟨by rw [HPAR.out.1, HPAR.out.2], by rw [HR.out]; exact hlc⟩
          exact results_row_tmp (P := Tryz.prog) rfl _ wc R 45 _ (0, 0) _ _ rfl rfl hrowc Tryz.underlying45 rfl (by simpa using HI.out)
        · rw [if_neg h2]
          have ht : t = l.drop 16 := by rw [hr (by omega), List.take_of_length_le (by rw [List.length_drop]; omega)]
          have hx1 : x1 = (entOf l).seq := hst2.1 (by omega)
          have hx2 : x2 = (entOf l).slot := hst2.2 (by omega)
          have hent : sent x1 x2 t = entOf l := by rw [hx1, hx2, ht]; rfl
          have hc0 : wr.cell? ⟨E, 0, none⟩ = some (.int .i64 x1) := Pb.ent.cell (j := 0) rfl
          have hc1 : wr.cell? ⟨E, 1, none⟩ = some (.int .i64 x2) := Pb.ent.cell (j := 1) rfl
          by_cases hin : (entOf l).inside
          · have hpar : (parse l).1.cells = (entOf l).cells ∧ (parse l).2 = 0 := by unfold parse; rw [if_neg h1, if_neg h2, if_pos hin]; exact ⟨rfl, rfl⟩
            have HPAR := Lib.hid hpar
            rw [hent] at Pb
            have HPB := Lib.hid (And.intro Pb.row (And.intro Pb.low Pb.ent))
            obtain ⟨n1, n2, n3, n4⟩ := hin
            rw [← hx1] at n1 n2
            rw [← hx2] at n3 n4
            have hone := sent_one (entOf l)
            have hlen : (entOf l).cells.length = 34 := by simp [entOf, Ent.cells, bc_len]; omega
            have hzl : Ent.zero.cells.length = 34 := by simp [Ent.zero, Ent.cells, bc_len]
            obtain ⟨Z0, hZ0⟩ : ∃ C, Ent.zero.cells = C := ⟨_, rfl⟩
            obtain ⟨CE, hCE⟩ : ∃ C, (entOf l).cells = C := ⟨_, rfl⟩
            rw [hZ0] at HPB hzl
            rw [hCE] at HPB hone hlen HPAR
            have HONE := Lib.hid hone
            have HI := Lib.hid (show (Tryz.prog.info? 45).map (·.size) = some CE.length by rw [hz2, hlen])
            have HZL := Lib.hid (show Z0.length = CE.length by rw [hzl, hlen])
            clear hone hZ0 zz hz2 hCE hlen hzl hpar Pb hr hst2 ht hx1 hx2 hent
            go_upto_region 13 with fail
            go_wp2_with (first
              | (refine wpList_load_row rfl 45 _ rfl E rfl 45 CE.toArray (0, 0) _ HPB.out.2.2 Tryz.underlying45 rfl (by simpa using HI.out) ?_)
              | (refine wpList_store_as rfl _ _ _ rfl R CE rfl rfl 45 Z0 HPB.out.1 HI.out HZL.out HONE.out ?_))
            intro wc hrowc hothc hgc hszc
            have hlc : Below R w wc := ⟨hgc.os.trans HPB.out.2.1.os, hgc.tape.trans HPB.out.2.1.tape, hgc.output.trans HPB.out.2.1.output, Nat.le_trans HPB.out.2.1.size hgc.size, fun k hk => (hothc k (by omega)).trans (HPB.out.2.1.block k hk)⟩
            go_wp2_with fail
            refine bodyPost_ret (v := .tuple #[.agg CE.toArray, .int .i64 0]) ?_ rfl ⟨by rw [HPAR.out.1, HPAR.out.2], by rw [HR.out]; exact hlc⟩
            exact results_row_tmp (P := Tryz.prog) rfl _ wc R 45 _ (0, 0) _ _ rfl rfl hrowc Tryz.underlying45 rfl (by simpa using HI.out)
          · have hpar : (parse l).1.cells = Ent.zero.cells ∧ (parse l).2 = 10 := by unfold parse; rw [if_neg h1, if_neg h2, if_neg hin]; exact ⟨rfl, rfl⟩
            have hbad : (decide (x1 < 1) || decide (1073741824 < x1) || decide (x2 < 0) || decide (2 < x2)) = true := by
              unfold Ent.inside at hin
              rw [← hx1, ← hx2] at hin
              simp only [Bool.or_eq_true, decide_eq_true_eq]
              omega
            clear ht hx1 hx2 hent hin
            have HPAR := Lib.hid hpar
            have HPB := Lib.hid (And.intro Pb.row Pb.low)
            clear hpar Pb hr hst2
            have HZB := Lib.hid sent_built0
            obtain ⟨Z0, hZ0⟩ : ∃ C, Ent.zero.cells = C := ⟨_, rfl⟩
            have HZL := Lib.hid (show Z0.length = 34 by rw [← hZ0]; simp [Ent.zero, Ent.cells, bc_len])
            have hone := sent_one Ent.zero
            rw [hZ0] at hone HZB HPB HPAR
            have HONE := Lib.hid hone
            have HI := Lib.hid (show (Tryz.prog.info? 45).map (·.size) = some Z0.length by rw [hz2, HZL.out])
            clear hone hZ0 zz hz2
            go_upto_region 12 with fail
            all_goals (
              go_wp2_with (first
                | (refine wpList_build_is rfl 45 #[] rfl Z0.toArray ?_ ?_; (focus (go_simp; exact HZB.out)))
                | (refine wpList_store_as rfl _ _ _ rfl R Z0 rfl rfl 45 Z0 HPB.out.1 HI.out rfl HONE.out ?_))
              intro wc hrowc hothc hgc hszc
              have hlc : Below R w wc := ⟨hgc.os.trans HPB.out.2.os, hgc.tape.trans HPB.out.2.tape, hgc.output.trans HPB.out.2.output, Nat.le_trans HPB.out.2.size hgc.size, fun k hk => (hothc k (by omega)).trans (HPB.out.2.block k hk)⟩
              go_wp2_with fail
              refine bodyPost_ret (v := .tuple #[.agg Z0.toArray, .int .i64 10]) ?_ rfl ⟨by rw [HPAR.out.1, HPAR.out.2], by rw [HR.out]; exact hlc⟩
              exact results_row_tmp (P := Tryz.prog) rfl _ wc R 45 _ (0, 0) _ _ rfl rfl hrowc Tryz.underlying45 rfl (by simpa using HI.out))
end Go.Proofs.YtmebdnblobobnaaGreatDoor
