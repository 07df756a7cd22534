/- Chapter 6: the entries of a sector (the document's own function). -/
import Derived.Test.YtmebdnblobobnaaGreatDoorRef6Parse
import Derived.Test.YtmebdnblobobnaaGreatDoorEntRows
import Derived.Test.YtmebdnblobobnaaGreatDoorKRefRec
import Derived.Deep.Cut
import Derived.Great.BuildSlice
namespace Go.Proofs.YtmebdnblobobnaaGreatDoor
set_option maxRecDepth 100000
open Go.RowKit _root_.Go.Proofs.YtmebdnblobobnaaGreatDoor.Wd _root_.Go.Proofs.YtmebdnblobobnaaGreatDoor.Nm _root_.Go.Proofs.YtmebdnblobobnaaGreatDoor.Cm _root_.Go.Proofs.YtmebdnblobobnaaGreatDoor.Fm

/-- A slice of entries, of the call's own. -/
structure OwnEnts (w : World) (base : Nat) (A : Option Addr) (n cap : Nat) (es : List Ent) : Prop where
  own : w.ownsRow base 49 34 (.slice A n cap) n (es.flatMap Ent.cells)
  len : es.length = n
  sum : ∀ e ∈ es, e.sum.length = 32

set_option maxHeartbeats 2000000 in
theorem xentries_any (x : Nat) (m : Mem) (s : Int) (w : World) (h : Rf w x m) :
    Calls Tryz.prog 41 #[.pointer (some ⟨x, 0, none⟩), .int .i64 s] w fun e w' => ∃ A n cap, e = .returned (.slice A n cap) ∧ OwnEnts w' w.heap.size A n cap (entsOf (loadM (readM m s)).1) ∧ Below w.heap.size w w' := by
  have hl := xload_any x m s w h
  have hcount := load_count (readM m s)
  have hsmall := load_small (readM m s)
  obtain ⟨F, hF⟩ : ∃ F, (loadM (readM m s)).2 = F := ⟨_, rfl⟩
  obtain ⟨rows, hrows⟩ : ∃ rows, (loadM (readM m s)).1 = rows := ⟨_, rfl⟩
  rw [hF, hrows] at hl
  rw [hrows] at hcount hsmall ⊢
  clear hF hrows h
  obtain ⟨i0, hi0, hz0, hz1, hz2⟩ := info_parts (show (Tryz.prog.info? 49).map (fun i => (i.zero, i.size, i.bytes)) = some (some (.agg Ent.zero.cells.toArray), 34, 48) by kernel_rfl)
  have HL := Lib.hid hl
  clear hl
  go_enter Tryz.func41, Tryz.ntmps41
  go_wp2_with fail
  refine HL.out.mono ?_
  rintro _ w1 ⟨A, n, cap, ps, rfl, hp, hps, hb1⟩
  have hn := hp.len
  have hrl : rows.length = n := by rw [← hps, List.length_map, hn]
  have hn64 : n ≤ 64 := by omega
  have HP := Lib.hid (And.intro hp (And.intro hps (And.intro hb1 hrl)))
  have HS := Lib.hid hsmall
  clear HL hp hps hb1 hn hsmall hcount
  go_wp2_with fail
  go_loopw [5, 8] (fun b i wr => ∃ j : Nat, ∃ A2 k cap2, j ≤ n ∧ k ≤ j ∧ i = .int .i64 j ∧ b = .slice A2 k cap2 ∧ Hid (OwnEnts wr w.heap.size A2 k cap2 (entsOf (rows.take j)) ∧ OwnParts wr w.heap.size A n cap ps ∧ Below w.heap.size w wr)) (fun _ i _ => n - (intOf i).toNat)
  case atStart => exact ⟨0, none, 0, 0, by omega, by omega, rfl, rfl, Lib.hid ⟨⟨World.ownsRow_nil _ _ _ _, rfl, fun e he => by cases he⟩, HP.out.1, HP.out.2.2.1⟩⟩
  case round =>
    obtain ⟨j, A2, k, cap2, hj, hkj, rfl, rfl, HJ⟩ := hrel
    by_cases hlt : j < n
    · have hji : (j : Int) < (n : Int) := by omega
      have hjl : j < ps.length := by have := HJ.out.2.1.len; omega
      obtain ⟨G, o, rfl, hG, hc⟩ := HJ.out.2.1.laid.spot (by omega)
      have hcj := hc j hjl
      have hok := HJ.out.2.1.each _ (List.getElem_mem hjl)
      obtain ⟨p, hp⟩ : ∃ p, ps[j] = p := ⟨_, rfl⟩
      rw [hp] at hcj hok
      obtain ⟨pA, pn, pc, pl⟩ := p
      simp only at hcj
      have hrj : rows[j]'(by rw [HP.out.2.2.2]; exact hlt) = pl := by
        have := HP.out.2.1
        subst this
        rw [List.getElem_map, hp]
      have hpl := hok.shows.len
      have hpn : pn ≤ 1000000 := by
        have := HS.out pl (by rw [← hrj]; exact List.getElem_mem _)
        simp only at hpl
        omega
      have hpar := xparse6_any pA pn pc pl wr hok.shows hpn
      have HT := Lib.hid (entsOf_take rows j (by rw [HP.out.2.2.2]; exact hlt))
      rw [hrj] at HT
      have HSUM := Lib.hid (parse_sum pl)
      generalize parse pl = q at HT hpar HSUM
      obtain ⟨e, er⟩ := q
      have HPAR := Lib.hid hpar
      clear hpar hc hok hpl
      go_wp2_with fail
      refine HPAR.out.mono ?_
      rintro _ w2 ⟨rfl, hb2⟩
      have KJ := Lib.hid (show w2.ownsRow w.heap.size 49 34 (.slice A2 k cap2) k ((entsOf (rows.take j)).flatMap Ent.cells) ∧ OwnParts w2 w.heap.size (some ⟨G, o, none⟩) n cap ps ∧ Below w.heap.size w w2 from
        ⟨HJ.out.1.own.kept (below_grow hb2 none) (by cases h : (Value.slice A2 k cap2).ownBlock <;> simp), HJ.out.2.1.below hb2, step_below HJ.out.2.2 hb2⟩)
      clear HPAR hb2
      obtain ⟨zz, hzz⟩ := zero_of_info ent_zero_info
      have hone := ent_one e
      have hclen : e.cells.length = 34 := by simp [Ent.cells, bc_len, HSUM.out]
      have hzl : Ent.zero.cells.length = 34 := by simp [Ent.zero, Ent.cells, bc_len]
      obtain ⟨Z0, hZ0⟩ : ∃ C, Ent.zero.cells = C := ⟨_, rfl⟩
      obtain ⟨CE, hCE⟩ : ∃ C, e.cells = C := ⟨_, rfl⟩
      rw [hZ0] at hzl zz
      rw [hCE] at hone hclen
      rw [hCE]
      have HZ := Lib.hid zz
      have HONE := Lib.hid hone
      have HI := Lib.hid (show (Tryz.prog.info? 49).map (·.size) = some CE.length by rw [hzz, hclen])
      have HZL := Lib.hid (show Z0.length = CE.length by rw [hzl, hclen])
      have HCE := Lib.hid (And.intro hCE hclen)
      clear hone hZ0 zz hzz hCE hclen hzl
      go_wp2_with (first
        | (refine wpList_alloc_row rfl 49 rfl Z0 HZ.out ?_))
      intro w3 hrow3 hb3 hsz3
      go_wp2_with (refine wpList_store_as rfl _ _ _ rfl w2.heap.size CE rfl rfl 49 Z0 hrow3 HI.out HZL.out HONE.out ?_)
      intro w4 hrow4 hoth4 hg4 hsz4
      have hb4 : Below w2.heap.size w2 w4 := ⟨hg4.os.trans hb3.os, hg4.tape.trans hb3.tape, hg4.output.trans hb3.output, Nat.le_trans hb3.size hg4.size, fun q hq => (hoth4 q (by omega)).trans (hb3.block q hq)⟩
      have K4 := Lib.hid (show w4.ownsRow w.heap.size 49 34 (.slice A2 k cap2) k ((entsOf (rows.take j)).flatMap Ent.cells) ∧ OwnParts w4 w.heap.size (some ⟨G, o, none⟩) n cap ps ∧ Below w.heap.size w w4 ∧ Row w4 w2.heap.size 49 CE from
        ⟨KJ.out.1.kept (below_grow hb4 none) (by cases h : (Value.slice A2 k cap2).ownBlock <;> simp), KJ.out.2.1.below hb4, step_below KJ.out.2.2 hb4, hrow4⟩)
      obtain ⟨E, hE⟩ : ∃ E, w2.heap.size = E := ⟨_, rfl⟩
      rw [hE] at K4 ⊢
      clear hrow3 hb3 hsz3 hrow4 hoth4 hg4 hsz4 hb4 hE KJ HZ HZL
      by_cases her : er = 0
      · subst her
        rw [if_pos rfl] at HT
        have HI2 := Lib.hid (show (Tryz.prog.info? 49).map (·.size) = some CE.toArray.size by rw [HI.out]; simp)
        go_upto_region 8 with fail
        have hfill : Instr.fill (fun i => some (i * i0.size, i0.size)) ((Array.range (1 * i0.size)).map ((Value.agg Ent.zero.cells.toArray).cells[· % (Value.agg Ent.zero.cells.toArray).cells.size]!)) [(0, .agg CE.toArray)] = some CE.toArray := by
          rw [hz1]
          have hf := Great.fill_whole (s := 34) (by decide) [.agg CE.toArray] ((Array.range (1 * 34)).map ((Value.agg Ent.zero.cells.toArray).cells[· % (Value.agg Ent.zero.cells.toArray).cells.size]!)) (by intro v hv; simp only [List.mem_singleton] at hv; subst hv; simpa [Value.cells] using HCE.out.2) (by simp)
          have e1 : ([Value.agg CE.toArray].zipIdx 0).map (fun x => (x.2, x.1)) = [(0, .agg CE.toArray)] := rfl
          simpa [Value.cells] using hf
        have HF := Lib.hid hfill
        clear hfill
        have HOWN := Lib.hid (K4.out.1.alloc (.cells CE.toArray 49))
        have HZS := Lib.hid (show (Value.agg Ent.zero.cells.toArray).cells.size = 34 by simp [Value.cells, Ent.zero, Ent.cells, bc_len])
        have HNL := Lib.hid (show CE.length = 1 * 34 by rw [HCE.out.2])
        go_wp2_with (first
          | (refine wpList_load_row rfl 49 _ rfl E rfl 49 CE.toArray (0, 0) _ K4.out.2.2.2 Tryz.underlying49 rfl HI2.out (wpList_buildSlice rfl 80 49 1 #[(0, .tmp 34)] rfl CE.toArray i0 _ Tryz.underlying80 hi0 hz0 (by rw [hz1]; decide) (by rw [hz1]; decide) ((congrArg (Instr.fill (fun i => some (i * i0.size, i0.size)) _) ((Array.toList_map ..).trans rfl)).trans HF.out) ?_))
          | (at_builtin; refine wpList_append_own _ rfl (.tmp 33) (.tmp 35) 80 rfl w.heap.size 49 i0 (.agg Ent.zero.cells.toArray) 34 48 Tryz.underlying80 hi0 hz0 hz1 hz2 HZS.out (by decide) _ _ _ rfl HOWN.out ⟨w4.heap.size, 0, none⟩ 1 1 CE rfl HNL.out ?c1 HONE.out ?c3 ?c4 ?c5 ?_))
        case c1 =>
          intro y u hu
          rw [Addr.add_lit, Nat.zero_add]
          exact (Row.new w4 49 CE).cell hu
        case c3 => unfold maxLen; omega
        case c4 => omega
        case c5 => exact Nat.le_trans K4.out.2.2.1.size (by simp)
        intro v' w5 hown5 hg5 _
        obtain ⟨A5, cap5, rfl⟩ := own_slice hown5
        have hb5 : Below w.heap.size w w5 := (below_new K4.out.2.2.1 (.cells CE.toArray 49)).grown hg5 (Nat.le_trans K4.out.2.2.1.size (by simp)) (fun q hq => (K4.out.1.lt q hq).1)
        have hp5 : OwnParts w5 w.heap.size (some ⟨G, o, none⟩) n cap ps := by
          refine (K4.out.2.1.below (below_new (Below.refl _ _) (.cells CE.toArray 49))).kept hg5 (fun q cs T hq hT hh => ?_)
          rcases HOWN.out.2 with ⟨h', _⟩ | ⟨g', cap', cur, h', _, hgg, _⟩
          · rw [h'] at hq; cases hq
          · rw [h'] at hq
            injection hq with hq
            simp only at hq
            subst hq
            rw [hgg] at hh
            injection hh with hh
            injection hh with _ h2 _
            rcases hT with rfl | rfl <;> exact absurd h2 (by decide)
        have he5 : OwnEnts w5 w.heap.size A5 (k + 1) cap5 (entsOf (rows.take (j + 1))) := by
          rw [HT.out]
          refine ⟨?_, by rw [List.length_append, HJ.out.1.len]; rfl, fun y hy => ?_⟩
          · rw [List.flatMap_append]
            have : List.flatMap Ent.cells [e] = CE := by simp [HCE.out.1]
            rw [this]
            exact hown5
          · rcases List.mem_append.1 hy with h1 | h1
            · exact HJ.out.1.sum y h1
            · simp only [List.mem_singleton] at h1
              rw [h1]; exact HSUM.out
        have H5 := Lib.hid (And.intro he5 (And.intro hp5 hb5))
        clear hown5 hg5 hb5 hp5 he5 HOWN K4
        go_wp2_with fail
        go_roundw
        case rel => exact ⟨j + 1, A5, k + 1, cap5, by omega, by omega, by go_num, rfl, H5⟩
        case measure => simp [intOf]; omega
      · have hbe : (er == 0) = false := by simpa using her
        rw [if_neg her, List.append_nil] at HT
        go_wp2_with fail
        go_roundw
        case rel => exact ⟨j + 1, A2, k, cap2, by omega, by omega, by go_num, rfl, Lib.hid ⟨⟨by rw [HT.out]; exact K4.out.1, by rw [HT.out]; exact HJ.out.1.len, by rw [HT.out]; exact HJ.out.1.sum⟩, K4.out.2.1, K4.out.2.2.1⟩⟩
        case measure => simp [intOf]; omega
    · have hjn : j = n := by omega
      subst hjn
      have hall : rows.take j = rows := List.take_of_length_le (by omega)
      rw [hall] at HJ
      go_wp2
      go_ret
      exact ⟨A2, k, cap2, rfl, HJ.out.1, HJ.out.2.2⟩
end Go.Proofs.YtmebdnblobobnaaGreatDoor
