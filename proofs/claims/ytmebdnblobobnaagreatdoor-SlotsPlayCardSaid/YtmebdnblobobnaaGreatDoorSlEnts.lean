/- Chapter 6: all entries of a memory, in their places (the program's own function). -/
import Derived.Test.YtmebdnblobobnaaGreatDoorSlParse
import Derived.Test.YtmebdnblobobnaaGreatDoorSlotMath
import Derived.Test.YtmebdnblobobnaaGreatDoorKFlash
import Derived.Deep.Cut
import Derived.Great.BuildSlice
namespace Go.Proofs.YtmebdnblobobnaaGreatDoor
set_option maxRecDepth 100000
open Go.RowKit _root_.Go.Proofs.YtmebdnblobobnaaGreatDoor.Wd _root_.Go.Proofs.YtmebdnblobobnaaGreatDoor.Nm _root_.Go.Proofs.YtmebdnblobobnaaGreatDoor.Cm _root_.Go.Proofs.YtmebdnblobobnaaGreatDoor.Fm

theorem of_fn32 (l : List UInt8) (h : l.length = 32) : ∃ f : Fin 32 → UInt8, l = List.ofFn f := by
  refine ⟨fun i => l[i.val]'(by omega), ?_⟩
  apply List.ext_getElem
  · rw [List.length_ofFn, h]
  · intro i h1 h2
    rw [List.getElem_ofFn]
theorem pl_built (e : Ent) (h : e.sum.length = 32) (s k : Int) : Tryz.prog.built 75 [(0, .agg e.cells.toArray), (1, .int .i64 s), (2, .int .i64 k)] = some (e.cells ++ [Value.int .i64 s, Value.int .i64 k]).toArray := by
  obtain ⟨q, t, l⟩ := e
  obtain ⟨f, rfl⟩ := of_fn32 l h
  clear h
  kernel_rfl
theorem pl_info : (Tryz.prog.info? 75).map (fun i => (i.zero, i.size, i.bytes)) = some (some (.agg Pl.zero.cells.toArray), 36, 64) := by kernel_rfl

/-- A slice of entries in their places, of the call's own. -/
structure OwnPl (w : World) (base : Nat) (A : Option Addr) (n cap : Nat) (ps : List Pl) : Prop where
  own : w.ownsRow base 75 36 (.slice A n cap) n (ps.flatMap Pl.cells)
  len : ps.length = n
  sum : ∀ p ∈ ps, p.e.sum.length = 32
theorem OwnPl.nil (w : World) (base : Nat) : OwnPl w base none 0 0 [] := ⟨World.ownsRow_nil _ _ _ _, rfl, fun e he => by cases he⟩
theorem OwnPl.below {w w' : World} {base : Nat} {A : Option Addr} {n cap : Nat} {ps : List Pl} (h : OwnPl w base A n cap ps) (hb : Below w.heap.size w w') : OwnPl w' base A n cap ps :=
  ⟨h.own.kept (below_grow hb none) (by cases h : (Value.slice A n cap).ownBlock <;> simp), h.len, h.sum⟩

/-- The entries of the first k sectors. -/
def plUp (m : Mem) : Nat → List Pl
  | 0 => []
  | k + 1 => plUp m k ++ plOf k (rowsM m k)
theorem plUp_two (m : Mem) : plUp m 2 = plM m := rfl
theorem plUp_len (m : Mem) (k : Nat) (h : k ≤ 2) : (plUp m k).length ≤ 128 := by
  have h0 := load_count (readM m ((0 : Nat) : Int))
  have h1 := load_count (readM m ((1 : Nat) : Int))
  have h2 := plFrom_len 0 (rowsM m ((0 : Nat) : Int)) 0
  have h3 := plFrom_len 1 (rowsM m ((1 : Nat) : Int)) 0
  unfold rowsM at h2 h3
  match k, h with
  | 0, _ => exact Nat.zero_le _
  | 1, _ => show ([] ++ plFrom 0 0 (loadM (readM m ((0 : Nat) : Int))).1).length ≤ 128; rw [List.nil_append]; omega
  | 2, _ => show (([] ++ plFrom 0 0 (loadM (readM m ((0 : Nat) : Int))).1) ++ plFrom 1 0 (loadM (readM m ((1 : Nat) : Int))).1).length ≤ 128; rw [List.nil_append, List.length_append]; omega

set_option maxHeartbeats 4000000 in
theorem entries_any (x : Nat) (m : Mem) (w : World) (h : Fl w x m) :
    Calls Tryz.prog 37 #[.pointer (some ⟨x, 0, none⟩)] w fun e w' => ∃ A n cap, e = .returned (.slice A n cap) ∧ OwnPl w' w.heap.size A n cap (plM m) ∧ Below w.heap.size w w' := by
  have H := Lib.hid h
  clear h
  obtain ⟨i0, hi0, hz0, hz1, hz2⟩ := info_parts pl_info
  go_enter Tryz.func37, Tryz.ntmps37
  go_wp2_with fail
  go_loopw [3, 11] (fun b i wr => ∃ s : Nat, ∃ A2 k cap2, s ≤ 2 ∧ k ≤ 128 ∧ i = .int .i64 s ∧ b = .slice A2 k cap2 ∧ Hid (OwnPl wr w.heap.size A2 k cap2 (plUp m s) ∧ Below w.heap.size w wr)) (fun _ i _ => 2 - (intOf i).toNat)
  case atStart => exact ⟨0, none, 0, 0, by omega, by omega, rfl, rfl, Lib.hid ⟨OwnPl.nil _ _, Below.refl _ _⟩⟩
  case round =>
    obtain ⟨s, A0, k0, cap0, hs, hk0, rfl, rfl, HO⟩ := hrel
    by_cases hs2 : s < 2
    · have hsi : (s : Int) < 2 := by omega
      have hl := load_any x m s wr (H.out.below HO.out.2)
      have hcount := load_count (readM m s)
      have hsmall := load_small (readM m s)
      have hup : plUp m (s + 1) = plUp m s ++ plOf s (rowsM m s) := rfl
      have hupl := plUp_len m (s + 1) (by omega)
      unfold rowsM at hup
      obtain ⟨F, hF⟩ : ∃ F, (loadM (readM m s)).2 = F := ⟨_, rfl⟩
      obtain ⟨rows, hrows⟩ : ∃ rows, (loadM (readM m s)).1 = rows := ⟨_, rfl⟩
      rw [hF, hrows] at hl
      rw [hrows] at hcount hsmall hup
      obtain ⟨P0, hP0⟩ : ∃ P, plUp m s = P := ⟨_, rfl⟩
      obtain ⟨P1, hP1⟩ : ∃ P, plUp m (s + 1) = P := ⟨_, rfl⟩
      rw [hP0] at HO hup
      rw [hP1] at hup hupl
      have HL := Lib.hid hl
      have HUP := Lib.hid (And.intro hup (And.intro hupl hP1))
      have HS := Lib.hid (And.intro hsmall hcount)
      clear hl hF hrows hup hupl hP0 hP1 hsmall hcount
      go_wp2_with fail
      refine HL.out.mono ?_
      rintro _ w1 ⟨A, n, cap, ps, rfl, hp, hps, hb1⟩
      have hn := hp.len
      have hrl : rows.length = n := by rw [← hps, List.length_map, hn]
      have hn64 : n ≤ 64 := by have := HS.out.2; omega
      obtain ⟨B1, hB1⟩ : ∃ B, wr.heap.size = B := ⟨_, rfl⟩
      have hp' := hp
      rw [hB1] at hp'
      have HP := Lib.hid (And.intro hp' (And.intro hps hrl))
      have HO1 := Lib.hid (And.intro (HO.out.1.below hb1) (step_below HO.out.2 hb1))
      clear HL hp hp' hB1 hps hb1 hn hrl HO
      go_wp2_with fail
      go_loopw [3, 22] (fun b i wr2 => ∃ j : Nat, ∃ A2 k cap2, j ≤ n ∧ k ≤ k0 + j ∧ i = .int .i64 j ∧ b = .slice A2 k cap2 ∧ Hid (OwnPl wr2 w.heap.size A2 k cap2 (P0 ++ plOf s (rows.take j)) ∧ OwnParts wr2 B1 A n cap ps ∧ Below w.heap.size w wr2)) (fun _ i _ => n - (intOf i).toNat)
      case atStart => exact ⟨0, A0, k0, cap0, by omega, by omega, rfl, rfl, Lib.hid ⟨by rw [List.take_zero, show plOf s [] = [] from rfl, List.append_nil]; exact HO1.out.1, HP.out.1, HO1.out.2⟩⟩
      case round =>
        obtain ⟨j, A2, k, cap2, hj, hkj, rfl, rfl, HJ⟩ := hrel
        by_cases hlt : j < n
        · have hji : (j : Int) < (n : Int) := by omega
          have hjl : j < ps.length := by have := HJ.out.2.1.len; omega
          obtain ⟨G, o, rfl, hG, hc⟩ := HJ.out.2.1.laid.spot (by omega)
          have hcj := hc j hjl
          have hok := HJ.out.2.1.each _ (List.getElem_mem hjl)
          obtain ⟨p, hp⟩ : ∃ p, ps[j] = p := ⟨_, rfl⟩
          rw [hp] at hcj hok
          obtain ⟨pA, pn, pc, pl⟩ := p
          simp only at hcj
          have hrj : rows[j]'(by rw [HP.out.2.2]; exact hlt) = pl := by
            have := HP.out.2.1
            subst this
            rw [List.getElem_map, hp]
          have hpl := hok.shows.len
          have hpn : pn ≤ 1000000 := by
            have := HS.out.1 pl (by rw [← hrj]; exact List.getElem_mem _)
            simp only at hpl
            omega
          have hpar := slparse_any pA pn pc pl wr hok.shows hpn
          have HT := Lib.hid (plOf_take s rows j (by rw [HP.out.2.2]; exact hlt))
          rw [hrj] at HT
          have HSUM := Lib.hid (parse_sum pl)
          generalize parse pl = q at HT hpar HSUM
          obtain ⟨e, er⟩ := q
          have HPAR := Lib.hid hpar
          clear hpar hc hok hpl
          go_wp2_with fail
          refine HPAR.out.mono ?_
          rintro _ w2 ⟨rfl, hb2⟩
          have KJ := Lib.hid (And.intro (HJ.out.1.below hb2) (And.intro (HJ.out.2.1.below hb2) (step_below HJ.out.2.2 hb2)))
          clear HPAR hb2
          obtain ⟨zz, hzz⟩ := zero_of_info sent_zero_info
          have hone := sent_one e
          have hclen : e.cells.length = 34 := by simp [Ent.cells, bc_len, HSUM.out]
          have hzl : Ent.zero.cells.length = 34 := by simp [Ent.zero, Ent.cells, bc_len]
          have hbu := pl_built e HSUM.out s j
          have hpc : (⟨e, s, j⟩ : Pl).cells = e.cells ++ [Value.int .i64 s, Value.int .i64 j] := rfl
          have hpone := Pl.one ⟨e, s, j⟩
          have hplen := Pl.cells_len ⟨e, s, j⟩ HSUM.out
          rw [← hpc] at hbu
          obtain ⟨Z0, hZ0⟩ : ∃ C, Ent.zero.cells = C := ⟨_, rfl⟩
          obtain ⟨CE, hCE⟩ : ∃ C, e.cells = C := ⟨_, rfl⟩
          obtain ⟨CP, hCP⟩ : ∃ C, (⟨e, s, j⟩ : Pl).cells = C := ⟨_, rfl⟩
          rw [hZ0] at hzl zz
          rw [hCE] at hone hclen hbu
          rw [hCP] at hbu hpone hplen
          rw [hCE]
          have HZ := Lib.hid zz
          have HONE := Lib.hid hone
          have HI := Lib.hid (show (Tryz.prog.info? 45).map (·.size) = some CE.length by rw [hzz, hclen])
          have HZL := Lib.hid (show Z0.length = CE.length by rw [hzl, hclen])
          have HCE := Lib.hid (And.intro hclen (And.intro hbu (And.intro hpone (And.intro hplen hCP))))
          clear hone hZ0 zz hzz hCE hclen hzl hbu hpc hpone hplen hCP
          go_wp2_with (first
            | (refine wpList_alloc_row rfl 45 rfl Z0 HZ.out ?_))
          intro w3 hrow3 hb3 hsz3
          go_wp2_with (refine wpList_store_as rfl _ _ _ rfl w2.heap.size CE rfl rfl 45 Z0 hrow3 HI.out HZL.out HONE.out ?_)
          intro w4 hrow4 hoth4 hg4 hsz4
          have hb4 : Below w2.heap.size w2 w4 := ⟨hg4.os.trans hb3.os, hg4.tape.trans hb3.tape, hg4.output.trans hb3.output, Nat.le_trans hb3.size hg4.size, fun q hq => (hoth4 q (by omega)).trans (hb3.block q hq)⟩
          have K4 := Lib.hid (And.intro (KJ.out.1.below hb4) (And.intro (KJ.out.2.1.below hb4) (And.intro (step_below KJ.out.2.2 hb4) hrow4)))
          obtain ⟨E, hE⟩ : ∃ E, w2.heap.size = E := ⟨_, rfl⟩
          rw [hE] at K4 ⊢
          clear hrow3 hb3 hsz3 hrow4 hoth4 hg4 hsz4 hb4 hE KJ HZ HZL
          by_cases her : er = 0
          · subst her
            rw [if_pos rfl] at HT
            have HI2 := Lib.hid (show (Tryz.prog.info? 45).map (·.size) = some CE.toArray.size by rw [HI.out]; simp)
            go_upto_region 11 with fail
            have HOWN := Lib.hid (K4.out.1.own.alloc (.cells CP.toArray 75))
            have HZS := Lib.hid (show (Value.agg Pl.zero.cells.toArray).cells.size = 36 by simp [Value.cells, Pl.zero, Pl.cells, Ent.zero, Ent.cells, bc_len])
            have HNL := Lib.hid (show CP.length = 1 * 36 by rw [HCE.out.2.2.2.1])
            have HB := Lib.hid HCE.out.2.1
            have HL36 := Lib.hid (show CP.length = i0.size by rw [hz1, HCE.out.2.2.2.1])
            go_wp2_with (first
              | (refine wpList_load_row rfl 45 _ rfl E rfl 45 CE.toArray (0, 0) _ K4.out.2.2.2 Tryz.underlying45 rfl HI2.out ?_)
              | (refine wpList_build_is rfl 75 #[(0, .tmp 35), (1, .tmp 36), (2, .tmp 37)] rfl CP.toArray ?_ ?_; (focus (go_simp; exact HB.out)))
              | (refine wpList_slice_one rfl 77 75 (.tmp 38) rfl i0 _ Tryz.underlying77 hi0 hz0 CP HL36.out (by rw [hz1]; decide) (by rw [hz1]; decide) rfl ?_)
              | (at_builtin; refine wpList_append_own _ rfl (.tmp 34) (.tmp 39) 77 rfl w.heap.size 75 i0 (.agg Pl.zero.cells.toArray) 36 64 Tryz.underlying77 hi0 hz0 hz1 hz2 HZS.out (by decide) _ _ _ rfl HOWN.out ⟨w4.heap.size, 0, none⟩ 1 1 CP rfl HNL.out ?c1 HCE.out.2.2.1 ?c3 ?c4 ?c5 ?_))
            case c1 =>
              intro y u hu
              rw [Addr.add_lit, Nat.zero_add]
              exact (Row.new w4 75 CP).cell hu
            case c3 => unfold maxLen; omega
            case c4 => omega
            case c5 => exact Nat.le_trans K4.out.2.2.1.size (by simp)
            intro v' w5 hown5 hg5 _
            obtain ⟨A5, cap5, rfl⟩ := own_slice hown5
            have hb5 : Below w.heap.size w w5 := (below_new K4.out.2.2.1 (.cells CP.toArray 75)).grown hg5 (Nat.le_trans K4.out.2.2.1.size (by simp)) (fun q hq => (K4.out.1.own.lt q hq).1)
            have hp5 : OwnParts w5 B1 (some ⟨G, o, none⟩) n cap ps := by
              refine (K4.out.2.1.below (below_new (Below.refl _ _) (.cells CP.toArray 75))).kept hg5 (fun q cs T hq hT hh => ?_)
              rcases HOWN.out.2 with ⟨h', _⟩ | ⟨g', cap', cur, h', _, hgg, _⟩
              · rw [h'] at hq; cases hq
              · rw [h'] at hq
                injection hq with hq
                simp only at hq
                subst hq
                rw [hgg] at hh
                injection hh with hh
                injection hh with _ h2 _
                rcases hT with rfl | rfl <;> exact absurd h2 (by decide)
            have he5 : OwnPl w5 w.heap.size A5 (k + 1) cap5 (P0 ++ plOf s (rows.take (j + 1))) := by
              rw [HT.out, ← List.append_assoc]
              refine ⟨?_, by rw [List.length_append, HJ.out.1.len]; rfl, fun y hy => ?_⟩
              · rw [List.flatMap_append, List.flatMap_append, List.append_assoc]
                have : List.flatMap Pl.cells [(⟨e, s, j⟩ : Pl)] = CP := by rw [← HCE.out.2.2.2.2]; simp
                rw [this]
                exact hown5
              · rcases List.mem_append.1 hy with h1 | h1
                · exact HJ.out.1.sum y h1
                · simp only [List.mem_singleton] at h1
                  rw [h1]; exact HSUM.out
            have H5 := Lib.hid (And.intro he5 (And.intro hp5 hb5))
            clear hown5 hg5 hb5 hp5 he5 HOWN K4
            go_wp2_with fail
            go_roundw
            case rel => exact ⟨j + 1, A5, k + 1, cap5, by omega, by omega, by go_num, rfl, H5⟩
            case measure => simp [intOf]; omega
          · have hbe : (er == 0) = false := by simpa using her
            rw [if_neg her, List.append_nil] at HT
            go_wp2_with fail
            go_roundw
            case rel => exact ⟨j + 1, A2, k, cap2, by omega, by omega, by go_num, rfl, Lib.hid ⟨by rw [HT.out]; exact K4.out.1, K4.out.2.1, K4.out.2.2.1⟩⟩
            case measure => simp [intOf]; omega
        · have hjn : j = n := by omega
          subst hjn
          have hall : rows.take j = rows := List.take_of_length_le (by rw [HP.out.2.2]; exact Nat.le_refl _)
          rw [hall, ← HUP.out.1, ← HUP.out.2.2] at HJ
          have hk128 : k ≤ 128 := by have := HUP.out.2.1; rw [← HUP.out.2.2, HJ.out.1.len] at this; exact this
          go_wp2_with fail
          go_roundw
          case rel => exact ⟨s + 1, A2, k, cap2, by omega, hk128, by go_num, rfl, Lib.hid ⟨HJ.out.1, HJ.out.2.2⟩⟩
          case measure => simp [intOf]; omega
    · have hs3 : s = 2 := by omega
      subst hs3
      go_wp2
      go_ret
      exact ⟨A0, k0, cap0, rfl, HO.out.1, HO.out.2⟩
end Go.Proofs.YtmebdnblobobnaaGreatDoor
