/- The walk of the law CrcOpens: any bytes, sealed ones with some turned, cut off, or more behind among them, are opened, or refused, as the document says. -/
import Derived.Test.YtdbjopjkkfjdaaaWCrcBack
import Derived.RegionCalls
import Derived.Deep.DeepCutAuto
import Derived.Deep.CutBlock
import Derived.Deep.CutRange
import Derived.StillTailTactics
import Derived.IntWalk
namespace Go.Proofs.Ytdbjopjkkfjdaaa
open Go.RowKit Wd Nm Cm

theorem refseal_at (w W : World) (A : Option Addr) (n cap : Nat) (l : List UInt8) (hs : Shows w w.heap.size A n cap l) (hn : n ≤ 300) (hb : Below w.heap.size w W) :
    Calls Try.prog 16 #[.slice A n cap] W fun e w' => ∃ A2 c2, e = .returned (.slice A2 (6 + n) c2) ∧ Shows w' w'.heap.size A2 (6 + n) c2 (sealed l) ∧ Below w.heap.size w w' := by
  refine (refseal_yes A n cap l W ((hs.below hb).more hb.size) (by omega)).mono ?_
  rintro e w' ⟨A2, c2, rfl, h1, h2⟩
  exact ⟨A2, c2, rfl, Shows.of_own h1, hb.trans (h2.mono hb.size)⟩

set_option maxRecDepth 100000 in
set_option maxHeartbeats 4000000 in
theorem crcOpens_walk (A : Option Addr) (n cap : Nat) (l : List UInt8) (Ai : Option Addr) (ni capi : Nat) (zi : List Int) (Ab : Option Addr) (nb capb : Nat) (lb : List UInt8) (cut : Int) (Am : Option Addr) (nm capm : Nat) (lm : List UInt8) (w : World)
    (hs : Shows w w.heap.size A n cap l) (hsi : Lays w w.heap.size Ai ni capi (zi.map (Value.int .i64))) (hzi : ∀ n ∈ zi, (Lit.int .i64 n).wf = true) (hsb : Shows w w.heap.size Ab nb capb lb) (_hc : (Lit.int .i64 cut).wf = true) (hsm : Shows w w.heap.size Am nm capm lm) :
    Calls Try.prog 4 #[.slice A n cap, .slice Ai ni capi, .slice Ab nb capb, .int .i64 cut, .slice Am nm capm] w fun e w' => e = .returned (.bool true) ∧ Below w.heap.size w w' := by
  obtain ⟨i0, hi0, hz0, hz1, hz2⟩ := info_parts infoByte
  go_enter Try.func4, Try.ntmps4
  go_wp2_with fail
  refine (known2_any _).mono ?_
  rintro _ w1 ⟨rfl, hb1⟩
  by_cases h300 : 300 < n
  · go_wp2
    go_ret
    exact ⟨rfl, hb1⟩
  · by_cases h100 : 100 < nm
    · go_wp2
      go_ret
      exact ⟨rfl, hb1⟩
    · go_wp2_with fail
      refine (seal_at300 _ _ _ _ _ ((hs.below hb1).more hb1.size) (by omega)).mono ?_
      rintro _ w2 ⟨Ax, cx, rfl, hsx, hbx⟩
      have hb2 := step_below hb1 hbx
      have hs2 := (hs.below hb2).more hb2.size
      have hr := Below.refl w2.heap.size w2
      have HC := Lib.hid (fun (W : World) (hB : Below w2.heap.size w2 W) => refseal_at w2 W A n cap l hs2 (by omega) hB)
      have cx0 := (hsx.below hr.drew).conv (P := Try.prog) Try.underlying25 Try.underlying5 Try.underlying9
      have HS := Lib.hid hs
      have HSX := Lib.hid hsx
      clear hs hbx hb1 hs2 hsx
      go_upto_region 6 with fail
      go_cut [38] from 33 to 132 (fun s wx => s = .bool false ∧ Below w2.heap.size w2 wx)
      case first =>
        go_region_with ((go_at_call 16; refine (HC.out _ hr.drew).mono ?_; rintro _ w3 ⟨A3, c3, rfl, hs3, hb3⟩; have cy := hs3.conv (P := Try.prog) Try.underlying25 Try.underlying5 Try.underlying9; have cx1 := (HSX.out.below hb3).conv (P := Try.prog) Try.underlying25 Try.underlying5 Try.underlying9))
        all_goals
          go_wp2_with fail
          go_meet
          case rel => exact ⟨rfl, hb3⟩
      case rest =>
        obtain ⟨rfl, hB⟩ := hcut
        have hsx := (HSX.out.below hB).more hB.size
        have hb3 := step_below hb2 hB
        clear HC cx0 hB hr HSX
        have hown0 : (wc.alloc (.cells #[] 5)).ownsRow wc.heap.size 5 1 (.slice (some ⟨wc.heap.size, 0, none⟩) 0 0) 0 (bc []) := World.ownsRow_made wc #[] 0 (Nat.le_refl _) (Nat.zero_le _) rfl
        have hba0 : Below wc.heap.size wc (wc.alloc (.cells #[] 5)) := (Below.refl _ _).alloc (Nat.le_refl _) _
        have hsrc := (hsx.below hba0).src (P := Try.prog) Try.underlying25
        go_wp2_with (at_builtin; refine wpList_ap _ rfl (.tmp 39) (.tmp 40) 25 25 rfl wc.heap.size 5 i0 Try.underlying25 hi0 hz0 hz1 hz2 _ 0 0 [] rfl hown0 _ (6 + n) (sealed l) rfl hsrc ?c1 ?c2 ?_)
        case c1 => omega
        case c2 => exact hba0.size
        intro A6 c6 w6 hown6 _ hg6 _
        have hg6' : (wc.alloc (.cells #[] 5)).grownBy w6 (some wc.heap.size) := hg6
        have hB6 : Below wc.heap.size wc w6 := hba0.grown hg6' (by simp) (by intro k hk; injection hk with hk; omega)
        clear hba0 hsrc hown0 hg6 hg6'
        obtain ⟨g, c7, hf, hg1, hg2⟩ := hown6.form (by omega)
        injection hf with hf1 hf2 hf3
        subst hf1 hf3
        have hsl : (sealed l).length = 6 + n := by rw [sealed_len, HS.out.len]
        have HZI := Lib.hid hzi
        have hn6 : (0 : Int) < 6 + (n : Int) := by omega
        clear hzi
        go_upto_block 0 with fail
        go_cut [11] from 33 to 132 (fun s wx => s = .slice (some ⟨g, 0, none⟩) (6 + n) c6 ∧ ∃ y : List UInt8, wx.ownsRow wc.heap.size 5 1 (.slice (some ⟨g, 0, none⟩) (6 + n) c6) (6 + n) (bc y) ∧ Below wc.heap.size wc wx)
        case first =>
          go_wp2
          go_loopw [12] (fun i wr => ∃ j : Nat, j ≤ 3 ∧ i = .int .i64 j ∧ ∃ y : List UInt8, wr.ownsRow wc.heap.size 5 1 (.slice (some ⟨g, 0, none⟩) (6 + n) c6) (6 + n) (bc y) ∧ Below wc.heap.size wc wr) (fun i _ => 3 - (intOf i).toNat)
          case atStart => exact ⟨0, by omega, rfl, _, hown6, hB6⟩
          case round =>
            clear hown6 hB6
            obtain ⟨j, hj, rfl, y, hown, hb⟩ := hrel
            by_cases h1 : j < ni
            · by_cases h2 : j < nb
              · by_cases h3 : j < 3
                · obtain ⟨gi, oi, rfl, hgi, hci⟩ := hsi.spot (by omega)
                  obtain ⟨gb, ob, rfl, hgb, hcb⟩ := hsb.spot (by omega)
                  have hB := hb3.trans (hb.mono hb3.size)
                  have hji : j < zi.length := by have := hsi.len; rw [List.length_map] at this; omega
                  have hjb : j < lb.length := by have := hsb.len; omega
                  have ci : wr.cell? ⟨gi, oi + j, none⟩ = some (.int .i64 zi[j]) := by
                    rw [hB.cell (p := ⟨gi, oi + j, none⟩) hgi, hci j (by rw [List.length_map]; exact hji), List.getElem_map]
                  have cb : wr.cell? ⟨gb, ob + j, none⟩ = some (.int .u8 (lb[j].toNat : Int)) := by
                    rw [hB.cell (p := ⟨gb, ob + j, none⟩) hgb, hcb j hjb]
                  have hyl : y.length = 6 + n := by have := hown.1; rw [bc_len] at this; omega
                  obtain ⟨k, hk⟩ : ∃ k : Nat, zi[j] % (6 + (n : Int)) = k := ⟨(zi[j] % (6 + (n : Int))).toNat, by have := Int.emod_nonneg zi[j] (show 6 + (n : Int) ≠ 0 by omega); omega⟩
                  have hkn : k < 6 + n := by have := Int.emod_lt_of_pos zi[j] hn6; omega
                  have hky : k < y.length := by omega
                  have cy : wr.cell? ⟨g, k, none⟩ = some (.int .u8 (y[k].toNat : Int)) := by rw [hown.cellAt k (by omega), bc_get y k hky]
                  have cf := hown.frozenAt k
                  have W1 := Lib.hid (fun (W : World) => within2_any zi[j] (6 + (n : Int)) W hn6 (by omega))
                  rw [hk] at W1
                  obtain ⟨v, hv⟩ : ∃ v : UInt8, ((y[k].toNat : Int) + (lb[j].toNat : Int)) % 256 = (v.toNat : Int) := ⟨UInt8.ofNat ((y[k].toNat + lb[j].toNat) % 256), by first | (simp; done) | (simp; omega)⟩
                  have hvw : IntKind.u8.wrap ((y[k].toNat : Int) + (lb[j].toNat : Int)) = (v.toNat : Int) := by rw [IntKind.wrap_u8]; exact hv
                  obtain ⟨hown2, hg2'⟩ := hown.stored k (.int .u8 (v.toNat : Int))
                  rw [bc_set] at hown2
                  have hb2' := hb.grown hg2' hb.size (by intro q hq; injection hq with hq; omega)
                  generalize hzz : zi[j] = zz at ci W1 hk
                  have i1 : (0 : Int) ≤ (k : Int) := by omega
                  have i2 : (k : Int) < 6 + (n : Int) := by omega
                  have i3 : (0 : Int) ≤ (j : Int) := by omega
                  have i4 : (j : Int) < (ni : Int) := by omega
                  have i5 : (j : Int) < (nb : Int) := by omega
                  have hd1 : decide (j < ni) = true := by simpa using h1
                  have hd2 : decide (j < nb) = true := by simpa using h2
                  have hd3 : decide ((j : Int) < 3) = true := by simp; omega
                  clear hci hcb hzz hk hg2' hB hb hown hsi hsb
                  go_wp2_with fail
                  go_still_tail 16, (by kernel_rfl)
                  still_call ((W1.out _).mono fun _ _ ⟨h1, h2⟩ => ⟨h1, h2.symm⟩)
                  repeat still_step
                  refine wpStill_nil ?_
                  change wpList _ _ _ _ _ wr.drew
                  clear W1
                  go_wp2
                  exact ⟨⟨j + 1, by omega, by go_num, _, hown2.drew, hb2'.drew⟩, by simp [intOf]; omega⟩
                · have hd1 : decide (j < ni) = true := by simpa using h1
                  have hd2 : decide (j < nb) = true := by simpa using h2
                  have hd3 : decide ((j : Int) < 3) = false := by simp; omega
                  go_wp2
                  go_meet
                  case rel => exact ⟨rfl, y, hown, hb⟩
              · have hd1 : decide (j < ni) = true := by simpa using h1
                have hd2 : decide (j < nb) = false := by simpa using h2
                go_wp2
                go_meet
                case rel => exact ⟨rfl, y, hown, hb⟩
            · have hd1 : decide (j < ni) = false := by simpa using h1
              go_wp2
              go_meet
              case rel => exact ⟨rfl, y, hown, hb⟩
        case rest =>
          obtain ⟨rfl, y, hown, hb⟩ := hcut
          rename World => W
          have hsy := Shows.of_own hown
          have hsx2 := (hsx.below hb).more hb.size
          have hb4 := step_below hb3 hb
          have hcy := hsy.le
          clear hown hb hown6 hB6 hsx hb3 hb2
          go_upto_if 76 with fail
          go_cut [11] from 74 to 132 (fun s wx => ∃ k : Nat, ∃ y' : List UInt8, s = .slice (some ⟨g, 0, none⟩) k c6 ∧ k ≤ 6 + n ∧ Shows W W.heap.size (some ⟨g, 0, none⟩) k c6 y' ∧ wx = W)
          case first =>
            go_wp2_with fail
            · refine (within2_any _ _ _ (by omega) (by omega)).mono ?_
              rintro _ _ ⟨rfl, rfl⟩
              have e0 := Int.emod_nonneg (wrap64 (cut.tdiv 2)) (show 6 + (n : Int) + 1 ≠ 0 by omega)
              have e1 := Int.emod_lt_of_pos (wrap64 (cut.tdiv 2)) (show (0 : Int) < 6 + (n : Int) + 1 by omega)
              generalize wrap64 (cut.tdiv 2) % (6 + (n : Int) + 1) = kk at e0 e1 ⊢
              obtain ⟨k, rfl⟩ : ∃ k : Nat, kk = k := ⟨kk.toNat, by omega⟩
              have hk : k ≤ 6 + n := by omega
              have i2 : (k : Int) ≤ (c6 : Int) := by omega
              have hst := hsy.take hk
              go_wp2
              go_meet
              case rel => exact ⟨k, _, rfl, hk, hst, rfl⟩
            · go_wp2
              go_meet
              case rel => exact ⟨6 + n, y, rfl, by omega, hsy, rfl⟩
          case rest =>
            obtain ⟨k, y', rfl, hk, hsx, rfl⟩ := hcut
            rename World => W
            have hkl := hsx.len
            have hml := hsm.len
            have hown0 : (W.alloc (.cells #[] 5)).ownsRow W.heap.size 5 1 (.slice (some ⟨W.heap.size, 0, none⟩) 0 0) 0 (bc []) := World.ownsRow_made W #[] 0 (Nat.le_refl _) (Nat.zero_le _) rfl
            have hba0 : Below W.heap.size W (W.alloc (.cells #[] 5)) := (Below.refl _ _).alloc (Nat.le_refl _) _
            have hsrc := (hsx.below hba0).src (P := Try.prog) Try.underlying25
            have hsmW := (hsm.below hb4).more hb4.size
            have hsnW := (HS.out.below hb4).more hb4.size
            clear hsl hn6
            go_wp2_with (at_builtin; refine wpList_ap _ rfl (.tmp 86) (.tmp 87) 25 25 rfl W.heap.size 5 i0 Try.underlying25 hi0 hz0 hz1 hz2 _ 0 0 [] rfl hown0 _ k y' rfl hsrc ?d1 ?d2 ?_)
            case d1 => omega
            intro A7 c7 w7 hown7 _ hg7 _
            have hg7' : (W.alloc (.cells #[] 5)).grownBy w7 (some W.heap.size) := hg7
            have hB7 : Below W.heap.size W w7 := hba0.grown hg7' (by simp) (by intro k hk; injection hk with hk; omega)
            have hsrc7 := (hsmW.below hB7).src (P := Try.prog) Try.underlying25
            clear hba0 hsrc hown0 hg7 hg7'
            go_wp2_with (at_builtin; refine wpList_ap _ rfl (.tmp 88) (.tmp 89) 25 25 rfl W.heap.size 5 i0 Try.underlying25 hi0 hz0 hz1 hz2 _ _ _ _ rfl hown7 _ nm lm rfl hsrc7 ?e1 ?e2 ?_)
            case e1 => omega
            case e2 => exact hB7.size
            intro A8 c8 w8 hown8 _ hg8 _
            have hB8 := hB7.grown hg8 hB7.size (fun q hq => (own_block hown7 q hq).1)
            have p0 := (hsx.below hB8).more hB8.size
            have p1 := Shows.of_own hown8
            have p2 := (hsmW.below hB8).more hB8.size
            have p3 := (hsnW.below hB8).more hB8.size
            have hb8 := step_below hb4 hB8
            clear hown7 hown8 hg8 hsrc7 hB7 hB8 hsx hsmW hsnW hb4
            obtain ⟨ps, hps⟩ : ∃ ps : List Part, ps = [⟨some ⟨g, 0, none⟩, k, c6, y'⟩, ⟨A8, k + nm, c8, y' ++ lm⟩, ⟨Am, nm, capm, lm⟩, ⟨A, n, cap, l⟩] := ⟨_, rfl⟩
            have hlaid : LaidAt (w8.alloc (.cells #[.slice (some ⟨g, 0, none⟩) k c6, .slice A8 (k + nm) c8, .slice Am nm capm, .slice A n cap] 25)) (w8.alloc (.cells #[.slice (some ⟨g, 0, none⟩) k c6, .slice A8 (k + nm) c8, .slice Am nm capm, .slice A n cap] 25)).heap.size (some ⟨w8.heap.size, 0, none⟩) 4 ps := by
              subst hps
              have hbn := (Below.refl w8.heap.size w8).alloc (Nat.le_refl _) (.cells #[.slice (some ⟨g, 0, none⟩) k c6, .slice A8 (k + nm) c8, .slice Am nm capm, .slice A n cap] 25)
              have hn := heap_alloc_new w8 (.cells #[.slice (some ⟨g, 0, none⟩) k c6, .slice A8 (k + nm) c8, .slice Am nm capm, .slice A n cap] 25)
              refine LaidAt.of_laid (ps := [⟨some ⟨g, 0, none⟩, k, c6, y'⟩, ⟨A8, k + nm, c8, y' ++ lm⟩, ⟨Am, nm, capm, lm⟩, ⟨A, n, cap, l⟩]) (fun j hj => ?_) (by simp)
              match j, hj with
              | 0, _ => exact ⟨by rw [cell_of_row _ _ 0 _ _ (0, 0) hn]; rfl, (p0.below hbn).more hbn.size⟩
              | 1, _ => exact ⟨by rw [cell_of_row _ _ 1 _ _ (0, 0) hn]; rfl, (p1.below hbn).more hbn.size⟩
              | 2, _ => exact ⟨by rw [cell_of_row _ _ 2 _ _ (0, 0) hn]; rfl, (p2.below hbn).more hbn.size⟩
              | 3, _ => exact ⟨by rw [cell_of_row _ _ 3 _ _ (0, 0) hn]; rfl, (p3.below hbn).more hbn.size⟩
            have hsz : ∀ p ∈ ps, p.n ≤ 1000 := by
              subst hps
              intro p hp
              simp only [List.mem_cons, List.mem_nil_iff, or_false] at hp
              rcases hp with rfl | rfl | rfl | rfl
              · show k ≤ 1000; omega
              · show k + nm ≤ 1000; omega
              · show nm ≤ 1000; omega
              · show n ≤ 1000; omega
            have hb9 := below_new hb8 (.cells #[.slice (some ⟨g, 0, none⟩) k c6, .slice A8 (k + nm) c8, .slice Am nm capm, .slice A n cap] 25)
            have HSZ := Lib.hid hsz
            obtain ⟨W9, hW9⟩ : ∃ W9, W9 = w8.alloc (.cells #[.slice (some ⟨g, 0, none⟩) k c6, .slice A8 (k + nm) c8, .slice Am nm capm, .slice A n cap] 25) := ⟨_, rfl⟩
            rw [← hW9] at hlaid hb9
            have HW9 := Lib.hid hW9
            have HLA := Lib.hid hlaid
            clear hW9 hps hsz hb8 p0 p1 p2 p3 hlaid
            go_wp2_with fail
            go_loopw [14] (fun i wr => ∃ j : Nat, j ≤ 4 ∧ i = .int .i64 j ∧ Below W9.heap.size W9 wr) (fun i _ => 4 - (intOf i).toNat)
            case atStart => exact ⟨0, by omega, rfl, by rw [← HW9.out]; exact Below.refl _ _⟩
            case round =>
              obtain ⟨j, hj, rfl, hb⟩ := hrel
              by_cases h4 : j < 4
              · obtain ⟨g9, o9, he9, hg9, hc9⟩ := HLA.out.spot (by omega)
                injection he9 with he9
                injection he9 with he9 ho9 _
                subst he9 ho9
                have hjl : j < ps.length := by have := HLA.out.len; omega
                have hcj : wr.cell? ⟨w8.heap.size, j, none⟩ = some (.slice ps[j].A ps[j].n ps[j].cap) := by
                  have := (hb.cell (p := ⟨w8.heap.size, 0 + j, none⟩) hg9).trans (hc9 j hjl)
                  rwa [Nat.zero_add] at this
                have hpj := ((HLA.out.each ps[j] (List.getElem_mem hjl)).below hb).more hb.size
                have hnj := HSZ.out ps[j] (List.getElem_mem hjl)
                have hblt : w8.heap.size < wr.heap.size := by have := hb.size; omega
                generalize ps[j] = p at hcj hpj hnj
                obtain ⟨pA, pn, pc, pl⟩ := p
                simp only at hcj hpj hnj
                have hown0 : (wr.alloc (.cells #[] 5)).ownsRow wr.heap.size 5 1 (.slice (some ⟨wr.heap.size, 0, none⟩) 0 0) 0 (bc []) := World.ownsRow_made wr #[] 0 (Nat.le_refl _) (Nat.zero_le _) rfl
                have hba0 : Below wr.heap.size wr (wr.alloc (.cells #[] 5)) := (Below.refl _ _).alloc (Nat.le_refl _) _
                have hsrc := (hpj.below hba0).src (P := Try.prog) Try.underlying25
                have i1 : (0 : Int) ≤ (j : Int) := by omega
                have i2 : (j : Int) < 4 := by omega
                clear hc9
                go_wp2_with (at_builtin; refine wpList_ap _ rfl (.tmp 99) (.tmp 103) 25 25 rfl wr.heap.size 5 i0 Try.underlying25 hi0 hz0 hz1 hz2 _ 0 0 [] rfl hown0 _ pn pl rfl hsrc ?f1 ?f2 ?_)
                case f1 => omega
                intro A10 c10 w10 hown10 _ hg10 _
                have hg10' : (wr.alloc (.cells #[] 5)).grownBy w10 (some wr.heap.size) := hg10
                have hB10 : Below wr.heap.size wr w10 := hba0.grown hg10' (by simp) (by intro k hk; injection hk with hk; omega)
                have HO := Lib.hid (open_any A10 pn c10 pl w10 (Shows.of_own hown10) (by omega))
                clear hba0 hsrc hown0 hg10 hg10' hown10
                go_wp2_with fail
                (with_reducible refine HO.out.mono ?_)
                rintro _ w11 ⟨A11, c11, rfl, hs11, hb11⟩
                have hB11 := hB10.trans (hb11.mono hB10.size)
                have hc11 : w11.cell? ⟨w8.heap.size, j, none⟩ = some (.slice pA pn pc) := (hB11.cell (p := ⟨w8.heap.size, j, none⟩) hblt).trans hcj
                have HR := Lib.hid (refopen_any pA pn pc pl w11 ((hpj.below hB11).more hB11.size) (by omega))
                have HB11 := Lib.hid (hb.trans (hB11.mono hb.size))
                clear hB10 hb11 hcj HO hpj hb hB11
                go_wp2_with fail
                (with_reducible refine HR.out.mono ?_)
                rintro _ w12 ⟨A12, c12, rfl, hs12, hb12⟩
                have hb13 := HB11.out.trans (hb12.mono HB11.out.size)
                have cv1 := (hs11.below hb12).conv (P := Try.prog) Try.underlying25 Try.underlying5 Try.underlying9
                have cv2 := hs12.conv (P := Try.prog) Try.underlying25 Try.underlying5 Try.underlying9
                clear hs11 hs12 hb12 HR HB11
                generalize opened pl = o at cv1 cv2 ⊢
                obtain ⟨x, mm, er⟩ := o
                simp only at cv1 cv2 ⊢
                go_wp2
                exact ⟨⟨j + 1, by omega, by go_num, hb13⟩, by simp [intOf]; omega⟩
              · obtain rfl : j = 4 := by omega
                go_wp2
                go_ret
                exact ⟨rfl, step_below hb9 hb⟩
end Go.Proofs.Ytdbjopjkkfjdaaa
