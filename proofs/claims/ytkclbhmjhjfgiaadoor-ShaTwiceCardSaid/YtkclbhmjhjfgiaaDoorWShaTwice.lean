/- The walk of the law ShaTwice: a sum does not hang on what was summed ahead, nor is what was handed in changed. -/
import Derived.Test.YtkclbhmjhjfgiaaDoorShaOne
import Derived.Test.YtkclbhmjhjfgiaaDoorSliceOne
import Derived.Laws.AppendOwn
namespace Go.Proofs.YtkclbhmjhjfgiaaDoor
open Go.RowKit Wd Nm Cm Sm

theorem hash_in (l : List UInt8) (W : World) : (Op.equalIn 10000 24 (.agg (bc (sha l)).toArray) (.agg (bc (sha l)).toArray)).run Tryd.prog W = .ok true W := by
  have h := run_equalIn_bytes (P := Tryd.prog) W 9998 24 5 32 Tryd.underlying24 Tryd.underlying5 (by kernel_rfl) (sha l) (sha l) (sha_len l) (sha_len l)
  rw [h]
  simp
/-- The sums of the first parts, one behind the other. -/
def sumsOf (ps : List Part) (k : Nat) : List UInt8 := ((ps.take k).map fun p => sha p.l).flatten
theorem sumsOf_next (ps : List Part) (k : Nat) (h : k < ps.length) : sumsOf ps (k + 1) = sumsOf ps k ++ sha ps[k].l := by
  unfold sumsOf
  rw [List.take_succ_eq_append_getElem h, List.map_append, List.flatten_append]
  simp
theorem sumsOf_len (ps : List Part) (k : Nat) (h : k ≤ ps.length) : (sumsOf ps k).length = k * 32 := by
  induction k with
  | zero => rfl
  | succ k ih =>
    rw [sumsOf_next ps k (by omega), List.length_append, ih (by omega), sha_len]
    omega
theorem sumsOf_at (ps : List Part) (n k : Nat) (hk : k < n) (hn : n ≤ ps.length) (j : Nat) (hj : j < 32) : (sumsOf ps n)[k * 32 + j]? = (sha (ps[k]'(by omega)).l)[j]? := by
  induction n with
  | zero => omega
  | succ n ih =>
    rw [sumsOf_next ps n (by omega)]
    have hl := sumsOf_len ps n (by omega)
    by_cases h : k < n
    · rw [List.getElem?_append_left (by omega)]
      exact ih h (by omega)
    · have hkn : k = n := by omega
      subst hkn
      rw [List.getElem?_append_right (by omega), hl, Nat.add_sub_cancel_left]
theorem own_base {w : World} {base n s : Nat} {e : TypeId} {v : Value} {xs : List Value} (h : w.ownsRow base e s v n xs) : ∀ q, v.ownBlock = some q → base ≤ q := by
  intro q hq
  rcases h.2 with ⟨rfl, _⟩ | ⟨g, c, cur, rfl, hb, _⟩
  · cases hq
  · have e : g = q := by injection hq
    omega
theorem infoHash : (Tryd.prog.info? 24).map (fun i => (i.zero, i.size, i.bytes)) = some (some (.agg (bc (List.replicate 32 0)).toArray), 32, 32) := by kernel_rfl

set_option maxRecDepth 100000 in
set_option maxHeartbeats 4000000 in
theorem shaTwice_walk (A : Option Addr) (n cap : Nat) (ps : List Part) (w : World) (hT : Tables w) (hl : LaidAt w w.heap.size A n ps) (hn : n ≤ 9223372036854775807) :
    Calls Tryd.prog 5 #[.slice A n cap] w fun e w' => e = .returned (.bool true) ∧ Below w.heap.size w w' := by
  obtain ⟨i1, hi1, hz1⟩ := Option.map_eq_some_iff.1 infoHash
  simp only [Prod.mk.injEq] at hz1
  obtain ⟨N, hN, hN20, hNn⟩ : ∃ N, (n ≤ 10 ∧ N = n ∨ 10 < n ∧ N = 10) ∧ N ≤ 10 ∧ N ≤ n := by
    by_cases h : n ≤ 10
    · exact ⟨n, .inl ⟨h, rfl⟩, h, Nat.le_refl _⟩
    · exact ⟨10, .inr ⟨by omega, rfl⟩, Nat.le_refl _, by omega⟩
  have HI := Lib.hid (And.intro hi1 hz1)
  have HZS := Lib.hid (show (Value.agg (bc (List.replicate 32 0)).toArray).cells.size = 32 by show (bc (List.replicate 32 0)).toArray.size = 32; rw [List.size_toArray, bc_len, List.length_replicate])
  have HL := Lib.hid hl
  have HT := Lib.hid hT
  clear hl hT hi1 hz1
  go_enter Tryd.func5, Tryd.ntmps5
  go_wp2_with fail
  (with_reducible refine (known3_any _ HT.out).mono ?_)
  rintro _ w1 ⟨rfl, hb1⟩
  have HB1 := Lib.hid hb1
  clear hb1
  go_wp2_with fail
  go_loopw [3, 4] (fun v i wr => ∃ (k : Nat) (A3 : Option Addr) (c3 : Nat), k ≤ N ∧ c3 ≤ 9223372036854775807 ∧ i = .int .i64 k ∧ v = .slice A3 k c3 ∧ Hid (wr.ownsRow w.heap.size 24 32 (.slice A3 k c3) k (bc (sumsOf ps k)) ∧ Below w.heap.size w wr ∧ ∀ j (h : j < ps.length), j < k → ps[j].n ≤ 300)) (fun _ i _ => N - (intOf i).toNat)
  case atStart => exact ⟨0, none, 0, by omega, by omega, rfl, rfl, Lib.hid ⟨World.ownsRow_nil _ _ _ _, HB1.out, fun j _ h => absurd h (by omega)⟩⟩
  case round =>
    obtain ⟨k, A3, c3, hk, hc3, rfl, rfl, HK⟩ := hrel
    by_cases hkN : k < N
    · have hki : (k : Int) < 10 := by omega
      have hkn : (k : Int) < (n : Int) := by omega
      have hkl : k < ps.length := by rw [HL.out.len]; omega
      obtain ⟨pg, po, rfl, hpg, hpc⟩ := HL.out.spot (by omega)
      have cp := (HK.out.2.1.cell (p := ⟨pg, po + k, none⟩) hpg).trans (hpc k hkl)
      have hsh := HL.out.each (ps[k]) (List.getElem_mem hkl)
      have hnx := sumsOf_next ps k hkl
      obtain ⟨pA, pn, pc, l, hp⟩ : ∃ pA pn pc l, ps[k] = ⟨pA, pn, pc, l⟩ := ⟨_, _, _, _, rfl⟩
      rw [hp] at cp hsh hnx
      have hsh : Shows w w.heap.size pA pn pc l := hsh
      have cp : wr.cell? ⟨pg, po + k, none⟩ = some (.slice pA pn pc) := cp
      have hnx : sumsOf ps (k + 1) = sumsOf ps k ++ sha l := hnx
      have hpcap : pn ≤ pc := hsh.le
      have hptop : pc ≤ maxLen := hsh.top
      unfold maxLen at hptop
      have hpn : (ps[k]'hkl).n = pn := by rw [hp]
      have HP := Lib.hid (And.intro hsh (And.intro hnx hpn))
      clear hp hsh hpg hpc hnx hpn
      by_cases hp16 : 300 < pn
      · go_wp2
        go_ret
        exact ⟨rfl, HK.out.2.1⟩
      · go_wp2_with fail
        (with_reducible refine (shasum_one pA pn pc l wr (HT.out.below HK.out.2.1) ((HP.out.1.below HK.out.2.1).more HK.out.2.1.size) (by omega)).mono ?_)
        rintro _ w2 ⟨rfl, hb2⟩
        have ho2 := grow_own HK.out.1 (below_grow hb2 none) (fun k _ e => by cases e)
        have HK2 := Lib.hid (And.intro ho2 (step_below HK.out.2.1 hb2))
        clear cp hb2 ho2
        have hown3 := HK2.out.1.alloc (.cells (bc (sha l)).toArray 24)
        have hcell3 : ∀ (j : Nat) u, (bc (sha l))[j]? = some u → (w2.alloc (.cells (bc (sha l)).toArray 24)).cell? ((⟨w2.heap.size, 0, none⟩ : Addr).add j) = some u := fun j u hj => by
          rw [Addr.add_lit, Nat.zero_add]
          exact (Row.new w2 _ _).cell hj
        have HO3 := Lib.hid (And.intro hown3 (And.intro hcell3 (below_new HK2.out.2 (.cells (bc (sha l)).toArray 24))))
        clear hown3 hcell3
        go_wp2_with (first
          | (refine wpList_slice_one rfl 33 24 _ rfl i1 _ Tryd.underlying33 HI.out.1 HI.out.2.1 (bc (sha l)) (by rw [bc_len, sha_len, HI.out.2.2.1]) (by rw [HI.out.2.2.1]; decide) (by rw [HI.out.2.2.1]; decide) rfl ?_)
          | (at_builtin; refine wpList_append_own _ rfl (.tmp 25) (.tmp 32) 33 rfl w.heap.size 24 i1 _ 32 32 Tryd.underlying33 HI.out.1 HI.out.2.1 HI.out.2.2.1 HI.out.2.2.2 HZS.out (by decide) (.slice A3 k c3) k _ rfl HO3.out.1 ⟨w2.heap.size, 0, none⟩ 1 1 (bc (sha l)) rfl ?c1 HO3.out.2.1 (bc_one _) ?c2 ?c3 ?c4 ?_))
        case c1 => rw [bc_len, sha_len]
        case c2 => unfold maxLen; omega
        case c3 => omega
        case c4 => exact HO3.out.2.2.size
        intro v' w4 ho4 hg4 _
        have hb4 := HO3.out.2.2.grown hg4 HO3.out.2.2.size (fun q hq => own_base HO3.out.1 q hq)
        rcases ho4.2 with ⟨_, h0⟩ | ⟨g4, c4, cur4, rfl, _, _, _, hc4, _, _⟩
        · exact absurd h0 (by omega)
        rw [← bc_app, ← HP.out.2.1] at ho4
        have HR : Hid (w4.ownsRow w.heap.size 24 32 (.slice (some ⟨g4, 0, none⟩) (k + 1) c4) (k + 1) (bc (sumsOf ps (k + 1))) ∧ Below w.heap.size w w4 ∧ ∀ j (h : j < ps.length), j < k + 1 → ps[j].n ≤ 300) :=
          Lib.hid ⟨ho4, hb4, fun j h hj => by
            by_cases hjk : j = k
            · subst hjk
              rw [HP.out.2.2]
              omega
            · exact HK.out.2.2 j h (by omega)⟩
        unfold maxLen at hc4
        clear ho4 hg4 hb4 HO3 HK2
        go_wp2
        go_roundw
        case rel => exact ⟨k + 1, _, c4, by omega, hc4, by go_num, rfl, HR⟩
        case measure => simp [intOf]; omega
    · have hxx : (n ≤ 10 ∧ ¬ (k : Int) < (n : Int)) ∨ ((k : Int) < (n : Int) ∧ ¬ (k : Int) < 10) := by omega
      have hk10 : k ≤ 10 := by omega
      have HKN := Lib.hid (show k ≤ ps.length by rw [HL.out.len]; omega)
      clear hkN hN
      rcases hxx with ⟨h1, h2⟩ | ⟨h1, h2⟩
      all_goals
        go_wp2_with fail
        generalize wr = wE at HK
        go_loopw [5] (fun i wr => ∃ (r : Nat) (z : Int), r ≤ k ∧ i = .int .i64 z ∧ z + 1 = (r : Int) ∧ Hid (Below wE.heap.size wE wr)) (fun i _ => (intOf i + 1).toNat)
        case atStart => exact ⟨k, (k : Int) - 1, Nat.le_refl _, rfl, by omega, Lib.hid (Below.refl _ _)⟩
        case round =>
          obtain ⟨r, z, hr, rfl, hz, HB⟩ := hrel
          by_cases hr0 : r = 0
          · have hz0 : z = -1 := by omega
            subst hz0
            have HE := Lib.hid (step_below HK.out.2.1 HB.out)
            go_wp2
            go_ret
            exact ⟨rfl, HE.out⟩
          · obtain ⟨j, rfl⟩ : ∃ j : Nat, r = j + 1 := ⟨r - 1, by omega⟩
            have hzj : z = (j : Int) := by omega
            subst hzj
            have hjk : j < k := by omega
            have hjn : (j : Int) < (n : Int) := by omega
            have hjki : (j : Int) < (k : Int) := by omega
            have hjl : j < ps.length := by have := HKN.out; omega
            obtain ⟨pg, po, rfl, hpg, hpc⟩ := HL.out.spot (by omega)
            have hbw := step_below HK.out.2.1 HB.out
            have cp := (hbw.cell (p := ⟨pg, po + j, none⟩) hpg).trans (hpc j hjl)
            have hsh := HL.out.each (ps[j]) (List.getElem_mem hjl)
            have hpn := HK.out.2.2 j hjl hjk
            obtain ⟨hown, hb1, hpns⟩ := HK.out
            have hrange : ∃ sg sc, A3 = some ⟨sg, 0, none⟩ ∧ sg < wE.heap.size ∧ sc = c3 ∧ ∀ q v, (bc (sha (ps[j]).l))[q]? = some v → wE.cell? ⟨sg, j * 32 + q, none⟩ = some v := by
              rcases hown.2 with ⟨_, h0⟩ | ⟨sg, sc, cur, he, _, hg, _, _, hcs, htk⟩
              · exact absurd h0 (by omega)
              · injection he with e1 e2 e3
                refine ⟨sg, c3, e1, (Array.getElem?_eq_some_iff.1 hg).1, rfl, fun q v hq => ?_⟩
                have hql : q < 32 := by have := (List.getElem?_eq_some_iff.1 hq).1; rw [bc_len, sha_len] at this; exact this
                rw [cell_of_row _ _ _ _ _ (0, 0) hg]
                have h2 : (bc (sumsOf ps k))[j * 32 + q]? = some v := by
                  have h3 := sumsOf_at ps k j hjk (by have := HKN.out; omega) q hql
                  unfold bc at hq ⊢
                  rw [List.getElem?_map] at hq ⊢
                  rw [h3]
                  exact hq
                rw [← htk, List.getElem?_take] at h2
                split at h2
                · simpa using h2
                · cases h2
            obtain ⟨sg, sc, rfl, hsg, rfl, hrg⟩ := hrange
            obtain ⟨pA, pn, pc, l, hp⟩ : ∃ pA pn pc l, ps[j] = ⟨pA, pn, pc, l⟩ := ⟨_, _, _, _, rfl⟩
            rw [hp] at cp hsh hpn hrg
            have hsh : Shows w w.heap.size pA pn pc l := hsh
            have cp : wr.cell? ⟨pg, po + j, none⟩ = some (.slice pA pn pc) := cp
            have hpn : pn ≤ 300 := hpn
            have hrg : ∀ q v, (bc (sha l))[q]? = some v → wE.cell? ⟨sg, j * 32 + q, none⟩ = some v := hrg
            have hpcap : pn ≤ pc := hsh.le
            have hptop : pc ≤ maxLen := hsh.top
            unfold maxLen at hptop
            have hshw := (hsh.below hbw).more hbw.size
            have HPG := Lib.hid (show pg < wr.heap.size by have := hbw.size; omega)
            have HCP := Lib.hid cp
            have HSG := Lib.hid (show sg < wr.heap.size by have := HB.out.size; omega)
            have HRG := Lib.hid (show ∀ q v, (bc (sha l))[q]? = some v → wr.cell? ⟨sg, j * 32 + q, none⟩ = some v from fun q v hq => (HB.out.cell (p := ⟨sg, j * 32 + q, none⟩) hsg).trans (hrg q v hq))
            have HIH := Lib.hid (show (Tryd.prog.info? 24).map (·.size) = some (bc (sha l)).length by rw [bc_len, sha_len]; kernel_rfl)
            have HCV := Lib.hid (show ∀ W, Below wr.heap.size wr W → (convert 26 9 (.slice pA pn pc)).run Tryd.prog W = .ok (.string ⟨l.toArray⟩) W from fun W hb => (hshw.below hb).conv (P := Tryd.prog) Tryd.underlying26 Tryd.underlying5 Tryd.underlying9)
            have HSW := Lib.hid hshw
            have HTW := Lib.hid ((HT.out.below hbw).below (Below.refl _ _).drew)
            have HSHD := Lib.hid (show Shows wr.drew wr.drew.heap.size pA pn pc l from hshw.below (Below.refl wr.heap.size wr).drew)
            have h5 : Calls Tryd.prog 10 #[.slice (some ⟨wr.heap.size, 0, none⟩) 1 1] (wr.alloc (.cells #[.slice pA pn pc] 26)).drew (fun e w' => e = .returned (.agg (bc (sha l)).toArray) ∧ Below wr.heap.size wr.drew w') := shasum_one pA pn pc l wr.drew HTW.out HSHD.out (by omega)
            have HS5 := Lib.hid h5
            have hcv0 := HCV.out wr (Below.refl _ _)
            have hpn3 : pn ≤ 300 := hpn
            clear hz hr hr0 hjl hpg hpc hbw hsh hown hb1 hpns hsg hrg hp hshw hpn hjk h5
            go_wp2_with fail
            clear cp hcv0
            refine wp_region_held_drew (S := fun W => Below wr.heap.size wr W) (by kernel_rfl) (Below.refl _ _).drew (fun hH0 => ?_)
            refine wpAnyH_take (i := 0) (v := ?_) rfl (by kernel_rfl) (by kernel_rfl) (by kernel_rfl) (fun _ _ _ h => h) (Or.inl ⟨by rfl, ?_⟩) (by assumption) ?_
            rotate_left
            · intro w' hS'; have hS2 : Below wr.heap.size wr w' := hS'; go_simp; try exact rfl
            try simp only [Act.put, List.getElem_toArray, List.getElem_cons_zero, List.setIfInBounds_toArray, List.set_cons_zero, List.set_cons_succ]
            refine wpAnyH_take (i := 1) (v := ?_) rfl (by kernel_rfl) (by kernel_rfl) (by kernel_rfl) (fun _ _ _ h => h) (Or.inl ⟨by rfl, ?_⟩) (by assumption) ?_
            rotate_left
            · intro w' hS'; have hS2 : Below wr.heap.size wr w' := hS'; go_simp; try exact rfl
            try simp only [Act.put, List.getElem_toArray, List.getElem_cons_succ, List.getElem_cons_zero, List.setIfInBounds_toArray, List.set_cons_zero, List.set_cons_succ]
            refine wpAnyH_take (i := 2) (v := ?_) rfl (by kernel_rfl) (by kernel_rfl) (by kernel_rfl) (fun _ _ _ h => h) (Or.inl ⟨by rfl, ?_⟩) (by assumption) ?_
            rotate_left
            · intro w' hS'; have hS2 : Below wr.heap.size wr w' := hS'; go_simp; try exact rfl
            try simp only [Act.put, List.getElem_toArray, List.getElem_cons_succ, List.getElem_cons_zero, List.setIfInBounds_toArray, List.set_cons_zero, List.set_cons_succ]
            refine wpAnyH_take (i := 3) (v := ?_) rfl (by kernel_rfl) (by kernel_rfl) (by kernel_rfl) (fun _ _ _ h => h) (Or.inl ⟨by rfl, ?_⟩) (by assumption) ?_
            rotate_left
            · intro w' hS'; have hS2 : Below wr.heap.size wr w' := hS'; have c := (hS2.cell (p := ⟨pg, po + j, none⟩) HPG.out).trans HCP.out; go_simp; try exact rfl
            try simp only [Act.put, List.getElem_toArray, List.getElem_cons_succ, List.getElem_cons_zero, List.setIfInBounds_toArray, List.set_cons_zero, List.set_cons_succ]
            refine wpAnyH_take (i := 6) (v := ?_) rfl (by kernel_rfl) (by kernel_rfl) (by kernel_rfl) (fun _ _ _ h => h) (Or.inl ⟨by rfl, ?_⟩) (by assumption) ?_
            rotate_left
            · intro w' hS'; have hS2 : Below wr.heap.size wr w' := hS'; go_simp; try exact rfl
            try simp only [Act.put, List.getElem_toArray, List.getElem_cons_succ, List.getElem_cons_zero, List.setIfInBounds_toArray, List.set_cons_zero, List.set_cons_succ]
            refine wpAnyH_take (i := 7) (v := ?_) rfl (by kernel_rfl) (by kernel_rfl) (by kernel_rfl) (fun _ _ _ h => h) (Or.inl ⟨by rfl, ?_⟩) (by assumption) ?_
            rotate_left
            · intro w' hS'; have hS2 : Below wr.heap.size wr w' := hS'; go_simp; try exact rfl
            try simp only [Act.put, List.getElem_toArray, List.getElem_cons_succ, List.getElem_cons_zero, List.setIfInBounds_toArray, List.set_cons_zero, List.set_cons_succ]
            refine wpAnyH_take (i := 8) (v := ?_) rfl (by kernel_rfl) (by kernel_rfl) (by kernel_rfl) (fun _ _ _ h => h) (Or.inl ⟨by rfl, ?_⟩) (by assumption) ?_
            rotate_left
            · intro w' hS'; have hS2 : Below wr.heap.size wr w' := hS'; go_simp; try exact rfl
            try simp only [Act.put, List.getElem_toArray, List.getElem_cons_succ, List.getElem_cons_zero, List.setIfInBounds_toArray, List.set_cons_zero, List.set_cons_succ]
            refine wpAnyH_take (i := 9) (v := .agg (bc (sha l)).toArray) rfl (by kernel_rfl) (by kernel_rfl) (by kernel_rfl) (fun _ _ _ h => h) (yieldsIf_load_mid (by rfl) _ _ rfl sg (j * 32) rfl (bc (sha l)) _ (fun w' hS' q v hq => ((show Below wr.heap.size wr w' from hS').cell (p := ⟨sg, j * 32 + q, none⟩) HSG.out).trans (HRG.out q v hq)) Tryd.underlying24 rfl HIH.out) (by assumption) ?_
            try simp only [Act.put, List.getElem_toArray, List.getElem_cons_succ, List.getElem_cons_zero, List.setIfInBounds_toArray, List.set_cons_zero, List.set_cons_succ]
            refine wpAnyH_ready (rs := [4]) (by kernel_rfl) (by simp) ?_
            refine AllReadyH.cons rfl (fun K hK => ?_) AllReadyH.nil
            go_simp
            refine hK.out _ _ (below_new hH0 _) (fun hH1 => ?_)
            clear hK K
            try simp only [Act.put, List.getElem_toArray, List.getElem_cons_succ, List.getElem_cons_zero, List.setIfInBounds_toArray, List.set_cons_zero, List.set_cons_succ]
            refine wpAnyH_ready (rs := [5]) (by kernel_rfl) (by simp) ?_
            refine AllReadyH.cons rfl (fun K hK => ?_) AllReadyH.nil
            go_simp
            (with_reducible refine HS5.out.mono ?_)
            rintro _ w5 ⟨rfl, hb5⟩
            go_wp2_with fail
            refine hK.out _ _ ((Below.refl _ _).drew.trans hb5) (fun hH2 => ?_)
            clear hK K
            try simp only [Act.put, List.getElem_toArray, List.getElem_cons_succ, List.getElem_cons_zero, List.setIfInBounds_toArray, List.set_cons_zero, List.set_cons_succ]
            refine wpAnyH_take (i := 10) (v := ?_) rfl (by kernel_rfl) (by kernel_rfl) (by kernel_rfl) (fun _ _ _ h => h) (Or.inl ⟨by rfl, ?_⟩) (by assumption) ?_
            rotate_left
            · intro w' hS'; have hS2 : Below wr.heap.size wr w' := hS'; have he := hash_in l w'; go_simp; try exact rfl
            try simp only [Act.put, List.getElem_toArray, List.getElem_cons_succ, List.getElem_cons_zero, List.setIfInBounds_toArray, List.set_cons_zero, List.set_cons_succ]
            refine wpAnyH_take (i := 11) (v := ?_) rfl (by kernel_rfl) (by kernel_rfl) (by kernel_rfl) (fun _ _ _ h => h) (Or.inl ⟨by rfl, ?_⟩) (by assumption) ?_
            rotate_left
            · intro w' hS'; have hS2 : Below wr.heap.size wr w' := hS'; go_simp; try exact rfl
            try simp only [Act.put, List.getElem_toArray, List.getElem_cons_succ, List.getElem_cons_zero, List.setIfInBounds_toArray, List.set_cons_zero, List.set_cons_succ]
            refine wpAnyH_take (i := 12) (v := ?_) rfl (by kernel_rfl) (by kernel_rfl) (by kernel_rfl) (fun _ _ _ h => h) (Or.inl ⟨by rfl, ?_⟩) (by assumption) ?_
            rotate_left
            · intro w' hS'; have hS2 : Below wr.heap.size wr w' := hS'; go_simp; try exact rfl
            try simp only [Act.put, List.getElem_toArray, List.getElem_cons_succ, List.getElem_cons_zero, List.setIfInBounds_toArray, List.set_cons_zero, List.set_cons_succ]
            refine wpAnyH_take (i := 13) (v := ?_) rfl (by kernel_rfl) (by kernel_rfl) (by kernel_rfl) (fun _ _ _ h => h) (Or.inl ⟨by rfl, ?_⟩) (by assumption) ?_
            rotate_left
            · intro w' hS'; have hS2 : Below wr.heap.size wr w' := hS'; go_simp; try exact rfl
            try simp only [Act.put, List.getElem_toArray, List.getElem_cons_succ, List.getElem_cons_zero, List.setIfInBounds_toArray, List.set_cons_zero, List.set_cons_succ]
            refine wpAnyH_take (i := 14) (v := ?_) rfl (by kernel_rfl) (by kernel_rfl) (by kernel_rfl) (fun _ _ _ h => h) (Or.inl ⟨by rfl, ?_⟩) (by assumption) ?_
            rotate_left
            · intro w' hS'; have hS2 : Below wr.heap.size wr w' := hS'; go_simp; try exact rfl
            try simp only [Act.put, List.getElem_toArray, List.getElem_cons_succ, List.getElem_cons_zero, List.setIfInBounds_toArray, List.set_cons_zero, List.set_cons_succ]
            refine wpAnyH_take (i := 15) (v := .agg (bc (sha l)).toArray) rfl (by kernel_rfl) (by kernel_rfl) (by kernel_rfl) (fun _ _ _ h => h) (yieldsIf_load_mid (by rfl) _ _ rfl sg (j * 32) rfl (bc (sha l)) _ (fun w' hS' q v hq => ((show Below wr.heap.size wr w' from hS').cell (p := ⟨sg, j * 32 + q, none⟩) HSG.out).trans (HRG.out q v hq)) Tryd.underlying24 rfl HIH.out) (by assumption) ?_
            try simp only [Act.put, List.getElem_toArray, List.getElem_cons_succ, List.getElem_cons_zero, List.setIfInBounds_toArray, List.set_cons_zero, List.set_cons_succ]
            refine wpAnyH_take (i := 16) (v := ?_) rfl (by kernel_rfl) (by kernel_rfl) (by kernel_rfl) (fun _ _ _ h => h) (Or.inl ⟨by rfl, ?_⟩) (by assumption) ?_
            rotate_left
            · intro w' hS'; have hS2 : Below wr.heap.size wr w' := hS'; go_simp; try exact rfl
            try simp only [Act.put, List.getElem_toArray, List.getElem_cons_succ, List.getElem_cons_zero, List.setIfInBounds_toArray, List.set_cons_zero, List.set_cons_succ]
            refine wpAnyH_take (i := 17) (v := ?_) rfl (by kernel_rfl) (by kernel_rfl) (by kernel_rfl) (fun _ _ _ h => h) (Or.inl ⟨by rfl, ?_⟩) (by assumption) ?_
            rotate_left
            · intro w' hS'; have hS2 : Below wr.heap.size wr w' := hS'; go_simp; try exact rfl
            try simp only [Act.put, List.getElem_toArray, List.getElem_cons_succ, List.getElem_cons_zero, List.setIfInBounds_toArray, List.set_cons_zero, List.set_cons_succ]
            refine wpAnyH_take (i := 18) (v := ?_) rfl (by kernel_rfl) (by kernel_rfl) (by kernel_rfl) (fun _ _ _ h => h) (Or.inl ⟨by rfl, ?_⟩) (by assumption) ?_
            rotate_left
            · intro w' hS'; have hS2 : Below wr.heap.size wr w' := hS'; go_simp; try exact rfl
            try simp only [Act.put, List.getElem_toArray, List.getElem_cons_succ, List.getElem_cons_zero, List.setIfInBounds_toArray, List.set_cons_zero, List.set_cons_succ]
            refine wpAnyH_take (i := 19) (v := ?_) rfl (by kernel_rfl) (by kernel_rfl) (by kernel_rfl) (fun _ _ _ h => h) (Or.inl ⟨by rfl, ?_⟩) (by assumption) ?_
            rotate_left
            · intro w' hS'; have hS2 : Below wr.heap.size wr w' := hS'; have c := (hS2.cell (p := ⟨pg, po + j, none⟩) HPG.out).trans HCP.out; go_simp; try exact rfl
            try simp only [Act.put, List.getElem_toArray, List.getElem_cons_succ, List.getElem_cons_zero, List.setIfInBounds_toArray, List.set_cons_zero, List.set_cons_succ]
            refine wpAnyH_ready (rs := [20]) (by kernel_rfl) (by simp) ?_
            refine AllReadyH.cons rfl (fun K hK => ?_) AllReadyH.nil
            go_simp
            (with_reducible refine (refsum3_any pA pn pc l _ ((HSW.out.below hH2).more hH2.size) (by omega)).mono ?_)
            rintro _ w6 ⟨rfl, hb6⟩
            go_wp2_with fail
            refine hK.out _ _ (step_below hH2 hb6) (fun hH3 => ?_)
            clear hK K
            try simp only [Act.put, List.getElem_toArray, List.getElem_cons_succ, List.getElem_cons_zero, List.setIfInBounds_toArray, List.set_cons_zero, List.set_cons_succ]
            refine wpAnyH_take (i := 21) (v := ?_) rfl (by kernel_rfl) (by kernel_rfl) (by kernel_rfl) (fun _ _ _ h => h) (Or.inl ⟨by rfl, ?_⟩) (by assumption) ?_
            rotate_left
            · intro w' hS'; have hS2 : Below wr.heap.size wr w' := hS'; have he := hash_in l w'; go_simp; try exact rfl
            try simp only [Act.put, List.getElem_toArray, List.getElem_cons_succ, List.getElem_cons_zero, List.setIfInBounds_toArray, List.set_cons_zero, List.set_cons_succ]
            refine wpAnyH_take (i := 22) (v := ?_) rfl (by kernel_rfl) (by kernel_rfl) (by kernel_rfl) (fun _ _ _ h => h) (Or.inl ⟨by rfl, ?_⟩) (by assumption) ?_
            rotate_left
            · intro w' hS'; have hS2 : Below wr.heap.size wr w' := hS'; go_simp; try exact rfl
            try simp only [Act.put, List.getElem_toArray, List.getElem_cons_succ, List.getElem_cons_zero, List.setIfInBounds_toArray, List.set_cons_zero, List.set_cons_succ]
            refine wpAnyH_take (i := 23) (v := ?_) rfl (by kernel_rfl) (by kernel_rfl) (by kernel_rfl) (fun _ _ _ h => h) (Or.inl ⟨by rfl, ?_⟩) (by assumption) ?_
            rotate_left
            · intro w' hS'; have hS2 : Below wr.heap.size wr w' := hS'; go_simp; try exact rfl
            try simp only [Act.put, List.getElem_toArray, List.getElem_cons_succ, List.getElem_cons_zero, List.setIfInBounds_toArray, List.set_cons_zero, List.set_cons_succ]
            refine wpAnyH_take (i := 24) (v := ?_) rfl (by kernel_rfl) (by kernel_rfl) (by kernel_rfl) (fun _ _ _ h => h) (Or.inl ⟨by rfl, ?_⟩) (by assumption) ?_
            rotate_left
            · intro w' hS'; have hS2 : Below wr.heap.size wr w' := hS'; go_simp; try exact rfl
            try simp only [Act.put, List.getElem_toArray, List.getElem_cons_succ, List.getElem_cons_zero, List.setIfInBounds_toArray, List.set_cons_zero, List.set_cons_succ]
            refine wpAnyH_take (i := 25) (v := ?_) rfl (by kernel_rfl) (by kernel_rfl) (by kernel_rfl) (fun _ _ _ h => h) (Or.inl ⟨by rfl, ?_⟩) (by assumption) ?_
            rotate_left
            · intro w' hS'; have hS2 : Below wr.heap.size wr w' := hS'; go_simp; try exact rfl
            try simp only [Act.put, List.getElem_toArray, List.getElem_cons_succ, List.getElem_cons_zero, List.setIfInBounds_toArray, List.set_cons_zero, List.set_cons_succ]
            refine wpAnyH_take (i := 26) (v := ?_) rfl (by kernel_rfl) (by kernel_rfl) (by kernel_rfl) (fun _ _ _ h => h) (Or.inl ⟨by rfl, ?_⟩) (by assumption) ?_
            rotate_left
            · intro w' hS'; have hS2 : Below wr.heap.size wr w' := hS'; go_simp; try exact rfl
            try simp only [Act.put, List.getElem_toArray, List.getElem_cons_succ, List.getElem_cons_zero, List.setIfInBounds_toArray, List.set_cons_zero, List.set_cons_succ]
            refine wpAnyH_take (i := 27) (v := ?_) rfl (by kernel_rfl) (by kernel_rfl) (by kernel_rfl) (fun _ _ _ h => h) (Or.inl ⟨by rfl, ?_⟩) (by assumption) ?_
            rotate_left
            · intro w' hS'; have hS2 : Below wr.heap.size wr w' := hS'; have c := (hS2.cell (p := ⟨pg, po + j, none⟩) HPG.out).trans HCP.out; go_simp; try exact rfl
            try simp only [Act.put, List.getElem_toArray, List.getElem_cons_succ, List.getElem_cons_zero, List.setIfInBounds_toArray, List.set_cons_zero, List.set_cons_succ]
            refine wpAnyH_take (i := 28) (v := ?_) rfl (by kernel_rfl) (by kernel_rfl) (by kernel_rfl) (fun _ _ _ h => h) (Or.inl ⟨by rfl, ?_⟩) (by assumption) ?_
            rotate_left
            · intro w' hS'; have hS2 : Below wr.heap.size wr w' := hS'; have cv := HCV.out w' hS2; go_simp; try exact rfl
            try simp only [Act.put, List.getElem_toArray, List.getElem_cons_succ, List.getElem_cons_zero, List.setIfInBounds_toArray, List.set_cons_zero, List.set_cons_succ]
            refine wpAnyH_take (i := 29) (v := ?_) rfl (by kernel_rfl) (by kernel_rfl) (by kernel_rfl) (fun _ _ _ h => h) (Or.inl ⟨by rfl, ?_⟩) (by assumption) ?_
            rotate_left
            · intro w' hS'; have hS2 : Below wr.heap.size wr w' := hS'; go_simp; try exact rfl
            try simp only [Act.put, List.getElem_toArray, List.getElem_cons_succ, List.getElem_cons_zero, List.setIfInBounds_toArray, List.set_cons_zero, List.set_cons_succ]
            refine wpAnyH_take (i := 30) (v := ?_) rfl (by kernel_rfl) (by kernel_rfl) (by kernel_rfl) (fun _ _ _ h => h) (Or.inl ⟨by rfl, ?_⟩) (by assumption) ?_
            rotate_left
            · intro w' hS'; have hS2 : Below wr.heap.size wr w' := hS'; go_simp; try exact rfl
            try simp only [Act.put, List.getElem_toArray, List.getElem_cons_succ, List.getElem_cons_zero, List.setIfInBounds_toArray, List.set_cons_zero, List.set_cons_succ]
            refine wpAnyH_take (i := 31) (v := ?_) rfl (by kernel_rfl) (by kernel_rfl) (by kernel_rfl) (fun _ _ _ h => h) (Or.inl ⟨by rfl, ?_⟩) (by assumption) ?_
            rotate_left
            · intro w' hS'; have hS2 : Below wr.heap.size wr w' := hS'; go_simp; try exact rfl
            try simp only [Act.put, List.getElem_toArray, List.getElem_cons_succ, List.getElem_cons_zero, List.setIfInBounds_toArray, List.set_cons_zero, List.set_cons_succ]
            refine wpAnyH_done (by kernel_rfl) ?_ _
            have HR := Lib.hid (step_below HB.out hH3)
            clear hH0 hH1 hH2 hH3 HB HIH HCV HS5
            go_wp2
            go_roundw
            case rel => exact ⟨j, (j : Int) - 1, by omega, rfl, by omega, HR⟩
            case measure => simp [intOf]
end Go.Proofs.YtkclbhmjhjfgiaaDoor
