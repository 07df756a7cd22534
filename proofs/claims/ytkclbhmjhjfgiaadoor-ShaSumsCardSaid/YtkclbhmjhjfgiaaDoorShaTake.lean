/- Contract for package sha's take: a part is worked in. -/
import Derived.Test.YtkclbhmjhjfgiaaDoorShaFold
namespace Go.Proofs.YtkclbhmjhjfgiaaDoor
open Go.RowKit Wd Nm Cm Sm

/-- A summer that took the bytes m. -/
def Summer (w : World) (g : Nat) (m : List UInt8) : Prop := ∃ o l, o.length = 64 ∧ l.length = 64 ∧ o.take (m.length % 64) = m.drop (64 * (m.length / 64)) ∧
  Row w g 45 (cellsOf (folded m (m.length / 64)).list o (m.length : Int) l (sched l 64))
theorem Summer.keep {w w' : World} {g : Nat} {m : List UInt8} (h : Summer w g m) (hk : w'.heap[g]? = w.heap[g]?) : Summer w' g m := by
  obtain ⟨o, l, h1, h2, h3, h4⟩ := h
  exact ⟨o, l, h1, h2, h3, hk.trans h4⟩
theorem cellsOf_splice_open (s : List (BitVec 32)) (o : List UInt8) (n : Int) (l : List UInt8) (ws : List (BitVec 32)) (hs : s.length = 8) (k : Nat) (r : List UInt8) (h : k + r.length ≤ o.length) :
    splice (cellsOf s o n l ws) (8 + k) (bc r) = cellsOf s (splice o k r) n l ws := by
  have e : bc (splice o k r) = splice (bc o) k (bc r) := by
    unfold splice
    simp [bc, List.map_take, List.map_drop]
  unfold cellsOf
  rw [e]
  unfold splice
  simp only [List.append_assoc]
  rw [List.take_append, List.take_append]
  rw [show List.take (8 + k) (wc s) = wc s from List.take_of_length_le (by rw [wc_len]; omega)]
  rw [List.drop_append, List.drop_append]
  rw [show List.drop (8 + k + (bc r).length) (wc s) = [] from List.drop_eq_nil_of_le (by rw [wc_len]; omega)]
  simp only [wc_len, hs, bc_len, List.nil_append, List.append_assoc, List.append_cancel_left_eq]
  have h1 : 8 + k - 8 - o.length = 0 := by omega
  have h2 : 8 + k + r.length - 8 - o.length = 0 := by omega
  rw [h1, h2, List.take_zero, List.drop_zero, List.nil_append, show 8 + k - 8 = k by omega, show 8 + k + r.length - 8 = k + r.length by omega]
theorem cellsOf_setn (s : List (BitVec 32)) (o : List UInt8) (n n2 : Int) (l : List UInt8) (ws : List (BitVec 32)) (hs : s.length = 8) (ho : o.length = 64) : (cellsOf s o n l ws).set 72 (.int .i64 n2) = cellsOf s o n2 l ws := by
  unfold cellsOf
  rw [List.set_append_left _ _ (by simp [wc_len, bc_len, hs, ho]; omega), List.set_append_left _ _ (by simp [wc_len, bc_len, hs, ho]), List.set_append_right _ _ (by simp [wc_len, bc_len, hs, ho])]
  simp [wc_len, bc_len, hs, ho]
theorem open_cut (W : World) (g k : Nat) (x : Int) (hx : x = k) (h1 : k < 64) :
    (Instr.sliceAt 41 (.pointer (some ⟨g, 8, none⟩)) (some (.int .i64 x)) none none).run Tryd.prog W = .ok (.slice (some ⟨g, 8 + k, none⟩) (64 - k) (64 - k)) W := by
  subst hx
  have hL : Tryd.prog.arrayLen 41 = 64 := by kernel_rfl
  have hE : Tryd.prog.elem 41 = 5 := by kernel_rfl
  obtain ⟨i0, hi0, hz0, hz1, hz2⟩ := info_parts infoByte
  rw [run_sliceAt_array_l W _ _ (by rw [hL, hE]; exact Tryd.underlying41) .i64 k (by omega) (by rw [hL]; omega), hL, hE]
  simp [sizeOf, typeInfo, hi0, hz1, Result.andThen, slicedAt, Addr.add_mid]
  omega
theorem bytes_cut (W : World) (A : Option Addr) (n cap c : Nat) (hc : c ≤ n) :
    (Instr.sliceAt 26 (.slice A n cap) (some (.int .i64 (c : Int))) none none).run Tryd.prog W = .ok (.slice (if cap = c then A else A.map (·.add c)) (n - c) (cap - c)) W := by
  have hE : Tryd.prog.elem 26 = 5 := by kernel_rfl
  have hu : Tryd.prog.underlying 26 = some (.slice (Tryd.prog.elem 26)) := by rw [hE]; exact Tryd.underlying26
  obtain ⟨i0, hi0, hz0, hz1, hz2⟩ := info_parts infoByte
  rw [run_sliceAt_slice W _ _ _ _ _ hu, run_slice_l W _ A n cap hu .i64 c (by omega) (by omega), hE]
  simp [sizeOf, typeInfo, hi0, hz1, Result.andThen, sliced]

theorem cell_same {w w' : World} {x : Addr} (e : w'.heap[x.block]? = w.heap[x.block]?) : w'.cell? x = w.cell? x := by
  simp only [World.cell?, e]
theorem shows_at {w w' : World} {B : Nat} {A : Option Addr} {n cap : Nat} {l : List UInt8} (h : Shows w B A n cap l) (hk : ∀ a, A = some a → 0 < n → a.block < B → w'.heap[a.block]? = w.heap[a.block]?) : Shows w' B A n cap l :=
  ⟨h.len, h.le, h.top, fun hn => by
    obtain ⟨g, o, e, hb, hc⟩ := h.spot hn
    exact ⟨g, o, e, hb, fun j hj => (cell_same (x := ⟨g, o + j, none⟩) (show w'.heap[g]? = w.heap[g]? from hk ⟨g, o, none⟩ e hn hb)).trans (hc j hj)⟩⟩

/-! ### what a piece makes of the bytes -/
theorem piece (m r o : List UInt8) (q k c : Nat) (hm : m.length = 64 * q + k) (ho : o.length = 64) (hot : o.take k = m.drop (64 * q)) (hc : c ≤ r.length) (hkc : k + c ≤ 64) :
    (splice o k (r.take c)).length = 64 ∧ (splice o k (r.take c)).take (k + c) = (m ++ r.take c).drop (64 * q) := by
  have hl : (r.take c).length = c := by rw [List.length_take]; omega
  refine ⟨by rw [length_splice _ _ _ (by rw [hl, ho]; omega), ho], ?_⟩
  unfold splice
  rw [← List.append_assoc, hot, List.drop_append_of_le_length (by omega)]
  rw [List.take_append_of_le_length (by rw [List.length_append, List.length_drop, hl]; omega)]
  exact List.take_of_length_le (by rw [List.length_append, List.length_drop, hl]; omega)

set_option maxHeartbeats 2000000 in
theorem take_any (g : Nat) (m p : List UInt8) (A : Option Addr) (n cap : Nat) (w : World) (hS : Summer w g m) (hs : Shows w w.heap.size A n cap p) (hne : ∀ a, A = some a → 0 < n → a.block ≠ g) (hk : StepsAt w) (hg : 1 < g) (hsm : m.length + n ≤ 1000000000000000) :
    Calls Tryd.prog 14 #[.pointer (some ⟨g, 0, none⟩), .slice A n cap] w fun e w' => e = .returned (.tuple #[]) ∧ Summer w' g (m ++ p) ∧ w.grownBy w' (some g) := by
  have HI := Lib.hid infoByte
  go_enter Tryd.func14, Tryd.ntmps14
  go_wp2
  go_loopw [1, 4] (fun v _ wr => ∃ (A' : Option Addr) (n' cap' : Nat) (m' r : List UInt8), v = .slice A' n' cap' ∧ m' ++ r = m ++ p ∧ Summer wr g m' ∧ Shows wr w.heap.size A' n' cap' r ∧ (∀ a, A' = some a → 0 < n' → a.block ≠ g) ∧ w.grownBy wr (some g)) (fun v _ _ => match v with | .slice _ n _ => n | _ => 0)
  case atStart => exact ⟨A, n, cap, m, p, rfl, rfl, hS, hs, hne, grow_refl w _⟩
  case round =>
    have hpl := hs.len
    clear hS hs hne
    obtain ⟨A', n', cap', m', r, rfl, hmr, ⟨o, l, ho, hl, hot, hrow⟩, hsh, hne, hgr⟩ := hrel
    have hrl := hsh.len
    have hlen := congrArg List.length hmr
    simp only [List.length_append] at hlen
    by_cases hn : 0 < n'
    · obtain ⟨q, hq⟩ : ∃ q, m'.length / 64 = q := ⟨_, rfl⟩
      obtain ⟨k, hkk⟩ : ∃ k, m'.length % 64 = k := ⟨_, rfl⟩
      obtain ⟨M, hM⟩ : ∃ M, m'.length = M := ⟨_, rfl⟩
      rw [hq, hkk] at hot
      rw [hq, hM] at hrow
      obtain ⟨b, f, rfl, hbB, hcell⟩ := hsh.spot hn
      have hbg : b ≠ g := hne _ rfl hn
      have hk64 : k < 64 := by omega
      obtain ⟨c, hc⟩ : ∃ c, Nat.min n' (64 - k) = c := ⟨_, rfl⟩
      have hcn : c ≤ n' := by rw [← hc]; exact Nat.min_le_left _ _
      have hck : k + c ≤ 64 := by have : c ≤ 64 - k := by rw [← hc]; exact Nat.min_le_right _ _
                                  omega
      have hc0 : 0 < c := by rw [← hc]; exact Nat.lt_min.2 ⟨hn, by omega⟩
      have hcc : c = n' ∨ k + c = 64 := by rw [← hc]; simp only [Nat.min_def]; split <;> omega
      have hcl : (bc (r.take c)).length = c := by rw [bc_len, List.length_take]; omega
      obtain ⟨pl, pt⟩ := piece m' r o q k c (by omega) ho hot (by omega) hck
      obtain ⟨d, hd⟩ : ∃ d, 64 - k = d := ⟨_, rfl⟩
      obtain ⟨A2, hA2⟩ : ∃ A2, (if cap' = c then some (⟨b, f, none⟩ : Addr) else (some (⟨b, f, none⟩ : Addr)).map (·.add c)) = A2 := ⟨_, rfl⟩
      have hcnn : wr.cell? ⟨g, 72, none⟩ = some (.int .i64 (M : Int)) := hrow.cell (cellsOf_n _ _ _ _ _ rfl ho)
      have hmod : ((M : Int)).tmod 64 = (k : Int) := by rw [Int.tmod_eq_emod_of_nonneg (by omega)]; omega
      have hsl : ∀ W : World, (Instr.sliceAt 41 (.pointer (some ⟨g, 8, none⟩)) (some (.int .i64 (k : Int))) none none).run Tryd.prog W = .ok (.slice (some ⟨g, 8 + k, none⟩) d d) W := fun W => by
        rw [open_cut W g k k rfl hk64, hd]
      have hlen : m'.length + n' = m.length + n := by omega
      have F1 := Lib.hid (And.intro hmr (And.intro hlen (And.intro hq (And.intro hkk (And.intro hM (And.intro hot (And.intro hc (And.intro hcl (And.intro pl (And.intro pt hA2))))))))))
      have HROW := Lib.hid hrow
      have HSH := Lib.hid hsh
      have HK := Lib.hid hk
      clear hmr hlen hq hkk hM hot hc hcl pl pt hA2 hrow hsh hrl hpl hcell hk
      go_wp2_with fail
      go_still_tail 10, (by kernel_rfl)
      change wpList _ _ _ _ _ wr.drew
      obtain ⟨hmr, hlen, hq, hkk, hM, hot, hc, hcl, pl, pt, hA2⟩ := F1.out
      have hr2 : (wr.drew).heap[g]? = some (.cells (cellsOf (folded m' q).list o (M : Int) l (sched l 64)).toArray 45 (0, 0)) := HROW.out
      refine wpList_copy_own rfl (.tmp 16) (.tmp 17) 26 26 rfl 5 Tryd.underlying26 (by
        obtain ⟨i0, hi0, hz0, hz1, hz2⟩ := info_parts HI.out
        rw [hi0]; simp [hz1]) g (8 + k) d d ⟨b, f, none⟩ n' cap' rfl rfl _ _ hr2 (bc (r.take c)) (by rw [hcl, hd.symm.trans rfl, hc]) ?_ ?_ (bc_one _) ?_
      · intro j v hj
        have hjl : j < (bc (r.take c)).length := (List.getElem?_eq_some_iff.1 hj).1
        rw [hcl] at hjl
        obtain ⟨hj2, rfl⟩ := bc_at hj
        obtain ⟨b2, f2, e, _, hc2⟩ := HSH.out.spot hn
        injection e with e
        injection e with e1 e2
        subst e1 e2
        rw [Addr.add_lit]
        have := hc2 j (by have := HSH.out.len; omega)
        show wr.cell? _ = _
        rw [this, List.getElem_take]
      · rw [hcl]
        simp only [List.size_toArray, cellsOf_len, ho, hl, St.list_len, sched_len]
        omega
      have r1 : Row ((wr.drew).setRow g ((cellsOf (folded m' q).list o (M : Int) l (sched l 64)).toArray.toList.take (8 + k) ++ (bc (r.take c) ++ (cellsOf (folded m' q).list o (M : Int) l (sched l 64)).toArray.toList.drop (8 + k + (bc (r.take c)).length))).toArray) g 45 (cellsOf (folded m' q).list (splice o k (r.take c)) (M : Int) l (sched l 64)) := by
        rw [← cellsOf_splice_open _ o _ _ _ rfl k (r.take c) (by rw [bc_len] at hcl; omega)]
        exact setRow_heap (wr.drew) g _ _ _ _ hr2
      have g1 : w.grownBy ((wr.drew).setRow g ((cellsOf (folded m' q).list o (M : Int) l (sched l 64)).toArray.toList.take (8 + k) ++ (bc (r.take c) ++ (cellsOf (folded m' q).list o (M : Int) l (sched l 64)).toArray.toList.drop (8 + k + (bc (r.take c)).length))).toArray) (some g) := by
        refine grow_trans (grow_drew hgr) ⟨rfl, rfl, rfl, by simp [World.setRow], fun j hj hjg => setRow_other _ g j _ (fun e => hjg (by rw [e]))⟩ (.inl rfl)
      generalize (wr.drew).setRow g _ = W1 at r1 g1 ⊢
      rw [hcl]
      have c72 : W1.cell? ⟨g, 72, none⟩ = some (.int .i64 (M : Int)) := r1.cell (cellsOf_n _ _ _ _ _ rfl pl)
      have f72 := r1.frozen 72
      obtain ⟨M2, hM2⟩ : ∃ M2 : Nat, M + c = M2 := ⟨_, rfl⟩
      obtain ⟨n2, hn2⟩ : ∃ x, n' - c = x := ⟨_, rfl⟩
      obtain ⟨cap2, hcap2⟩ : ∃ x, cap' - c = x := ⟨_, rfl⟩
      have hadd : (M : Int) + (c : Int) = (M2 : Int) := by omega
      have hb2 : (M2 : Int) ≤ 1000000000000000 := by omega
      have hsl2 : ∀ W : World, (Instr.sliceAt 26 (.slice (some ⟨b, f, none⟩) n' cap') (some (.int .i64 (c : Int))) none none).run Tryd.prog W = .ok (.slice A2 n2 cap2) W := fun W => by
        rw [bytes_cut W _ _ _ _ hcn, hA2, hn2, hcap2]
      have hsl3 : ∀ W : World, (Instr.slice 26 (.slice (some ⟨b, f, none⟩) n' cap') (some (.int .i64 (c : Int))) none none).run Tryd.prog W = .ok (.slice A2 n2 cap2) W := fun W => by
        rw [← hsl2 W, run_sliceAt_slice W _ _ _ _ _ (show Tryd.prog.underlying 26 = some (.slice (Tryd.prog.elem 26)) by rw [show Tryd.prog.elem 26 = 5 by kernel_rfl]; exact Tryd.underlying26)]
      have r2 := r1.set 72 (.int .i64 (M2 : Int))
      rw [cellsOf_setn _ _ _ _ _ _ rfl pl] at r2
      have g2 := grow_set g1 72 (.int .i64 (M2 : Int))
      -- what is left of the part
      have hml : (m' ++ r.take c).length = M2 := by rw [List.length_append, hM, List.length_take]; have := HSH.out.len; omega
      have hmr2 : (m' ++ r.take c) ++ r.drop c = m ++ p := by rw [List.append_assoc, List.take_append_drop]; exact hmr
      have hsh2 : Shows wr w.heap.size A2 n2 cap2 (r.drop c) := by
        have := HSH.out.drop hcn
        rw [hA2, hn2, hcap2] at this
        exact this
      have hne2 : ∀ a, A2 = some a → 0 < n2 → a.block ≠ g := by
        intro a ha _
        rw [← hA2] at ha
        split at ha
        · injection ha with ha; rw [← ha]; exact hbg
        · simp only [Option.map_some, Option.some.injEq] at ha; rw [← ha, Addr.add_lit]; exact hbg
      have hfold : folded (m' ++ r.take c) q = folded m' q := folded_take _ _ _ (by omega)
      have hqk : M2 = 64 * q + k + c := by omega
      have hkeep : ∀ W' : World, w.grownBy W' (some g) → Shows W' w.heap.size A2 n2 cap2 (r.drop c) := fun W' h => shows_at hsh2 fun a ha hp hlt =>
        (h.block _ hlt (fun e => hne2 a ha hp (Option.some.inj e))).trans (hgr.block _ hlt (fun e => hne2 a ha hp (Option.some.inj e))).symm
      have HX := Lib.hid (And.intro hmr2 (And.intro hml (And.intro hfold (And.intro hqk (And.intro pl pt)))))
      have R2 := Lib.hid r2
      clear hr2 hcnn hmr hlen hq hkk hM hot hc hcl pl pt hA2 hgr hsl hmod r1 g1 r2 hM2 hcap2 hml hmr2 hfold hsh2 hqk
      rcases Nat.lt_or_ge (k + c) 64 with hlt | hge
      · have hmod2 : ((M2 : Int)).tmod 64 = ((k + c : Nat) : Int) := by have hqk := HX.out.2.2.2.1; rw [Int.tmod_eq_emod_of_nonneg (by omega)]; omega
        obtain ⟨k2, hk2⟩ : ∃ x, k + c = x := ⟨_, rfl⟩
        rw [hk2] at hmod2
        have hk20 : ¬ (k2 : Int) = 0 := by omega
        have HLT := Lib.hid hlt
        clear hlt hk2
        go_wp2
        go_roundw
        case rel =>
          obtain ⟨hmr2, hml, hfold, hqk, pl, pt⟩ := HX.out
          have hlt := HLT.out
          refine ⟨A2, n2, cap2, m' ++ r.take c, r.drop c, rfl, hmr2, ⟨_, l, pl, hl, ?_, ?_⟩, hkeep _ g2, hne2, g2⟩
          · rw [hml, show M2 % 64 = k + c by omega, show M2 / 64 = q by omega]
            exact pt
          · rw [hml, show M2 / 64 = q by omega, hfold]
            exact R2.out
        case measure => simp; omega
      · have hmod2 : ((M2 : Int)).tmod 64 = 0 := by have hqk := HX.out.2.2.2.1; rw [Int.tmod_eq_emod_of_nonneg (by omega)]; omega
        go_wp2_with fail
        refine (fold_any g (folded m' q) _ l _ _ HX.out.2.2.2.2.1 hl R2.out (StepsAt.grown HK.out g2 hg) hg).mono ?_
        rintro _ W3 ⟨rfl, r3, g3⟩
        have g4 := grow_trans g2 g3 (.inl rfl)
        have R3 := Lib.hid r3
        clear r3 g2 g3
        go_wp2
        go_roundw
        case rel =>
          obtain ⟨hmr2, hml, hfold, hqk, pl, pt⟩ := HX.out
          refine ⟨A2, n2, cap2, m' ++ r.take c, r.drop c, rfl, hmr2, ⟨_, _, pl, pl, ?_, ?_⟩, hkeep _ g4, hne2, g4⟩
          · rw [hml, show M2 % 64 = 0 by omega, show M2 / 64 = q + 1 by omega, List.take_zero, List.drop_eq_nil_of_le (by omega)]
          · rw [hml, show M2 / 64 = q + 1 by omega]
            have e : folded (m' ++ r.take c) (q + 1) = comp (folded m' q) (splice o k (r.take c)) := by
              rw [show folded (m' ++ r.take c) (q + 1) = comp (folded (m' ++ r.take c) q) (((m' ++ r.take c).drop (64 * q)).take 64) from rfl, hfold, ← pt]
              rw [List.take_of_length_le (show (splice o k (r.take c)).length ≤ k + c by omega), List.take_of_length_le (show (splice o k (r.take c)).length ≤ 64 by omega)]
            rw [e]
            exact R3.out
        case measure => simp; omega
    · have hr0 : r = [] := List.eq_nil_of_length_eq_zero (by omega)
      rw [hr0, List.append_nil] at hmr
      have hS2 : Summer wr g m' := ⟨o, l, ho, hl, hot, hrow⟩
      rw [hmr] at hS2
      clear hmr hot hrow hr0 hlen hrl hpl hsh
      go_wp2
      exact bodyPost_end (results_none rfl _ _ _) rfl ⟨rfl, hS2, hgr⟩
end Go.Proofs.YtkclbhmjhjfgiaaDoor
