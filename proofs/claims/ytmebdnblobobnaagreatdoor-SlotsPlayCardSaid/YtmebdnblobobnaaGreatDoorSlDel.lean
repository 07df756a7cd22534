/- Chapter 6: the library's IndexFunc and DeleteFunc at entries in their places, whatever the predicate. -/
import Derived.Test.YtmebdnblobobnaaGreatDoorSlLack
namespace Go.Proofs.YtmebdnblobobnaaGreatDoor
set_option maxRecDepth 100000
open Go.RowKit _root_.Go.Proofs.YtmebdnblobobnaaGreatDoor.Wd _root_.Go.Proofs.YtmebdnblobobnaaGreatDoor.Nm _root_.Go.Proofs.YtmebdnblobobnaaGreatDoor.Cm _root_.Go.Proofs.YtmebdnblobobnaaGreatDoor.Fm _root_.Go.Proofs.YtmebdnblobobnaaGreatDoor.Sm

def firstI (f : Pl → Bool) : List Pl → Nat → Int
  | [], _ => -1
  | p :: r, k => if f p = true then (k : Int) else firstI f r (k + 1)
theorem firstI_or (f : Pl → Bool) : ∀ (l : List Pl) (k : Nat), (firstI f l k = -1 ∧ ∀ p ∈ l, f p = false) ∨ ∃ j : Nat, ∃ h : j < l.length, firstI f l k = ((k + j : Nat) : Int) ∧ f l[j] = true ∧ ∀ p ∈ l.take j, f p = false
  | [], _ => .inl ⟨rfl, fun p hp => by cases hp⟩
  | p :: r, k => by
    by_cases hp : f p = true
    · refine .inr ⟨0, by simp, by simp [firstI, hp], hp, fun q hq => by cases hq⟩
    · have hp' : f p = false := by simpa using hp
      rcases firstI_or f r (k + 1) with ⟨h1, h2⟩ | ⟨j, hj, h1, h2, h3⟩
      · refine .inl ⟨by simp [firstI, hp', h1], fun q hq => ?_⟩
        rcases List.mem_cons.1 hq with rfl | hq
        · exact hp'
        · exact h2 q hq
      · refine .inr ⟨j + 1, by simpa using hj, ?_, by simpa using h2, fun q hq => ?_⟩
        · simp only [firstI, hp']
          rw [if_neg (by simp), h1]
          congr 1
          omega
        · rw [List.take_succ_cons] at hq
          rcases List.mem_cons.1 hq with rfl | hq
          · exact hp'
          · exact h3 q hq
theorem firstI_step (f : Pl → Bool) (l : List Pl) (j : Nat) (h : j < l.length) (hf : f l[j] = false) : firstI f (l.drop j) j = firstI f (l.drop (j + 1)) (j + 1) := by
  rw [List.drop_eq_getElem_cons h]
  simp [firstI, hf]

set_option maxHeartbeats 4000000 in
theorem index_any (f : Pl → Bool) (S : Array Value) (A : Option Addr) (n cap base : Nat) (ps : List Pl) (w : World) (h : OwnPl w base A n cap ps) (hn : n ≤ 1000)
    (hf : ∀ p ∈ ps, ∀ W, Calls Tryz.prog 45 #[.agg S, .agg p.cells.toArray] W fun e w' => e = .returned (.bool (f p)) ∧ Below W.heap.size W w') :
    Calls Tryz.prog 73 #[.slice A n cap, .func (.func 45) #[.agg S] #[]] w fun e w' => e = .returned (.int .i64 (firstI f ps 0)) ∧ Below w.heap.size w w' := by
  obtain ⟨R, hR⟩ : ∃ R, firstI f ps 0 = R := ⟨_, rfl⟩
  rw [hR]
  have HH := Lib.hid (And.intro h (And.intro hf hR))
  clear h hf hR
  go_enter Tryz.func73, Tryz.ntmps73
  go_wp2_with fail
  go_loopw [8] (fun i wr => ∃ j : Nat, j ≤ n ∧ i = .int .i64 j ∧ Hid (Below w.heap.size w wr ∧ R = firstI f (ps.drop j) j)) (fun i _ => n - (intOf i).toNat)
  case atStart => exact ⟨0, by omega, rfl, Lib.hid ⟨Below.refl _ _, by rw [List.drop_zero]; exact HH.out.2.2.symm⟩⟩
  case round =>
    obtain ⟨j, hj, rfl, HJ⟩ := hrel
    have hlen := HH.out.1.len
    by_cases hlt : j < n
    · have hji : (j : Int) < (n : Int) := by omega
      have hjl : j < ps.length := by omega
      obtain ⟨g, rfl, _, hg, hc⟩ := HH.out.1.spot (by omega)
      have hr := range_over (hc j hjl) HJ.out.1 hg
      have hl := ps[j].cells_len (HH.out.1.sum _ (List.getElem_mem hjl))
      have hcall := HH.out.2.1 ps[j] (List.getElem_mem hjl) wr
      have hst := firstI_step f ps j hjl
      have hfi : f ps[j] = true → firstI f (ps.drop j) j = j := fun ht => by rw [List.drop_eq_getElem_cons hjl]; simp [firstI, ht]
      obtain ⟨p, hp⟩ : ∃ p, ps[j] = p := ⟨_, rfl⟩
      rw [hp] at hr hl hcall hst hfi
      obtain ⟨CP, hCP⟩ : ∃ C, p.cells = C := ⟨_, rfl⟩
      rw [hCP] at hr hl hcall
      obtain ⟨b, hb⟩ : ∃ b, f p = b := ⟨_, rfl⟩
      rw [hb] at hcall hst hfi
      have HC := Lib.hid hcall
      have HI := Lib.hid (pl_size CP hl)
      have HR := Lib.hid hr
      have HS := Lib.hid (And.intro hst hfi)
      clear hc hr hl hcall hst hfi hp hCP hb hlen
      go_wp2_with (first
        | (refine wpList_load_mid rfl 75 (.tmp 14) rfl g (j * 36) rfl CP _ HR.out Tryz.underlying75 rfl HI.out ?_))
      refine HC.out.mono ?_
      rintro _ w2 ⟨rfl, hb2⟩
      have HB := Lib.hid (step_below HJ.out.1 hb2)
      clear hb2 HC
      cases b with
      | true =>
        have hRj : R = (j : Int) := HJ.out.2.trans (HS.out.2 rfl)
        subst hRj
        go_wp2_with fail
        go_ret
        exact ⟨rfl, HB.out⟩
      | false =>
        go_wp2_with fail
        go_roundw
        case rel => exact ⟨j + 1, by omega, by go_num, Lib.hid ⟨HB.out, HJ.out.2.trans (HS.out.1 (by first | rfl | trivial))⟩⟩
        case measure => simp [intOf]; omega
    · have hjn : j = n := by omega
      subst hjn
      have hRm : R = -1 := by rw [HJ.out.2, List.drop_eq_nil_of_le (by omega)]; rfl
      subst hRm
      clear hlen
      go_wp2_with fail
      go_ret
      exact ⟨rfl, HJ.out.1⟩

section
variable {P : Program}
/-- The builtin clear at elements of many cells. -/
theorem run_clear_rows (w : World) (t e : TypeId) (z : Value) (k : Nat) (ht : P.underlying t = some (.slice e)) (hv : ∀ w, (zeroValue e).run P w = .ok z w) (hz : z.cells.size = k) (h1 : ∀ v ∈ z.cells, v.oneCell' = true) (b o n c : Nat) (hn : 0 < n)
    (hc : ∀ j, j < n * k → (w.cell? ⟨b, o + j, none⟩).isSome = true) (hf : ∀ j, j < n * k → w.frozen? ⟨b, o + j, none⟩ = false) :
    ∃ vs : List Value, vs.length = n * k ∧ ∀ ty, (Builtin.clear_ #[t] ty #[.slice (some ⟨b, o, none⟩) n c]).run P w = .ok (.tuple #[]) (w.setCells b o vs) := by
  have hlen : (Builtin.zeroCells z.cells n).toList.length = n * k := by simp [Builtin.zeroCells, hz]
  have hone : ∀ v ∈ (Builtin.zeroCells z.cells n).toList, v.oneCell' = true := by
    intro v hv'
    simp only [Builtin.zeroCells, Array.toList_map, List.mem_map] at hv'
    obtain ⟨i, hi, rfl⟩ := hv'
    have hi2 : i < n * k := by simpa [hz] using hi
    have hkp : 0 < k := by
      rcases Nat.eq_zero_or_pos k with h | h
      · rw [h] at hi2; omega
      · exact h
    have hm : i % z.cells.size < z.cells.size := Nat.mod_lt _ (by rw [hz]; exact hkp)
    rw [getElem!_pos z.cells _ hm]
    exact h1 _ (Array.getElem_mem hm)
  have hst := run_storeCells_cells (P := P) b o (Builtin.zeroCells z.cells n).toList 0 w (by rw [hlen]; simpa using hc) (by rw [hlen]; simpa using hf) hone
  simp only [Nat.add_zero] at hst
  refine ⟨_, hlen, fun ty => ?_⟩
  obtain ⟨m, rfl⟩ : ∃ m, n = m + 1 := ⟨n - 1, by omega⟩
  simp [Builtin.clear_, run_underlying ht, hv, hst]
end
theorem flat_len (ps : List Pl) (h : ∀ p ∈ ps, p.e.sum.length = 32) : (ps.flatMap Pl.cells).length = ps.length * 36 := by
  induction ps with
  | nil => rfl
  | cons p r ih =>
    rw [List.flatMap_cons, List.length_append, p.cells_len (h p (List.mem_cons_self ..)), ih (fun q hq => h q (List.mem_cons_of_mem _ hq)), List.length_cons]
    omega
theorem flat_take (ps : List Pl) (h : ∀ p ∈ ps, p.e.sum.length = 32) (i : Nat) (hi : i ≤ ps.length) : (ps.flatMap Pl.cells).take (i * 36) = (ps.take i).flatMap Pl.cells := by
  have e : ps.flatMap Pl.cells = (ps.take i).flatMap Pl.cells ++ (ps.drop i).flatMap Pl.cells := by rw [← List.flatMap_append, List.take_append_drop]
  have hl := flat_len (ps.take i) (fun p hp => h p (List.mem_of_mem_take hp))
  rw [List.length_take, Nat.min_eq_left hi] at hl
  rw [e, ← hl, List.take_left' rfl]
theorem flat_set (ps : List Pl) (h : ∀ p ∈ ps, p.e.sum.length = 32) (i : Nat) (hi : i < ps.length) (x : Pl) (hx : x.e.sum.length = 32) : splice (ps.flatMap Pl.cells) (i * 36) x.cells = (ps.set i x).flatMap Pl.cells := by
  have hl := flat_len (ps.take i) (fun p hp => h p (List.mem_of_mem_take hp))
  rw [List.length_take, Nat.min_eq_left (Nat.le_of_lt hi)] at hl
  have e : ps = ps.take i ++ ps[i] :: ps.drop (i + 1) := by rw [← List.drop_eq_getElem_cons hi, List.take_append_drop]
  have e2 : ps.set i x = ps.take i ++ x :: ps.drop (i + 1) := List.set_eq_take_append_cons_drop .. |>.trans (by rw [if_pos hi])
  have hc := ps[i].cells_len (h _ (List.getElem_mem hi))
  have hxc := x.cells_len hx
  rw [e2, List.flatMap_append, List.flatMap_cons]
  conv => lhs; rw [e]
  rw [List.flatMap_append, List.flatMap_cons]
  have hd : List.drop (((ps.take i).flatMap Pl.cells).length + 36) ((ps.take i).flatMap Pl.cells ++ (ps[i].cells ++ (ps.drop (i + 1)).flatMap Pl.cells)) = (ps.drop (i + 1)).flatMap Pl.cells := by
    rw [← List.append_assoc, List.drop_left' (by rw [List.length_append, hc])]
  unfold splice
  rw [← hl, List.take_left' rfl, hxc, hd]
theorem splice_take (cs vs : List Value) (o k : Nat) (h : o + vs.length ≤ k) (hk : k ≤ cs.length) : (splice cs o vs).take k = splice (cs.take k) o vs := by
  unfold splice
  have h1 : (cs.take o).length = o := by rw [List.length_take]; omega
  rw [List.take_append, List.take_append, h1, List.take_of_length_le (show (cs.take o).length ≤ k by omega), List.take_of_length_le (show vs.length ≤ k - o by omega), List.take_take, Nat.min_eq_left (by omega), List.drop_take, show k - o - vs.length = k - (o + vs.length) by omega]
theorem splice_length (cs vs : List Value) (o : Nat) (h : o + vs.length ≤ cs.length) : (splice cs o vs).length = cs.length := by
  unfold splice
  rw [List.length_append, List.length_append, List.length_take, List.length_drop]
  omega
/-- An entry in the place of another one. -/
theorem OwnPl.set {w : World} {base g n cap : Nat} {ps : List Pl} (h : OwnPl w base (some ⟨g, 0, none⟩) n cap ps) (i : Nat) (hi : i < n) (x : Pl) (hx : x.e.sum.length = 32) :
    OwnPl (w.setCells g (i * 36) x.cells) base (some ⟨g, 0, none⟩) n cap (ps.set i x) ∧ w.there g (i * 36) 36 := by
  rcases h.own.2 with ⟨h', _⟩ | ⟨g', cap', cur, h', hb, hg, hnc, hcm, hcs, ht⟩
  · cases h'
  · injection h' with h1 h2 h3
    injection h1 with h1
    injection h1 with h1
    subst h1 h3
    have hxc := x.cells_len hx
    have hin : i * 36 + 36 ≤ cap * 36 := by omega
    have hcl : cur.toList.length = cap * 36 := by rw [Array.length_toList, hcs]
    have hrow : Row w g 75 cur.toList := by unfold Row; rw [Array.toArray_toList]; exact hg
    have hr2 := setCells_row g 75 x.cells (i * 36) w cur.toList hrow (by rw [hxc, hcl]; exact hin)
    refine ⟨⟨⟨?_, .inr ⟨g, cap, (splice cur.toList (i * 36) x.cells).toArray, rfl, hb, hr2, hnc, hcm, ?_, ?_⟩⟩, by rw [List.length_set]; exact h.len, fun p hp => ?_⟩, hrow.there _ _ (by rw [hcl]; exact hin)⟩
    · have hs : ∀ p ∈ ps.set i x, p.e.sum.length = 32 := fun p hp => by
        rcases List.mem_or_eq_of_mem_set hp with h1 | h1
        · exact h.sum p h1
        · rw [h1]; exact hx
      rw [flat_len _ hs, List.length_set, h.len]
    · rw [List.size_toArray, splice_length _ _ _ (by rw [hxc, hcl]; exact hin), hcl]
    · rw [List.toList_toArray, splice_take _ _ _ _ (by rw [hxc]; omega) (by rw [hcl]; omega), ht]
      exact flat_set ps h.sum i (by rw [h.len]; exact hi) x hx
    · rcases List.mem_or_eq_of_mem_set hp with h1 | h1
      · exact h.sum p h1
      · rw [h1]; exact hx
/-- Cut off, with whatever behind. -/
theorem OwnPl.cut {w : World} {base g n cap : Nat} {ps : List Pl} (h : OwnPl w base (some ⟨g, 0, none⟩) n cap ps) (i : Nat) (hi : i ≤ n) (vs : List Value) (hv : vs.length = (n - i) * 36) :
    OwnPl (w.setCells g (i * 36) vs) base (some ⟨g, 0, none⟩) i cap (ps.take i) ∧ w.there g (i * 36) ((n - i) * 36) := by
  rcases h.own.2 with ⟨h', _⟩ | ⟨g', cap', cur, h', hb, hg, hnc, hcm, hcs, ht⟩
  · cases h'
  · injection h' with h1 h2 h3
    injection h1 with h1
    injection h1 with h1
    subst h1 h3
    have hin : i * 36 + (n - i) * 36 ≤ cap * 36 := by omega
    have hcl : cur.toList.length = cap * 36 := by rw [Array.length_toList, hcs]
    have hrow : Row w g 75 cur.toList := by unfold Row; rw [Array.toArray_toList]; exact hg
    have hr2 := setCells_row g 75 vs (i * 36) w cur.toList hrow (by rw [hv, hcl]; exact hin)
    have hs : ∀ p ∈ ps.take i, p.e.sum.length = 32 := fun p hp => h.sum p (List.mem_of_mem_take hp)
    refine ⟨⟨⟨?_, .inr ⟨g, cap, (splice cur.toList (i * 36) vs).toArray, rfl, hb, hr2, by omega, hcm, ?_, ?_⟩⟩, by rw [List.length_take, h.len]; omega, hs⟩, hrow.there _ _ (by rw [hcl]; exact hin)⟩
    · rw [flat_len _ hs, List.length_take, h.len, Nat.min_eq_left hi]
    · rw [List.size_toArray, splice_length _ _ _ (by rw [hv, hcl]; exact hin), hcl]
    · rw [List.toList_toArray]
      unfold splice
      rw [List.take_left' (by rw [List.length_take, hcl]; omega), ← flat_take ps h.sum i (by rw [h.len]; exact hi), ← ht, List.take_take, Nat.min_eq_left (by omega)]
theorem keep_take (f : Pl → Bool) (ps : List Pl) (j : Nat) (h : j < ps.length) : (ps.take (j + 1)).filter (fun p => !f p) = (ps.take j).filter (fun p => !f p) ++ (if f ps[j] = true then [] else [ps[j]]) := by
  rw [List.take_succ_eq_append_getElem h, List.filter_append]
  congr 1
  by_cases hf : f ps[j] = true <;> simp [hf]
theorem keep_len (f : Pl → Bool) (ps : List Pl) (j : Nat) : ((ps.take j).filter (fun p => !f p)).length ≤ j := by
  have h1 := List.length_filter_le (fun p => !f p) (ps.take j)
  rw [List.length_take] at h1
  omega

set_option maxHeartbeats 4000000 in
theorem del_any (f : Pl → Bool) (S : Array Value) (A : Option Addr) (n cap base : Nat) (ps : List Pl) (w : World) (h : OwnPl w base A n cap ps) (hn : n ≤ 1000) (hbase : base ≤ w.heap.size)
    (hf : ∀ p ∈ ps, ∀ W, Calls Tryz.prog 45 #[.agg S, .agg p.cells.toArray] W fun e w' => e = .returned (.bool (f p)) ∧ Below W.heap.size W w') :
    Calls Tryz.prog 44 #[.slice A n cap, .func (.func 45) #[.agg S] #[]] w fun e w' => ∃ k, e = .returned (.slice A k cap) ∧ OwnPl w' base A k cap (ps.filter fun p => !f p) ∧ k ≤ n ∧ Below base w w' := by
  have hidx := index_any f S A n cap base ps w h hn hf
  rcases firstI_or f ps 0 with ⟨e1, hall⟩ | ⟨k0, hk0, e1, ht, hall⟩
  · have hfil : (ps.filter fun p => !f p) = ps := List.filter_eq_self.2 (fun p hp => by rw [hall p hp]; rfl)
    rw [e1] at hidx
    rw [hfil]
    have HI := Lib.hid hidx
    have HH := Lib.hid (And.intro h hbase)
    clear hidx h hbase hf e1 hall hfil
    go_enter Tryz.func44, Tryz.ntmps44
    go_wp2_with fail
    refine HI.out.mono ?_
    rintro _ w2 ⟨rfl, hb2⟩
    have HB := Lib.hid hb2
    clear hb2 HI
    go_wp2_with fail
    go_ret
    exact ⟨n, rfl, HH.out.1.below HB.out, Nat.le_refl _, HB.out.mono HH.out.2⟩
  · have hlen := h.len
    have hkn : k0 < n := by omega
    obtain ⟨g, rfl, hbg, hg, _⟩ := h.spot (by omega)
    rw [e1, Nat.zero_add] at hidx
    have hk1 : (ps.take k0).filter (fun p => !f p) = ps.take k0 := List.filter_eq_self.2 (fun p hp => by rw [hall p hp]; rfl)
    have hk2 : (ps.take (k0 + 1)).filter (fun p => !f p) = ps.take k0 := by rw [keep_take f ps k0 hk0, hk1, if_pos ht, List.append_nil]
    have HI := Lib.hid hidx
    have HH := Lib.hid (And.intro h (And.intro hbase (And.intro hf (And.intro hk2 (And.intro hbg hg)))))
    have hne1 : ((k0 : Int) == -1) = false := beq_eq_false_iff_ne.2 (by omega)
    have HLN := Lib.hid hlen
    obtain ⟨Z, hzl, hz0, hz⟩ := pl_zero
    have hzo : ∀ v ∈ Z, v.oneCell' = true := by rw [← hz0]; exact Pl.zero.one
    have HZ := Lib.hid (And.intro hz (And.intro hzl hzo))
    clear hidx h hbase hf e1 hall hk1 hk2 ht hz hzl hz0 hlen hzo
    go_enter Tryz.func44, Tryz.ntmps44
    go_wp2_with fail
    refine HI.out.mono ?_
    rintro _ w2 ⟨rfl, hb2⟩
    have HB := Lib.hid hb2
    clear hb2 HI
    go_wp2_with fail
    go_loopw [5, 6] (fun a b wr => ∃ i j : Nat, ∃ qs : List Pl, i < j ∧ j ≤ n ∧ a = .int .i64 i ∧ b = .int .i64 j ∧ Hid (OwnPl wr base (some ⟨g, 0, none⟩) n cap qs ∧ qs.take i = (ps.take j).filter (fun p => !f p) ∧ qs.drop j = ps.drop j ∧ Below base w wr ∧ g < wr.heap.size)) (fun _ b _ => n - (intOf b).toNat)
    case atStart => exact ⟨k0, k0 + 1, ps, by omega, by omega, rfl, by go_num, Lib.hid ⟨HH.out.1.below HB.out, HH.out.2.2.2.1.symm, rfl, HB.out.mono HH.out.2.1, Nat.lt_of_lt_of_le HH.out.2.2.2.2.2 HB.out.size⟩⟩
    case round =>
      clear HB
      obtain ⟨i, j, qs, hij, hj, rfl, rfl, HJ⟩ := hrel
      by_cases hlt : j < n
      · have hji : (j : Int) < (n : Int) := by omega
        have hjl : j < ps.length := by have := HLN.out; omega
        have hql := HJ.out.1.len
        have hjq : j < qs.length := by omega
        have hqj : qs[j] = ps[j] := by
          have h1 := HJ.out.2.2.1
          rw [List.drop_eq_getElem_cons hjl, List.drop_eq_getElem_cons hjq] at h1
          injection h1
        obtain ⟨g', hA, _, _, hc⟩ := HJ.out.1.spot (by omega)
        injection hA with hA
        injection hA with hA
        subst hA
        have hr := hc j hjq
        rw [hqj] at hr
        have hsum := HH.out.1.sum _ (List.getElem_mem hjl)
        have hl := ps[j].cells_len hsum
        have hone := ps[j].one
        have hcall := HH.out.2.2.1 ps[j] (List.getElem_mem hjl)
        have hkt := keep_take f ps j hjl
        obtain ⟨p, hp⟩ : ∃ p, ps[j] = p := ⟨_, rfl⟩
        rw [hp] at hr hl hcall hone hsum hkt
        obtain ⟨CP, hCP⟩ : ∃ C, p.cells = C := ⟨_, rfl⟩
        rw [hCP] at hr hl hcall hone
        obtain ⟨b, hb⟩ : ∃ b, f p = b := ⟨_, rfl⟩
        rw [hb] at hcall hkt
        have HC := Lib.hid hcall
        have HI := Lib.hid (pl_size CP hl)
        have HI2 := Lib.hid (show (Tryz.prog.info? 75).map (·.size) = some CP.toArray.size by rw [pl_size CP hl]; simp)
        have HR := Lib.hid hr
        have HZL := Lib.hid (show Z.length = CP.length by rw [HZ.out.2.1, hl])
        have HP := Lib.hid (And.intro hone (And.intro hsum (And.intro hkt (And.intro hCP hl))))
        clear hc hr hl hone hcall hkt hp hCP hb hsum hql hjq hqj
        go_wp2_with (first
          | (refine wpList_load_mid rfl 75 (.tmp 24) rfl g (j * 36) rfl CP _ HR.out Tryz.underlying75 rfl HI.out ?_)
          | (refine wpList_alloc_row rfl 75 rfl Z HZ.out.1 ?_))
        intro w3 hrow3 hb3 hsz3
        go_wp2_with (refine wpList_store_as rfl _ _ _ rfl wr.heap.size CP rfl rfl 75 Z hrow3 HI.out HZL.out HP.out.1 ?_)
        intro w4 hrow4 hoth4 hg4 hsz4
        have hb4 : Below wr.heap.size wr w4 := step_grow hb3 hg4 (Nat.le_refl _)
        have HK := Lib.hid (And.intro (HJ.out.1.below hb4) (And.intro (HJ.out.2.2.2.1.trans (hb4.mono (Nat.le_trans HH.out.2.1 (Nat.le_trans HJ.out.2.2.2.1.size (Nat.le_refl _))))) (And.intro hrow4 (Nat.lt_of_lt_of_le HJ.out.2.2.2.2 hb4.size))))
        obtain ⟨E, hE⟩ : ∃ E, wr.heap.size = E := ⟨_, rfl⟩
        rw [hE] at HK ⊢
        clear hrow3 hb3 hsz3 hrow4 hoth4 hg4 hsz4 hb4 hE
        have HC4 := Lib.hid (HC.out w4)
        go_upto_region 8 with fail
        go_wp2_with (first
          | (refine wpList_load_row rfl 75 _ rfl E rfl 75 CP.toArray (0, 0) _ HK.out.2.2.1 Tryz.underlying75 rfl HI2.out ?_))
        refine HC4.out.mono ?_
        rintro _ w5 ⟨rfl, hb5⟩
        have HL := Lib.hid (And.intro (HK.out.1.below hb5) (And.intro (HK.out.2.1.trans (hb5.mono (Nat.le_trans HH.out.2.1 HK.out.2.1.size))) (And.intro (HK.out.2.2.1.below hb5 HK.out.2.2.1.lt) (Nat.lt_of_lt_of_le HK.out.2.2.2 hb5.size))))
        clear hb5 HC4 HC HK HR
        cases b with
        | true =>
          have hfl : (ps.take (j + 1)).filter (fun p => !f p) = (ps.take j).filter (fun p => !f p) := by
            have := HP.out.2.2.1
            simpa using this
          have HFL := Lib.hid hfl
          clear hfl
          go_wp2_with fail
          go_roundw
          case rel => exact ⟨i, j + 1, qs, by omega, by omega, rfl, by go_num, Lib.hid ⟨HL.out.1, by rw [HFL.out]; exact HJ.out.2.1, by rw [← List.drop_drop, HJ.out.2.2.1, List.drop_drop], HL.out.2.1, HL.out.2.2.2⟩⟩
          case measure => simp [intOf]; omega
        | false =>
          have hfl : (ps.take (j + 1)).filter (fun p => !f p) = (ps.take j).filter (fun p => !f p) ++ [p] := by
            have := HP.out.2.2.1
            simpa using this
          have hin : i < n := by omega
          have hset := HL.out.1.set i hin p HP.out.2.1
          rw [HP.out.2.2.2.1] at hset
          have hg6 := grow_setCells (g := g) CP (i * 36) w5 (grow_refl w5 _)
          have HSET := Lib.hid (And.intro hset (And.intro hg6 (And.intro hfl (show w5.there g (i * 36) CP.toArray.size by rw [List.size_toArray, HP.out.2.2.2.2]; exact hset.2))))
          have HON := Lib.hid (all_oneCell_toArray HP.out.1)
          clear hfl hset hg6
          go_wp2_with (first
            | (refine wpList_load_row rfl 75 _ rfl E rfl 75 CP.toArray (0, 0) _ HL.out.2.2.1 Tryz.underlying75 rfl HI2.out ?_)
            | (refine wpList_store_mid rfl 75 (.tmp 33) (.tmp 32) rfl g (i * 36) CP.toArray rfl rfl HSET.out.2.2.2 HI2.out HON.out ?_))
          have hql := HJ.out.1.len
          have hnew : (qs.set i p).take (i + 1) = (ps.take (j + 1)).filter (fun p => !f p) ∧ (qs.set i p).drop (j + 1) = ps.drop (j + 1) := by
            refine ⟨?_, ?_⟩
            · rw [HSET.out.2.2.1, ← HJ.out.2.1, List.take_set, List.take_succ_eq_append_getElem (by omega), List.set_append_right _ _ (by rw [List.length_take]; omega)]
              congr 1
              rw [List.length_take, Nat.min_eq_left (by omega), Nat.sub_self, List.set_cons_zero]
            · rw [List.drop_set_of_lt (by omega), ← List.drop_drop, HJ.out.2.2.1, List.drop_drop]
          have hbs : Below base w (w5.setCells g (i * 36) CP) := by
            have h5 := HL.out.2.1
            have hg6 := HSET.out.2.1
            exact ⟨hg6.os.trans h5.os, hg6.tape.trans h5.tape, hg6.output.trans h5.output, Nat.le_trans h5.size hg6.size, fun q hq => (hg6.block q (Nat.lt_of_lt_of_le hq (Nat.le_trans HH.out.2.1 h5.size)) (by have := HH.out.2.2.2.2.1; simp; omega)).trans (h5.block q hq)⟩
          have HN := Lib.hid (And.intro HSET.out.1.1 (And.intro hnew.1 (And.intro hnew.2 (And.intro hbs (Nat.lt_of_lt_of_le HL.out.2.2.2 HSET.out.2.1.size)))))
          clear hql hnew hbs
          go_roundw
          case rel => exact ⟨i + 1, j + 1, qs.set i p, by omega, by omega, by go_num, by go_num, HN⟩
          case measure => simp [intOf]; omega
      · have hjn : j = n := by omega
        subst hjn
        have hcap := own_cap HJ.out.1.own
        have hin : i ≤ j := by omega
        have hall : ps.take j = ps := List.take_of_length_le (by have := HLN.out; omega)
        obtain ⟨vs0, hvl0, _⟩ : ∃ vs : List Value, vs.length = (j - i) * 36 ∧ True := ⟨List.replicate ((j - i) * 36) undef, List.length_replicate, trivial⟩
        have hth := (HJ.out.1.cut i hin vs0 hvl0).2
        obtain ⟨vs, hvl, hcl⟩ := run_clear_rows (P := Tryz.prog) wr 77 75 (.agg Z.toArray) 36 Tryz.underlying77 HZ.out.1 (by simp [Value.cells, HZ.out.2.1]) (by intro v hv; exact HZ.out.2.2 v (by simpa [Value.cells] using hv)) g (i * 36) (j - i) (cap - i) (by omega)
          (fun t ht => (hth t ht).1) (fun t ht => (hth t ht).2)
        have hcut := (HJ.out.1.cut i hin vs hvl).1
        have hg6 := grow_setCells (g := g) vs (i * 36) wr (grow_refl wr _)
        have hbs : Below base w (wr.setCells g (i * 36) vs) := by
          have h5 := HJ.out.2.2.2.1
          exact ⟨hg6.os.trans h5.os, hg6.tape.trans h5.tape, hg6.output.trans h5.output, Nat.le_trans h5.size hg6.size, fun q hq => (hg6.block q (Nat.lt_of_lt_of_le hq (Nat.le_trans HH.out.2.1 h5.size)) (by have := HH.out.2.2.2.2.1; simp; omega)).trans (h5.block q hq)⟩
        have hqf : qs.take i = ps.filter (fun p => !f p) := by rw [HJ.out.2.1, hall]
        rw [hqf] at hcut
        have HN := Lib.hid (And.intro hcut hbs)
        have hci : ¬ (cap = i) := by omega
        have hic : i ≤ cap := by omega
        clear hth hvl hvl0 hg6 hbs hqf hcut hall
        go_wp2_with fail
        go_ret
        exact ⟨i, rfl, HN.out.1, by omega, HN.out.2⟩
end Go.Proofs.YtmebdnblobobnaaGreatDoor
