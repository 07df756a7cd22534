/- Chapter 6: what both slots hold (the program's own functions look and lack). -/
import Derived.Test.YtmebdnblobobnaaGreatDoorSlNew
import Derived.Test.YtmebdnblobobnaaGreatDoorKSha
namespace Go.Proofs.YtmebdnblobobnaaGreatDoor
set_option maxRecDepth 100000
open Go.RowKit _root_.Go.Proofs.YtmebdnblobobnaaGreatDoor.Wd _root_.Go.Proofs.YtmebdnblobobnaaGreatDoor.Nm _root_.Go.Proofs.YtmebdnblobobnaaGreatDoor.Cm _root_.Go.Proofs.YtmebdnblobobnaaGreatDoor.Fm _root_.Go.Proofs.YtmebdnblobobnaaGreatDoor.Sm

/-- What a slot holds. -/
structure Sh where
  full : Bool
  A : Option Addr
  n : Nat
  cap : Nat
  sum : List UInt8
def Sh.cells (s : Sh) : List Value := Value.bool s.full :: .slice s.A s.n s.cap :: bc s.sum
def Sh.zero : Sh := ⟨false, none, 0, 0, List.replicate 32 0⟩
theorem Sh.cells_len (s : Sh) (h : s.sum.length = 32) : s.cells.length = 34 := by simp [Sh.cells, bc_len, h]
theorem Sh.one (s : Sh) : ∀ v ∈ s.cells, v.oneCell' = true := by
  intro v hv
  unfold Sh.cells at hv
  rcases List.mem_cons.1 hv with rfl | hv
  · rfl
  rcases List.mem_cons.1 hv with rfl | hv
  · rfl
  obtain ⟨b, _, rfl⟩ := List.mem_map.1 hv
  rfl
def ShOk (w : World) (base : Nat) (o : Option (List UInt8)) (s : Sh) : Prop :=
  match o with
  | none => s = Sh.zero
  | some b => s.full = true ∧ s.sum = sha b ∧ PartOk w base ⟨s.A, s.n, s.cap, b⟩
theorem ShOk.sum {w : World} {base : Nat} {o : Option (List UInt8)} {s : Sh} (h : ShOk w base o s) : s.sum.length = 32 := by
  cases o with
  | none => have h' : s = Sh.zero := h; rw [h']; rfl
  | some b => obtain ⟨_, h2, _⟩ := h; rw [h2]; exact sha_len b
theorem ShOk.kept {w w' : World} {base : Nat} {o : Option (List UInt8)} {s : Sh} (h : ShOk w base o s) (hk : ∀ p, PartOk w base p → PartOk w' base p) : ShOk w' base o s := by
  cases o with
  | none => exact h
  | some b => exact ⟨h.1, h.2.1, hk _ h.2.2⟩
theorem ShOk.below {w w' : World} {base : Nat} {o : Option (List UInt8)} {s : Sh} (h : ShOk w base o s) (hb : Below w.heap.size w w') : ShOk w' base o s := h.kept fun _ hp => hp.below hb
theorem sh_built (A : Option Addr) (n cap : Nat) (l : List UInt8) (h : l.length = 32) : Tryz.prog.built 84 [(0, .bool true), (1, .slice A n cap), (2, .agg (bc l).toArray)] = some (Sh.cells ⟨true, A, n, cap, l⟩).toArray := by
  obtain ⟨f, rfl⟩ := of_fn32 l h
  clear h
  kernel_rfl
def shZ : List Value := Sh.zero.cells ++ Sh.zero.cells
theorem sh_info : (Tryz.prog.info? 86).map (fun i => (i.zero, i.size)) = some (some (.agg shZ.toArray), 68) := by kernel_rfl
theorem sh_info1 : (Tryz.prog.info? 84).map (·.size) = some 34 := by kernel_rfl
theorem sh_zero : ∃ Z : List Value, Z.length = 68 ∧ shZ = Z ∧ ∀ w : World, (zeroValue 86).run Tryz.prog w = .ok (.agg Z.toArray) w := by
  obtain ⟨hz, _⟩ := zero_of_info sh_info
  exact ⟨shZ, by simp [shZ, Sh.zero, Sh.cells, bc_len], rfl, hz⟩
theorem shs_size (cs : List Value) (h : cs.length = 68) : (Tryz.prog.info? 86).map (·.size) = some cs.length := by
  obtain ⟨_, hz⟩ := zero_of_info sh_info
  rw [hz, h]
theorem splice_first {a b c : List Value} (h : a.length = c.length) : splice (a ++ b) 0 c = c ++ b := by
  unfold splice
  rw [List.take_zero, List.nil_append, Nat.zero_add, ← h, List.drop_left' rfl]
theorem splice_second {a b c : List Value} (h : b.length = c.length) : splice (a ++ b) a.length c = a ++ c := by
  unfold splice
  rw [List.take_left' rfl, ← h, List.drop_eq_nil_of_le (by rw [List.length_append]; omega), List.append_nil]
theorem laid_one6 {w : World} {A : Option Addr} {n cap : Nat} {l : List UInt8} (hs : Shows w w.heap.size A n cap l) (T : TypeId) :
    LaidAt (w.alloc (.cells #[.slice A n cap] T)) (w.alloc (.cells #[.slice A n cap] T)).heap.size (some ⟨w.heap.size, 0, none⟩) 1 [⟨A, n, cap, l⟩] := by
  have hb : Below w.heap.size w (w.alloc (.cells #[.slice A n cap] T)) := (Below.refl _ _).alloc (Nat.le_refl _) _
  refine ⟨rfl, fun _ => ⟨_, 0, rfl, by simp, fun j hj => ?_⟩, fun p hp => ?_⟩
  · have hj0 : j = 0 := by simpa using hj
    subst hj0
    rw [cell_of_row _ _ _ _ T (0, 0) (heap_alloc_new w (.cells #[.slice A n cap] T))]
    rfl
  · obtain rfl : p = ⟨A, n, cap, l⟩ := by simpa using hp
    exact (hs.below hb).more (by simp)

theorem yieldsIf_build {P : Program} {ops : Array Oper} {S : World → Prop} {op : Oper} {a : Act} (hw : Region.wanted op (yielded ops a.tmps) = true) (t : TypeId) (parts : Array (Nat × Operand)) (ho : op.op = .build t parts) (cells : Array Value)
    (hb : P.built t (parts.map fun (i, x) => (i, a.eval x)).toList = some cells) : YieldsIf P ops S op (.agg cells) a :=
  .inl ⟨hw, fun w _ => by
    unfold execOp
    simp only [ho, Sem.run_bind, run_build w t _ cells hb, Result.andThen_ok]
    rfl⟩
theorem PartOk.beside {w w' : World} {base g : Nat} {p : Part} {T : TypeId} {cs : Array Value} (h : PartOk w base p) (hg : w.grownBy w' (some g)) (hr : w.heap[g]? = some (.cells cs T (0, 0))) (hT : T ≠ 5) : PartOk w' base p :=
  h.kept hg (fun k c e hc => by
    injection e with e
    subst e
    rw [hr] at hc
    injection hc with hc
    injection hc with _ h2 _
    exact hT h2)
/-- The shelves that the first k rounds have filled. -/
def Upto (w : World) (base : Nat) (m : Mem) (k : Nat) (s0 s1 : Sh) : Prop :=
  (if 0 < k then ShOk w base (imgM m 0) s0 else s0 = Sh.zero) ∧ (if 1 < k then ShOk w base (imgM m 1) s1 else s1 = Sh.zero)
theorem Upto.kept {w w' : World} {base k : Nat} {m : Mem} {s0 s1 : Sh} (h : Upto w base m k s0 s1) (hp : ∀ p, PartOk w base p → PartOk w' base p) : Upto w' base m k s0 s1 := by
  obtain ⟨h0, h1⟩ := h
  refine ⟨?_, ?_⟩
  · split
    · rename_i hk; rw [if_pos hk] at h0; exact h0.kept hp
    · rename_i hk; rw [if_neg hk] at h0; exact h0
  · split
    · rename_i hk; rw [if_pos hk] at h1; exact h1.kept hp
    · rename_i hk; rw [if_neg hk] at h1; exact h1
theorem Upto.len {w : World} {base k : Nat} {m : Mem} {s0 s1 : Sh} (h : Upto w base m k s0 s1) : s0.cells.length = 34 ∧ s1.cells.length = 34 := by
  obtain ⟨h0, h1⟩ := h
  refine ⟨?_, ?_⟩
  · apply s0.cells_len
    split at h0
    · exact h0.sum
    · rw [h0]; rfl
  · apply s1.cells_len
    split at h1
    · exact h1.sum
    · rw [h1]; rfl
theorem Upto.below {w w' : World} {base k : Nat} {m : Mem} {s0 s1 : Sh} (h : Upto w base m k s0 s1) (hb : Below w.heap.size w w') : Upto w' base m k s0 s1 := by
  obtain ⟨h0, h1⟩ := h
  refine ⟨?_, ?_⟩
  · split
    · rename_i hk; rw [if_pos hk] at h0; exact h0.below hb
    · rename_i hk; rw [if_neg hk] at h0; exact h0
  · split
    · rename_i hk; rw [if_pos hk] at h1; exact h1.below hb
    · rename_i hk; rw [if_neg hk] at h1; exact h1

set_option maxHeartbeats 4000000 in
theorem look_any (x : Nat) (m : Mem) (w : World) (h : Fl w x m) (ht : Tables w) :
    Calls Tryz.prog 43 #[.pointer (some ⟨x, 0, none⟩)] w fun e w' => ∃ s0 s1 : Sh, e = .returned (.agg (s0.cells ++ s1.cells).toArray) ∧ ShOk w' w.heap.size (imgM m 0) s0 ∧ ShOk w' w.heap.size (imgM m 1) s1 ∧ Below w.heap.size w w' := by
  have H := Lib.hid (And.intro h ht)
  clear h ht
  obtain ⟨Z, hzl, hz0, hz⟩ := sh_zero
  have HZ := Lib.hid (And.intro hz (And.intro hzl hz0))
  clear hz hzl hz0
  go_enter Tryz.func43, Tryz.ntmps43
  go_wp2_with (refine wpList_alloc_row rfl 86 rfl Z HZ.out.1 ?_)
  intro w1 hrow1 hb1 hsz1
  have H1 := Lib.hid (And.intro hrow1 (And.intro hb1 hsz1))
  clear hrow1 hb1 hsz1
  go_wp2_with (refine wpList_alloc_row rfl 86 rfl Z HZ.out.1 ?_)
  intro w2 hrow2 hb2 hsz2
  obtain ⟨R, hR⟩ : ∃ R, w.heap.size = R := ⟨_, rfl⟩
  obtain ⟨E, hE⟩ : ∃ E, w1.heap.size = E := ⟨_, rfl⟩
  have HJ0 : Hid (Row w2 R 86 Z ∧ Row w2 E 86 (Sh.zero.cells ++ Sh.zero.cells) ∧ Below R w w2 ∧ Upto w2 R m 0 Sh.zero Sh.zero) := by
    obtain ⟨hrow1, hb1, hsz1⟩ := H1.out
    rw [hR] at hrow1 hb1 hsz1
    rw [hE] at hrow2 hb2 hsz2 hsz1
    refine Lib.hid ⟨(hb2.block R (by omega)).trans hrow1, ?_, hb1.trans (hb2.mono (by omega)), ⟨rfl, rfl⟩⟩
    have : Sh.zero.cells ++ Sh.zero.cells = Z := HZ.out.2.2
    rw [this]; exact hrow2
  have hRE : R < E := by have := H1.out.2.2; omega
  have HR := Lib.hid hR
  rw [hR, hE]
  clear H1 hrow2 hb2 hsz2 hR hE
  go_wp2_with fail
  go_loopw [7] (fun i wr => ∃ k : Nat, ∃ s0 s1 : Sh, k ≤ 2 ∧ i = .int .i64 k ∧ Hid (Row wr R 86 Z ∧ Row wr E 86 (s0.cells ++ s1.cells) ∧ Below R w wr ∧ Upto wr R m k s0 s1)) (fun i _ => 2 - (intOf i).toNat)
  case atStart => exact ⟨0, Sh.zero, Sh.zero, by omega, rfl, HJ0⟩
  case round =>
    clear HJ0
    obtain ⟨k, s0, s1, hk, rfl, HJ⟩ := hrel
    by_cases hk2 : k < 2
    · have hki : (k : Int) < 2 := by omega
      have hb := HJ.out.2.2.1
      rw [← HR.out] at hb
      have hl := load_any x m ((2 : Int) + k) wr (H.out.1.below hb)
      have hTr := H.out.2.below hb
      have hsmall := load_small (readM m ((2 : Int) + k))
      have himg : imgM m k = (loadM (readM m ((2 : Int) + k))).1.head? := rfl
      obtain ⟨F, hF⟩ : ∃ F, (loadM (readM m ((2 : Int) + k))).2 = F := ⟨_, rfl⟩
      obtain ⟨rows, hrows⟩ : ∃ rows, (loadM (readM m ((2 : Int) + k))).1 = rows := ⟨_, rfl⟩
      rw [hF, hrows] at hl
      rw [hrows] at hsmall himg
      have HL := Lib.hid hl
      have HS := Lib.hid (And.intro hsmall (And.intro himg hTr))
      clear hl hsmall himg hTr hF hrows hb
      go_wp2_with fail
      refine HL.out.mono ?_
      rintro _ w3 ⟨A, n, cap, ps, rfl, hp, hps, hb3⟩
      have hn := hp.len
      have hRl := HJ.out.1.lt
      have hEl := HJ.out.2.1.lt
      have HJE := Lib.hid hEl
      have H3 := Lib.hid (And.intro hp (And.intro hps (And.intro (HS.out.2.2.below hb3) (And.intro (HJ.out.1.below hb3 hRl) (And.intro (HJ.out.2.1.below hb3 hEl) (And.intro (HJ.out.2.2.1.trans (hb3.mono (Nat.le_of_lt hRl))) (And.intro (HJ.out.2.2.2.below hb3) (And.intro (show R ≤ wr.heap.size from Nat.le_of_lt hRl) (And.intro hn (show E < w3.heap.size from Nat.lt_of_lt_of_le hEl hb3.size))))))))))
      clear hp hps hb3 hn HL HJ hRl hEl
      by_cases h0 : n = 0
      · subst h0
        have hnone : imgM m k = none := by
          have hps0 : ps = [] := List.eq_nil_of_length_eq_zero H3.out.2.2.2.2.2.2.2.2.1
          have := H3.out.2.1
          rw [hps0] at this
          rw [HS.out.2.1, ← this]
          rfl
        have HN := Lib.hid hnone
        clear hnone
        go_wp2_with fail
        go_roundw
        case rel =>
          refine ⟨k + 1, s0, s1, by omega, by go_num, Lib.hid ⟨H3.out.2.2.2.1, H3.out.2.2.2.2.1, H3.out.2.2.2.2.2.1, ?_⟩⟩
          have hU := H3.out.2.2.2.2.2.2.1
          have hN := HN.out
          match k, hk2 with
          | 0, _ => exact ⟨by have := hU.1; rw [if_pos (by omega)]; rw [if_neg (by omega)] at this; rw [this]; show ShOk _ _ (imgM m ((0 : Nat) : Int)) _; rw [hN]; rfl, by have := hU.2; rw [if_neg (by omega)] at this ⊢; exact this⟩
          | 1, _ => exact ⟨by have := hU.1; rw [if_pos (by omega)] at this ⊢; exact this, by have := hU.2; rw [if_pos (by omega)]; rw [if_neg (by omega)] at this; rw [this]; show ShOk _ _ (imgM m ((1 : Nat) : Int)) _; rw [hN]; rfl⟩
        case measure => simp [intOf]; omega
      · have hn0 : 0 < n := by omega
        have hni : (0 : Int) < (n : Int) := by omega
        obtain ⟨G, o, rfl, hG, hc⟩ := H3.out.1.laid.spot hn0
        have hjl : 0 < ps.length := by have := H3.out.2.2.2.2.2.2.2.2.1; omega
        have hc0 := hc 0 hjl
        rw [Nat.add_zero] at hc0
        have hok := (H3.out.1.each _ (List.getElem_mem hjl)).mono H3.out.2.2.2.2.2.2.2.1
        have hGb : wr.heap.size ≤ G := (own_block H3.out.1.own G rfl).1
        obtain ⟨p, hp⟩ : ∃ p, ps[0] = p := ⟨_, rfl⟩
        rw [hp] at hc0 hok
        obtain ⟨pA, pn, pc, pl⟩ := p
        simp only at hc0
        have hhd : rows.head? = some pl := by
          rw [← H3.out.2.1, List.head?_map]
          have : ps.head? = some ps[0] := by rw [List.head?_eq_getElem?, List.getElem?_eq_getElem hjl]
          rw [this, hp]
          rfl
        have himg : imgM m k = some pl := HS.out.2.1.trans hhd
        have hpl := hok.shows.len
        have hpn : pn ≤ 65535 := by
          have := HS.out.1 pl (List.mem_of_mem_head? hhd)
          simp only at hpl
          omega
        have hlaid := laid_one6 hok.shows 29
        have hbu := sh_built pA pn pc (sha pl) (sha_len pl)
        have hcl := Sh.cells_len ⟨true, pA, pn, pc, sha pl⟩ (sha_len pl)
        have hco := Sh.one ⟨true, pA, pn, pc, sha pl⟩
        obtain ⟨CS, hCS⟩ : ∃ C, (⟨true, pA, pn, pc, sha pl⟩ : Sh).cells = C := ⟨_, rfl⟩
        obtain ⟨SL, hSL⟩ : ∃ C, (bc (sha pl)).toArray = C := ⟨_, rfl⟩
        rw [hCS] at hbu hcl hco
        rw [hSL] at hbu
        have hsh := fun W h1 h2 => shasum_any (some ⟨w3.heap.size, 0, none⟩) 1 1 [⟨pA, pn, pc, pl⟩] W h1 h2 (by decide) (by simp [total]; omega)
        have hj1 : joined [(⟨pA, pn, pc, pl⟩ : Part)] = pl := by simp [joined]
        rw [hj1, hSL] at hsh
        have HSH := Lib.hid hsh
        have HLA := Lib.hid hlaid
        have HCS := Lib.hid (And.intro hbu (And.intro hcl (And.intro hco hCS)))
        have HOK := Lib.hid (And.intro hok (And.intro himg hGb))
        clear hc hok hGb hp hhd himg hpl hlaid hbu hcl hco hCS hSL hsh hj1
        go_wp2_with fail
        have hS0 : w3.drew.cell? ⟨G, o, none⟩ = some (.slice pA pn pc) := hc0
        refine wp_region_held_drew (S := fun U => U.cell? ⟨G, o, none⟩ = some (.slice pA pn pc)) (by kernel_rfl) hS0 (fun hH0 => ?_)
        refine wpAnyH_take (i := 0) (v := ?_) rfl (by kernel_rfl) (by kernel_rfl) (by kernel_rfl) (fun _ _ _ h => h) (Or.inl ⟨by rfl, ?_⟩) (by assumption) ?_
        rotate_left
        · intro w' hS'; go_simp; try exact rfl
        try simp only [Act.put, List.getElem_toArray, List.getElem_cons_zero, List.setIfInBounds_toArray, List.set_cons_zero, List.set_cons_succ]
        refine wpAnyH_take (i := 1) (v := ?_) rfl (by kernel_rfl) (by kernel_rfl) (by kernel_rfl) (fun _ _ _ h => h) (Or.inl ⟨by rfl, ?_⟩) (by assumption) ?_
        rotate_left
        · intro w' hS'; go_simp; try exact rfl
        try simp only [Act.put, List.getElem_toArray, List.getElem_cons_succ, List.getElem_cons_zero, List.setIfInBounds_toArray, List.set_cons_zero, List.set_cons_succ]
        refine wpAnyH_take (i := 2) (v := ?_) rfl (by kernel_rfl) (by kernel_rfl) (by kernel_rfl) (fun _ _ _ h => h) (Or.inl ⟨by rfl, ?_⟩) (by assumption) ?_
        rotate_left
        · intro w' hS'; go_simp; try exact rfl
        try simp only [Act.put, List.getElem_toArray, List.getElem_cons_succ, List.getElem_cons_zero, List.setIfInBounds_toArray, List.set_cons_zero, List.set_cons_succ]
        refine wpAnyH_take (i := 3) (v := ?_) rfl (by kernel_rfl) (by kernel_rfl) (by kernel_rfl) (fun _ _ _ h => h) (Or.inl ⟨by rfl, ?_⟩) (by assumption) ?_
        rotate_left
        · intro w' hS'; go_simp; try exact rfl
        try simp only [Act.put, List.getElem_toArray, List.getElem_cons_succ, List.getElem_cons_zero, List.setIfInBounds_toArray, List.set_cons_zero, List.set_cons_succ]
        refine wpAnyH_take (i := 4) (v := ?_) rfl (by kernel_rfl) (by kernel_rfl) (by kernel_rfl) (fun _ _ _ h => h) (Or.inl ⟨by rfl, ?_⟩) (by assumption) ?_
        rotate_left
        · intro w' hS'; go_simp; try exact rfl
        try simp only [Act.put, List.getElem_toArray, List.getElem_cons_succ, List.getElem_cons_zero, List.setIfInBounds_toArray, List.set_cons_zero, List.set_cons_succ]
        refine wpAnyH_take (i := 5) (v := ?_) rfl (by kernel_rfl) (by kernel_rfl) (by kernel_rfl) (fun _ _ _ h => h) (Or.inl ⟨by rfl, ?_⟩) (by assumption) ?_
        rotate_left
        · intro w' hS'; go_simp; try exact rfl
        try simp only [Act.put, List.getElem_toArray, List.getElem_cons_succ, List.getElem_cons_zero, List.setIfInBounds_toArray, List.set_cons_zero, List.set_cons_succ]
        refine wpAnyH_take (i := 6) (v := ?_) rfl (by kernel_rfl) (by kernel_rfl) (by kernel_rfl) (fun _ _ _ h => h) (Or.inl ⟨by rfl, ?_⟩) (by assumption) ?_
        rotate_left
        · intro w' hS'; go_simp; try exact rfl
        try simp only [Act.put, List.getElem_toArray, List.getElem_cons_succ, List.getElem_cons_zero, List.setIfInBounds_toArray, List.set_cons_zero, List.set_cons_succ]
        refine wpAnyH_ready (rs := [7]) (by kernel_rfl) (by simp) ?_
        refine AllReadyH.cons rfl (fun K hK => ?_) AllReadyH.nil
        go_simp
        have hS1 : ((w3.alloc (.cells #[.slice pA pn pc] 29)).drew).cell? ⟨G, o, none⟩ = some (.slice pA pn pc) := ((below_new (Below.refl _ w3) (.cells #[.slice pA pn pc] 29)).cell (p := ⟨G, o, none⟩) hG).trans hc0
        have hb4 : Below w3.heap.size w3 ((w3.alloc (.cells #[.slice pA pn pc] 29)).drew) := (below_new (Below.refl _ _) _).drew
        have hla4 : LaidAt ((w3.alloc (.cells #[.slice pA pn pc] 29)).drew) ((w3.alloc (.cells #[.slice pA pn pc] 29)).drew).heap.size (some ⟨w3.heap.size, 0, none⟩) 1 [⟨pA, pn, pc, pl⟩] := HLA.out.below (Below.refl _ _).drew
        generalize (w3.alloc (.cells #[.slice pA pn pc] 29)).drew = W4 at hS1 hb4 hla4 ⊢
        refine hK.out _ _ hS1 (fun _ => ?_)
        clear hK K
        try simp only [Act.put, List.getElem_toArray, List.getElem_cons_succ, List.getElem_cons_zero, List.setIfInBounds_toArray, List.set_cons_zero, List.set_cons_succ]
        refine wpAnyH_ready (rs := [8]) (by kernel_rfl) (by simp) ?_
        refine AllReadyH.cons rfl (fun K hK => ?_) AllReadyH.nil
        go_simp
        (with_reducible refine (HSH.out W4 hla4 (H3.out.2.2.1.below hb4)).mono ?_)
        rintro _ w5 ⟨rfl, hb5⟩
        have hb35 : Below w3.heap.size w3 w5 := step_below hb4 hb5
        have hS2 : w5.cell? ⟨G, o, none⟩ = some (.slice pA pn pc) := (hb35.cell (p := ⟨G, o, none⟩) hG).trans hc0
        go_wp2_with fail
        refine hK.out _ _ hS2 (fun _ => ?_)
        clear hK K
        try simp only [Act.put, List.getElem_toArray, List.getElem_cons_succ, List.getElem_cons_zero, List.setIfInBounds_toArray, List.set_cons_zero, List.set_cons_succ]
        refine wpAnyH_take (i := 9) (v := .agg CS.toArray) rfl (by kernel_rfl) (by kernel_rfl) (by kernel_rfl) (fun _ _ _ h => h) (yieldsIf_build rfl 84 #[(0, .const (.bool true)), (1, .tmp 23), (2, .tmp 28)] rfl CS.toArray (by go_simp; exact HCS.out.1)) (by assumption) ?_
        try simp only [Act.put, List.getElem_toArray, List.getElem_cons_succ, List.getElem_cons_zero, List.setIfInBounds_toArray, List.set_cons_zero, List.set_cons_succ]
        refine wpAnyH_take (i := 10) (v := ?_) rfl (by kernel_rfl) (by kernel_rfl) (by kernel_rfl) (fun _ _ _ h => h) (Or.inl ⟨by rfl, ?_⟩) (by assumption) ?_
        rotate_left
        · intro w' hS'; go_simp; try exact rfl
        try simp only [Act.put, List.getElem_toArray, List.getElem_cons_succ, List.getElem_cons_zero, List.setIfInBounds_toArray, List.set_cons_zero, List.set_cons_succ]
        refine wpAnyH_ready (rs := [11]) (by kernel_rfl) (by simp) ?_
        refine AllReadyH.cons rfl (fun K hK => ?_) AllReadyH.nil
        rw [if_pos (by simp [Region.wanted])]
        have hrowE : Row w5 E 86 (s0.cells ++ s1.cells) := H3.out.2.2.2.2.1.below hb35 H3.out.2.2.2.2.2.2.2.2.2
        obtain ⟨hl0, hl1⟩ := H3.out.2.2.2.2.2.2.1.len
        have hkk : k * 34 + 34 ≤ 68 := by omega
        have hthere : w5.there E (k * 34) CS.toArray.size := by
          rw [List.size_toArray, HCS.out.2.1]
          exact hrowE.there _ _ (by rw [List.length_append]; omega)
        refine wp_store_mid 84 (.tmp 30) (.tmp 29) rfl E (k * 34) CS.toArray rfl rfl hthere (by rw [sh_info1, List.size_toArray, HCS.out.2.1]) (all_oneCell_toArray HCS.out.2.2.1) ?_
        have hrow6 := setCells_row E 86 CS.toArray.toList (k * 34) w5 _ hrowE (by rw [List.toList_toArray, HCS.out.2.1, List.length_append]; omega)
        have hg6 := grow_setCells (g := E) CS.toArray.toList (k * 34) w5 (grow_refl w5 _)
        rw [List.toList_toArray] at hrow6 hg6 ⊢
        have hne : G ≠ E := by have := HOK.out.2.2; have := HJE.out; omega
        have hS3 : (w5.setCells E (k * 34) CS).cell? ⟨G, o, none⟩ = some (.slice pA pn pc) := hg6.cell hS2 (by simp; exact hne)
        generalize w5.setCells E (k * 34) CS = w6 at hrow6 hg6 hS3 ⊢
        refine hK.out _ _ hS3 (fun _ => ?_)
        clear hK K
        refine wpAnyH_done (by kernel_rfl) ?_ _
        have hkeep : ∀ p, PartOk w3 R p → PartOk w6 R p := fun p hp => (hp.below hb35).beside hg6 hrowE (by decide)
        have hU6 := H3.out.2.2.2.2.2.2.1.kept hkeep
        have hok6 := hkeep _ HOK.out.1
        have hR5 : Row w5 R 86 Z := H3.out.2.2.2.1.below hb35 (Nat.lt_trans hRE H3.out.2.2.2.2.2.2.2.2.2)
        have hR6 : Row w6 R 86 Z := (hg6.block R hR5.lt (by simp; omega)).trans hR5
        have hb6 : Below R w w6 := by
          have h5 : Below R w w5 := H3.out.2.2.2.2.2.1.trans (hb35.mono (Nat.le_of_lt (Nat.lt_trans hRE H3.out.2.2.2.2.2.2.2.2.2)))
          exact ⟨hg6.os.trans h5.os, hg6.tape.trans h5.tape, hg6.output.trans h5.output, Nat.le_trans h5.size hg6.size, fun q hq => (hg6.block q (Nat.lt_of_lt_of_le (by rw [HR.out]; exact hq) h5.size) (by simp; omega)).trans (h5.block q hq)⟩
        have himg := HOK.out.2.1
        have hrel : ∃ t0 t1 : Sh, Row w6 R 86 Z ∧ Row w6 E 86 (t0.cells ++ t1.cells) ∧ Below R w w6 ∧ Upto w6 R m (k + 1) t0 t1 := by
          match k, hk2 with
          | 0, _ =>
            refine ⟨⟨true, pA, pn, pc, sha pl⟩, s1, hR6, ?_, hb6, ?_, ?_⟩
            · rw [Nat.zero_mul, splice_first (by rw [hl0, HCS.out.2.1])] at hrow6
              rw [HCS.out.2.2.2]; exact hrow6
            · rw [if_pos (by omega)]
              show ShOk _ _ (imgM m ((0 : Nat) : Int)) _
              rw [himg]
              exact ⟨rfl, rfl, hok6⟩
            · have := hU6.2
              rw [if_neg (by omega)] at this ⊢
              exact this
          | 1, _ =>
            refine ⟨s0, ⟨true, pA, pn, pc, sha pl⟩, hR6, ?_, hb6, ?_, ?_⟩
            · rw [Nat.one_mul, show (34 : Nat) = s0.cells.length from hl0.symm, splice_second (by rw [hl1, HCS.out.2.1])] at hrow6
              rw [HCS.out.2.2.2]; exact hrow6
            · have := hU6.1
              rw [if_pos (by omega)] at this ⊢
              exact this
            · rw [if_pos (by omega)]
              show ShOk _ _ (imgM m ((1 : Nat) : Int)) _
              rw [himg]
              exact ⟨rfl, rfl, hok6⟩
        obtain ⟨t0, t1, hrel⟩ := hrel
        have HN := Lib.hid hrel
        clear hrel himg hb6 hR6 hR5 hok6 hU6 hkeep hS3 hg6 hrow6 hthere hkk hl0 hl1 hrowE hS2 hb35 hb5 hla4 hb4 hS1 hS0 hH0 hne
        go_wp2_with fail
        go_roundw
        case rel => exact ⟨k + 1, t0, t1, by omega, by go_num, HN⟩
        case measure => simp [intOf]; omega
    · have hk3 : k = 2 := by omega
      subst hk3
      obtain ⟨hl0, hl1⟩ := HJ.out.2.2.2.len
      have hone : ∀ v ∈ s0.cells ++ s1.cells, v.oneCell' = true := fun v hv => by
        rcases List.mem_append.1 hv with h | h
        · exact s0.one v h
        · exact s1.one v h
      have hcl : (s0.cells ++ s1.cells).length = 68 := by rw [List.length_append, hl0, hl1]
      obtain ⟨CR, hCR⟩ : ∃ C, s0.cells ++ s1.cells = C := ⟨_, rfl⟩
      rw [hCR] at HJ hone hcl
      have HI := Lib.hid (shs_size CR hcl)
      have HI2 := Lib.hid (show (Tryz.prog.info? 86).map (·.size) = some CR.toArray.size by rw [shs_size CR hcl]; simp)
      have HO := Lib.hid (And.intro hone (And.intro (show Z.length = CR.length by rw [HZ.out.2.1, hcl]) hCR))
      clear hl0 hl1 hone hcl hCR
      go_wp2_with (first
        | (refine wpList_load_row rfl 86 _ rfl E rfl 86 CR.toArray (0, 0) _ HJ.out.2.1 Tryz.underlying86 rfl HI2.out ?_)
        | (refine wpList_store_as rfl _ _ _ rfl R CR rfl rfl 86 Z HJ.out.1 HI.out HO.out.2.1 HO.out.1 ?_))
      intro w5 hrow5 hoth5 hg5 hsz5
      have hb5 : Below R w w5 := by
        have k3 := HJ.out.2.2.1
        exact ⟨hg5.os.trans k3.os, hg5.tape.trans k3.tape, hg5.output.trans k3.output, Nat.le_trans k3.size hg5.size, fun q hq => (hoth5 q (by omega)).trans (k3.block q hq)⟩
      have hkeep : ∀ p, PartOk wr R p → PartOk w5 R p := fun p hp => hp.beside hg5 HJ.out.1 (by decide)
      have hU := HJ.out.2.2.2.kept hkeep
      have hU0 := hU.1
      have hU1 := hU.2
      rw [if_pos (by omega)] at hU0 hU1
      go_wp2_with fail
      refine bodyPost_ret (v := .agg CR.toArray) ?_ rfl ⟨s0, s1, by rw [HO.out.2.2], by rw [HR.out]; exact hU0, by rw [HR.out]; exact hU1, by rw [HR.out]; exact hb5⟩
      exact results_row_one (P := Tryz.prog) rfl _ w5 R 86 _ (0, 0) _ rfl hrow5 Tryz.underlying86 rfl HI2.out
end Go.Proofs.YtmebdnblobobnaaGreatDoor
