/- Chapter 6: Mark (the document's own function). -/
import Derived.Test.YtmebdnblobobnaaGreatDoorRef6Entries
import Derived.Test.YtmebdnblobobnaaGreatDoorRef6Store
import Derived.Test.YtmebdnblobobnaaGreatDoorEnt
import Derived.Test.YtmebdnblobobnaaGreatDoorSlMark
namespace Go.Proofs.YtmebdnblobobnaaGreatDoor
set_option maxRecDepth 100000
open Go.RowKit _root_.Go.Proofs.YtmebdnblobobnaaGreatDoor.Wd _root_.Go.Proofs.YtmebdnblobobnaaGreatDoor.Nm _root_.Go.Proofs.YtmebdnblobobnaaGreatDoor.Cm _root_.Go.Proofs.YtmebdnblobobnaaGreatDoor.Fm

theorem flat_get : ∀ (es : List Ent), (∀ e ∈ es, e.sum.length = 32) → ∀ (j : Nat) (h : j < es.length) (i : Nat), i < 34 → (es.flatMap Ent.cells)[j * 34 + i]? = es[j].cells[i]?
  | [], _, j, h, _, _ => absurd h (Nat.not_lt_zero j)
  | e :: r, hs, 0, _, i, hi => by
    have hl : e.cells.length = 34 := by simp [Ent.cells, bc_len, hs e (List.mem_cons_self ..)]
    rw [List.flatMap_cons, Nat.zero_mul, Nat.zero_add, List.getElem?_append_left (by omega)]
    rfl
  | e :: r, hs, j + 1, h, i, hi => by
    have hl : e.cells.length = 34 := by simp [Ent.cells, bc_len, hs e (List.mem_cons_self ..)]
    have ih := flat_get r (fun y hy => hs y (List.mem_cons_of_mem _ hy)) j (by simpa using h) i hi
    rw [List.flatMap_cons, List.getElem?_append_right (by omega), hl, show (j + 1) * 34 + i - 34 = j * 34 + i by omega, ih]
    rfl
theorem OwnEnts.spot {w : World} {base : Nat} {A : Option Addr} {n cap : Nat} {es : List Ent} (h : OwnEnts w base A n cap es) (hn : 0 < n) :
    ∃ g, A = some ⟨g, 0, none⟩ ∧ base ≤ g ∧ g < w.heap.size ∧ ∀ j (hj : j < es.length), ∀ i v, i < 34 → es[j].cells[i]? = some v → w.cell? ⟨g, j * 34 + i, none⟩ = some v := by
  rcases h.own.2 with ⟨h', h0⟩ | ⟨g, cap', cur, h', hb, hg, _⟩
  · omega
  · injection h' with h1 h2 h3
    refine ⟨g, h1, hb, (Array.getElem?_eq_some_iff.1 hg).1, fun j hj i v hi hv => ?_⟩
    have := h.own.cells (g := g) (by rw [h1]; rfl) (j * 34 + i) v (by rw [flat_get es h.sum j hj i hi]; exact hv)
    rw [Addr.add_lit, Nat.zero_add] at this
    exact this
theorem OwnEnts.below {w w' : World} {base : Nat} {A : Option Addr} {n cap : Nat} {es : List Ent} (h : OwnEnts w base A n cap es) (hb : Below w.heap.size w w') : OwnEnts w' base A n cap es :=
  ⟨h.own.kept (below_grow hb none) (by cases h : (Value.slice A n cap).ownBlock <;> simp), h.len, h.sum⟩

theorem xscan_app (s : Int) : ∀ (a b : List Ent) (q : Int × Int), scan s (a ++ b) q = scan s b (scan s a q)
  | [], _, _ => rfl
  | _ :: r, b, _ => xscan_app s r b _
theorem scan_ok (s : Int) (hs : s = 0 ∨ s = 1) : ∀ (l : List Ent) (q : Int × Int), 0 ≤ q.1 → (q.2 = 0 ∨ q.2 = 1) → 0 ≤ (scan s l q).1 ∧ ((scan s l q).2 = 0 ∨ (scan s l q).2 = 1)
  | [], _, h1, h2 => ⟨h1, h2⟩
  | e :: r, q, h1, h2 => by
    unfold scan
    split
    · exact scan_ok s hs r _ (by simp only; omega) hs
    · exact scan_ok s hs r _ h1 h2
def uptoM (m : Mem) : Nat → Int × Int
  | 0 => (0, 0)
  | k + 1 => scan k (entsM m k) (uptoM m k)
theorem upto_ok (m : Mem) (k : Nat) (hk : k ≤ 2) : 0 ≤ (uptoM m k).1 ∧ ((uptoM m k).2 = 0 ∨ (uptoM m k).2 = 1) := by
  have h0 : 0 ≤ (uptoM m 0).1 ∧ ((uptoM m 0).2 = 0 ∨ (uptoM m 0).2 = 1) := ⟨Int.le_refl _, .inl rfl⟩
  have h1 : 0 ≤ (uptoM m 1).1 ∧ ((uptoM m 1).2 = 0 ∨ (uptoM m 1).2 = 1) := scan_ok _ (.inl rfl) _ _ h0.1 h0.2
  have h2 : 0 ≤ (uptoM m 2).1 ∧ ((uptoM m 2).2 = 0 ∨ (uptoM m 2).2 = 1) := scan_ok _ (.inr rfl) _ _ h1.1 h1.2
  match k, hk with
  | 0, _ => exact h0
  | 1, _ => exact h1
  | 2, _ => exact h2
theorem scan_take (s : Int) (es : List Ent) (j : Nat) (h : j < es.length) (q : Int × Int) : scan s (es.take (j + 1)) q = if (scan s (es.take j) q).1 < es[j].seq then (es[j].seq, s) else scan s (es.take j) q := by
  rw [List.take_add_one, List.getElem?_eq_getElem h, xscan_app]
  rfl
theorem ent_built3 (q s : Int) (l : List UInt8) (h : l.length = 32) : Tryz.prog.built 49 [(0, .int .i64 q), (1, .int .i64 s), (2, .agg (bc l).toArray)] = some (Ent.cells ⟨q, s, l⟩).toArray := by
  obtain ⟨f, rfl⟩ := of_fn32 l h
  clear h
  kernel_rfl
set_option maxHeartbeats 4000000 in
theorem xmark6_any (x : Nat) (m : Mem) (slot : Int) (sum : List UInt8) (w : World) (h : Rf w x m) (hl : sum.length = 32) (hs1 : -9223372036854775808 ≤ slot) (hs2 : slot ≤ 9223372036854775807) :
    Calls Tryz.prog 17 #[.pointer (some ⟨x, 0, none⟩), .int .i64 slot, .agg (bc sum).toArray] w fun e w' => e = .returned (.int .i64 (markM m slot sum).1) ∧ Rf w' x (markM m slot sum).2 ∧ w.grownBy w' (some x) := by
  have H := Lib.hid h
  have hx := h.lt
  clear h
  go_enter Tryz.func17, Tryz.ntmps17
  by_cases h1 : slot < 0 ∨ 2 < slot
  · have HM := Lib.hid (show markM m slot sum = (1, m) by unfold markM; rw [if_pos h1])
    go_wp2
    all_goals (go_ret; rw [HM.out]; exact ⟨rfl, H.out.below ((Below.refl _ _).alloc (Nat.le_refl _) _), World.grownBy_alloc _ _ _⟩)
  · have h3 : 0 ≤ slot := by omega
    have h4 : slot ≤ 2 := by omega
    have e1 : ¬ slot < 0 := by omega
    have e2 : ¬ 2 < slot := by omega
    have hme := markM_eq (m := m) (sum := sum) (q := (latest m).1) (s := (latest m).2) h1 rfl
    obtain ⟨RR, hRR⟩ : ∃ R, markM m slot sum = R := ⟨_, rfl⟩
    rw [hRR] at hme ⊢
    have HM := Lib.hid hme
    have hbu := fun q => ent_built3 q slot sum hl
    obtain ⟨BS, hBS⟩ : ∃ B, bc sum = B := ⟨_, rfl⟩
    have hbl : BS.length = 32 := by rw [← hBS, bc_len, hl]
    simp only [hBS] at hbu
    rw [hBS]
    have HBU := Lib.hid hbu
    have HIS := Lib.hid (show (Tryz.prog.info? 39).map (·.size) = some BS.toArray.size by rw [List.size_toArray, hbl]; kernel_rfl)
    clear h1 hme hRR hbu hBS hbl
    go_wp2_with fail
    obtain ⟨W, hW⟩ : ∃ W, w.alloc (Obj.cells BS.toArray 39) = W := ⟨_, rfl⟩
    have hrow : Row W w.heap.size 39 BS := by rw [← hW]; exact Row.new _ _ _
    have hbW : Below w.heap.size w W := by rw [← hW]; exact (Below.refl _ _).alloc (Nat.le_refl _) _
    rw [hW]
    have HROW := Lib.hid (And.intro hrow hbW)
    have HX := Lib.hid (show Rf W x m from H.out.below hbW)
    clear hW hrow hbW
    go_loopw [7, 8, 9] (fun a b c wr => ∃ k : Nat, k ≤ 2 ∧ c = .int .i64 k ∧ a = .int .i64 (uptoM m k).1 ∧ b = .int .i64 (uptoM m k).2 ∧ Hid (Below W.heap.size W wr)) (fun _ _ c _ => 2 - (intOf c).toNat)
    case atStart => exact ⟨0, by omega, rfl, rfl, rfl, Lib.hid (Below.refl _ _)⟩
    case round =>
      obtain ⟨k, hk, rfl, rfl, rfl, HB⟩ := hrel
      by_cases hlt : k < 2
      · have hki : (k : Int) < 2 := by omega
        have hen := xentries_any x m k wr (HX.out.below HB.out)
        have hec : (entsOf (loadM (readM m k)).1).length ≤ 64 := Nat.le_trans (List.length_filterMap_le _ _) (load_count (readM m k))
        obtain ⟨es, hes⟩ : ∃ es, entsOf (loadM (readM m k)).1 = es := ⟨_, rfl⟩
        have hnx : uptoM m (k + 1) = scan k es (uptoM m k) := by rw [← hes]; rfl
        rw [hes] at hen hec
        obtain ⟨q, hq⟩ : ∃ q, uptoM m k = q := ⟨_, rfl⟩
        rw [hq] at hnx ⊢
        have HEN := Lib.hid hen
        have HNX := Lib.hid hnx
        clear hen hes hq hnx
        go_wp2_with fail
        refine HEN.out.mono ?_
        rintro _ w2 ⟨A, n, cap, rfl, hE, hb2⟩
        have hb : Below W.heap.size W w2 := step_below HB.out hb2
        have hn64 : n ≤ 64 := by have := hE.len; omega
        have HE := Lib.hid (And.intro hE hb)
        clear hE hb hb2 HEN
        go_wp2_with fail
        go_loopw [7, 8, 11] (fun a b c wr2 => ∃ j : Nat, j ≤ n ∧ c = .int .i64 j ∧ a = .int .i64 (scan k (es.take j) q).1 ∧ b = .int .i64 (scan k (es.take j) q).2 ∧ Hid (Below w2.heap.size w2 wr2)) (fun _ _ c _ => n - (intOf c).toNat)
        case atStart => exact ⟨0, by omega, rfl, rfl, rfl, Lib.hid (Below.refl _ _)⟩
        case round =>
          obtain ⟨j, hj, rfl, rfl, rfl, HB2⟩ := hrel
          by_cases hjn : j < n
          · have hji : (j : Int) < (n : Int) := by omega
            have hjl : j < es.length := by rw [HE.out.1.len]; exact hjn
            obtain ⟨g, rfl, _, hg, hc⟩ := HE.out.1.spot (by omega)
            have hc0 : wr.cell? ⟨g, j * 34, none⟩ = some (.int .i64 es[j].seq) := (HB2.out.cell (p := ⟨g, j * 34, none⟩) hg).trans (hc j hjl 0 _ (by omega) rfl)
            have ht := scan_take k es j hjl q
            obtain ⟨p, hp⟩ : ∃ p, scan k (es.take j) q = p := ⟨_, rfl⟩
            obtain ⟨v, hv⟩ : ∃ v, es[j].seq = v := ⟨_, rfl⟩
            rw [hp] at ht ⊢
            rw [hv] at ht hc0
            have HT := Lib.hid ht
            clear ht hp hv hc hjl
            by_cases hgt : p.1 < v
            · go_wp2
              go_roundw
              case rel => exact ⟨j + 1, by omega, by go_num, by rw [HT.out, if_pos hgt], by rw [HT.out, if_pos hgt], HB2⟩
              case measure => simp [intOf]; omega
            · go_wp2
              go_roundw
              case rel => exact ⟨j + 1, by omega, by go_num, by rw [HT.out, if_neg hgt], by rw [HT.out, if_neg hgt], HB2⟩
              case measure => simp [intOf]; omega
          · have hjn2 : j = n := by omega
            subst hjn2
            have hall : es.take j = es := List.take_of_length_le (by rw [HE.out.1.len]; exact Nat.le_refl _)
            rw [hall, ← HNX.out]
            have HB3 := Lib.hid (step_below HE.out.2 HB2.out)
            go_wp2
            go_roundw
            case rel => exact ⟨k + 1, by omega, by go_num, rfl, rfl, HB3⟩
            case measure => simp [intOf]; omega
      · have hk2 : k = 2 := by omega
        subst hk2
        have hlat : uptoM m 2 = latest m := rfl
        obtain ⟨l1, l2⟩ := upto_ok m 2 (Nat.le_refl 2)
        rw [hlat] at l1 l2 ⊢
        generalize latest m = q at HM l1 l2 ⊢
        obtain ⟨a, b⟩ := q
        simp only at HM l1 l2 ⊢
        by_cases hov : 1073741824 ≤ a
        · rw [if_pos hov] at HM
          have hx2 := HX.out.below HB.out
          have hg2 : w.grownBy wr (some x) := below_grow (HROW.out.2.trans (HB.out.mono HROW.out.2.size)) _
          go_wp2
          go_ret
          rw [HM.out]
          exact ⟨rfl, hx2, hg2⟩
        · rw [if_neg hov] at HM
          have hw1 : IntKind.i64.wrap (a + 1) = a + 1 := by rw [IntKind.wrap_i64]; omega
          have hw2 : IntKind.i64.wrap (1 - b) = 1 - b := by rw [IntKind.wrap_i64]; omega
          obtain ⟨B, hB⟩ : ∃ B, w.heap.size = B := ⟨_, rfl⟩
          have hrowB := HROW.out.1.below HB.out HROW.out.1.lt
          have hbw : Below w.heap.size w wr := HROW.out.2.trans (HB.out.mono HROW.out.2.size)
          rw [hB] at hrowB ⊢
          have HRB := Lib.hid hrowB
          have hbu := HBU.out (a + 1)
          have hby := xbytes6_any ⟨a + 1, slot, sum⟩ wr hl
          obtain ⟨CE, hCE⟩ : ∃ C, Ent.cells ⟨a + 1, slot, sum⟩ = C := ⟨_, rfl⟩
          obtain ⟨bs, hbs⟩ : ∃ b, Ent.bytes ⟨a + 1, slot, sum⟩ = b := ⟨_, rfl⟩
          rw [hCE] at hbu
          rw [hCE, hbs] at hby
          rw [hbs] at HM
          have HBY := Lib.hid (And.intro hbu hby)
          have hf := HX.out.below HB.out
          have hxr := hf.lt
          have HF := Lib.hid (And.intro hf (And.intro hxr hbw))
          clear hrowB hbu hby hCE hbs hf hxr hbw hB
          have hw1' := hw1
          go_upto_region 15 with fail
          go_wp2_with (first
            | (refine wpList_load_row rfl 39 _ rfl B rfl 39 BS.toArray (0, 0) _ HRB.out Tryz.underlying39 rfl HIS.out ?_)
            | (refine wpList_build_is rfl 49 #[(0, .tmp 49), (1, .tmp 50), (2, .tmp 51)] rfl CE.toArray ?_ ?_; (focus (go_simp; exact HBY.out.1))))
          refine HBY.out.2.mono ?_
          rintro _ w6 ⟨A6, c6, rfl, hs6, hb6, ha6⟩
          have hf6 := HF.out.1.below hb6
          have HAP := Lib.hid (xappend_any x m b A6 48 c6 bs w6 hf6 hs6 (by decide))
          have HQ := Lib.hid (And.intro hs6 (And.intro (show ∀ a, A6 = some a → 0 < 48 → a.block ≠ x from fun a ha _ => by have := ha6 a ha; have := HF.out.2.1; omega) (step_below HF.out.2.2 hb6)))
          clear hs6 hb6 ha6 hf6
          generalize appendM m b bs = r1 at HAP HM
          obtain ⟨er, m1⟩ := r1
          go_wp2_with fail
          refine HAP.out.mono ?_
          rintro _ w7 ⟨rfl, hf7, hg7⟩
          have hg07 : w.grownBy w7 (some x) := (below_grow HQ.out.2.2 _).trans hg7
          have HG := Lib.hid (And.intro hf7 hg07)
          by_cases h5 : er = 4
          · subst h5
            have hR : RR = renewM m1 (1 - b) bs := by have := HM.out; simpa using this
            have hs7 := shows_beside HQ.out.1 hg7 HQ.out.2.1
            have HER := Lib.hid (xerase_any x m1 (1 - b) w7 hf7)
            have hRR2 : RR = if (eraseM m1 (1 - b)).1 ≠ 0 then eraseM m1 (1 - b) else appendM (eraseM m1 (1 - b)).2 (1 - b) bs := hR
            have HR2 := Lib.hid hRR2
            have HS7 := Lib.hid hs7
            clear hf7 hg7 hs7 hg07 hR HAP HM hRR2
            generalize eraseM m1 (1 - b) = r2 at HER HR2
            obtain ⟨e2, m2⟩ := r2
            go_wp2_with fail
            refine HER.out.mono ?_
            rintro _ w8 ⟨rfl, hf8, hg8⟩
            have hs8 := shows_beside HS7.out hg8 HQ.out.2.1
            have HAP := Lib.hid (xappend_any x m2 (1 - b) A6 48 c6 bs w8 hf8 hs8 (by decide))
            have HG8 := Lib.hid (And.intro hf8 (HG.out.2.trans hg8))
            clear hf8 hg8 hs8 HER
            by_cases h6 : e2 = 0
            · subst h6
              have hR : RR = appendM m2 (1 - b) bs := by have := HR2.out; simpa using this
              rw [← hR] at HAP
              clear hR HR2
              go_wp2_with fail
              refine HAP.out.mono ?_
              rintro _ w9 ⟨rfl, hf9, hg9⟩
              have hfin := HG8.out.2.trans hg9
              go_wp2_with fail
              go_ret
              exact ⟨rfl, hf9, hfin⟩
            · have hbe : (e2 != 0) = true := by simpa using h6
              have hR : RR = (e2, m2) := by have := HR2.out; rw [if_pos h6] at this; exact this
              subst hR
              clear HR2
              go_wp2_with fail
              go_ret
              exact ⟨rfl, HG8.out.1, HG8.out.2⟩
          · have hbe : (er != 4) = true := by simpa using h5
            have hR : RR = (er, m1) := by have := HM.out; rw [if_pos h5] at this; exact this
            subst hR
            clear hf7 hg7 hg07 HAP HM
            go_wp2_with fail
            go_ret
            exact ⟨rfl, HG.out.1, HG.out.2⟩
end Go.Proofs.YtmebdnblobobnaaGreatDoor
