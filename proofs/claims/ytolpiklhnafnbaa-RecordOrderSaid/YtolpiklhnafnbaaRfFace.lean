/- The reference's memory of chapter 4: contracts of Erase, Program, Read, Stop, Start, New. -/
import Derived.Test.YtolpiklhnafnbaaRfChange
import Derived.Test.YtolpiklhnafnbaaLaw4Base
namespace Go.Proofs.Ytolpiklhnafnbaa
set_option maxRecDepth 100000
open Go.RowKit Wd Fm

theorem pre_set9 (x y : List UInt8) (k : Nat) (hx : k < x.length) (hy : x.length = y.length) : (x.take k ++ y.drop k).set k (x.getD k 0) = x.take (k + 1) ++ y.drop (k + 1) := by
  have ht : (x.take k).length = k := by rw [List.length_take]; omega
  have hg : x.getD k 0 = x[k] := by simp [List.getD, List.getElem?_eq_getElem hx]
  rw [List.set_append_right _ _ (by omega), ht, Nat.sub_self, List.drop_eq_getElem_cons (by omega), List.set_cons_zero, hg, List.take_succ_eq_append_getElem hx, List.append_assoc]
  rfl
theorem bc_set9 (l : List UInt8) (k : Nat) (c : UInt8) : (bc l).set k (.int .u8 (c.toNat : Int)) = bc (l.set k c) := by unfold bc; rw [← List.map_set]
theorem bc_byte9 (l : List UInt8) (k : Nat) (h : k < l.length) : (bc l)[k]? = some (.int .u8 ((l.getD k 0).toNat : Int)) := by
  rw [bc_get l k h]
  simp [List.getD, List.getElem?_eq_getElem h]

set_option maxRecDepth 100000 in
set_option maxHeartbeats 2000000 in
theorem xerase_any (g : Nat) (m : Mem) (s : Int) (w : World) (h : Rf w g m) :
    Calls Try.prog 37 #[.pointer (some ⟨g, 0, none⟩), .int .i64 s] w fun e w' => e = .returned (.int .i64 (eraseM m s).1) ∧ Rf w' g (eraseM m s).2 ∧ w.grownBy w' (some g) := by
  obtain ⟨xm, A, n, cap, hr, ho, hm⟩ := h.spot
  have c0 := hr.cell (rfCells_at m (.slice A n cap) h.size).2.2.2
  have H1 := Lib.hid h
  clear hr ho h hm
  by_cases hd : m.dead = true
  · rw [eraseM_dead s hd]
    rw [hd] at c0
    clear hd
    go_enter Try.func37, Try.ntmps37
    go_wp2
    go_ret
    exact ⟨rfl, H1.out, grow_refl _ _⟩
  · have hd2 : m.dead = false := by simpa using hd
    rw [hd2] at c0
    by_cases hs : isSector s
    · obtain ⟨t, rfl⟩ : ∃ t : Nat, s = t := ⟨s.toNat, by have := hs.1; omega⟩
      have ht : t < 6 := by have := hs.2; omega
      rw [eraseM_ok t hd2 ht]
      obtain ⟨F, hF⟩ : ∃ F : List UInt8, List.replicate 1024 255 = F := ⟨_, rfl⟩
      obtain ⟨Z, hZ⟩ : ∃ F : List UInt8, List.replicate 1024 0 = F := ⟨_, rfl⟩
      have hFl : F.length = 1024 := by rw [← hF, List.length_replicate]
      have hZl : Z.length = 1024 := by rw [← hZ, List.length_replicate]
      have hFa : ∀ j, j < 1024 → F.getD j 0 = 255 := fun j hj => by rw [← hF]; exact rep_getD _ _ _ hj
      have hmk := fun W => make_bytes W 1024 (by decide)
      rw [hZ, show ((1024 : Nat) : Int) = 1024 from rfl] at hmk
      rw [hF]
      obtain ⟨R, hR⟩ : ∃ R, writeM m (t * 1024) F = R := ⟨_, rfl⟩
      rw [hR]
      have HRR := Lib.hid (And.intro hR (And.intro hFl (And.intro hZl (And.intro hFa hd2))))
      have hti : (t : Int) < 6 := by omega
      clear hd hd2 hs hR hF hZ hFl hZl hFa
      go_enter Try.func37, Try.ntmps37
      go_wp2_with fail
      clear hmk c0
      obtain ⟨G, hG⟩ : ∃ G, w.heap.size = G := ⟨_, rfl⟩
      have hW1 : Hid (Row (w.alloc (.cells (bc Z).toArray 5)) G 5 (bc (F.take 0 ++ Z.drop 0)) ∧ Below G w (w.alloc (.cells (bc Z).toArray 5))) := by
        rw [← hG, List.take_zero, List.drop_zero, List.nil_append]
        exact Lib.hid ⟨Row.new w _ _, below_new (Below.refl _ _) _⟩
      have HG := Lib.hid hG
      rw [hG]
      generalize w.alloc (.cells (bc Z).toArray 5) = w1 at hW1 ⊢
      clear hG
      go_loopw [6] (fun i wr => ∃ j : Nat, j ≤ 1024 ∧ i = .int .i64 j ∧ Hid (Row wr G 5 (bc (F.take j ++ Z.drop j)) ∧ Below G w wr)) (fun i _ => 1024 - (intOf i).toNat)
      case atStart => exact ⟨0, by omega, rfl, hW1⟩
      case round =>
        clear hW1
        obtain ⟨j, hj, rfl, HJ⟩ := hrel
        obtain ⟨_, hFl, hZl, hFa, _⟩ := HRR.out
        by_cases hlt : j < 1024
        · have hji : (j : Int) < 1024 := by omega
          have ca := HJ.out.1.cell (bc_byte9 _ j (by rw [List.length_append, List.length_take, List.length_drop]; omega))
          obtain ⟨ob, hob⟩ : ∃ v, Value.int .u8 ((((F.take j ++ Z.drop j).getD j 0).toNat : Nat) : Int) = v := ⟨_, rfl⟩
          rw [hob] at ca
          have fa := HJ.out.1.frozen j
          have ra := HJ.out.1.set j (.int .u8 (((255 : UInt8).toNat : Nat) : Int))
          rw [bc_set9, ← hFa j hlt, pre_set9 F Z j (by omega) (by omega), hFa j hlt, show (((255 : UInt8).toNat : Nat) : Int) = 255 from rfl] at ra
          have HR := Lib.hid (And.intro ra (below_set HJ.out.2 G j (.int .u8 255) (Nat.le_refl _)))
          clear HJ hob ra hFl hZl hFa
          go_wp2
          go_roundw
          case rel => exact ⟨j + 1, by omega, by go_num, HR⟩
          case measure => simp [intOf]; omega
        · have hj2 : j = 1024 := by omega
          have hrow : Row wr G 5 (bc F ++ []) := by
            have h := HJ.out.1
            rw [hj2, List.take_of_length_le (by omega), List.drop_eq_nil_of_le (by omega)] at h
            rw [List.append_nil] at h ⊢
            exact h
          have hji : ¬ (j : Int) < 1024 := by omega
          have hb := HJ.out.2
          rw [← HG.out] at hb
          have hGg : G ≠ g := by have := H1.out.lt; have := HG.out; omega
          have hx := xchange_any g t 0 1024 1024 G m F wr (H1.out.below hb) HRR.out.2.2.2.2 (row_shows hrow hFl (by decide)) hGg ht (by omega) (by decide)
          rw [Nat.add_zero, HRR.out.1, show ((0 : Nat) : Int) = 0 from rfl] at hx
          have HX := Lib.hid hx
          have HB := Lib.hid (below_grow hb (some g))
          clear hrow hb hGg hx HJ hFl hZl hFa hj2 hj
          go_wp2_with fail
          (with_reducible refine HX.out.mono ?_)
          rintro _ w2 ⟨rfl, hf, hg⟩
          have HE := Lib.hid (And.intro hf (grow_trans HB.out hg (.inl rfl)))
          clear hf hg
          go_wp2
          go_ret
          exact ⟨rfl, HE.out.1, HE.out.2⟩
    · rw [eraseM_addr hd2 hs]
      have hor : s < 0 ∨ (0 ≤ s ∧ 6 ≤ s) := by unfold isSector at hs; omega
      clear hd hd2 hs
      rcases hor with h1 | ⟨h1, h2⟩
      all_goals
        go_enter Try.func37, Try.ntmps37
        go_wp2
        go_ret
        exact ⟨rfl, H1.out, grow_refl _ _⟩

set_option maxRecDepth 100000 in
set_option maxHeartbeats 4000000 in
theorem xprogram_any (g : Nat) (m : Mem) (s p : Int) (A : Option Addr) (n cap : Nat) (b : List UInt8) (w : World) (h : Rf w g m) (hb : Shows w w.heap.size A n cap b) (hn : n ≤ 10000000000) :
    Calls Try.prog 35 #[.pointer (some ⟨g, 0, none⟩), .int .i64 s, .int .i64 p, .slice A n cap] w fun e w' => e = .returned (.int .i64 (programM m s p b).1) ∧ Rf w' g (programM m s p b).2 ∧ w.grownBy w' (some g) := by
  obtain ⟨xm, A0, n0, cap0, hr, ho, hm⟩ := h.spot
  have c0 := hr.cell (rfCells_at m (.slice A0 n0 cap0) h.size).2.2.2
  have H1 := Lib.hid (And.intro h hb)
  have hl := hb.len
  clear hr ho h hb hm
  by_cases hd : m.dead = true
  · rw [programM_dead s p b hd]
    rw [hd] at c0
    clear hd hl
    go_enter Try.func35, Try.ntmps35
    go_wp2
    go_ret
    exact ⟨rfl, H1.out.1, grow_refl _ _⟩
  have hd2 : m.dead = false := by simpa using hd
  rw [hd2] at c0
  by_cases hs : isPage s p
  · obtain ⟨t, rfl⟩ : ∃ t : Nat, s = t := ⟨s.toNat, by have := hs.1.1; omega⟩
    obtain ⟨u, rfl⟩ : ∃ t : Nat, p = t := ⟨p.toNat, by have := hs.2.1; omega⟩
    have ht : t < 6 := by have := hs.1.2; omega
    have hu : u < 64 := by have := hs.2.2; omega
    have hti : (t : Int) < 6 := by omega
    have hui : (u : Int) < 64 := by omega
    by_cases h16 : 16 < n
    · rw [programM_long hd2 hs (by omega)]
      clear hd hd2 hs hl
      go_enter Try.func35, Try.ntmps35
      go_wp2
      go_ret
      exact ⟨rfl, H1.out.1, grow_refl _ _⟩
    · obtain ⟨i0, hi0, hz0, hz1, hz2⟩ := info_parts infoByte
      have hown0 : (w.alloc (.cells #[] 5)).ownsRow w.heap.size 5 1 (.slice (some ⟨w.heap.size, 0, none⟩) 0 0) 0 (bc []) := World.ownsRow_made w #[] 0 (Nat.le_refl _) (Nat.zero_le _) rfl
      have hsrc := (H1.out.2.below (below_new (Below.refl _ _) (.cells #[] 5))).src (P := Try.prog) Try.underlying29
      have HOWN0 := Lib.hid hown0
      have HSRC := Lib.hid hsrc
      have HI0 := Lib.hid hi0
      have HZ0 := Lib.hid hz0
      have HZ1 := Lib.hid hz1
      have HZ2 := Lib.hid hz2
      obtain ⟨R, hR⟩ : ∃ R, programM m t u b = R := ⟨_, rfl⟩
      rw [hR]
      have HL := Lib.hid (And.intro hl (And.intro hd2 (And.intro hs hR)))
      have hpl := padded_len b (by omega)
      have HPL := Lib.hid hpl
      clear hd hd2 hs hl hR hown0 hsrc hi0 hz0 hz1 hz2 hpl
      go_enter Try.func35, Try.ntmps35
      go_wp2_with (at_builtin; refine wpList_ap _ rfl (.tmp 35) (.tmp 36) 29 29 rfl w.heap.size 5 i0 Try.underlying29 HI0.out HZ0.out HZ1.out HZ2.out _ 0 0 [] rfl HOWN0.out _ n b rfl HSRC.out ?c1 ?c2 ?_)
      case c1 => omega
      case c2 => simp
      intro A1 c1 w1 ho1 _ hg1 _
      have hb1 : Below w.heap.size w w1 := (below_new (Below.refl _ _) _).grown hg1 (by simp) (by intro k hk; simp at hk; omega)
      have HO1 : Hid (w1.ownsRow w.heap.size 5 1 (.slice A1 n c1) n (bc (b ++ List.replicate 0 255)) ∧ Below w.heap.size w w1) := Lib.hid ⟨by rw [List.replicate_zero, List.append_nil]; simpa using ho1, hb1⟩
      clear c0 ho1 hg1 hb1 HOWN0 HSRC
      go_wp2_with fail
      go_loopw [9] (fun v wr => ∃ (j M : Nat) (A3 : Option Addr) (c3 : Nat), M ≤ 16 ∧ M = n + j ∧ v = .slice A3 M c3 ∧ Hid (wr.ownsRow w.heap.size 5 1 (.slice A3 M c3) M (bc (b ++ List.replicate j 255)) ∧ Below w.heap.size w wr)) (fun v _ => match v with | .slice _ k _ => 16 - k | _ => 0)
      case atStart => exact ⟨0, n, A1, c1, by omega, rfl, by simp, HO1⟩
      case round =>
        clear HO1
        obtain ⟨j, M, A3, c3, hM16, hM, rfl, HJ⟩ := hrel
        by_cases hlt : M < 16
        · have hMi : (M : Int) < 16 := by omega
          have HO := Lib.hid (HJ.out.1.alloc (.cells #[.int .u8 255] 5))
          have HSL := Lib.hid ((lit_one wr 255 255 rfl).src (P := Try.prog) Try.underlying29)
          have HB := Lib.hid (below_new HJ.out.2 (.cells #[.int .u8 255] 5))
          have HM := Lib.hid hM
          clear HJ hM
          go_wp2_with (at_builtin; refine wpList_ap _ rfl (.tmp 41) (.tmp 42) 29 29 rfl w.heap.size 5 i0 Try.underlying29 HI0.out HZ0.out HZ1.out HZ2.out A3 M c3 _ rfl HO.out _ 1 [255] rfl HSL.out ?c1 ?c2 ?_)
          case c1 => omega
          case c2 => exact HB.out.size
          intro A4 c4 w4 ho4 _ hg4 _
          have hb4 := HB.out.grown hg4 HB.out.size (fun k hk => (own_block HO.out k hk).1)
          have HR : Hid (w4.ownsRow w.heap.size 5 1 (.slice A4 (M + 1) c4) (M + 1) (bc (b ++ List.replicate (j + 1) 255)) ∧ Below w.heap.size w w4) := by
            rw [List.replicate_succ']
            exact Lib.hid ⟨by simpa [List.append_assoc] using ho4, hb4⟩
          clear ho4 hg4 hb4 HO HSL HB
          go_wp2
          go_roundw
          case rel => exact ⟨j + 1, M + 1, A4, c4, by omega, by have := HM.out; omega, rfl, HR⟩
          case measure => simp; omega
        · have hMe : M = 16 := by omega
          subst hMe
          have hown := HJ.out.1
          have hpad : b ++ List.replicate j 255 = padded b := by
            unfold padded
            rw [HL.out.1, show 16 - n = j by omega]
          rw [hpad] at hown
          rcases hown.2 with ⟨_, h0⟩ | ⟨Gx, cx, cur, hv, hGx, _⟩
          · exact absurd h0 (by decide)
          injection hv with hv1 _ hv3
          subst hv1
          subst hv3
          obtain ⟨o, hoo⟩ : ∃ o, t * 1024 + u * 16 = o := ⟨_, rfl⟩
          have hrf := H1.out.1.below HJ.out.2
          have HX := Lib.hid (And.intro hown (And.intro hGx (And.intro hrf (And.intro HJ.out.2 (And.intro hoo (And.intro ht hu))))))
          clear hown hGx hrf hpad HJ hM hoo hlt hM16
          have hc3 := (Shows.of_own HX.out.1).le
          have hc3t := (Shows.of_own HX.out.1).top
          unfold maxLen at hc3t
          have hoB : o + 16 ≤ 6144 := by have := HX.out.2.2.2.2.1; omega
          have H16 : ¬ ((16 : Nat) : Int) < 16 := by omega
          go_wp2_with fail
          go_loopw [10] (fun i wr2 => ∃ j d : Nat, j ≤ 16 ∧ i = .int .i64 j ∧ wr2 = wr.drewN d ∧ Hid (∀ i, i < j → (padded b).getD i 0 &&& ~~~((m.page o 16).getD i 0) = 0)) (fun i _ => 16 - (intOf i).toNat)
          case atStart => exact ⟨0, 0, by omega, rfl, rfl, Lib.hid (fun i hi => absurd hi (by omega))⟩
          case round =>
            obtain ⟨q, d, hq, rfl, rfl, HA⟩ := hrel
            by_cases hqlt : q < 16
            · have hqi : (q : Int) < 16 := by omega
              obtain ⟨hown, hGx, hrf, hbw, hoo, ht, hu⟩ := HX.out
              obtain ⟨fg, fo, fe, _, hNc⟩ := (Shows.of_own hown).cells (by decide)
              injection fe with fe
              injection fe with fe fe2
              subst fe fe2
              have c1 := hNc q hqlt
              rw [Nat.zero_add] at c1
              obtain ⟨xm2, A5, n5, c5, hr5, _, _⟩ := hrf.spot
              have c2 := hr5.cell (rfCells_byte m (.slice A5 n5 c5) hrf.size (o + q) (by omega))
              obtain ⟨a1, ha1⟩ : ∃ c, (padded b).getD q 0 = c := ⟨_, rfl⟩
              obtain ⟨a2, ha2⟩ : ∃ c, m.B.getD (o + q) 0 = c := ⟨_, rfl⟩
              rw [ha1] at c1
              rw [ha2] at c2
              have hv := u8_andNot8 a1 a2
              obtain ⟨z, hz⟩ : ∃ z, a1 &&& ~~~a2 = z := ⟨_, rfl⟩
              rw [hz] at hv
              obtain ⟨e, he⟩ : ∃ e, u * 16 + q = e := ⟨_, rfl⟩
              have he1 : (u : Int) * 16 + (q : Int) = (e : Int) := by omega
              have he2 : (e : Int) < 1024 := by omega
              have he3 : IntKind.i64.wrap ((u : Int) * 16) = (u : Int) * 16 := by rw [IntKind.wrap_i64]; omega
              have he4 : IntKind.i64.wrap (e : Int) = (e : Int) := by rw [IntKind.wrap_i64]; omega
              have hoe : o + q = t * 1024 + e := by omega
              rw [hoe] at c2
              have HZ := Lib.hid (And.intro ha1 (And.intro ha2 (And.intro hz hoe)))
              have HOO := Lib.hid hoo
              clear hown hGx hrf hbw hNc hr5 ha1 ha2 hz he hoe hoo
              have hzz : (((z.toNat : Int) != 0) = false ∧ z = 0) ∨ (((z.toNat : Int) != 0) = true ∧ z ≠ 0) := by
                by_cases h : z = 0
                · left; rw [h]; exact ⟨rfl, rfl⟩
                · right
                  refine ⟨?_, h⟩
                  have : ¬ z.toNat = 0 := fun e => h (UInt8.toNat_inj.1 e)
                  simp
                  omega
              rcases hzz with ⟨hz1, hz2⟩ | ⟨hz1, hz2⟩
              · have HA2 : Hid (∀ i, i < q + 1 → (padded b).getD i 0 &&& ~~~((m.page o 16).getD i 0) = 0) := Lib.hid (fun i hi => by
                  by_cases hiq : i = q
                  · subst hiq
                    rw [page_at m o 16 i hqlt, HZ.out.1, HZ.out.2.1, HZ.out.2.2.1, hz2]
                  · exact HA.out i (by omega))
                clear HA hz2
                go_wp2_with fail
                go_quiet (fail)
                go_wp2
                go_roundw
                case rel => exact ⟨q + 1, _, by omega, by go_num, rfl, HA2⟩
                case measure => simp [intOf]; omega
              · have HRe : Hid (R = (13, m)) := by
                  rw [← HL.out.2.2.2]
                  refine Lib.hid (programM_set HL.out.2.1 ht hu (by rw [HL.out.1]; omega) ?_)
                  rw [HOO.out]
                  unfold setsB
                  rw [List.any_eq_true]
                  refine ⟨q, by rw [HPL.out]; simpa using hqlt, ?_⟩
                  rw [page_at m o 16 q hqlt, HZ.out.1, HZ.out.2.1, HZ.out.2.2.1]
                  simpa using hz2
                have HE : Hid (Rf (wr.drewN d) g m ∧ w.grownBy (wr.drewN d) (some g)) := Lib.hid ⟨⟨HX.out.2.2.1.size, HX.out.2.2.1.l0, HX.out.2.2.1.l1, HX.out.2.2.1.spot⟩, drewN_grow (below_grow HX.out.2.2.2.1 (some g)) d⟩
                clear HA hz2
                go_wp2_with fail
                go_quiet (fail)
                go_wp2
                go_ret
                rw [HRe.out]
                exact ⟨rfl, ⟨HE.out.1.size, HE.out.1.l0, HE.out.1.l1, HE.out.1.spot⟩, ⟨HE.out.2.os, HE.out.2.tape, HE.out.2.output, HE.out.2.size, HE.out.2.block⟩⟩
            · have hq16 : q = 16 := by omega
              have hqi : ¬ (q : Int) < 16 := by omega
              obtain ⟨hown, hGx, hrf, hbw, hoo, ht, hu⟩ := HX.out
              have hset : setsB (m.page o 16) (padded b) = false := by
                unfold setsB
                rw [List.any_eq_false]
                intro i hi
                have hi2 : i < q := by rw [HPL.out] at hi; rw [hq16]; simpa using hi
                rw [HA.out i hi2]
                decide
              have hRe : R = writeM m o (padded b) := by
                rw [← HL.out.2.2.2, ← hoo]
                exact programM_ok HL.out.2.1 ht hu (by rw [HL.out.1]; omega) (by rw [hoo]; exact hset)
              have hrfd : Rf (wr.drewN d) g m := ⟨hrf.size, hrf.l0, hrf.l1, hrf.spot⟩
              have hGg : Gx ≠ g := by have := H1.out.1.lt; omega
              have hsx : Shows (wr.drewN d) (wr.drewN d).heap.size (some ⟨Gx, 0, none⟩) 16 _ (padded b) := Shows.of_own (w := wr.drewN d) hown
              have hx := xchange_any g t (u * 16) 16 _ Gx m (padded b) (wr.drewN d) hrfd HL.out.2.1 hsx hGg ht (by omega) (by decide)
              rw [hoo, ← hRe, show ((u * 16 : Nat) : Int) = (u : Int) * 16 by omega] at hx
              have HX2 := Lib.hid hx
              have HB := Lib.hid (drewN_grow (below_grow hbw (some g)) d)
              clear hown hGx hrf hbw hoo hset hRe hrfd hGg hsx hx HA hq16 hqlt
              go_wp2_with fail
              (with_reducible refine HX2.out.mono ?_)
              rintro _ w2 ⟨rfl, hf, hg⟩
              have HE := Lib.hid (And.intro hf (grow_trans HB.out hg (.inl rfl)))
              clear hf hg
              go_wp2
              go_ret
              exact ⟨rfl, HE.out.1, HE.out.2⟩
  · rw [programM_addr b hd2 hs]
    have hor : s < 0 ∨ (0 ≤ s ∧ 6 ≤ s) ∨ (0 ≤ s ∧ s < 6 ∧ p < 0) ∨ (0 ≤ s ∧ s < 6 ∧ 0 ≤ p ∧ 64 ≤ p) := by unfold isPage isSector at hs; omega
    clear hd hd2 hs hl
    rcases hor with h1 | ⟨h1, h2⟩ | ⟨h1, h2, h3⟩ | ⟨h1, h2, h3, h4⟩
    all_goals
      go_enter Try.func35, Try.ntmps35
      go_wp2
      go_ret
      exact ⟨rfl, H1.out.1, grow_refl _ _⟩
end Go.Proofs.Ytolpiklhnafnbaa
