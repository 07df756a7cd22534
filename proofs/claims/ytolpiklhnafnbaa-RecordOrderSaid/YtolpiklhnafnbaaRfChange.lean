/- The reference's memory of chapter 4: the contract of its change of bytes. -/
import Derived.Test.YtolpiklhnafnbaaRfModel
import Derived.StillTailTactics
namespace Go.Proofs.Ytolpiklhnafnbaa
set_option maxRecDepth 100000
open Go.RowKit Wd Fm

set_option maxRecDepth 100000 in
set_option maxHeartbeats 4000000 in
theorem xchange_dead (g s at' n cap G : Nat) (m : Mem) (N : List UInt8) (w : World) (h : Rf w g m) (hl : m.left = 1) (hN : Shows w w.heap.size (some ⟨G, 0, none⟩) n cap N) (hG : G ≠ g) (hs : s < 6) (hat : at' + n ≤ 1024) (hn0 : 0 < n) :
    Calls Try.prog 58 #[.pointer (some ⟨g, 0, none⟩), .int .i64 (s : Int), .int .i64 (at' : Int), .slice (some ⟨G, 0, none⟩) n cap] w fun e w' => e = .returned (.int .i64 (writeM m (s * 1024 + at') N).1) ∧ Rf w' g (writeM m (s * 1024 + at') N).2 ∧ w.grownBy w' (some g) := by
  obtain ⟨o, hoo⟩ : ∃ o, s * 1024 + at' = o := ⟨_, rfl⟩
  rw [hoo]
  have hNl := hN.len
  have hsz := h.size
  obtain ⟨xm, A, k, c, hr, ho, hmk⟩ := h.spot
  obtain ⟨X, hX⟩ : ∃ X, mixL (m.page o n) N xm = X := ⟨_, rfl⟩
  have hXl : X.length = n := by rw [← hX, mixL_len, hNl]
  obtain ⟨M1, hM1⟩ : ∃ M1 : Mem, M1 = ⟨m.B, true, wrap64 (m.ops + 1), 0, []⟩ := ⟨_, rfl⟩
  have hwr : writeM m o N = (14, { M1 with B := lay m.B o X }) := by
    unfold writeM
    rw [if_pos hl, hNl, ← hX, ← hmk (by omega), hM1]
    congr 3
    unfold mixL
    refine List.map_congr_left fun i hi => ?_
    rw [maskAt_take _ _ (by have : i < N.length := by simpa using hi
                            omega)]
  obtain ⟨z0, z1, z2, z3⟩ := rfCells_at m (.slice A k c) hsz
  have c0 := hr.cell z0
  have c1 := hr.cell z1
  have c3 := hr.cell z3
  have f0 := hr.frozen 6144
  have f1 := hr.frozen 6145
  have f3 := hr.frozen 6147
  rw [hl] at c1
  have r1 := ((hr.set 6144 (.int .i64 (wrap64 (m.ops + 1)))).set 6145 (.int .i64 0)).set 6147 (.bool true)
  rw [(rfCells_set m (.slice A k c) (.slice A k c) hsz true _).1, (rfCells_set { m with ops := wrap64 (m.ops + 1) } (.slice A k c) (.slice A k c) hsz true 0).2.1, (rfCells_set { m with ops := wrap64 (m.ops + 1), left := 0 } (.slice A k c) (.slice A k c) hsz true 0).2.2.2,
    show rfCells { m with ops := wrap64 (m.ops + 1), left := 0, dead := true } (.slice A k c) = rfCells M1 (.slice A k c) by rw [hM1]; rfl] at r1
  have g1 := grow_set (grow_set (grow_set (grow_refl w (some g)) 6144 (.int .i64 (wrap64 (m.ops + 1)))) 6145 (.int .i64 0)) 6147 (.bool true)
  have HWR := Lib.hid hwr
  have HD := Lib.hid (show M1.dead = true by rw [hM1])
  have HM1 := Lib.hid (show 0 ≤ M1.left ∧ M1.left ≤ 9223372036854775807 ∧ (0 < M1.left → xm.take 1024 = M1.mask) by rw [hM1]; exact ⟨Int.le_refl _, (show (0 : Int) ≤ 9223372036854775807 by decide), fun h => absurd h (Int.lt_irrefl 0)⟩)
  have hmB : M1.B = m.B := by rw [hM1]
  have HW1 := Lib.hid (And.intro r1 g1)
  have HGg := Lib.hid hG
  obtain ⟨fg, fo, fe, _, hNc⟩ := hN.cells hn0
  injection fe with fe
  injection fe with fe fe2
  subst fe fe2
  have H1 := Lib.hid (And.intro h (And.intro hr (And.intro ho (And.intro hsz (And.intro hNc (And.intro hX (And.intro hXl (And.intro hNl hoo))))))))
  clear hM1 hwr h hr ho hsz hNc hX hXl hNl hN hmk r1 g1 z0 z1 z2 z3 hG hoo
  have hcap : n ≤ 1024 := by omega
  go_enter Try.func58, Try.ntmps58
  go_wp2_with fail
  clear c0 c1 c3 f0 f1 f3 hl
  go_loopw [9] (fun i wr => ∃ j : Nat, j ≤ n ∧ i = .int .i64 j ∧ Row wr g 66 (rfCells { M1 with B := lay m.B o (X.take j) } (.slice A k c)) ∧ w.grownBy wr (some g)) (fun i _ => n - (intOf i).toNat)
  case atStart => exact ⟨0, by omega, rfl, by rw [List.take_zero, lay_nil, ← hmB]; exact HW1.out.1, HW1.out.2⟩
  case round =>
    obtain ⟨j, hj, rfl, hrow, hgr⟩ := hrel
    obtain ⟨h, hr, ho, hsz, hNc, hX, hXl, hNl, hoo⟩ := H1.out
    have hBl : (lay m.B o (X.take j)).length = 6144 := by rw [lay_len _ _ _ (by rw [List.length_take, hsz]; omega), hsz]
    obtain ⟨z0, z1, z2, z3⟩ := rfCells_at { M1 with B := lay m.B o (X.take j) } (.slice A k c) hBl
    have d3 := hrow.cell z3
    have d2 := hrow.cell z2
    rw [show ({ M1 with B := lay m.B o (X.take j) } : Mem).dead = true from HD.out] at d3
    by_cases hlt : j < n
    · have c2 := hrow.cell (rfCells_byte { M1 with B := lay m.B o (X.take j) } (.slice A k c) hBl (o + j) (by omega))
      rw [show ({ M1 with B := lay m.B o (X.take j) } : Mem).B.getD (o + j) 0 = m.B.getD (o + j) 0 from lay_front m.B X o j j (by omega) (Nat.le_refl _) (by rw [hsz]; omega)] at c2
      have f2 := hrow.frozen (o + j)
      have c1 : wr.cell? ⟨G, j, none⟩ = some (.int .u8 ((N.getD j 0).toNat : Int)) := by
        have := hNc j hlt
        rw [Nat.zero_add] at this
        exact hgr.cell this (fun e => HGg.out (by injection e))
      obtain ⟨p, hp⟩ : ∃ p, m.B.getD (o + j) 0 = p := ⟨_, rfl⟩
      obtain ⟨b, hb⟩ : ∃ p, N.getD j 0 = p := ⟨_, rfl⟩
      rw [hp] at c2
      rw [hb] at c1
      obtain ⟨mm, hmm⟩ : ∃ mm, maskAt xm j = mm := ⟨_, rfl⟩
      have hmk : (k = 0 ∧ mm = 0) ∨ (0 < k ∧ ∃ mg mo, A = some ⟨mg, mo, none⟩ ∧ j % k < k ∧ wr.cell? ⟨mg, mo + j % k, none⟩ = some (.int .u8 (mm.toNat : Int))) := by
        have ho2 := grow_own ho hgr (own_other ho hr tyx_ne)
        have hs2 := Shows.of_own ho2
        have hkl := hs2.len
        rw [← hmm]
        unfold maskAt
        by_cases hk0 : k = 0
        · exact .inl ⟨hk0, by rw [if_pos (by omega)]⟩
        · obtain ⟨mg, mo, e, _, hc⟩ := hs2.cells (by omega)
          have hlt2 : j % k < k := Nat.mod_lt _ (by omega)
          exact .inr ⟨by omega, mg, mo, e, hlt2, by rw [hc _ hlt2, if_neg (by omega), hkl]⟩
      have hx : (p &&& ~~~mm) ||| (b &&& mm) = X.getD j 0 := by
        rw [← hX, mixL_at _ _ _ _ (by omega), page_at m o n j hlt, hp, hb, hmm]
        rfl
      have v1 := u8_andNot8 p mm
      have v2 := u8_and8 b mm
      have v3 := u8_or8 (p &&& ~~~mm) (b &&& mm)
      rw [hx] at v3
      have r4 := fun q : Nat => (show Row (wr.drewN q).drew g _ _ from hrow).set (o + j) (.int .u8 ((X.getD j 0).toNat : Int))
      rw [rfCells_put _ _ hBl (o + j) (by omega), show ({ M1 with B := lay m.B o (X.take j) } : Mem).B.set (o + j) (X.getD j 0) = lay m.B o (X.take (j + 1)) from lay_step m.B X o j (by omega) (by rw [hsz]; omega)] at r4
      have g4 := fun q : Nat => grow_set (grow_drew (drewN_grow hgr q)) (o + j) (.int .u8 ((X.getD j 0).toNat : Int))
      generalize X.getD j 0 = xx at v3 r4 g4
      generalize b &&& mm = x2 at v2 v3
      generalize p &&& ~~~mm = x1 at v1 v3
      have hso : (s : Int) < 6 := by omega
      have haj : (at' : Int) + (j : Int) = ((at' + j : Nat) : Int) := by omega
      have haj2 : ((at' + j : Nat) : Int) < 1024 := by omega
      have hoj : s * 1024 + (at' + j) = o + j := by omega
      have HR := Lib.hid (And.intro r4 g4)
      have HOJ := Lib.hid hoj
      clear hr ho hsz hNc hX hXl hNl hrow hgr hBl r4 g4 hx hp hb z0 z1 z2 z3
      obtain ⟨aj, haj3⟩ : ∃ q, at' + j = q := ⟨_, rfl⟩
      rw [haj3] at haj haj2 HOJ
      rw [← HOJ.out] at c2 f2
      have hajw : IntKind.i64.wrap (aj : Int) = (aj : Int) := by rw [IntKind.wrap_i64]; omega
      clear haj3 hoj hoo
      rcases hmk with ⟨hk0, hm0⟩ | ⟨hk0, mg, mo, rfl, hjk, c3⟩
      · rw [hm0, show (((0 : UInt8).toNat : Nat) : Int) = 0 from rfl] at v1 v2
        subst hk0
        clear hmm hm0
        go_wp2_with fail
        go_still_tail 19, (by kernel_rfl)
        change wpList _ _ _ _ _ wr.drew
        go_wp2
        rw [HOJ.out]
        go_roundw
        case rel => exact ⟨j + 1, by omega, by go_num, HR.out.1 0, HR.out.2 0⟩
        case measure => simp [intOf]; omega
      · obtain ⟨q, hq⟩ : ∃ q, j % k = q := ⟨_, rfl⟩
        have hmod : ((j : Nat) : Int).tmod (k : Int) = (q : Int) := by rw [Int.tmod_eq_emod_of_nonneg (by omega), ← hq]; rfl
        rw [hq] at c3 hjk
        have hqi : (q : Int) < (k : Int) := by omega
        clear hmm hq
        go_wp2_with fail
        go_quiet (fail)
        have HRq := Lib.hid (And.intro (HR.out.1 nq) (HR.out.2 nq))
        have c1q : (wr.drewN nq).cell? ⟨G, j, none⟩ = some (.int .u8 (b.toNat : Int)) := c1
        have c2q : (wr.drewN nq).cell? ⟨g, s * 1024 + aj, none⟩ = some (.int .u8 (p.toNat : Int)) := c2
        have f2q : (wr.drewN nq).frozen? ⟨g, s * 1024 + aj, none⟩ = false := f2
        clear c1 c2 f2 c3 d2 d3 HR
        generalize wr.drewN nq = wq at HRq c1q c2q f2q ⊢
        go_wp2_with fail
        go_still_tail 19, (by kernel_rfl)
        change wpList _ _ _ _ _ wq.drew
        go_wp2
        rw [HOJ.out]
        go_roundw
        case rel => exact ⟨j + 1, by omega, by go_num, HRq.out.1, HRq.out.2⟩
        case measure => simp [intOf]; omega
    · have hjn : j = n := by omega
      subst hjn
      rw [List.take_of_length_le (by omega)] at hrow
      have ho2 := grow_own ho hgr (own_other ho hr tyx_ne)
      have hF : Rf wr g { M1 with B := lay m.B o X } := ⟨by show (lay m.B o X).length = 6144; rw [lay_len _ _ _ (by rw [hXl, hsz]; omega), hsz], HM1.out.1, HM1.out.2.1, xm, A, k, c, hrow, ho2, HM1.out.2.2⟩
      have HF := Lib.hid (And.intro hF hgr)
      clear hr ho hsz hNc hX hXl hNl hrow hgr ho2 hF hBl z0 z1 z2 z3
      go_wp2
      go_ret
      rw [HWR.out]
      exact ⟨rfl, HF.out.1, HF.out.2⟩

set_option maxRecDepth 100000 in
set_option maxHeartbeats 4000000 in
theorem xchange_none (g s at' n cap G : Nat) (m : Mem) (N : List UInt8) (w : World) (h : Rf w g m) (hd : m.dead = false) (hl : m.left = 0) (hN : Shows w w.heap.size (some ⟨G, 0, none⟩) n cap N) (hG : G ≠ g) (hs : s < 6) (hat : at' + n ≤ 1024) (hn0 : 0 < n) :
    Calls Try.prog 58 #[.pointer (some ⟨g, 0, none⟩), .int .i64 (s : Int), .int .i64 (at' : Int), .slice (some ⟨G, 0, none⟩) n cap] w fun e w' => e = .returned (.int .i64 (writeM m (s * 1024 + at') N).1) ∧ Rf w' g (writeM m (s * 1024 + at') N).2 ∧ w.grownBy w' (some g) := by
  obtain ⟨o, hoo⟩ : ∃ o, s * 1024 + at' = o := ⟨_, rfl⟩
  rw [hoo]
  have hNl := hN.len
  have hsz := h.size
  have hl1 := h.l1
  obtain ⟨xm, A, k, c, hr, ho, hmk⟩ := h.spot
  obtain ⟨X, hX⟩ : ∃ X, N = X := ⟨_, rfl⟩
  have hXl : X.length = n := by rw [← hX, hNl]
  obtain ⟨M1, hM1⟩ : ∃ M1 : Mem, M1 = ⟨m.B, false, wrap64 (m.ops + 1), 0, m.mask⟩ := ⟨_, rfl⟩
  have hwr : writeM m o N = (0, { M1 with B := lay m.B o X }) := by
    unfold writeM
    rw [if_neg (by omega), hM1, hd, ← hX, show max (m.left - 1) 0 = 0 by omega]
  obtain ⟨z0, z1, z2, z3⟩ := rfCells_at m (.slice A k c) hsz
  have c0 := hr.cell z0
  have c1 := hr.cell z1
  have c3 := hr.cell z3
  have f0 := hr.frozen 6144
  have f1 := hr.frozen 6145
  have f3 := hr.frozen 6147
  rw [hd] at c3
  rw [hl] at c1
  have r1 := hr.set 6144 (.int .i64 (wrap64 (m.ops + 1)))
  rw [(rfCells_set m (.slice A k c) (.slice A k c) hsz true _).1, show rfCells { m with ops := wrap64 (m.ops + 1) } (.slice A k c) = rfCells M1 (.slice A k c) by rw [hM1]; unfold rfCells; simp only [hd, hl]] at r1
  have g1 := grow_set (grow_refl w (some g)) 6144 (.int .i64 (wrap64 (m.ops + 1)))
  have HM1 := Lib.hid (show 0 ≤ M1.left ∧ M1.left ≤ 9223372036854775807 ∧ (0 < M1.left → xm.take 1024 = M1.mask) by rw [hM1]; exact ⟨Int.le_refl _, (show (0 : Int) ≤ 9223372036854775807 by decide), fun h => absurd h (Int.lt_irrefl 0)⟩)
  have HWR := Lib.hid hwr
  have HD := Lib.hid (show M1.dead = false by rw [hM1])
  have hmB : M1.B = m.B := by rw [hM1]
  have HW1 := Lib.hid (And.intro r1 g1)
  have HGg := Lib.hid hG
  obtain ⟨fg, fo, fe, _, hNc⟩ := hN.cells hn0
  injection fe with fe
  injection fe with fe fe2
  subst fe fe2
  have H1 := Lib.hid (And.intro h (And.intro hr (And.intro ho (And.intro hsz (And.intro hNc (And.intro hX (And.intro hXl (And.intro hNl hoo))))))))
  clear hM1 hwr h hr ho hsz hNc hX hXl hNl hN hmk r1 g1 z0 z1 z2 z3 hG hoo hd
  have hcap : n ≤ 1024 := by omega
  go_enter Try.func58, Try.ntmps58
  go_wp2_with fail
  clear c0 c1 c3 f0 f1 f3 hl
  go_loopw [9] (fun i wr => ∃ j : Nat, j ≤ n ∧ i = .int .i64 j ∧ Row wr g 66 (rfCells { M1 with B := lay m.B o (X.take j) } (.slice A k c)) ∧ w.grownBy wr (some g)) (fun i _ => n - (intOf i).toNat)
  case atStart => exact ⟨0, by omega, rfl, by rw [List.take_zero, lay_nil, ← hmB]; exact HW1.out.1, HW1.out.2⟩
  case round =>
    obtain ⟨j, hj, rfl, hrow, hgr⟩ := hrel
    obtain ⟨h, hr, ho, hsz, hNc, hX, hXl, hNl, hoo⟩ := H1.out
    have hBl : (lay m.B o (X.take j)).length = 6144 := by rw [lay_len _ _ _ (by rw [List.length_take, hsz]; omega), hsz]
    obtain ⟨z0, z1, z2, z3⟩ := rfCells_at { M1 with B := lay m.B o (X.take j) } (.slice A k c) hBl
    have d3 := hrow.cell z3
    have d2 := hrow.cell z2
    rw [show ({ M1 with B := lay m.B o (X.take j) } : Mem).dead = false from HD.out] at d3
    by_cases hlt : j < n
    · have c2 := hrow.cell (rfCells_byte { M1 with B := lay m.B o (X.take j) } (.slice A k c) hBl (o + j) (by omega))
      rw [show ({ M1 with B := lay m.B o (X.take j) } : Mem).B.getD (o + j) 0 = m.B.getD (o + j) 0 from lay_front m.B X o j j (by omega) (Nat.le_refl _) (by rw [hsz]; omega)] at c2
      have f2 := hrow.frozen (o + j)
      have c1 : wr.cell? ⟨G, j, none⟩ = some (.int .u8 ((N.getD j 0).toNat : Int)) := by
        have := hNc j hlt
        rw [Nat.zero_add] at this
        exact hgr.cell this (fun e => HGg.out (by injection e))
      obtain ⟨p, hp⟩ : ∃ p, m.B.getD (o + j) 0 = p := ⟨_, rfl⟩
      obtain ⟨b, hb⟩ : ∃ p, N.getD j 0 = p := ⟨_, rfl⟩
      rw [hp] at c2
      rw [hb] at c1
      have hx : (p &&& ~~~(255 : UInt8)) ||| (b &&& 255) = X.getD j 0 := by
        rw [← hX, hb]
        exact mixB_all p b
      obtain ⟨mm, hmm⟩ : ∃ mm : UInt8, (255 : UInt8) = mm := ⟨_, rfl⟩
      rw [hmm] at hx
      have v1 := u8_andNot8 p mm
      have v2 := u8_and8 b mm
      have v3 := u8_or8 (p &&& ~~~mm) (b &&& mm)
      rw [hx] at v3
      have r4 := fun q : Nat => (show Row (wr.drewN q).drew g _ _ from hrow).set (o + j) (.int .u8 ((X.getD j 0).toNat : Int))
      rw [rfCells_put _ _ hBl (o + j) (by omega), show ({ M1 with B := lay m.B o (X.take j) } : Mem).B.set (o + j) (X.getD j 0) = lay m.B o (X.take (j + 1)) from lay_step m.B X o j (by omega) (by rw [hsz]; omega)] at r4
      have g4 := fun q : Nat => grow_set (grow_drew (drewN_grow hgr q)) (o + j) (.int .u8 ((X.getD j 0).toNat : Int))
      generalize X.getD j 0 = xx at v3 r4 g4
      generalize b &&& mm = x2 at v2 v3
      generalize p &&& ~~~mm = x1 at v1 v3
      have hso : (s : Int) < 6 := by omega
      have haj : (at' : Int) + (j : Int) = ((at' + j : Nat) : Int) := by omega
      have haj2 : ((at' + j : Nat) : Int) < 1024 := by omega
      have hoj : s * 1024 + (at' + j) = o + j := by omega
      have HR := Lib.hid (And.intro r4 g4)
      have HOJ := Lib.hid hoj
      clear hr ho hsz hNc hX hXl hNl hrow hgr hBl r4 g4 hx hp hb z0 z1 z2 z3
      obtain ⟨aj, haj3⟩ : ∃ q, at' + j = q := ⟨_, rfl⟩
      rw [haj3] at haj haj2 HOJ
      rw [← HOJ.out] at c2 f2
      have hajw : IntKind.i64.wrap (aj : Int) = (aj : Int) := by rw [IntKind.wrap_i64]; omega
      clear haj3 hoj hoo
      subst hmm
      rw [show (((255 : UInt8).toNat : Nat) : Int) = 255 from rfl] at v1 v2
      go_wp2_with fail
      go_still_tail 19, (by kernel_rfl)
      change wpList _ _ _ _ _ wr.drew
      go_wp2
      rw [HOJ.out]
      go_roundw
      case rel => exact ⟨j + 1, by omega, by go_num, HR.out.1 0, HR.out.2 0⟩
      case measure => simp [intOf]; omega
    · have hjn : j = n := by omega
      subst hjn
      rw [List.take_of_length_le (by omega)] at hrow
      have ho2 := grow_own ho hgr (own_other ho hr tyx_ne)
      have hF : Rf wr g { M1 with B := lay m.B o X } := ⟨by show (lay m.B o X).length = 6144; rw [lay_len _ _ _ (by rw [hXl, hsz]; omega), hsz], HM1.out.1, HM1.out.2.1, xm, A, k, c, hrow, ho2, HM1.out.2.2⟩
      have HF := Lib.hid (And.intro hF hgr)
      clear hr ho hsz hNc hX hXl hNl hrow hgr ho2 hF hBl z0 z1 z2 z3
      go_wp2
      go_ret
      rw [HWR.out]
      exact ⟨rfl, HF.out.1, HF.out.2⟩

set_option maxRecDepth 100000 in
set_option maxHeartbeats 4000000 in
theorem xchange_two (g s at' n cap G : Nat) (m : Mem) (N : List UInt8) (w : World) (h : Rf w g m) (hd : m.dead = false) (hl : 2 ≤ m.left) (hN : Shows w w.heap.size (some ⟨G, 0, none⟩) n cap N) (hG : G ≠ g) (hs : s < 6) (hat : at' + n ≤ 1024) (hn0 : 0 < n) :
    Calls Try.prog 58 #[.pointer (some ⟨g, 0, none⟩), .int .i64 (s : Int), .int .i64 (at' : Int), .slice (some ⟨G, 0, none⟩) n cap] w fun e w' => e = .returned (.int .i64 (writeM m (s * 1024 + at') N).1) ∧ Rf w' g (writeM m (s * 1024 + at') N).2 ∧ w.grownBy w' (some g) := by
  obtain ⟨o, hoo⟩ : ∃ o, s * 1024 + at' = o := ⟨_, rfl⟩
  rw [hoo]
  have hNl := hN.len
  have hsz := h.size
  have hl1 := h.l1
  obtain ⟨xm, A, k, c, hr, ho, hmk⟩ := h.spot
  obtain ⟨X, hX⟩ : ∃ X, N = X := ⟨_, rfl⟩
  have hXl : X.length = n := by rw [← hX, hNl]
  obtain ⟨M1, hM1⟩ : ∃ M1 : Mem, M1 = ⟨m.B, false, wrap64 (m.ops + 1), m.left - 1, m.mask⟩ := ⟨_, rfl⟩
  have hwr : writeM m o N = (0, { M1 with B := lay m.B o X }) := by
    unfold writeM
    rw [if_neg (by omega), hM1, hd, ← hX, show max (m.left - 1) 0 = m.left - 1 by omega]
  obtain ⟨z0, z1, z2, z3⟩ := rfCells_at m (.slice A k c) hsz
  have c0 := hr.cell z0
  have c1 := hr.cell z1
  have c3 := hr.cell z3
  have f0 := hr.frozen 6144
  have f1 := hr.frozen 6145
  have f3 := hr.frozen 6147
  rw [hd] at c3
  have hl0 : (0 : Int) < m.left := by omega
  have hne : ((m.left - 1) == 0) = false := by simp; omega
  have r1 := ((hr.set 6144 (.int .i64 (wrap64 (m.ops + 1)))).set 6145 (.int .i64 (m.left - 1))).set 6147 (.bool false)
  rw [(rfCells_set m (.slice A k c) (.slice A k c) hsz true _).1, (rfCells_set { m with ops := wrap64 (m.ops + 1) } (.slice A k c) (.slice A k c) hsz true (m.left - 1)).2.1, (rfCells_set { m with ops := wrap64 (m.ops + 1), left := m.left - 1 } (.slice A k c) (.slice A k c) hsz false 0).2.2.2,
    show rfCells { m with ops := wrap64 (m.ops + 1), left := m.left - 1, dead := false } (.slice A k c) = rfCells M1 (.slice A k c) by rw [hM1]] at r1
  have g1 := grow_set (grow_set (grow_set (grow_refl w (some g)) 6144 (.int .i64 (wrap64 (m.ops + 1)))) 6145 (.int .i64 (m.left - 1))) 6147 (.bool false)
  have HM1 := Lib.hid (show 0 ≤ M1.left ∧ M1.left ≤ 9223372036854775807 ∧ (0 < M1.left → xm.take 1024 = M1.mask) by rw [hM1]; exact ⟨by show (0 : Int) ≤ m.left - 1; omega, by show m.left - 1 ≤ 9223372036854775807; omega, fun _ => hmk (by omega)⟩)
  have HWR := Lib.hid hwr
  have HD := Lib.hid (show M1.dead = false by rw [hM1])
  have hmB : M1.B = m.B := by rw [hM1]
  have HW1 := Lib.hid (And.intro r1 g1)
  have HGg := Lib.hid hG
  obtain ⟨fg, fo, fe, _, hNc⟩ := hN.cells hn0
  injection fe with fe
  injection fe with fe fe2
  subst fe fe2
  have H1 := Lib.hid (And.intro h (And.intro hr (And.intro ho (And.intro hsz (And.intro hNc (And.intro hX (And.intro hXl (And.intro hNl hoo))))))))
  clear hM1 hwr h hr ho hsz hNc hX hXl hNl hN hmk r1 g1 z0 z1 z2 z3 hG hoo hd
  have hcap : n ≤ 1024 := by omega
  go_enter Try.func58, Try.ntmps58
  go_wp2_with fail
  clear c0 c1 c3 f0 f1 f3 hl
  go_loopw [9] (fun i wr => ∃ j : Nat, j ≤ n ∧ i = .int .i64 j ∧ Row wr g 66 (rfCells { M1 with B := lay m.B o (X.take j) } (.slice A k c)) ∧ w.grownBy wr (some g)) (fun i _ => n - (intOf i).toNat)
  case atStart => exact ⟨0, by omega, rfl, by rw [List.take_zero, lay_nil, ← hmB]; exact HW1.out.1, HW1.out.2⟩
  case round =>
    obtain ⟨j, hj, rfl, hrow, hgr⟩ := hrel
    obtain ⟨h, hr, ho, hsz, hNc, hX, hXl, hNl, hoo⟩ := H1.out
    have hBl : (lay m.B o (X.take j)).length = 6144 := by rw [lay_len _ _ _ (by rw [List.length_take, hsz]; omega), hsz]
    obtain ⟨z0, z1, z2, z3⟩ := rfCells_at { M1 with B := lay m.B o (X.take j) } (.slice A k c) hBl
    have d3 := hrow.cell z3
    have d2 := hrow.cell z2
    rw [show ({ M1 with B := lay m.B o (X.take j) } : Mem).dead = false from HD.out] at d3
    by_cases hlt : j < n
    · have c2 := hrow.cell (rfCells_byte { M1 with B := lay m.B o (X.take j) } (.slice A k c) hBl (o + j) (by omega))
      rw [show ({ M1 with B := lay m.B o (X.take j) } : Mem).B.getD (o + j) 0 = m.B.getD (o + j) 0 from lay_front m.B X o j j (by omega) (Nat.le_refl _) (by rw [hsz]; omega)] at c2
      have f2 := hrow.frozen (o + j)
      have c1 : wr.cell? ⟨G, j, none⟩ = some (.int .u8 ((N.getD j 0).toNat : Int)) := by
        have := hNc j hlt
        rw [Nat.zero_add] at this
        exact hgr.cell this (fun e => HGg.out (by injection e))
      obtain ⟨p, hp⟩ : ∃ p, m.B.getD (o + j) 0 = p := ⟨_, rfl⟩
      obtain ⟨b, hb⟩ : ∃ p, N.getD j 0 = p := ⟨_, rfl⟩
      rw [hp] at c2
      rw [hb] at c1
      have hx : (p &&& ~~~(255 : UInt8)) ||| (b &&& 255) = X.getD j 0 := by
        rw [← hX, hb]
        exact mixB_all p b
      obtain ⟨mm, hmm⟩ : ∃ mm : UInt8, (255 : UInt8) = mm := ⟨_, rfl⟩
      rw [hmm] at hx
      have v1 := u8_andNot8 p mm
      have v2 := u8_and8 b mm
      have v3 := u8_or8 (p &&& ~~~mm) (b &&& mm)
      rw [hx] at v3
      have r4 := fun q : Nat => (show Row (wr.drewN q).drew g _ _ from hrow).set (o + j) (.int .u8 ((X.getD j 0).toNat : Int))
      rw [rfCells_put _ _ hBl (o + j) (by omega), show ({ M1 with B := lay m.B o (X.take j) } : Mem).B.set (o + j) (X.getD j 0) = lay m.B o (X.take (j + 1)) from lay_step m.B X o j (by omega) (by rw [hsz]; omega)] at r4
      have g4 := fun q : Nat => grow_set (grow_drew (drewN_grow hgr q)) (o + j) (.int .u8 ((X.getD j 0).toNat : Int))
      generalize X.getD j 0 = xx at v3 r4 g4
      generalize b &&& mm = x2 at v2 v3
      generalize p &&& ~~~mm = x1 at v1 v3
      have hso : (s : Int) < 6 := by omega
      have haj : (at' : Int) + (j : Int) = ((at' + j : Nat) : Int) := by omega
      have haj2 : ((at' + j : Nat) : Int) < 1024 := by omega
      have hoj : s * 1024 + (at' + j) = o + j := by omega
      have HR := Lib.hid (And.intro r4 g4)
      have HOJ := Lib.hid hoj
      clear hr ho hsz hNc hX hXl hNl hrow hgr hBl r4 g4 hx hp hb z0 z1 z2 z3
      obtain ⟨aj, haj3⟩ : ∃ q, at' + j = q := ⟨_, rfl⟩
      rw [haj3] at haj haj2 HOJ
      rw [← HOJ.out] at c2 f2
      have hajw : IntKind.i64.wrap (aj : Int) = (aj : Int) := by rw [IntKind.wrap_i64]; omega
      clear haj3 hoj hoo
      subst hmm
      rw [show (((255 : UInt8).toNat : Nat) : Int) = 255 from rfl] at v1 v2
      go_wp2_with fail
      go_still_tail 19, (by kernel_rfl)
      change wpList _ _ _ _ _ wr.drew
      go_wp2
      rw [HOJ.out]
      go_roundw
      case rel => exact ⟨j + 1, by omega, by go_num, HR.out.1 0, HR.out.2 0⟩
      case measure => simp [intOf]; omega
    · have hjn : j = n := by omega
      subst hjn
      rw [List.take_of_length_le (by omega)] at hrow
      have ho2 := grow_own ho hgr (own_other ho hr tyx_ne)
      have hF : Rf wr g { M1 with B := lay m.B o X } := ⟨by show (lay m.B o X).length = 6144; rw [lay_len _ _ _ (by rw [hXl, hsz]; omega), hsz], HM1.out.1, HM1.out.2.1, xm, A, k, c, hrow, ho2, HM1.out.2.2⟩
      have HF := Lib.hid (And.intro hF hgr)
      clear hr ho hsz hNc hX hXl hNl hrow hgr ho2 hF hBl z0 z1 z2 z3
      go_wp2
      go_ret
      rw [HWR.out]
      exact ⟨rfl, HF.out.1, HF.out.2⟩

theorem xchange_any (g s at' n cap G : Nat) (m : Mem) (N : List UInt8) (w : World) (h : Rf w g m) (hd : m.dead = false) (hN : Shows w w.heap.size (some ⟨G, 0, none⟩) n cap N) (hG : G ≠ g) (hs : s < 6) (hat : at' + n ≤ 1024) (hn0 : 0 < n) :
    Calls Try.prog 58 #[.pointer (some ⟨g, 0, none⟩), .int .i64 (s : Int), .int .i64 (at' : Int), .slice (some ⟨G, 0, none⟩) n cap] w fun e w' => e = .returned (.int .i64 (writeM m (s * 1024 + at') N).1) ∧ Rf w' g (writeM m (s * 1024 + at') N).2 ∧ w.grownBy w' (some g) := by
  have h0 := h.l0
  by_cases h1 : m.left = 1
  · exact xchange_dead g s at' n cap G m N w h h1 hN hG hs hat hn0
  · by_cases h2 : m.left = 0
    · exact xchange_none g s at' n cap G m N w h hd h2 hN hG hs hat hn0
    · exact xchange_two g s at' n cap G m N w h hd (by omega) hN hG hs hat hn0
end Go.Proofs.Ytolpiklhnafnbaa
