/- Merged: The reference's memory of chapter 4: what it has in its block, and its change of bytes. The reference's memory of chapter 4: the contract of its change of bytes. The reference's memory of chapter 4: contracts of Erase, Program, Read, Stop, Start, New. The reference's memory of chapter 4: contracts of Start, Stop, Read, New. The reference's memory of chapter 4: the contract of New. -/
import Derived.Test.YtmebdnblobobnaaGreatDoorKFlash
import Derived.Test.YtmebdnblobobnaaGreatDoorKBase
import Derived.Test.YtmebdnblobobnaaGreatDoorKMem
import Derived.Deep.QuietTactic
import Derived.BigQuiet
import Derived.StillTailTactics
namespace Go.Proofs.YtmebdnblobobnaaGreatDoor
set_option maxRecDepth 100000
open Go.RowKit _root_.Go.Proofs.YtmebdnblobobnaaGreatDoor.Wd _root_.Go.Proofs.YtmebdnblobobnaaGreatDoor.Fm

def rfCells (m : Mem) (v : Value) : List Value := bc m.B ++ [.int .i64 m.ops, .int .i64 m.left, v, Value.bool m.dead]
theorem rfCells_len (m : Mem) (v : Value) (h : m.B.length = 6144) : (rfCells m v).length = 6148 := by simp [rfCells, bc_len, h]
theorem rfCells_at (m : Mem) (v : Value) (h : m.B.length = 6144) : (rfCells m v)[6144]? = some (.int .i64 m.ops) ∧ (rfCells m v)[6145]? = some (.int .i64 m.left) ∧ (rfCells m v)[6146]? = some v ∧ (rfCells m v)[6147]? = some (.bool m.dead) := by
  have hl : (bc m.B).length = 6144 := by rw [bc_len, h]
  unfold rfCells
  refine ⟨?_, ?_, ?_, ?_⟩ <;> rw [List.getElem?_append_right (by omega), hl] <;> rfl
theorem rfCells_byte (m : Mem) (v : Value) (h : m.B.length = 6144) (i : Nat) (hi : i < 6144) : (rfCells m v)[i]? = some (.int .u8 ((m.B.getD i 0).toNat : Int)) := by
  unfold rfCells
  rw [List.getElem?_append_left (by rw [bc_len, h]; exact hi), bc_get _ i (by omega)]
  simp [List.getD, List.getElem?_eq_getElem (show i < m.B.length by omega)]
theorem rfCells_set (m : Mem) (v x : Value) (h : m.B.length = 6144) (d : Bool) (n : Int) :
    (rfCells m v).set 6144 (.int .i64 n) = rfCells { m with ops := n } v ∧ (rfCells m v).set 6145 (.int .i64 n) = rfCells { m with left := n } v ∧
    (rfCells m v).set 6146 x = rfCells m x ∧ (rfCells m v).set 6147 (.bool d) = rfCells { m with dead := d } v := by
  have hl : (bc m.B).length = 6144 := by rw [bc_len, h]
  unfold rfCells
  refine ⟨?_, ?_, ?_, ?_⟩ <;> rw [List.set_append_right _ _ (by omega), hl] <;> rfl
theorem rfCells_put (m : Mem) (v : Value) (h : m.B.length = 6144) (i : Nat) (hi : i < 6144) (c : UInt8) : (rfCells m v).set i (.int .u8 (c.toNat : Int)) = rfCells { m with B := m.B.set i c } v := by
  unfold rfCells
  rw [List.set_append_left _ _ (by rw [bc_len, h]; exact hi)]
  congr 1
  unfold bc
  rw [← List.map_set]
theorem tyx_ne : 63 ≠ 5 := by decide

/-- The block g holds the reference's memory m; of its mask the first bytes count, as long as the power may go. -/
structure Rf (w : World) (g : Nat) (m : Mem) : Prop where
  size : m.B.length = 6144
  l0 : 0 ≤ m.left
  l1 : m.left ≤ 9223372036854775807
  spot : ∃ xm A n cap, Row w g 63 (rfCells m (.slice A n cap)) ∧ w.ownsRow 0 5 1 (.slice A n cap) n (bc xm) ∧ (0 < m.left → xm.take 1024 = m.mask)
theorem Rf.lt {w : World} {g : Nat} {m : Mem} (h : Rf w g m) : g < w.heap.size := by
  obtain ⟨xm, A, n, cap, hr, _⟩ := h.spot
  exact hr.lt
theorem Rf.kept {w w' : World} {g k : Nat} {m : Mem} (h : Rf w g m) (hg : w.grownBy w' (some k)) (hk : k ≠ g) (T : TypeId) (cs : Array Value) (hb : w.heap[k]? = some (.cells cs T (0, 0))) (hT : T ≠ 5) : Rf w' g m := by
  obtain ⟨xm, A, n, cap, hr, ho, hm⟩ := h.spot
  refine ⟨h.size, h.l0, h.l1, xm, A, n, cap, ?_, grow_own ho hg (own_other ho hb hT), hm⟩
  exact (hg.block g hr.lt (fun e => hk (by injection e with e; exact e.symm))).trans hr
theorem Rf.new {w w' : World} {g : Nat} {m : Mem} (h : Rf w g m) (hg : w.grownBy w' none) : Rf w' g m := by
  obtain ⟨xm, A, n, cap, hr, ho, hm⟩ := h.spot
  refine ⟨h.size, h.l0, h.l1, xm, A, n, cap, ?_, grow_own ho hg (fun k _ e => by cases e), hm⟩
  exact (hg.block g hr.lt (fun e => by cases e)).trans hr
theorem Rf.below {w w' : World} {g : Nat} {m : Mem} (h : Rf w g m) (hb : Below w.heap.size w w') : Rf w' g m := h.new (below_grow hb none)
theorem Rf.shows {w : World} {g : Nat} {m : Mem} (h : Rf w g m) (o n cap : Nat) (hn : o + n ≤ 6144) (hc : n ≤ cap) (hm : cap ≤ maxLen) : Shows w w.heap.size (some ⟨g, o, none⟩) n cap (m.page o n) := by
  obtain ⟨xm, A, k, c, hr, _⟩ := h.spot
  have hl : (m.page o n).length = n := page_len m o n (by rw [h.size]; exact hn)
  refine ⟨hl, hc, hm, fun _ => ⟨g, o, rfl, hr.lt, fun j hj => ?_⟩⟩
  rw [hl] at hj
  have h1 := hr.cell (rfCells_byte m (.slice A k c) h.size (o + j) (by omega))
  rw [h1, ← page_at m o n j hj]
  simp [List.getD, List.getElem?_eq_getElem (show j < (m.page o n).length by omega)]
theorem mixB_all (p b : UInt8) : mixB p b 255 = b := by
  unfold mixB
  rw [show ~~~(255 : UInt8) = 0 from rfl, UInt8.and_zero, UInt8.zero_or]
  apply UInt8.eq_of_toBitVec_eq
  simp only [UInt8.toBitVec_and]
  ext i hi
  have : (255 : UInt8).toBitVec[i] = true := by
    have : ∀ i : Nat, (h : i < 8) → (255 : UInt8).toBitVec[i] = true := by decide
    exact this i hi
  simp only [BitVec.getElem_and, this, Bool.and_true]
/-- Of a mask the first 1024 bytes count. -/
theorem maskAt_take (xm : List UInt8) (i : Nat) (h : i < 1024) : maskAt (xm.take 1024) i = maskAt xm i := by
  unfold maskAt
  by_cases hl : xm.length ≤ 1024
  · rw [List.take_of_length_le hl]
  · have h1 : (xm.take 1024).length = 1024 := by rw [List.length_take]; omega
    rw [h1, if_neg (by decide), if_neg (by omega), Nat.mod_eq_of_lt h, Nat.mod_eq_of_lt (by omega)]
    simp only [List.getD_eq_getElem?_getD]
    rw [List.getElem?_take, if_pos h]
theorem drewN_grow {w w' : World} {r : Option Nat} (h : w.grownBy w' r) (q : Nat) : w.grownBy (w'.drewN q) r := ⟨h.os, h.tape, h.output, h.size, h.block⟩
end Go.Proofs.YtmebdnblobobnaaGreatDoor

namespace Go.Proofs.YtmebdnblobobnaaGreatDoor
set_option maxRecDepth 100000
open Go.RowKit _root_.Go.Proofs.YtmebdnblobobnaaGreatDoor.Wd _root_.Go.Proofs.YtmebdnblobobnaaGreatDoor.Fm

set_option maxRecDepth 100000 in
set_option maxHeartbeats 4000000 in
theorem xchange_dead (g s at' n cap G : Nat) (m : Mem) (N : List UInt8) (w : World) (h : Rf w g m) (hl : m.left = 1) (hN : Shows w w.heap.size (some ⟨G, 0, none⟩) n cap N) (hG : G ≠ g) (hs : s < 6) (hat : at' + n ≤ 1024) (hn0 : 0 < n) :
    Calls Tryz.prog 57 #[.pointer (some ⟨g, 0, none⟩), .int .i64 (s : Int), .int .i64 (at' : Int), .slice (some ⟨G, 0, none⟩) n cap] w fun e w' => e = .returned (.int .i64 (writeM m (s * 1024 + at') N).1) ∧ Rf w' g (writeM m (s * 1024 + at') N).2 ∧ w.grownBy w' (some g) := by
  obtain ⟨o, hoo⟩ : ∃ o, s * 1024 + at' = o := ⟨_, rfl⟩
  rw [hoo]
  have hNl := hN.len
  have hsz := h.size
  obtain ⟨xm, A, k, c, hr, ho, hmk⟩ := h.spot
  obtain ⟨X, hX⟩ : ∃ X, mixL (m.page o n) N xm = X := ⟨_, rfl⟩
  have hXl : X.length = n := by rw [← hX, mixL_len, hNl]
  obtain ⟨M1, hM1⟩ : ∃ M1 : Mem, M1 = ⟨m.B, true, wrap64 (m.ops + 1), 0, []⟩ := ⟨_, rfl⟩
  have hwr : writeM m o N = (14, { M1 with B := lay m.B o X }) := by
    unfold writeM
    rw [if_pos hl, hNl, ← hX, ← hmk (by omega), hM1]
    congr 3
    unfold mixL
    refine List.map_congr_left fun i hi => ?_
    rw [maskAt_take _ _ (by have : i < N.length := by simpa using hi
                            omega)]
  obtain ⟨z0, z1, z2, z3⟩ := rfCells_at m (.slice A k c) hsz
  have c0 := hr.cell z0
  have c1 := hr.cell z1
  have c3 := hr.cell z3
  have f0 := hr.frozen 6144
  have f1 := hr.frozen 6145
  have f3 := hr.frozen 6147
  rw [hl] at c1
  have r1 := ((hr.set 6144 (.int .i64 (wrap64 (m.ops + 1)))).set 6145 (.int .i64 0)).set 6147 (.bool true)
  rw [(rfCells_set m (.slice A k c) (.slice A k c) hsz true _).1, (rfCells_set { m with ops := wrap64 (m.ops + 1) } (.slice A k c) (.slice A k c) hsz true 0).2.1, (rfCells_set { m with ops := wrap64 (m.ops + 1), left := 0 } (.slice A k c) (.slice A k c) hsz true 0).2.2.2,
    show rfCells { m with ops := wrap64 (m.ops + 1), left := 0, dead := true } (.slice A k c) = rfCells M1 (.slice A k c) by rw [hM1]; rfl] at r1
  have g1 := grow_set (grow_set (grow_set (grow_refl w (some g)) 6144 (.int .i64 (wrap64 (m.ops + 1)))) 6145 (.int .i64 0)) 6147 (.bool true)
  have HWR := Lib.hid hwr
  have HD := Lib.hid (show M1.dead = true by rw [hM1])
  have HM1 := Lib.hid (show 0 ≤ M1.left ∧ M1.left ≤ 9223372036854775807 ∧ (0 < M1.left → xm.take 1024 = M1.mask) by rw [hM1]; exact ⟨Int.le_refl _, (show (0 : Int) ≤ 9223372036854775807 by decide), fun h => absurd h (Int.lt_irrefl 0)⟩)
  have hmB : M1.B = m.B := by rw [hM1]
  have HW1 := Lib.hid (And.intro r1 g1)
  have HGg := Lib.hid hG
  obtain ⟨fg, fo, fe, _, hNc⟩ := hN.cells hn0
  injection fe with fe
  injection fe with fe fe2
  subst fe fe2
  have H1 := Lib.hid (And.intro h (And.intro hr (And.intro ho (And.intro hsz (And.intro hNc (And.intro hX (And.intro hXl (And.intro hNl hoo))))))))
  clear hM1 hwr h hr ho hsz hNc hX hXl hNl hN hmk r1 g1 z0 z1 z2 z3 hG hoo
  have hcap : n ≤ 1024 := by omega
  go_enter Tryz.func57, Tryz.ntmps57
  go_wp2_with fail
  clear c0 c1 c3 f0 f1 f3 hl
  go_loopw [9] (fun i wr => ∃ j : Nat, j ≤ n ∧ i = .int .i64 j ∧ Row wr g 63 (rfCells { M1 with B := lay m.B o (X.take j) } (.slice A k c)) ∧ w.grownBy wr (some g)) (fun i _ => n - (intOf i).toNat)
  case atStart => exact ⟨0, by omega, rfl, by rw [List.take_zero, lay_nil, ← hmB]; exact HW1.out.1, HW1.out.2⟩
  case round =>
    obtain ⟨j, hj, rfl, hrow, hgr⟩ := hrel
    obtain ⟨h, hr, ho, hsz, hNc, hX, hXl, hNl, hoo⟩ := H1.out
    have hBl : (lay m.B o (X.take j)).length = 6144 := by rw [lay_len _ _ _ (by rw [List.length_take, hsz]; omega), hsz]
    obtain ⟨z0, z1, z2, z3⟩ := rfCells_at { M1 with B := lay m.B o (X.take j) } (.slice A k c) hBl
    have d3 := hrow.cell z3
    have d2 := hrow.cell z2
    rw [show ({ M1 with B := lay m.B o (X.take j) } : Mem).dead = true from HD.out] at d3
    by_cases hlt : j < n
    · have c2 := hrow.cell (rfCells_byte { M1 with B := lay m.B o (X.take j) } (.slice A k c) hBl (o + j) (by omega))
      rw [show ({ M1 with B := lay m.B o (X.take j) } : Mem).B.getD (o + j) 0 = m.B.getD (o + j) 0 from lay_front m.B X o j j (by omega) (Nat.le_refl _) (by rw [hsz]; omega)] at c2
      have f2 := hrow.frozen (o + j)
      have c1 : wr.cell? ⟨G, j, none⟩ = some (.int .u8 ((N.getD j 0).toNat : Int)) := by
        have := hNc j hlt
        rw [Nat.zero_add] at this
        exact hgr.cell this (fun e => HGg.out (by injection e))
      obtain ⟨p, hp⟩ : ∃ p, m.B.getD (o + j) 0 = p := ⟨_, rfl⟩
      obtain ⟨b, hb⟩ : ∃ p, N.getD j 0 = p := ⟨_, rfl⟩
      rw [hp] at c2
      rw [hb] at c1
      obtain ⟨mm, hmm⟩ : ∃ mm, maskAt xm j = mm := ⟨_, rfl⟩
      have hmk : (k = 0 ∧ mm = 0) ∨ (0 < k ∧ ∃ mg mo, A = some ⟨mg, mo, none⟩ ∧ j % k < k ∧ wr.cell? ⟨mg, mo + j % k, none⟩ = some (.int .u8 (mm.toNat : Int))) := by
        have ho2 := grow_own ho hgr (own_other ho hr tyx_ne)
        have hs2 := Shows.of_own ho2
        have hkl := hs2.len
        rw [← hmm]
        unfold maskAt
        by_cases hk0 : k = 0
        · exact .inl ⟨hk0, by rw [if_pos (by omega)]⟩
        · obtain ⟨mg, mo, e, _, hc⟩ := hs2.cells (by omega)
          have hlt2 : j % k < k := Nat.mod_lt _ (by omega)
          exact .inr ⟨by omega, mg, mo, e, hlt2, by rw [hc _ hlt2, if_neg (by omega), hkl]⟩
      have hx : (p &&& ~~~mm) ||| (b &&& mm) = X.getD j 0 := by
        rw [← hX, mixL_at _ _ _ _ (by omega), page_at m o n j hlt, hp, hb, hmm]
        rfl
      have v1 := u8_andNot8 p mm
      have v2 := u8_and8 b mm
      have v3 := u8_or8 (p &&& ~~~mm) (b &&& mm)
      rw [hx] at v3
      have r4 := fun q : Nat => (show Row (wr.drewN q).drew g _ _ from hrow).set (o + j) (.int .u8 ((X.getD j 0).toNat : Int))
      rw [rfCells_put _ _ hBl (o + j) (by omega), show ({ M1 with B := lay m.B o (X.take j) } : Mem).B.set (o + j) (X.getD j 0) = lay m.B o (X.take (j + 1)) from lay_step m.B X o j (by omega) (by rw [hsz]; omega)] at r4
      have g4 := fun q : Nat => grow_set (grow_drew (drewN_grow hgr q)) (o + j) (.int .u8 ((X.getD j 0).toNat : Int))
      generalize X.getD j 0 = xx at v3 r4 g4
      generalize b &&& mm = x2 at v2 v3
      generalize p &&& ~~~mm = x1 at v1 v3
      have hso : (s : Int) < 6 := by omega
      have haj : (at' : Int) + (j : Int) = ((at' + j : Nat) : Int) := by omega
      have haj2 : ((at' + j : Nat) : Int) < 1024 := by omega
      have hoj : s * 1024 + (at' + j) = o + j := by omega
      have HR := Lib.hid (And.intro r4 g4)
      have HOJ := Lib.hid hoj
      clear hr ho hsz hNc hX hXl hNl hrow hgr hBl r4 g4 hx hp hb z0 z1 z2 z3
      obtain ⟨aj, haj3⟩ : ∃ q, at' + j = q := ⟨_, rfl⟩
      rw [haj3] at haj haj2 HOJ
      rw [← HOJ.out] at c2 f2
      have hajw : IntKind.i64.wrap (aj : Int) = (aj : Int) := by rw [IntKind.wrap_i64]; omega
      clear haj3 hoj hoo
      rcases hmk with ⟨hk0, hm0⟩ | ⟨hk0, mg, mo, rfl, hjk, c3⟩
      · rw [hm0, show (((0 : UInt8).toNat : Nat) : Int) = 0 from rfl] at v1 v2
        subst hk0
        clear hmm hm0
        go_wp2_with fail
        go_still_tail 19, (by kernel_rfl)
        change wpList _ _ _ _ _ wr.drew
        go_wp2
        rw [HOJ.out]
        go_roundw
        case rel => exact ⟨j + 1, by omega, by go_num, HR.out.1 0, HR.out.2 0⟩
        case measure => simp [intOf]; omega
      · obtain ⟨q, hq⟩ : ∃ q, j % k = q := ⟨_, rfl⟩
        have hmod : ((j : Nat) : Int).tmod (k : Int) = (q : Int) := by rw [Int.tmod_eq_emod_of_nonneg (by omega), ← hq]; rfl
        rw [hq] at c3 hjk
        have hqi : (q : Int) < (k : Int) := by omega
        clear hmm hq
        go_wp2_with fail
        go_quiet (fail)
        have HRq := Lib.hid (And.intro (HR.out.1 nq) (HR.out.2 nq))
        have c1q : (wr.drewN nq).cell? ⟨G, j, none⟩ = some (.int .u8 (b.toNat : Int)) := c1
        have c2q : (wr.drewN nq).cell? ⟨g, s * 1024 + aj, none⟩ = some (.int .u8 (p.toNat : Int)) := c2
        have f2q : (wr.drewN nq).frozen? ⟨g, s * 1024 + aj, none⟩ = false := f2
        clear c1 c2 f2 c3 d2 d3 HR
        generalize wr.drewN nq = wq at HRq c1q c2q f2q ⊢
        go_wp2_with fail
        go_still_tail 19, (by kernel_rfl)
        change wpList _ _ _ _ _ wq.drew
        go_wp2
        rw [HOJ.out]
        go_roundw
        case rel => exact ⟨j + 1, by omega, by go_num, HRq.out.1, HRq.out.2⟩
        case measure => simp [intOf]; omega
    · have hjn : j = n := by omega
      subst hjn
      rw [List.take_of_length_le (by omega)] at hrow
      have ho2 := grow_own ho hgr (own_other ho hr tyx_ne)
      have hF : Rf wr g { M1 with B := lay m.B o X } := ⟨by show (lay m.B o X).length = 6144; rw [lay_len _ _ _ (by rw [hXl, hsz]; omega), hsz], HM1.out.1, HM1.out.2.1, xm, A, k, c, hrow, ho2, HM1.out.2.2⟩
      have HF := Lib.hid (And.intro hF hgr)
      clear hr ho hsz hNc hX hXl hNl hrow hgr ho2 hF hBl z0 z1 z2 z3
      go_wp2
      go_ret
      rw [HWR.out]
      exact ⟨rfl, HF.out.1, HF.out.2⟩

set_option maxRecDepth 100000 in
set_option maxHeartbeats 4000000 in
theorem xchange_none (g s at' n cap G : Nat) (m : Mem) (N : List UInt8) (w : World) (h : Rf w g m) (hd : m.dead = false) (hl : m.left = 0) (hN : Shows w w.heap.size (some ⟨G, 0, none⟩) n cap N) (hG : G ≠ g) (hs : s < 6) (hat : at' + n ≤ 1024) (hn0 : 0 < n) :
    Calls Tryz.prog 57 #[.pointer (some ⟨g, 0, none⟩), .int .i64 (s : Int), .int .i64 (at' : Int), .slice (some ⟨G, 0, none⟩) n cap] w fun e w' => e = .returned (.int .i64 (writeM m (s * 1024 + at') N).1) ∧ Rf w' g (writeM m (s * 1024 + at') N).2 ∧ w.grownBy w' (some g) := by
  obtain ⟨o, hoo⟩ : ∃ o, s * 1024 + at' = o := ⟨_, rfl⟩
  rw [hoo]
  have hNl := hN.len
  have hsz := h.size
  have hl1 := h.l1
  obtain ⟨xm, A, k, c, hr, ho, hmk⟩ := h.spot
  obtain ⟨X, hX⟩ : ∃ X, N = X := ⟨_, rfl⟩
  have hXl : X.length = n := by rw [← hX, hNl]
  obtain ⟨M1, hM1⟩ : ∃ M1 : Mem, M1 = ⟨m.B, false, wrap64 (m.ops + 1), 0, m.mask⟩ := ⟨_, rfl⟩
  have hwr : writeM m o N = (0, { M1 with B := lay m.B o X }) := by
    unfold writeM
    rw [if_neg (by omega), hM1, hd, ← hX, show max (m.left - 1) 0 = 0 by omega]
  obtain ⟨z0, z1, z2, z3⟩ := rfCells_at m (.slice A k c) hsz
  have c0 := hr.cell z0
  have c1 := hr.cell z1
  have c3 := hr.cell z3
  have f0 := hr.frozen 6144
  have f1 := hr.frozen 6145
  have f3 := hr.frozen 6147
  rw [hd] at c3
  rw [hl] at c1
  have r1 := hr.set 6144 (.int .i64 (wrap64 (m.ops + 1)))
  rw [(rfCells_set m (.slice A k c) (.slice A k c) hsz true _).1, show rfCells { m with ops := wrap64 (m.ops + 1) } (.slice A k c) = rfCells M1 (.slice A k c) by rw [hM1]; unfold rfCells; simp only [hd, hl]] at r1
  have g1 := grow_set (grow_refl w (some g)) 6144 (.int .i64 (wrap64 (m.ops + 1)))
  have HM1 := Lib.hid (show 0 ≤ M1.left ∧ M1.left ≤ 9223372036854775807 ∧ (0 < M1.left → xm.take 1024 = M1.mask) by rw [hM1]; exact ⟨Int.le_refl _, (show (0 : Int) ≤ 9223372036854775807 by decide), fun h => absurd h (Int.lt_irrefl 0)⟩)
  have HWR := Lib.hid hwr
  have HD := Lib.hid (show M1.dead = false by rw [hM1])
  have hmB : M1.B = m.B := by rw [hM1]
  have HW1 := Lib.hid (And.intro r1 g1)
  have HGg := Lib.hid hG
  obtain ⟨fg, fo, fe, _, hNc⟩ := hN.cells hn0
  injection fe with fe
  injection fe with fe fe2
  subst fe fe2
  have H1 := Lib.hid (And.intro h (And.intro hr (And.intro ho (And.intro hsz (And.intro hNc (And.intro hX (And.intro hXl (And.intro hNl hoo))))))))
  clear hM1 hwr h hr ho hsz hNc hX hXl hNl hN hmk r1 g1 z0 z1 z2 z3 hG hoo hd
  have hcap : n ≤ 1024 := by omega
  go_enter Tryz.func57, Tryz.ntmps57
  go_wp2_with fail
  clear c0 c1 c3 f0 f1 f3 hl
  go_loopw [9] (fun i wr => ∃ j : Nat, j ≤ n ∧ i = .int .i64 j ∧ Row wr g 63 (rfCells { M1 with B := lay m.B o (X.take j) } (.slice A k c)) ∧ w.grownBy wr (some g)) (fun i _ => n - (intOf i).toNat)
  case atStart => exact ⟨0, by omega, rfl, by rw [List.take_zero, lay_nil, ← hmB]; exact HW1.out.1, HW1.out.2⟩
  case round =>
    obtain ⟨j, hj, rfl, hrow, hgr⟩ := hrel
    obtain ⟨h, hr, ho, hsz, hNc, hX, hXl, hNl, hoo⟩ := H1.out
    have hBl : (lay m.B o (X.take j)).length = 6144 := by rw [lay_len _ _ _ (by rw [List.length_take, hsz]; omega), hsz]
    obtain ⟨z0, z1, z2, z3⟩ := rfCells_at { M1 with B := lay m.B o (X.take j) } (.slice A k c) hBl
    have d3 := hrow.cell z3
    have d2 := hrow.cell z2
    rw [show ({ M1 with B := lay m.B o (X.take j) } : Mem).dead = false from HD.out] at d3
    by_cases hlt : j < n
    · have c2 := hrow.cell (rfCells_byte { M1 with B := lay m.B o (X.take j) } (.slice A k c) hBl (o + j) (by omega))
      rw [show ({ M1 with B := lay m.B o (X.take j) } : Mem).B.getD (o + j) 0 = m.B.getD (o + j) 0 from lay_front m.B X o j j (by omega) (Nat.le_refl _) (by rw [hsz]; omega)] at c2
      have f2 := hrow.frozen (o + j)
      have c1 : wr.cell? ⟨G, j, none⟩ = some (.int .u8 ((N.getD j 0).toNat : Int)) := by
        have := hNc j hlt
        rw [Nat.zero_add] at this
        exact hgr.cell this (fun e => HGg.out (by injection e))
      obtain ⟨p, hp⟩ : ∃ p, m.B.getD (o + j) 0 = p := ⟨_, rfl⟩
      obtain ⟨b, hb⟩ : ∃ p, N.getD j 0 = p := ⟨_, rfl⟩
      rw [hp] at c2
      rw [hb] at c1
      have hx : (p &&& ~~~(255 : UInt8)) ||| (b &&& 255) = X.getD j 0 := by
        rw [← hX, hb]
        exact mixB_all p b
      obtain ⟨mm, hmm⟩ : ∃ mm : UInt8, (255 : UInt8) = mm := ⟨_, rfl⟩
      rw [hmm] at hx
      have v1 := u8_andNot8 p mm
      have v2 := u8_and8 b mm
      have v3 := u8_or8 (p &&& ~~~mm) (b &&& mm)
      rw [hx] at v3
      have r4 := fun q : Nat => (show Row (wr.drewN q).drew g _ _ from hrow).set (o + j) (.int .u8 ((X.getD j 0).toNat : Int))
      rw [rfCells_put _ _ hBl (o + j) (by omega), show ({ M1 with B := lay m.B o (X.take j) } : Mem).B.set (o + j) (X.getD j 0) = lay m.B o (X.take (j + 1)) from lay_step m.B X o j (by omega) (by rw [hsz]; omega)] at r4
      have g4 := fun q : Nat => grow_set (grow_drew (drewN_grow hgr q)) (o + j) (.int .u8 ((X.getD j 0).toNat : Int))
      generalize X.getD j 0 = xx at v3 r4 g4
      generalize b &&& mm = x2 at v2 v3
      generalize p &&& ~~~mm = x1 at v1 v3
      have hso : (s : Int) < 6 := by omega
      have haj : (at' : Int) + (j : Int) = ((at' + j : Nat) : Int) := by omega
      have haj2 : ((at' + j : Nat) : Int) < 1024 := by omega
      have hoj : s * 1024 + (at' + j) = o + j := by omega
      have HR := Lib.hid (And.intro r4 g4)
      have HOJ := Lib.hid hoj
      clear hr ho hsz hNc hX hXl hNl hrow hgr hBl r4 g4 hx hp hb z0 z1 z2 z3
      obtain ⟨aj, haj3⟩ : ∃ q, at' + j = q := ⟨_, rfl⟩
      rw [haj3] at haj haj2 HOJ
      rw [← HOJ.out] at c2 f2
      have hajw : IntKind.i64.wrap (aj : Int) = (aj : Int) := by rw [IntKind.wrap_i64]; omega
      clear haj3 hoj hoo
      subst hmm
      rw [show (((255 : UInt8).toNat : Nat) : Int) = 255 from rfl] at v1 v2
      go_wp2_with fail
      go_still_tail 19, (by kernel_rfl)
      change wpList _ _ _ _ _ wr.drew
      go_wp2
      rw [HOJ.out]
      go_roundw
      case rel => exact ⟨j + 1, by omega, by go_num, HR.out.1 0, HR.out.2 0⟩
      case measure => simp [intOf]; omega
    · have hjn : j = n := by omega
      subst hjn
      rw [List.take_of_length_le (by omega)] at hrow
      have ho2 := grow_own ho hgr (own_other ho hr tyx_ne)
      have hF : Rf wr g { M1 with B := lay m.B o X } := ⟨by show (lay m.B o X).length = 6144; rw [lay_len _ _ _ (by rw [hXl, hsz]; omega), hsz], HM1.out.1, HM1.out.2.1, xm, A, k, c, hrow, ho2, HM1.out.2.2⟩
      have HF := Lib.hid (And.intro hF hgr)
      clear hr ho hsz hNc hX hXl hNl hrow hgr ho2 hF hBl z0 z1 z2 z3
      go_wp2
      go_ret
      rw [HWR.out]
      exact ⟨rfl, HF.out.1, HF.out.2⟩

set_option maxRecDepth 100000 in
set_option maxHeartbeats 4000000 in
theorem xchange_two (g s at' n cap G : Nat) (m : Mem) (N : List UInt8) (w : World) (h : Rf w g m) (hd : m.dead = false) (hl : 2 ≤ m.left) (hN : Shows w w.heap.size (some ⟨G, 0, none⟩) n cap N) (hG : G ≠ g) (hs : s < 6) (hat : at' + n ≤ 1024) (hn0 : 0 < n) :
    Calls Tryz.prog 57 #[.pointer (some ⟨g, 0, none⟩), .int .i64 (s : Int), .int .i64 (at' : Int), .slice (some ⟨G, 0, none⟩) n cap] w fun e w' => e = .returned (.int .i64 (writeM m (s * 1024 + at') N).1) ∧ Rf w' g (writeM m (s * 1024 + at') N).2 ∧ w.grownBy w' (some g) := by
  obtain ⟨o, hoo⟩ : ∃ o, s * 1024 + at' = o := ⟨_, rfl⟩
  rw [hoo]
  have hNl := hN.len
  have hsz := h.size
  have hl1 := h.l1
  obtain ⟨xm, A, k, c, hr, ho, hmk⟩ := h.spot
  obtain ⟨X, hX⟩ : ∃ X, N = X := ⟨_, rfl⟩
  have hXl : X.length = n := by rw [← hX, hNl]
  obtain ⟨M1, hM1⟩ : ∃ M1 : Mem, M1 = ⟨m.B, false, wrap64 (m.ops + 1), m.left - 1, m.mask⟩ := ⟨_, rfl⟩
  have hwr : writeM m o N = (0, { M1 with B := lay m.B o X }) := by
    unfold writeM
    rw [if_neg (by omega), hM1, hd, ← hX, show max (m.left - 1) 0 = m.left - 1 by omega]
  obtain ⟨z0, z1, z2, z3⟩ := rfCells_at m (.slice A k c) hsz
  have c0 := hr.cell z0
  have c1 := hr.cell z1
  have c3 := hr.cell z3
  have f0 := hr.frozen 6144
  have f1 := hr.frozen 6145
  have f3 := hr.frozen 6147
  rw [hd] at c3
  have hl0 : (0 : Int) < m.left := by omega
  have hne : ((m.left - 1) == 0) = false := by simp; omega
  have r1 := ((hr.set 6144 (.int .i64 (wrap64 (m.ops + 1)))).set 6145 (.int .i64 (m.left - 1))).set 6147 (.bool false)
  rw [(rfCells_set m (.slice A k c) (.slice A k c) hsz true _).1, (rfCells_set { m with ops := wrap64 (m.ops + 1) } (.slice A k c) (.slice A k c) hsz true (m.left - 1)).2.1, (rfCells_set { m with ops := wrap64 (m.ops + 1), left := m.left - 1 } (.slice A k c) (.slice A k c) hsz false 0).2.2.2,
    show rfCells { m with ops := wrap64 (m.ops + 1), left := m.left - 1, dead := false } (.slice A k c) = rfCells M1 (.slice A k c) by rw [hM1]] at r1
  have g1 := grow_set (grow_set (grow_set (grow_refl w (some g)) 6144 (.int .i64 (wrap64 (m.ops + 1)))) 6145 (.int .i64 (m.left - 1))) 6147 (.bool false)
  have HM1 := Lib.hid (show 0 ≤ M1.left ∧ M1.left ≤ 9223372036854775807 ∧ (0 < M1.left → xm.take 1024 = M1.mask) by rw [hM1]; exact ⟨by show (0 : Int) ≤ m.left - 1; omega, by show m.left - 1 ≤ 9223372036854775807; omega, fun _ => hmk (by omega)⟩)
  have HWR := Lib.hid hwr
  have HD := Lib.hid (show M1.dead = false by rw [hM1])
  have hmB : M1.B = m.B := by rw [hM1]
  have HW1 := Lib.hid (And.intro r1 g1)
  have HGg := Lib.hid hG
  obtain ⟨fg, fo, fe, _, hNc⟩ := hN.cells hn0
  injection fe with fe
  injection fe with fe fe2
  subst fe fe2
  have H1 := Lib.hid (And.intro h (And.intro hr (And.intro ho (And.intro hsz (And.intro hNc (And.intro hX (And.intro hXl (And.intro hNl hoo))))))))
  clear hM1 hwr h hr ho hsz hNc hX hXl hNl hN hmk r1 g1 z0 z1 z2 z3 hG hoo hd
  have hcap : n ≤ 1024 := by omega
  go_enter Tryz.func57, Tryz.ntmps57
  go_wp2_with fail
  clear c0 c1 c3 f0 f1 f3 hl
  go_loopw [9] (fun i wr => ∃ j : Nat, j ≤ n ∧ i = .int .i64 j ∧ Row wr g 63 (rfCells { M1 with B := lay m.B o (X.take j) } (.slice A k c)) ∧ w.grownBy wr (some g)) (fun i _ => n - (intOf i).toNat)
  case atStart => exact ⟨0, by omega, rfl, by rw [List.take_zero, lay_nil, ← hmB]; exact HW1.out.1, HW1.out.2⟩
  case round =>
    obtain ⟨j, hj, rfl, hrow, hgr⟩ := hrel
    obtain ⟨h, hr, ho, hsz, hNc, hX, hXl, hNl, hoo⟩ := H1.out
    have hBl : (lay m.B o (X.take j)).length = 6144 := by rw [lay_len _ _ _ (by rw [List.length_take, hsz]; omega), hsz]
    obtain ⟨z0, z1, z2, z3⟩ := rfCells_at { M1 with B := lay m.B o (X.take j) } (.slice A k c) hBl
    have d3 := hrow.cell z3
    have d2 := hrow.cell z2
    rw [show ({ M1 with B := lay m.B o (X.take j) } : Mem).dead = false from HD.out] at d3
    by_cases hlt : j < n
    · have c2 := hrow.cell (rfCells_byte { M1 with B := lay m.B o (X.take j) } (.slice A k c) hBl (o + j) (by omega))
      rw [show ({ M1 with B := lay m.B o (X.take j) } : Mem).B.getD (o + j) 0 = m.B.getD (o + j) 0 from lay_front m.B X o j j (by omega) (Nat.le_refl _) (by rw [hsz]; omega)] at c2
      have f2 := hrow.frozen (o + j)
      have c1 : wr.cell? ⟨G, j, none⟩ = some (.int .u8 ((N.getD j 0).toNat : Int)) := by
        have := hNc j hlt
        rw [Nat.zero_add] at this
        exact hgr.cell this (fun e => HGg.out (by injection e))
      obtain ⟨p, hp⟩ : ∃ p, m.B.getD (o + j) 0 = p := ⟨_, rfl⟩
      obtain ⟨b, hb⟩ : ∃ p, N.getD j 0 = p := ⟨_, rfl⟩
      rw [hp] at c2
      rw [hb] at c1
      have hx : (p &&& ~~~(255 : UInt8)) ||| (b &&& 255) = X.getD j 0 := by
        rw [← hX, hb]
        exact mixB_all p b
      obtain ⟨mm, hmm⟩ : ∃ mm : UInt8, (255 : UInt8) = mm := ⟨_, rfl⟩
      rw [hmm] at hx
      have v1 := u8_andNot8 p mm
      have v2 := u8_and8 b mm
      have v3 := u8_or8 (p &&& ~~~mm) (b &&& mm)
      rw [hx] at v3
      have r4 := fun q : Nat => (show Row (wr.drewN q).drew g _ _ from hrow).set (o + j) (.int .u8 ((X.getD j 0).toNat : Int))
      rw [rfCells_put _ _ hBl (o + j) (by omega), show ({ M1 with B := lay m.B o (X.take j) } : Mem).B.set (o + j) (X.getD j 0) = lay m.B o (X.take (j + 1)) from lay_step m.B X o j (by omega) (by rw [hsz]; omega)] at r4
      have g4 := fun q : Nat => grow_set (grow_drew (drewN_grow hgr q)) (o + j) (.int .u8 ((X.getD j 0).toNat : Int))
      generalize X.getD j 0 = xx at v3 r4 g4
      generalize b &&& mm = x2 at v2 v3
      generalize p &&& ~~~mm = x1 at v1 v3
      have hso : (s : Int) < 6 := by omega
      have haj : (at' : Int) + (j : Int) = ((at' + j : Nat) : Int) := by omega
      have haj2 : ((at' + j : Nat) : Int) < 1024 := by omega
      have hoj : s * 1024 + (at' + j) = o + j := by omega
      have HR := Lib.hid (And.intro r4 g4)
      have HOJ := Lib.hid hoj
      clear hr ho hsz hNc hX hXl hNl hrow hgr hBl r4 g4 hx hp hb z0 z1 z2 z3
      obtain ⟨aj, haj3⟩ : ∃ q, at' + j = q := ⟨_, rfl⟩
      rw [haj3] at haj haj2 HOJ
      rw [← HOJ.out] at c2 f2
      have hajw : IntKind.i64.wrap (aj : Int) = (aj : Int) := by rw [IntKind.wrap_i64]; omega
      clear haj3 hoj hoo
      subst hmm
      rw [show (((255 : UInt8).toNat : Nat) : Int) = 255 from rfl] at v1 v2
      go_wp2_with fail
      go_still_tail 19, (by kernel_rfl)
      change wpList _ _ _ _ _ wr.drew
      go_wp2
      rw [HOJ.out]
      go_roundw
      case rel => exact ⟨j + 1, by omega, by go_num, HR.out.1 0, HR.out.2 0⟩
      case measure => simp [intOf]; omega
    · have hjn : j = n := by omega
      subst hjn
      rw [List.take_of_length_le (by omega)] at hrow
      have ho2 := grow_own ho hgr (own_other ho hr tyx_ne)
      have hF : Rf wr g { M1 with B := lay m.B o X } := ⟨by show (lay m.B o X).length = 6144; rw [lay_len _ _ _ (by rw [hXl, hsz]; omega), hsz], HM1.out.1, HM1.out.2.1, xm, A, k, c, hrow, ho2, HM1.out.2.2⟩
      have HF := Lib.hid (And.intro hF hgr)
      clear hr ho hsz hNc hX hXl hNl hrow hgr ho2 hF hBl z0 z1 z2 z3
      go_wp2
      go_ret
      rw [HWR.out]
      exact ⟨rfl, HF.out.1, HF.out.2⟩

theorem xchange_any (g s at' n cap G : Nat) (m : Mem) (N : List UInt8) (w : World) (h : Rf w g m) (hd : m.dead = false) (hN : Shows w w.heap.size (some ⟨G, 0, none⟩) n cap N) (hG : G ≠ g) (hs : s < 6) (hat : at' + n ≤ 1024) (hn0 : 0 < n) :
    Calls Tryz.prog 57 #[.pointer (some ⟨g, 0, none⟩), .int .i64 (s : Int), .int .i64 (at' : Int), .slice (some ⟨G, 0, none⟩) n cap] w fun e w' => e = .returned (.int .i64 (writeM m (s * 1024 + at') N).1) ∧ Rf w' g (writeM m (s * 1024 + at') N).2 ∧ w.grownBy w' (some g) := by
  have h0 := h.l0
  by_cases h1 : m.left = 1
  · exact xchange_dead g s at' n cap G m N w h h1 hN hG hs hat hn0
  · by_cases h2 : m.left = 0
    · exact xchange_none g s at' n cap G m N w h hd h2 hN hG hs hat hn0
    · exact xchange_two g s at' n cap G m N w h hd (by omega) hN hG hs hat hn0
end Go.Proofs.YtmebdnblobobnaaGreatDoor

namespace Go.Proofs.YtmebdnblobobnaaGreatDoor
set_option maxRecDepth 100000
open Go.RowKit _root_.Go.Proofs.YtmebdnblobobnaaGreatDoor.Wd _root_.Go.Proofs.YtmebdnblobobnaaGreatDoor.Fm

theorem pre_set9 (x y : List UInt8) (k : Nat) (hx : k < x.length) (hy : x.length = y.length) : (x.take k ++ y.drop k).set k (x.getD k 0) = x.take (k + 1) ++ y.drop (k + 1) := by
  have ht : (x.take k).length = k := by rw [List.length_take]; omega
  have hg : x.getD k 0 = x[k] := by simp [List.getD, List.getElem?_eq_getElem hx]
  rw [List.set_append_right _ _ (by omega), ht, Nat.sub_self, List.drop_eq_getElem_cons (by omega), List.set_cons_zero, hg, List.take_succ_eq_append_getElem hx, List.append_assoc]
  rfl
theorem bc_set9 (l : List UInt8) (k : Nat) (c : UInt8) : (bc l).set k (.int .u8 (c.toNat : Int)) = bc (l.set k c) := by unfold bc; rw [← List.map_set]
theorem bc_byte9 (l : List UInt8) (k : Nat) (h : k < l.length) : (bc l)[k]? = some (.int .u8 ((l.getD k 0).toNat : Int)) := by
  rw [bc_get l k h]
  simp [List.getD, List.getElem?_eq_getElem h]

set_option maxRecDepth 100000 in
set_option maxHeartbeats 2000000 in
theorem xerase_any (g : Nat) (m : Mem) (s : Int) (w : World) (h : Rf w g m) :
    Calls Tryz.prog 32 #[.pointer (some ⟨g, 0, none⟩), .int .i64 s] w fun e w' => e = .returned (.int .i64 (eraseM m s).1) ∧ Rf w' g (eraseM m s).2 ∧ w.grownBy w' (some g) := by
  obtain ⟨xm, A, n, cap, hr, ho, hm⟩ := h.spot
  have c0 := hr.cell (rfCells_at m (.slice A n cap) h.size).2.2.2
  have H1 := Lib.hid h
  clear hr ho h hm
  by_cases hd : m.dead = true
  · rw [eraseM_dead s hd]
    rw [hd] at c0
    clear hd
    go_enter Tryz.func32, Tryz.ntmps32
    go_wp2
    go_ret
    exact ⟨rfl, H1.out, grow_refl _ _⟩
  · have hd2 : m.dead = false := by simpa using hd
    rw [hd2] at c0
    by_cases hs : isSector s
    · obtain ⟨t, rfl⟩ : ∃ t : Nat, s = t := ⟨s.toNat, by have := hs.1; omega⟩
      have ht : t < 6 := by have := hs.2; omega
      rw [eraseM_ok t hd2 ht]
      obtain ⟨F, hF⟩ : ∃ F : List UInt8, List.replicate 1024 255 = F := ⟨_, rfl⟩
      obtain ⟨Z, hZ⟩ : ∃ F : List UInt8, List.replicate 1024 0 = F := ⟨_, rfl⟩
      have hFl : F.length = 1024 := by rw [← hF, List.length_replicate]
      have hZl : Z.length = 1024 := by rw [← hZ, List.length_replicate]
      have hFa : ∀ j, j < 1024 → F.getD j 0 = 255 := fun j hj => by rw [← hF]; exact rep_getD _ _ _ hj
      have hmk := fun W => make_bytes W 1024 (by decide)
      rw [hZ, show ((1024 : Nat) : Int) = 1024 from rfl] at hmk
      rw [hF]
      obtain ⟨R, hR⟩ : ∃ R, writeM m (t * 1024) F = R := ⟨_, rfl⟩
      rw [hR]
      have HRR := Lib.hid (And.intro hR (And.intro hFl (And.intro hZl (And.intro hFa hd2))))
      have hti : (t : Int) < 6 := by omega
      clear hd hd2 hs hR hF hZ hFl hZl hFa
      go_enter Tryz.func32, Tryz.ntmps32
      go_wp2_with fail
      clear hmk c0
      obtain ⟨G, hG⟩ : ∃ G, w.heap.size = G := ⟨_, rfl⟩
      have hW1 : Hid (Row (w.alloc (.cells (bc Z).toArray 5)) G 5 (bc (F.take 0 ++ Z.drop 0)) ∧ Below G w (w.alloc (.cells (bc Z).toArray 5))) := by
        rw [← hG, List.take_zero, List.drop_zero, List.nil_append]
        exact Lib.hid ⟨Row.new w _ _, below_new (Below.refl _ _) _⟩
      have HG := Lib.hid hG
      rw [hG]
      generalize w.alloc (.cells (bc Z).toArray 5) = w1 at hW1 ⊢
      clear hG
      go_loopw [6] (fun i wr => ∃ j : Nat, j ≤ 1024 ∧ i = .int .i64 j ∧ Hid (Row wr G 5 (bc (F.take j ++ Z.drop j)) ∧ Below G w wr)) (fun i _ => 1024 - (intOf i).toNat)
      case atStart => exact ⟨0, by omega, rfl, hW1⟩
      case round =>
        clear hW1
        obtain ⟨j, hj, rfl, HJ⟩ := hrel
        obtain ⟨_, hFl, hZl, hFa, _⟩ := HRR.out
        by_cases hlt : j < 1024
        · have hji : (j : Int) < 1024 := by omega
          have ca := HJ.out.1.cell (bc_byte9 _ j (by rw [List.length_append, List.length_take, List.length_drop]; omega))
          obtain ⟨ob, hob⟩ : ∃ v, Value.int .u8 ((((F.take j ++ Z.drop j).getD j 0).toNat : Nat) : Int) = v := ⟨_, rfl⟩
          rw [hob] at ca
          have fa := HJ.out.1.frozen j
          have ra := HJ.out.1.set j (.int .u8 (((255 : UInt8).toNat : Nat) : Int))
          rw [bc_set9, ← hFa j hlt, pre_set9 F Z j (by omega) (by omega), hFa j hlt, show (((255 : UInt8).toNat : Nat) : Int) = 255 from rfl] at ra
          have HR := Lib.hid (And.intro ra (below_set HJ.out.2 G j (.int .u8 255) (Nat.le_refl _)))
          clear HJ hob ra hFl hZl hFa
          go_wp2
          go_roundw
          case rel => exact ⟨j + 1, by omega, by go_num, HR⟩
          case measure => simp [intOf]; omega
        · have hj2 : j = 1024 := by omega
          have hrow : Row wr G 5 (bc F ++ []) := by
            have h := HJ.out.1
            rw [hj2, List.take_of_length_le (by omega), List.drop_eq_nil_of_le (by omega)] at h
            rw [List.append_nil] at h ⊢
            exact h
          have hji : ¬ (j : Int) < 1024 := by omega
          have hb := HJ.out.2
          rw [← HG.out] at hb
          have hGg : G ≠ g := by have := H1.out.lt; have := HG.out; omega
          have hx := xchange_any g t 0 1024 1024 G m F wr (H1.out.below hb) HRR.out.2.2.2.2 (row_shows hrow hFl (by decide)) hGg ht (by omega) (by decide)
          rw [Nat.add_zero, HRR.out.1, show ((0 : Nat) : Int) = 0 from rfl] at hx
          have HX := Lib.hid hx
          have HB := Lib.hid (below_grow hb (some g))
          clear hrow hb hGg hx HJ hFl hZl hFa hj2 hj
          go_wp2_with fail
          (with_reducible refine HX.out.mono ?_)
          rintro _ w2 ⟨rfl, hf, hg⟩
          have HE := Lib.hid (And.intro hf (grow_trans HB.out hg (.inl rfl)))
          clear hf hg
          go_wp2
          go_ret
          exact ⟨rfl, HE.out.1, HE.out.2⟩
    · rw [eraseM_addr hd2 hs]
      have hor : s < 0 ∨ (0 ≤ s ∧ 6 ≤ s) := by unfold isSector at hs; omega
      clear hd hd2 hs
      rcases hor with h1 | ⟨h1, h2⟩
      all_goals
        go_enter Tryz.func32, Tryz.ntmps32
        go_wp2
        go_ret
        exact ⟨rfl, H1.out, grow_refl _ _⟩

set_option maxRecDepth 100000 in
set_option maxHeartbeats 4000000 in
theorem xprogram_any (g : Nat) (m : Mem) (s p : Int) (A : Option Addr) (n cap : Nat) (b : List UInt8) (w : World) (h : Rf w g m) (hb : Shows w w.heap.size A n cap b) (hn : n ≤ 10000000000) :
    Calls Tryz.prog 53 #[.pointer (some ⟨g, 0, none⟩), .int .i64 s, .int .i64 p, .slice A n cap] w fun e w' => e = .returned (.int .i64 (programM m s p b).1) ∧ Rf w' g (programM m s p b).2 ∧ w.grownBy w' (some g) := by
  obtain ⟨xm, A0, n0, cap0, hr, ho, hm⟩ := h.spot
  have c0 := hr.cell (rfCells_at m (.slice A0 n0 cap0) h.size).2.2.2
  have H1 := Lib.hid (And.intro h hb)
  have hl := hb.len
  clear hr ho h hb hm
  by_cases hd : m.dead = true
  · rw [programM_dead s p b hd]
    rw [hd] at c0
    clear hd hl
    go_enter Tryz.func53, Tryz.ntmps53
    go_wp2
    go_ret
    exact ⟨rfl, H1.out.1, grow_refl _ _⟩
  have hd2 : m.dead = false := by simpa using hd
  rw [hd2] at c0
  by_cases hs : isPage s p
  · obtain ⟨t, rfl⟩ : ∃ t : Nat, s = t := ⟨s.toNat, by have := hs.1.1; omega⟩
    obtain ⟨u, rfl⟩ : ∃ t : Nat, p = t := ⟨p.toNat, by have := hs.2.1; omega⟩
    have ht : t < 6 := by have := hs.1.2; omega
    have hu : u < 64 := by have := hs.2.2; omega
    have hti : (t : Int) < 6 := by omega
    have hui : (u : Int) < 64 := by omega
    by_cases h16 : 16 < n
    · rw [programM_long hd2 hs (by omega)]
      clear hd hd2 hs hl
      go_enter Tryz.func53, Tryz.ntmps53
      go_wp2
      go_ret
      exact ⟨rfl, H1.out.1, grow_refl _ _⟩
    · obtain ⟨i0, hi0, hz0, hz1, hz2⟩ := info_parts infoByte
      have hown0 : (w.alloc (.cells #[] 5)).ownsRow w.heap.size 5 1 (.slice (some ⟨w.heap.size, 0, none⟩) 0 0) 0 (bc []) := World.ownsRow_made w #[] 0 (Nat.le_refl _) (Nat.zero_le _) rfl
      have hsrc := (H1.out.2.below (below_new (Below.refl _ _) (.cells #[] 5))).src (P := Tryz.prog) Tryz.underlying29
      have HOWN0 := Lib.hid hown0
      have HSRC := Lib.hid hsrc
      have HI0 := Lib.hid hi0
      have HZ0 := Lib.hid hz0
      have HZ1 := Lib.hid hz1
      have HZ2 := Lib.hid hz2
      obtain ⟨R, hR⟩ : ∃ R, programM m t u b = R := ⟨_, rfl⟩
      rw [hR]
      have HL := Lib.hid (And.intro hl (And.intro hd2 (And.intro hs hR)))
      have hpl := padded_len b (by omega)
      have HPL := Lib.hid hpl
      clear hd hd2 hs hl hR hown0 hsrc hi0 hz0 hz1 hz2 hpl
      go_enter Tryz.func53, Tryz.ntmps53
      go_wp2_with (at_builtin; refine wpList_ap _ rfl (.tmp 35) (.tmp 36) 29 29 rfl w.heap.size 5 i0 Tryz.underlying29 HI0.out HZ0.out HZ1.out HZ2.out _ 0 0 [] rfl HOWN0.out _ n b rfl HSRC.out ?c1 ?c2 ?_)
      case c1 => omega
      case c2 => simp
      intro A1 c1 w1 ho1 _ hg1 _
      have hb1 : Below w.heap.size w w1 := (below_new (Below.refl _ _) _).grown hg1 (by simp) (by intro k hk; simp at hk; omega)
      have HO1 : Hid (w1.ownsRow w.heap.size 5 1 (.slice A1 n c1) n (bc (b ++ List.replicate 0 255)) ∧ Below w.heap.size w w1) := Lib.hid ⟨by rw [List.replicate_zero, List.append_nil]; simpa using ho1, hb1⟩
      clear c0 ho1 hg1 hb1 HOWN0 HSRC
      go_wp2_with fail
      go_loopw [9] (fun v wr => ∃ (j M : Nat) (A3 : Option Addr) (c3 : Nat), M ≤ 16 ∧ M = n + j ∧ v = .slice A3 M c3 ∧ Hid (wr.ownsRow w.heap.size 5 1 (.slice A3 M c3) M (bc (b ++ List.replicate j 255)) ∧ Below w.heap.size w wr)) (fun v _ => match v with | .slice _ k _ => 16 - k | _ => 0)
      case atStart => exact ⟨0, n, A1, c1, by omega, rfl, by simp, HO1⟩
      case round =>
        clear HO1
        obtain ⟨j, M, A3, c3, hM16, hM, rfl, HJ⟩ := hrel
        by_cases hlt : M < 16
        · have hMi : (M : Int) < 16 := by omega
          have HO := Lib.hid (HJ.out.1.alloc (.cells #[.int .u8 255] 5))
          have HSL := Lib.hid ((lit_one wr 255 255 rfl).src (P := Tryz.prog) Tryz.underlying29)
          have HB := Lib.hid (below_new HJ.out.2 (.cells #[.int .u8 255] 5))
          have HM := Lib.hid hM
          clear HJ hM
          go_wp2_with (at_builtin; refine wpList_ap _ rfl (.tmp 41) (.tmp 42) 29 29 rfl w.heap.size 5 i0 Tryz.underlying29 HI0.out HZ0.out HZ1.out HZ2.out A3 M c3 _ rfl HO.out _ 1 [255] rfl HSL.out ?c1 ?c2 ?_)
          case c1 => omega
          case c2 => exact HB.out.size
          intro A4 c4 w4 ho4 _ hg4 _
          have hb4 := HB.out.grown hg4 HB.out.size (fun k hk => (own_block HO.out k hk).1)
          have HR : Hid (w4.ownsRow w.heap.size 5 1 (.slice A4 (M + 1) c4) (M + 1) (bc (b ++ List.replicate (j + 1) 255)) ∧ Below w.heap.size w w4) := by
            rw [List.replicate_succ']
            exact Lib.hid ⟨by simpa [List.append_assoc] using ho4, hb4⟩
          clear ho4 hg4 hb4 HO HSL HB
          go_wp2
          go_roundw
          case rel => exact ⟨j + 1, M + 1, A4, c4, by omega, by have := HM.out; omega, rfl, HR⟩
          case measure => simp; omega
        · have hMe : M = 16 := by omega
          subst hMe
          have hown := HJ.out.1
          have hpad : b ++ List.replicate j 255 = padded b := by
            unfold padded
            rw [HL.out.1, show 16 - n = j by omega]
          rw [hpad] at hown
          rcases hown.2 with ⟨_, h0⟩ | ⟨Gx, cx, cur, hv, hGx, _⟩
          · exact absurd h0 (by decide)
          injection hv with hv1 _ hv3
          subst hv1
          subst hv3
          obtain ⟨o, hoo⟩ : ∃ o, t * 1024 + u * 16 = o := ⟨_, rfl⟩
          have hrf := H1.out.1.below HJ.out.2
          have HX := Lib.hid (And.intro hown (And.intro hGx (And.intro hrf (And.intro HJ.out.2 (And.intro hoo (And.intro ht hu))))))
          clear hown hGx hrf hpad HJ hM hoo hlt hM16
          have hc3 := (Shows.of_own HX.out.1).le
          have hc3t := (Shows.of_own HX.out.1).top
          unfold maxLen at hc3t
          have hoB : o + 16 ≤ 6144 := by have := HX.out.2.2.2.2.1; omega
          have H16 : ¬ ((16 : Nat) : Int) < 16 := by omega
          go_wp2_with fail
          go_loopw [10] (fun i wr2 => ∃ j d : Nat, j ≤ 16 ∧ i = .int .i64 j ∧ wr2 = wr.drewN d ∧ Hid (∀ i, i < j → (padded b).getD i 0 &&& ~~~((m.page o 16).getD i 0) = 0)) (fun i _ => 16 - (intOf i).toNat)
          case atStart => exact ⟨0, 0, by omega, rfl, rfl, Lib.hid (fun i hi => absurd hi (by omega))⟩
          case round =>
            obtain ⟨q, d, hq, rfl, rfl, HA⟩ := hrel
            by_cases hqlt : q < 16
            · have hqi : (q : Int) < 16 := by omega
              obtain ⟨hown, hGx, hrf, hbw, hoo, ht, hu⟩ := HX.out
              obtain ⟨fg, fo, fe, _, hNc⟩ := (Shows.of_own hown).cells (by decide)
              injection fe with fe
              injection fe with fe fe2
              subst fe fe2
              have c1 := hNc q hqlt
              rw [Nat.zero_add] at c1
              obtain ⟨xm2, A5, n5, c5, hr5, _, _⟩ := hrf.spot
              have c2 := hr5.cell (rfCells_byte m (.slice A5 n5 c5) hrf.size (o + q) (by omega))
              obtain ⟨a1, ha1⟩ : ∃ c, (padded b).getD q 0 = c := ⟨_, rfl⟩
              obtain ⟨a2, ha2⟩ : ∃ c, m.B.getD (o + q) 0 = c := ⟨_, rfl⟩
              rw [ha1] at c1
              rw [ha2] at c2
              have hv := u8_andNot8 a1 a2
              obtain ⟨z, hz⟩ : ∃ z, a1 &&& ~~~a2 = z := ⟨_, rfl⟩
              rw [hz] at hv
              obtain ⟨e, he⟩ : ∃ e, u * 16 + q = e := ⟨_, rfl⟩
              have he1 : (u : Int) * 16 + (q : Int) = (e : Int) := by omega
              have he2 : (e : Int) < 1024 := by omega
              have he3 : IntKind.i64.wrap ((u : Int) * 16) = (u : Int) * 16 := by rw [IntKind.wrap_i64]; omega
              have he4 : IntKind.i64.wrap (e : Int) = (e : Int) := by rw [IntKind.wrap_i64]; omega
              have hoe : o + q = t * 1024 + e := by omega
              rw [hoe] at c2
              have HZ := Lib.hid (And.intro ha1 (And.intro ha2 (And.intro hz hoe)))
              have HOO := Lib.hid hoo
              clear hown hGx hrf hbw hNc hr5 ha1 ha2 hz he hoe hoo
              have hzz : (((z.toNat : Int) != 0) = false ∧ z = 0) ∨ (((z.toNat : Int) != 0) = true ∧ z ≠ 0) := by
                by_cases h : z = 0
                · left; rw [h]; exact ⟨rfl, rfl⟩
                · right
                  refine ⟨?_, h⟩
                  have : ¬ z.toNat = 0 := fun e => h (UInt8.toNat_inj.1 e)
                  simp
                  omega
              rcases hzz with ⟨hz1, hz2⟩ | ⟨hz1, hz2⟩
              · have HA2 : Hid (∀ i, i < q + 1 → (padded b).getD i 0 &&& ~~~((m.page o 16).getD i 0) = 0) := Lib.hid (fun i hi => by
                  by_cases hiq : i = q
                  · subst hiq
                    rw [page_at m o 16 i hqlt, HZ.out.1, HZ.out.2.1, HZ.out.2.2.1, hz2]
                  · exact HA.out i (by omega))
                clear HA hz2
                go_wp2_with fail
                go_quiet (fail)
                go_wp2
                go_roundw
                case rel => exact ⟨q + 1, _, by omega, by go_num, rfl, HA2⟩
                case measure => simp [intOf]; omega
              · have HRe : Hid (R = (13, m)) := by
                  rw [← HL.out.2.2.2]
                  refine Lib.hid (programM_set HL.out.2.1 ht hu (by rw [HL.out.1]; omega) ?_)
                  rw [HOO.out]
                  unfold setsB
                  rw [List.any_eq_true]
                  refine ⟨q, by rw [HPL.out]; simpa using hqlt, ?_⟩
                  rw [page_at m o 16 q hqlt, HZ.out.1, HZ.out.2.1, HZ.out.2.2.1]
                  simpa using hz2
                have HE : Hid (Rf (wr.drewN d) g m ∧ w.grownBy (wr.drewN d) (some g)) := Lib.hid ⟨⟨HX.out.2.2.1.size, HX.out.2.2.1.l0, HX.out.2.2.1.l1, HX.out.2.2.1.spot⟩, drewN_grow (below_grow HX.out.2.2.2.1 (some g)) d⟩
                clear HA hz2
                go_wp2_with fail
                go_quiet (fail)
                go_wp2
                go_ret
                rw [HRe.out]
                exact ⟨rfl, ⟨HE.out.1.size, HE.out.1.l0, HE.out.1.l1, HE.out.1.spot⟩, ⟨HE.out.2.os, HE.out.2.tape, HE.out.2.output, HE.out.2.size, HE.out.2.block⟩⟩
            · have hq16 : q = 16 := by omega
              have hqi : ¬ (q : Int) < 16 := by omega
              obtain ⟨hown, hGx, hrf, hbw, hoo, ht, hu⟩ := HX.out
              have hset : setsB (m.page o 16) (padded b) = false := by
                unfold setsB
                rw [List.any_eq_false]
                intro i hi
                have hi2 : i < q := by rw [HPL.out] at hi; rw [hq16]; simpa using hi
                rw [HA.out i hi2]
                decide
              have hRe : R = writeM m o (padded b) := by
                rw [← HL.out.2.2.2, ← hoo]
                exact programM_ok HL.out.2.1 ht hu (by rw [HL.out.1]; omega) (by rw [hoo]; exact hset)
              have hrfd : Rf (wr.drewN d) g m := ⟨hrf.size, hrf.l0, hrf.l1, hrf.spot⟩
              have hGg : Gx ≠ g := by have := H1.out.1.lt; omega
              have hsx : Shows (wr.drewN d) (wr.drewN d).heap.size (some ⟨Gx, 0, none⟩) 16 _ (padded b) := Shows.of_own (w := wr.drewN d) hown
              have hx := xchange_any g t (u * 16) 16 _ Gx m (padded b) (wr.drewN d) hrfd HL.out.2.1 hsx hGg ht (by omega) (by decide)
              rw [hoo, ← hRe, show ((u * 16 : Nat) : Int) = (u : Int) * 16 by omega] at hx
              have HX2 := Lib.hid hx
              have HB := Lib.hid (drewN_grow (below_grow hbw (some g)) d)
              clear hown hGx hrf hbw hoo hset hRe hrfd hGg hsx hx HA hq16 hqlt
              go_wp2_with fail
              (with_reducible refine HX2.out.mono ?_)
              rintro _ w2 ⟨rfl, hf, hg⟩
              have HE := Lib.hid (And.intro hf (grow_trans HB.out hg (.inl rfl)))
              clear hf hg
              go_wp2
              go_ret
              exact ⟨rfl, HE.out.1, HE.out.2⟩
  · rw [programM_addr b hd2 hs]
    have hor : s < 0 ∨ (0 ≤ s ∧ 6 ≤ s) ∨ (0 ≤ s ∧ s < 6 ∧ p < 0) ∨ (0 ≤ s ∧ s < 6 ∧ 0 ≤ p ∧ 64 ≤ p) := by unfold isPage isSector at hs; omega
    clear hd hd2 hs hl
    rcases hor with h1 | ⟨h1, h2⟩ | ⟨h1, h2, h3⟩ | ⟨h1, h2, h3, h4⟩
    all_goals
      go_enter Tryz.func53, Tryz.ntmps53
      go_wp2
      go_ret
      exact ⟨rfl, H1.out.1, grow_refl _ _⟩
end Go.Proofs.YtmebdnblobobnaaGreatDoor

namespace Go.Proofs.YtmebdnblobobnaaGreatDoor
set_option maxRecDepth 100000
open Go.RowKit _root_.Go.Proofs.YtmebdnblobobnaaGreatDoor.Wd _root_.Go.Proofs.YtmebdnblobobnaaGreatDoor.Fm

set_option maxHeartbeats 400000 in
theorem xstart_any (g : Nat) (m : Mem) (w : World) (h : Rf w g m) :
    Calls Tryz.prog 22 #[.pointer (some ⟨g, 0, none⟩)] w fun e w' => e = .returned (.tuple #[]) ∧ Rf w' g (startM m) ∧ w.grownBy w' (some g) := by
  obtain ⟨xm, A, n, cap, hr, ho, _⟩ := h.spot
  obtain ⟨a0, a1, a2, a3⟩ := rfCells_at m (.slice A n cap) h.size
  have c1 := hr.cell a1
  have c2 := hr.cell a2
  have c3 := hr.cell a3
  have f1 := hr.frozen 6145
  have f2 := hr.frozen 6146
  have f3 := hr.frozen 6147
  have r1 := ((hr.set 6147 (.bool false)).set 6145 (.int .i64 0)).set 6146 (.slice none 0 0)
  rw [(rfCells_set m (.slice A n cap) (.slice none 0 0) h.size false 0).2.2.2] at r1
  rw [(rfCells_set { m with dead := false } (.slice A n cap) (.slice none 0 0) h.size false 0).2.1] at r1
  rw [(rfCells_set { m with dead := false, left := 0 } (.slice A n cap) (.slice none 0 0) h.size false 0).2.2.1] at r1
  have hF : Rf (((w.setCell ⟨g, 6147, none⟩ (.bool false)).setCell ⟨g, 6145, none⟩ (.int .i64 0)).setCell ⟨g, 6146, none⟩ (.slice none 0 0)) g (startM m) :=
    ⟨h.size, Int.le_refl _, (show (0 : Int) ≤ 9223372036854775807 by decide), [], none, 0, 0, r1, World.ownsRow_nil _ _ _ _, fun hh => absurd hh (by show ¬ (0 : Int) < 0; decide)⟩
  have HH := Lib.hid hF
  clear hr ho h r1 a0 a1 a2 a3 hF
  go_enter Tryz.func22, Tryz.ntmps22
  go_wp2
  exact bodyPost_end (results_none rfl _ _ _) rfl ⟨rfl, HH.out, grow_set (grow_set (grow_set (grow_refl w _) _ _) _ _) _ _⟩

set_option maxHeartbeats 1000000 in
theorem xstop_any (g : Nat) (m : Mem) (k : Int) (A : Option Addr) (n cap : Nat) (l : List UInt8) (w : World) (h : Rf w g m) (hk : k ≤ 9223372036854775807) (hs : Shows w w.heap.size A n cap l) (hn : n ≤ 10000000000) :
    Calls Tryz.prog 20 #[.pointer (some ⟨g, 0, none⟩), .int .i64 k, .slice A n cap] w fun e w' => e = .returned (.tuple #[]) ∧ Rf w' g (stopM m k l) ∧ w.grownBy w' (some g) := by
  obtain ⟨i0, hi0, hz0, hz1, hz2⟩ := info_parts infoByte
  have hown0 : (w.alloc (.cells #[] 5)).ownsRow w.heap.size 5 1 (.slice (some ⟨w.heap.size, 0, none⟩) 0 0) 0 (bc []) := World.ownsRow_made w #[] 0 (Nat.le_refl _) (Nat.zero_le _) rfl
  have hsrc := (hs.below (below_new (Below.refl _ _) (.cells #[] 5))).src (P := Tryz.prog) Tryz.underlying29
  have HOWN0 := Lib.hid hown0
  have HSRC := Lib.hid hsrc
  have HI0 := Lib.hid hi0
  have HZ0 := Lib.hid hz0
  have HZ1 := Lib.hid hz1
  have HZ2 := Lib.hid hz2
  have H1 := Lib.hid (And.intro h (And.intro hs.len hk))
  clear h hs hown0 hsrc hi0 hz0 hz1 hz2 hk
  go_enter Tryz.func20, Tryz.ntmps20
  go_wp2_with (at_builtin; refine wpList_ap _ rfl (.tmp 10) (.tmp 11) 29 29 rfl w.heap.size 5 i0 Tryz.underlying29 HI0.out HZ0.out HZ1.out HZ2.out _ 0 0 [] rfl HOWN0.out _ n l rfl HSRC.out ?c1 ?c2 ?_)
  case c1 => omega
  case c2 => simp
  intro A1 c1 w1 ho1 _ hg1 _
  have hb1 : Below w.heap.size w w1 := (below_new (Below.refl _ _) _).grown hg1 (by simp) (by intro k hk; simp at hk; omega)
  have f1 := H1.out.1.below hb1
  obtain ⟨xm, A2, n2, cap2, hr, _, _⟩ := f1.spot
  obtain ⟨a0, a1, a2, a3⟩ := rfCells_at m (.slice A2 n2 cap2) f1.size
  have d1 := hr.cell a1
  have d2 := hr.cell a2
  have e1 := hr.frozen 6145
  have e2 := hr.frozen 6146
  have hr1 := hr.set 6145 (.int .i64 (max k 0))
  have o1 := own_set (i := 6145) (.int .i64 (max k 0)) ho1 hr tyx_ne
  rw [(rfCells_set m (.slice A2 n2 cap2) (.slice none 0 0) f1.size false (max k 0)).2.1] at hr1
  have hr2 := hr1.set 6146 (.slice A1 n c1)
  have o2 := own_mono (own_set (i := 6146) (.slice A1 n c1) o1 hr1 tyx_ne) (Nat.zero_le _)
  rw [(rfCells_set { m with left := max k 0 } (.slice A2 n2 cap2) (.slice A1 n c1) f1.size false 0).2.2.1] at hr2
  have hF : Rf ((w1.setCell ⟨g, 6145, none⟩ (.int .i64 (max k 0))).setCell ⟨g, 6146, none⟩ (.slice A1 n c1)) g (stopM m k l) := by
    by_cases h0 : 0 < k
    · have hm : stopM m k l = { m with left := k, mask := l.take 1024 } := by simp [stopM, h0]
      rw [hm]
      rw [show max k 0 = k by omega] at hr2 o2 ⊢
      exact ⟨f1.size, by show (0 : Int) ≤ k; omega, H1.out.2.2, l, A1, n, c1, hr2, o2, fun _ => rfl⟩
    · have hm : stopM m k l = { m with left := 0, mask := [] } := by simp [stopM, h0]
      rw [hm]
      rw [show max k 0 = 0 by omega] at hr2 o2 ⊢
      exact ⟨f1.size, Int.le_refl _, (show (0 : Int) ≤ 9223372036854775807 by decide), l, A1, n, c1, hr2, o2, fun hh => absurd hh (by show ¬ (0 : Int) < 0; decide)⟩
  have hG := grow_set (grow_set (below_grow hb1 (some g)) 6145 (.int .i64 (max k 0))) 6146 (.slice A1 n c1)
  have HF := Lib.hid (And.intro hF hG)
  clear hF hG hr hr1 hr2 o1 o2 ho1 hg1 hb1 f1 a0 a1 a2 a3 HOWN0 HSRC
  go_wp2
  exact bodyPost_end (results_none rfl _ _ _) rfl ⟨rfl, HF.out.1, HF.out.2⟩

set_option maxHeartbeats 1000000 in
theorem xread_any (g : Nat) (m : Mem) (s : Int) (w : World) (h : Rf w g m) :
    Calls Tryz.prog 28 #[.pointer (some ⟨g, 0, none⟩), .int .i64 s] w fun e w' => ∃ A n cap, e = .returned (.slice A n cap) ∧ w'.ownsRow w.heap.size 5 1 (.slice A n cap) n (bc (readM m s)) ∧ Below w.heap.size w w' := by
  by_cases hs : isSector s
  · obtain ⟨t, rfl⟩ : ∃ t : Nat, s = t := ⟨s.toNat, by have := hs.1; omega⟩
    have ht : t < 6 := by have := hs.2; omega
    have e : readM m (t : Int) = m.page (t * 1024) 1024 := by
      unfold readM placeOf
      rw [if_pos hs]
      simp only [Int.toNat_natCast, Int.toNat_zero, Nat.zero_mul, Nat.add_zero]
    rw [e]
    obtain ⟨L, hL⟩ : ∃ L, m.page (t * 1024) 1024 = L := ⟨_, rfl⟩
    have hsh := h.shows (t * 1024) 1024 1024 (by omega) (Nat.le_refl _) (by decide)
    rw [hL] at hsh ⊢
    obtain ⟨i0, hi0, hz0, hz1, hz2⟩ := info_parts infoByte
    have hown0 : (w.alloc (.cells #[] 5)).ownsRow w.heap.size 5 1 (.slice (some ⟨w.heap.size, 0, none⟩) 0 0) 0 (bc []) := World.ownsRow_made w #[] 0 (Nat.le_refl _) (Nat.zero_le _) rfl
    have hsrc := (hsh.below (below_new (Below.refl _ _) (.cells #[] 5))).src (P := Tryz.prog) Tryz.underlying29
    have HOWN0 := Lib.hid hown0
    have HSRC := Lib.hid hsrc
    have HI0 := Lib.hid hi0
    have HZ0 := Lib.hid hz0
    have HZ1 := Lib.hid hz1
    have HZ2 := Lib.hid hz2
    have hti : (t : Int) < 6 := by omega
    clear hs e hL hown0 hsrc hi0 hz0 hz1 hz2 hsh h
    go_enter Tryz.func28, Tryz.ntmps28
    go_wp2_with (at_builtin; refine wpList_ap _ rfl (.tmp 11) (.tmp 17) 29 29 rfl w.heap.size 5 i0 Tryz.underlying29 HI0.out HZ0.out HZ1.out HZ2.out _ 0 0 [] rfl HOWN0.out _ 1024 L rfl HSRC.out ?c1 ?c2 ?_)
    case c1 => omega
    case c2 => simp
    intro A1 c1 w1 ho1 _ hg1 _
    have hb1 : Below w.heap.size w w1 := (below_new (Below.refl _ _) _).grown hg1 (by simp) (by intro k hk; simp at hk; omega)
    have HE := Lib.hid (And.intro ho1 hb1)
    clear ho1 hb1 hg1 HOWN0 HSRC
    go_wp2
    go_ret
    exact ⟨A1, 1024, c1, rfl, HE.out.1, HE.out.2⟩
  · have e : readM m s = [] := by unfold readM; rw [if_neg hs]
    rw [e]
    have hor : s < 0 ∨ (0 ≤ s ∧ 6 ≤ s) := by unfold isSector at hs; omega
    clear hs e h
    rcases hor with h1 | ⟨h1, h2⟩
    all_goals
      go_enter Tryz.func28, Tryz.ntmps28
      go_wp2
      go_ret
      exact ⟨none, 0, 0, rfl, World.ownsRow_nil _ _ _ _, Below.refl _ _⟩
end Go.Proofs.YtmebdnblobobnaaGreatDoor

namespace Go.Proofs.YtmebdnblobobnaaGreatDoor
set_option maxRecDepth 100000
open Go.RowKit _root_.Go.Proofs.YtmebdnblobobnaaGreatDoor.Wd _root_.Go.Proofs.YtmebdnblobobnaaGreatDoor.Fm

def fullB (k : Nat) : List UInt8 := List.replicate k 255 ++ List.replicate (6144 - k) 0
theorem fullB_len (k : Nat) (h : k ≤ 6144) : (fullB k).length = 6144 := by
  unfold fullB
  rw [List.length_append, List.length_replicate, List.length_replicate]
  omega
theorem fullB_next (k : Nat) (h : k < 6144) : (fullB k).set k 255 = fullB (k + 1) := by
  unfold fullB
  rw [List.set_append_right _ _ (by rw [List.length_replicate]; omega), List.length_replicate, Nat.sub_self, show 6144 - k = (6144 - (k + 1)) + 1 by omega, List.replicate_succ, List.set_cons_zero, List.replicate_succ', List.append_assoc]
  rfl
theorem fullB_full : fullB 6144 = List.replicate 6144 255 := by
  unfold fullB
  rw [Nat.sub_self, List.replicate_zero, List.append_nil]
def blankRf : List Value := rfCells ⟨fullB 0, false, 0, 0, []⟩ (.slice none 0 0)
theorem rf_zero : (Tryz.prog.info? 63).map (fun i => (i.zero, i.size)) = some (some (.agg blankRf.toArray), 6148) := by kernel_rfl
def rowRf (k : Nat) : List Value := rfCells ⟨fullB k, false, 0, 0, []⟩ (.slice none 0 0)

set_option maxRecDepth 100000 in
set_option maxHeartbeats 2000000 in
theorem xnew_any (w : World) :
    Calls Tryz.prog 8 #[] w fun e w' => e = .returned (.pointer (some ⟨w.heap.size, 0, none⟩)) ∧ Rf w' w.heap.size Mem.fresh ∧ Below w.heap.size w w' := by
  obtain ⟨C, hC⟩ : ∃ C, blankRf = C := ⟨_, rfl⟩
  have hz : ∀ W : World, (zeroValue 63).run Tryz.prog W = .ok (.agg C.toArray) W := by
    rw [← hC]
    exact zero_any _ _ rf_zero
  obtain ⟨G, hG⟩ : ∃ G, w.heap.size = G := ⟨_, rfl⟩
  have r0 : Hid (Row (w.alloc (.cells C.toArray 63)) G 63 (rowRf 0) ∧ Below G w (w.alloc (.cells C.toArray 63))) := by
    rw [← hG, ← hC]
    exact Lib.hid ⟨Row.new w _ _, (Below.refl w.heap.size w).alloc (Nat.le_refl _) _⟩
  have HG := Lib.hid hG
  clear hC
  go_enter Tryz.func8, Tryz.ntmps8
  go_wp2_with fail
  try rw [hG]
  generalize w.alloc (.cells C.toArray 63) = w1 at r0 ⊢
  clear hz hG
  go_loopw [2] (fun i wr => ∃ k : Nat, k ≤ 6 ∧ i = .int .i64 k ∧ Hid (Row wr G 63 (rowRf (k * 1024)) ∧ Below G w wr)) (fun i _ => 6 - (intOf i).toNat)
  case atStart => exact ⟨0, by omega, rfl, r0⟩
  case round =>
    clear r0
    obtain ⟨k, hk, rfl, HK⟩ := hrel
    by_cases hlt : k < 6
    · have hki : (k : Int) < 6 := by omega
      go_wp2_with fail
      go_loopw [3] (fun i wr2 => ∃ j : Nat, j ≤ 1024 ∧ i = .int .i64 j ∧ Hid (Row wr2 G 63 (rowRf (k * 1024 + j)) ∧ Below G w wr2)) (fun i _ => 1024 - (intOf i).toNat)
      case atStart => exact ⟨0, by omega, rfl, HK⟩
      case round =>
        clear HK
        obtain ⟨j, hj, rfl, HJ⟩ := hrel
        by_cases hlt2 : j < 1024
        · have hji : (j : Int) < 1024 := by omega
          have hl := fullB_len (k * 1024 + j) (by omega)
          have ca := HJ.out.1.cell (rfCells_byte ⟨fullB (k * 1024 + j), false, 0, 0, []⟩ (.slice none 0 0) hl (k * 1024 + j) (by omega))
          obtain ⟨ob, hob⟩ : ∃ v, Value.int .u8 ((((fullB (k * 1024 + j)).getD (k * 1024 + j) 0).toNat : Nat) : Int) = v := ⟨_, rfl⟩
          change wr.cell? ⟨G, k * 1024 + j, none⟩ = some (Value.int .u8 ((((fullB (k * 1024 + j)).getD (k * 1024 + j) 0).toNat : Nat) : Int)) at ca
          rw [hob] at ca
          have fa := HJ.out.1.frozen (k * 1024 + j)
          have ra := HJ.out.1.set (k * 1024 + j) (.int .u8 (((255 : UInt8).toNat : Nat) : Int))
          have he := rfCells_put ⟨fullB (k * 1024 + j), false, 0, 0, []⟩ (.slice none 0 0) hl (k * 1024 + j) (by omega) 255
          rw [show ({ B := fullB (k * 1024 + j), dead := false, ops := 0, left := 0, mask := [] } : Mem).B = fullB (k * 1024 + j) from rfl, fullB_next _ (by omega)] at he
          unfold rowRf at ra
          rw [he, show (((255 : UInt8).toNat : Nat) : Int) = 255 from rfl, Nat.add_assoc] at ra
          have HR : Hid (Row (wr.setCell ⟨G, k * 1024 + j, none⟩ (.int .u8 255)) G 63 (rowRf (k * 1024 + (j + 1))) ∧ Below G w (wr.setCell ⟨G, k * 1024 + j, none⟩ (.int .u8 255))) := Lib.hid ⟨by rw [← Nat.add_assoc]; exact ra, below_set HJ.out.2 G (k * 1024 + j) (.int .u8 255) (Nat.le_refl _)⟩
          clear HJ hob ra he hl
          go_wp2
          go_roundw
          case rel => exact ⟨j + 1, by omega, by go_num, HR⟩
          case measure => simp [intOf]; omega
        · have hj2 : j = 1024 := by omega
          have hji : ¬ (j : Int) < 1024 := by omega
          have HR : Hid (Row wr G 63 (rowRf ((k + 1) * 1024)) ∧ Below G w wr) := by
            rw [show (k + 1) * 1024 = k * 1024 + j by omega]
            exact HJ
          clear HJ
          go_wp2
          go_roundw
          case rel => exact ⟨k + 1, by omega, by go_num, HR⟩
          case measure => simp [intOf]; omega
    · have hk6 : k = 6 := by omega
      have hki : ¬ (k : Int) < 6 := by omega
      have hf : Rf wr G Mem.fresh := by
        have h := HK.out.1
        rw [hk6] at h
        unfold rowRf at h
        rw [show (6 * 1024 : Nat) = 6144 from rfl, fullB_full] at h
        exact ⟨by show (List.replicate 6144 (255 : UInt8)).length = 6144; rw [List.length_replicate], Int.le_refl _, (show (0 : Int) ≤ 9223372036854775807 by decide), [], none, 0, 0, h, World.ownsRow_nil _ _ _ _, fun hh => absurd hh (by show ¬ (0 : Int) < 0; decide)⟩
      have HE := Lib.hid (And.intro hf HK.out.2)
      clear hf HK
      go_wp2
      go_ret
      rw [HG.out]
      exact ⟨rfl, HE.out.1, HE.out.2⟩
end Go.Proofs.YtmebdnblobobnaaGreatDoor

