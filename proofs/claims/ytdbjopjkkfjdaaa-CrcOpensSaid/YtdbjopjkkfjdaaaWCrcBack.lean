/- The walk of the law CrcBack: what was sealed is opened as it was, whatever stands behind it; a bit that is turned behind its length is found. -/
import Derived.Test.YtdbjopjkkfjdaaaWCrcBits
import Derived.StillTailTactics
import Derived.IntWalk
namespace Go.Proofs.Ytdbjopjkkfjdaaa
open Go.RowKit Wd Nm Cm

theorem sealed_two (l : List UInt8) (h : l.length ≤ 65535) : leNat ((sealed l).take 2) = l.length := by
  unfold sealed
  rw [List.append_assoc, List.take_left' (leb_len _ _)]
  have := leNat_leb (l.length : Int) 2
  have e : (2 : Int) ^ (8 * 2) = 65536 := rfl
  rw [e] at this
  omega
theorem leNat_inj : ∀ (a b : List UInt8), a.length = b.length → leNat a = leNat b → a = b
  | [], [], _, _ => rfl
  | x :: a, y :: b, hl, h => by
    have hx := x.toNat_lt
    have hy := y.toNat_lt
    simp only [leNat] at h
    have h1 : x.toNat = y.toNat := by omega
    have h2 : leNat a = leNat b := by omega
    rw [UInt8.toNat_inj.1 h1, leNat_inj a b (by simpa using hl) h2]
/-- One byte behind the length is turned: bad. -/
theorem opened_turned (l : List UInt8) (h : l.length ≤ 65535) (k : Nat) (hk2 : 2 ≤ k) (hk : k < (sealed l).length) (y : UInt8) (hy : y ≠ (sealed l)[k]) : opened ((sealed l).set k y) = ([], 0, 10) := by
  have hl := sealed_len l
  have h1 : leNat (((sealed l).set k y).take 2) = l.length := by
    rw [List.take_set_of_le hk2]
    exact sealed_two l h
  have h3 : (sealed l).drop 6 = l := by
    unfold sealed
    rw [List.drop_left' (by rw [List.length_append, leb_len, leb_len])]
  have h2 : ((sealed l).drop 2).take 4 = leb (tn (crc l)) 4 := by
    unfold sealed
    rw [List.append_assoc, List.drop_left' (leb_len _ _), List.take_left' (leb_len _ _)]
  have h5 : (leNat (leb (tn (crc l)) 4) : Int) = tn (crc l) := by
    have hb := tn_bd (crc l)
    have e : (2 : Int) ^ (8 * 4) = 4294967296 := rfl
    rw [leNat_leb, e]
    omega
  have hne : ¬ tn (crc ((((sealed l).set k y).drop 6).take l.length)) = (leNat ((((sealed l).set k y).drop 2).take 4) : Int) := by
    by_cases h6 : k < 6
    · have e1 : ((sealed l).set k y).drop 6 = l := by rw [List.drop_set_of_lt h6, h3]
      have e2 : (((sealed l).set k y).drop 2).take 4 = (leb (tn (crc l)) 4).set (k - 2) y := by
        rw [List.drop_set, if_neg (by omega), List.take_set, h2]
      rw [e1, e2, List.take_length]
      intro he
      have he2 : leNat (leb (tn (crc l)) 4) = leNat ((leb (tn (crc l)) 4).set (k - 2) y) := by omega
      have he3 := leNat_inj _ _ (by rw [List.length_set]) he2
      have hk4 : k - 2 < (leb (tn (crc l)) 4).length := by rw [leb_len]; omega
      have he4 : (leb (tn (crc l)) 4)[k - 2] = y := by
        have := congrArg (fun z => z[k - 2]?) he3
        simp only [List.getElem?_set_self hk4] at this
        rw [List.getElem?_eq_getElem hk4] at this
        exact Option.some.inj this
      apply hy
      rw [← he4]
      have : (((sealed l).drop 2).take 4)[k - 2]? = (sealed l)[k]? := by
        rw [List.getElem?_take, if_pos (by omega), List.getElem?_drop]
        congr 1
        omega
      rw [h2, List.getElem?_eq_getElem hk4, List.getElem?_eq_getElem hk] at this
      exact Option.some.inj this
    · have e1 : (((sealed l).set k y).drop 6).take l.length = l.set (k - 6) y := by
        rw [List.drop_set, if_neg h6, h3, List.take_of_length_le (by rw [List.length_set]; omega)]
      have e2 : (((sealed l).set k y).drop 2).take 4 = leb (tn (crc l)) 4 := by
        rw [List.drop_set, if_neg (by omega), List.take_set_of_le (by omega), h2]
      have hk6 : k - 6 < l.length := by omega
      rw [e1, e2, h5]
      have hne := crc_set l (k - 6) hk6 y (by
        intro he
        apply hy
        rw [he]
        have : ((sealed l).drop 6)[k - 6]? = (sealed l)[k]? := by
          rw [List.getElem?_drop]
          congr 1
          omega
        rw [h3, List.getElem?_eq_getElem hk6, List.getElem?_eq_getElem hk] at this
        exact Option.some.inj this)
      intro he
      exact hne (BitVec.eq_of_toNat_eq (by unfold tn at he; omega))
  unfold opened
  rw [h1, List.length_set, hl, if_neg (by omega), if_neg (by omega), if_neg hne]
/-- A front: cut. -/
theorem opened_front (l : List UInt8) (h : l.length ≤ 65535) (k : Nat) (hk : k < (sealed l).length) : opened ((sealed l).take k) = ([], 0, 8) := by
  have hl := sealed_len l
  unfold opened
  by_cases h6 : k < 6
  · rw [if_pos (by rw [List.length_take]; omega)]
  · have h1 : leNat (((sealed l).take k).take 2) = l.length := by
      rw [List.take_take, Nat.min_eq_left (by omega)]
      exact sealed_two l h
    rw [if_neg (by rw [List.length_take]; omega), h1, if_pos (by rw [List.length_take]; omega)]

/-- The seal, as the law asks: a slice that shows it. -/
theorem seal_at300 (A : Option Addr) (n cap : Nat) (l : List UInt8) (w : World) (hs : Shows w w.heap.size A n cap l) (hn : n ≤ 300) :
    Calls Try.prog 15 #[.slice A n cap] w fun e w' => ∃ A2 c2, e = .returned (.slice A2 (6 + n) c2) ∧ Shows w' w'.heap.size A2 (6 + n) c2 (sealed l) ∧ Below w.heap.size w w' := seal_any A n cap l w hs (by omega)
/-- Open, where it is known what comes. -/
theorem open_as (A : Option Addr) (n cap : Nat) (l x : List UInt8) (k : Nat) (er : Int) (w : World) (hs : Shows w w.heap.size A n cap l) (hn : n ≤ 1000000000) (ho : opened l = (x, k, er)) :
    Calls Try.prog 17 #[.slice A n cap] w fun e w' => ∃ A2 c2, e = .returned (.tuple #[.slice A2 x.length c2, .int .i64 (k : Nat), .int .i64 er]) ∧ Shows w' w'.heap.size A2 x.length c2 x ∧ Below w.heap.size w w' := by
  have h := open_any A n cap l w hs hn
  rw [ho] at h
  exact h

set_option maxRecDepth 100000 in
set_option maxHeartbeats 4000000 in
theorem crcBack_walk (A : Option Addr) (n cap : Nat) (l : List UInt8) (A1 : Option Addr) (n1 cap1 : Nat) (l1 : List UInt8) (at1 bt : Int) (w : World) (hs : Shows w w.heap.size A n cap l) (hs1 : Shows w w.heap.size A1 n1 cap1 l1) (_h1 : (Lit.int .i64 at1).wf = true) (_h2 : (Lit.int .i64 bt).wf = true) :
    Calls Try.prog 5 #[.slice A n cap, .slice A1 n1 cap1, .int .i64 at1, .int .i64 bt] w fun e w' => e = .returned (.bool true) ∧ Below w.heap.size w w' := by
  obtain ⟨i0, hi0, hz0, hz1, hz2⟩ := info_parts infoByte
  have HLEN := Lib.hid hs.len
  have HLEN1 := Lib.hid hs1.len
  go_enter Try.func5, Try.ntmps5
  go_wp2_with fail
  refine (known2_any _).mono ?_
  rintro _ w1 ⟨rfl, hb1⟩
  have hs1a := (hs.below hb1).more hb1.size
  have hs1b := (hs1.below hb1).more hb1.size
  clear hs hs1
  by_cases h300 : 300 < n
  · go_wp2
    go_ret
    exact ⟨rfl, hb1⟩
  · by_cases h100 : 100 < n1
    · go_wp2
      go_ret
      exact ⟨rfl, hb1⟩
    · go_wp2_with fail
      refine (seal_at300 _ _ _ _ _ hs1a (by omega)).mono ?_
      rintro _ w2 ⟨Ax, cx, rfl, hsx, hbx⟩
      have hb2 := step_below hb1 hbx
      have hs2a := (hs1a.below hbx).more hbx.size
      have hs2b := (hs1b.below hbx).more hbx.size
      clear hs1a hs1b hbx hb1
      have hown0 : (w2.alloc (.cells #[] 5)).ownsRow w2.heap.size 5 1 (.slice (some ⟨w2.heap.size, 0, none⟩) 0 0) 0 (bc []) := World.ownsRow_made w2 #[] 0 (Nat.le_refl _) (Nat.zero_le _) rfl
      have hba0 : Below w2.heap.size w2 (w2.alloc (.cells #[] 5)) := (Below.refl _ _).alloc (Nat.le_refl _) _
      have hsrc := (hsx.below hba0).src (P := Try.prog) Try.underlying25
      go_wp2_with (at_builtin; refine wpList_ap _ rfl (.tmp 33) (.tmp 34) 25 25 rfl w2.heap.size 5 i0 Try.underlying25 hi0 hz0 hz1 hz2 _ 0 0 [] rfl hown0 _ (6 + n) (sealed l) rfl hsrc ?c1 ?c2 ?_)
      case c1 => omega
      case c2 => exact hba0.size
      intro A3 c3 w3 hown3 _ hg3 _
      have hg3' : (w2.alloc (.cells #[] 5)).grownBy w3 (some w2.heap.size) := hg3
      have hB3 : Below w2.heap.size w2 w3 := hba0.grown hg3' (by simp) (by intro k hk; injection hk with hk; omega)
      have hsrc3 := (hs2b.below hB3).src (P := Try.prog) Try.underlying25
      clear hba0 hsrc hown0 hg3 hg3'
      go_wp2_with (at_builtin; refine wpList_ap _ rfl (.tmp 35) (.tmp 36) 25 25 rfl w2.heap.size 5 i0 Try.underlying25 hi0 hz0 hz1 hz2 _ _ _ _ rfl hown3 _ n1 l1 rfl hsrc3 ?c1 ?c2 ?_)
      case c1 => omega
      case c2 => exact hB3.size
      intro A4 c4 w4 hown4 _ hg4 _
      have hB4 := hB3.grown hg4 hB3.size (fun k hk => (own_block hown3 k hk).1)
      have ho := opened_sealed l l1 (by have := HLEN.out; omega)
      rw [HLEN.out] at ho
      have HO := Lib.hid (open_as A4 (6 + n + n1) c4 _ _ _ _ w4 (Shows.of_own hown4) (by omega) ho)
      rw [HLEN.out] at HO
      clear hown3 hown4 hg4 hB3 hsrc3 ho hs2b
      go_wp2_with fail
      (with_reducible refine HO.out.mono ?_)
      rintro _ w5 ⟨Ap, cp, rfl, hsp, hbp⟩
      have hB5 := hB4.trans (hbp.mono hB4.size)
      clear hB4 hbp HO
      have hcp := hsp.conv (P := Try.prog) Try.underlying25 Try.underlying5 Try.underlying9
      have hcb := (hs2a.below hB5).conv (P := Try.prog) Try.underlying25 Try.underlying5 Try.underlying9
      have hsx5 := (hsx.below hB5).more hB5.size
      have hb5 := hb2.trans (hB5.mono hb2.size)
      clear hsp hs2a hsx hB5 hb2
      have hown0 : (w5.alloc (.cells #[] 5)).ownsRow w5.heap.size 5 1 (.slice (some ⟨w5.heap.size, 0, none⟩) 0 0) 0 (bc []) := World.ownsRow_made w5 #[] 0 (Nat.le_refl _) (Nat.zero_le _) rfl
      have hba0 : Below w5.heap.size w5 (w5.alloc (.cells #[] 5)) := (Below.refl _ _).alloc (Nat.le_refl _) _
      have hsrc := (hsx5.below hba0).src (P := Try.prog) Try.underlying25
      go_wp2_with (at_builtin; refine wpList_ap _ rfl (.tmp 58) (.tmp 59) 25 25 rfl w5.heap.size 5 i0 Try.underlying25 hi0 hz0 hz1 hz2 _ 0 0 [] rfl hown0 _ (6 + n) (sealed l) rfl hsrc ?c1 ?c2 ?_)
      case c1 => omega
      case c2 => exact hba0.size
      intro A6 c6 w6 hown6 _ hg6 _
      have hg6' : (w5.alloc (.cells #[] 5)).grownBy w6 (some w5.heap.size) := hg6
      have hB6 : Below w5.heap.size w5 w6 := hba0.grown hg6' (by simp) (by intro k hk; injection hk with hk; omega)
      clear hba0 hsrc hown0 hg6 hg6' hcp hcb
      obtain ⟨g, c7, hf, hg1, hg2⟩ := hown6.form (by omega)
      injection hf with hf1 hf2 hf3
      subst hf1 hf3
      have hsl : (sealed l).length = 6 + n := by rw [sealed_len, HLEN.out]
      obtain ⟨k, hk⟩ : ∃ k : Nat, at1 % ((n : Int) + 4) = k := ⟨(at1 % ((n : Int) + 4)).toNat, by have := Int.emod_nonneg at1 (show (n : Int) + 4 ≠ 0 by omega); omega⟩
      have hkn : k < n + 4 := by have := Int.emod_lt_of_pos at1 (show (0 : Int) < (n : Int) + 4 by omega); omega
      obtain ⟨t, ht⟩ : ∃ t : Nat, bt % 8 = t := ⟨(bt % 8).toNat, by omega⟩
      have ht8 : t < 8 := by omega
      obtain ⟨M, hM, hMe⟩ := u8_bit t ht8
      have hkl : 2 + k < (sealed l).length := by omega
      have hc6 : w6.cell? ⟨g, 2 + k, none⟩ = some (.int .u8 ((sealed l)[2 + k].toNat : Int)) := by rw [hown6.cellAt _ (by omega), bc_get _ _ hkl]
      have hf6 := hown6.frozenAt (2 + k)
      have hx := u8_xor (sealed l)[2 + k] M
      have hMm : (M.toNat : Int) % 256 = M.toNat := by have := M.toNat_lt; omega
      have hMs : (2 : Int) ^ (min t 8) % 256 = (M.toNat : Int) := by
        rw [Nat.min_eq_left (by omega)]
        rw [Int.one_mul] at hMe
        rw [hMe]
        exact hMm
      have hy := xor_ne (sealed l)[2 + k] M hM
      have hop := opened_turned l (by have := HLEN.out; omega) (2 + k) (by omega) hkl _ hy
      generalize (sealed l)[2 + k] ^^^ M = y at hx hop
      obtain ⟨hown7, hg7⟩ := hown6.stored (2 + k) (.int .u8 (y.toNat : Int))
      rw [bc_set] at hown7
      have hB7 := hB6.grown hg7 hB6.size (by intro q hq; injection hq with hq; omega)
      have W1 := Lib.hid (fun (W : World) => within2_any at1 ((n : Int) + 4) W (by omega) (by omega))
      have W2 := Lib.hid (fun (W : World) => within2_any bt 8 W (by omega) (by omega))
      rw [hk] at W1
      rw [ht] at W2
      clear hk ht hy hg7 hB6 hown6
      have HSL := Lib.hid hsl
      clear hsl
      have i1 : (0 : Int) ≤ 2 + (k : Int) := by omega
      have i2 : 2 + (k : Int) < (n : Int) + 6 := by omega
      have i3 : (2 + (k : Int)).toNat = 2 + k := by omega
      have i4 : IntKind.i64.wrap ((n : Int) + 6 - 2) = (n : Int) + 4 := by rw [IntWalk.i64_in _ (by omega)]; omega
      have i5 : IntKind.i64.wrap (2 + (k : Int)) = 2 + (k : Int) := IntWalk.i64_in _ (by omega)
      have HS7 := Shows.of_own hown7.drew
      have HO7 := Lib.hid (open_as (some ⟨g, 0, none⟩) (6 + n) c6 _ _ _ _ _ HS7 (by omega) hop)
      have hB7d := hB7.drew
      have hsx7 := (hsx5.below hB7d).more hB7d.size
      obtain ⟨W7, hW7⟩ : ∃ W7, W7 = (w6.setCell ⟨g, 2 + k, none⟩ (.int .u8 (y.toNat : Int))).drew := ⟨_, rfl⟩
      rw [← hW7] at HO7 hB7d hsx7
      have hb7 := step_below hb5 hB7d
      have HW7 := Lib.hid hW7
      obtain ⟨k2, hk2⟩ : ∃ k2 : Nat, at1 % ((n : Int) + 6) = k2 := ⟨(at1 % ((n : Int) + 6)).toNat, by have := Int.emod_nonneg at1 (show (n : Int) + 6 ≠ 0 by omega); omega⟩
      have hk2n : k2 < 6 + n := by have := Int.emod_lt_of_pos at1 (show (0 : Int) < (n : Int) + 6 by omega); omega
      have W3 := Lib.hid (fun (W : World) => within2_any at1 ((n : Int) + 6) W (by omega) (by omega))
      rw [hk2] at W3
      have hof := opened_front l (by have := HLEN.out; omega) k2 (by have := HSL.out; omega)
      have hcx := hsx7.le
      have i6 : (0 : Int) ≤ (k2 : Int) := by omega
      have i7 : (k2 : Int) ≤ (cx : Int) := by omega
      clear HS7 hown7 hB7 hB7d hW7 hsx5 hk2 hop
      go_wp2_with fail
      go_still_tail 15, (by kernel_rfl)
      still_call ((W1.out _).mono fun _ _ ⟨h1, h2⟩ => ⟨h1, h2.symm⟩)
      repeat still_step
      still_call ((W2.out _).mono fun _ _ ⟨h1, h2⟩ => ⟨h1, h2.symm⟩)
      repeat still_step
      refine wpStill_nil ?_
      change wpList _ _ _ _ _ w6.drew
      clear W1 W2
      go_wp2_with fail
      rw [← HW7.out]
      (with_reducible refine HO7.out.mono ?_)
      rintro _ w8 ⟨Aq, cq, rfl, _, hb8⟩
      have hsx8 := (hsx7.below hb8).more hb8.size
      have hb9 := step_below hb7 hb8
      clear hsx7 hb8 hb7
      have HO8 := Lib.hid (open_as Ax k2 cx _ _ _ _ _ (hsx8.take (by omega)) (by omega) hof)
      clear hsx8 hof
      go_wp2_with fail
      (with_reducible refine (W3.out _).mono ?_)
      rintro _ _ ⟨rfl, rfl⟩
      go_wp2_with fail
      (with_reducible refine HO8.out.mono ?_)
      rintro _ w10 ⟨Ar, cr, rfl, _, hb10⟩
      go_wp2
      go_ret
      exact ⟨rfl, step_below hb9 hb10⟩
end Go.Proofs.Ytdbjopjkkfjdaaa
