/- The walk of the law CrcLines: sums of texts of one length, laid upon one another, are laid upon one another, too. -/
import Derived.Test.YtdbjopjkkfjdaaaWCrcBits
import Derived.Test.YtdbjopjkkfjdaaaWCrcLong
import Derived.Deep.RegionHeld3
import Derived.Deep.DeepCutAuto
import Derived.StillTailTactics
import Derived.ChangeAlike
import Derived.RegionTactic
namespace Go.Proofs.Ytdbjopjkkfjdaaa
open Go.RowKit Wd Nm Cm

theorem Zn_bc (N : Nat) : (Zn N).toList = bc (List.replicate N 0) := by
  unfold Zn bc
  rw [List.map_replicate]
  rfl
theorem own_zn (w : World) (base N : Nat) (hb : base ≤ w.heap.size) (hN : N ≤ 1000000) : (w.alloc (.cells (Zn N) 5)).ownsRow base 5 1 (.slice (some ⟨w.heap.size, 0, none⟩) N N) N (bc (List.replicate N 0)) := by
  have h := World.ownsRow_lit (base := base) (e := 5) (size := 1) w (Zn N) N hb (by unfold maxLen; omega) (by simp [Zn])
  rw [Zn_bc] at h
  exact h
/-- Two texts laid upon one another, as far as they are. -/
def xl (a b : List UInt8) (m j : Nat) : List UInt8 := List.zipWith (· ^^^ ·) (a.take j) (b.take j) ++ List.replicate (m - j) 0
theorem xl_len (a b : List UInt8) (m j : Nat) (ha : m ≤ a.length) (hb : m ≤ b.length) (hj : j ≤ m) : (xl a b m j).length = m := by
  unfold xl
  rw [List.length_append, List.length_zipWith, List.length_take, List.length_take, List.length_replicate]
  omega
theorem xl_zero (a b : List UInt8) (m : Nat) : xl a b m 0 = List.replicate m 0 := by
  unfold xl
  rw [List.take_zero, List.zipWith_nil_left, List.nil_append, Nat.sub_zero]
theorem xl_full (a b : List UInt8) (m : Nat) : xl a b m m = List.zipWith (· ^^^ ·) (a.take m) (b.take m) := by
  unfold xl
  rw [Nat.sub_self, List.replicate_zero, List.append_nil]
theorem xl_step (a b : List UInt8) (m j : Nat) (ha : j < a.length) (hb : j < b.length) (hj : j < m) : (xl a b m j).set j (a[j] ^^^ b[j]) = xl a b m (j + 1) := by
  unfold xl
  have hz : (List.zipWith (· ^^^ ·) (a.take j) (b.take j)).length = j := by
    rw [List.length_zipWith, List.length_take, List.length_take]
    omega
  rw [List.set_append_right _ _ (by omega), hz, Nat.sub_self, show m - j = (m - (j + 1)) + 1 by omega, List.replicate_succ, List.set_cons_zero, List.take_succ_eq_append_getElem ha, List.take_succ_eq_append_getElem hb]
  rw [List.zipWith_append (by rw [List.length_take, List.length_take]; omega)]
  simp
theorem xl_cell (a b : List UInt8) (m j : Nat) (ha : m ≤ a.length) (hb : m ≤ b.length) (hj : j < m) : (bc (xl a b m j))[j]? = some (.int .u8 0) := by
  have hl := xl_len a b m j ha hb (by omega)
  rw [bc_get _ j (by omega)]
  congr 2
  unfold xl
  rw [List.getElem_append_right (by rw [List.length_zipWith, List.length_take, List.length_take]; omega), List.getElem_replicate]
  rfl
/-- What lies behind two makes. -/
def Two (base gx gz m : Nat) (w : World) : Prop := w.ownsRow base 5 1 (.slice (some ⟨gx, 0, none⟩) m m) m (bc (List.replicate m 0)) ∧ w.ownsRow base 5 1 (.slice (some ⟨gz, 0, none⟩) m m) m (bc (List.replicate m 0))
theorem two_made (w : World) (N : Nat) (hN : N ≤ 1000000) : Two w.heap.size w.heap.size (w.heap.size + 1) N ((w.alloc (.cells (Zn N) 5)).alloc (.cells (Zn N) 5)) ∧ Two w.heap.size (w.heap.size + 1) w.heap.size N ((w.alloc (.cells (Zn N) 5)).alloc (.cells (Zn N) 5)) := by
  have h1 := own_zn w w.heap.size N (Nat.le_refl _) hN
  have h2 := own_zn (w.alloc (.cells (Zn N) 5)) w.heap.size N (by simp) hN
  have e : (w.alloc (.cells (Zn N) 5)).heap.size = w.heap.size + 1 := by simp
  rw [e] at h2
  exact ⟨⟨h1.alloc _, h2⟩, ⟨h2, h1.alloc _⟩⟩

theorem cell_new (W : World) (g : Nat) (h : W.heap.size = g) (v : Value) (T : TypeId) : (W.alloc (.cells #[v] T)).drew.cell? ⟨g, 0, none⟩ = some v := by
  subst h
  have hg := heap_alloc_new W (.cells #[v] T)
  show (W.alloc (.cells #[v] T)).cell? ⟨W.heap.size, 0, none⟩ = some v
  rw [cell_of_row _ _ 0 _ T (0, 0) hg]
  rfl
theorem cell_old (W : World) (g : Nat) (v : Value) (O : Obj) (h : W.drew.cell? ⟨g, 0, none⟩ = some v) : (W.alloc O).drew.cell? ⟨g, 0, none⟩ = some v := by
  have h1 : W.cell? ⟨g, 0, none⟩ = some v := h
  have hg : g < W.heap.size := World.block_lt_of_cell? W _ h1
  exact (((Below.refl W.heap.size W).alloc (Nat.le_refl _) O).cell (p := ⟨g, 0, none⟩) hg).trans h1
theorem lines_eq (a b : List UInt8) (m : Nat) (ha : a.length = m) (hb : b.length = m) : bits BinOp.xor IntKind.u32 (bits BinOp.xor IntKind.u32 (tn (crc a)) (tn (crc b))) (tn (crc (List.replicate m 0))) = tn (crc (List.zipWith (· ^^^ ·) a b)) := by
  rw [u32_xor, u32_xor]
  congr 1
  have h1 := feedAll_xor full full a b (by omega)
  have hz : List.zipWith (· ^^^ ·) (List.zipWith (· ^^^ ·) a b) (List.replicate m 0) = List.zipWith (· ^^^ ·) a b := by
    subst ha
    apply List.ext_getElem
    · first | (simp; done) | (simp; omega)
    · intro i h1 h2
      simp
  have h2 := feedAll_xor (full ^^^ full) full (List.zipWith (· ^^^ ·) a b) (List.replicate m 0) (by first | (simp; done) | (simp; omega))
  rw [hz, h1, BitVec.xor_self, BitVec.zero_xor] at h2
  have hn : ∀ x y z : BitVec 32, ~~~ x ^^^ ~~~ y ^^^ ~~~ z = ~~~ (x ^^^ y ^^^ z) := by
    intro x y z
    apply BitVec.eq_of_getLsbD_eq
    intro i hi
    simp only [BitVec.getLsbD_xor, BitVec.getLsbD_not, hi, decide_true, Bool.true_and]
    cases x.getLsbD i <;> cases y.getLsbD i <;> cases z.getLsbD i <;> rfl
  unfold crc
  rw [hn, ← h2]

set_option maxRecDepth 100000 in
set_option maxHeartbeats 40000000 in
theorem crcLines_walk (A : Option Addr) (n cap : Nat) (l : List UInt8) (A1 : Option Addr) (n1 cap1 : Nat) (l1 : List UInt8) (w : World) (hs : Shows w w.heap.size A n cap l) (hs1 : Shows w w.heap.size A1 n1 cap1 l1) :
    Calls Try.prog 8 #[.slice A n cap, .slice A1 n1 cap1] w fun e w' => e = .returned (.bool true) ∧ Below w.heap.size w w' := by
  obtain ⟨i0, hi0, hz0, hz1, hz2⟩ := info_parts infoByte
  have hmk : ∀ (W : World) (N : Nat), N ≤ 1000000 → (Instr.makeSlice 25 (.int .i64 (N : Int)) (.int .i64 (N : Int))).run Try.prog W = .ok (.slice (some ⟨W.heap.size, 0, none⟩) N N) (W.alloc (.cells (Zn N) 5)) := by
    intro W N hN
    have h := run_make (P := Try.prog) W 25 5 i0 _ Try.underlying25 hi0 hz0 .i64 .i64 N N (by omega) (by omega) (by rw [hz2]; omega) (by omega)
    simp only [Int.toNat_natCast] at h
    rw [h, hz1, ← Zn_made]
    rfl
  have HMK := Lib.hid hmk
  have HL := Lib.hid hs.len
  have HL1 := Lib.hid hs1.len
  have hcap := hs.le
  have hcap1 := hs1.le
  have htop := hs.top
  have htop1 := hs1.top
  unfold maxLen at htop htop1
  clear hmk
  go_enter Try.func8, Try.ntmps8
  go_wp2_with fail
  refine (known2_any _).mono ?_
  rintro _ w1 ⟨rfl, hb1⟩
  have hsa := (hs.below hb1).more hb1.size
  have hsb := (hs1.below hb1).more hb1.size
  clear hs hs1
  go_upto_region 3 with fail
  go_cut [5] from 9 to 55 (fun s wx => ∃ m : Nat, m ≤ n ∧ m ≤ n1 ∧ m ≤ 200 ∧ s = .int .i64 m ∧ wx = w1)
  case first =>
    go_wp2
    all_goals
      go_meet
      case rel =>
        first
          | (refine ⟨n1, ?_, ?_, ?_, rfl, rfl⟩ <;> (first | omega | (split at * <;> omega)))
          | (refine ⟨n, ?_, ?_, ?_, rfl, rfl⟩ <;> (first | omega | (split at * <;> omega)))
          | (refine ⟨200, ?_, ?_, ?_, rfl, rfl⟩ <;> (first | omega | (split at * <;> omega)))
  case rest =>
    obtain ⟨m, hm0, hm1, hm2, rfl, rfl⟩ := hcut
    have hmk := fun (W : World) => HMK.out W m (by omega)
    go_upto_region 4 with fail
    go_cut [6, 7] from 9 to 55 (fun sx sz wx => ∃ gx gz : Nat, sx = .slice (some ⟨gx, 0, none⟩) m m ∧ sz = .slice (some ⟨gz, 0, none⟩) m m ∧ wc.heap.size ≤ gx ∧ wc.heap.size ≤ gz ∧ gx ≠ gz ∧ Two wc.heap.size gx gz m wx ∧ Below wc.heap.size wc wx)
    case first =>
      go_region
      all_goals
        go_wp2_with fail
        go_meet
        case rel =>
          have h2 := two_made wc m (by omega)
          have hbb : Below wc.heap.size wc ((wc.alloc (.cells (Zn m) 5)).alloc (.cells (Zn m) 5)) := ((Below.refl _ _).alloc (Nat.le_refl _) _).alloc (by simp) _
          first
            | exact ⟨_, _, rfl, rfl, by omega, by omega, by omega, h2.1, hbb.drew⟩
            | exact ⟨_, _, rfl, rfl, by omega, by omega, by omega, h2.2, hbb.drew⟩
    case rest =>
      obtain ⟨gx, gz, rfl, rfl, hgx, hgz, hne, htwo, hb2⟩ := hcut
      rename World => W
      obtain ⟨hx0, hz0'⟩ := htwo
      rw [← xl_zero l l1 m] at hx0
      have hml : m ≤ l.length := by have := HL.out; omega
      have hml1 : m ≤ l1.length := by have := HL1.out; omega
      clear hmk
      go_wp2
      go_loopw [8] (fun i wr => ∃ j : Nat, j ≤ m ∧ i = .int .i64 j ∧ wr.ownsRow wc.heap.size 5 1 (.slice (some ⟨gx, 0, none⟩) m m) m (bc (xl l l1 m j)) ∧ wr.ownsRow wc.heap.size 5 1 (.slice (some ⟨gz, 0, none⟩) m m) m (bc (List.replicate m 0)) ∧ Below wc.heap.size wc wr) (fun i _ => m - (intOf i).toNat)
      case atStart => exact ⟨0, Nat.zero_le _, rfl, hx0, hz0', hb2⟩
      case round =>
        clear hx0 hz0' hb2
        obtain ⟨j, hj, rfl, hx, hz, hb⟩ := hrel
        by_cases hlt : j < m
        · obtain ⟨ga, oa, rfl, hga, hca⟩ := hsa.spot (by omega)
          obtain ⟨gb, ob, rfl, hgb, hcb⟩ := hsb.spot (by omega)
          have hjl : j < l.length := by omega
          have hjl1 : j < l1.length := by omega
          have c1 : wr.cell? ⟨ga, oa + j, none⟩ = some (.int .u8 (l[j].toNat : Int)) := (hb.cell (p := ⟨ga, oa + j, none⟩) hga).trans (hca j hjl)
          have c2 : wr.cell? ⟨gb, ob + j, none⟩ = some (.int .u8 (l1[j].toNat : Int)) := (hb.cell (p := ⟨gb, ob + j, none⟩) hgb).trans (hcb j hjl1)
          have c3 : wr.cell? ⟨gx, j, none⟩ = some (.int .u8 0) := by rw [hx.cellAt j (by omega), xl_cell l l1 m j hml hml1 hlt]
          have c4 : wr.frozen? ⟨gx, j, none⟩ = false := hx.frozenAt j
          have hxo := u8_xor l[j] l1[j]
          have hxs := xl_step l l1 m j hjl hjl1 hlt
          generalize l[j] ^^^ l1[j] = y at hxo hxs
          obtain ⟨hx2, hg2⟩ := hx.stored j (.int .u8 (y.toNat : Int))
          rw [bc_set, hxs] at hx2
          have hz2 := hz.kept hg2 (.inr (by intro h; injection h with h; exact hne h.symm))
          have hb2 := hb.grown hg2 hb.size (by intro q hq; injection hq with hq; omega)
          clear hxs hx hz hg2
          have i0 : (0 : Int) ≤ (j : Int) := by omega
          have i1 : (j : Int) < (n : Int) := by omega
          have i2 : (j : Int) < (n1 : Int) := by omega
          have i3 : (j : Int) < (m : Int) := by omega
          clear hca hcb
          go_wp2
          go_region
          all_goals
            go_wp2
            exact ⟨⟨j + 1, by omega, by go_num, hx2.drew, hz2.drew, hb2.drew⟩, by simp [intOf]; omega⟩
        · obtain rfl : j = m := by omega
          have hsx := Shows.of_own hx
          have hsz := Shows.of_own hz
          rw [xl_full] at hsx
          have hta := ((hsa.below hb).more hb.size).take hm0
          have htb := ((hsb.below hb).more hb.size).take hm1
          have H1 := Lib.hid (fun (W : World) (g' : Nat) (hB : Below wr.heap.size wr W) => sum_at wr W g' _ _ _ _ hta (by omega) hB)
          have H2 := Lib.hid (fun (W : World) (g' : Nat) (hB : Below wr.heap.size wr W) => sum_at wr W g' _ _ _ _ htb (by omega) hB)
          have H3 := Lib.hid (fun (W : World) (g' : Nat) (hB : Below wr.heap.size wr W) => sum_at wr W g' _ _ _ _ hsx (by omega) hB)
          have H4 := Lib.hid (fun (W : World) (g' : Nat) (hB : Below wr.heap.size wr W) => sum_at wr W g' _ _ _ _ hsz (by omega) hB)
          have HB := Lib.hid (hb1.trans (hb.mono hb1.size))
          have hr : Below wr.heap.size wr wr := Below.refl _ _
          have i0 : (0 : Int) ≤ (j : Int) := by omega
          have i1 : (j : Int) ≤ (cap : Int) := by omega
          have i2 : (j : Int) ≤ (cap1 : Int) := by omega
          have hlin := lines_eq (l.take j) (l1.take j) j (by rw [List.length_take]; omega) (by rw [List.length_take]; omega)
          clear hx hz hb hsx hsz hta htb hsa hsb
          go_wp2
          go_region_held3 (fun w' => Below wr.heap.size wr w')
            (repeat (first | (with_reducible assumption) | (with_reducible refine Below.drew ?_) | (with_reducible refine below_new ?_ _)))
            ((first
              | (go_at_call 13; (with_reducible refine (H1.out _ _ ?_ ?_).mono ?_); (with_reducible assumption); (first | (with_reducible refine cell_new _ _ ?_ _ _) | (with_reducible refine cell_old _ _ _ _ (cell_new _ _ ?_ _ _)) | (with_reducible refine cell_old _ _ _ _ (cell_old _ _ _ _ (cell_new _ _ ?_ _ _))) | (with_reducible refine cell_old _ _ _ _ (cell_old _ _ _ _ (cell_old _ _ _ _ (cell_new _ _ ?_ _ _))))); (focus (simp; done)); rintro _ _ ⟨rfl, rfl⟩)
              | (go_at_call 13; (with_reducible refine (H2.out _ _ ?_ ?_).mono ?_); (with_reducible assumption); (first | (with_reducible refine cell_new _ _ ?_ _ _) | (with_reducible refine cell_old _ _ _ _ (cell_new _ _ ?_ _ _)) | (with_reducible refine cell_old _ _ _ _ (cell_old _ _ _ _ (cell_new _ _ ?_ _ _))) | (with_reducible refine cell_old _ _ _ _ (cell_old _ _ _ _ (cell_old _ _ _ _ (cell_new _ _ ?_ _ _))))); (focus (simp; done)); rintro _ _ ⟨rfl, rfl⟩)
              | (go_at_call 13; (with_reducible refine (H3.out _ _ ?_ ?_).mono ?_); (with_reducible assumption); (first | (with_reducible refine cell_new _ _ ?_ _ _) | (with_reducible refine cell_old _ _ _ _ (cell_new _ _ ?_ _ _)) | (with_reducible refine cell_old _ _ _ _ (cell_old _ _ _ _ (cell_new _ _ ?_ _ _))) | (with_reducible refine cell_old _ _ _ _ (cell_old _ _ _ _ (cell_old _ _ _ _ (cell_new _ _ ?_ _ _))))); (focus (simp; done)); rintro _ _ ⟨rfl, rfl⟩)
              | (go_at_call 13; (with_reducible refine (H4.out _ _ ?_ ?_).mono ?_); (with_reducible assumption); (first | (with_reducible refine cell_new _ _ ?_ _ _) | (with_reducible refine cell_old _ _ _ _ (cell_new _ _ ?_ _ _)) | (with_reducible refine cell_old _ _ _ _ (cell_old _ _ _ _ (cell_new _ _ ?_ _ _))) | (with_reducible refine cell_old _ _ _ _ (cell_old _ _ _ _ (cell_old _ _ _ _ (cell_new _ _ ?_ _ _))))); (focus (simp; done)); rintro _ _ ⟨rfl, rfl⟩)))
          all_goals
            rename_i hbl
            go_wp2
            go_ret
            exact ⟨rfl, HB.out.trans (hbl.mono HB.out.size)⟩
end Go.Proofs.Ytdbjopjkkfjdaaa
