/- The walk of the law CrcSums: the sum of any parts is the document's, of all of them as one; how they are cut does not count. -/
import Derived.Test.YtdbjopjkkfjdaaaLaw2Base
import Derived.Deep.RegionHeld3
import Derived.Deep.Matrix
namespace Go.Proofs.Ytdbjopjkkfjdaaa
open Go.RowKit Wd Nm Cm

/-! ### a slice of slices of bytes that came in -/
theorem open_parts {H : Type} {enc : TypeId × Value → H} {W : World} {held : Bool} {fuel : Nat} {cs : List Value} {x : DataW H × List MemPlace} (h : DataW.trod enc Try.prog W 0 (fun _ => true) held fuel 22 cs = some x)
    (A : Option Addr) (len cap : Nat) (hcs : cs = [.slice A len cap]) : (∃ ps : List Part, LaidAt W W.heap.size A len ps) ∧ len ≤ cap ∧ cap ≤ maxLen := by
  subst hcs
  rcases Deep.open_int_rows Try.underlying22 Try.underlying25 Try.underlying5 (by kernel_rfl) (by kernel_rfl) h with ⟨hcs, _⟩ | ⟨a, len', cap', A', L, C, Z, hcs, _, hl, hm, _, hr⟩
  · injection hcs with hcs
    injection hcs with h1 h2 h3
    subst h1 h2 h3
    exact ⟨⟨[], rfl, fun h => absurd h (by omega), fun p hp => by cases hp⟩, Nat.le_refl _, Nat.zero_le _⟩
  · injection hcs with hcs
    injection hcs with h1 h2 h3
    subst h1 h2 h3
    refine ⟨⟨(List.range len).map fun r => ⟨A' r, L r, C r, ((Z r).take (L r)).map fun z => UInt8.ofNat z.toNat⟩, by simp, fun h0 => ?_, fun p hp => ?_⟩, hl, hm⟩
    · obtain ⟨g, o, spot⟩ := a
      have h0' := (hr 0 (by omega)).1
      have hs : spot = none := by simpa [Addr.add] using World.cell?_spot h0'
      subst hs
      refine ⟨g, o, rfl, ?_, fun j hj => ?_⟩
      · have := World.block_lt_of_cell? W _ h0'
        simpa [Addr.add] using this
      · have hj' : j < len := by simpa using hj
        have := (hr j (by omega)).1
        rw [Addr.add_lit] at this
        simpa using this
    · obtain ⟨r, hrl, rfl⟩ := List.mem_map.1 hp
      have hrl' : r < len := by simpa using hrl
      obtain ⟨_, r1, r2, r3, r4, r5, r6⟩ := hr r (by omega)
      rcases hA : A' r with _ | x
      · have hc0 := r5 hA
        have hz : Z r = [] := List.eq_nil_of_length_eq_zero (by omega)
        have hL0 : L r = 0 := by omega
        simp only [hz, hL0, hc0, List.take_nil, List.map_nil]
        exact Shows.nil _ _
      · have hlay : Lays W W.heap.size (some x) (L r) (C r) (((Z r).map (Value.int .u8)).take (L r)) := Lays.of_cells r1 r2 (by simpa using r3) (fun i hi => by
          rw [List.length_map] at hi
          rw [(r6 x hA).2 i (by omega), List.getElem?_map, List.getElem?_eq_getElem hi, List.getD_eq_getElem?_getD, List.getElem?_eq_getElem hi]
          rfl)
        rw [← List.map_take, bc_of_ints _ (fun n hn => r4 n (List.mem_of_mem_take hn))] at hlay
        exact Shows.of_lays hlay

/-! ### few, join -/
def FewIs (w : World) (n : Nat) (ps : List Part) (e : Ending) (w' : World) : Prop := ∃ b : Bool, e = .returned (.bool b) ∧ w = w' ∧ (b = true → n ≤ 12 ∧ ∀ p ∈ ps, p.n ≤ 200)

set_option maxHeartbeats 1000000 in
theorem few_any (B : Nat) (A : Option Addr) (n cap : Nat) (ps : List Part) (w : World) (hs : LaidAt w B A n ps) (hn : n ≤ 9223372036854775807) :
    Calls Try.prog 10 #[.slice A n cap] w (FewIs w n ps) := by
  have HL := Lib.hid hs.len
  go_enter Try.func10, Try.ntmps10
  go_wp2
  go_loop [3] (fun i => ∃ j : Nat, j ≤ n ∧ i = .int .i64 j ∧ ∀ p ∈ ps.take j, p.n ≤ 200) (fun i => n - (intOf i).toNat)
  case atStart => exact ⟨0, Nat.zero_le _, rfl, fun p hp => by simp at hp⟩
  case round =>
    obtain ⟨j, hj, rfl, hall⟩ := hrel
    have HALL := Lib.hid hall
    clear hall
    by_cases hlt : j < n
    · obtain ⟨g, o, rfl, _, hc⟩ := hs.spot (by omega)
      have hjl : j < ps.length := by have := HL.out; omega
      have hcj := hc j hjl
      have htop := (hs.each ps[j] (List.getElem_mem hjl)).le
      have htop2 := (hs.each ps[j] (List.getElem_mem hjl)).top
      unfold maxLen at htop2
      have HT := Lib.hid (take_next ps j hjl)
      clear hc hs
      by_cases h200 : 200 < ps[j].n
      · go_wp2
        go_ret
        exact ⟨false, rfl, rfl, fun h => by cases h⟩
      · go_wp2
        go_round
        case rel =>
          refine ⟨j + 1, by omega, by go_num, fun p hp => ?_⟩
          rw [HT.out] at hp
          rcases List.mem_append.1 hp with hp | hp
          · exact HALL.out p hp
          · simp only [List.mem_singleton] at hp
            subst hp
            omega
        case measure => simp [intOf]; omega
    · obtain rfl : n = j := by omega
      have htk : ps.take n = ps := List.take_of_length_le (by have := HL.out; omega)
      rw [htk] at HALL
      clear hs htk
      go_wp2
      go_ret
      exact ⟨_, rfl, rfl, fun h => ⟨by have : (n : Int) ≤ 12 := (by simpa using h); omega, HALL.out⟩⟩

set_option maxHeartbeats 1000000 in
theorem join_any (A : Option Addr) (n cap : Nat) (ps : List Part) (w : World) (hs : LaidAt w w.heap.size A n ps) (hn : n ≤ 12) (hsm : ∀ p ∈ ps, p.n ≤ 200) :
    Calls Try.prog 11 #[.slice A n cap] w fun e w' => ∃ A2 m c2, e = .returned (.slice A2 m c2) ∧ m ≤ 2400 ∧ w'.ownsRow w.heap.size 5 1 (.slice A2 m c2) m (bc (joined ps)) ∧ Below w.heap.size w w' := by
  obtain ⟨i0, hi0, hz0, hz1, hz2⟩ := info_parts infoByte
  have HL := Lib.hid hs.len
  have HSM := Lib.hid hsm
  clear hsm
  go_enter Try.func11, Try.ntmps11
  go_wp2
  go_loopw [3, 4] (fun s i wr => ∃ j m : Nat, ∃ A2 c2, j ≤ n ∧ m ≤ 200 * j ∧ i = .int .i64 j ∧ s = .slice A2 m c2 ∧ wr.ownsRow w.heap.size 5 1 (.slice A2 m c2) m (bc (joined (ps.take j))) ∧ Below w.heap.size w wr) (fun _ i _ => n - (intOf i).toNat)
  case atStart => exact ⟨0, 0, none, 0, Nat.zero_le _, Nat.zero_le _, rfl, rfl, by rw [List.take_zero]; exact World.ownsRow_nil _ _ _ _, Below.refl _ _⟩
  case round =>
    obtain ⟨j, m, A2, c2, hj, hm, rfl, rfl, hown, hb⟩ := hrel
    by_cases hlt : j < n
    · obtain ⟨g, o, rfl, hg, hc⟩ := hs.spot (by omega)
      have hjl : j < ps.length := by have := HL.out; omega
      have hcj : wr.cell? ⟨g, o + j, none⟩ = some (.slice ps[j].A ps[j].n ps[j].cap) := (hb.cell (p := ⟨g, o + j, none⟩) hg).trans (hc j hjl)
      have hsh := (hs.each ps[j] (List.getElem_mem hjl)).below hb
      have h200 := HSM.out ps[j] (List.getElem_mem hjl)
      have HJ := Lib.hid (joined_next ps j hjl)
      clear hc hs
      go_wp2_with (at_builtin; refine wpList_ap _ rfl _ _ 25 25 rfl w.heap.size 5 i0 Try.underlying25 hi0 hz0 hz1 hz2 A2 _ c2 _ rfl hown _ _ _ rfl (hsh.src Try.underlying25) ?c1 hb.size ?_)
      case c1 => omega
      intro A3 c3 w3 hown3 _ hg3 _
      have hb3 := hb.grown hg3 hb.size (fun k hk => (own_block hown k hk).1)
      clear hg3 hown hb hsh
      go_wp2
      go_roundw
      case rel => exact ⟨j + 1, _, A3, c3, by omega, by omega, by go_num, rfl, by rw [HJ.out]; exact hown3, hb3⟩
      case measure => simp [intOf]; omega
    · obtain rfl : n = j := by omega
      have htk : ps.take n = ps := List.take_of_length_le (by have := HL.out; omega)
      rw [htk] at hown
      clear hs htk
      go_wp2
      go_ret
      exact ⟨A2, m, c2, rfl, by omega, hown, hb⟩

/-! ### Sum of parts that lie anywhere -/
theorem cell_newn (W : World) (C : Array Value) (T : TypeId) (g j : Nat) (v : Value) (h : W.heap.size = g) (hv : C[j]? = some v) : (W.alloc (.cells C T)).drew.cell? ⟨g, j, none⟩ = some v := by
  subst h
  have hg := heap_alloc_new W (.cells C T)
  show (W.alloc (.cells C T)).cell? ⟨W.heap.size, j, none⟩ = some v
  rw [cell_of_row _ _ j _ T (0, 0) hg]
  exact hv
theorem sum_at2 (w W : World) (g : Nat) (p q : Part) (hp : Shows w w.heap.size p.A p.n p.cap p.l) (hq : Shows w w.heap.size q.A q.n q.cap q.l) (np : p.n ≤ 1000000000) (nq : q.n ≤ 1000000000) (hb : Below w.heap.size w W) (c0 : W.cell? ⟨g, 0, none⟩ = some (.slice p.A p.n p.cap)) (c1 : W.cell? ⟨g, 1, none⟩ = some (.slice q.A q.n q.cap)) :
    Calls Try.prog 13 #[.slice (some ⟨g, 0, none⟩) 2 2] W fun e w' => e = .returned (.int .u32 (tn (crc (p.l ++ q.l)))) ∧ W = w' := by
  have hg : g < W.heap.size := World.block_lt_of_cell? W _ c0
  have h := sum_any W.heap.size (some ⟨g, 0, none⟩) 2 2 [p, q] W ⟨rfl, fun _ => ⟨g, 0, rfl, hg, fun j hj => by
    match j, hj with
    | 0, _ => exact c0
    | 1, _ => exact c1⟩, fun r hr => by
      simp only [List.mem_cons, List.mem_nil_iff, or_false] at hr
      rcases hr with rfl | rfl
      · exact (hp.below hb).more hb.size
      · exact (hq.below hb).more hb.size⟩ (by simp) (by intro r hr; simp only [List.mem_cons, List.mem_nil_iff, or_false] at hr; rcases hr with rfl | rfl <;> omega)
  simp only [joined, List.append_nil] at h
  exact h
theorem sum_at3 (w W : World) (g : Nat) (q : Part) (hq : Shows w w.heap.size q.A q.n q.cap q.l) (nq : q.n ≤ 1000000000) (hb : Below w.heap.size w W) (c0 : W.cell? ⟨g, 0, none⟩ = some (.slice none 0 0)) (c1 : W.cell? ⟨g, 1, none⟩ = some (.slice q.A q.n q.cap)) (c2 : W.cell? ⟨g, 2, none⟩ = some (.slice none 0 0)) :
    Calls Try.prog 13 #[.slice (some ⟨g, 0, none⟩) 3 3] W fun e w' => e = .returned (.int .u32 (tn (crc q.l))) ∧ W = w' := by
  have hg : g < W.heap.size := World.block_lt_of_cell? W _ c0
  have h := sum_any W.heap.size (some ⟨g, 0, none⟩) 3 3 [⟨none, 0, 0, []⟩, q, ⟨none, 0, 0, []⟩] W ⟨rfl, fun _ => ⟨g, 0, rfl, hg, fun j hj => by
    match j, hj with
    | 0, _ => exact c0
    | 1, _ => exact c1
    | 2, _ => exact c2⟩, fun r hr => by
      simp only [List.mem_cons, List.mem_nil_iff, or_false] at hr
      rcases hr with rfl | rfl | rfl
      · exact Shows.nil _ _
      · exact (hq.below hb).more hb.size
      · exact Shows.nil _ _⟩ (by simp) (by intro r hr; simp only [List.mem_cons, List.mem_nil_iff, or_false] at hr; rcases hr with rfl | rfl | rfl <;> first | (simp; done) | omega)
  simp only [joined, List.append_nil, List.nil_append] at h
  exact h
theorem sum_atl (w W : World) (A : Option Addr) (n cap : Nat) (ps : List Part) (hs : LaidAt w w.heap.size A n ps) (hn : n ≤ 12) (hsm : ∀ p ∈ ps, p.n ≤ 200) (hb : Below w.heap.size w W) :
    Calls Try.prog 13 #[.slice A n cap] W fun e w' => e = .returned (.int .u32 (tn (crc (joined ps)))) ∧ W = w' :=
  sum_any _ A n cap ps W (hs.below hb) (by omega) (fun p hp => by have := hsm p hp; omega)
theorem refsum_at (w W : World) (A : Option Addr) (n cap : Nat) (l : List UInt8) (hs : Shows w w.heap.size A n cap l) (hn : n ≤ 100000) (hb : Below w.heap.size w W) :
    Calls Try.prog 14 #[.slice A n cap] W fun e w' => e = .returned (.int .u32 (tn (crc l))) ∧ W = w' :=
  refsum_any _ A n cap l W (hs.below hb) (by omega)

set_option maxRecDepth 100000 in
set_option maxHeartbeats 8000000 in
theorem crcSums_walk (A : Option Addr) (n cap : Nat) (ps : List Part) (x : Int) (w : World) (hs : LaidAt w w.heap.size A n ps) (hn : n ≤ 9223372036854775807) (_hx : (Lit.int .i64 x).wf = true) :
    Calls Try.prog 3 #[.slice A n cap, .int .i64 x] w fun e w' => e = .returned (.bool true) ∧ Below w.heap.size w w' := by
  go_enter Try.func3, Try.ntmps3
  go_wp2_with fail
  refine (known2_any _).mono ?_
  rintro _ w1 ⟨rfl, hb1⟩
  have hs1 : LaidAt w1 w1.heap.size A n ps := ⟨hs.len, fun h => by
    obtain ⟨g, o, e, hg, hc⟩ := (hs.below hb1).spot h
    exact ⟨g, o, e, by have := hb1.size; omega, hc⟩, fun p hp => ((hs.below hb1).each p hp).more hb1.size⟩
  clear hs
  go_wp2_with fail
  refine (few_any _ _ _ _ _ _ hs1 hn).mono ?_
  rintro _ w2 ⟨b, rfl, rfl, hfew⟩
  rcases b with _ | _
  · go_wp2
    go_ret
    exact ⟨rfl, hb1⟩
  · obtain ⟨hn12, h200⟩ := hfew rfl
    have HF := Lib.hid h200
    clear h200 hfew
    go_wp2_with fail
    refine (join_any A n cap ps _ hs1 hn12 HF.out).mono ?_
    rintro _ w3 ⟨A2, m, c2, rfl, hm, hown3, hb3⟩
    have hb4 := step_below hb1 hb3
    have hsj := Shows.of_own hown3
    have hml := hsj.len
    have hs3 : LaidAt w3 w3.heap.size A n ps := ⟨hs1.len, fun h => by
      obtain ⟨g, o, e, hg, hc⟩ := (hs1.below hb3).spot h
      exact ⟨g, o, e, by have := hb3.size; omega, hc⟩, fun p hp => ((hs1.below hb3).each p hp).more hb3.size⟩
    clear hs1 hb1 hb3
    go_wp2_with fail
    refine (within2_any _ _ _ (by omega) (by omega)).mono ?_
    rintro _ _ ⟨rfl, rfl⟩
    obtain ⟨k, hk⟩ : ∃ k : Nat, x % ((m : Int) + 1) = k := ⟨(x % ((m : Int) + 1)).toNat, by have := Int.emod_nonneg x (show (m : Int) + 1 ≠ 0 by omega); omega⟩
    have hkm : k ≤ m := by have := Int.emod_lt_of_pos x (show (0 : Int) < (m : Int) + 1 by omega); omega
    rw [hk]
    have hcap := hsj.le
    have H1 := Lib.hid (fun (W : World) (hB : Below w3.heap.size w3 W) => sum_atl w3 W A n cap ps hs3 hn12 HF.out hB)
    have H2 := Lib.hid (fun (W : World) (hB : Below w3.heap.size w3 W) => refsum_at w3 W A2 m c2 _ hsj (by omega) hB)
    have H3 := Lib.hid (fun (W : World) (g : Nat) (hB : Below w3.heap.size w3 W) => sum_at w3 W g A2 m c2 _ hsj (by omega) hB)
    have H5 := Lib.hid (fun (W : World) (g : Nat) (hB : Below w3.heap.size w3 W) => sum_at3 w3 W g ⟨A2, m, c2, joined ps⟩ hsj (by show m ≤ 1000000000; omega) hB)
    have hst := hsj.take hkm
    have hsd := hsj.drop hkm
    have hcase : c2 = k ∨ ∃ g o, A2 = some ⟨g, o, none⟩ := by
      rcases hown3.2 with ⟨h, _⟩ | ⟨g, cap', cur, h, _⟩
      · injection h with _ _ h3
        left
        omega
      · injection h with h1 _ _
        exact .inr ⟨g, 0, h1⟩
    have hr : Below w3.heap.size w3 w3 := Below.refl _ _
    have i0 : (0 : Int) ≤ (k : Int) := by omega
    have i1 : (k : Int) ≤ (m : Int) := by omega
    have i2 : (k : Int) ≤ (c2 : Int) := by omega
    have i3 : (m : Int) ≤ (c2 : Int) := by omega
    clear hs3 hsj hk hown3
    by_cases hck : c2 = k
    · obtain rfl : m = k := by omega
      obtain rfl : c2 = m := by omega
      rw [if_pos rfl, Nat.sub_self] at hsd
      have H4 := Lib.hid (fun (W : World) (g : Nat) (hB : Below w3.heap.size w3 W) => sum_at2 w3 W g ⟨A2, c2, c2, (joined ps).take c2⟩ ⟨A2, 0, 0, (joined ps).drop c2⟩ hst hsd (by show c2 ≤ 1000000000; omega) (by show 0 ≤ 1000000000; omega) hB)
      simp only [List.take_append_drop] at H4
      clear hst hsd hcase hkm hcap hck
      go_wp2_with fail
      go_region_held3 (fun w' => Below w3.heap.size w3 w')
        (repeat (first | (with_reducible assumption) | (with_reducible refine Below.drew ?_) | (with_reducible refine below_new ?_ _)))
        ((first
          | (go_at_call 14; (with_reducible refine (H2.out _ ?_).mono ?_); (with_reducible assumption); rintro _ _ ⟨rfl, rfl⟩)
          | (go_at_call 13; (with_reducible refine (H1.out _ ?_).mono ?_); (with_reducible assumption); rintro _ _ ⟨rfl, rfl⟩)
          | (go_at_call 13; (with_reducible refine (H3.out _ _ ?_ ?_).mono ?_); (with_reducible assumption); ((with_reducible refine cell_newn _ _ _ _ _ _ ?_ rfl); (focus (simp; done))); rintro _ _ ⟨rfl, rfl⟩)
          | (go_at_call 13; (with_reducible refine (H4.out _ _ ?_ ?_ ?_).mono ?_); (with_reducible assumption); ((with_reducible refine cell_newn _ _ _ _ _ _ ?_ rfl); (focus (simp; done))); ((with_reducible refine cell_newn _ _ _ _ _ _ ?_ rfl); (focus (simp; done))); rintro _ _ ⟨rfl, rfl⟩)
          | (go_at_call 13; (with_reducible refine (H5.out _ _ ?_ ?_ ?_ ?_).mono ?_); (with_reducible assumption); ((with_reducible refine cell_newn _ _ _ _ _ _ ?_ rfl); (focus (simp; done))); ((with_reducible refine cell_newn _ _ _ _ _ _ ?_ rfl); (focus (simp; done))); ((with_reducible refine cell_newn _ _ _ _ _ _ ?_ rfl); (focus (simp; done))); rintro _ _ ⟨rfl, rfl⟩)))
      all_goals
        rename_i hbl
        go_wp2
        go_ret
        exact ⟨rfl, step_below hb4 hbl⟩
    · obtain ⟨g0, o0, rfl⟩ : ∃ g o, A2 = some ⟨g, o, none⟩ := hcase.resolve_left hck
      rw [if_neg hck, Option.map_some, Addr.add_lit] at hsd
      have H4 := Lib.hid (fun (W : World) (g : Nat) (hB : Below w3.heap.size w3 W) => sum_at2 w3 W g ⟨some ⟨g0, o0, none⟩, k, c2, (joined ps).take k⟩ ⟨some ⟨g0, o0 + k, none⟩, m - k, c2 - k, (joined ps).drop k⟩ hst hsd (by show k ≤ 1000000000; omega) (by show m - k ≤ 1000000000; omega) hB)
      simp only [List.take_append_drop] at H4
      clear hst hsd
      clear hcase
      go_wp2_with fail
      go_region_held3 (fun w' => Below w3.heap.size w3 w')
        (repeat (first | (with_reducible assumption) | (with_reducible refine Below.drew ?_) | (with_reducible refine below_new ?_ _)))
        ((first
          | (go_at_call 14; (with_reducible refine (H2.out _ ?_).mono ?_); (with_reducible assumption); rintro _ _ ⟨rfl, rfl⟩)
          | (go_at_call 13; (with_reducible refine (H1.out _ ?_).mono ?_); (with_reducible assumption); rintro _ _ ⟨rfl, rfl⟩)
          | (go_at_call 13; (with_reducible refine (H3.out _ _ ?_ ?_).mono ?_); (with_reducible assumption); ((with_reducible refine cell_newn _ _ _ _ _ _ ?_ rfl); (focus (simp; done))); rintro _ _ ⟨rfl, rfl⟩)
          | (go_at_call 13; (with_reducible refine (H4.out _ _ ?_ ?_ ?_).mono ?_); (with_reducible assumption); ((with_reducible refine cell_newn _ _ _ _ _ _ ?_ rfl); (focus (simp; done))); ((with_reducible refine cell_newn _ _ _ _ _ _ ?_ rfl); (focus (simp; done))); rintro _ _ ⟨rfl, rfl⟩)
          | (go_at_call 13; (with_reducible refine (H5.out _ _ ?_ ?_ ?_ ?_).mono ?_); (with_reducible assumption); ((with_reducible refine cell_newn _ _ _ _ _ _ ?_ rfl); (focus (simp; done))); ((with_reducible refine cell_newn _ _ _ _ _ _ ?_ rfl); (focus (simp; done))); ((with_reducible refine cell_newn _ _ _ _ _ _ ?_ rfl); (focus (simp; done))); rintro _ _ ⟨rfl, rfl⟩)))
      all_goals
        rename_i hbl
        go_wp2
        go_ret
        exact ⟨rfl, step_below hb4 hbl⟩
end Go.Proofs.Ytdbjopjkkfjdaaa
