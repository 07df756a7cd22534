/- Contracts for package crc's Open: it answers as the plain 'opened' says. -/
import Derived.Test.YtolpiklhnafnbaaCrcSeal
import Derived.Deep.RegionHeld3
namespace Go.Proofs.Ytolpiklhnafnbaa
set_option maxRecDepth 100000
open Go.RowKit Wd Nm Cm

set_option maxHeartbeats 400000 in
theorem open_short (A : Option Addr) (n cap : Nat) (w : World) (hn : n < 6) :
    Calls Try.prog 50 #[.slice A n cap] w fun e w' => e = .returned (.tuple #[.slice none 0 0, .int .i64 0, .int .i64 8]) ∧ w = w' := by
  go_enter Try.func50, Try.ntmps50
  go_wp2
  go_ret3
  exact ⟨rfl, rfl⟩

/-- What number reads of the first two bytes. -/
theorem number_two (A : Option Addr) (n cap : Nat) (l : List UInt8) (w : World) (hs : Shows w w.heap.size A n cap l) (hn : 2 ≤ n) :
    Calls Try.prog 66 #[.slice A 2 cap] w fun e w' => e = .returned (.int .u32 (leNat (l.take 2) : Nat)) ∧ w = w' :=
  number_any _ A 2 cap _ w (hs.take hn) (by omega)
theorem number_four (A : Option Addr) (n cap : Nat) (l : List UInt8) (w : World) (hs : Shows w w.heap.size A n cap l) (hn : 6 ≤ n) :
    Calls Try.prog 66 #[.slice (A.map (·.add 2)) 4 (cap - 2)] w fun e w' => e = .returned (.int .u32 (leNat ((l.drop 2).take 4) : Nat)) ∧ w = w' := by
  have h := (hs.drop (k := 2) (by omega)).take (k := 4) (by omega)
  rw [if_neg (by have := hs.le; omega)] at h
  exact number_any _ _ 4 _ _ w h (by omega)
theorem two_lt (l : List UInt8) : leNat (l.take 2) < 65536 := by
  have h := leNat_lt (l.take 2)
  have h2 : (l.take 2).length ≤ 2 := by rw [List.length_take]; omega
  have h3 : 2 ^ (8 * (l.take 2).length) ≤ 2 ^ 16 := Nat.pow_le_pow_right (by decide) (by omega)
  have h4 : (2 : Nat) ^ 16 = 65536 := rfl
  omega

set_option maxHeartbeats 400000 in
theorem open_cut (A : Option Addr) (n cap : Nat) (l : List UInt8) (w : World) (hs : Shows w w.heap.size A n cap l) (hn : 6 ≤ n) (hm : n < 6 + leNat (l.take 2)) :
    Calls Try.prog 50 #[.slice A n cap] w fun e w' => e = .returned (.tuple #[.slice none 0 0, .int .i64 0, .int .i64 8]) ∧ w = w' := by
  have hc := number_two A n cap l w hs (by omega)
  have h2 := two_lt l
  have hcap := hs.le
  generalize leNat (l.take 2) = m at hc h2 hm
  obtain ⟨g, o, rfl, _, _⟩ := hs.spot (by omega)
  have HC := Lib.hid hc
  have hz : ¬ (n : Int) < 6 := by omega
  have hlt : (n : Int) < 6 + m := by omega
  have h2c : 2 ≤ cap := by omega
  clear hs hc
  go_enter Try.func50, Try.ntmps50
  go_wp2_with ((with_reducible refine HC.out.mono ?_); rintro e w' ⟨rfl, rfl⟩)
  go_ret3
  exact ⟨rfl, rfl⟩

/-- Sum of one part that lies anywhere. -/
theorem sum_at (w W : World) (g : Nat) (A : Option Addr) (n cap : Nat) (l : List UInt8) (hs : Shows w w.heap.size A n cap l) (hn : n ≤ 1000000000) (hb : Below w.heap.size w W) (hc : W.cell? ⟨g, 0, none⟩ = some (.slice A n cap)) :
    Calls Try.prog 64 #[.slice (some ⟨g, 0, none⟩) 1 1] W fun e w' => e = .returned (.int .u32 (tn (crc l))) ∧ W = w' := by
  have hg : g < W.heap.size := World.block_lt_of_cell? W _ hc
  have h := sum_any W.heap.size (some ⟨g, 0, none⟩) 1 1 [⟨A, n, cap, l⟩] W ⟨rfl, fun _ => ⟨g, 0, rfl, hg, fun j hj => by
    match j, hj with
    | 0, _ => exact hc⟩, fun p hp => by
      simp only [List.mem_singleton] at hp
      subst hp
      exact (hs.below hb).more hb.size⟩ (by simp) (by intro p hp; simp only [List.mem_singleton] at hp; subst hp; simp; omega)
  simp only [joined, List.append_nil] at h
  exact h
theorem number_at (w W : World) (A : Option Addr) (n cap : Nat) (l : List UInt8) (hs : Shows w w.heap.size A n cap l) (hn : n ≤ 4) (hb : Below w.heap.size w W) :
    Calls Try.prog 66 #[.slice A n cap] W fun e w' => e = .returned (.int .u32 (leNat l : Nat)) ∧ W = w' :=
  number_any _ A n cap l W (hs.below hb) hn

theorem clone_at (w W : World) (A : Option Addr) (n cap : Nat) (l : List UInt8) (hs : Shows w w.heap.size A n cap l) (hn : n ≤ 100000000000) (hb : Below w.heap.size w W) :
    Calls Try.prog 56 #[.slice A n cap] W fun e w' => ∃ A2 c2, e = .returned (.slice A2 n c2) ∧ w'.ownsRow w.heap.size 5 1 (.slice A2 n c2) n (bc l) ∧ Below w.heap.size w w' := by
  refine (clone_own A n cap l W ((hs.below hb).more hb.size) hn).mono ?_
  rintro e w' ⟨A2, c2, rfl, h1, h2⟩
  exact ⟨A2, c2, rfl, own_mono h1 hb.size, hb.trans (h2.mono hb.size)⟩

set_option maxHeartbeats 1000000 in
theorem open_bad (A : Option Addr) (n cap : Nat) (l : List UInt8) (w : World) (hs : Shows w w.heap.size A n cap l) (hn : 6 ≤ n) (hn2 : n ≤ 1000000000) (hm : 6 + leNat (l.take 2) ≤ n) (hsu : (tn (crc ((l.drop 6).take (leNat (l.take 2)))) != (leNat ((l.drop 2).take 4) : Int)) = true) :
    Calls Try.prog 50 #[.slice A n cap] w fun e w' => e = .returned (.tuple #[.slice none 0 0, .int .i64 0, .int .i64 10]) ∧ Below w.heap.size w w' := by
  have hc := number_two A n cap l w hs (by omega)
  have h2 := two_lt l
  have hcap := hs.le
  have hsn := (hs.drop (k := 2) (by omega)).take (k := 4) (by omega)
  have hss := (hs.drop (k := 6) (by omega)).take (k := leNat (l.take 2)) (by omega)
  rw [if_neg (by omega)] at hsn
  generalize hmm : leNat (l.take 2) = m at hc h2 hm hsu hss
  obtain ⟨g, o, rfl, _, _⟩ := hs.spot (by omega)
  have HC := Lib.hid hc
  simp only [Option.map_some, Addr.add_lit] at hsn hss
  have HSN := Lib.hid (fun (W : World) (hb : Below w.heap.size w W) => number_at w W _ 4 _ _ hsn (by omega) hb)
  have HSS := Lib.hid hss
  have hb0 : Below w.heap.size w w := Below.refl _ _
  have HSU := Lib.hid hsu
  have hz : ¬ (n : Int) < 6 := by omega
  have hlt : ¬ (n : Int) < 6 + m := by omega
  have h2c : 2 ≤ cap := by omega
  have h6m : 6 + m ≤ cap := by omega
  have i0 : cap = 6 → m = 0 ∧ n = 6 := by omega
  have i1 : (0 : Int) ≤ 6 + (m : Int) := by omega
  have i2 : (6 : Int) ≤ 6 + (m : Int) := by omega
  have i3 : 6 + (m : Int) ≤ (cap : Int) := by omega
  have i4 : (6 : Int) ≤ (cap : Int) := by omega
  have i5 : (6 + (m : Int)).toNat - 6 = m := by omega
  clear hs hc hsu hsn hss
  by_cases hcc : cap = 6
  · obtain ⟨rfl, rfl⟩ := i0 hcc
    subst hcc
    have hss2 := HSS.out
    rw [if_pos rfl, List.take_zero] at hss2
    rw [List.take_zero] at HSU
    have HSS2 := Lib.hid (fun (W : World) (g' : Nat) (hb : Below w.heap.size w W) => sum_at w W g' _ _ _ _ hss2 (by omega) hb)
    have HSC := Lib.hid hss2
    clear hss2
    go_enter Try.func50, Try.ntmps50
    go_wp2_with ((with_reducible refine HC.out.mono ?_); rintro e w' ⟨rfl, rfl⟩)
    go_region_held3 (fun w' => Below w.heap.size w w')
      (repeat (first | (with_reducible assumption) | (with_reducible refine Below.drew ?_) | (with_reducible refine below_new ?_ _)))
      ((first
        | (go_at_call 64; refine (HSS2.out _ _ (by assumption) ?_).mono ?_; (simp); rintro _ _ ⟨rfl, rfl⟩)
        | (go_at_call 66; refine (HSN.out _ (by assumption)).mono ?_; rintro _ _ ⟨rfl, rfl⟩)))
    rename_i hbl
    have hsu := HSU.out
    go_wp2
    go_ret3
    exact ⟨rfl, hbl⟩
  · have hss2 := HSS.out
    rw [if_neg hcc] at hss2
    clear i0
    have HSS2 := Lib.hid (fun (W : World) (g' : Nat) (hb : Below w.heap.size w W) => sum_at w W g' _ _ _ _ hss2 (by omega) hb)
    have HSC := Lib.hid hss2
    clear hss2
    go_enter Try.func50, Try.ntmps50
    go_wp2_with ((with_reducible refine HC.out.mono ?_); rintro e w' ⟨rfl, rfl⟩)
    go_region_held3 (fun w' => Below w.heap.size w w')
      (repeat (first | (with_reducible assumption) | (with_reducible refine Below.drew ?_) | (with_reducible refine below_new ?_ _)))
      ((first
        | (go_at_call 64; refine (HSS2.out _ _ (by assumption) ?_).mono ?_; (simp); rintro _ _ ⟨rfl, rfl⟩)
        | (go_at_call 66; refine (HSN.out _ (by assumption)).mono ?_; rintro _ _ ⟨rfl, rfl⟩)))
    rename_i hbl
    have hsu := HSU.out
    go_wp2
    go_ret3
    exact ⟨rfl, hbl⟩

set_option maxHeartbeats 1000000 in
theorem open_own (A : Option Addr) (n cap : Nat) (l : List UInt8) (w : World) (hs : Shows w w.heap.size A n cap l) (hn : 6 ≤ n) (hn2 : n ≤ 1000000000) (hm : 6 + leNat (l.take 2) ≤ n) (hsu : (tn (crc ((l.drop 6).take (leNat (l.take 2)))) != (leNat ((l.drop 2).take 4) : Int)) = false) :
    Calls Try.prog 50 #[.slice A n cap] w fun e w' => ∃ A2 c2, e = .returned (.tuple #[.slice A2 (leNat (l.take 2)) c2, .int .i64 (6 + (leNat (l.take 2) : Int)), .int .i64 0]) ∧ w'.ownsRow w.heap.size 5 1 (.slice A2 (leNat (l.take 2)) c2) (leNat (l.take 2)) (bc ((l.drop 6).take (leNat (l.take 2)))) ∧ Below w.heap.size w w' := by
  have hc := number_two A n cap l w hs (by omega)
  have h2 := two_lt l
  have hcap := hs.le
  have hsn := (hs.drop (k := 2) (by omega)).take (k := 4) (by omega)
  have hss := (hs.drop (k := 6) (by omega)).take (k := leNat (l.take 2)) (by omega)
  rw [if_neg (by omega)] at hsn
  generalize hmm : leNat (l.take 2) = m at hc h2 hm hsu hss
  obtain ⟨g, o, rfl, _, _⟩ := hs.spot (by omega)
  have HC := Lib.hid hc
  simp only [Option.map_some, Addr.add_lit] at hsn hss
  have HSN := Lib.hid (fun (W : World) (hb : Below w.heap.size w W) => number_at w W _ 4 _ _ hsn (by omega) hb)
  have HSS := Lib.hid hss
  have hb0 : Below w.heap.size w w := Below.refl _ _
  have HSU := Lib.hid hsu
  have hz : ¬ (n : Int) < 6 := by omega
  have hlt : ¬ (n : Int) < 6 + m := by omega
  have h2c : 2 ≤ cap := by omega
  have h6m : 6 + m ≤ cap := by omega
  have i0 : cap = 6 → m = 0 ∧ n = 6 := by omega
  have i1 : (0 : Int) ≤ 6 + (m : Int) := by omega
  have i2 : (6 : Int) ≤ 6 + (m : Int) := by omega
  have i3 : 6 + (m : Int) ≤ (cap : Int) := by omega
  have i4 : (6 : Int) ≤ (cap : Int) := by omega
  have i5 : (6 + (m : Int)).toNat - 6 = m := by omega
  clear hs hc hsu hsn hss
  by_cases hcc : cap = 6
  · obtain ⟨rfl, rfl⟩ := i0 hcc
    subst hcc
    have hss2 := HSS.out
    rw [if_pos rfl, List.take_zero] at hss2
    rw [List.take_zero] at HSU
    have HSS2 := Lib.hid (fun (W : World) (g' : Nat) (hb : Below w.heap.size w W) => sum_at w W g' _ _ _ _ hss2 (by omega) hb)
    have HSC := Lib.hid hss2
    clear hss2
    go_enter Try.func50, Try.ntmps50
    go_wp2_with ((with_reducible refine HC.out.mono ?_); rintro e w' ⟨rfl, rfl⟩)
    go_region_held3 (fun w' => Below w.heap.size w w')
      (repeat (first | (with_reducible assumption) | (with_reducible refine Below.drew ?_) | (with_reducible refine below_new ?_ _)))
      ((first
        | (go_at_call 64; refine (HSS2.out _ _ (by assumption) ?_).mono ?_; (simp); rintro _ _ ⟨rfl, rfl⟩)
        | (go_at_call 66; refine (HSN.out _ (by assumption)).mono ?_; rintro _ _ ⟨rfl, rfl⟩)))
    rename_i hbl
    have hsu := HSU.out
    have HCL := Lib.hid (fun (W : World) (hb : Below w.heap.size w W) => clone_at w W _ _ _ _ HSC.out (by omega) hb)
    clear hb0
    go_wp2_with ((with_reducible refine (HCL.out _ hbl).mono ?_); rintro e w' ⟨A2, c2, rfl, hs3, hb3⟩)
    go_ret3
    exact ⟨A2, c2, rfl, hs3, hb3⟩
  · have hss2 := HSS.out
    rw [if_neg hcc] at hss2
    clear i0
    have HSS2 := Lib.hid (fun (W : World) (g' : Nat) (hb : Below w.heap.size w W) => sum_at w W g' _ _ _ _ hss2 (by omega) hb)
    have HSC := Lib.hid hss2
    clear hss2
    go_enter Try.func50, Try.ntmps50
    go_wp2_with ((with_reducible refine HC.out.mono ?_); rintro e w' ⟨rfl, rfl⟩)
    go_region_held3 (fun w' => Below w.heap.size w w')
      (repeat (first | (with_reducible assumption) | (with_reducible refine Below.drew ?_) | (with_reducible refine below_new ?_ _)))
      ((first
        | (go_at_call 64; refine (HSS2.out _ _ (by assumption) ?_).mono ?_; (simp); rintro _ _ ⟨rfl, rfl⟩)
        | (go_at_call 66; refine (HSN.out _ (by assumption)).mono ?_; rintro _ _ ⟨rfl, rfl⟩)))
    rename_i hbl
    have hsu := HSU.out
    have HCL := Lib.hid (fun (W : World) (hb : Below w.heap.size w W) => clone_at w W _ _ _ _ HSC.out (by omega) hb)
    clear hb0
    go_wp2_with ((with_reducible refine (HCL.out _ hbl).mono ?_); rintro e w' ⟨A2, c2, rfl, hs3, hb3⟩)
    go_ret3
    exact ⟨A2, c2, rfl, hs3, hb3⟩

theorem open_ok (A : Option Addr) (n cap : Nat) (l : List UInt8) (w : World) (hs : Shows w w.heap.size A n cap l) (hn : 6 ≤ n) (hn2 : n ≤ 1000000000) (hm : 6 + leNat (l.take 2) ≤ n) (hsu : (tn (crc ((l.drop 6).take (leNat (l.take 2)))) != (leNat ((l.drop 2).take 4) : Int)) = false) :
    Calls Try.prog 50 #[.slice A n cap] w fun e w' => ∃ A2 c2, e = .returned (.tuple #[.slice A2 (leNat (l.take 2)) c2, .int .i64 (6 + (leNat (l.take 2) : Int)), .int .i64 0]) ∧ Shows w' w'.heap.size A2 (leNat (l.take 2)) c2 ((l.drop 6).take (leNat (l.take 2))) ∧ Below w.heap.size w w' :=
  (open_own A n cap l w hs hn hn2 hm hsu).mono fun _ _ ⟨A2, c2, h1, h2, h3⟩ => ⟨A2, c2, h1, Shows.of_own h2, h3⟩

/-- What is opened lies in a row of its own. -/
theorem open_any_own (A : Option Addr) (n cap : Nat) (l : List UInt8) (w : World) (hs : Shows w w.heap.size A n cap l) (hn : n ≤ 1000000000) :
    Calls Try.prog 50 #[.slice A n cap] w fun e w' => ∃ A2 c2, e = .returned (.tuple #[.slice A2 (opened l).1.length c2, .int .i64 ((opened l).2.1 : Nat), .int .i64 (opened l).2.2]) ∧ w'.ownsRow w.heap.size 5 1 (.slice A2 (opened l).1.length c2) (opened l).1.length (bc (opened l).1) ∧ Below w.heap.size w w' := by
  have hl := hs.len
  unfold opened
  by_cases h6 : n < 6
  · rw [if_pos (by omega)]
    refine (open_short A n cap w h6).mono ?_
    rintro e w' ⟨rfl, rfl⟩
    exact ⟨none, 0, rfl, World.ownsRow_nil _ _ _ _, Below.refl _ _⟩
  · rw [if_neg (by omega)]
    by_cases h1 : n < 6 + leNat (l.take 2)
    · rw [if_pos (by omega)]
      refine (open_cut A n cap l w hs (by omega) h1).mono ?_
      rintro e w' ⟨rfl, rfl⟩
      exact ⟨none, 0, rfl, World.ownsRow_nil _ _ _ _, Below.refl _ _⟩
    · rw [if_neg (by omega)]
      by_cases h2 : tn (crc ((l.drop 6).take (leNat (l.take 2)))) = (leNat ((l.drop 2).take 4) : Int)
      · rw [if_pos h2]
        refine (open_own A n cap l w hs (by omega) hn (by omega) (by simpa using h2)).mono ?_
        rintro e w' ⟨A2, c2, rfl, hs2, hb⟩
        have hlen : ((l.drop 6).take (leNat (l.take 2))).length = leNat (l.take 2) := by rw [List.length_take, List.length_drop]; omega
        simp only [hlen]
        exact ⟨A2, c2, by rw [Int.natCast_add]; rfl, hs2, hb⟩
      · rw [if_neg h2]
        refine (open_bad A n cap l w hs (by omega) hn (by omega) (by simpa using h2)).mono ?_
        rintro e w' ⟨rfl, hb⟩
        exact ⟨none, 0, rfl, World.ownsRow_nil _ _ _ _, hb⟩

theorem open_any (A : Option Addr) (n cap : Nat) (l : List UInt8) (w : World) (hs : Shows w w.heap.size A n cap l) (hn : n ≤ 1000000000) :
    Calls Try.prog 50 #[.slice A n cap] w fun e w' => ∃ A2 c2, e = .returned (.tuple #[.slice A2 (opened l).1.length c2, .int .i64 ((opened l).2.1 : Nat), .int .i64 (opened l).2.2]) ∧ Shows w' w'.heap.size A2 (opened l).1.length c2 (opened l).1 ∧ Below w.heap.size w w' := by
  have hl := hs.len
  unfold opened
  by_cases h6 : n < 6
  · rw [if_pos (by omega)]
    refine (open_short A n cap w h6).mono ?_
    rintro e w' ⟨rfl, rfl⟩
    exact ⟨none, 0, rfl, Shows.nil _ _, Below.refl _ _⟩
  · rw [if_neg (by omega)]
    by_cases h1 : n < 6 + leNat (l.take 2)
    · rw [if_pos (by omega)]
      refine (open_cut A n cap l w hs (by omega) h1).mono ?_
      rintro e w' ⟨rfl, rfl⟩
      exact ⟨none, 0, rfl, Shows.nil _ _, Below.refl _ _⟩
    · rw [if_neg (by omega)]
      by_cases h2 : tn (crc ((l.drop 6).take (leNat (l.take 2)))) = (leNat ((l.drop 2).take 4) : Int)
      · rw [if_pos h2]
        refine (open_ok A n cap l w hs (by omega) hn (by omega) (by simpa using h2)).mono ?_
        rintro e w' ⟨A2, c2, rfl, hs2, hb⟩
        have hlen : ((l.drop 6).take (leNat (l.take 2))).length = leNat (l.take 2) := by rw [List.length_take, List.length_drop]; omega
        simp only [hlen]
        exact ⟨A2, c2, by rw [Int.natCast_add]; rfl, hs2, hb⟩
      · rw [if_neg h2]
        refine (open_bad A n cap l w hs (by omega) hn (by omega) (by simpa using h2)).mono ?_
        rintro e w' ⟨rfl, hb⟩
        exact ⟨none, 0, rfl, Shows.nil _ _, hb⟩
theorem seal_any (A : Option Addr) (n cap : Nat) (l : List UInt8) (w : World) (hs : Shows w w.heap.size A n cap l) (hn : n ≤ 65535) :
    Calls Try.prog 47 #[.slice A n cap] w fun e w' => ∃ A2 c2, e = .returned (.slice A2 (6 + n) c2) ∧ Shows w' w'.heap.size A2 (6 + n) c2 (sealed l) ∧ Below w.heap.size w w' := by
  refine (seal_yes A n cap l w hs hn).mono ?_
  rintro e w' ⟨A2, c2, rfl, h1, h2⟩
  exact ⟨A2, c2, rfl, Shows.of_own h1, h2⟩

/-- What was sealed is opened as it was, whatever stands behind it. -/
theorem opened_sealed (l r : List UInt8) (h : l.length ≤ 65535) : opened (sealed l ++ r) = (l, 6 + l.length, 0) := by
  have h1 : leNat ((sealed l ++ r).take 2) = l.length := by
    unfold sealed
    rw [List.append_assoc, List.append_assoc, List.take_left' (leb_len _ _)]
    have := leNat_leb (l.length : Int) 2
    have e : (2 : Int) ^ (8 * 2) = 65536 := rfl
    rw [e] at this
    omega
  have h2 : ((sealed l ++ r).drop 2).take 4 = leb (tn (crc l)) 4 := by
    unfold sealed
    rw [List.append_assoc, List.append_assoc, List.drop_left' (leb_len _ _), List.take_left' (leb_len _ _)]
  have h3 : (sealed l ++ r).drop 6 = l ++ r := by
    unfold sealed
    rw [List.append_assoc, List.drop_left' (by rw [List.length_append, leb_len, leb_len])]
  have h4 : (sealed l ++ r).length = 6 + l.length + r.length := by rw [List.length_append, sealed_len]
  have h5 : (leNat (leb (tn (crc l)) 4) : Int) = tn (crc l) := by
    have hb := tn_bd (crc l)
    have e : (2 : Int) ^ (8 * 4) = 4294967296 := rfl
    rw [leNat_leb, e]
    omega
  unfold opened
  rw [h1, h2, h3, h4, if_neg (by omega), if_neg (by omega), List.take_left' rfl, if_pos h5.symm]
end Go.Proofs.Ytolpiklhnafnbaa
