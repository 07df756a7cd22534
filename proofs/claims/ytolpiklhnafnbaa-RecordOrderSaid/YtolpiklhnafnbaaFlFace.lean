/- Package flash: contracts of its face. -/
import Derived.Test.YtolpiklhnafnbaaFlWrite
namespace Go.Proofs.Ytolpiklhnafnbaa
set_option maxRecDepth 100000
open Go.RowKit Wd Fm

theorem row_shows {w : World} {G n : Nat} {T : TypeId} {l : List UInt8} {r : List Value} (h : Row w G T (bc l ++ r)) (hl : l.length = n) (hm : n ≤ maxLen) : Shows w w.heap.size (some ⟨G, 0, none⟩) n n l :=
  ⟨hl, Nat.le_refl _, hm, fun _ => ⟨G, 0, rfl, h.lt, fun j hj => by
    rw [Nat.zero_add]
    exact h.cell (by rw [List.getElem?_append_left (by rw [bc_len]; exact hj), bc_get l j hj])⟩⟩

set_option maxHeartbeats 800000 in
theorem erase_any (g : Nat) (m : Mem) (s : Int) (w : World) (h : Fl w g m) :
    Calls Try.prog 36 #[.pointer (some ⟨g, 0, none⟩), .int .i64 s] w fun e w' => e = .returned (.int .i64 (eraseM m s).1) ∧ Fl w' g (eraseM m s).2 ∧ w.grownBy w' (some g) := by
  obtain ⟨A, n, cap, hr, ho⟩ := h.spot
  have c0 := hr.cell (flCells_at m (.slice A n cap) h.size).1
  have H1 := Lib.hid h
  clear hr ho h
  by_cases hd : m.dead = true
  · rw [eraseM_dead s hd]
    rw [hd] at c0
    clear hd
    go_enter Try.func36, Try.ntmps36
    go_wp2
    go_ret
    exact ⟨rfl, H1.out, grow_refl _ _⟩
  · have hd2 : m.dead = false := by simpa using hd
    rw [hd2] at c0
    by_cases hs : isSector s
    · obtain ⟨t, rfl⟩ : ∃ t : Nat, s = t := ⟨s.toNat, by have := hs.1; omega⟩
      have ht : t < 6 := by have := hs.2; omega
      rw [eraseM_ok t hd2 ht]
      obtain ⟨R, hR⟩ : ∃ R, writeM m (t * 1024) (List.replicate 1024 255) = R := ⟨_, rfl⟩
      rw [hR]
      have HRR := Lib.hid hR
      have HSS := fun w => hasSector_any (.pointer (some ⟨g, 0, none⟩)) (t : Int) w
      rw [decide_eq_true hs] at HSS
      have HS := Lib.hid HSS
      have HBL := Lib.hid (blank_any 1024 (by decide) (by decide))
      rw [show ((1024 : Nat) : Int) = 1024 from rfl] at HBL
      clear hd hd2 HSS hs hR
      go_enter Try.func36, Try.ntmps36
      go_wp2_with fail
      (with_reducible refine (HS.out _).mono ?_)
      rintro _ w1 ⟨rfl, rfl⟩
      go_wp2_with fail
      (with_reducible refine (sector_any g t ht _).mono ?_)
      rintro _ w1 ⟨rfl, rfl⟩
      go_wp2_with fail
      (with_reducible refine (HBL.out _).mono ?_)
      rintro _ w1 ⟨G, r, rfl, hG, hr, hb⟩
      have hGg : G ≠ g := by have := H1.out.lt; omega
      have hw0 := write_any g (t * 1024) 1024 1024 G 1024 m (List.replicate 1024 255) w1 (H1.out.below hb) (row_shows hr (by rw [List.length_replicate]) (by decide)) hGg (by omega) (by decide)
      rw [HRR.out] at hw0
      have HW := Lib.hid hw0
      have HB := Lib.hid hb
      clear hG hr hb hGg c0 hw0
      go_wp2_with fail
      (with_reducible refine HW.out.mono ?_)
      rintro _ w2 ⟨rfl, hf, hg⟩
      have HE := Lib.hid (And.intro hf (grow_trans (below_grow HB.out (some g)) hg (.inl rfl)))
      clear hf hg
      go_wp2
      go_ret
      exact ⟨rfl, HE.out.1, HE.out.2⟩
    · rw [eraseM_addr hd2 hs]
      have HSS := fun w => hasSector_any (.pointer (some ⟨g, 0, none⟩)) s w
      rw [decide_eq_false hs] at HSS
      have HS := Lib.hid HSS
      clear hd hd2 HSS hs
      go_enter Try.func36, Try.ntmps36
      go_wp2_with fail
      (with_reducible refine (HS.out _).mono ?_)
      rintro _ w1 ⟨rfl, rfl⟩
      go_wp2
      go_ret
      exact ⟨rfl, H1.out, grow_refl _ _⟩

set_option maxHeartbeats 800000 in
theorem program_any (g : Nat) (m : Mem) (s p : Int) (A : Option Addr) (n cap : Nat) (b : List UInt8) (w : World) (h : Fl w g m) (hb : Shows w w.heap.size A n cap b) (hn : n ≤ 10000000000) :
    Calls Try.prog 16 #[.pointer (some ⟨g, 0, none⟩), .int .i64 s, .int .i64 p, .slice A n cap] w fun e w' => e = .returned (.int .i64 (programM m s p b).1) ∧ Fl w' g (programM m s p b).2 ∧ w.grownBy w' (some g) := by
  obtain ⟨A0, n0, cap0, hr, ho⟩ := h.spot
  have c0 := hr.cell (flCells_at m (.slice A0 n0 cap0) h.size).1
  have H1 := Lib.hid (And.intro h hb)
  have hl := hb.len
  clear hr ho h hb
  by_cases hd : m.dead = true
  · rw [programM_dead s p b hd]
    rw [hd] at c0
    clear hd hl
    go_enter Try.func16, Try.ntmps16
    go_wp2
    go_ret
    exact ⟨rfl, H1.out.1, grow_refl _ _⟩
  · have hd2 : m.dead = false := by simpa using hd
    rw [hd2] at c0
    by_cases hs : isPage s p
    · have HSS := fun w => hasPage_any (.pointer (some ⟨g, 0, none⟩)) s p w
      rw [decide_eq_true hs] at HSS
      have HS := Lib.hid HSS
      by_cases h16 : 16 < n
      · rw [programM_long hd2 hs (by omega)]
        clear hd hd2 HSS hs hl
        go_enter Try.func16, Try.ntmps16
        go_wp2_with fail
        (with_reducible refine (HS.out _).mono ?_)
        rintro _ w1 ⟨rfl, rfl⟩
        go_wp2
        go_ret
        exact ⟨rfl, H1.out.1, grow_refl _ _⟩
      · obtain ⟨t, rfl⟩ : ∃ t : Nat, s = t := ⟨s.toNat, by have := hs.1.1; omega⟩
        obtain ⟨u, rfl⟩ : ∃ t : Nat, p = t := ⟨p.toNat, by have := hs.2.1; omega⟩
        have ht : t < 6 := by have := hs.1.2; omega
        have hu : u < 64 := by have := hs.2.2; omega
        obtain ⟨R, hR⟩ : ∃ R, programM m t u b = R := ⟨_, rfl⟩
        rw [hR]
        have hpl : (padded b).length = 16 := padded_len b (by omega)
        obtain ⟨o, hoo⟩ : ∃ o, t * 1024 + u * 16 = o := ⟨_, rfl⟩
        have HRR := Lib.hid (And.intro hR (And.intro hpl (And.intro hl (And.intro hd2 (And.intro ht (And.intro hu hoo))))))
        have HBL := Lib.hid (blank_any 16 (by decide) (by decide))
        rw [show ((16 : Nat) : Int) = 16 from rfl] at HBL
        have HPG := Lib.hid (page_any g t u ht hu)
        rw [hoo] at HPG
        obtain ⟨cp, hcp⟩ : ∃ c, 1024 - u * 16 = c := ⟨_, rfl⟩
        rw [hcp] at HPG
        have hcp2 : 16 ≤ cp ∧ cp ≤ 1024 := by omega
        obtain ⟨i0, hi0, hz0, hz1, hz2⟩ := info_parts infoByte
        have hs1 : (Try.prog.info? 5).map (·.size) = some 1 := by rw [hi0]; simp [hz1]
        have HS1 := Lib.hid hs1
        have ho2 : o + 16 ≤ 6144 := by omega
        clear hd HSS hs hR hpl hl hd2 ht hu hoo hcp hs1 hi0 hz0 hz1 hz2
        have H16 : Hid (n ≤ 16) := Lib.hid (by omega)
        go_enter Try.func16, Try.ntmps16
        go_wp2_with fail
        (with_reducible refine (HS.out _).mono ?_)
        rintro _ w1 ⟨rfl, rfl⟩
        go_wp2_with fail
        (with_reducible refine (HPG.out _).mono ?_)
        rintro _ w1 ⟨rfl, rfl⟩
        go_wp2_with fail
        (with_reducible refine (HBL.out _).mono ?_)
        rintro _ w1 ⟨G, r, rfl, hG, hr, hb⟩
        have hGg : G ≠ g := by have := H1.out.1.lt; omega
        have HX := Lib.hid (And.intro hG (And.intro hr (And.intro hb hGg)))
        clear hG hr hb hGg c0
        go_wp2_with (refine wpList_copy_splice rfl (.tmp 36) (.tmp 37) 29 29 rfl 5 Try.underlying29 HS1.out _ _ 16 16 n cap rfl rfl G 0 _ 5 HX.out.2.1 (bc b) ?c1 ?c2 ?c3 (bc_one b) w.heap.size w HX.out.2.2.1 HX.out.1 ?_)
        case c1 => rw [bc_len, HRR.out.2.2.1]; exact (Nat.min_eq_left H16.out).symm
        case c2 =>
          intro h0
          rw [bc_len, HRR.out.2.2.1] at h0
          obtain ⟨fg, fo, rfl, hfb, hfc⟩ := (H1.out.2.below HX.out.2.2.1).spot h0
          refine ⟨_, rfl, fun j v hj => ?_⟩
          obtain ⟨hj2, rfl⟩ := bc_at hj
          rw [Addr.add_lit]
          exact hfc j hj2
        case c3 =>
          rw [bc_len, HRR.out.2.2.1]
          have := H16.out
          simp [bc_len]
          omega
        intro w2 hr2 hb2
        obtain ⟨hR, hpl, hl, hd2, ht, hu, hoo⟩ := HRR.out
        have e2 : splice (bc (List.replicate 16 255) ++ r) 0 (bc b) = bc (padded b) ++ r := by
          unfold splice padded
          rw [List.take_zero, List.nil_append, Nat.zero_add, bc_len, bc_app, List.append_assoc, List.drop_append_of_le_length (by rw [bc_len, List.length_replicate, hl]; exact H16.out)]
          congr 2
          unfold bc
          rw [← List.map_drop, List.drop_replicate]
        have r2 : Row w2 G 5 (bc (padded b) ++ r) := by rw [← e2]; exact hr2.out
        have s2 := row_shows r2 hpl (by decide)
        have f2 := H1.out.1.below hb2
        have HSE := Lib.hid (sets_any g o 16 cp G 16 16 (m.page o 16) (padded b) w2 (f2.shows o 16 cp ho2 hcp2.1 (Nat.le_trans hcp2.2 (by decide))) s2 (Nat.le_refl _) (by decide))
        have HW := Lib.hid (write_any g o 16 cp G 16 m (padded b) w2 f2 s2 HX.out.2.2.2 ho2 (by decide))
        have HB2 := Lib.hid (And.intro f2 (below_grow hb2 (some g)))
        clear hr2 hb2 r2 s2 f2 e2 hR hpl hl hd2 ht hu hoo hcp2
        go_wp2_with fail
        (with_reducible refine HSE.out.mono ?_)
        rintro _ w3 ⟨rfl, rfl⟩
        by_cases hz : setsB (m.page o 16) (padded b) = true
        · obtain ⟨hR, hpl, hl, hd2, ht, hu, hoo⟩ := HRR.out
          have hRe : R = (13, m) := by rw [← hR]; exact programM_set hd2 ht hu (by rw [hl]; exact H16.out) (by rw [hoo]; exact hz)
          have HRe := Lib.hid hRe
          clear hR hpl hl hd2 ht hu hoo hRe
          rw [hz]
          clear hz
          go_wp2
          go_ret
          rw [HRe.out]
          exact ⟨rfl, HB2.out.1, HB2.out.2⟩
        · have hz2 : setsB (m.page o 16) (padded b) = false := by simpa using hz
          obtain ⟨hR, hpl, hl, hd2, ht, hu, hoo⟩ := HRR.out
          have hRe : R = writeM m o (padded b) := by rw [← hR, ← hoo]; exact programM_ok hd2 ht hu (by rw [hl]; exact H16.out) (by rw [hoo]; exact hz2)
          have HRe := Lib.hid hRe
          clear hR hpl hl hd2 ht hu hoo hRe
          rw [hz2]
          clear hz2 hz
          go_wp2_with fail
          (with_reducible refine HW.out.mono ?_)
          rintro _ w4 ⟨rfl, hf, hg⟩
          rw [← HRe.out] at hf ⊢
          have HE := Lib.hid (And.intro hf (grow_trans HB2.out.2 hg (.inl rfl)))
          clear hf hg
          go_wp2
          go_ret
          exact ⟨rfl, HE.out.1, HE.out.2⟩
    · have HSS := fun w => hasPage_any (.pointer (some ⟨g, 0, none⟩)) s p w
      rw [decide_eq_false hs] at HSS
      have HS := Lib.hid HSS
      rw [programM_addr b hd2 hs]
      clear hd hd2 HSS hs hl
      go_enter Try.func16, Try.ntmps16
      go_wp2_with fail
      (with_reducible refine (HS.out _).mono ?_)
      rintro _ w1 ⟨rfl, rfl⟩
      go_wp2
      go_ret
      exact ⟨rfl, H1.out.1, grow_refl _ _⟩

set_option maxHeartbeats 400000 in
theorem read_any (g : Nat) (m : Mem) (s : Int) (w : World) (h : Fl w g m) :
    Calls Try.prog 32 #[.pointer (some ⟨g, 0, none⟩), .int .i64 s] w fun e w' => ∃ A n cap, e = .returned (.slice A n cap) ∧ w'.ownsRow w.heap.size 5 1 (.slice A n cap) n (bc (readM m s)) ∧ Below w.heap.size w w' := by
  have H1 := Lib.hid h
  clear h
  by_cases hs : isSector s
  · obtain ⟨t, rfl⟩ : ∃ t : Nat, s = t := ⟨s.toNat, by have := hs.1; omega⟩
    have ht : t < 6 := by have := hs.2; omega
    have e : readM m (t : Int) = m.page (t * 1024) 1024 := by
      unfold readM placeOf
      rw [if_pos hs]
      simp only [Int.toNat_natCast, Int.toNat_zero, Nat.zero_mul, Nat.add_zero]
    rw [e]
    have HSS := fun w => hasSector_any (.pointer (some ⟨g, 0, none⟩)) (t : Int) w
    rw [decide_eq_true hs] at HSS
    have HS := Lib.hid HSS
    have HC := Lib.hid (clone_own (some ⟨g, t * 1024, none⟩) 1024 1024 (m.page (t * 1024) 1024) w (H1.out.shows (t * 1024) 1024 1024 (by omega) (Nat.le_refl _) (by decide)) (by decide))
    clear hs e HSS
    go_enter Try.func32, Try.ntmps32
    go_wp2_with fail
    (with_reducible refine (HS.out _).mono ?_)
    rintro _ w1 ⟨rfl, rfl⟩
    go_wp2_with fail
    (with_reducible refine (sector_any g t ht _).mono ?_)
    rintro _ w1 ⟨rfl, rfl⟩
    go_wp2_with fail
    (with_reducible refine HC.out.mono ?_)
    rintro _ w1 ⟨A2, c2, rfl, ho, hb⟩
    have HE := Lib.hid (And.intro ho hb)
    clear ho hb
    go_wp2
    go_ret
    exact ⟨A2, 1024, c2, rfl, HE.out.1, HE.out.2⟩
  · have e : readM m s = [] := by unfold readM; rw [if_neg hs]
    rw [e]
    have HSS := fun w => hasSector_any (.pointer (some ⟨g, 0, none⟩)) s w
    rw [decide_eq_false hs] at HSS
    have HS := Lib.hid HSS
    clear hs e HSS
    go_enter Try.func32, Try.ntmps32
    go_wp2_with fail
    (with_reducible refine (HS.out _).mono ?_)
    rintro _ w1 ⟨rfl, rfl⟩
    go_wp2
    go_ret
    exact ⟨none, 0, 0, rfl, World.ownsRow_nil _ _ _ _, Below.refl _ _⟩

set_option maxHeartbeats 400000 in
theorem stop_any (g : Nat) (m : Mem) (k : Int) (A : Option Addr) (n cap : Nat) (l : List UInt8) (w : World) (h : Fl w g m) (hk : k ≤ 9223372036854775807) (hs : Shows w w.heap.size A n cap l) (hne : ∀ a, A = some a → 0 < n → a.block ≠ g) (hn : n ≤ 10000000000) :
    Calls Try.prog 27 #[.pointer (some ⟨g, 0, none⟩), .int .i64 k, .slice A n cap] w fun e w' => e = .returned (.tuple #[]) ∧ Fl w' g (stopM m k l) ∧ w.grownBy w' (some g) := by
  have HA := Lib.hid (arm_any g m k A n cap l w h hk hs hne hn)
  clear h hk hs hne hn
  go_enter Try.func27, Try.ntmps27
  go_wp2_with fail
  (with_reducible refine HA.out.mono ?_)
  rintro _ w1 ⟨rfl, hf, hg⟩
  have HE := Lib.hid (And.intro hf hg)
  clear hf hg
  go_wp2
  exact bodyPost_end (results_none rfl _ _ _) rfl ⟨rfl, HE.out.1, HE.out.2⟩
set_option maxHeartbeats 400000 in
theorem start_any (g : Nat) (m : Mem) (w : World) (h : Fl w g m) :
    Calls Try.prog 29 #[.pointer (some ⟨g, 0, none⟩)] w fun e w' => e = .returned (.tuple #[]) ∧ Fl w' g (startM m) ∧ w.grownBy w' (some g) := by
  have HA := Lib.hid (restore_any g m w h)
  clear h
  go_enter Try.func29, Try.ntmps29
  go_wp2_with fail
  (with_reducible refine HA.out.mono ?_)
  rintro _ w1 ⟨rfl, hf, hg⟩
  have HE := Lib.hid (And.intro hf hg)
  clear hf hg
  go_wp2
  exact bodyPost_end (results_none rfl _ _ _) rfl ⟨rfl, HE.out.1, HE.out.2⟩
theorem dead_any (g : Nat) (m : Mem) (w : World) (h : Fl w g m) :
    Calls Try.prog 44 #[.pointer (some ⟨g, 0, none⟩)] w fun e w' => e = .returned (.bool m.dead) ∧ w = w' := by
  obtain ⟨A0, n0, cap0, hr, ho⟩ := h.spot
  have c0 := hr.cell (flCells_at m (.slice A0 n0 cap0) h.size).1
  clear hr ho h
  go_enter Try.func44, Try.ntmps44
  go_wp2
  go_ret
  exact ⟨rfl, rfl⟩
theorem ops_any (g : Nat) (m : Mem) (w : World) (h : Fl w g m) :
    Calls Try.prog 31 #[.pointer (some ⟨g, 0, none⟩)] w fun e w' => e = .returned (.int .i64 m.ops) ∧ w = w' := by
  obtain ⟨A0, n0, cap0, hr, ho⟩ := h.spot
  have c0 := hr.cell (flCells_at m (.slice A0 n0 cap0) h.size).2.1
  clear hr ho h
  go_enter Try.func31, Try.ntmps31
  go_wp2
  go_ret
  exact ⟨rfl, rfl⟩
end Go.Proofs.Ytolpiklhnafnbaa
