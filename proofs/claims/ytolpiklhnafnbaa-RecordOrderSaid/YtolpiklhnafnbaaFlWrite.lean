/- Package flash: contracts of write, Erase and Program. -/
import Derived.Test.YtolpiklhnafnbaaFlOps
namespace Go.Proofs.Ytolpiklhnafnbaa
set_option maxRecDepth 100000
open Go.RowKit Wd Fm

theorem flCells_lay (m : Mem) (v : Value) (h : m.B.length = 6144) (o : Nat) (N : List UInt8) (hn : o + N.length ≤ 6144) : splice (flCells m v) o (bc N) = flCells { m with B := lay m.B o N } v := by
  have hl : (bc m.B).length = 6144 := by rw [bc_len, h]
  unfold splice flCells lay
  rw [List.take_append_of_le_length (by omega), List.drop_append_of_le_length (by rw [bc_len]; omega), bc_len]
  simp only [bc_app, List.append_assoc]
  congr 1
  · unfold bc; rw [List.map_take]
  · congr 1
    unfold bc; rw [List.map_drop]

set_option maxHeartbeats 800000 in
theorem write_any (g o n cap G cap2 : Nat) (m : Mem) (N : List UInt8) (w : World) (h : Fl w g m) (hN : Shows w w.heap.size (some ⟨G, 0, none⟩) n cap2 N) (hG : G ≠ g) (hn : o + n ≤ 6144) (hn0 : 0 < n) :
    Calls Try.prog 42 #[.pointer (some ⟨g, 0, none⟩), .slice (some ⟨g, o, none⟩) n cap, .slice (some ⟨G, 0, none⟩) n cap2] w fun e w' => e = .returned (.int .i64 (writeM m o N).1) ∧ Fl w' g (writeM m o N).2 ∧ w.grownBy w' (some g) := by
  have hNl := hN.len
  have HSP := Lib.hid (spend_any g m w h)
  have hsz := h.size
  have H1 := Lib.hid (And.intro h hN)
  by_cases hl : m.left = 1
  · have hw : writeM m o N = (14, ⟨lay m.B o (mixL (m.page o n) N m.mask), true, wrap64 (m.ops + 1), 0, []⟩) := by simp [writeM, hl, hNl]
    rw [hw]
    have HL := Lib.hid (And.intro hl hNl)
    clear hw h hN hl hNl
    go_enter Try.func42, Try.ntmps42
    go_wp2_with fail
    (with_reducible refine HSP.out.mono ?_)
    rintro _ w1 ⟨hg1, hor⟩
    rcases hor with ⟨h0, _⟩ | ⟨_, A, n3, cap3, rfl, ho, hF⟩
    · exact absurd HL.out.1 h0
    have hn3 : n3 ≤ 1024 := by have := ho.1; rw [bc_len] at this; have := H1.out.1.few; omega
    have hf := hF
    obtain ⟨A4, n4, cap4, hr4, _⟩ := hF.spot
    have HB := Lib.hid (blend_any g o n cap G cap2 A n3 cap3 _ N m.mask w1 hf ((H1.out.2.apart hg1 (fun a ha _ => by injection ha with ha; subst ha; exact hG)).more hg1.size) hG (Shows.of_own ho)
      (fun a ha _ e => own_other ho hr4 ty_ne a.block (by rw [ha]; rfl) (by rw [e])) hn hn0 (by omega))
    have HG1 := Lib.hid hg1
    clear hg1 ho hF hf hr4 hn3
    go_wp2_with fail
    (with_reducible refine HB.out.mono ?_)
    rintro _ w2 ⟨rfl, hf2, hg2⟩
    have HE := Lib.hid (And.intro hf2 (grow_trans HG1.out hg2 (.inl rfl)))
    clear hf2 hg2
    go_wp2
    go_ret
    exact ⟨rfl, HE.out.1, HE.out.2⟩
  · have hw : writeM m o N = (0, ⟨lay m.B o N, m.dead, wrap64 (m.ops + 1), max (m.left - 1) 0, m.mask⟩) := by simp [writeM, hl]
    rw [hw]
    have HL := Lib.hid (And.intro hl hNl)
    obtain ⟨i0, hi0, hz0, hz1, hz2⟩ := info_parts infoByte
    have hs1 : (Try.prog.info? 5).map (·.size) = some 1 := by rw [hi0]; simp [hz1]
    have HS1 := Lib.hid hs1
    clear hw h hN hl hNl hs1 hi0 hz0 hz1 hz2
    go_enter Try.func42, Try.ntmps42
    go_wp2_with fail
    (with_reducible refine HSP.out.mono ?_)
    rintro _ w1 ⟨hg1, hor⟩
    rcases hor with ⟨_, rfl, hF⟩ | ⟨h0, _⟩
    · obtain ⟨A4, n4, cap4, hr4, ho4⟩ := hF.spot
      have s1 := (H1.out.2.apart hg1 (fun a ha _ => by injection ha with ha; subst ha; exact hG)).more hg1.size
      obtain ⟨fg, fo, fe, _, hNc⟩ := s1.spot hn0
      injection fe with fe
      injection fe with fe fe2
      subst fe fe2
      have HX := Lib.hid (And.intro hg1 (And.intro hF (And.intro hr4 (And.intro ho4 hNc))))
      clear hg1 hF hr4 ho4 s1 hNc
      go_wp2_with (refine wpList_copy_own rfl (.tmp 21) (.tmp 22) 29 29 rfl 5 Try.underlying29 HS1.out g o n cap ⟨G, 0, none⟩ n cap2 rfl rfl _ _ HX.out.2.2.1 (bc N) ?c1 ?c2 ?c3 (bc_one N) ?_)
      case c1 => rw [bc_len, HL.out.2]; exact (Nat.min_self n).symm
      case c2 =>
        intro j v hj
        obtain ⟨hj2, rfl⟩ := bc_at hj
        have := HX.out.2.2.2.2 j hj2
        rw [Addr.add_lit]
        exact this
      case c3 =>
        rw [bc_len, HL.out.2, List.size_toArray, flCells_len _ _ HX.out.2.1.size]
        omega
      obtain ⟨hg1, hF, hr4, ho4, _⟩ := HX.out
      obtain ⟨C, hC⟩ : ∃ C, splice (flCells { m with ops := wrap64 (m.ops + 1), left := max (m.left - 1) 0 } (.slice A4 n4 cap4)) o (bc N) = C := ⟨_, rfl⟩
      have r5 := setRow_heap w1 g _ C.toArray _ _ hr4
      have g5 : w1.grownBy (w1.setRow g C.toArray) (some g) := ⟨rfl, rfl, rfl, by simp [World.setRow], fun k _ hk => setRow_other w1 g k _ (fun e => hk (by rw [e]))⟩
      have e5 := flCells_lay { m with ops := wrap64 (m.ops + 1), left := max (m.left - 1) 0 } (.slice A4 n4 cap4) hF.size o N (by rw [HL.out.2]; exact hn)
      rw [hC] at e5
      have o5 := grow_own ho4 g5 (own_other ho4 hr4 ty_ne)
      have hR : Row (w1.setRow g C.toArray) g 64 (flCells ⟨lay m.B o N, m.dead, wrap64 (m.ops + 1), max (m.left - 1) 0, m.mask⟩ (.slice A4 n4 cap4)) := by
        unfold Row
        rw [← e5]
        exact r5
      have hFin : Fl (w1.setRow g C.toArray) g ⟨lay m.B o N, m.dead, wrap64 (m.ops + 1), max (m.left - 1) 0, m.mask⟩ :=
        ⟨by show (lay m.B o N).length = 6144; rw [lay_len _ _ _ (by rw [HL.out.2, hsz]; exact hn), hsz], hF.l0, hF.l1, hF.few, A4, n4, cap4, hR, o5⟩
      have HE := Lib.hid (And.intro hFin (grow_trans hg1 g5 (.inl rfl)))
      rw [← hC] at HE
      clear hg1 hF hr4 ho4 r5 g5 e5 o5 hR hFin hC
      go_ret
      exact ⟨rfl, HE.out.1, HE.out.2⟩
    · exact absurd h0 HL.out.1
end Go.Proofs.Ytolpiklhnafnbaa
