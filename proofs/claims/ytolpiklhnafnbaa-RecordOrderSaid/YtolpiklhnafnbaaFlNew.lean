/- Package flash: the contract of New. -/
import Derived.Test.YtolpiklhnafnbaaFlFace
namespace Go.Proofs.Ytolpiklhnafnbaa
set_option maxRecDepth 100000
open Go.RowKit Wd Fm

def halfB (k : Nat) : List UInt8 := List.replicate (k * 1024) 255 ++ List.replicate (6144 - k * 1024) 0
theorem halfB_len (k : Nat) (h : k ≤ 6) : (halfB k).length = 6144 := by
  unfold halfB
  rw [List.length_append, List.length_replicate, List.length_replicate]
  omega
theorem rep_next (x y : UInt8) (a n c : Nat) : lay (List.replicate a x ++ List.replicate n y) a (List.replicate c x) = List.replicate (a + c) x ++ List.replicate (n - c) y := by
  unfold lay
  rw [List.take_left' (List.length_replicate ..), List.length_replicate, List.drop_append, List.drop_eq_nil_of_le (by rw [List.length_replicate]; omega), List.length_replicate, List.nil_append, List.drop_replicate, ← List.append_assoc, List.replicate_append_replicate]
  congr 2
  omega
theorem halfB_next (k : Nat) : lay (halfB k) (k * 1024) (List.replicate 1024 255) = halfB (k + 1) := by
  have h := rep_next 255 0 (k * 1024) (6144 - k * 1024) 1024
  have e1 : k * 1024 + 1024 = (k + 1) * 1024 := by omega
  have e2 : 6144 - k * 1024 - 1024 = 6144 - (k + 1) * 1024 := by omega
  rw [e1, e2] at h
  exact h
theorem halfB_full : halfB 6 = List.replicate 6144 255 := by
  show List.replicate 6144 255 ++ List.replicate 0 0 = _
  rw [List.replicate_zero, List.append_nil]
theorem zero_any {P : Program} (t : TypeId) (v : Value) {n : Nat} (h : (P.info? t).map (fun i => (i.zero, i.size)) = some (some v, n)) (W : World) : (zeroValue t).run P W = .ok v W := by
  obtain ⟨i, hi, he⟩ := Option.map_eq_some_iff.1 h
  simp only [Prod.mk.injEq] at he
  simp [zeroValue, typeInfo, hi, he.1]
def blankCells : List Value := flCells ⟨halfB 0, false, 0, 0, []⟩ (.slice none 0 0)
theorem fl_zero : (Try.prog.info? 64).map (fun i => (i.zero, i.size)) = some (some (.agg blankCells.toArray), 6148) := by kernel_rfl

/-- Bytes that are copied into a memory's. -/
theorem fl_copy {w : World} {g : Nat} {m : Mem} {A : Option Addr} {n cap : Nat} (h : Fl w g m) (hr : Row w g 64 (flCells m (.slice A n cap))) (ho : w.ownsRow 0 5 1 (.slice A n cap) n (bc m.mask)) (o : Nat) (N : List UInt8) (hn : o + N.length ≤ 6144) :
    Fl (w.setRow g (splice (flCells m (.slice A n cap)) o (bc N)).toArray) g { m with B := lay m.B o N } ∧ w.grownBy (w.setRow g (splice (flCells m (.slice A n cap)) o (bc N)).toArray) (some g) := by
  have e5 := flCells_lay m (.slice A n cap) h.size o N hn
  obtain ⟨C, hC⟩ : ∃ C, splice (flCells m (.slice A n cap)) o (bc N) = C := ⟨_, rfl⟩
  rw [hC] at e5 ⊢
  have r5 := setRow_heap w g _ C.toArray _ _ hr
  have g5 : w.grownBy (w.setRow g C.toArray) (some g) := ⟨rfl, rfl, rfl, by simp [World.setRow], fun k _ hk => setRow_other w g k _ (fun e => hk (by rw [e]))⟩
  have o5 := grow_own ho g5 (own_other ho hr ty_ne)
  have hR : Row (w.setRow g C.toArray) g 64 (flCells { m with B := lay m.B o N } (.slice A n cap)) := by
    unfold Row
    rw [← e5]
    exact r5
  exact ⟨⟨by show (lay m.B o N).length = 6144; rw [lay_len _ _ _ (by rw [h.size]; exact hn), h.size], h.l0, h.l1, h.few, A, n, cap, hR, o5⟩, g5⟩

set_option maxHeartbeats 400000 in
theorem clear_any (g : Nat) (w : World) (h : Fl w g ⟨halfB 0, false, 0, 0, []⟩) :
    Calls Try.prog 33 #[.pointer (some ⟨g, 0, none⟩)] w fun e w' => e = .returned (.tuple #[]) ∧ Fl w' g Mem.fresh ∧ w.grownBy w' (some g) := by
  obtain ⟨i0, hi0, hz0, hz1, hz2⟩ := info_parts infoByte
  have hs1 : (Try.prog.info? 5).map (·.size) = some 1 := by rw [hi0]; simp [hz1]
  have HS1 := Lib.hid hs1
  have HBL := Lib.hid (blank_any 1024 (by decide) (by decide))
  rw [show ((1024 : Nat) : Int) = 1024 from rfl] at HBL
  have hnx := halfB_next
  obtain ⟨F, hF⟩ : ∃ F : List UInt8, List.replicate 1024 255 = F := ⟨_, rfl⟩
  have hFl : F.length = 1024 := by rw [← hF, List.length_replicate]
  rw [hF] at HBL hnx
  have HN := Lib.hid (And.intro hnx hFl)
  have H1 := Lib.hid h
  clear hnx hF hFl h hs1 hi0 hz0 hz1 hz2
  go_enter Try.func33, Try.ntmps33
  go_wp2_with fail
  go_loopw [3] (fun i wr => ∃ k : Nat, k ≤ 6 ∧ i = .int .i64 k ∧ Fl wr g ⟨halfB k, false, 0, 0, []⟩ ∧ w.grownBy wr (some g)) (fun i _ => 6 - (intOf i).toNat)
  case atStart => exact ⟨0, by omega, rfl, H1.out, grow_refl _ _⟩
  case round =>
    obtain ⟨k, hk, rfl, hF, hg⟩ := hrel
    have HF := Lib.hid (And.intro hF hg)
    clear hF hg
    by_cases hlt : k < 6
    · have hki : (k : Int) < 6 := by omega
      go_wp2_with fail
      (with_reducible refine (sector_any g k hlt _).mono ?_)
      rintro _ w1 ⟨rfl, rfl⟩
      go_wp2_with fail
      (with_reducible refine (HBL.out _).mono ?_)
      rintro _ w1 ⟨G, r, rfl, hG, hr, hb⟩
      have f1 := HF.out.1.below hb
      obtain ⟨A4, n4, cap4, hr4, ho4⟩ := f1.spot
      have HX := Lib.hid (And.intro hr (And.intro hb (And.intro f1 (And.intro hr4 ho4))))
      clear hG hr hb f1 hr4 ho4
      go_wp2_with (refine wpList_copy_own rfl (.tmp 8) (.tmp 9) 29 29 rfl 5 Try.underlying29 HS1.out g (k * 1024) 1024 1024 ⟨G, 0, none⟩ 1024 1024 rfl rfl _ _ HX.out.2.2.2.1 (bc F) ?c1 ?c2 ?c3 (bc_one _) ?_)
      case c1 => rw [bc_len, HN.out.2]; rfl
      case c2 =>
        intro j v hj
        rw [Addr.add_lit, Nat.zero_add]
        have hj2 := (List.getElem?_eq_some_iff.1 hj).1
        exact HX.out.1.cell (by rw [List.getElem?_append_left hj2]; exact hj)
      case c3 =>
        rw [bc_len, HN.out.2, List.size_toArray, flCells_len _ _ HX.out.2.2.1.size]
        omega
      obtain ⟨hr, hb, f1, hr4, ho4⟩ := HX.out
      obtain ⟨f2, g2⟩ := fl_copy f1 hr4 ho4 (k * 1024) F (by rw [HN.out.2]; omega)
      have f3 : Fl (w1.setRow g (splice (flCells ⟨halfB k, false, 0, 0, []⟩ (.slice A4 n4 cap4)) (k * 1024) (bc F)).toArray) g ⟨halfB (k + 1), false, 0, 0, []⟩ := by
        rw [← HN.out.1 k]
        exact f2
      exact ⟨⟨k + 1, by omega, by go_num, f3, grow_trans (grow_trans HF.out.2 (below_grow hb (some g)) (.inl rfl)) g2 (.inl rfl)⟩, by simp [intOf]; omega⟩
    · have hk6 : k = 6 := by omega
      subst hk6
      have hf : Fl wr g Mem.fresh := by
        have := HF.out.1
        rw [halfB_full] at this
        exact this
      have HE := Lib.hid (And.intro hf HF.out.2)
      clear hf HF
      go_wp2
      exact bodyPost_end (results_none rfl _ _ _) rfl ⟨rfl, HE.out.1, HE.out.2⟩

set_option maxHeartbeats 400000 in
theorem new_any (w : World) :
    Calls Try.prog 13 #[] w fun e w' => e = .returned (.pointer (some ⟨w.heap.size, 0, none⟩)) ∧ Fl w' w.heap.size Mem.fresh ∧ Below w.heap.size w w' := by
  obtain ⟨C, hC⟩ : ∃ C, blankCells = C := ⟨_, rfl⟩
  have hz : ∀ W : World, (zeroValue 64).run Try.prog W = .ok (.agg C.toArray) W := by
    rw [← hC]
    exact zero_any _ _ fl_zero
  have r0 : Row (w.alloc (.cells C.toArray 64)) w.heap.size 64 (flCells ⟨halfB 0, false, 0, 0, []⟩ (.slice none 0 0)) := by
    rw [← hC]
    exact Row.new w _ _
  have f0 : Fl (w.alloc (.cells C.toArray 64)) w.heap.size ⟨halfB 0, false, 0, 0, []⟩ := ⟨halfB_len 0 (by omega), Int.le_refl _, (show (0 : Int) ≤ 9223372036854775807 by decide), by simp, none, 0, 0, r0, World.ownsRow_nil _ _ _ _⟩
  have HC := Lib.hid (clear_any _ _ f0)
  have HB := Lib.hid ((Below.refl w.heap.size w).alloc (Nat.le_refl _) (.cells C.toArray 64))
  clear r0 f0 hC
  go_enter Try.func13, Try.ntmps13
  go_wp2_with fail
  (with_reducible refine HC.out.mono ?_)
  rintro _ w1 ⟨rfl, hf, hg⟩
  have HE := Lib.hid (And.intro hf (HB.out.grown hg (by simp) (by intro k hk; injection hk; omega)))
  clear hf hg
  go_wp2
  go_ret
  exact ⟨rfl, HE.out.1, HE.out.2⟩
end Go.Proofs.Ytolpiklhnafnbaa
