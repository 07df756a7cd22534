/- Package flash: contracts of its power, and of where pages are. -/
import Derived.Test.YtolpiklhnafnbaaFlash
namespace Go.Proofs.Ytolpiklhnafnbaa
set_option maxRecDepth 100000
open Go.RowKit Wd Fm

theorem grow_set {w w' : World} {g : Nat} (h : w.grownBy w' (some g)) (i : Nat) (v : Value) : w.grownBy (w'.setCell ⟨g, i, none⟩ v) (some g) :=
  ⟨h.os, h.tape, h.output, by simpa using h.size, fun k hk hne => (heap_setCell_other w' _ k v (fun e => hne (by rw [e]))).trans (h.block k hk hne)⟩
theorem own_set {w : World} {g i base n m c : Nat} {e T : TypeId} {A : Option Addr} {xs : List Value} {cs : List Value} (v : Value) (h : w.ownsRow base e 1 (.slice A m c) n xs) (hr : Row w g T cs) (hT : T ≠ e) : (w.setCell ⟨g, i, none⟩ v).ownsRow base e 1 (.slice A m c) n xs :=
  grow_own h (grow_set (grow_refl w (some g)) i v) (fun k hk e => own_other h hr hT k hk e)
theorem Wd.Shows.apart {w w' : World} {B g n cap : Nat} {A : Option Addr} {l : List UInt8} (h : Shows w B A n cap l) (hg : w.grownBy w' (some g)) (hne : ∀ a, A = some a → 0 < n → a.block ≠ g) : Shows w' B A n cap l :=
  ⟨h.len, h.le, h.top, fun hn => by
    obtain ⟨b, o, e, hb, hc⟩ := h.spot hn
    exact ⟨b, o, e, hb, fun j hj => hg.cell (hc j hj) (fun e2 => hne _ e hn (by injection e2))⟩⟩
theorem ty_ne : 64 ≠ 5 := by decide

theorem page_any (g : Nat) (s p : Nat) (hs : s < 6) (hp : p < 64) (w : World) :
    Calls Try.prog 39 #[.pointer (some ⟨g, 0, none⟩), .int .i64 (s : Int), .int .i64 (p : Int)] w fun e w' => e = .returned (.slice (some ⟨g, s * 1024 + p * 16, none⟩) 16 (1024 - p * 16)) ∧ w = w' := by
  have HS := Lib.hid (sector_any g s hs w)
  have h1 : ¬ 1024 = p * 16 := by omega
  have h2 : p * 16 ≤ 1024 := by omega
  have h3 : (p : Int) * 16 = ((p * 16 : Nat) : Int) := by omega
  have c1 : ∀ W : World, (Instr.sliceAt 29 (.slice (some ⟨g, s * 1024, none⟩) 1024 1024) (some (.int .i64 ((p : Int) * 16))) none none).run Try.prog W = .ok (.slice (some ⟨g, s * 1024 + p * 16, none⟩) (1024 - p * 16) (1024 - p * 16)) W := fun W => by
    rw [h3, cut_lo W _ 1024 1024 (p * 16) h2, if_neg h1, Option.map_some, Addr.add_lit]
  have c2 : ∀ W : World, (Instr.sliceAt 29 (.slice (some ⟨g, s * 1024 + p * 16, none⟩) (1024 - p * 16) (1024 - p * 16)) none (some (.int .i64 16)) none).run Try.prog W = .ok (.slice (some ⟨g, s * 1024 + p * 16, none⟩) 16 (1024 - p * 16)) W := fun W => cut_hi W _ _ _ 16 (by omega)
  clear h3
  go_enter Try.func39, Try.ntmps39
  go_wp2_with ((with_reducible refine HS.out.mono ?_); rintro _ w1 ⟨rfl, rfl⟩)
  go_ret
  exact ⟨rfl, rfl⟩

set_option maxHeartbeats 400000 in
theorem blank_any (n : Nat) (hn : 1 ≤ n) (hm : n ≤ 8192) (w : World) :
    Calls Try.prog 40 #[.int .i64 (n : Int)] w fun e w' => ∃ (G : Nat) (r : List Value), e = .returned (.slice (some ⟨G, 0, none⟩) n n) ∧ w.heap.size ≤ G ∧ Row w' G 5 (bc (List.replicate n 255) ++ r) ∧ Below w.heap.size w w' := by
  have HR := Lib.hid (repeat_any 255 w.heap.size 1 n (w.alloc (.cells #[.int .u8 255] 5)) (by
    have := heap_alloc_new w (.cells #[.int .u8 255] 5)
    rw [cell_of_row _ _ _ _ _ (0, 0) this]; rfl) (by decide) hn hm)
  go_enter Try.func40, Try.ntmps40
  go_wp2_with fail
  (with_reducible refine HR.out.mono ?_)
  rintro _ w1 ⟨r, rfl, hr, hb⟩
  have hb0 : Below w.heap.size w w1 := ((Below.refl w.heap.size w).alloc (Nat.le_refl _) _).trans (hb.mono (by simp))
  have hz : (w.alloc (.cells #[.int .u8 255] 5)).heap.size = w.heap.size + 1 := by simp
  rw [hz] at hr
  have H := Lib.hid (And.intro hr hb0)
  clear hr hb hb0 hz HR
  go_wp2
  go_ret
  exact ⟨_, r, by simp [Array.getD], by omega, H.out.1, H.out.2⟩

set_option maxHeartbeats 400000 in
theorem disarm_any (g : Nat) (m : Mem) (w : World) (h : Fl w g m) :
    Calls Try.prog 67 #[.pointer (some ⟨g, 6144, none⟩)] w fun e w' => e = .returned (.tuple #[]) ∧ Fl w' g { m with left := 0, mask := [] } ∧ w.grownBy w' (some g) := by
  obtain ⟨A, n, cap, hr, ho⟩ := h.spot
  obtain ⟨a0, a1, a2, a3⟩ := flCells_at m (.slice A n cap) h.size
  have c2 := hr.cell a2
  have c3 := hr.cell a3
  have f2 := hr.frozen 6146
  have f3 := hr.frozen 6147
  have r1 := (hr.set 6146 (.int .i64 0)).set 6147 (.slice none 0 0)
  rw [(flCells_set m (.slice A n cap) (.slice none 0 0) h.size false 0).2.2.1] at r1
  rw [(flCells_set { m with left := 0 } (.slice A n cap) (.slice none 0 0) h.size false 0).2.2.2] at r1
  have HH := Lib.hid (And.intro h r1)
  clear hr ho h r1 a0 a1 a2 a3
  go_enter Try.func67, Try.ntmps67
  go_wp2
  exact bodyPost_end (results_none rfl _ _ _) rfl ⟨rfl, ⟨HH.out.1.size, Int.le_refl _, (show (0 : Int) ≤ 9223372036854775807 by decide), by simp, none, 0, 0, HH.out.2, World.ownsRow_nil _ _ _ _⟩, grow_set (grow_set (grow_refl w _) _ _) _ _⟩

set_option maxHeartbeats 400000 in
theorem restore_any (g : Nat) (m : Mem) (w : World) (h : Fl w g m) :
    Calls Try.prog 54 #[.pointer (some ⟨g, 6144, none⟩)] w fun e w' => e = .returned (.tuple #[]) ∧ Fl w' g (startM m) ∧ w.grownBy w' (some g) := by
  obtain ⟨A, n, cap, hr, ho⟩ := h.spot
  obtain ⟨a0, _, _, _⟩ := flCells_at m (.slice A n cap) h.size
  have c0 := hr.cell a0
  have f0 := hr.frozen 6144
  have r1 := hr.set 6144 (.bool false)
  rw [(flCells_set m (.slice A n cap) (.slice none 0 0) h.size false 0).1] at r1
  have h1 : Fl (w.setCell ⟨g, 6144, none⟩ (.bool false)) g { m with dead := false } := ⟨h.size, h.l0, h.l1, h.few, A, n, cap, r1, own_set _ ho hr ty_ne⟩
  have HD := Lib.hid (disarm_any g _ _ h1)
  clear hr ho h r1 a0 h1
  go_enter Try.func54, Try.ntmps54
  go_wp2_with fail
  (with_reducible refine HD.out.mono ?_)
  rintro _ w1 ⟨rfl, h2, hg⟩
  have H2 := Lib.hid (And.intro h2 (grow_trans (grow_set (grow_refl w (some g)) 6144 (.bool false)) hg (.inl rfl)))
  clear h2 hg
  go_wp2
  exact bodyPost_end (results_none rfl _ _ _) rfl ⟨rfl, H2.out.1, H2.out.2⟩

set_option maxHeartbeats 400000 in
theorem arm_any (g : Nat) (m : Mem) (k : Int) (A : Option Addr) (n cap : Nat) (l : List UInt8) (w : World) (h : Fl w g m) (hk : k ≤ 9223372036854775807) (hs : Shows w w.heap.size A n cap l) (hne : ∀ a, A = some a → 0 < n → a.block ≠ g) (hn : n ≤ 10000000000) :
    Calls Try.prog 53 #[.pointer (some ⟨g, 6144, none⟩), .int .i64 k, .slice A n cap] w fun e w' => e = .returned (.tuple #[]) ∧ Fl w' g (stopM m k l) ∧ w.grownBy w' (some g) := by
  have HD := Lib.hid (disarm_any g m w h)
  have hl := hs.len
  have hcap := hs.le
  have HH := Lib.hid (And.intro h hs)
  by_cases h0 : 0 < k
  · have hst : stopM m k l = { m with left := k, mask := l.take 1024 } := by simp [stopM, h0]
    obtain ⟨t, ht⟩ : ∃ t, Nat.min n 1024 = t := ⟨_, rfl⟩
    have htn : t ≤ n := by rw [← ht]; exact Nat.min_le_left _ _
    have ht2 : t ≤ 1024 := by rw [← ht]; exact Nat.min_le_right _ _
    have hmin : min (n : Int) 1024 = (t : Int) := by rw [← ht]; simp only [Nat.min_def]; split <;> omega
    have hlt : l.take 1024 = l.take t := by
      rw [← ht]
      simp only [Nat.min_def]
      split
      · rw [List.take_of_length_le (by omega), List.take_of_length_le (by omega)]
      · rfl
    rw [hst, hlt]
    clear h hs hst hlt ht
    go_enter Try.func53, Try.ntmps53
    go_wp2_with fail
    (with_reducible refine HD.out.mono ?_)
    rintro _ w1 ⟨rfl, h1, hg1⟩
    have s1 := (HH.out.2.apart hg1 hne).more hg1.size
    obtain ⟨A1, n1, cap1, r1, o1⟩ := h1.spot
    obtain ⟨_, _, a2, _⟩ := flCells_at { m with left := 0, mask := [] } (.slice A1 n1 cap1) h1.size
    have c2 := r1.cell a2
    have f2 := r1.frozen 6146
    have r2 := r1.set 6146 (.int .i64 k)
    rw [(flCells_set { m with left := 0, mask := [] } (.slice A1 n1 cap1) (.slice none 0 0) h1.size false k).2.2.1] at r2
    have g2 := grow_set hg1 6146 (.int .i64 k)
    have s2 : Shows (w1.setCell ⟨g, 6146, none⟩ (.int .i64 k)) w1.heap.size A n cap l := s1.apart (grow_set (grow_refl w1 (some g)) _ _) hne
    have hcut : ∀ W : World, (Instr.sliceAt 29 (.slice A n cap) none (some (.int .i64 (t : Int))) none).run Try.prog W = .ok (.slice A t cap) W := fun W => cut_hi W A n cap t (by omega)
    have hz : (w1.setCell ⟨g, 6146, none⟩ (.int .i64 k)).heap.size = w1.heap.size := by simp
    have HC := Lib.hid (clone_own A t cap (l.take t) (w1.setCell ⟨g, 6146, none⟩ (.int .i64 k)) (by rw [hz]; exact s2.take htn) (by omega))
    have HR := Lib.hid (And.intro h1.size (And.intro r2 (And.intro g2 (And.intro ht2 hk))))
    clear h1 hg1 s1 r1 o1 a2 r2 g2 s2 hz htn ht2 hk
    go_wp2_with fail
    (with_reducible refine HC.out.mono ?_)
    rintro _ w2 ⟨A2, cp2, rfl, ow2, hb2⟩
    have hr := HR.out
    have r3 : Row w2 g 64 (flCells { m with left := k, mask := [] } (.slice A1 n1 cap1)) := hr.2.1.below hb2 hr.2.1.lt
    have c3 := r3.cell (flCells_at { m with left := k, mask := [] } (.slice A1 n1 cap1) hr.1).2.2.2
    have f3 := r3.frozen 6147
    have r4 := r3.set 6147 (.slice A2 t cp2)
    rw [(flCells_set { m with left := k, mask := [] } (.slice A1 n1 cap1) (.slice A2 t cp2) hr.1 false k).2.2.2] at r4
    have g4 := grow_set (grow_trans hr.2.2.1 (below_grow hb2 (some g)) (.inl rfl)) 6147 (.slice A2 t cp2)
    have o4 := own_mono (own_set (i := 6147) (.slice A2 t cp2) ow2 r3 ty_ne) (Nat.zero_le _)
    have hfin : Fl (w2.setCell ⟨g, 6147, none⟩ (.slice A2 t cp2)) g { m with left := k, mask := l.take t } :=
      ⟨hr.1, by show (0 : Int) ≤ k; omega, hr.2.2.2.2, by show (l.take t).length ≤ 1024; rw [List.length_take]; have := hr.2.2.2.1; omega, A2, t, cp2, r4, o4⟩
    have HF := Lib.hid (And.intro hfin g4)
    clear hr r3 r4 g4 o4 hfin hb2 ow2
    go_wp2
    exact bodyPost_end (results_none rfl _ _ _) rfl ⟨rfl, HF.out.1, HF.out.2⟩
  · have hst : stopM m k l = { m with left := 0, mask := [] } := by simp [stopM, h0]
    rw [hst]
    clear h hs hst
    go_enter Try.func53, Try.ntmps53
    go_wp2_with fail
    (with_reducible refine HD.out.mono ?_)
    rintro _ w1 ⟨rfl, h1, hg1⟩
    have H1 := Lib.hid (And.intro h1 hg1)
    clear h1 hg1
    go_wp2
    exact bodyPost_end (results_none rfl _ _ _) rfl ⟨rfl, H1.out.1, H1.out.2⟩

set_option maxHeartbeats 400000 in
theorem spend_any (g : Nat) (m : Mem) (w : World) (h : Fl w g m) :
    Calls Try.prog 60 #[.pointer (some ⟨g, 6144, none⟩)] w fun e w' => w.grownBy w' (some g) ∧
      ((m.left ≠ 1 ∧ e = .returned (.tuple #[.slice none 0 0, .bool false]) ∧ Fl w' g { m with ops := wrap64 (m.ops + 1), left := max (m.left - 1) 0 }) ∨
      (m.left = 1 ∧ ∃ A n cap, e = .returned (.tuple #[.slice A n cap, .bool true]) ∧ w'.ownsRow 0 5 1 (.slice A n cap) n (bc m.mask) ∧ Fl w' g { m with dead := true, ops := wrap64 (m.ops + 1), left := 0, mask := [] })) := by
  obtain ⟨A, n, cap, hr, ho⟩ := h.spot
  obtain ⟨a0, a1, a2, a3⟩ := flCells_at m (.slice A n cap) h.size
  have c0 := hr.cell a0
  have c1 := hr.cell a1
  have c2 := hr.cell a2
  have c3 := hr.cell a3
  have f0 := hr.frozen 6144
  have f1 := hr.frozen 6145
  have f2 := hr.frozen 6146
  have r1 := hr.set 6145 (.int .i64 (wrap64 (m.ops + 1)))
  rw [(flCells_set m (.slice A n cap) (.slice none 0 0) h.size false _).2.1] at r1
  have HH := Lib.hid (And.intro h (And.intro hr (And.intro ho r1)))
  have l0 := h.l0
  have l1 := h.l1
  clear h hr ho r1 a0 a1 a2 a3
  by_cases hl : m.left = 1
  · rw [hl] at c2
    have r1 := HH.out.2.2.2
    have r2 := r1.set 6144 (.bool true)
    rw [(flCells_set { m with ops := wrap64 (m.ops + 1) } (.slice A n cap) (.slice none 0 0) HH.out.1.size true 0).1] at r2
    have o2 := own_set (i := 6144) (.bool true) (own_set (i := 6145) (.int .i64 (wrap64 (m.ops + 1))) HH.out.2.2.1 HH.out.2.1 ty_ne) r1 ty_ne
    have h2 : Fl ((w.setCell ⟨g, 6145, none⟩ (.int .i64 (wrap64 (m.ops + 1)))).setCell ⟨g, 6144, none⟩ (.bool true)) g { m with dead := true, ops := wrap64 (m.ops + 1) } :=
      ⟨HH.out.1.size, l0, l1, HH.out.1.few, A, n, cap, r2, o2⟩
    have HD := Lib.hid (disarm_any g _ _ h2)
    have HO := Lib.hid (And.intro o2 r2)
    have HL := Lib.hid hl
    clear r1 r2 o2 h2 hl
    go_enter Try.func60, Try.ntmps60
    go_wp2_with fail
    (with_reducible refine HD.out.mono ?_)
    rintro _ w1 ⟨rfl, h3, hg⟩
    have o3 := grow_own HO.out.1 hg (fun k hk e => own_other HO.out.1 HO.out.2 ty_ne k hk e)
    have g3 := grow_trans (grow_set (grow_set (grow_refl w (some g)) 6145 (.int .i64 (wrap64 (m.ops + 1)))) 6144 (.bool true)) hg (.inl rfl)
    have HF := Lib.hid (And.intro g3 (And.intro o3 h3))
    clear o3 g3 h3 hg
    go_wp2
    go_ret2
    exact ⟨HF.out.1, .inr ⟨HL.out, A, n, cap, by simp [Array.getD], HF.out.2.1, HF.out.2.2⟩⟩
  · have hl2 : ¬ m.left = 1 := hl
    go_enter Try.func60, Try.ntmps60
    go_wp2
    go_ret2
    have r1 := HH.out.2.2.2
    have r2 := r1.set 6146 (.int .i64 (max (m.left - 1) 0))
    rw [(flCells_set { m with ops := wrap64 (m.ops + 1) } (.slice A n cap) (.slice none 0 0) HH.out.1.size true _).2.2.1] at r2
    have o2 := own_set (i := 6146) (.int .i64 (max (m.left - 1) 0)) (own_set (i := 6145) (.int .i64 (wrap64 (m.ops + 1))) HH.out.2.2.1 HH.out.2.1 ty_ne) r1 ty_ne
    exact ⟨grow_set (grow_set (grow_refl w (some g)) _ _) _ _, .inl ⟨hl, by simp [Array.getD], HH.out.1.size, by show (0 : Int) ≤ max (m.left - 1) 0; omega, by show max (m.left - 1) 0 ≤ 9223372036854775807; omega, HH.out.1.few, A, n, cap, r2, o2⟩⟩
end Go.Proofs.Ytolpiklhnafnbaa
