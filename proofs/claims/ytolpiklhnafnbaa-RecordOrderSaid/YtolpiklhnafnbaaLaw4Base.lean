/- What chapter 4's laws share: their known example, and a number taken within a bound. -/
import Derived.Test.YtolpiklhnafnbaaFlNew
import Derived.Test.YtolpiklhnafnbaaFlMath2
namespace Go.Proofs.Ytolpiklhnafnbaa
set_option maxRecDepth 100000
open Go.RowKit Wd Fm

theorem ret_int4 {k : IntKind} {a b : Int} (h : a = b) : Ending.returned (.int k a) = .returned (.int k b) := by rw [h]
theorem within4_any (x n : Int) (w : World) (hn : 0 < n) (hm : n ≤ 1000000) :
    Calls Try.prog 34 #[.int .i64 x, .int .i64 n] w fun e w' => e = .returned (.int .i64 (x % n)) ∧ w = w' := by
  have hf := tmod_fix x n hn
  have HF := Lib.hid hf
  have hlo : -n < x.tmod n := Int.lt_tmod_of_pos x hn
  have hhi : x.tmod n < n := Int.tmod_lt_of_pos x hn
  clear hf
  by_cases hs : x.tmod n < 0
  · go_enter Try.func34, Try.ntmps34
    go_wp2
    go_ret
    exact ⟨ret_int4 (by rw [← HF.out, if_pos hs]), rfl⟩
  · go_enter Try.func34, Try.ntmps34
    go_wp2
    go_ret
    exact ⟨ret_int4 (by rw [← HF.out, if_neg (by omega)]), rfl⟩

/-- A literal of bytes in a block of its own. -/
theorem lit_shows (w : World) (l : List UInt8) (h : l.length ≤ 100000) : Shows (w.alloc (.cells (bc l).toArray 5)) (w.alloc (.cells (bc l).toArray 5)).heap.size (some ⟨w.heap.size, 0, none⟩) l.length l.length l := by
  have := shows_cells w 5 (0, 0) l h
  simpa using this

theorem lit_one (w : World) (z : Int) (c : UInt8) (h : (c.toNat : Int) = z) : Shows (w.alloc (.cells #[.int .u8 z] 5)) (w.alloc (.cells #[.int .u8 z] 5)).heap.size (some ⟨w.heap.size, 0, none⟩) 1 1 [c] := by
  subst h
  exact lit_shows w [c] (by simp)
def exM : Mem := ⟨lay Mem.fresh.B 0 (padded [15]), false, 1, 0, []⟩
theorem ex_one : programM Mem.fresh 0 0 [15] = (0, exM) := by
  have h := program_blank (m := Mem.fresh) (s := 0) (p := 0) (b := [15]) rfl (by decide) (by decide) (by decide) rfl (fun i hi => fresh_at _ (by omega))
  rw [show wrap64 (Mem.fresh.ops + 1) = 1 by decide +kernel] at h
  exact h
theorem ex_two : programM exM 0 0 [255] = (13, exM) := by
  refine programM_set (s := 0) (p := 0) rfl (by decide) (by decide) (by decide) ?_
  have : exM.page (0 * 1024 + 0 * 16) 16 = padded [15] := page_lay exM Mem.fresh.B 0 (padded [15]) rfl (by rw [fresh_len]; decide)
  rw [this]
  decide
theorem ex_read : (readM exM 0).length = 1024 ∧ (readM exM 0).getD 0 0 = 15 := by
  have hl : exM.B.length = 6144 := (lay_len _ _ _ (by rw [fresh_len]; decide)).trans fresh_len
  have e : readM exM 0 = exM.page 0 1024 := rfl
  rw [e]
  refine ⟨page_len _ _ _ (by rw [hl]; decide), ?_⟩
  rw [page_at _ _ _ _ (by decide)]
  show (lay Mem.fresh.B 0 (padded [15])).getD 0 0 = 15
  rw [lay_at _ _ _ (by rw [fresh_len]; decide), if_pos (by decide)]
  decide
theorem fresh_read : (readM Mem.fresh 0).length = 1024 := by
  have e : readM Mem.fresh 0 = Mem.fresh.page 0 1024 := rfl
  rw [e]
  exact page_len _ _ _ (by rw [fresh_len]; decide)

set_option maxHeartbeats 800000 in
theorem known4_any (w : World) : Calls Try.prog 11 #[] w fun e w' => e = .returned (.bool true) ∧ Below w.heap.size w w' := by
  go_enter Try.func11, Try.ntmps11
  go_wp2_with fail
  (with_reducible refine (new_any _).mono ?_)
  rintro _ w1 ⟨rfl, hf, hb⟩
  obtain ⟨g, hg⟩ : ∃ g, w.heap.size = g := ⟨_, rfl⟩
  rw [hg] at hf
  rw [hg]
  have H1 := Lib.hid (And.intro hf (And.intro hg hb))
  clear hf hb hg
  go_wp2_with fail
  (with_reducible refine (read_any g Mem.fresh _ _ H1.out.1).mono ?_)
  rintro _ w2 ⟨A, n, cap, rfl, ho, hb⟩
  have hn : n = 1024 := by have := ho.1; rw [bc_len] at this; have h2 := fresh_read; omega
  subst hn
  have f2 := (H1.out.1.below hb).below (below_new (Below.refl _ _) (.cells #[.int .u8 15] 5))
  have b2 := below_new (step_below H1.out.2.2 hb) (.cells #[.int .u8 15] 5)
  have H2 := Lib.hid (And.intro f2 b2)
  clear ho hb f2 b2
  go_wp2_with fail
  (with_reducible refine (program_any g Mem.fresh 0 0 _ _ _ [15] _ H2.out.1 (lit_one w2 15 15 rfl) (by decide)).mono ?_)
  rintro _ w3 ⟨rfl, hf, hgr⟩
  rw [ex_one] at hf ⊢
  have f3 := hf.below (below_new (Below.refl _ _) (.cells #[.int .u8 255] 5))
  have b3 := below_new (step_grow H2.out.2 hgr (by have := H1.out.2.1; omega)) (.cells #[.int .u8 255] 5)
  have H3 := Lib.hid (And.intro f3 b3)
  clear hf hgr f3 b3
  go_wp2_with fail
  (with_reducible refine (program_any g exM 0 0 _ _ _ [255] _ H3.out.1 (lit_one w3 255 255 rfl) (by decide)).mono ?_)
  rintro _ w4 ⟨rfl, hf, hgr⟩
  rw [ex_two] at hf ⊢
  have H4 := Lib.hid (And.intro hf (step_grow H3.out.2 hgr (by have := H1.out.2.1; omega)))
  clear hf hgr
  go_wp2_with fail
  (with_reducible refine (read_any g exM _ _ H4.out.1).mono ?_)
  rintro _ w5 ⟨A5, n5, cap5, rfl, ho, hb⟩
  have hn : n5 = 1024 := by have := ho.1; rw [bc_len] at this; have h2 := ex_read.1; omega
  subst hn
  have c0 : ∃ x y, A5 = some ⟨x, y, none⟩ ∧ w5.cell? ⟨x, y, none⟩ = some (.int .u8 15) := by
    obtain ⟨x, y, e, _, h⟩ := (Shows.of_own ho).cells (by decide)
    have := h 0 (by decide)
    rw [ex_read.2, Nat.add_zero] at this
    exact ⟨x, y, e, this⟩
  obtain ⟨x, y, rfl, hc⟩ := c0
  have H5 := Lib.hid (And.intro (H4.out.1.below hb) (step_below H4.out.2 hb))
  clear ho hb
  go_wp2_with fail
  (with_reducible refine (ops_any g exM _ H5.out.1).mono ?_)
  rintro _ w6 ⟨rfl, rfl⟩
  have ho : exM.ops = 1 := rfl
  go_wp2
  go_ret
  exact ⟨rfl, H5.out.2⟩
end Go.Proofs.Ytolpiklhnafnbaa
