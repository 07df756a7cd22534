/- What chapter 5's laws share: their known example. -/
import Derived.Test.YtolpiklhnafnbaaRecAppend
import Derived.Test.YtolpiklhnafnbaaRecMem
namespace Go.Proofs.Ytolpiklhnafnbaa
set_option maxRecDepth 100000
open Go.RowKit Wd Fm

theorem good_load {m : Mem} {s : Nat} {l : List (List UInt8)} {free : Nat} (hs : s < 6) (hg : Good (m.page (s * 1024) 1024) l free) : loadM (readM m s) = (l, free) := by
  rw [readM_nat m s hs]
  exact hg.is
theorem map_len {ps : List Part} {l : List (List UInt8)} (h : ps.map (·.l) = l) : ps.length = l.length := by rw [← h, List.length_map]
/-- Load, of a sector that has just some records. -/
theorem load_good (g : Nat) (m : Mem) (s : Nat) (l : List (List UInt8)) (free : Nat) (w : World) (h : Fl w g m) (hs : s < 6) (hg : Good (m.page (s * 1024) 1024) l free) :
    Calls Try.prog 22 #[.pointer (some ⟨g, 0, none⟩), .int .i64 (s : Int)] w fun e w' => ∃ A cap ps, e = .returned (.tuple #[.slice A l.length cap, .int .i64 (free : Int)]) ∧ OwnParts w' w.heap.size A l.length cap ps ∧ ps.map (·.l) = l ∧ Below w.heap.size w w' := by
  refine (load_any g m s w h).mono ?_
  rintro _ w1 ⟨A, n, cap, ps, rfl, ho, hl, hb⟩
  rw [good_load hs hg] at hl ⊢
  simp only at hl
  have hn : n = l.length := by rw [← ho.len, map_len hl]
  subst hn
  exact ⟨A, cap, ps, rfl, ho, hl, hb⟩

set_option maxHeartbeats 1000000 in
theorem known5_any (w : World) : Calls Try.prog 18 #[] w fun e w' => e = .returned (.bool true) ∧ Below w.heap.size w w' := by
  obtain ⟨m1, ha, hc1, _, hg1, _⟩ := append_good (m := Mem.fresh) (s := 0) (l := []) (free := 0) calm_new (by omega) (good_fresh 0 (by omega)) [1, 2] (by simp) (by decide)
  have hg2 : Good (m1.page (0 * 1024) 1024) [[1, 2]] 1 := hg1
  have HA := Lib.hid (And.intro ha (And.intro hc1 hg2))
  clear ha hc1 hg1 hg2
  have hp10 : pagesZ 10 = 1 := by decide
  have hp11 : pagesZ 11 = 2 := by decide
  have HP := Lib.hid (And.intro hp10 hp11)
  clear hp10 hp11
  go_enter Try.func18, Try.ntmps18
  go_wp2_with fail
  (with_reducible refine (new_any _).mono ?_)
  rintro _ w1 ⟨rfl, hf, hb⟩
  obtain ⟨g, hg⟩ : ∃ g, w.heap.size = g := ⟨_, rfl⟩
  rw [hg] at hf
  rw [hg]
  have H1 := Lib.hid (And.intro hf (And.intro hg hb))
  have HL := Lib.hid (load_good g Mem.fresh 0 [] 0 w1 hf (by omega) (good_fresh 0 (by omega)))
  rw [show ((0 : Nat) : Int) = 0 from rfl] at HL
  clear hf hb hg
  go_wp2_with fail
  (with_reducible refine HL.out.mono ?_)
  rintro _ w2 ⟨A, cap, ps, rfl, _, _, hb⟩
  have f2 := (H1.out.1.below hb).below (below_new (Below.refl _ _) (.cells #[.int .u8 1, .int .u8 2] 5))
  have b2 := below_new (step_below H1.out.2.2 hb) (.cells #[.int .u8 1, .int .u8 2] 5)
  have hlit : Shows (w2.alloc (.cells #[.int .u8 1, .int .u8 2] 5)) (w2.alloc (.cells #[.int .u8 1, .int .u8 2] 5)).heap.size (some ⟨w2.heap.size, 0, none⟩) 2 2 [1, 2] := lit_shows w2 [1, 2] (by simp)
  have HAP := Lib.hid (append_any g Mem.fresh 0 _ 2 2 [1, 2] _ f2 hlit (by omega))
  rw [show ((0 : Nat) : Int) = 0 from rfl] at HA
  rw [HA.out.1] at HAP
  have H2 := Lib.hid b2
  clear hb f2 b2 hlit HL
  go_wp2_with fail
  (with_reducible refine HAP.out.mono ?_)
  rintro _ w3 ⟨rfl, hf, hgr⟩
  have b3 := step_grow H2.out hgr (by have := H1.out.2.1; omega)
  have HL := Lib.hid (load_good g m1 0 [[1, 2]] 1 w3 hf (by omega) HA.out.2.2)
  rw [show ((0 : Nat) : Int) = 0 from rfl, show ([[1, 2]] : List (List UInt8)).length = 1 from rfl, show ((1 : Nat) : Int) = 1 from rfl] at HL
  have H3 := Lib.hid b3
  clear hf hgr b3 HAP
  go_wp2_with fail
  (with_reducible refine HL.out.mono ?_)
  rintro _ w4 ⟨A2, cap2, ps2, rfl, _, _, hb⟩
  have H4 := Lib.hid (step_below H3.out hb)
  clear hb HL
  go_wp2_with fail
  (with_reducible refine (pages_any _ _).mono ?_)
  rintro _ w5 ⟨rfl, rfl⟩
  rw [HP.out.1]
  go_wp2_with fail
  (with_reducible refine (pages_any _ _).mono ?_)
  rintro _ w5 ⟨rfl, rfl⟩
  rw [HP.out.2]
  go_wp2
  go_ret
  exact ⟨rfl, H4.out⟩
end Go.Proofs.Ytolpiklhnafnbaa
