/- The walk of the law ShaParts: any number of parts, empty ones among them, are summed as one. -/
import Derived.Test.YtkclbhmjhjfgiaaDoorShaOne
import Derived.Laws.AppendOwn
namespace Go.Proofs.YtkclbhmjhjfgiaaDoor
open Go.RowKit Wd Nm Cm Sm

theorem infoBytes : (Tryd.prog.info? 26).map (fun i => (i.zero, i.size, i.bytes)) = some (some (.slice none 0 0), 1, 24) := by kernel_rfl
theorem cut_mid (W : World) (A : Option Addr) (n cap l h : Nat) (h1 : l ≤ h) (h2 : h ≤ cap) :
    (Instr.sliceAt 26 (.slice A n cap) (some (.int .i64 (l : Int))) (some (.int .i64 (h : Int))) none).run Tryd.prog W = .ok (.slice (if cap = l then A else A.map (·.add l)) (h - l) (cap - l)) W := by
  have hE : Tryd.prog.elem 26 = 5 := by kernel_rfl
  have hu : Tryd.prog.underlying 26 = some (.slice (Tryd.prog.elem 26)) := by rw [hE]; exact Tryd.underlying26
  obtain ⟨i0, hi0, hz0, hz1, hz2⟩ := info_parts infoByte
  rw [run_sliceAt_slice W _ _ _ _ _ hu, run_slice_lh W _ A n cap hu .i64 .i64 l h (by omega) (by omega) (by omega), hE]
  simp [sizeOf, typeInfo, hi0, hz1, Result.andThen, sliced]
/-- A piece of some bytes. -/
def cutPart (A : Option Addr) (cap : Nat) (b : List UInt8) (a m : Nat) : Part := ⟨if cap = a then A else A.map (·.add a), m, cap - a, (b.drop a).take m⟩
theorem cutPart_shows {w : World} {B : Nat} {A : Option Addr} {n cap : Nat} {b : List UInt8} (h : Shows w B A n cap b) {a m : Nat} (hm : a + m ≤ n) : Shows w B (cutPart A cap b a m).A (cutPart A cap b a m).n (cutPart A cap b a m).cap (cutPart A cap b a m).l :=
  (h.drop (show a ≤ n by omega)).take (show m ≤ n - a by omega)
/-- A row of slices of its own, as the parts that Sum is handed. -/
theorem laid_own {w w0 : World} {base n c : Nat} {A : Option Addr} {ps : List Part} (h : w.ownsRow base 26 1 (.slice A n c) n (ps.map Part.val)) (hb : Below w0.heap.size w0 w) (hs : ∀ p ∈ ps, Shows w0 w0.heap.size p.A p.n p.cap p.l) : LaidAt w w.heap.size A n ps := by
  have hl : ps.length = n := by have := h.1; rw [List.length_map] at this; omega
  refine ⟨hl, fun hn => ?_, fun p hp => ((hs p hp).below hb).more hb.size⟩
  rcases h.2 with ⟨_, h0⟩ | ⟨g, cap, cur, he, _, hg, _, _, _, ht⟩
  · omega
  · injection he with e1 _ _
    refine ⟨g, 0, e1, (Array.getElem?_eq_some_iff.1 hg).1, fun j hj => ?_⟩
    rw [cell_of_row _ _ _ _ _ (0, 0) hg, Nat.zero_add]
    have h2 : (ps.map Part.val)[j]? = some ps[j].val := by rw [List.getElem?_map, List.getElem?_eq_getElem hj]; rfl
    rw [← ht, List.getElem?_take] at h2
    split at h2
    · have h3 : cur[j]? = some ps[j].val := by simpa using h2
      exact h3
    · cases h2
theorem own_base {w : World} {base n s : Nat} {e : TypeId} {v : Value} {xs : List Value} (h : w.ownsRow base e s v n xs) : ∀ q, v.ownBlock = some q → base ≤ q := by
  intro q hq
  rcases h.2 with ⟨rfl, _⟩ | ⟨g, c, cur, rfl, hb, _⟩
  · cases hq
  · have e : g = q := by injection hq
    omega
theorem val_one (ps : List Part) : ∀ u ∈ ps.map Part.val, u.oneCell' = true := by
  intro u hu
  obtain ⟨p, _, rfl⟩ := List.mem_map.1 hu
  rfl

set_option maxRecDepth 100000 in
set_option maxHeartbeats 4000000 in
theorem shaParts_walk (A : Option Addr) (n cap : Nat) (b : List UInt8) (C : Option Addr) (nc cc : Nat) (zs : List Int) (w : World) (hT : Tables w) (hb : Shows w w.heap.size A n cap b) (hz : Lays w w.heap.size C nc cc (zs.map (Value.int .i64))) (_hw : ∀ n ∈ zs, (Lit.int .i64 n).wf = true) :
    Calls Tryd.prog 7 #[.slice A n cap, .slice C nc cc] w fun e w' => e = .returned (.bool true) ∧ Below w.heap.size w w' := by
  clear _hw
  obtain ⟨i1, hi1, hz1⟩ := Option.map_eq_some_iff.1 infoBytes
  simp only [Prod.mk.injEq] at hz1
  have hbl := hb.len
  have hbc := hb.le
  have hbt := hb.top
  have hzc := hz.le
  have hzt := hz.top
  have hzl := hz.len
  unfold maxLen at hbt hzt
  have hcell : ∀ j, j < nc → ∃ g o, C = some ⟨g, o, none⟩ ∧ g < w.heap.size ∧ w.cell? ⟨g, o + j, none⟩ = some (.int .i64 (zs.getD j 0)) := fun j hj => by
    obtain ⟨g, o, e, hg, hc⟩ := hz.spot (by omega)
    refine ⟨g, o, e, hg, ?_⟩
    rw [hc j (by omega), List.getElem_map, List.getD_eq_getElem?_getD, List.getElem?_eq_getElem (by rw [List.length_map] at hzl; omega)]
    rfl
  have HI := Lib.hid (And.intro hi1 hz1)
  have HB := Lib.hid (And.intro hb (And.intro hbl hcell))
  have HT := Lib.hid hT
  clear hb hz hbl hzl hcell hT hi1 hz1
  by_cases h300 : 300 < n
  · go_enter Tryd.func7, Tryd.ntmps7
    go_wp2_with fail
    (with_reducible refine (known3_any _ HT.out).mono ?_)
    rintro _ w1 ⟨rfl, hb1⟩
    have HB1 := Lib.hid hb1
    clear hb1
    go_wp2
    go_ret
    exact ⟨rfl, HB1.out⟩
  by_cases h20 : 20 < nc
  · go_enter Tryd.func7, Tryd.ntmps7
    go_wp2_with fail
    (with_reducible refine (known3_any _ HT.out).mono ?_)
    rintro _ w1 ⟨rfl, hb1⟩
    have HB1 := Lib.hid hb1
    clear hb1
    go_wp2
    go_ret
    exact ⟨rfl, HB1.out⟩
  go_enter Tryd.func7, Tryd.ntmps7
  go_wp2_with fail
  (with_reducible refine (known3_any _ HT.out).mono ?_)
  rintro _ w1 ⟨rfl, hb1⟩
  have HB1 := Lib.hid hb1
  clear hb1
  go_wp2_with fail
  go_loopw [5, 6, 7] (fun v a i wr => ∃ (k m : Nat) (A5 : Option Addr) (c5 : Nat) (ps : List Part), k ≤ nc ∧ m ≤ n ∧ c5 ≤ 9223372036854775807 ∧ i = .int .i64 k ∧ a = .int .i64 m ∧ v = .slice A5 k c5 ∧
    Hid (wr.ownsRow w.heap.size 26 1 (.slice A5 k c5) k (ps.map Part.val) ∧ Below w.heap.size w wr ∧ (∀ p ∈ ps, Shows w w.heap.size p.A p.n p.cap p.l) ∧ joined ps = b.take m ∧ total ps = m)) (fun _ _ i _ => nc - (intOf i).toNat)
  case atStart => exact ⟨0, 0, none, 0, [], by omega, by omega, by omega, rfl, rfl, rfl, Lib.hid ⟨World.ownsRow_nil _ _ _ _, HB1.out, (fun p h => by cases h), rfl, rfl⟩⟩
  case round =>
    obtain ⟨k, m, A5, c5, ps, hk, hm, hc5, rfl, rfl, rfl, HK⟩ := hrel
    by_cases hkN : k < nc
    · have hki : (k : Int) < (nc : Int) := by omega
      obtain ⟨zg, zo, rfl, hzg, hc⟩ := HB.out.2.2 k hkN
      have hc2 := (HK.out.2.1.cell (p := ⟨zg, zo + k, none⟩) hzg).trans hc
      obtain ⟨z, hz⟩ : ∃ z, zs.getD k 0 = z := ⟨_, rfl⟩
      rw [hz] at hc2
      obtain ⟨d, hd⟩ : ∃ d : Nat, z % ((n : Int) - (m : Int) + 1) = d := ⟨(z % ((n : Int) - (m : Int) + 1)).toNat, by have := Int.emod_nonneg z (show (n : Int) - (m : Int) + 1 ≠ 0 by omega); omega⟩
      have hdn : m + d ≤ n := by have := Int.emod_lt_of_pos z (show (0 : Int) < (n : Int) - (m : Int) + 1 by omega); omega
      have HD := Lib.hid hd
      clear hz hc hd hzg
      go_wp2_with fail
      (with_reducible refine (within3_any _ _ _ (by omega) (by omega)).mono ?_)
      rintro _ w2 ⟨rfl, rfl⟩
      rw [HD.out]
      obtain ⟨q, hq⟩ : ∃ q, m + d = q := ⟨_, rfl⟩
      have hqi : (m : Int) + (d : Int) = (q : Int) := by omega
      obtain ⟨A', hA'⟩ : ∃ A', (if cap = m then A else A.map (·.add m)) = A' := ⟨_, rfl⟩
      have hcut : ∀ W : World, (Instr.sliceAt 26 (.slice A n cap) (some (.int .i64 (m : Int))) (some (.int .i64 (q : Int))) none).run Tryd.prog W = .ok (.slice A' d (cap - m)) W := fun W => by
        rw [cut_mid W A n cap m q (by omega) (by omega), hA', show q - m = d by omega]
      have hpv : (cutPart A cap b m d).val = .slice A' d (cap - m) := by unfold cutPart Part.val; rw [hA']
      have hown3 := HK.out.1.alloc (.cells #[.slice A' d (cap - m)] 26)
      have hcell3 : ∀ (j : Nat) u, ([Value.slice A' d (cap - m)] : List Value)[j]? = some u → (wr.alloc (.cells #[.slice A' d (cap - m)] 26)).cell? ((⟨wr.heap.size, 0, none⟩ : Addr).add j) = some u := fun j u hj => by
        rw [Addr.add_lit, Nat.zero_add]
        exact (Row.new wr _ _).cell hj
      have HO3 := Lib.hid (And.intro hown3 (And.intro hcell3 (And.intro (below_new HK.out.2.1 (.cells #[.slice A' d (cap - m)] 26)) hpv)))
      clear hown3 hcell3 hA' hpv hq
      go_wp2_with (at_builtin; refine wpList_append_own _ rfl (.tmp 35) (.tmp 42) 22 rfl w.heap.size 26 i1 _ 1 24 Tryd.underlying22 HI.out.1 HI.out.2.1 HI.out.2.2.1 HI.out.2.2.2 rfl (by decide) (.slice A5 k c5) k _ rfl HO3.out.1 ⟨wr.heap.size, 0, none⟩ 1 1 [.slice A' d (cap - m)] rfl ?c1 HO3.out.2.1 ?c5 ?c2 ?c3 ?c4 ?_)
      case c1 => rfl
      case c5 => first | rfl | (intro u hu; simp at hu; subst hu; rfl)
      case c2 => unfold maxLen; omega
      case c3 => omega
      case c4 => first | exact HO3.out.2.2.1.size | (have h := HO3.out.2.2.1.size; simpa using h)
      intro v' w4 ho4 hg4 _
      have hb4 := HO3.out.2.2.1.grown hg4 HO3.out.2.2.1.size (fun x hx => own_base HO3.out.1 x hx)
      rcases ho4.2 with ⟨_, h0⟩ | ⟨g4, c4, cur4, rfl, _, _, _, hc4, _, _⟩
      · exact absurd h0 (by omega)
      have HR : Hid (w4.ownsRow w.heap.size 26 1 (.slice (some ⟨g4, 0, none⟩) (k + 1) c4) (k + 1) ((ps ++ [cutPart A cap b m d]).map Part.val) ∧ Below w.heap.size w w4 ∧ (∀ p ∈ ps ++ [cutPart A cap b m d], Shows w w.heap.size p.A p.n p.cap p.l) ∧ joined (ps ++ [cutPart A cap b m d]) = b.take q ∧ total (ps ++ [cutPart A cap b m d]) = q) := by
        refine Lib.hid ⟨?_, hb4, ?_, ?_, ?_⟩
        · rw [List.map_append, List.map_singleton, HO3.out.2.2.2]
          exact ho4
        · intro p hp
          rcases List.mem_append.1 hp with h | h
          · exact HK.out.2.2.1 p h
          · obtain rfl : p = cutPart A cap b m d := by simpa using h
            exact cutPart_shows HB.out.1 hdn
        · rw [joined_app, HK.out.2.2.2.1, show q = m + d by omega, List.take_add]
          simp [joined, cutPart]
        · rw [total_app, HK.out.2.2.2.2]
          show m + (d + 0) = q
          omega
      unfold maxLen at hc4
      clear ho4 hg4 hb4 HO3
      go_wp2
      go_roundw
      case rel => exact ⟨k + 1, q, _, c4, _, by omega, by omega, hc4, by go_num, rfl, rfl, HR⟩
      case measure => simp [intOf]; omega
    · have hkn : ¬ (k : Int) < (nc : Int) := by omega
      obtain ⟨A', hA'⟩ : ∃ A', (if cap = m then A else A.map (·.add m)) = A' := ⟨_, rfl⟩
      obtain ⟨d, hd⟩ : ∃ d, n - m = d := ⟨_, rfl⟩
      have hcut : ∀ W : World, (Instr.sliceAt 26 (.slice A n cap) (some (.int .i64 (m : Int))) none none).run Tryd.prog W = .ok (.slice A' d (cap - m)) W := fun W => by
        rw [bytes_cut W A n cap m hm, hA', hd]
      have hpv : (cutPart A cap b m d).val = .slice A' d (cap - m) := by unfold cutPart Part.val; rw [hA']
      have hown3 := HK.out.1.alloc (.cells #[.slice A' d (cap - m)] 26)
      have hcell3 : ∀ (j : Nat) u, ([Value.slice A' d (cap - m)] : List Value)[j]? = some u → (wr.alloc (.cells #[.slice A' d (cap - m)] 26)).cell? ((⟨wr.heap.size, 0, none⟩ : Addr).add j) = some u := fun j u hj => by
        rw [Addr.add_lit, Nat.zero_add]
        exact (Row.new wr _ _).cell hj
      have HO3 := Lib.hid (And.intro hown3 (And.intro hcell3 (And.intro (below_new HK.out.2.1 (.cells #[.slice A' d (cap - m)] 26)) (And.intro hpv hd))))
      clear hown3 hcell3 hA' hpv hd hkN
      go_wp2_with (at_builtin; refine wpList_append_own _ rfl (.tmp 47) (.tmp 51) 22 rfl w.heap.size 26 i1 _ 1 24 Tryd.underlying22 HI.out.1 HI.out.2.1 HI.out.2.2.1 HI.out.2.2.2 rfl (by decide) (.slice A5 k c5) k _ rfl HO3.out.1 ⟨wr.heap.size, 0, none⟩ 1 1 [.slice A' d (cap - m)] rfl ?c1 HO3.out.2.1 ?c5 ?c2 ?c3 ?c4 ?_)
      case c5 => first | rfl | (intro u hu; simp at hu; subst hu; rfl)
      case c2 => unfold maxLen; omega
      case c3 => omega
      case c4 => first | exact HO3.out.2.2.1.size | (have h := HO3.out.2.2.1.size; simpa using h)
      intro v' w4 ho4 hg4 _
      have hb4 := HO3.out.2.2.1.grown hg4 HO3.out.2.2.1.size (fun x hx => own_base HO3.out.1 x hx)
      rcases ho4.2 with ⟨_, h0⟩ | ⟨g4, c4, cur4, rfl, _, _, _, hc4, _, _⟩
      · exact absurd h0 (by omega)
      obtain ⟨P, hP⟩ : ∃ P, ps ++ [cutPart A cap b m d] = P := ⟨_, rfl⟩
      have hlaid : LaidAt w4 w4.heap.size (some ⟨g4, 0, none⟩) (k + 1) P := by
        refine laid_own (w0 := w) (c := c4) (base := w.heap.size) ?_ hb4 ?_
        · rw [← hP, List.map_append, List.map_singleton, HO3.out.2.2.2.1]
          exact ho4
        · intro p hp
          rw [← hP] at hp
          rcases List.mem_append.1 hp with h | h
          · exact HK.out.2.2.1 p h
          · obtain rfl : p = cutPart A cap b m d := by simpa using h
            exact cutPart_shows HB.out.1 (by have := HO3.out.2.2.2.2; omega)
      have hj : joined P = b := by
        rw [← hP, joined_app, HK.out.2.2.2.1]
        have : joined [cutPart A cap b m d] = (b.drop m).take d := by simp [joined, cutPart]
        rw [this, ← List.take_add, List.take_of_length_le (by rw [HB.out.2.1]; have := HO3.out.2.2.2.2; omega)]
      have ht : total P ≤ 10000000000000 := by
        rw [← hP, total_app, HK.out.2.2.2.2]
        show m + (d + 0) ≤ _
        have := HO3.out.2.2.2.2
        omega
      have HY := Lib.hid (And.intro hlaid (And.intro hj (And.intro ht hb4)))
      have hk1 : k + 1 ≤ 1000000 := by omega
      clear ho4 hg4 hb4 HO3 hlaid hj ht hP hcut
      go_wp2_with fail
      (with_reducible refine (shasum_any _ _ _ P w4 HY.out.1 (HT.out.below HY.out.2.2.2) hk1 HY.out.2.2.1).mono ?_)
      rintro _ w5 ⟨rfl, hb5⟩
      rw [HY.out.2.1]
      have H5 := Lib.hid (step_below HY.out.2.2.2 hb5)
      clear hb5
      go_wp2_with fail
      (with_reducible refine (refsum3_any A n cap b w5 ((HB.out.1.below H5.out).more H5.out.size) (by omega)).mono ?_)
      rintro _ w6 ⟨rfl, hb6⟩
      have H6 := Lib.hid (step_below H5.out hb6)
      clear hb6
      have he1 := hash_eql b
      have he2 := hash_eql []
      go_wp2_with fail
      (with_reducible refine (shasum_any none 0 0 [] w6 ⟨rfl, fun h => absurd h (by decide), fun p h => absurd h List.not_mem_nil⟩ (HT.out.below H6.out) (by decide) (by decide)).mono ?_)
      rintro _ w7 ⟨rfl, hb7⟩
      rw [show joined [] = [] from rfl]
      have H7 := Lib.hid (step_below H6.out hb7)
      clear hb7
      go_wp2_with fail
      (with_reducible refine (refsum3_any none 0 0 [] w7 (Shows.nil _ _) (by decide)).mono ?_)
      rintro _ w8 ⟨rfl, hb8⟩
      have H8 := Lib.hid (step_below H7.out hb8)
      clear hb8
      have hl2 := laid_two (w := w8) (p := ⟨none, 0, 0, []⟩) (q := ⟨none, 0, 0, []⟩) (Shows.nil _ _) (Shows.nil _ _) 26
      have H8b := Lib.hid (And.intro (below_new H8.out (.cells #[.slice none 0 0, .slice none 0 0] 26)) (show LaidAt (w8.alloc (.cells #[.slice none 0 0, .slice none 0 0] 26)) (w8.alloc (.cells #[.slice none 0 0, .slice none 0 0] 26)).heap.size (some ⟨w8.heap.size, 0, none⟩) 2 [⟨none, 0, 0, []⟩, ⟨none, 0, 0, []⟩] from LaidAt.of_laid hl2 (by simp)))
      clear hl2
      go_wp2_with fail
      (with_reducible refine (shasum_any _ _ _ [⟨none, 0, 0, []⟩, ⟨none, 0, 0, []⟩] _ H8b.out.2 (HT.out.below H8b.out.1) (by decide) (by decide)).mono ?_)
      rintro _ w9 ⟨rfl, hb9⟩
      rw [show joined [⟨none, 0, 0, []⟩, ⟨none, 0, 0, []⟩] = [] from rfl]
      have H9 := Lib.hid (step_below H8b.out.1 hb9)
      clear hb9
      go_wp2_with fail
      (with_reducible refine (refsum3_any none 0 0 [] w9 (Shows.nil _ _) (by decide)).mono ?_)
      rintro _ w10 ⟨rfl, hb10⟩
      have H10 := Lib.hid (step_below H9.out hb10)
      clear hb10
      go_wp2
      go_ret
      exact ⟨rfl, H10.out⟩
end Go.Proofs.YtkclbhmjhjfgiaaDoor
