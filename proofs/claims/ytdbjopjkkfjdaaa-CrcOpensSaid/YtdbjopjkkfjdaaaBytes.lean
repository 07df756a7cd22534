/- Contracts for slices.Grow, slices.Concat and bytes.Clone on slices of bytes, and what a block of made cells shows. They speak of no package of the program. -/
import Derived.Test.YtdbjopjkkfjdaaaProg
import Derived.Test.YtdbjopjkkfjdaaaNums
import Derived.Deep.LoopGhost
import Derived.Lib.Hide
import Derived.Lib.ConvBytes
namespace Go.Proofs.Ytdbjopjkkfjdaaa
open Go.RowKit Wd Nm

theorem infoByte : (Try.prog.info? 5).map (fun i => (i.zero, i.size, i.bytes)) = some (some (.int .u8 0), 1, 1) := by kernel_rfl

def Cz (f : Nat → Int) (k sz : Nat) : Array Value := ((List.range k).map (fun i => Value.int .u8 (f i)) ++ List.replicate (sz - k) (Value.int .u8 0)).toArray
theorem Cz_size (f : Nat → Int) (k sz : Nat) (h : k ≤ sz) : (Cz f k sz).size = sz := by simp [Cz]; omega
theorem Cz_next (f : Nat → Int) (k sz : Nat) (h : k < sz) : (Cz f k sz)[k]? = some (.int .u8 0) := by
  unfold Cz
  rw [List.getElem?_toArray, List.getElem?_append_right (by simp), List.getElem?_replicate, if_pos (by simp; omega)]
theorem Cz_step (f : Nat → Int) (k sz : Nat) (h : k < sz) : (Cz f k sz).setIfInBounds k (.int .u8 (f k)) = Cz f (k + 1) sz := by
  unfold Cz
  apply Array.ext'
  rw [Array.toList_setIfInBounds]
  simp only [List.range_succ, List.map_append, List.append_assoc]
  rw [List.set_append_right _ _ (by simp)]
  have h1 : sz - k = (sz - (k + 1)) + 1 := by omega
  rw [h1, List.replicate_succ]
  simp
theorem Cz_zero (f : Nat → Int) (sz : Nat) : Cz f 0 sz = madeCells #[Value.int .u8 0] (sz * 1) := by
  apply Array.ext'
  rw [toList_madeCells_one]
  simp [Cz]
theorem Cz_full (n : Int) (k : Nat) : (Cz (fun i => n / 2 ^ (8 * i) % 256) k k).toList = bc (leb n k) := by
  simp only [Cz, Nat.sub_self, List.replicate_zero, List.append_nil, bc, leb, List.map_map]
  apply List.map_congr_left
  intro i _
  simp [lb_nat]

set_option maxHeartbeats 400000 in
theorem grow_any (n : Nat) (hm : n ≤ 1000000000000) (w : World) :
    Calls Try.prog 24 #[.slice none 0 0, .int .i64 n] w fun e w' => ∃ A c, e = .returned (.slice A 0 c) ∧ w'.ownsRow w.heap.size 5 1 (.slice A 0 c) 0 (bc []) ∧ w.grownBy w' none := by
  have h5 : Try.t5.bytes = 1 := by kernel_rfl
  rcases Nat.eq_zero_or_pos n with h0 | h0
  · subst h0
    go_enter Try.func24, Try.ntmps24
    go_wp2
    go_ret
    exact ⟨none, 0, rfl, World.ownsRow_nil w _ _ 1, grow_refl w _⟩
  · have hb1 : (n : Int) * (Try.t5.bytes : Int) ≤ 281474976710656 := by rw [h5]; omega
    have hb2 : ¬ 281474976710656 < Builtin.nextslicecap n 0 * Try.t5.bytes := by
      rw [h5]
      have := growslice_fits (need := n) (old := 0) (bytes := 1) h0 (by omega)
      omega
    clear h5
    go_enter Try.func24, Try.ntmps24
    go_wp2
    go_ret
    refine ⟨_, _, rfl, ?_, grow_drew (World.grownBy_alloc w _ none)⟩
    have hge := grownCap_ge w n 0 5
    have hcm := grownCap_le_maxLen w n 0 5 (by simp only [maxLen]; omega)
    refine World.ownsRow_made (w := w.drew) _ _ (Nat.le_refl _) hcm ?_
    have hz1 : (#[Value.int IntKind.u8 0] : Array Value).size = 1 := rfl
    simp only [Array.size_append, size_zeroCells, hz1, Nat.mul_one]
    unfold grownCap at hge
    omega
/-- A part: where it lies, how long it is, what room it has, its bytes. -/
structure Part where
  A : Option Addr
  n : Nat
  cap : Nat
  l : List UInt8
def Part.val (p : Part) : Value := .slice p.A p.n p.cap
def joined : List Part → List UInt8
  | [] => []
  | p :: r => p.l ++ joined r
def total : List Part → Nat
  | [] => 0
  | p :: r => p.n + total r
theorem total_app (a b : List Part) : total (a ++ b) = total a + total b := by
  induction a with
  | nil => simp [total]
  | cons p r ih => simp [total, ih]; omega
theorem joined_app (a b : List Part) : joined (a ++ b) = joined a ++ joined b := by
  induction a with
  | nil => simp [joined]
  | cons p r ih => simp [joined, ih]
theorem take_next (ps : List Part) (j : Nat) (h : j < ps.length) : ps.take (j + 1) = ps.take j ++ [ps[j]] := by
  rw [List.take_succ_eq_append_getElem h]
theorem total_next (ps : List Part) (j : Nat) (h : j < ps.length) : total (ps.take (j + 1)) = total (ps.take j) + ps[j].n := by
  rw [take_next ps j h, total_app]; simp [total]
theorem joined_next (ps : List Part) (j : Nat) (h : j < ps.length) : joined (ps.take (j + 1)) = joined (ps.take j) ++ ps[j].l := by
  rw [take_next ps j h, joined_app]; simp [joined]
theorem total_le (ps : List Part) (j : Nat) : total (ps.take j) ≤ total ps := by
  have h := total_app (ps.take j) (ps.drop j)
  rw [List.take_append_drop] at h
  omega

/-- The parts lie as the cells of block g, and each shows its bytes. -/
def Laid (w : World) (B g : Nat) (ps : List Part) : Prop := ∀ j (h : j < ps.length), w.cell? ⟨g, j, none⟩ = some (.slice ps[j].A ps[j].n ps[j].cap) ∧ Shows w B ps[j].A ps[j].n ps[j].cap ps[j].l

set_option maxHeartbeats 1000000 in
theorem concat_any (ps : List Part) (g : Nat) (w : World) (hg : g < w.heap.size) (hl : Laid w w.heap.size g ps) (hk : ps.length ≤ 1000) (ht : total ps ≤ 1000000000000) :
    Calls Try.prog 20 #[.slice (some ⟨g, 0, none⟩) ps.length ps.length] w fun e w' => ∃ A c, e = .returned (.slice A (total ps) c) ∧ w'.ownsRow w.heap.size 5 1 (.slice A (total ps) c) (total ps) (bc (joined ps)) ∧ Below w.heap.size w w' := by
  obtain ⟨i0, hi0, hz0, hz1, hz2⟩ := info_parts infoByte
  go_enter Try.func20, Try.ntmps20
  go_wp2
  go_loop [3, 5, 11] (fun s _ i => ∃ j : Nat, j ≤ ps.length ∧ i = .int .i64 j ∧ s = .int .i64 (total (ps.take j) : Nat)) (fun _ _ i => ps.length - (intOf i).toNat)
  case atStart => exact ⟨0, Nat.zero_le _, rfl, rfl⟩
  case round =>
    obtain ⟨j, hj, rfl, rfl⟩ := hrel
    by_cases hlt : j < ps.length
    · have hc := (hl j hlt).1
      have hn := total_next ps j hlt
      have hle := total_le ps (j + 1)
      rw [hn] at hle
      have HN := Lib.hid hn
      clear hn
      go_wp2
      go_round
      case rel => exact ⟨j + 1, by omega, by go_num, by rw [HN.out]; go_num⟩
      case measure => simp [intOf]; omega
    · obtain rfl : j = ps.length := by omega
      have htk : ps.take ps.length = ps := List.take_length
      have HT := Lib.hid htk
      rw [htk]
      clear htk
      go_wp2_with (go_at_call 24; refine (grow_any _ ht _).mono ?_; rintro e w1 ⟨A, c, rfl, hown, hgr⟩)
      have hbel := grow_below hgr (Nat.le_refl w.heap.size) (by intro k hk; cases hk)
      clear hgr
      go_loopw [6, 8, 27] (fun s _ i wr => ∃ j : Nat, ∃ A c, j ≤ ps.length ∧ i = .int .i64 j ∧ s = .slice A (total (ps.take j)) c ∧ wr.ownsRow w.heap.size 5 1 (.slice A (total (ps.take j)) c) (total (ps.take j)) (bc (joined (ps.take j))) ∧ Below w.heap.size w wr) (fun _ _ i _ => ps.length - (intOf i).toNat)
      case atStart => exact ⟨0, A, c, Nat.zero_le _, rfl, rfl, hown, hbel⟩
      case round =>
        clear hown hbel
        obtain ⟨j, A, c, hj, rfl, rfl, hown, hbel⟩ := hrel
        by_cases hlt : j < ps.length
        · obtain ⟨hc, hsh⟩ := hl j hlt
          have hc' : wr.cell? ⟨g, j, none⟩ = some (.slice ps[j].A ps[j].n ps[j].cap) := (hbel.cell (p := ⟨g, j, none⟩) hg).trans hc
          have hsh' := hsh.below hbel
          have hle := total_le ps (j + 1)
          rw [total_next ps j hlt] at hle
          have HN := Lib.hid (total_next ps j hlt)
          have HJ := Lib.hid (joined_next ps j hlt)
          clear hc hsh
          go_wp2_with (at_builtin; refine wpList_ap _ rfl _ _ 25 25 rfl w.heap.size 5 i0 Try.underlying25 hi0 hz0 hz1 hz2 A _ c _ rfl hown _ _ _ rfl (hsh'.src Try.underlying25) ?c1 hbel.size ?_)
          case c1 => omega
          intro A2 c2 w2 hown2 _ hg2 _
          have hb2 := hbel.grown hg2 hbel.size (fun k hk => (own_block hown k hk).1)
          clear hg2 hown hbel
          go_wp2
          go_roundw
          case rel => exact ⟨j + 1, A2, c2, by omega, by go_num, by rw [HN.out], by rw [HN.out, HJ.out]; exact hown2, hb2⟩
          case measure => simp [intOf]; omega
        · obtain rfl : j = ps.length := by omega
          rw [HT.out] at hown ⊢
          go_wp2
          go_ret
          exact ⟨A, c, rfl, hown, hbel⟩

theorem shows_lit (x : Int) (k : Nat) (hk : k ≤ 8) (w : World) : Shows (w.alloc (.cells (Cz (fun i => x / 2 ^ (8 * i) % 256) k k) 5)) (w.heap.size + 1) (some ⟨w.heap.size, 0, none⟩) k k (leb x k) := by
  have h := World.ownsRow_lit (base := 0) (e := 5) (size := 1) w (Cz (fun i => x / 2 ^ (8 * i) % 256) k k) k (Nat.zero_le _) (by simp only [maxLen]; omega) (by rw [Cz_size _ _ _ (Nat.le_refl _), Nat.mul_one])
  rw [Cz_full] at h
  have := Shows.of_own h
  simpa using this

/-- Two parts in the block that the call has just made. -/
theorem laid_two {w : World} {p q : Part} (hp : Shows w w.heap.size p.A p.n p.cap p.l) (hq : Shows w w.heap.size q.A q.n q.cap q.l) (T : TypeId) :
    Laid (w.alloc (.cells #[.slice p.A p.n p.cap, .slice q.A q.n q.cap] T)) (w.alloc (.cells #[.slice p.A p.n p.cap, .slice q.A q.n q.cap] T)).heap.size w.heap.size [p, q] := by
  have hb : Below w.heap.size w (w.alloc (.cells #[.slice p.A p.n p.cap, .slice q.A q.n q.cap] T)) := (Below.refl _ _).alloc (Nat.le_refl _) _
  have hn := heap_alloc_new w (.cells #[.slice p.A p.n p.cap, .slice q.A q.n q.cap] T)
  intro j hj
  match j, hj with
  | 0, _ => exact ⟨by rw [cell_of_row _ _ 0 _ T (0, 0) hn]; rfl, (hp.below hb).more hb.size⟩
  | 1, _ => exact ⟨by rw [cell_of_row _ _ 1 _ T (0, 0) hn]; rfl, (hq.below hb).more hb.size⟩

theorem laid_three {w : World} {p q r : Part} (hp : Shows w w.heap.size p.A p.n p.cap p.l) (hq : Shows w w.heap.size q.A q.n q.cap q.l) (hr : Shows w w.heap.size r.A r.n r.cap r.l) (T : TypeId) :
    Laid (w.alloc (.cells #[.slice p.A p.n p.cap, .slice q.A q.n q.cap, .slice r.A r.n r.cap] T)) (w.alloc (.cells #[.slice p.A p.n p.cap, .slice q.A q.n q.cap, .slice r.A r.n r.cap] T)).heap.size w.heap.size [p, q, r] := by
  have hb : Below w.heap.size w (w.alloc (.cells #[.slice p.A p.n p.cap, .slice q.A q.n q.cap, .slice r.A r.n r.cap] T)) := (Below.refl _ _).alloc (Nat.le_refl _) _
  have hn := heap_alloc_new w (.cells #[.slice p.A p.n p.cap, .slice q.A q.n q.cap, .slice r.A r.n r.cap] T)
  intro j hj
  match j, hj with
  | 0, _ => exact ⟨by rw [cell_of_row _ _ 0 _ T (0, 0) hn]; rfl, (hp.below hb).more hb.size⟩
  | 1, _ => exact ⟨by rw [cell_of_row _ _ 1 _ T (0, 0) hn]; rfl, (hq.below hb).more hb.size⟩
  | 2, _ => exact ⟨by rw [cell_of_row _ _ 2 _ T (0, 0) hn]; rfl, (hr.below hb).more hb.size⟩

theorem concat_two (p q : Part) (w : World) (g : Nat) (hg : w.heap.size = g) (hp : Shows w g p.A p.n p.cap p.l) (hq : Shows w g q.A q.n q.cap q.l) (hsm : p.n + q.n ≤ 1000000000000) :
    Calls Try.prog 20 #[.slice (some ⟨g, 0, none⟩) 2 2] (w.alloc (.cells #[.slice p.A p.n p.cap, .slice q.A q.n q.cap] 25)) fun e w' => ∃ A c, e = .returned (.slice A (p.n + q.n) c) ∧ w'.ownsRow g 5 1 (.slice A (p.n + q.n) c) (p.n + q.n) (bc (p.l ++ q.l)) ∧ Below g w w' := by
  subst hg
  refine (concat_any [p, q] w.heap.size _ (by simp) (laid_two hp hq _) (by simp) (by simp [total]; omega)).mono ?_
  rintro e w' ⟨A, c, rfl, hown, hbel⟩
  have e1 : total [p, q] = p.n + q.n := by simp [total]
  have e2 : joined [p, q] = p.l ++ q.l := by simp [joined]
  rw [e1, e2] at hown
  rw [e1]
  refine ⟨A, c, rfl, ⟨hown.1, ?_⟩, ((Below.refl _ _).alloc (Nat.le_refl _) _).trans (hbel.mono (by simp))⟩
  rcases hown.2 with h | ⟨g, cap, cur, h1, h2, h3⟩
  · exact .inl h
  · exact .inr ⟨g, cap, cur, h1, by simp at h2; omega, h3⟩

theorem concat_three (p q r : Part) (w : World) (g : Nat) (hg : w.heap.size = g) (hp : Shows w g p.A p.n p.cap p.l) (hq : Shows w g q.A q.n q.cap q.l) (hr : Shows w g r.A r.n r.cap r.l) (hsm : p.n + q.n + r.n ≤ 1000000000000) :
    Calls Try.prog 20 #[.slice (some ⟨g, 0, none⟩) 3 3] (w.alloc (.cells #[.slice p.A p.n p.cap, .slice q.A q.n q.cap, .slice r.A r.n r.cap] 25)) fun e w' => ∃ A c, e = .returned (.slice A (p.n + q.n + r.n) c) ∧ w'.ownsRow g 5 1 (.slice A (p.n + q.n + r.n) c) (p.n + q.n + r.n) (bc (p.l ++ q.l ++ r.l)) ∧ Below g w w' := by
  subst hg
  refine (concat_any [p, q, r] w.heap.size _ (by simp) (laid_three hp hq hr _) (by simp) (by simp [total]; omega)).mono ?_
  rintro e w' ⟨A, c, rfl, hown, hbel⟩
  have e1 : total [p, q, r] = p.n + q.n + r.n := by simp [total]; omega
  have e2 : joined [p, q, r] = p.l ++ q.l ++ r.l := by simp [joined]
  rw [e1, e2] at hown
  rw [e1]
  refine ⟨A, c, rfl, ⟨hown.1, ?_⟩, ((Below.refl _ _).alloc (Nat.le_refl _) _).trans (hbel.mono (by simp))⟩
  rcases hown.2 with h | ⟨g, cap, cur, h1, h2, h3⟩
  · exact .inl h
  · exact .inr ⟨g, cap, cur, h1, by simp at h2; omega, h3⟩

set_option maxHeartbeats 400000 in
theorem clone_any (A : Option Addr) (n cap : Nat) (l : List UInt8) (w : World) (hs : Shows w w.heap.size A n cap l) (hn : n ≤ 100000000000) :
    Calls Try.prog 23 #[.slice A n cap] w fun e w' => ∃ A2 c2, e = .returned (.slice A2 n c2) ∧ Shows w' w'.heap.size A2 n c2 l ∧ Below w.heap.size w w' := by
  have q22 : ∀ (w : World) (a : Option Addr) (n c n' c' : Nat), (binOp .eql 25 (.slice a n c) (.slice none n' c')).run Try.prog w = .ok (.bool a.isNone) w := fun w a n c n' c' => Lib.run_eql_slice_nil w _ _ a n c n' c' Try.underlying25
  obtain ⟨i0, hi0, hz0, hz1, hz2⟩ := info_parts infoByte
  rcases A with _ | a
  · have h0 : n = 0 := by
      rcases Nat.eq_zero_or_pos n with h | h
      · exact h
      · obtain ⟨g, o, e, _⟩ := hs.spot h
        cases e
    subst h0
    have hl : l = [] := List.eq_nil_of_length_eq_zero hs.len
    subst hl
    clear hs
    go_enter Try.func23, Try.ntmps23
    go_wp2
    go_ret
    exact ⟨none, 0, rfl, Shows.nil _ _, Below.refl _ _⟩
  · have hown : (w.alloc (.cells #[] 5)).ownsRow w.heap.size 5 1 (.slice (some ⟨w.heap.size, 0, none⟩) 0 0) 0 (bc []) := World.ownsRow_made w #[] 0 (Nat.le_refl _) (Nat.zero_le _) rfl
    have hb : Below w.heap.size w (w.alloc (.cells #[] 5)) := (Below.refl _ _).alloc (Nat.le_refl _) _
    have hsrc := (hs.below hb).src (P := Try.prog) Try.underlying25
    clear hs
    go_enter Try.func23, Try.ntmps23
    go_wp2_with (at_builtin; refine wpList_ap _ rfl _ _ 25 25 rfl w.heap.size 5 i0 Try.underlying25 hi0 hz0 hz1 hz2 _ 0 0 [] rfl hown _ n l rfl hsrc ?c1 ?c2 ?_)
    case c1 => omega
    case c2 => simp
    intro A2 c2 w2 hown2 _ hg2 _
    have hb2 := hb.grown hg2 (by simp) (by intro k hk; simp at hk; omega)
    have hs2 := Shows.of_own hown2
    clear hown hsrc hown2 hg2 hb
    go_wp2
    go_ret
    exact ⟨A2, c2, rfl, hs2, hb2⟩

end Go.Proofs.Ytdbjopjkkfjdaaa
