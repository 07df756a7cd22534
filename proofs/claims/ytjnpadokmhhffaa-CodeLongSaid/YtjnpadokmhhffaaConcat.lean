/- Contracts for slices.Concat on slices of bytes, and for package code's Int, Byte and Text. -/
import Derived.Test.YtjnpadokmhhffaaCode
import Derived.Lib.Hide
namespace Go.Proofs.Ytjnpadokmhhffaa
open Go.RowKit Wd Nm

/-- A part: where it lies, how long it is, what room it has, its bytes. -/
structure Part where
  A : Option Addr
  n : Nat
  cap : Nat
  l : List UInt8
def Part.val (p : Part) : Value := .slice p.A p.n p.cap
def joined : List Part → List UInt8
  | [] => []
  | p :: r => p.l ++ joined r
def total : List Part → Nat
  | [] => 0
  | p :: r => p.n + total r
theorem total_app (a b : List Part) : total (a ++ b) = total a + total b := by
  induction a with
  | nil => simp [total]
  | cons p r ih => simp [total, ih]; omega
theorem joined_app (a b : List Part) : joined (a ++ b) = joined a ++ joined b := by
  induction a with
  | nil => simp [joined]
  | cons p r ih => simp [joined, ih]
theorem take_next (ps : List Part) (j : Nat) (h : j < ps.length) : ps.take (j + 1) = ps.take j ++ [ps[j]] := by
  rw [List.take_succ_eq_append_getElem h]
theorem total_next (ps : List Part) (j : Nat) (h : j < ps.length) : total (ps.take (j + 1)) = total (ps.take j) + ps[j].n := by
  rw [take_next ps j h, total_app]; simp [total]
theorem joined_next (ps : List Part) (j : Nat) (h : j < ps.length) : joined (ps.take (j + 1)) = joined (ps.take j) ++ ps[j].l := by
  rw [take_next ps j h, joined_app]; simp [joined]
theorem total_le (ps : List Part) (j : Nat) : total (ps.take j) ≤ total ps := by
  have h := total_app (ps.take j) (ps.drop j)
  rw [List.take_append_drop] at h
  omega

/-- The parts lie as the cells of block g, and each shows its bytes. -/
def Laid (w : World) (B g : Nat) (ps : List Part) : Prop := ∀ j (h : j < ps.length), w.cell? ⟨g, j, none⟩ = some (.slice ps[j].A ps[j].n ps[j].cap) ∧ Shows w B ps[j].A ps[j].n ps[j].cap ps[j].l

set_option maxHeartbeats 1000000 in
theorem concat_any (ps : List Part) (g : Nat) (w : World) (hg : g < w.heap.size) (hl : Laid w w.heap.size g ps) (hk : ps.length ≤ 1000) (ht : total ps ≤ 1000000000000) :
    Calls Try.prog 30 #[.slice (some ⟨g, 0, none⟩) ps.length ps.length] w fun e w' => ∃ A c, e = .returned (.slice A (total ps) c) ∧ w'.ownsRow w.heap.size 5 1 (.slice A (total ps) c) (total ps) (bc (joined ps)) ∧ Below w.heap.size w w' := by
  obtain ⟨i0, hi0, hz0, hz1, hz2⟩ := info_parts infoByte
  go_enter Try.func30, Try.ntmps30
  go_wp2
  go_loop [3, 5, 11] (fun s _ i => ∃ j : Nat, j ≤ ps.length ∧ i = .int .i64 j ∧ s = .int .i64 (total (ps.take j) : Nat)) (fun _ _ i => ps.length - (intOf i).toNat)
  case atStart => exact ⟨0, Nat.zero_le _, rfl, rfl⟩
  case round =>
    obtain ⟨j, hj, rfl, rfl⟩ := hrel
    by_cases hlt : j < ps.length
    · have hc := (hl j hlt).1
      have hn := total_next ps j hlt
      have hle := total_le ps (j + 1)
      rw [hn] at hle
      have HN := Lib.hid hn
      clear hn
      go_wp2
      go_round
      case rel => exact ⟨j + 1, by omega, by go_num, by rw [HN.out]; go_num⟩
      case measure => simp [intOf]; omega
    · obtain rfl : j = ps.length := by omega
      have htk : ps.take ps.length = ps := List.take_length
      have HT := Lib.hid htk
      rw [htk]
      clear htk
      go_wp2_with (go_at_call 41; refine (grow_any _ ht _).mono ?_; rintro e w1 ⟨A, c, rfl, hown, hgr⟩)
      have hbel := grow_below hgr (Nat.le_refl w.heap.size) (by intro k hk; cases hk)
      clear hgr
      go_loopw [6, 8, 27] (fun s _ i wr => ∃ j : Nat, ∃ A c, j ≤ ps.length ∧ i = .int .i64 j ∧ s = .slice A (total (ps.take j)) c ∧ wr.ownsRow w.heap.size 5 1 (.slice A (total (ps.take j)) c) (total (ps.take j)) (bc (joined (ps.take j))) ∧ Below w.heap.size w wr) (fun _ _ i _ => ps.length - (intOf i).toNat)
      case atStart => exact ⟨0, A, c, Nat.zero_le _, rfl, rfl, hown, hbel⟩
      case round =>
        clear hown hbel
        obtain ⟨j, A, c, hj, rfl, rfl, hown, hbel⟩ := hrel
        by_cases hlt : j < ps.length
        · obtain ⟨hc, hsh⟩ := hl j hlt
          have hc' : wr.cell? ⟨g, j, none⟩ = some (.slice ps[j].A ps[j].n ps[j].cap) := (hbel.cell (p := ⟨g, j, none⟩) hg).trans hc
          have hsh' := hsh.below hbel
          have hle := total_le ps (j + 1)
          rw [total_next ps j hlt] at hle
          have HN := Lib.hid (total_next ps j hlt)
          have HJ := Lib.hid (joined_next ps j hlt)
          clear hc hsh
          go_wp2_with (at_builtin; refine wpList_ap _ rfl _ _ 22 22 rfl w.heap.size 5 i0 Try.underlying22 hi0 hz0 hz1 hz2 A _ c _ rfl hown _ _ _ rfl (hsh'.src Try.underlying22) ?c1 hbel.size ?_)
          case c1 => omega
          intro A2 c2 w2 hown2 _ hg2 _
          have hb2 := hbel.grown hg2 hbel.size (fun k hk => (own_block hown k hk).1)
          clear hg2 hown hbel
          go_wp2
          go_roundw
          case rel => exact ⟨j + 1, A2, c2, by omega, by go_num, by rw [HN.out], by rw [HN.out, HJ.out]; exact hown2, hb2⟩
          case measure => simp [intOf]; omega
        · obtain rfl : j = ps.length := by omega
          rw [HT.out] at hown ⊢
          go_wp2
          go_ret
          exact ⟨A, c, rfl, hown, hbel⟩

end Go.Proofs.Ytjnpadokmhhffaa
