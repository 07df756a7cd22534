/- Package record: the contract of split. -/
import Derived.Test.YtolpiklhnafnbaaRecLoad
namespace Go.Proofs.Ytolpiklhnafnbaa
set_option maxRecDepth 100000
open Go.RowKit Wd Fm

/-- The bytes of a page, with 255 behind. -/
def cutAt (x : List UInt8) (i : Nat) : List UInt8 := (x.drop (16 * i)).take 16
theorem cutAt_le (x : List UInt8) (i : Nat) : (cutAt x i).length ≤ 16 := by unfold cutAt; rw [List.length_take]; omega
theorem rest_next (x : List UInt8) (i k : Nat) (hk : k = min 16 (x.drop (16 * i)).length) : (x.drop (16 * i)).drop k = x.drop (16 * (i + 1)) := by
  rw [List.drop_drop]
  rcases Nat.lt_or_ge (x.drop (16 * i)).length 16 with h | h
  · rw [Nat.min_eq_right (by omega)] at hk
    rw [List.length_drop] at hk h
    rw [List.drop_eq_nil_of_le (by omega), List.drop_eq_nil_of_le (by omega)]
  · rw [Nat.min_eq_left h] at hk
    subst hk
    congr 1
/-- Pages that have been cut. -/
structure Pages (x : List UInt8) (ps : List Part) : Prop where
  each : ∀ i (h : i < ps.length), ps[i].l = padded (cutAt x i) ∧ ps[i].n = 16
theorem Pages.nil (x : List UInt8) : Pages x [] := ⟨fun i h => by simp at h⟩
theorem Pages.step {x : List UInt8} {ps : List Part} (h : Pages x ps) (p : Part) (i : Nat) (hi : ps.length = i) (hl : p.l = padded (cutAt x i)) (hn : p.n = 16) : Pages x (ps ++ [p]) := by
  refine ⟨fun j hj => ?_⟩
  rw [List.length_append, List.length_singleton] at hj
  by_cases hji : j < ps.length
  · rw [List.getElem_append_left hji]
    exact h.each j hji
  · have : j = i := by omega
    subst this
    simp only [← hi, List.getElem_append_right (Nat.le_refl _), Nat.sub_self, List.getElem_cons_zero]
    rw [hi]
    exact ⟨hl, hn⟩

theorem splice_pad (y : List UInt8) (r : List Value) (h : y.length ≤ 16) : splice (bc (List.replicate 16 255) ++ r) 0 (bc y) = bc (padded y) ++ r := by
  unfold splice padded
  rw [List.take_zero, List.nil_append, Nat.zero_add, bc_len, bc_app, List.append_assoc, List.drop_append_of_le_length (by rw [bc_len, List.length_replicate]; exact h)]
  congr 2
  unfold bc
  rw [← List.map_drop, List.drop_replicate]

set_option maxHeartbeats 1000000 in
theorem split_any (A : Option Addr) (n cap : Nat) (x : List UInt8) (w : World) (hs : Shows w w.heap.size A n cap x) (hn : n ≤ 100000) :
    Calls Try.prog 46 #[.slice A n cap] w fun e w' => ∃ A2 k cap2 ps, e = .returned (.slice A2 k cap2) ∧ OwnParts w' w.heap.size A2 k cap2 ps ∧ Pages x ps ∧ n ≤ 16 * k ∧ 16 * k < n + 16 ∧ Below w.heap.size w w' := by
  have HS := Lib.hid hs
  obtain ⟨i0, hi0, hz0, hz1, hz2⟩ := info_parts infoSlice
  have HI0 := Lib.hid hi0
  have HZ0 := Lib.hid hz0
  have HZ1 := Lib.hid hz1
  have HZ2 := Lib.hid hz2
  obtain ⟨i1, hj0, hy0, hy1, hy2⟩ := info_parts infoByte
  have hs1 : (Try.prog.info? 5).map (·.size) = some 1 := by rw [hj0]; simp [hy1]
  have HS1 := Lib.hid hs1
  have HLX := Lib.hid hs.len
  clear hs hi0 hz0 hz1 hz2 hs1 hj0 hy0 hy1 hy2
  go_enter Try.func46, Try.ntmps46
  go_wp2_with fail
  go_loopw [0, 3] (fun b l wr => ∃ (i : Nat) (A1 : Option Addr) (n1 cap1 : Nat) (A2 : Option Addr) (cap2 : Nat) (ps : List Part), 16 * i < n + 16 ∧ n1 ≤ n ∧ b = .slice A1 n1 cap1 ∧ l = .slice A2 i cap2 ∧ Hid (Shows w w.heap.size A1 n1 cap1 (x.drop (16 * i)) ∧ OwnParts wr w.heap.size A2 i cap2 ps ∧ Pages x ps ∧ Below w.heap.size w wr ∧ n1 = n - 16 * i)) (fun b _ _ => match b with | .slice _ k _ => k | _ => 0)
  case atStart => exact ⟨0, A, n, cap, none, 0, [], by omega, by omega, rfl, rfl, Lib.hid ⟨by simpa using HS.out, OwnParts.nil _ _, Pages.nil _, Below.refl _ _, by omega⟩⟩
  case round =>
    obtain ⟨i, A1, n1, cap1, A2, cap2, ps, hi, hn1, rfl, rfl, HJ⟩ := hrel
    by_cases hlt : 0 < n1
    · have hlti : (0 : Int) < (n1 : Int) := by omega
      have b1 := below_new (Below.refl wr.heap.size wr) (.cells #[.int .u8 255] 5)
      have hrep := repeat_any 255 wr.heap.size 1 16 (wr.alloc (.cells #[.int .u8 255] 5)) (by
        have := new_one wr (.int .u8 255) 5 0 (.int .u8 255) rfl
        rw [Addr.add_lit] at this
        exact this) (by omega) (by omega) (by omega)
      rw [show ((16 : Nat) : Int) = 16 from rfl] at hrep
      have HREP := Lib.hid hrep
      have HB1 := Lib.hid b1
      clear hrep b1
      go_wp2_with fail
      (with_reducible refine HREP.out.mono ?_)
      rintro _ w2 ⟨r, rfl, hrow, hb2⟩
      obtain ⟨G, hG⟩ : ∃ G, (wr.alloc (.cells #[.int .u8 255] 5)).heap.size = G := ⟨_, rfl⟩
      rw [hG] at hrow hb2 ⊢
      have hGw : wr.heap.size ≤ G := by rw [← hG]; simp
      have hb3 : Below wr.heap.size wr w2 := by
        have := HB1.out.trans (hb2.mono hGw)
        exact this
      have hsx := HJ.out.1.below (step_below HJ.out.2.2.2.1 hb3)
      have HX := Lib.hid (And.intro hrow (And.intro hb3 (And.intro hsx hGw)))
      obtain ⟨y, hy⟩ : ∃ y, cutAt x i = y := ⟨_, rfl⟩
      obtain ⟨k, hk⟩ : ∃ k, y.length = k := ⟨_, rfl⟩
      have hkm : k = min 16 n1 := by
        rw [← hk, ← hy]
        unfold cutAt
        rw [List.length_take, HJ.out.1.len]
      have HY := Lib.hid (And.intro hy hk)
      have hk16 : k ≤ 16 := by omega
      have hk0 : 0 < k := by omega
      have hkn : k ≤ n1 := by omega
      have HKM := Lib.hid hkm
      clear hkm
      have hcap := hsx.le
      obtain ⟨A5, hA5⟩ : ∃ A5, (if cap1 = k then A1 else A1.map (·.add k)) = A5 := ⟨_, rfl⟩
      have hcut : ∀ W : World, (Instr.sliceAt 29 (.slice A1 n1 cap1) (some (.int .i64 (k : Int))) none none).run Try.prog W = .ok (.slice A5 (n1 - k) (cap1 - k)) W := fun W => by
        rw [cut_lo W A1 n1 cap1 k hkn, hA5]
      have hdr := HJ.out.1.drop hkn
      rw [hA5, rest_next x i k (by rw [HJ.out.1.len]; exact HKM.out)] at hdr
      have HDR := Lib.hid hdr
      clear hrow hb2 hb3 hsx hG HREP HB1 hA5 hdr
      go_wp2_with (refine wpList_copy_splice rfl (.tmp 11) (.tmp 12) 29 29 rfl 5 Try.underlying29 HS1.out _ _ 16 16 n1 cap1 rfl rfl G 0 _ 5 HX.out.1 (bc y) ?c1 ?c2 ?c3 (bc_one y) wr.heap.size wr HX.out.2.1 HX.out.2.2.2 ?_)
      case c1 => rw [bc_len, HY.out.2, HKM.out, Nat.min_comm]
      case c2 =>
        intro h0
        obtain ⟨fg, fo, rfl, hfb, hfc⟩ := HX.out.2.2.1.spot (by omega)
        refine ⟨_, rfl, fun j v hj => ?_⟩
        obtain ⟨hj2, rfl⟩ := bc_at hj
        rw [Addr.add_lit]
        have hyl := HY.out.2
        have hj3 : j < (x.drop (16 * i)).length := by rw [HX.out.2.2.1.len]; omega
        rw [hfc j hj3]
        have : y[j] = (x.drop (16 * i))[j] := by
          simp only [← HY.out.1, cutAt, List.getElem_take]
        rw [this]
      case c3 =>
        rw [bc_len, HY.out.2]
        simp [bc_len]
        omega
      intro w3 hr3 hb3
      rw [show (bc y).length = k by rw [bc_len, HY.out.2]]
      have e2 : splice (bc (List.replicate 16 255) ++ r) 0 (bc y) = bc (padded y) ++ r := splice_pad y r (by rw [HY.out.2]; exact hk16)
      have hpl : (padded y).length = 16 := padded_len y (by rw [HY.out.2]; exact hk16)
      have r3 : Row w3 G 5 (bc (padded y) ++ r) := by rw [← e2]; exact hr3.out
      have hps : PartOk w3 w.heap.size ⟨some ⟨G, 0, none⟩, 16, 16, padded y⟩ := by
        refine ⟨row_shows r3 hpl (show (16 : Nat) ≤ maxLen by decide), fun a ha => ?_⟩
        injection ha with ha
        subst ha
        exact ⟨Nat.le_trans HJ.out.2.2.2.1.size hGw, _, r3⟩
      have hb4 := step_below HJ.out.2.2.2.1 hb3
      have hj3 := HJ.out.2.1.below hb3
      have hpg := HJ.out.2.2.1.step ⟨some ⟨G, 0, none⟩, 16, 16, padded y⟩ i HJ.out.2.1.len (by rw [HY.out.1]) rfl
      have HN := Lib.hid (And.intro hps (And.intro hj3 (And.intro hpg hb4)))
      have HOWN := Lib.hid (hj3.own.alloc (.cells #[.slice (some ⟨G, 0, none⟩) 16 16] 29))
      clear hr3 hb3 e2 hpl r3 hps hb4 hj3 hpg
      go_wp2_with (at_builtin; refine wpList_append_own _ rfl (.tmp 15) (.tmp 17) 39 rfl w.heap.size 29 i0 (.slice none 0 0) 1 24 Try.underlying39 HI0.out HZ0.out HZ1.out HZ2.out rfl (by decide) _ _ _ rfl HOWN.out ⟨w3.heap.size, 0, none⟩ 1 1 [.slice (some ⟨G, 0, none⟩) 16 16] rfl rfl ?c1 ?c2 ?c3 ?c4 ?c5 ?_)
      case c1 => exact new_one w3 _ _
      case c2 => intro u hu; simp only [List.mem_singleton] at hu; subst hu; rfl
      case c3 => unfold maxLen; omega
      case c4 => omega
      case c5 => exact Nat.le_trans HN.out.2.2.2.size (by simp)
      intro v' w4 hown4 hg4 _
      obtain ⟨A4, cap4, rfl, hP4⟩ := HN.out.2.1.step ⟨some ⟨G, 0, none⟩, 16, 16, padded y⟩ HN.out.1 _ v' hown4 hg4
      have hb4 : Below w.heap.size w w4 := (below_new HN.out.2.2.2 (.cells #[.slice (some ⟨G, 0, none⟩) 16 16] 29)).grown hg4 (Nat.le_trans HN.out.2.2.2.size (by simp)) (fun k hk => (HN.out.2.1.own.lt k hk).1)
      have HM := Lib.hid (And.intro hP4 hb4)
      have hnx : 16 * (i + 1) < n + 16 ∧ n1 - k = n - 16 * (i + 1) := by have := HJ.out.2.2.2.2; have := HKM.out; omega
      have HNX := Lib.hid hnx
      clear hown4 hg4 hP4 hb4 HOWN hnx
      go_wp2_with fail
      go_roundw
      case rel => exact ⟨i + 1, A5, n1 - k, cap1 - k, A4, cap4, ps ++ [⟨some ⟨G, 0, none⟩, 16, 16, padded y⟩], HNX.out.1, by omega, rfl, rfl, Lib.hid ⟨HDR.out, HM.out.1, HN.out.2.2.1, HM.out.2, HNX.out.2⟩⟩
      case measure =>
        show n1 - k < n1
        omega
    · have hz : n1 = 0 := by omega
      subst hz
      have HB := Lib.hid (show n ≤ 16 * i by have := HJ.out.2.2.2.2; omega)
      go_wp2
      go_ret
      exact ⟨A2, i, cap2, ps, rfl, HJ.out.2.1, HJ.out.2.2.1, HB.out, by omega, HJ.out.2.2.2.1⟩
end Go.Proofs.Ytolpiklhnafnbaa
