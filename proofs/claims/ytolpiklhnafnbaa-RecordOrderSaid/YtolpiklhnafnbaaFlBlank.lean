/- Contracts for math/bits.Mul by one and for bytes.Repeat of one byte (up to 8192 times): they speak of no package of the program. -/
import Derived.Test.YtolpiklhnafnbaaProg
import Derived.Test.YtolpiklhnafnbaaCuts
import Derived.Test.YtolpiklhnafnbaaRow
import Derived.Deep.LoopGhost
import Derived.StillTailTactics
import Derived.Lib.Hide
import Derived.Deep.RegionHeld
import Derived.Lib.SlBuf
import Derived.Lib.MakeNoZero
import Derived.Laws.Bits64b
namespace Go.Proofs.Ytolpiklhnafnbaa
set_option maxRecDepth 100000
open Go.RowKit Wd

theorem and_low (n : Nat) (h : n ≤ 8192) : bits BinOp.and IntKind.u64 (n : Int) 4294967295 = (n : Int) := by
  have := bits_and_u64_nat n 4294967295 (by omega) (by omega)
  rw [show ((4294967295 : Nat) : Int) = 4294967295 from rfl] at this
  rw [this, show (4294967295 : Nat) = 2 ^ 32 - 1 from rfl, Nat.and_two_pow_sub_one_eq_mod, Nat.mod_eq_of_lt (by omega)]

set_option maxHeartbeats 400000 in
theorem mul_one_any (n : Nat) (hn : n ≤ 8192) (w : World) :
    Calls Try.prog 68 #[.int .u64 1, .int .u64 (n : Int)] w fun e w' => e = .returned (.tuple #[.int .u64 0, .int .u64 (n : Int)]) ∧ w = w' := by
  have h1 : bits BinOp.and IntKind.u64 1 4294967295 = 1 := by decide +kernel
  have h0 : bits BinOp.and IntKind.u64 0 4294967295 = 0 := by decide +kernel
  have ha := and_low n hn
  have hw : IntKind.u64.wrap (n : Int) = (n : Int) := by rw [IntKind.wrap_u64]; omega
  have hd : (n : Int) / 4294967296 = 0 := by omega
  have hz : IntKind.u64.wrap 0 = 0 := by decide +kernel
  have H := Lib.hid (And.intro h1 (And.intro h0 (And.intro hw (And.intro hd (And.intro hz ha)))))
  clear h1 h0 hw hd hz ha
  go_enter Try.func68, Try.ntmps68
  go_wp2
  go_ret2
  refine ⟨?_, rfl⟩
  obtain ⟨h1, h0, hw, hd, hz, ha⟩ := H.out
  simp [Array.getD, h1, h0, hw, hd, hz, ha]

theorem wrap_add (b k : Nat) (h : b + k ≤ 100000) : IntKind.i64.wrap ((b : Int) + (k : Int)) = ((b + k : Nat) : Int) := by
  rw [IntKind.wrap_i64]; omega
theorem left_less (n b k : Nat) (h1 : 1 ≤ k) (h2 : b + k ≤ n) : n - (intOf (.int .i64 ((b + k : Nat) : Int))).toNat < n - (intOf (.int .i64 (b : Int))).toNat := by
  simp only [intOf, Int.toNat_natCast]
  omega

set_option maxHeartbeats 800000 in
theorem repeat_any (B : UInt8) (g c n : Nat) (w : World) (hc : w.cell? ⟨g, 0, none⟩ = some (.int .u8 (B.toNat : Int))) (_hc1 : 1 ≤ c) (hn : 1 ≤ n) (hm : n ≤ 8192) :
    Calls Try.prog 59 #[.slice (some ⟨g, 0, none⟩) 1 c, .int .i64 (n : Int)] w fun e w' => ∃ r : List Value, e = .returned (.slice (some ⟨w.heap.size, 0, none⟩) n n) ∧
      Row w' w.heap.size 5 (bc (List.replicate n B) ++ r) ∧ Below w.heap.size w w' := by
  have hw1 : ((1 : Nat) : Int) % 18446744073709551616 = 1 := by decide
  have hwn : (n : Int) % 18446744073709551616 = (n : Int) := by omega
  obtain ⟨i0, hi0, hz0, hz1, hz2⟩ := info_parts infoByte
  obtain ⟨cs, hrun, hle, hmx⟩ := Lib.run_makeNoZero (P := Try.prog) w #[3] 29 5 Try.underlying29 n (by omega)
  have hgl : g < w.heap.size := World.block_lt_of_cell? w _ hc
  have hcall : (callFunc 69 #[.int .i64 (n : Int)]).run Try.prog w = .ok (.value (.slice (some ⟨w.heap.size, 0, none⟩) n cs.size)) (w.drew.drew.alloc (.cells cs 5)) := by
    rw [run_callFunc_extern Try.func69 (by kernel_rfl) (by kernel_rfl) (by kernel_rfl) (e := Extern.BytealgMakeNoZero.makeNoZero #[3] #[29]) (by kernel_rfl), hrun]
    rfl
  obtain ⟨L, rfl⟩ : ∃ L : List Value, cs = L.toArray := ⟨cs.toList, by simp⟩
  have hle : n ≤ L.length := by simpa using hle
  obtain ⟨W0, hW0⟩ : ∃ W0, w.drew.drew.alloc (.cells L.toArray 5) = W0 := ⟨_, rfl⟩
  have r0 : Row W0 w.heap.size 5 L := by rw [← hW0]; exact heap_alloc_new w.drew.drew _
  have b0 : Below w.heap.size w W0 := by rw [← hW0]; exact ((Below.refl _ _).drew.drew).alloc (Nat.le_refl _) _
  rw [hW0] at hcall
  have hsz : (Try.prog.info? 5).map (·.size) = some 1 := by rw [hi0]; simp [hz1]
  have HSZ := Lib.hid hsz
  have hcB : W0.cell? ⟨g, 0, none⟩ = some (.int .u8 (B.toNat : Int)) := (b0.cell (p := ⟨g, 0, none⟩) hgl).trans hc
  have HCB := Lib.hid hcB
  have HR0 := Lib.hid r0
  have HB0 := Lib.hid b0
  have hsl : n ≤ L.toArray.size := by simpa using hle
  clear hc hrun hW0 r0 b0 hcB hsz hi0 hz0 hz1 hz2
  go_enter Try.func59, Try.ntmps59
  go_wp2_with fail
  refine (mul_one_any n hm _).mono ?_
  rintro _ w1 ⟨rfl, rfl⟩
  go_wp2_with (refine wpList_copy_splice rfl (.tmp 58) (.tmp 59) 29 29 rfl 5 Try.underlying29 HSZ.out _ _ n n 1 c rfl rfl w.heap.size 0 L 5 HR0.out [.int .u8 (B.toNat : Int)] ?c1 ?c2 ?c3 ?c4 w.heap.size w HB0.out (Nat.le_refl _) ?_)
  case c1 => exact (Nat.min_eq_left hn).symm
  case c2 =>
    intro j v hj
    have : j = 0 := by have := (List.getElem?_eq_some_iff.1 hj).1; simpa using this
    subst this
    obtain rfl : Value.int .u8 (B.toNat : Int) = v := by simpa using hj
    simpa [Addr.add] using HCB.out
  case c3 => simp; omega
  case c4 => intro v hv; simp at hv; subst hv; rfl
  intro w2 hr2 hb2
  have HB2 := Lib.hid hb2
  clear hb2 hcall HR0 HB0 HCB
  go_wp2_with fail
  have hr2' : Row w2 w.heap.size 5 (bc (List.replicate 1 B) ++ L.drop 1) := by
    have := hr2.out
    simpa [splice, Row, bc] using this
  have HR2 := Lib.hid hr2'
  clear hr2 hr2'
  obtain ⟨G, hG⟩ : ∃ G, w.heap.size = G := ⟨_, rfl⟩
  rw [hG] at HR2
  have HG := Lib.hid hG
  rw [hG]
  clear hG
  go_loopw [10] (fun v wr => ∃ b : Nat, 1 ≤ b ∧ b ≤ n ∧ v = .int .i64 b ∧ Row wr G 5 (bc (List.replicate b B) ++ L.drop b) ∧ Below G w wr) (fun v _ => n - (intOf v).toNat)
  case atStart => exact ⟨1, by omega, hn, rfl, HR2.out, HG.out ▸ HB2.out⟩
  case round =>
    obtain ⟨b, hb1, hbn, rfl, hrow, hbel⟩ := hrel
    have HROW := Lib.hid hrow
    have HBEL := Lib.hid hbel
    clear hrow hbel
    by_cases hlt : b < n
    · obtain ⟨k, hk⟩ : ∃ k, Nat.min b (n - b) = k := ⟨_, rfl⟩
      have hk1 : k ≤ b := by rw [← hk]; exact Nat.min_le_left _ _
      have hk2 : k ≤ n - b := by rw [← hk]; exact Nat.min_le_right _ _
      have hk3 : 1 ≤ k := by rw [← hk]; exact Nat.le_min.2 ⟨hb1, by omega⟩
      have hnb : ¬ n = b := by omega
      have hbn2 : b + k ≤ n := by omega
      have hmin : min (b : Int) (n : Int) = (b : Int) := by omega
      have hbd : (b : Int) ≤ (n : Int) := by omega
      have hcl : (bc (List.replicate k B)).length = k := by rw [bc_len, List.length_replicate]
      have P1 : (bc (List.replicate k B)).length = Nat.min b (n - b) := by rw [hcl, hk]
      have P2 : 0 < (bc (List.replicate k B)).length → (some ⟨G, b, none⟩ : Option Addr) = some ⟨G, b, none⟩ ∧ ∃ ad, (some ⟨G, 0, none⟩ : Option Addr) = some ad ∧ ∀ (j : Nat) v, (bc (List.replicate k B))[j]? = some v → wr.drew.cell? (ad.add j) = some v := by
        intro _
        refine ⟨rfl, _, rfl, fun j v hj => ?_⟩
        obtain ⟨hj2, rfl⟩ := bc_at hj
        rw [List.length_replicate] at hj2
        rw [List.getElem_replicate]
        have : (bc (List.replicate b B) ++ L.drop b)[j]? = some (.int .u8 (B.toNat : Int)) := by
          rw [List.getElem?_append_left (by rw [bc_len, List.length_replicate]; omega), bc_get _ j (by rw [List.length_replicate]; omega), List.getElem_replicate]
        have h2 := Row.cell HROW.out this
        rw [Addr.add_lit, Nat.zero_add]
        exact h2
      have P3 : b + (bc (List.replicate k B)).length ≤ (bc (List.replicate b B) ++ L.drop b).length := by
        rw [hcl, List.length_append, bc_len, List.length_replicate, List.length_drop]
        omega
      have hc1 : ∀ W : World, (Instr.sliceAt 29 (.slice (some ⟨G, 0, none⟩) n n) (some (.int .i64 (b : Int))) none none).run Try.prog W = .ok (.slice (some ⟨G, b, none⟩) (n - b) (n - b)) W := fun W => by
        rw [cut_lo W _ n n b hbn, if_neg hnb, Option.map_some, Addr.add_lit, Nat.zero_add]
      have hc2 : ∀ W : World, (Instr.sliceAt 29 (.slice (some ⟨G, 0, none⟩) n n) none (some (.int .i64 (b : Int))) none).run Try.prog W = .ok (.slice (some ⟨G, 0, none⟩) b n) W := fun W => cut_hi W _ n n b hbn
      have F := Lib.hid (And.intro hk1 (And.intro hk2 (And.intro hk3 (And.intro hbn2 hcl))))
      have Q := Lib.hid (And.intro P1 (And.intro P2 P3))
      clear hk hk1 hk2 hk3 hbn2 hcl P1 P2 P3
      go_wp2_with fail
      refine wp_region_held_drew (S := fun _ => True) (by kernel_rfl) trivial (fun hH0 => ?_)
      refine wpAnyH_take (i := 0) (v := ?_) rfl (by kernel_rfl) (by kernel_rfl) (by kernel_rfl) (fun _ _ _ h => h) (Or.inl ⟨by rfl, ?_⟩) trivial ?_
      rotate_left
      · intro w' hS'; go_simp; try exact rfl
      try simp only [Act.put, List.getElem_toArray, List.getElem_cons_zero, List.setIfInBounds_toArray, List.set_cons_zero, List.set_cons_succ]
      refine wpAnyH_take (i := 1) (v := ?_) rfl (by kernel_rfl) (by kernel_rfl) (by kernel_rfl) (fun _ _ _ h => h) (Or.inl ⟨by rfl, ?_⟩) trivial ?_
      rotate_left
      · intro w' hS'; go_simp; try exact rfl
      try simp only [Act.put, List.getElem_toArray, List.getElem_cons_succ, List.getElem_cons_zero, List.setIfInBounds_toArray, List.set_cons_zero, List.set_cons_succ]
      refine wpAnyH_take (i := 2) (v := ?_) rfl (by kernel_rfl) (by kernel_rfl) (by kernel_rfl) (fun _ _ _ h => h) (Or.inl ⟨by rfl, ?_⟩) trivial ?_
      rotate_left
      · intro w' hS'; go_simp; try exact rfl
      try simp only [Act.put, List.getElem_toArray, List.getElem_cons_succ, List.getElem_cons_zero, List.setIfInBounds_toArray, List.set_cons_zero, List.set_cons_succ]
      refine wpAnyH_take (i := 3) (v := ?_) rfl (by kernel_rfl) (by kernel_rfl) (by kernel_rfl) (fun _ _ _ h => h) (Or.inl ⟨by rfl, ?_⟩) trivial ?_
      rotate_left
      · intro w' hS'; go_simp; try exact rfl
      try simp only [Act.put, List.getElem_toArray, List.getElem_cons_succ, List.getElem_cons_zero, List.setIfInBounds_toArray, List.set_cons_zero, List.set_cons_succ]
      refine wpAnyH_take (i := 4) (v := ?_) rfl (by kernel_rfl) (by kernel_rfl) (by kernel_rfl) (fun _ _ _ h => h) (Or.inl ⟨by rfl, ?_⟩) trivial ?_
      rotate_left
      · intro w' hS'; go_simp; try exact rfl
      try simp only [Act.put, List.getElem_toArray, List.getElem_cons_succ, List.getElem_cons_zero, List.setIfInBounds_toArray, List.set_cons_zero, List.set_cons_succ]
      refine wpAnyH_take (i := 5) (v := ?_) rfl (by kernel_rfl) (by kernel_rfl) (by kernel_rfl) (fun _ _ _ h => h) (Or.inl ⟨by rfl, ?_⟩) trivial ?_
      rotate_left
      · intro w' hS'; go_simp; try exact rfl
      try simp only [Act.put, List.getElem_toArray, List.getElem_cons_succ, List.getElem_cons_zero, List.setIfInBounds_toArray, List.set_cons_zero, List.set_cons_succ]
      refine wpAnyH_take (i := 6) (v := ?_) rfl (by kernel_rfl) (by kernel_rfl) (by kernel_rfl) (fun _ _ _ h => h) (Or.inl ⟨by rfl, ?_⟩) trivial ?_
      rotate_left
      · intro w' hS'; go_simp; try exact rfl
      try simp only [Act.put, List.getElem_toArray, List.getElem_cons_succ, List.getElem_cons_zero, List.setIfInBounds_toArray, List.set_cons_zero, List.set_cons_succ]
      refine wpAnyH_ready (rs := [7]) (by kernel_rfl) (by simp) ?_
      refine AllReadyH.cons rfl (fun K hK => ?_) AllReadyH.nil
      refine step_copy_splice rfl (.tmp 70) (.tmp 73) 29 29 rfl 5 Try.underlying29 HSZ.out (some ⟨G, b, none⟩) (some ⟨G, 0, none⟩) (n - b) (n - b) b n rfl rfl G b _ 5 HROW.out (bc (List.replicate k B)) Q.out.1 (fun h => ⟨rfl, (Q.out.2.1 h).2⟩) Q.out.2.2 (bc_one _) G w HBEL.out.drew (Nat.le_refl _) ?_
      intro w3 hr3 hb3
      refine hK.out _ _ trivial (fun hH1 => ?_)
      clear hK K
      try simp only [Act.put, List.getElem_toArray, List.getElem_cons_succ, List.getElem_cons_zero, List.setIfInBounds_toArray, List.set_cons_zero, List.set_cons_succ]
      refine wpAnyH_take (i := 8) (v := ?_) rfl (by kernel_rfl) (by kernel_rfl) (by kernel_rfl) (fun _ _ _ h => h) (Or.inl ⟨by rfl, ?_⟩) trivial ?_
      rotate_left
      · intro w' hS'; go_simp; try exact rfl
      try simp only [Act.put, List.getElem_toArray, List.getElem_cons_succ, List.getElem_cons_zero, List.setIfInBounds_toArray, List.set_cons_zero, List.set_cons_succ]
      refine wpAnyH_take (i := 9) (v := ?_) rfl (by kernel_rfl) (by kernel_rfl) (by kernel_rfl) (fun _ _ _ h => h) (Or.inl ⟨by rfl, ?_⟩) trivial ?_
      rotate_left
      · intro w' hS'; go_simp; try exact rfl
      try simp only [Act.put, List.getElem_toArray, List.getElem_cons_succ, List.getElem_cons_zero, List.setIfInBounds_toArray, List.set_cons_zero, List.set_cons_succ]
      refine wpAnyH_done (by kernel_rfl) ?_ _
      clear hH0 hH1
      go_wp2
      obtain ⟨hk1, hk2, hk3, hbn2, hcl⟩ := F.out
      rw [hcl, wrap_add b k (by omega)]
      refine ⟨⟨b + k, by omega, hbn2, rfl, ?_, hb3⟩, left_less n b k hk3 hbn2⟩
      · have h := hr3.out
        have e : splice (bc (List.replicate b B) ++ L.drop b) b (bc (List.replicate k B)) = bc (List.replicate (b + k) B) ++ L.drop (b + k) := by
          unfold splice
          rw [hcl, List.take_left' (by rw [bc_len, List.length_replicate]), List.drop_append, bc_len, List.length_replicate, List.drop_eq_nil_of_le (by rw [bc_len, List.length_replicate]; omega), List.nil_append, List.drop_drop,
            ← List.append_assoc, ← bc_app, List.replicate_append_replicate]
          congr 2
          omega
        rw [e] at h
        exact h
    · have hbn3 : b = n := by omega
      subst hbn3
      go_wp2
      go_ret
      rw [HG.out] at *
      exact ⟨L.drop b, rfl, HROW.out, HBEL.out⟩
end Go.Proofs.Ytolpiklhnafnbaa
