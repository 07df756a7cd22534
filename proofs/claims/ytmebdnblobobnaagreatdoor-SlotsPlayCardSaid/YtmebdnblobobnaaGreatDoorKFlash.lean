/- Merged: Contracts for math/bits.Mul by one and for bytes.Repeat of one byte (up to 8192 times): they speak of no package of the program. Package flash: what a memory has in its block, and the contracts of its small functions. Package flash: contracts of its power, and of where pages are. Package flash: contracts of sets and blend. Package flash: contracts of write, Erase and Program. Package flash: contracts of its face. Package flash: the contract of New. Literals of bytes in blocks of their own. They speak of no package of the program. -/
import Derived.Test.YtmebdnblobobnaaGreatDoorProg
import Derived.Test.YtmebdnblobobnaaGreatDoorKMem
import Derived.Deep.LoopGhost
import Derived.StillTailTactics
import Derived.Lib.Hide
import Derived.Deep.RegionHeld
import Derived.Lib.SlBuf
import Derived.Lib.MakeNoZero
import Derived.Laws.Bits64b
import Derived.Test.YtmebdnblobobnaaGreatDoorKBase
namespace Go.Proofs.YtmebdnblobobnaaGreatDoor
set_option maxRecDepth 100000
open Go.RowKit _root_.Go.Proofs.YtmebdnblobobnaaGreatDoor.Wd

theorem and_low (n : Nat) (h : n ≤ 8192) : bits BinOp.and IntKind.u64 (n : Int) 4294967295 = (n : Int) := by
  have := bits_and_u64_nat n 4294967295 (by omega) (by omega)
  rw [show ((4294967295 : Nat) : Int) = 4294967295 from rfl] at this
  rw [this, show (4294967295 : Nat) = 2 ^ 32 - 1 from rfl, Nat.and_two_pow_sub_one_eq_mod, Nat.mod_eq_of_lt (by omega)]

set_option maxHeartbeats 400000 in
theorem mul_one_any (n : Nat) (hn : n ≤ 8192) (w : World) :
    Calls Tryz.prog 101 #[.int .u64 1, .int .u64 (n : Int)] w fun e w' => e = .returned (.tuple #[.int .u64 0, .int .u64 (n : Int)]) ∧ w = w' := by
  have h1 : bits BinOp.and IntKind.u64 1 4294967295 = 1 := by decide +kernel
  have h0 : bits BinOp.and IntKind.u64 0 4294967295 = 0 := by decide +kernel
  have ha := and_low n hn
  have hw : IntKind.u64.wrap (n : Int) = (n : Int) := by rw [IntKind.wrap_u64]; omega
  have hd : (n : Int) / 4294967296 = 0 := by omega
  have hz : IntKind.u64.wrap 0 = 0 := by decide +kernel
  have H := Lib.hid (And.intro h1 (And.intro h0 (And.intro hw (And.intro hd (And.intro hz ha)))))
  clear h1 h0 hw hd hz ha
  go_enter Tryz.func101, Tryz.ntmps101
  go_wp2
  go_ret2
  refine ⟨?_, rfl⟩
  obtain ⟨h1, h0, hw, hd, hz, ha⟩ := H.out
  simp [Array.getD, h1, h0, hw, hd, hz, ha]

theorem wrap_add (b k : Nat) (h : b + k ≤ 100000) : IntKind.i64.wrap ((b : Int) + (k : Int)) = ((b + k : Nat) : Int) := by
  rw [IntKind.wrap_i64]; omega
theorem left_less (n b k : Nat) (h1 : 1 ≤ k) (h2 : b + k ≤ n) : n - (intOf (.int .i64 ((b + k : Nat) : Int))).toNat < n - (intOf (.int .i64 (b : Int))).toNat := by
  simp only [intOf, Int.toNat_natCast]
  omega

set_option maxHeartbeats 800000 in
theorem repeat_any (B : UInt8) (g c n : Nat) (w : World) (hc : w.cell? ⟨g, 0, none⟩ = some (.int .u8 (B.toNat : Int))) (_hc1 : 1 ≤ c) (hn : 1 ≤ n) (hm : n ≤ 8192) :
    Calls Tryz.prog 75 #[.slice (some ⟨g, 0, none⟩) 1 c, .int .i64 (n : Int)] w fun e w' => ∃ r : List Value, e = .returned (.slice (some ⟨w.heap.size, 0, none⟩) n n) ∧
      Row w' w.heap.size 5 (bc (List.replicate n B) ++ r) ∧ Below w.heap.size w w' := by
  have hw1 : ((1 : Nat) : Int) % 18446744073709551616 = 1 := by decide
  have hwn : (n : Int) % 18446744073709551616 = (n : Int) := by omega
  obtain ⟨i0, hi0, hz0, hz1, hz2⟩ := info_parts infoByte
  obtain ⟨cs, hrun, hle, hmx⟩ := Lib.run_makeNoZero (P := Tryz.prog) w #[3] 29 5 Tryz.underlying29 n (by omega)
  have hgl : g < w.heap.size := World.block_lt_of_cell? w _ hc
  have hcall : (callFunc 102 #[.int .i64 (n : Int)]).run Tryz.prog w = .ok (.value (.slice (some ⟨w.heap.size, 0, none⟩) n cs.size)) (w.drew.drew.alloc (.cells cs 5)) := by
    rw [run_callFunc_extern Tryz.func102 (by kernel_rfl) (by kernel_rfl) (by kernel_rfl) (e := Extern.BytealgMakeNoZero.makeNoZero #[3] #[29]) (by kernel_rfl), hrun]
    rfl
  obtain ⟨L, rfl⟩ : ∃ L : List Value, cs = L.toArray := ⟨cs.toList, by simp⟩
  have hle : n ≤ L.length := by simpa using hle
  obtain ⟨W0, hW0⟩ : ∃ W0, w.drew.drew.alloc (.cells L.toArray 5) = W0 := ⟨_, rfl⟩
  have r0 : Row W0 w.heap.size 5 L := by rw [← hW0]; exact heap_alloc_new w.drew.drew _
  have b0 : Below w.heap.size w W0 := by rw [← hW0]; exact ((Below.refl _ _).drew.drew).alloc (Nat.le_refl _) _
  rw [hW0] at hcall
  have hsz : (Tryz.prog.info? 5).map (·.size) = some 1 := by rw [hi0]; simp [hz1]
  have HSZ := Lib.hid hsz
  have hcB : W0.cell? ⟨g, 0, none⟩ = some (.int .u8 (B.toNat : Int)) := (b0.cell (p := ⟨g, 0, none⟩) hgl).trans hc
  have HCB := Lib.hid hcB
  have HR0 := Lib.hid r0
  have HB0 := Lib.hid b0
  have hsl : n ≤ L.toArray.size := by simpa using hle
  clear hc hrun hW0 r0 b0 hcB hsz hi0 hz0 hz1 hz2
  go_enter Tryz.func75, Tryz.ntmps75
  go_wp2_with fail
  refine (mul_one_any n hm _).mono ?_
  rintro _ w1 ⟨rfl, rfl⟩
  go_wp2_with (refine wpList_copy_splice rfl (.tmp 58) (.tmp 59) 29 29 rfl 5 Tryz.underlying29 HSZ.out _ _ n n 1 c rfl rfl w.heap.size 0 L 5 HR0.out [.int .u8 (B.toNat : Int)] ?c1 ?c2 ?c3 ?c4 w.heap.size w HB0.out (Nat.le_refl _) ?_)
  case c1 => exact (Nat.min_eq_left hn).symm
  case c2 =>
    intro j v hj
    have : j = 0 := by have := (List.getElem?_eq_some_iff.1 hj).1; simpa using this
    subst this
    obtain rfl : Value.int .u8 (B.toNat : Int) = v := by simpa using hj
    simpa [Addr.add] using HCB.out
  case c3 => simp; omega
  case c4 => intro v hv; simp at hv; subst hv; rfl
  intro w2 hr2 hb2
  have HB2 := Lib.hid hb2
  clear hb2 hcall HR0 HB0 HCB
  go_wp2_with fail
  have hr2' : Row w2 w.heap.size 5 (bc (List.replicate 1 B) ++ L.drop 1) := by
    have := hr2.out
    simpa [splice, Row, bc] using this
  have HR2 := Lib.hid hr2'
  clear hr2 hr2'
  obtain ⟨G, hG⟩ : ∃ G, w.heap.size = G := ⟨_, rfl⟩
  rw [hG] at HR2
  have HG := Lib.hid hG
  rw [hG]
  clear hG
  go_loopw [10] (fun v wr => ∃ b : Nat, 1 ≤ b ∧ b ≤ n ∧ v = .int .i64 b ∧ Row wr G 5 (bc (List.replicate b B) ++ L.drop b) ∧ Below G w wr) (fun v _ => n - (intOf v).toNat)
  case atStart => exact ⟨1, by omega, hn, rfl, HR2.out, HG.out ▸ HB2.out⟩
  case round =>
    obtain ⟨b, hb1, hbn, rfl, hrow, hbel⟩ := hrel
    have HROW := Lib.hid hrow
    have HBEL := Lib.hid hbel
    clear hrow hbel
    by_cases hlt : b < n
    · obtain ⟨k, hk⟩ : ∃ k, Nat.min b (n - b) = k := ⟨_, rfl⟩
      have hk1 : k ≤ b := by rw [← hk]; exact Nat.min_le_left _ _
      have hk2 : k ≤ n - b := by rw [← hk]; exact Nat.min_le_right _ _
      have hk3 : 1 ≤ k := by rw [← hk]; exact Nat.le_min.2 ⟨hb1, by omega⟩
      have hnb : ¬ n = b := by omega
      have hbn2 : b + k ≤ n := by omega
      have hmin : min (b : Int) (n : Int) = (b : Int) := by omega
      have hbd : (b : Int) ≤ (n : Int) := by omega
      have hcl : (bc (List.replicate k B)).length = k := by rw [bc_len, List.length_replicate]
      have P1 : (bc (List.replicate k B)).length = Nat.min b (n - b) := by rw [hcl, hk]
      have P2 : 0 < (bc (List.replicate k B)).length → (some ⟨G, b, none⟩ : Option Addr) = some ⟨G, b, none⟩ ∧ ∃ ad, (some ⟨G, 0, none⟩ : Option Addr) = some ad ∧ ∀ (j : Nat) v, (bc (List.replicate k B))[j]? = some v → wr.drew.cell? (ad.add j) = some v := by
        intro _
        refine ⟨rfl, _, rfl, fun j v hj => ?_⟩
        obtain ⟨hj2, rfl⟩ := bc_at hj
        rw [List.length_replicate] at hj2
        rw [List.getElem_replicate]
        have : (bc (List.replicate b B) ++ L.drop b)[j]? = some (.int .u8 (B.toNat : Int)) := by
          rw [List.getElem?_append_left (by rw [bc_len, List.length_replicate]; omega), bc_get _ j (by rw [List.length_replicate]; omega), List.getElem_replicate]
        have h2 := Row.cell HROW.out this
        rw [Addr.add_lit, Nat.zero_add]
        exact h2
      have P3 : b + (bc (List.replicate k B)).length ≤ (bc (List.replicate b B) ++ L.drop b).length := by
        rw [hcl, List.length_append, bc_len, List.length_replicate, List.length_drop]
        omega
      have hc1 : ∀ W : World, (Instr.sliceAt 29 (.slice (some ⟨G, 0, none⟩) n n) (some (.int .i64 (b : Int))) none none).run Tryz.prog W = .ok (.slice (some ⟨G, b, none⟩) (n - b) (n - b)) W := fun W => by
        rw [cut_lo W _ n n b hbn, if_neg hnb, Option.map_some, Addr.add_lit, Nat.zero_add]
      have hc2 : ∀ W : World, (Instr.sliceAt 29 (.slice (some ⟨G, 0, none⟩) n n) none (some (.int .i64 (b : Int))) none).run Tryz.prog W = .ok (.slice (some ⟨G, 0, none⟩) b n) W := fun W => cut_hi W _ n n b hbn
      have F := Lib.hid (And.intro hk1 (And.intro hk2 (And.intro hk3 (And.intro hbn2 hcl))))
      have Q := Lib.hid (And.intro P1 (And.intro P2 P3))
      clear hk hk1 hk2 hk3 hbn2 hcl P1 P2 P3
      go_wp2_with fail
      refine wp_region_held_drew (S := fun _ => True) (by kernel_rfl) trivial (fun hH0 => ?_)
      refine wpAnyH_take (i := 0) (v := ?_) rfl (by kernel_rfl) (by kernel_rfl) (by kernel_rfl) (fun _ _ _ h => h) (Or.inl ⟨by rfl, ?_⟩) trivial ?_
      rotate_left
      · intro w' hS'; go_simp; try exact rfl
      try simp only [Act.put, List.getElem_toArray, List.getElem_cons_zero, List.setIfInBounds_toArray, List.set_cons_zero, List.set_cons_succ]
      refine wpAnyH_take (i := 1) (v := ?_) rfl (by kernel_rfl) (by kernel_rfl) (by kernel_rfl) (fun _ _ _ h => h) (Or.inl ⟨by rfl, ?_⟩) trivial ?_
      rotate_left
      · intro w' hS'; go_simp; try exact rfl
      try simp only [Act.put, List.getElem_toArray, List.getElem_cons_succ, List.getElem_cons_zero, List.setIfInBounds_toArray, List.set_cons_zero, List.set_cons_succ]
      refine wpAnyH_take (i := 2) (v := ?_) rfl (by kernel_rfl) (by kernel_rfl) (by kernel_rfl) (fun _ _ _ h => h) (Or.inl ⟨by rfl, ?_⟩) trivial ?_
      rotate_left
      · intro w' hS'; go_simp; try exact rfl
      try simp only [Act.put, List.getElem_toArray, List.getElem_cons_succ, List.getElem_cons_zero, List.setIfInBounds_toArray, List.set_cons_zero, List.set_cons_succ]
      refine wpAnyH_take (i := 3) (v := ?_) rfl (by kernel_rfl) (by kernel_rfl) (by kernel_rfl) (fun _ _ _ h => h) (Or.inl ⟨by rfl, ?_⟩) trivial ?_
      rotate_left
      · intro w' hS'; go_simp; try exact rfl
      try simp only [Act.put, List.getElem_toArray, List.getElem_cons_succ, List.getElem_cons_zero, List.setIfInBounds_toArray, List.set_cons_zero, List.set_cons_succ]
      refine wpAnyH_take (i := 4) (v := ?_) rfl (by kernel_rfl) (by kernel_rfl) (by kernel_rfl) (fun _ _ _ h => h) (Or.inl ⟨by rfl, ?_⟩) trivial ?_
      rotate_left
      · intro w' hS'; go_simp; try exact rfl
      try simp only [Act.put, List.getElem_toArray, List.getElem_cons_succ, List.getElem_cons_zero, List.setIfInBounds_toArray, List.set_cons_zero, List.set_cons_succ]
      refine wpAnyH_take (i := 5) (v := ?_) rfl (by kernel_rfl) (by kernel_rfl) (by kernel_rfl) (fun _ _ _ h => h) (Or.inl ⟨by rfl, ?_⟩) trivial ?_
      rotate_left
      · intro w' hS'; go_simp; try exact rfl
      try simp only [Act.put, List.getElem_toArray, List.getElem_cons_succ, List.getElem_cons_zero, List.setIfInBounds_toArray, List.set_cons_zero, List.set_cons_succ]
      refine wpAnyH_take (i := 6) (v := ?_) rfl (by kernel_rfl) (by kernel_rfl) (by kernel_rfl) (fun _ _ _ h => h) (Or.inl ⟨by rfl, ?_⟩) trivial ?_
      rotate_left
      · intro w' hS'; go_simp; try exact rfl
      try simp only [Act.put, List.getElem_toArray, List.getElem_cons_succ, List.getElem_cons_zero, List.setIfInBounds_toArray, List.set_cons_zero, List.set_cons_succ]
      refine wpAnyH_ready (rs := [7]) (by kernel_rfl) (by simp) ?_
      refine AllReadyH.cons rfl (fun K hK => ?_) AllReadyH.nil
      refine step_copy_splice rfl (.tmp 70) (.tmp 73) 29 29 rfl 5 Tryz.underlying29 HSZ.out (some ⟨G, b, none⟩) (some ⟨G, 0, none⟩) (n - b) (n - b) b n rfl rfl G b _ 5 HROW.out (bc (List.replicate k B)) Q.out.1 (fun h => ⟨rfl, (Q.out.2.1 h).2⟩) Q.out.2.2 (bc_one _) G w HBEL.out.drew (Nat.le_refl _) ?_
      intro w3 hr3 hb3
      refine hK.out _ _ trivial (fun hH1 => ?_)
      clear hK K
      try simp only [Act.put, List.getElem_toArray, List.getElem_cons_succ, List.getElem_cons_zero, List.setIfInBounds_toArray, List.set_cons_zero, List.set_cons_succ]
      refine wpAnyH_take (i := 8) (v := ?_) rfl (by kernel_rfl) (by kernel_rfl) (by kernel_rfl) (fun _ _ _ h => h) (Or.inl ⟨by rfl, ?_⟩) trivial ?_
      rotate_left
      · intro w' hS'; go_simp; try exact rfl
      try simp only [Act.put, List.getElem_toArray, List.getElem_cons_succ, List.getElem_cons_zero, List.setIfInBounds_toArray, List.set_cons_zero, List.set_cons_succ]
      refine wpAnyH_take (i := 9) (v := ?_) rfl (by kernel_rfl) (by kernel_rfl) (by kernel_rfl) (fun _ _ _ h => h) (Or.inl ⟨by rfl, ?_⟩) trivial ?_
      rotate_left
      · intro w' hS'; go_simp; try exact rfl
      try simp only [Act.put, List.getElem_toArray, List.getElem_cons_succ, List.getElem_cons_zero, List.setIfInBounds_toArray, List.set_cons_zero, List.set_cons_succ]
      refine wpAnyH_done (by kernel_rfl) ?_ _
      clear hH0 hH1
      go_wp2
      obtain ⟨hk1, hk2, hk3, hbn2, hcl⟩ := F.out
      rw [hcl, wrap_add b k (by omega)]
      refine ⟨⟨b + k, by omega, hbn2, rfl, ?_, hb3⟩, left_less n b k hk3 hbn2⟩
      · have h := hr3.out
        have e : splice (bc (List.replicate b B) ++ L.drop b) b (bc (List.replicate k B)) = bc (List.replicate (b + k) B) ++ L.drop (b + k) := by
          unfold splice
          rw [hcl, List.take_left' (by rw [bc_len, List.length_replicate]), List.drop_append, bc_len, List.length_replicate, List.drop_eq_nil_of_le (by rw [bc_len, List.length_replicate]; omega), List.nil_append, List.drop_drop,
            ← List.append_assoc, ← bc_app, List.replicate_append_replicate]
          congr 2
          omega
        rw [e] at h
        exact h
    · have hbn3 : b = n := by omega
      subst hbn3
      go_wp2
      go_ret
      rw [HG.out] at *
      exact ⟨L.drop b, rfl, HROW.out, HBEL.out⟩
end Go.Proofs.YtmebdnblobobnaaGreatDoor

namespace Go.Proofs.YtmebdnblobobnaaGreatDoor
set_option maxRecDepth 100000
open Go.RowKit _root_.Go.Proofs.YtmebdnblobobnaaGreatDoor.Wd _root_.Go.Proofs.YtmebdnblobobnaaGreatDoor.Fm

def flCells (m : Mem) (v : Value) : List Value := bc m.B ++ [Value.bool m.dead, .int .i64 m.ops, .int .i64 m.left, v]
theorem flCells_len (m : Mem) (v : Value) (h : m.B.length = 6144) : (flCells m v).length = 6148 := by simp [flCells, bc_len, h]
theorem flCells_at (m : Mem) (v : Value) (h : m.B.length = 6144) : (flCells m v)[6144]? = some (.bool m.dead) ∧ (flCells m v)[6145]? = some (.int .i64 m.ops) ∧ (flCells m v)[6146]? = some (.int .i64 m.left) ∧ (flCells m v)[6147]? = some v := by
  have hl : (bc m.B).length = 6144 := by rw [bc_len, h]
  unfold flCells
  refine ⟨?_, ?_, ?_, ?_⟩ <;> rw [List.getElem?_append_right (by omega), hl] <;> rfl
theorem flCells_byte (m : Mem) (v : Value) (h : m.B.length = 6144) (i : Nat) (hi : i < 6144) : (flCells m v)[i]? = some (.int .u8 ((m.B.getD i 0).toNat : Int)) := by
  unfold flCells
  rw [List.getElem?_append_left (by rw [bc_len, h]; exact hi), bc_get _ i (by omega)]
  simp [List.getD, List.getElem?_eq_getElem (show i < m.B.length by omega)]
theorem flCells_set (m : Mem) (v x : Value) (h : m.B.length = 6144) (d : Bool) (n : Int) :
    (flCells m v).set 6144 (.bool d) = flCells { m with dead := d } v ∧ (flCells m v).set 6145 (.int .i64 n) = flCells { m with ops := n } v ∧
    (flCells m v).set 6146 (.int .i64 n) = flCells { m with left := n } v ∧ (flCells m v).set 6147 x = flCells m x := by
  have hl : (bc m.B).length = 6144 := by rw [bc_len, h]
  unfold flCells
  refine ⟨?_, ?_, ?_, ?_⟩ <;> rw [List.set_append_right _ _ (by omega), hl] <;> rfl

/-- The block g holds the memory m; the mask's bytes lie in a row of their own. -/
structure Fl (w : World) (g : Nat) (m : Mem) : Prop where
  size : m.B.length = 6144
  l0 : 0 ≤ m.left
  l1 : m.left ≤ 9223372036854775807
  few : m.mask.length ≤ 1024
  spot : ∃ A n cap, Row w g 61 (flCells m (.slice A n cap)) ∧ w.ownsRow 0 5 1 (.slice A n cap) n (bc m.mask)
theorem Fl.lt {w : World} {g : Nat} {m : Mem} (h : Fl w g m) : g < w.heap.size := by
  obtain ⟨A, n, cap, hr, _⟩ := h.spot
  exact hr.lt
/-- A row of bytes is in no block of another type. -/
theorem own_other {w : World} {base n m c k : Nat} {e T : TypeId} {A : Option Addr} {xs : List Value} {cs : Array Value} (h : w.ownsRow base e 1 (.slice A m c) n xs) (hk : w.heap[k]? = some (.cells cs T (0, 0))) (hT : T ≠ e) : ∀ b, A.map (·.block) = some b → some k ≠ some b := by
  intro b hb he
  injection he with he
  subst he
  rcases h.2 with ⟨h', _⟩ | ⟨g, cap', cur, h', _, hg, _⟩
  · injection h' with h1 _ _
    subst h1
    cases hb
  · injection h' with h1 _ _
    subst h1
    have hgk : g = k := by injection hb
    rw [hgk, hk] at hg
    injection hg with hg
    injection hg with _ h2 _
    exact hT h2
theorem Fl.kept {w w' : World} {g k : Nat} {m : Mem} (h : Fl w g m) (hg : w.grownBy w' (some k)) (hk : k ≠ g) (T : TypeId) (cs : Array Value) (hb : w.heap[k]? = some (.cells cs T (0, 0))) (hT : T ≠ 5) : Fl w' g m := by
  obtain ⟨A, n, cap, hr, ho⟩ := h.spot
  refine ⟨h.size, h.l0, h.l1, h.few, A, n, cap, ?_, grow_own ho hg (own_other ho hb hT)⟩
  exact (hg.block g hr.lt (fun e => hk (by injection e with e; exact e.symm))).trans hr
theorem Fl.new {w w' : World} {g : Nat} {m : Mem} (h : Fl w g m) (hg : w.grownBy w' none) : Fl w' g m := by
  obtain ⟨A, n, cap, hr, ho⟩ := h.spot
  refine ⟨h.size, h.l0, h.l1, h.few, A, n, cap, ?_, grow_own ho hg (fun k _ e => by cases e)⟩
  exact (hg.block g hr.lt (fun e => by cases e)).trans hr
theorem Fl.below {w w' : World} {g : Nat} {m : Mem} (h : Fl w g m) (hb : Below w.heap.size w w') : Fl w' g m := h.new (below_grow hb none)

theorem hasSector_any (v : Value) (s : Int) (w : World) :
    Calls Tryz.prog 55 #[v, .int .i64 s] w fun e w' => e = .returned (.bool (decide (isSector s))) ∧ w = w' := by
  by_cases h0 : 0 ≤ s
  · by_cases h1 : s < 6
    · have hd : decide (isSector s) = true := by simp [isSector, h0, h1]
      rw [hd]
      clear hd
      go_enter Tryz.func55, Tryz.ntmps55
      go_wp2
      go_ret
      exact ⟨rfl, rfl⟩
    · have hd : decide (isSector s) = false := by simp [isSector, h1]
      rw [hd]
      clear hd
      go_enter Tryz.func55, Tryz.ntmps55
      go_wp2
      go_ret
      exact ⟨rfl, rfl⟩
  · have hd : decide (isSector s) = false := by simp [isSector, h0]
    rw [hd]
    clear hd
    go_enter Tryz.func55, Tryz.ntmps55
    go_wp2
    go_ret
    exact ⟨rfl, rfl⟩

theorem hasPage_any (v : Value) (s p : Int) (w : World) :
    Calls Tryz.prog 76 #[v, .int .i64 s, .int .i64 p] w fun e w' => e = .returned (.bool (decide (isPage s p))) ∧ w = w' := by
  by_cases hs : isSector s
  · have hsd : decide (isSector s) = true := decide_eq_true hs
    have H := hasSector_any v s w
    rw [hsd] at H
    have HS := Lib.hid H
    by_cases h0 : 0 ≤ p
    · by_cases h1 : p < 64
      · have hp : decide (p < 64) = true := decide_eq_true h1
        have hd : decide (isPage s p) = true := decide_eq_true ⟨hs, h0, h1⟩
        rw [hd]
        clear hd H hsd hs
        go_enter Tryz.func76, Tryz.ntmps76
        go_wp2_with ((with_reducible refine HS.out.mono ?_); rintro _ w1 ⟨rfl, rfl⟩)
        go_ret
        exact ⟨rfl, rfl⟩
      · have hp : decide (p < 64) = false := decide_eq_false h1
        have hd : decide (isPage s p) = false := decide_eq_false fun h => h1 h.2.2
        rw [hd]
        clear hd H hsd hs
        go_enter Tryz.func76, Tryz.ntmps76
        go_wp2_with ((with_reducible refine HS.out.mono ?_); rintro _ w1 ⟨rfl, rfl⟩)
        go_ret
        exact ⟨rfl, rfl⟩
    · have hd : decide (isPage s p) = false := decide_eq_false fun h => h0 h.2.1
      rw [hd]
      clear hd H hsd hs
      go_enter Tryz.func76, Tryz.ntmps76
      go_wp2_with ((with_reducible refine HS.out.mono ?_); rintro _ w1 ⟨rfl, rfl⟩)
      go_ret
      exact ⟨rfl, rfl⟩
  · have hsd : decide (isSector s) = false := decide_eq_false hs
    have H := hasSector_any v s w
    rw [hsd] at H
    have HS := Lib.hid H
    have hd : decide (isPage s p) = false := decide_eq_false fun h => hs h.1
    rw [hd]
    clear hd H hsd hs
    go_enter Tryz.func76, Tryz.ntmps76
    go_wp2_with ((with_reducible refine HS.out.mono ?_); rintro _ w1 ⟨rfl, rfl⟩)
    go_ret
    exact ⟨rfl, rfl⟩

theorem sector_any (g : Nat) (s : Nat) (hs : s < 6) (w : World) :
    Calls Tryz.prog 49 #[.pointer (some ⟨g, 0, none⟩), .int .i64 (s : Int)] w fun e w' => e = .returned (.slice (some ⟨g, s * 1024, none⟩) 1024 1024) ∧ w = w' := by
  go_enter Tryz.func49, Tryz.ntmps49
  go_wp2
  go_ret
  exact ⟨rfl, rfl⟩
end Go.Proofs.YtmebdnblobobnaaGreatDoor

namespace Go.Proofs.YtmebdnblobobnaaGreatDoor
set_option maxRecDepth 100000
open Go.RowKit _root_.Go.Proofs.YtmebdnblobobnaaGreatDoor.Wd _root_.Go.Proofs.YtmebdnblobobnaaGreatDoor.Fm

theorem grow_set {w w' : World} {g : Nat} (h : w.grownBy w' (some g)) (i : Nat) (v : Value) : w.grownBy (w'.setCell ⟨g, i, none⟩ v) (some g) :=
  ⟨h.os, h.tape, h.output, by simpa using h.size, fun k hk hne => (heap_setCell_other w' _ k v (fun e => hne (by rw [e]))).trans (h.block k hk hne)⟩
theorem own_set {w : World} {g i base n m c : Nat} {e T : TypeId} {A : Option Addr} {xs : List Value} {cs : List Value} (v : Value) (h : w.ownsRow base e 1 (.slice A m c) n xs) (hr : Row w g T cs) (hT : T ≠ e) : (w.setCell ⟨g, i, none⟩ v).ownsRow base e 1 (.slice A m c) n xs :=
  grow_own h (grow_set (grow_refl w (some g)) i v) (fun k hk e => own_other h hr hT k hk e)
theorem Wd.Shows.apart {w w' : World} {B g n cap : Nat} {A : Option Addr} {l : List UInt8} (h : Shows w B A n cap l) (hg : w.grownBy w' (some g)) (hne : ∀ a, A = some a → 0 < n → a.block ≠ g) : Shows w' B A n cap l :=
  ⟨h.len, h.le, h.top, fun hn => by
    obtain ⟨b, o, e, hb, hc⟩ := h.spot hn
    exact ⟨b, o, e, hb, fun j hj => hg.cell (hc j hj) (fun e2 => hne _ e hn (by injection e2))⟩⟩
theorem ty_ne : 61 ≠ 5 := by decide

theorem page_any (g : Nat) (s p : Nat) (hs : s < 6) (hp : p < 64) (w : World) :
    Calls Tryz.prog 77 #[.pointer (some ⟨g, 0, none⟩), .int .i64 (s : Int), .int .i64 (p : Int)] w fun e w' => e = .returned (.slice (some ⟨g, s * 1024 + p * 16, none⟩) 16 (1024 - p * 16)) ∧ w = w' := by
  have HS := Lib.hid (sector_any g s hs w)
  have h1 : ¬ 1024 = p * 16 := by omega
  have h2 : p * 16 ≤ 1024 := by omega
  have h3 : (p : Int) * 16 = ((p * 16 : Nat) : Int) := by omega
  have c1 : ∀ W : World, (Instr.sliceAt 29 (.slice (some ⟨g, s * 1024, none⟩) 1024 1024) (some (.int .i64 ((p : Int) * 16))) none none).run Tryz.prog W = .ok (.slice (some ⟨g, s * 1024 + p * 16, none⟩) (1024 - p * 16) (1024 - p * 16)) W := fun W => by
    rw [h3, cut_lo W _ 1024 1024 (p * 16) h2, if_neg h1, Option.map_some, Addr.add_lit]
  have c2 : ∀ W : World, (Instr.sliceAt 29 (.slice (some ⟨g, s * 1024 + p * 16, none⟩) (1024 - p * 16) (1024 - p * 16)) none (some (.int .i64 16)) none).run Tryz.prog W = .ok (.slice (some ⟨g, s * 1024 + p * 16, none⟩) 16 (1024 - p * 16)) W := fun W => cut_hi W _ _ _ 16 (by omega)
  clear h3
  go_enter Tryz.func77, Tryz.ntmps77
  go_wp2_with ((with_reducible refine HS.out.mono ?_); rintro _ w1 ⟨rfl, rfl⟩)
  go_ret
  exact ⟨rfl, rfl⟩

set_option maxHeartbeats 400000 in
theorem blank_any (n : Nat) (hn : 1 ≤ n) (hm : n ≤ 8192) (w : World) :
    Calls Tryz.prog 50 #[.int .i64 (n : Int)] w fun e w' => ∃ (G : Nat) (r : List Value), e = .returned (.slice (some ⟨G, 0, none⟩) n n) ∧ w.heap.size ≤ G ∧ Row w' G 5 (bc (List.replicate n 255) ++ r) ∧ Below w.heap.size w w' := by
  have HR := Lib.hid (repeat_any 255 w.heap.size 1 n (w.alloc (.cells #[.int .u8 255] 5)) (by
    have := heap_alloc_new w (.cells #[.int .u8 255] 5)
    rw [cell_of_row _ _ _ _ _ (0, 0) this]; rfl) (by decide) hn hm)
  go_enter Tryz.func50, Tryz.ntmps50
  go_wp2_with fail
  (with_reducible refine HR.out.mono ?_)
  rintro _ w1 ⟨r, rfl, hr, hb⟩
  have hb0 : Below w.heap.size w w1 := ((Below.refl w.heap.size w).alloc (Nat.le_refl _) _).trans (hb.mono (by simp))
  have hz : (w.alloc (.cells #[.int .u8 255] 5)).heap.size = w.heap.size + 1 := by simp
  rw [hz] at hr
  have H := Lib.hid (And.intro hr hb0)
  clear hr hb hb0 hz HR
  go_wp2
  go_ret
  exact ⟨_, r, by simp [Array.getD], by omega, H.out.1, H.out.2⟩

set_option maxHeartbeats 400000 in
theorem disarm_any (g : Nat) (m : Mem) (w : World) (h : Fl w g m) :
    Calls Tryz.prog 74 #[.pointer (some ⟨g, 6144, none⟩)] w fun e w' => e = .returned (.tuple #[]) ∧ Fl w' g { m with left := 0, mask := [] } ∧ w.grownBy w' (some g) := by
  obtain ⟨A, n, cap, hr, ho⟩ := h.spot
  obtain ⟨a0, a1, a2, a3⟩ := flCells_at m (.slice A n cap) h.size
  have c2 := hr.cell a2
  have c3 := hr.cell a3
  have f2 := hr.frozen 6146
  have f3 := hr.frozen 6147
  have r1 := (hr.set 6146 (.int .i64 0)).set 6147 (.slice none 0 0)
  rw [(flCells_set m (.slice A n cap) (.slice none 0 0) h.size false 0).2.2.1] at r1
  rw [(flCells_set { m with left := 0 } (.slice A n cap) (.slice none 0 0) h.size false 0).2.2.2] at r1
  have HH := Lib.hid (And.intro h r1)
  clear hr ho h r1 a0 a1 a2 a3
  go_enter Tryz.func74, Tryz.ntmps74
  go_wp2
  exact bodyPost_end (results_none rfl _ _ _) rfl ⟨rfl, ⟨HH.out.1.size, Int.le_refl _, (show (0 : Int) ≤ 9223372036854775807 by decide), by simp, none, 0, 0, HH.out.2, World.ownsRow_nil _ _ _ _⟩, grow_set (grow_set (grow_refl w _) _ _) _ _⟩

set_option maxHeartbeats 400000 in
theorem restore_any (g : Nat) (m : Mem) (w : World) (h : Fl w g m) :
    Calls Tryz.prog 47 #[.pointer (some ⟨g, 6144, none⟩)] w fun e w' => e = .returned (.tuple #[]) ∧ Fl w' g (startM m) ∧ w.grownBy w' (some g) := by
  obtain ⟨A, n, cap, hr, ho⟩ := h.spot
  obtain ⟨a0, _, _, _⟩ := flCells_at m (.slice A n cap) h.size
  have c0 := hr.cell a0
  have f0 := hr.frozen 6144
  have r1 := hr.set 6144 (.bool false)
  rw [(flCells_set m (.slice A n cap) (.slice none 0 0) h.size false 0).1] at r1
  have h1 : Fl (w.setCell ⟨g, 6144, none⟩ (.bool false)) g { m with dead := false } := ⟨h.size, h.l0, h.l1, h.few, A, n, cap, r1, own_set _ ho hr ty_ne⟩
  have HD := Lib.hid (disarm_any g _ _ h1)
  clear hr ho h r1 a0 h1
  go_enter Tryz.func47, Tryz.ntmps47
  go_wp2_with fail
  (with_reducible refine HD.out.mono ?_)
  rintro _ w1 ⟨rfl, h2, hg⟩
  have H2 := Lib.hid (And.intro h2 (grow_trans (grow_set (grow_refl w (some g)) 6144 (.bool false)) hg (.inl rfl)))
  clear h2 hg
  go_wp2
  exact bodyPost_end (results_none rfl _ _ _) rfl ⟨rfl, H2.out.1, H2.out.2⟩

set_option maxHeartbeats 400000 in
theorem arm_any (g : Nat) (m : Mem) (k : Int) (A : Option Addr) (n cap : Nat) (l : List UInt8) (w : World) (h : Fl w g m) (hk : k ≤ 9223372036854775807) (hs : Shows w w.heap.size A n cap l) (hne : ∀ a, A = some a → 0 < n → a.block ≠ g) (hn : n ≤ 10000000000) :
    Calls Tryz.prog 46 #[.pointer (some ⟨g, 6144, none⟩), .int .i64 k, .slice A n cap] w fun e w' => e = .returned (.tuple #[]) ∧ Fl w' g (stopM m k l) ∧ w.grownBy w' (some g) := by
  have HD := Lib.hid (disarm_any g m w h)
  have hl := hs.len
  have hcap := hs.le
  have HH := Lib.hid (And.intro h hs)
  by_cases h0 : 0 < k
  · have hst : stopM m k l = { m with left := k, mask := l.take 1024 } := by simp [stopM, h0]
    obtain ⟨t, ht⟩ : ∃ t, Nat.min n 1024 = t := ⟨_, rfl⟩
    have htn : t ≤ n := by rw [← ht]; exact Nat.min_le_left _ _
    have ht2 : t ≤ 1024 := by rw [← ht]; exact Nat.min_le_right _ _
    have hmin : min (n : Int) 1024 = (t : Int) := by rw [← ht]; simp only [Nat.min_def]; split <;> omega
    have hlt : l.take 1024 = l.take t := by
      rw [← ht]
      simp only [Nat.min_def]
      split
      · rw [List.take_of_length_le (by omega), List.take_of_length_le (by omega)]
      · rfl
    rw [hst, hlt]
    clear h hs hst hlt ht
    go_enter Tryz.func46, Tryz.ntmps46
    go_wp2_with fail
    (with_reducible refine HD.out.mono ?_)
    rintro _ w1 ⟨rfl, h1, hg1⟩
    have s1 := (HH.out.2.apart hg1 hne).more hg1.size
    obtain ⟨A1, n1, cap1, r1, o1⟩ := h1.spot
    obtain ⟨_, _, a2, _⟩ := flCells_at { m with left := 0, mask := [] } (.slice A1 n1 cap1) h1.size
    have c2 := r1.cell a2
    have f2 := r1.frozen 6146
    have r2 := r1.set 6146 (.int .i64 k)
    rw [(flCells_set { m with left := 0, mask := [] } (.slice A1 n1 cap1) (.slice none 0 0) h1.size false k).2.2.1] at r2
    have g2 := grow_set hg1 6146 (.int .i64 k)
    have s2 : Shows (w1.setCell ⟨g, 6146, none⟩ (.int .i64 k)) w1.heap.size A n cap l := s1.apart (grow_set (grow_refl w1 (some g)) _ _) hne
    have hcut : ∀ W : World, (Instr.sliceAt 29 (.slice A n cap) none (some (.int .i64 (t : Int))) none).run Tryz.prog W = .ok (.slice A t cap) W := fun W => cut_hi W A n cap t (by omega)
    have hz : (w1.setCell ⟨g, 6146, none⟩ (.int .i64 k)).heap.size = w1.heap.size := by simp
    have HC := Lib.hid (clone_own A t cap (l.take t) (w1.setCell ⟨g, 6146, none⟩ (.int .i64 k)) (by rw [hz]; exact s2.take htn) (by omega))
    have HR := Lib.hid (And.intro h1.size (And.intro r2 (And.intro g2 (And.intro ht2 hk))))
    clear h1 hg1 s1 r1 o1 a2 r2 g2 s2 hz htn ht2 hk
    go_wp2_with fail
    (with_reducible refine HC.out.mono ?_)
    rintro _ w2 ⟨A2, cp2, rfl, ow2, hb2⟩
    have hr := HR.out
    have r3 : Row w2 g 61 (flCells { m with left := k, mask := [] } (.slice A1 n1 cap1)) := hr.2.1.below hb2 hr.2.1.lt
    have c3 := r3.cell (flCells_at { m with left := k, mask := [] } (.slice A1 n1 cap1) hr.1).2.2.2
    have f3 := r3.frozen 6147
    have r4 := r3.set 6147 (.slice A2 t cp2)
    rw [(flCells_set { m with left := k, mask := [] } (.slice A1 n1 cap1) (.slice A2 t cp2) hr.1 false k).2.2.2] at r4
    have g4 := grow_set (grow_trans hr.2.2.1 (below_grow hb2 (some g)) (.inl rfl)) 6147 (.slice A2 t cp2)
    have o4 := own_mono (own_set (i := 6147) (.slice A2 t cp2) ow2 r3 ty_ne) (Nat.zero_le _)
    have hfin : Fl (w2.setCell ⟨g, 6147, none⟩ (.slice A2 t cp2)) g { m with left := k, mask := l.take t } :=
      ⟨hr.1, by show (0 : Int) ≤ k; omega, hr.2.2.2.2, by show (l.take t).length ≤ 1024; rw [List.length_take]; have := hr.2.2.2.1; omega, A2, t, cp2, r4, o4⟩
    have HF := Lib.hid (And.intro hfin g4)
    clear hr r3 r4 g4 o4 hfin hb2 ow2
    go_wp2
    exact bodyPost_end (results_none rfl _ _ _) rfl ⟨rfl, HF.out.1, HF.out.2⟩
  · have hst : stopM m k l = { m with left := 0, mask := [] } := by simp [stopM, h0]
    rw [hst]
    clear h hs hst
    go_enter Tryz.func46, Tryz.ntmps46
    go_wp2_with fail
    (with_reducible refine HD.out.mono ?_)
    rintro _ w1 ⟨rfl, h1, hg1⟩
    have H1 := Lib.hid (And.intro h1 hg1)
    clear h1 hg1
    go_wp2
    exact bodyPost_end (results_none rfl _ _ _) rfl ⟨rfl, H1.out.1, H1.out.2⟩

set_option maxHeartbeats 400000 in
theorem spend_any (g : Nat) (m : Mem) (w : World) (h : Fl w g m) :
    Calls Tryz.prog 103 #[.pointer (some ⟨g, 6144, none⟩)] w fun e w' => w.grownBy w' (some g) ∧
      ((m.left ≠ 1 ∧ e = .returned (.tuple #[.slice none 0 0, .bool false]) ∧ Fl w' g { m with ops := wrap64 (m.ops + 1), left := max (m.left - 1) 0 }) ∨
      (m.left = 1 ∧ ∃ A n cap, e = .returned (.tuple #[.slice A n cap, .bool true]) ∧ w'.ownsRow 0 5 1 (.slice A n cap) n (bc m.mask) ∧ Fl w' g { m with dead := true, ops := wrap64 (m.ops + 1), left := 0, mask := [] })) := by
  obtain ⟨A, n, cap, hr, ho⟩ := h.spot
  obtain ⟨a0, a1, a2, a3⟩ := flCells_at m (.slice A n cap) h.size
  have c0 := hr.cell a0
  have c1 := hr.cell a1
  have c2 := hr.cell a2
  have c3 := hr.cell a3
  have f0 := hr.frozen 6144
  have f1 := hr.frozen 6145
  have f2 := hr.frozen 6146
  have r1 := hr.set 6145 (.int .i64 (wrap64 (m.ops + 1)))
  rw [(flCells_set m (.slice A n cap) (.slice none 0 0) h.size false _).2.1] at r1
  have HH := Lib.hid (And.intro h (And.intro hr (And.intro ho r1)))
  have l0 := h.l0
  have l1 := h.l1
  clear h hr ho r1 a0 a1 a2 a3
  by_cases hl : m.left = 1
  · rw [hl] at c2
    have r1 := HH.out.2.2.2
    have r2 := r1.set 6144 (.bool true)
    rw [(flCells_set { m with ops := wrap64 (m.ops + 1) } (.slice A n cap) (.slice none 0 0) HH.out.1.size true 0).1] at r2
    have o2 := own_set (i := 6144) (.bool true) (own_set (i := 6145) (.int .i64 (wrap64 (m.ops + 1))) HH.out.2.2.1 HH.out.2.1 ty_ne) r1 ty_ne
    have h2 : Fl ((w.setCell ⟨g, 6145, none⟩ (.int .i64 (wrap64 (m.ops + 1)))).setCell ⟨g, 6144, none⟩ (.bool true)) g { m with dead := true, ops := wrap64 (m.ops + 1) } :=
      ⟨HH.out.1.size, l0, l1, HH.out.1.few, A, n, cap, r2, o2⟩
    have HD := Lib.hid (disarm_any g _ _ h2)
    have HO := Lib.hid (And.intro o2 r2)
    have HL := Lib.hid hl
    clear r1 r2 o2 h2 hl
    go_enter Tryz.func103, Tryz.ntmps103
    go_wp2_with fail
    (with_reducible refine HD.out.mono ?_)
    rintro _ w1 ⟨rfl, h3, hg⟩
    have o3 := grow_own HO.out.1 hg (fun k hk e => own_other HO.out.1 HO.out.2 ty_ne k hk e)
    have g3 := grow_trans (grow_set (grow_set (grow_refl w (some g)) 6145 (.int .i64 (wrap64 (m.ops + 1)))) 6144 (.bool true)) hg (.inl rfl)
    have HF := Lib.hid (And.intro g3 (And.intro o3 h3))
    clear o3 g3 h3 hg
    go_wp2
    go_ret2
    exact ⟨HF.out.1, .inr ⟨HL.out, A, n, cap, by simp [Array.getD], HF.out.2.1, HF.out.2.2⟩⟩
  · have hl2 : ¬ m.left = 1 := hl
    go_enter Tryz.func103, Tryz.ntmps103
    go_wp2
    go_ret2
    have r1 := HH.out.2.2.2
    have r2 := r1.set 6146 (.int .i64 (max (m.left - 1) 0))
    rw [(flCells_set { m with ops := wrap64 (m.ops + 1) } (.slice A n cap) (.slice none 0 0) HH.out.1.size true _).2.2.1] at r2
    have o2 := own_set (i := 6146) (.int .i64 (max (m.left - 1) 0)) (own_set (i := 6145) (.int .i64 (wrap64 (m.ops + 1))) HH.out.2.2.1 HH.out.2.1 ty_ne) r1 ty_ne
    exact ⟨grow_set (grow_set (grow_refl w (some g)) _ _) _ _, .inl ⟨hl, by simp [Array.getD], HH.out.1.size, by show (0 : Int) ≤ max (m.left - 1) 0; omega, by show max (m.left - 1) 0 ≤ 9223372036854775807; omega, HH.out.1.few, A, n, cap, r2, o2⟩⟩
end Go.Proofs.YtmebdnblobobnaaGreatDoor

namespace Go.Proofs.YtmebdnblobobnaaGreatDoor
set_option maxRecDepth 100000
open Go.RowKit _root_.Go.Proofs.YtmebdnblobobnaaGreatDoor.Wd _root_.Go.Proofs.YtmebdnblobobnaaGreatDoor.Fm

theorem setsB_of {P N : List UInt8} {k : Nat} (hk : k < N.length) (h : N.getD k 0 &&& ~~~(P.getD k 0) ≠ 0) : setsB P N = true := by
  unfold setsB
  rw [List.any_eq_true]
  exact ⟨k, by simpa using hk, by simpa using h⟩
theorem setsB_not {P N : List UInt8} (h : ∀ k, k < N.length → N.getD k 0 &&& ~~~(P.getD k 0) = 0) : setsB P N = false := by
  unfold setsB
  rw [List.any_eq_false]
  intro k hk
  have := h k (by simpa using hk)
  rw [this]
  decide

set_option maxHeartbeats 400000 in
theorem sets_any (g o n cap G n2 cap2 : Nat) (P N : List UInt8) (w : World) (hP : Shows w w.heap.size (some ⟨g, o, none⟩) n cap P) (hN : Shows w w.heap.size (some ⟨G, 0, none⟩) n2 cap2 N) (hle : n2 ≤ n) (hn : n ≤ 1000000) :
    Calls Tryz.prog 78 #[.slice (some ⟨g, o, none⟩) n cap, .slice (some ⟨G, 0, none⟩) n2 cap2] w fun e w' => e = .returned (.bool (setsB P N)) ∧ w = w' := by
  have hPl := hP.len
  have hNl := hN.len
  have HC : ∀ j, j < n2 → w.cell? ⟨G, j, none⟩ = some (.int .u8 ((N.getD j 0).toNat : Int)) ∧ w.cell? ⟨g, o + j, none⟩ = some (.int .u8 ((P.getD j 0).toNat : Int)) := by
    intro j hj
    obtain ⟨g1, o1, e1, _, h1⟩ := hN.cells (by omega)
    injection e1 with e1
    injection e1 with e1 e2
    subst e1 e2
    obtain ⟨g2, o2, e3, _, h2⟩ := hP.cells (by omega)
    injection e3 with e3
    injection e3 with e3 e4
    subst e3 e4
    have := h1 j hj
    rw [Nat.zero_add] at this
    exact ⟨this, h2 j (by omega)⟩
  have HH := Lib.hid (And.intro HC hNl)
  obtain ⟨R, hR⟩ : ∃ R, setsB P N = R := ⟨_, rfl⟩
  rw [hR]
  have HR := Lib.hid hR
  clear hP hN HC hPl hNl hR
  go_enter Tryz.func78, Tryz.ntmps78
  go_wp2_with fail
  go_loop [9] (fun i => ∃ k : Nat, k ≤ n2 ∧ i = .int .i64 k ∧ Hid (∀ j, j < k → N.getD j 0 &&& ~~~(P.getD j 0) = 0)) (fun i => n2 - (intOf i).toNat)
  case atStart => exact ⟨0, by omega, rfl, Lib.hid (fun j hj => absurd hj (by omega))⟩
  case round =>
    obtain ⟨k, hk, rfl, hall⟩ := hrel
    by_cases hlt : k < n2
    · obtain ⟨c1, c2⟩ := HH.out.1 k hlt
      obtain ⟨a, ha⟩ : ∃ a, N.getD k 0 = a := ⟨_, rfl⟩
      obtain ⟨b, hb⟩ : ∃ b, P.getD k 0 = b := ⟨_, rfl⟩
      rw [ha] at c1
      rw [hb] at c2
      have hv := u8_andNot8 a b
      have hkn : (k : Int) < (n : Int) := by omega
      obtain ⟨x, hx⟩ : ∃ x, N.getD k 0 &&& ~~~(P.getD k 0) = x := ⟨_, rfl⟩
      rw [← ha, ← hb] at hv
      rw [hx, ha, hb] at hv
      have HX := Lib.hid hx
      clear hx ha hb
      by_cases h0 : x = 0
      · have hz : ((x.toNat : Int) != 0) = false := by rw [h0]; rfl
        have hz2 : ((x.toNat : Int) == 0) = true := by rw [h0]; rfl
        have H0 := Lib.hid h0
        clear h0
        go_wp2
        go_round
        case rel => exact ⟨k + 1, by omega, by go_num, Lib.hid (fun j hj => by
          by_cases hjk : j = k
          · rw [hjk, HX.out, H0.out]
          · exact hall.out j (by omega))⟩
        case measure => simp [intOf]; omega
      · have hz0 : ¬ (x.toNat : Int) = 0 := fun h => h0 (by
          apply UInt8.toNat_inj.1
          show x.toNat = 0
          omega)
        have hz : ((x.toNat : Int) != 0) = true := by simpa using hz0
        have hz2 : ((x.toNat : Int) == 0) = false := by simpa using hz0
        clear hz0
        have hT : R = true := by
          rw [← HR.out]
          exact setsB_of (by rw [HH.out.2]; exact hlt) (by rw [HX.out]; exact h0)
        clear h0
        subst hT
        go_wp2
        go_ret
        exact ⟨rfl, rfl⟩
    · have hT : R = false := by
        rw [← HR.out]
        exact setsB_not fun j hj => hall.out j (by rw [HH.out.2] at hj; omega)
      subst hT
      go_wp2
      go_ret
      exact ⟨rfl, rfl⟩

theorem flCells_put (m : Mem) (v : Value) (h : m.B.length = 6144) (i : Nat) (hi : i < 6144) (c : UInt8) : (flCells m v).set i (.int .u8 (c.toNat : Int)) = flCells { m with B := m.B.set i c } v := by
  unfold flCells
  rw [List.set_append_left _ _ (by rw [bc_len, h]; exact hi)]
  congr 1
  unfold bc
  rw [← List.map_set]
theorem Fl.shows {w : World} {g : Nat} {m : Mem} (h : Fl w g m) (o n cap : Nat) (hn : o + n ≤ 6144) (hc : n ≤ cap) (hm : cap ≤ maxLen) : Shows w w.heap.size (some ⟨g, o, none⟩) n cap (m.page o n) := by
  obtain ⟨A, k, c, hr, _⟩ := h.spot
  have hl : (m.page o n).length = n := page_len m o n (by rw [h.size]; exact hn)
  refine ⟨hl, hc, hm, fun _ => ⟨g, o, rfl, hr.lt, fun j hj => ?_⟩⟩
  rw [hl] at hj
  have h1 := hr.cell (flCells_byte m (.slice A k c) h.size (o + j) (by omega))
  rw [h1, ← page_at m o n j hj]
  simp [List.getD, List.getElem?_eq_getElem (show j < (m.page o n).length by omega)]

set_option maxHeartbeats 800000 in
theorem blend_any (g o n cap G cap2 : Nat) (A3 : Option Addr) (n3 cap3 : Nat) (m : Mem) (N M : List UInt8) (w : World) (h : Fl w g m) (hN : Shows w w.heap.size (some ⟨G, 0, none⟩) n cap2 N) (hG : G ≠ g)
    (hM : Shows w w.heap.size A3 n3 cap3 M) (hne : ∀ a, A3 = some a → 0 < n3 → a.block ≠ g) (hn : o + n ≤ 6144) (hn0 : 0 < n) (h3 : n3 ≤ 1000000) :
    Calls Tryz.prog 104 #[.slice (some ⟨g, o, none⟩) n cap, .slice (some ⟨G, 0, none⟩) n cap2, .slice A3 n3 cap3] w fun e w' => e = .returned (.tuple #[]) ∧ Fl w' g { m with B := lay m.B o (mixL (m.page o n) N M) } ∧ w.grownBy w' (some g) := by
  have hNl := hN.len
  have hMl := hM.len
  have hpl := page_len m o n (by rw [h.size]; exact hn)
  by_cases hz : n3 = 0
  · subst hz
    have hM0 : M = [] := List.eq_nil_of_length_eq_zero hMl
    subst hM0
    have e : lay m.B o (mixL (m.page o n) N []) = m.B := by
      rw [mixL_none _ _ (by omega)]
      apply List.ext_getElem (by rw [lay_len _ _ _ (by rw [hpl, h.size]; exact hn)])
      intro i h1 h2
      have e : (lay m.B o (m.page o n)).getD i 0 = m.B.getD i 0 := by
        rw [lay_at _ _ _ (by rw [hpl, h.size]; exact hn)]
        split
        · rw [page_at m o n _ (by omega)]; congr 1; omega
        · rfl
      simpa [List.getD, List.getElem?_eq_getElem h1, List.getElem?_eq_getElem h2] using e
    rw [e]
    have HH := Lib.hid h
    clear h hN hM hNl hMl hpl e
    go_enter Tryz.func104, Tryz.ntmps104
    go_wp2
    exact bodyPost_ret (results_none rfl _ _ _) rfl ⟨rfl, HH.out, grow_refl _ _⟩
  · obtain ⟨X, hX⟩ : ∃ X, mixL (m.page o n) N M = X := ⟨_, rfl⟩
    have hXl : X.length = n := by rw [← hX, mixL_len, hNl]
    rw [hX]
    obtain ⟨A, k, c, hr, ho⟩ := h.spot
    have hsz := h.size
    obtain ⟨fg, fo, fe, _, hNc⟩ := hN.cells hn0
    injection fe with fe
    injection fe with fe fe2
    subst fe fe2
    obtain ⟨mg, mo, rfl, _, hMc⟩ := hM.cells (by omega)
    have hmg : mg ≠ g := hne _ rfl (by omega)
    have H1 := Lib.hid (And.intro h (And.intro hr (And.intro ho (And.intro hsz (And.intro hNc (And.intro hMc (And.intro hX (And.intro hXl (And.intro hNl (And.intro hMl hmg))))))))))
    clear h hN hM hne hr ho hsz hNc hMc hX hXl hNl hMl hpl hmg
    go_enter Tryz.func104, Tryz.ntmps104
    go_wp2_with fail
    go_loopw [13] (fun i wr => ∃ j : Nat, j ≤ n ∧ i = .int .i64 j ∧ Row wr g 61 (flCells { m with B := lay m.B o (X.take j) } (.slice A k c)) ∧ w.grownBy wr (some g)) (fun i _ => n - (intOf i).toNat)
    case atStart => exact ⟨0, by omega, rfl, by rw [List.take_zero, lay_nil]; exact H1.out.2.1, grow_refl _ _⟩
    case round =>
      obtain ⟨j, hj, rfl, hrow, hgr⟩ := hrel
      by_cases hlt : j < n
      · obtain ⟨h, hr, ho, hsz, hNc, hMc, hX, hXl, hNl, hMl, hmg⟩ := H1.out
        have hBl : (lay m.B o (X.take j)).length = 6144 := by rw [lay_len _ _ _ (by rw [List.length_take, hsz]; omega), hsz]
        have c2 := hrow.cell (flCells_byte { m with B := lay m.B o (X.take j) } (.slice A k c) hBl (o + j) (by omega))
        rw [show ({ m with B := lay m.B o (X.take j) } : Mem).B.getD (o + j) 0 = m.B.getD (o + j) 0 from lay_front m.B X o j j (by omega) (Nat.le_refl _) (by rw [hsz]; omega)] at c2
        have f2 := hrow.frozen (o + j)
        have c1 : wr.cell? ⟨G, j, none⟩ = some (.int .u8 ((N.getD j 0).toNat : Int)) := by
          have := hNc j hlt
          rw [Nat.zero_add] at this
          exact hgr.cell this (fun e => hG (by injection e))
        obtain ⟨q, hq⟩ : ∃ q, j % n3 = q := ⟨_, rfl⟩
        have hq3 : q < n3 := by rw [← hq]; exact Nat.mod_lt _ (by omega)
        have c3 : wr.cell? ⟨mg, mo + q, none⟩ = some (.int .u8 ((M.getD q 0).toNat : Int)) := hgr.cell (hMc q hq3) (fun e => hmg (by injection e))
        have hmod : ((j : Nat) : Int).tmod (n3 : Int) = (q : Int) := by rw [Int.tmod_eq_emod_of_nonneg (by omega), ← hq]; rfl
        obtain ⟨p, hp⟩ : ∃ p, m.B.getD (o + j) 0 = p := ⟨_, rfl⟩
        obtain ⟨b, hb⟩ : ∃ p, N.getD j 0 = p := ⟨_, rfl⟩
        obtain ⟨mm, hm⟩ : ∃ p, M.getD q 0 = p := ⟨_, rfl⟩
        rw [hp] at c2
        rw [hb] at c1
        rw [hm] at c3
        have v1 := u8_xor8 p b
        have v2 := u8_and8 (p ^^^ b) mm
        have v3 := u8_xor8 p ((p ^^^ b) &&& mm)
        have hx : p ^^^ ((p ^^^ b) &&& mm) = X.getD j 0 := by
          rw [mix_bits, ← hX, mixL_at _ _ _ _ (by omega), page_at m o n j hlt, hp, hb]
          congr 1
          rw [← hm, ← hq, maskAt, hMl, if_neg (by omega)]
        rw [hx] at v3
        have r4 := hrow.drew.set (o + j) (.int .u8 ((X.getD j 0).toNat : Int))
        rw [flCells_put _ _ hBl (o + j) (by omega), show ({ m with B := lay m.B o (X.take j) } : Mem).B.set (o + j) (X.getD j 0) = lay m.B o (X.take (j + 1)) from lay_step m.B X o j (by omega) (by rw [hsz]; omega)] at r4
        have g4 := grow_set (grow_drew hgr) (o + j) (.int .u8 ((X.getD j 0).toNat : Int))
        generalize X.getD j 0 = xx at v3 r4 g4
        generalize (p ^^^ b) &&& mm = x2 at v2 v3
        generalize p ^^^ b = x1 at v1 v2
        have hlz : (q : Int) < (n3 : Int) := by omega
        have HR := Lib.hid (And.intro r4 g4)
        clear h hr ho hsz hNc hMc hX hXl hNl hMl hmg hrow hgr hBl r4 g4 hx hp hb hm hq
        go_wp2_with fail
        go_still_tail 20, (by kernel_rfl)
        change wpList _ _ _ _ _ wr.drew
        go_wp2
        go_roundw
        case rel => exact ⟨j + 1, by omega, by go_num, HR.out.1, HR.out.2⟩
        case measure => simp [intOf]; omega
      · have hjn : j = n := by omega
        subst hjn
        obtain ⟨h, hr, ho, hsz, hNc, hMc, hX, hXl, hNl, hMl, hmg⟩ := H1.out
        rw [List.take_of_length_le (by omega)] at hrow
        have ho2 := grow_own ho hgr (own_other ho hr ty_ne)
        have hF : Fl wr g { m with B := lay m.B o X } := ⟨by show (lay m.B o X).length = 6144; rw [lay_len _ _ _ (by rw [hXl, hsz]; exact hn), hsz], h.l0, h.l1, h.few, A, k, c, hrow, ho2⟩
        have HF := Lib.hid (And.intro hF hgr)
        clear h hr ho hsz hNc hMc hX hXl hNl hMl hmg hrow hgr ho2 hF
        go_wp2
        exact bodyPost_end (results_none rfl _ _ _) rfl ⟨rfl, HF.out.1, HF.out.2⟩
end Go.Proofs.YtmebdnblobobnaaGreatDoor

namespace Go.Proofs.YtmebdnblobobnaaGreatDoor
set_option maxRecDepth 100000
open Go.RowKit _root_.Go.Proofs.YtmebdnblobobnaaGreatDoor.Wd _root_.Go.Proofs.YtmebdnblobobnaaGreatDoor.Fm

theorem flCells_lay (m : Mem) (v : Value) (h : m.B.length = 6144) (o : Nat) (N : List UInt8) (hn : o + N.length ≤ 6144) : splice (flCells m v) o (bc N) = flCells { m with B := lay m.B o N } v := by
  have hl : (bc m.B).length = 6144 := by rw [bc_len, h]
  unfold splice flCells lay
  rw [List.take_append_of_le_length (by omega), List.drop_append_of_le_length (by rw [bc_len]; omega), bc_len]
  simp only [bc_app, List.append_assoc]
  congr 1
  · unfold bc; rw [List.map_take]
  · congr 1
    unfold bc; rw [List.map_drop]

set_option maxHeartbeats 800000 in
theorem write_any (g o n cap G cap2 : Nat) (m : Mem) (N : List UInt8) (w : World) (h : Fl w g m) (hN : Shows w w.heap.size (some ⟨G, 0, none⟩) n cap2 N) (hG : G ≠ g) (hn : o + n ≤ 6144) (hn0 : 0 < n) :
    Calls Tryz.prog 79 #[.pointer (some ⟨g, 0, none⟩), .slice (some ⟨g, o, none⟩) n cap, .slice (some ⟨G, 0, none⟩) n cap2] w fun e w' => e = .returned (.int .i64 (writeM m o N).1) ∧ Fl w' g (writeM m o N).2 ∧ w.grownBy w' (some g) := by
  have hNl := hN.len
  have HSP := Lib.hid (spend_any g m w h)
  have hsz := h.size
  have H1 := Lib.hid (And.intro h hN)
  by_cases hl : m.left = 1
  · have hw : writeM m o N = (14, ⟨lay m.B o (mixL (m.page o n) N m.mask), true, wrap64 (m.ops + 1), 0, []⟩) := by simp [writeM, hl, hNl]
    rw [hw]
    have HL := Lib.hid (And.intro hl hNl)
    clear hw h hN hl hNl
    go_enter Tryz.func79, Tryz.ntmps79
    go_wp2_with fail
    (with_reducible refine HSP.out.mono ?_)
    rintro _ w1 ⟨hg1, hor⟩
    rcases hor with ⟨h0, _⟩ | ⟨_, A, n3, cap3, rfl, ho, hF⟩
    · exact absurd HL.out.1 h0
    have hn3 : n3 ≤ 1024 := by have := ho.1; rw [bc_len] at this; have := H1.out.1.few; omega
    have hf := hF
    obtain ⟨A4, n4, cap4, hr4, _⟩ := hF.spot
    have HB := Lib.hid (blend_any g o n cap G cap2 A n3 cap3 _ N m.mask w1 hf ((H1.out.2.apart hg1 (fun a ha _ => by injection ha with ha; subst ha; exact hG)).more hg1.size) hG (Shows.of_own ho)
      (fun a ha _ e => own_other ho hr4 ty_ne a.block (by rw [ha]; rfl) (by rw [e])) hn hn0 (by omega))
    have HG1 := Lib.hid hg1
    clear hg1 ho hF hf hr4 hn3
    go_wp2_with fail
    (with_reducible refine HB.out.mono ?_)
    rintro _ w2 ⟨rfl, hf2, hg2⟩
    have HE := Lib.hid (And.intro hf2 (grow_trans HG1.out hg2 (.inl rfl)))
    clear hf2 hg2
    go_wp2
    go_ret
    exact ⟨rfl, HE.out.1, HE.out.2⟩
  · have hw : writeM m o N = (0, ⟨lay m.B o N, m.dead, wrap64 (m.ops + 1), max (m.left - 1) 0, m.mask⟩) := by simp [writeM, hl]
    rw [hw]
    have HL := Lib.hid (And.intro hl hNl)
    obtain ⟨i0, hi0, hz0, hz1, hz2⟩ := info_parts infoByte
    have hs1 : (Tryz.prog.info? 5).map (·.size) = some 1 := by rw [hi0]; simp [hz1]
    have HS1 := Lib.hid hs1
    clear hw h hN hl hNl hs1 hi0 hz0 hz1 hz2
    go_enter Tryz.func79, Tryz.ntmps79
    go_wp2_with fail
    (with_reducible refine HSP.out.mono ?_)
    rintro _ w1 ⟨hg1, hor⟩
    rcases hor with ⟨_, rfl, hF⟩ | ⟨h0, _⟩
    · obtain ⟨A4, n4, cap4, hr4, ho4⟩ := hF.spot
      have s1 := (H1.out.2.apart hg1 (fun a ha _ => by injection ha with ha; subst ha; exact hG)).more hg1.size
      obtain ⟨fg, fo, fe, _, hNc⟩ := s1.spot hn0
      injection fe with fe
      injection fe with fe fe2
      subst fe fe2
      have HX := Lib.hid (And.intro hg1 (And.intro hF (And.intro hr4 (And.intro ho4 hNc))))
      clear hg1 hF hr4 ho4 s1 hNc
      go_wp2_with (refine wpList_copy_own rfl (.tmp 21) (.tmp 22) 29 29 rfl 5 Tryz.underlying29 HS1.out g o n cap ⟨G, 0, none⟩ n cap2 rfl rfl _ _ HX.out.2.2.1 (bc N) ?c1 ?c2 ?c3 (bc_one N) ?_)
      case c1 => rw [bc_len, HL.out.2]; exact (Nat.min_self n).symm
      case c2 =>
        intro j v hj
        obtain ⟨hj2, rfl⟩ := bc_at hj
        have := HX.out.2.2.2.2 j hj2
        rw [Addr.add_lit]
        exact this
      case c3 =>
        rw [bc_len, HL.out.2, List.size_toArray, flCells_len _ _ HX.out.2.1.size]
        omega
      obtain ⟨hg1, hF, hr4, ho4, _⟩ := HX.out
      obtain ⟨C, hC⟩ : ∃ C, splice (flCells { m with ops := wrap64 (m.ops + 1), left := max (m.left - 1) 0 } (.slice A4 n4 cap4)) o (bc N) = C := ⟨_, rfl⟩
      have r5 := setRow_heap w1 g _ C.toArray _ _ hr4
      have g5 : w1.grownBy (w1.setRow g C.toArray) (some g) := ⟨rfl, rfl, rfl, by simp [World.setRow], fun k _ hk => setRow_other w1 g k _ (fun e => hk (by rw [e]))⟩
      have e5 := flCells_lay { m with ops := wrap64 (m.ops + 1), left := max (m.left - 1) 0 } (.slice A4 n4 cap4) hF.size o N (by rw [HL.out.2]; exact hn)
      rw [hC] at e5
      have o5 := grow_own ho4 g5 (own_other ho4 hr4 ty_ne)
      have hR : Row (w1.setRow g C.toArray) g 61 (flCells ⟨lay m.B o N, m.dead, wrap64 (m.ops + 1), max (m.left - 1) 0, m.mask⟩ (.slice A4 n4 cap4)) := by
        unfold Row
        rw [← e5]
        exact r5
      have hFin : Fl (w1.setRow g C.toArray) g ⟨lay m.B o N, m.dead, wrap64 (m.ops + 1), max (m.left - 1) 0, m.mask⟩ :=
        ⟨by show (lay m.B o N).length = 6144; rw [lay_len _ _ _ (by rw [HL.out.2, hsz]; exact hn), hsz], hF.l0, hF.l1, hF.few, A4, n4, cap4, hR, o5⟩
      have HE := Lib.hid (And.intro hFin (grow_trans hg1 g5 (.inl rfl)))
      rw [← hC] at HE
      clear hg1 hF hr4 ho4 r5 g5 e5 o5 hR hFin hC
      go_ret
      exact ⟨rfl, HE.out.1, HE.out.2⟩
    · exact absurd h0 HL.out.1
end Go.Proofs.YtmebdnblobobnaaGreatDoor

namespace Go.Proofs.YtmebdnblobobnaaGreatDoor
set_option maxRecDepth 100000
open Go.RowKit _root_.Go.Proofs.YtmebdnblobobnaaGreatDoor.Wd _root_.Go.Proofs.YtmebdnblobobnaaGreatDoor.Fm

theorem row_shows {w : World} {G n : Nat} {T : TypeId} {l : List UInt8} {r : List Value} (h : Row w G T (bc l ++ r)) (hl : l.length = n) (hm : n ≤ maxLen) : Shows w w.heap.size (some ⟨G, 0, none⟩) n n l :=
  ⟨hl, Nat.le_refl _, hm, fun _ => ⟨G, 0, rfl, h.lt, fun j hj => by
    rw [Nat.zero_add]
    exact h.cell (by rw [List.getElem?_append_left (by rw [bc_len]; exact hj), bc_get l j hj])⟩⟩

set_option maxHeartbeats 800000 in
theorem erase_any (g : Nat) (m : Mem) (s : Int) (w : World) (h : Fl w g m) :
    Calls Tryz.prog 54 #[.pointer (some ⟨g, 0, none⟩), .int .i64 s] w fun e w' => e = .returned (.int .i64 (eraseM m s).1) ∧ Fl w' g (eraseM m s).2 ∧ w.grownBy w' (some g) := by
  obtain ⟨A, n, cap, hr, ho⟩ := h.spot
  have c0 := hr.cell (flCells_at m (.slice A n cap) h.size).1
  have H1 := Lib.hid h
  clear hr ho h
  by_cases hd : m.dead = true
  · rw [eraseM_dead s hd]
    rw [hd] at c0
    clear hd
    go_enter Tryz.func54, Tryz.ntmps54
    go_wp2
    go_ret
    exact ⟨rfl, H1.out, grow_refl _ _⟩
  · have hd2 : m.dead = false := by simpa using hd
    rw [hd2] at c0
    by_cases hs : isSector s
    · obtain ⟨t, rfl⟩ : ∃ t : Nat, s = t := ⟨s.toNat, by have := hs.1; omega⟩
      have ht : t < 6 := by have := hs.2; omega
      rw [eraseM_ok t hd2 ht]
      obtain ⟨R, hR⟩ : ∃ R, writeM m (t * 1024) (List.replicate 1024 255) = R := ⟨_, rfl⟩
      rw [hR]
      have HRR := Lib.hid hR
      have HSS := fun w => hasSector_any (.pointer (some ⟨g, 0, none⟩)) (t : Int) w
      rw [decide_eq_true hs] at HSS
      have HS := Lib.hid HSS
      have HBL := Lib.hid (blank_any 1024 (by decide) (by decide))
      rw [show ((1024 : Nat) : Int) = 1024 from rfl] at HBL
      clear hd hd2 HSS hs hR
      go_enter Tryz.func54, Tryz.ntmps54
      go_wp2_with fail
      (with_reducible refine (HS.out _).mono ?_)
      rintro _ w1 ⟨rfl, rfl⟩
      go_wp2_with fail
      (with_reducible refine (sector_any g t ht _).mono ?_)
      rintro _ w1 ⟨rfl, rfl⟩
      go_wp2_with fail
      (with_reducible refine (HBL.out _).mono ?_)
      rintro _ w1 ⟨G, r, rfl, hG, hr, hb⟩
      have hGg : G ≠ g := by have := H1.out.lt; omega
      have hw0 := write_any g (t * 1024) 1024 1024 G 1024 m (List.replicate 1024 255) w1 (H1.out.below hb) (row_shows hr (by rw [List.length_replicate]) (by decide)) hGg (by omega) (by decide)
      rw [HRR.out] at hw0
      have HW := Lib.hid hw0
      have HB := Lib.hid hb
      clear hG hr hb hGg c0 hw0
      go_wp2_with fail
      (with_reducible refine HW.out.mono ?_)
      rintro _ w2 ⟨rfl, hf, hg⟩
      have HE := Lib.hid (And.intro hf (grow_trans (below_grow HB.out (some g)) hg (.inl rfl)))
      clear hf hg
      go_wp2
      go_ret
      exact ⟨rfl, HE.out.1, HE.out.2⟩
    · rw [eraseM_addr hd2 hs]
      have HSS := fun w => hasSector_any (.pointer (some ⟨g, 0, none⟩)) s w
      rw [decide_eq_false hs] at HSS
      have HS := Lib.hid HSS
      clear hd hd2 HSS hs
      go_enter Tryz.func54, Tryz.ntmps54
      go_wp2_with fail
      (with_reducible refine (HS.out _).mono ?_)
      rintro _ w1 ⟨rfl, rfl⟩
      go_wp2
      go_ret
      exact ⟨rfl, H1.out, grow_refl _ _⟩

set_option maxHeartbeats 800000 in
theorem program_any (g : Nat) (m : Mem) (s p : Int) (A : Option Addr) (n cap : Nat) (b : List UInt8) (w : World) (h : Fl w g m) (hb : Shows w w.heap.size A n cap b) (hn : n ≤ 10000000000) :
    Calls Tryz.prog 52 #[.pointer (some ⟨g, 0, none⟩), .int .i64 s, .int .i64 p, .slice A n cap] w fun e w' => e = .returned (.int .i64 (programM m s p b).1) ∧ Fl w' g (programM m s p b).2 ∧ w.grownBy w' (some g) := by
  obtain ⟨A0, n0, cap0, hr, ho⟩ := h.spot
  have c0 := hr.cell (flCells_at m (.slice A0 n0 cap0) h.size).1
  have H1 := Lib.hid (And.intro h hb)
  have hl := hb.len
  clear hr ho h hb
  by_cases hd : m.dead = true
  · rw [programM_dead s p b hd]
    rw [hd] at c0
    clear hd hl
    go_enter Tryz.func52, Tryz.ntmps52
    go_wp2
    go_ret
    exact ⟨rfl, H1.out.1, grow_refl _ _⟩
  · have hd2 : m.dead = false := by simpa using hd
    rw [hd2] at c0
    by_cases hs : isPage s p
    · have HSS := fun w => hasPage_any (.pointer (some ⟨g, 0, none⟩)) s p w
      rw [decide_eq_true hs] at HSS
      have HS := Lib.hid HSS
      by_cases h16 : 16 < n
      · rw [programM_long hd2 hs (by omega)]
        clear hd hd2 HSS hs hl
        go_enter Tryz.func52, Tryz.ntmps52
        go_wp2_with fail
        (with_reducible refine (HS.out _).mono ?_)
        rintro _ w1 ⟨rfl, rfl⟩
        go_wp2
        go_ret
        exact ⟨rfl, H1.out.1, grow_refl _ _⟩
      · obtain ⟨t, rfl⟩ : ∃ t : Nat, s = t := ⟨s.toNat, by have := hs.1.1; omega⟩
        obtain ⟨u, rfl⟩ : ∃ t : Nat, p = t := ⟨p.toNat, by have := hs.2.1; omega⟩
        have ht : t < 6 := by have := hs.1.2; omega
        have hu : u < 64 := by have := hs.2.2; omega
        obtain ⟨R, hR⟩ : ∃ R, programM m t u b = R := ⟨_, rfl⟩
        rw [hR]
        have hpl : (padded b).length = 16 := padded_len b (by omega)
        obtain ⟨o, hoo⟩ : ∃ o, t * 1024 + u * 16 = o := ⟨_, rfl⟩
        have HRR := Lib.hid (And.intro hR (And.intro hpl (And.intro hl (And.intro hd2 (And.intro ht (And.intro hu hoo))))))
        have HBL := Lib.hid (blank_any 16 (by decide) (by decide))
        rw [show ((16 : Nat) : Int) = 16 from rfl] at HBL
        have HPG := Lib.hid (page_any g t u ht hu)
        rw [hoo] at HPG
        obtain ⟨cp, hcp⟩ : ∃ c, 1024 - u * 16 = c := ⟨_, rfl⟩
        rw [hcp] at HPG
        have hcp2 : 16 ≤ cp ∧ cp ≤ 1024 := by omega
        obtain ⟨i0, hi0, hz0, hz1, hz2⟩ := info_parts infoByte
        have hs1 : (Tryz.prog.info? 5).map (·.size) = some 1 := by rw [hi0]; simp [hz1]
        have HS1 := Lib.hid hs1
        have ho2 : o + 16 ≤ 6144 := by omega
        clear hd HSS hs hR hpl hl hd2 ht hu hoo hcp hs1 hi0 hz0 hz1 hz2
        have H16 : Hid (n ≤ 16) := Lib.hid (by omega)
        go_enter Tryz.func52, Tryz.ntmps52
        go_wp2_with fail
        (with_reducible refine (HS.out _).mono ?_)
        rintro _ w1 ⟨rfl, rfl⟩
        go_wp2_with fail
        (with_reducible refine (HPG.out _).mono ?_)
        rintro _ w1 ⟨rfl, rfl⟩
        go_wp2_with fail
        (with_reducible refine (HBL.out _).mono ?_)
        rintro _ w1 ⟨G, r, rfl, hG, hr, hb⟩
        have hGg : G ≠ g := by have := H1.out.1.lt; omega
        have HX := Lib.hid (And.intro hG (And.intro hr (And.intro hb hGg)))
        clear hG hr hb hGg c0
        go_wp2_with (refine wpList_copy_splice rfl (.tmp 36) (.tmp 37) 29 29 rfl 5 Tryz.underlying29 HS1.out _ _ 16 16 n cap rfl rfl G 0 _ 5 HX.out.2.1 (bc b) ?c1 ?c2 ?c3 (bc_one b) w.heap.size w HX.out.2.2.1 HX.out.1 ?_)
        case c1 => rw [bc_len, HRR.out.2.2.1]; exact (Nat.min_eq_left H16.out).symm
        case c2 =>
          intro h0
          rw [bc_len, HRR.out.2.2.1] at h0
          obtain ⟨fg, fo, rfl, hfb, hfc⟩ := (H1.out.2.below HX.out.2.2.1).spot h0
          refine ⟨_, rfl, fun j v hj => ?_⟩
          obtain ⟨hj2, rfl⟩ := bc_at hj
          rw [Addr.add_lit]
          exact hfc j hj2
        case c3 =>
          rw [bc_len, HRR.out.2.2.1]
          have := H16.out
          simp [bc_len]
          omega
        intro w2 hr2 hb2
        obtain ⟨hR, hpl, hl, hd2, ht, hu, hoo⟩ := HRR.out
        have e2 : splice (bc (List.replicate 16 255) ++ r) 0 (bc b) = bc (padded b) ++ r := by
          unfold splice padded
          rw [List.take_zero, List.nil_append, Nat.zero_add, bc_len, bc_app, List.append_assoc, List.drop_append_of_le_length (by rw [bc_len, List.length_replicate, hl]; exact H16.out)]
          congr 2
          unfold bc
          rw [← List.map_drop, List.drop_replicate]
        have r2 : Row w2 G 5 (bc (padded b) ++ r) := by rw [← e2]; exact hr2.out
        have s2 := row_shows r2 hpl (by decide)
        have f2 := H1.out.1.below hb2
        have HSE := Lib.hid (sets_any g o 16 cp G 16 16 (m.page o 16) (padded b) w2 (f2.shows o 16 cp ho2 hcp2.1 (Nat.le_trans hcp2.2 (by decide))) s2 (Nat.le_refl _) (by decide))
        have HW := Lib.hid (write_any g o 16 cp G 16 m (padded b) w2 f2 s2 HX.out.2.2.2 ho2 (by decide))
        have HB2 := Lib.hid (And.intro f2 (below_grow hb2 (some g)))
        clear hr2 hb2 r2 s2 f2 e2 hR hpl hl hd2 ht hu hoo hcp2
        go_wp2_with fail
        (with_reducible refine HSE.out.mono ?_)
        rintro _ w3 ⟨rfl, rfl⟩
        by_cases hz : setsB (m.page o 16) (padded b) = true
        · obtain ⟨hR, hpl, hl, hd2, ht, hu, hoo⟩ := HRR.out
          have hRe : R = (13, m) := by rw [← hR]; exact programM_set hd2 ht hu (by rw [hl]; exact H16.out) (by rw [hoo]; exact hz)
          have HRe := Lib.hid hRe
          clear hR hpl hl hd2 ht hu hoo hRe
          rw [hz]
          clear hz
          go_wp2
          go_ret
          rw [HRe.out]
          exact ⟨rfl, HB2.out.1, HB2.out.2⟩
        · have hz2 : setsB (m.page o 16) (padded b) = false := by simpa using hz
          obtain ⟨hR, hpl, hl, hd2, ht, hu, hoo⟩ := HRR.out
          have hRe : R = writeM m o (padded b) := by rw [← hR, ← hoo]; exact programM_ok hd2 ht hu (by rw [hl]; exact H16.out) (by rw [hoo]; exact hz2)
          have HRe := Lib.hid hRe
          clear hR hpl hl hd2 ht hu hoo hRe
          rw [hz2]
          clear hz2 hz
          go_wp2_with fail
          (with_reducible refine HW.out.mono ?_)
          rintro _ w4 ⟨rfl, hf, hg⟩
          rw [← HRe.out] at hf ⊢
          have HE := Lib.hid (And.intro hf (grow_trans HB2.out.2 hg (.inl rfl)))
          clear hf hg
          go_wp2
          go_ret
          exact ⟨rfl, HE.out.1, HE.out.2⟩
    · have HSS := fun w => hasPage_any (.pointer (some ⟨g, 0, none⟩)) s p w
      rw [decide_eq_false hs] at HSS
      have HS := Lib.hid HSS
      rw [programM_addr b hd2 hs]
      clear hd hd2 HSS hs hl
      go_enter Tryz.func52, Tryz.ntmps52
      go_wp2_with fail
      (with_reducible refine (HS.out _).mono ?_)
      rintro _ w1 ⟨rfl, rfl⟩
      go_wp2
      go_ret
      exact ⟨rfl, H1.out.1, grow_refl _ _⟩

set_option maxHeartbeats 400000 in
theorem read_any (g : Nat) (m : Mem) (s : Int) (w : World) (h : Fl w g m) :
    Calls Tryz.prog 27 #[.pointer (some ⟨g, 0, none⟩), .int .i64 s] w fun e w' => ∃ A n cap, e = .returned (.slice A n cap) ∧ w'.ownsRow w.heap.size 5 1 (.slice A n cap) n (bc (readM m s)) ∧ Below w.heap.size w w' := by
  have H1 := Lib.hid h
  clear h
  by_cases hs : isSector s
  · obtain ⟨t, rfl⟩ : ∃ t : Nat, s = t := ⟨s.toNat, by have := hs.1; omega⟩
    have ht : t < 6 := by have := hs.2; omega
    have e : readM m (t : Int) = m.page (t * 1024) 1024 := by
      unfold readM placeOf
      rw [if_pos hs]
      simp only [Int.toNat_natCast, Int.toNat_zero, Nat.zero_mul, Nat.add_zero]
    rw [e]
    have HSS := fun w => hasSector_any (.pointer (some ⟨g, 0, none⟩)) (t : Int) w
    rw [decide_eq_true hs] at HSS
    have HS := Lib.hid HSS
    have HC := Lib.hid (clone_own (some ⟨g, t * 1024, none⟩) 1024 1024 (m.page (t * 1024) 1024) w (H1.out.shows (t * 1024) 1024 1024 (by omega) (Nat.le_refl _) (by decide)) (by decide))
    clear hs e HSS
    go_enter Tryz.func27, Tryz.ntmps27
    go_wp2_with fail
    (with_reducible refine (HS.out _).mono ?_)
    rintro _ w1 ⟨rfl, rfl⟩
    go_wp2_with fail
    (with_reducible refine (sector_any g t ht _).mono ?_)
    rintro _ w1 ⟨rfl, rfl⟩
    go_wp2_with fail
    (with_reducible refine HC.out.mono ?_)
    rintro _ w1 ⟨A2, c2, rfl, ho, hb⟩
    have HE := Lib.hid (And.intro ho hb)
    clear ho hb
    go_wp2
    go_ret
    exact ⟨A2, 1024, c2, rfl, HE.out.1, HE.out.2⟩
  · have e : readM m s = [] := by unfold readM; rw [if_neg hs]
    rw [e]
    have HSS := fun w => hasSector_any (.pointer (some ⟨g, 0, none⟩)) s w
    rw [decide_eq_false hs] at HSS
    have HS := Lib.hid HSS
    clear hs e HSS
    go_enter Tryz.func27, Tryz.ntmps27
    go_wp2_with fail
    (with_reducible refine (HS.out _).mono ?_)
    rintro _ w1 ⟨rfl, rfl⟩
    go_wp2
    go_ret
    exact ⟨none, 0, 0, rfl, World.ownsRow_nil _ _ _ _, Below.refl _ _⟩

set_option maxHeartbeats 400000 in
theorem stop_any (g : Nat) (m : Mem) (k : Int) (A : Option Addr) (n cap : Nat) (l : List UInt8) (w : World) (h : Fl w g m) (hk : k ≤ 9223372036854775807) (hs : Shows w w.heap.size A n cap l) (hne : ∀ a, A = some a → 0 < n → a.block ≠ g) (hn : n ≤ 10000000000) :
    Calls Tryz.prog 19 #[.pointer (some ⟨g, 0, none⟩), .int .i64 k, .slice A n cap] w fun e w' => e = .returned (.tuple #[]) ∧ Fl w' g (stopM m k l) ∧ w.grownBy w' (some g) := by
  have HA := Lib.hid (arm_any g m k A n cap l w h hk hs hne hn)
  clear h hk hs hne hn
  go_enter Tryz.func19, Tryz.ntmps19
  go_wp2_with fail
  (with_reducible refine HA.out.mono ?_)
  rintro _ w1 ⟨rfl, hf, hg⟩
  have HE := Lib.hid (And.intro hf hg)
  clear hf hg
  go_wp2
  exact bodyPost_end (results_none rfl _ _ _) rfl ⟨rfl, HE.out.1, HE.out.2⟩
set_option maxHeartbeats 400000 in
theorem start_any (g : Nat) (m : Mem) (w : World) (h : Fl w g m) :
    Calls Tryz.prog 21 #[.pointer (some ⟨g, 0, none⟩)] w fun e w' => e = .returned (.tuple #[]) ∧ Fl w' g (startM m) ∧ w.grownBy w' (some g) := by
  have HA := Lib.hid (restore_any g m w h)
  clear h
  go_enter Tryz.func21, Tryz.ntmps21
  go_wp2_with fail
  (with_reducible refine HA.out.mono ?_)
  rintro _ w1 ⟨rfl, hf, hg⟩
  have HE := Lib.hid (And.intro hf hg)
  clear hf hg
  go_wp2
  exact bodyPost_end (results_none rfl _ _ _) rfl ⟨rfl, HE.out.1, HE.out.2⟩
theorem dead_any (g : Nat) (m : Mem) (w : World) (h : Fl w g m) :
    Calls Tryz.prog 29 #[.pointer (some ⟨g, 0, none⟩)] w fun e w' => e = .returned (.bool m.dead) ∧ w = w' := by
  obtain ⟨A0, n0, cap0, hr, ho⟩ := h.spot
  have c0 := hr.cell (flCells_at m (.slice A0 n0 cap0) h.size).1
  clear hr ho h
  go_enter Tryz.func29, Tryz.ntmps29
  go_wp2
  go_ret
  exact ⟨rfl, rfl⟩
theorem ops_any (g : Nat) (m : Mem) (w : World) (h : Fl w g m) :
    Calls Tryz.prog 30 #[.pointer (some ⟨g, 0, none⟩)] w fun e w' => e = .returned (.int .i64 m.ops) ∧ w = w' := by
  obtain ⟨A0, n0, cap0, hr, ho⟩ := h.spot
  have c0 := hr.cell (flCells_at m (.slice A0 n0 cap0) h.size).2.1
  clear hr ho h
  go_enter Tryz.func30, Tryz.ntmps30
  go_wp2
  go_ret
  exact ⟨rfl, rfl⟩
end Go.Proofs.YtmebdnblobobnaaGreatDoor

namespace Go.Proofs.YtmebdnblobobnaaGreatDoor
set_option maxRecDepth 100000
open Go.RowKit _root_.Go.Proofs.YtmebdnblobobnaaGreatDoor.Wd _root_.Go.Proofs.YtmebdnblobobnaaGreatDoor.Fm

def halfB (k : Nat) : List UInt8 := List.replicate (k * 1024) 255 ++ List.replicate (6144 - k * 1024) 0
theorem halfB_len (k : Nat) (h : k ≤ 6) : (halfB k).length = 6144 := by
  unfold halfB
  rw [List.length_append, List.length_replicate, List.length_replicate]
  omega
theorem rep_next (x y : UInt8) (a n c : Nat) : lay (List.replicate a x ++ List.replicate n y) a (List.replicate c x) = List.replicate (a + c) x ++ List.replicate (n - c) y := by
  unfold lay
  rw [List.take_left' (List.length_replicate ..), List.length_replicate, List.drop_append, List.drop_eq_nil_of_le (by rw [List.length_replicate]; omega), List.length_replicate, List.nil_append, List.drop_replicate, ← List.append_assoc, List.replicate_append_replicate]
  congr 2
  omega
theorem halfB_next (k : Nat) : lay (halfB k) (k * 1024) (List.replicate 1024 255) = halfB (k + 1) := by
  have h := rep_next 255 0 (k * 1024) (6144 - k * 1024) 1024
  have e1 : k * 1024 + 1024 = (k + 1) * 1024 := by omega
  have e2 : 6144 - k * 1024 - 1024 = 6144 - (k + 1) * 1024 := by omega
  rw [e1, e2] at h
  exact h
theorem halfB_full : halfB 6 = List.replicate 6144 255 := by
  show List.replicate 6144 255 ++ List.replicate 0 0 = _
  rw [List.replicate_zero, List.append_nil]
theorem zero_any {P : Program} (t : TypeId) (v : Value) {n : Nat} (h : (P.info? t).map (fun i => (i.zero, i.size)) = some (some v, n)) (W : World) : (zeroValue t).run P W = .ok v W := by
  obtain ⟨i, hi, he⟩ := Option.map_eq_some_iff.1 h
  simp only [Prod.mk.injEq] at he
  simp [zeroValue, typeInfo, hi, he.1]
def blankCells : List Value := flCells ⟨halfB 0, false, 0, 0, []⟩ (.slice none 0 0)
theorem fl_zero : (Tryz.prog.info? 61).map (fun i => (i.zero, i.size)) = some (some (.agg blankCells.toArray), 6148) := by kernel_rfl

/-- Bytes that are copied into a memory's. -/
theorem fl_copy {w : World} {g : Nat} {m : Mem} {A : Option Addr} {n cap : Nat} (h : Fl w g m) (hr : Row w g 61 (flCells m (.slice A n cap))) (ho : w.ownsRow 0 5 1 (.slice A n cap) n (bc m.mask)) (o : Nat) (N : List UInt8) (hn : o + N.length ≤ 6144) :
    Fl (w.setRow g (splice (flCells m (.slice A n cap)) o (bc N)).toArray) g { m with B := lay m.B o N } ∧ w.grownBy (w.setRow g (splice (flCells m (.slice A n cap)) o (bc N)).toArray) (some g) := by
  have e5 := flCells_lay m (.slice A n cap) h.size o N hn
  obtain ⟨C, hC⟩ : ∃ C, splice (flCells m (.slice A n cap)) o (bc N) = C := ⟨_, rfl⟩
  rw [hC] at e5 ⊢
  have r5 := setRow_heap w g _ C.toArray _ _ hr
  have g5 : w.grownBy (w.setRow g C.toArray) (some g) := ⟨rfl, rfl, rfl, by simp [World.setRow], fun k _ hk => setRow_other w g k _ (fun e => hk (by rw [e]))⟩
  have o5 := grow_own ho g5 (own_other ho hr ty_ne)
  have hR : Row (w.setRow g C.toArray) g 61 (flCells { m with B := lay m.B o N } (.slice A n cap)) := by
    unfold Row
    rw [← e5]
    exact r5
  exact ⟨⟨by show (lay m.B o N).length = 6144; rw [lay_len _ _ _ (by rw [h.size]; exact hn), h.size], h.l0, h.l1, h.few, A, n, cap, hR, o5⟩, g5⟩

set_option maxHeartbeats 400000 in
theorem clear_any (g : Nat) (w : World) (h : Fl w g ⟨halfB 0, false, 0, 0, []⟩) :
    Calls Tryz.prog 25 #[.pointer (some ⟨g, 0, none⟩)] w fun e w' => e = .returned (.tuple #[]) ∧ Fl w' g Mem.fresh ∧ w.grownBy w' (some g) := by
  obtain ⟨i0, hi0, hz0, hz1, hz2⟩ := info_parts infoByte
  have hs1 : (Tryz.prog.info? 5).map (·.size) = some 1 := by rw [hi0]; simp [hz1]
  have HS1 := Lib.hid hs1
  have HBL := Lib.hid (blank_any 1024 (by decide) (by decide))
  rw [show ((1024 : Nat) : Int) = 1024 from rfl] at HBL
  have hnx := halfB_next
  obtain ⟨F, hF⟩ : ∃ F : List UInt8, List.replicate 1024 255 = F := ⟨_, rfl⟩
  have hFl : F.length = 1024 := by rw [← hF, List.length_replicate]
  rw [hF] at HBL hnx
  have HN := Lib.hid (And.intro hnx hFl)
  have H1 := Lib.hid h
  clear hnx hF hFl h hs1 hi0 hz0 hz1 hz2
  go_enter Tryz.func25, Tryz.ntmps25
  go_wp2_with fail
  go_loopw [3] (fun i wr => ∃ k : Nat, k ≤ 6 ∧ i = .int .i64 k ∧ Fl wr g ⟨halfB k, false, 0, 0, []⟩ ∧ w.grownBy wr (some g)) (fun i _ => 6 - (intOf i).toNat)
  case atStart => exact ⟨0, by omega, rfl, H1.out, grow_refl _ _⟩
  case round =>
    obtain ⟨k, hk, rfl, hF, hg⟩ := hrel
    have HF := Lib.hid (And.intro hF hg)
    clear hF hg
    by_cases hlt : k < 6
    · have hki : (k : Int) < 6 := by omega
      go_wp2_with fail
      (with_reducible refine (sector_any g k hlt _).mono ?_)
      rintro _ w1 ⟨rfl, rfl⟩
      go_wp2_with fail
      (with_reducible refine (HBL.out _).mono ?_)
      rintro _ w1 ⟨G, r, rfl, hG, hr, hb⟩
      have f1 := HF.out.1.below hb
      obtain ⟨A4, n4, cap4, hr4, ho4⟩ := f1.spot
      have HX := Lib.hid (And.intro hr (And.intro hb (And.intro f1 (And.intro hr4 ho4))))
      clear hG hr hb f1 hr4 ho4
      go_wp2_with (refine wpList_copy_own rfl (.tmp 8) (.tmp 9) 29 29 rfl 5 Tryz.underlying29 HS1.out g (k * 1024) 1024 1024 ⟨G, 0, none⟩ 1024 1024 rfl rfl _ _ HX.out.2.2.2.1 (bc F) ?c1 ?c2 ?c3 (bc_one _) ?_)
      case c1 => rw [bc_len, HN.out.2]; rfl
      case c2 =>
        intro j v hj
        rw [Addr.add_lit, Nat.zero_add]
        have hj2 := (List.getElem?_eq_some_iff.1 hj).1
        exact HX.out.1.cell (by rw [List.getElem?_append_left hj2]; exact hj)
      case c3 =>
        rw [bc_len, HN.out.2, List.size_toArray, flCells_len _ _ HX.out.2.2.1.size]
        omega
      obtain ⟨hr, hb, f1, hr4, ho4⟩ := HX.out
      obtain ⟨f2, g2⟩ := fl_copy f1 hr4 ho4 (k * 1024) F (by rw [HN.out.2]; omega)
      have f3 : Fl (w1.setRow g (splice (flCells ⟨halfB k, false, 0, 0, []⟩ (.slice A4 n4 cap4)) (k * 1024) (bc F)).toArray) g ⟨halfB (k + 1), false, 0, 0, []⟩ := by
        rw [← HN.out.1 k]
        exact f2
      exact ⟨⟨k + 1, by omega, by go_num, f3, grow_trans (grow_trans HF.out.2 (below_grow hb (some g)) (.inl rfl)) g2 (.inl rfl)⟩, by simp [intOf]; omega⟩
    · have hk6 : k = 6 := by omega
      subst hk6
      have hf : Fl wr g Mem.fresh := by
        have := HF.out.1
        rw [halfB_full] at this
        exact this
      have HE := Lib.hid (And.intro hf HF.out.2)
      clear hf HF
      go_wp2
      exact bodyPost_end (results_none rfl _ _ _) rfl ⟨rfl, HE.out.1, HE.out.2⟩

set_option maxHeartbeats 400000 in
theorem new_any (w : World) :
    Calls Tryz.prog 7 #[] w fun e w' => e = .returned (.pointer (some ⟨w.heap.size, 0, none⟩)) ∧ Fl w' w.heap.size Mem.fresh ∧ Below w.heap.size w w' := by
  obtain ⟨C, hC⟩ : ∃ C, blankCells = C := ⟨_, rfl⟩
  have hz : ∀ W : World, (zeroValue 61).run Tryz.prog W = .ok (.agg C.toArray) W := by
    rw [← hC]
    exact zero_any _ _ fl_zero
  have r0 : Row (w.alloc (.cells C.toArray 61)) w.heap.size 61 (flCells ⟨halfB 0, false, 0, 0, []⟩ (.slice none 0 0)) := by
    rw [← hC]
    exact Row.new w _ _
  have f0 : Fl (w.alloc (.cells C.toArray 61)) w.heap.size ⟨halfB 0, false, 0, 0, []⟩ := ⟨halfB_len 0 (by omega), Int.le_refl _, (show (0 : Int) ≤ 9223372036854775807 by decide), by simp, none, 0, 0, r0, World.ownsRow_nil _ _ _ _⟩
  have HC := Lib.hid (clear_any _ _ f0)
  have HB := Lib.hid ((Below.refl w.heap.size w).alloc (Nat.le_refl _) (.cells C.toArray 61))
  clear r0 f0 hC
  go_enter Tryz.func7, Tryz.ntmps7
  go_wp2_with fail
  (with_reducible refine HC.out.mono ?_)
  rintro _ w1 ⟨rfl, hf, hg⟩
  have HE := Lib.hid (And.intro hf (HB.out.grown hg (by simp) (by intro k hk; injection hk; omega)))
  clear hf hg
  go_wp2
  go_ret
  exact ⟨rfl, HE.out.1, HE.out.2⟩
end Go.Proofs.YtmebdnblobobnaaGreatDoor

namespace Go.Proofs.YtmebdnblobobnaaGreatDoor
set_option maxRecDepth 100000
open Go.RowKit _root_.Go.Proofs.YtmebdnblobobnaaGreatDoor.Wd _root_.Go.Proofs.YtmebdnblobobnaaGreatDoor.Fm

theorem ret_int4 {k : IntKind} {a b : Int} (h : a = b) : Ending.returned (.int k a) = .returned (.int k b) := by rw [h]
/-- A literal of bytes in a block of its own. -/
theorem lit_shows (w : World) (l : List UInt8) (h : l.length ≤ 100000) : Shows (w.alloc (.cells (bc l).toArray 5)) (w.alloc (.cells (bc l).toArray 5)).heap.size (some ⟨w.heap.size, 0, none⟩) l.length l.length l := by
  have := shows_cells w 5 (0, 0) l h
  simpa using this

theorem lit_one (w : World) (z : Int) (c : UInt8) (h : (c.toNat : Int) = z) : Shows (w.alloc (.cells #[.int .u8 z] 5)) (w.alloc (.cells #[.int .u8 z] 5)).heap.size (some ⟨w.heap.size, 0, none⟩) 1 1 [c] := by
  subst h
  exact lit_shows w [c] (by simp)
end Go.Proofs.YtmebdnblobobnaaGreatDoor

