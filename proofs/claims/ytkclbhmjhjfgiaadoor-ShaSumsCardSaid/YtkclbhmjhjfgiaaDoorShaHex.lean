/- Contract for package sha's Hex: a sum's digits, two a byte. -/
import Derived.Test.YtkclbhmjhjfgiaaDoorShaEnd
import Derived.Deep.AppendSrc
namespace Go.Proofs.YtkclbhmjhjfgiaaDoor
open Go.RowKit Wd Nm Cm Sm

def digits : ByteArray := ⟨#[48, 49, 50, 51, 52, 53, 54, 55, 56, 57, 97, 98, 99, 100, 101, 102]⟩
theorem digit_at (W : World) (k : Nat) (hk : k < 16) (z : Int) (hz : z = k) : (Instr.index 9 (.string ⟨#[48, 49, 50, 51, 52, 53, 54, 55, 56, 57, 97, 98, 99, 100, 101, 102]⟩) (.int .u8 z)).run Tryd.prog W = .ok (.int .u8 ((digit (UInt8.ofNat k)).toNat : Int)) W := by
  subst hz
  have hu := Tryd.underlying9
  match k, hk with
  | 0, _ | 1, _ | 2, _ | 3, _ | 4, _ | 5, _ | 6, _ | 7, _ | 8, _ | 9, _ | 10, _ | 11, _ | 12, _ | 13, _ | 14, _ | 15, _ => simp [Instr.index, asIntOf, run_underlying hu]; rfl
  | n + 16, h => exact absurd h (by omega)
theorem low_four (b : UInt8) : bits BinOp.and IntKind.u8 (b.toNat : Int) 15 = ((b.toNat % 16 : Nat) : Int) := by
  have hall : ∀ k : Fin 256, bits BinOp.and IntKind.u8 ((k.val : Nat) : Int) 15 = ((k.val % 16 : Nat) : Int) := by decide +kernel
  exact hall ⟨b.toNat, b.toNat_lt⟩
theorem hex_snoc (l : List UInt8) (b : UInt8) : hex (l ++ [b]) = hex l ++ [digit (b / 16), digit (b % 16)] := by simp [hex]
theorem hex_len (l : List UInt8) : (hex l).length = 2 * l.length := by
  induction l with
  | nil => rfl
  | cons x r ih => simp [hex] at ih ⊢; omega

set_option maxHeartbeats 2000000 in
theorem hex_any (h : List UInt8) (w : World) (hl : h.length = 32) :
    Calls Tryd.prog 12 #[.agg (bc h).toArray] w fun e w' => e = .returned (.string ⟨(hex h).toArray⟩) ∧ Below w.heap.size w w' := by
  have HI := Lib.hid infoByte
  have HIH := Lib.hid (show (Tryd.prog.info? 24).map (·.size) = some (bc h).toArray.size by
    rw [List.size_toArray, bc_len, hl]
    kernel_rfl)
  have HL := Lib.hid hl
  clear hl
  obtain ⟨i0, hi0, hz0, hz1, hz2⟩ := info_parts infoByte
  have hmk : ∀ W : World, (Instr.makeSlice 26 (.int .i64 0) (.int .i64 64)).run Tryd.prog W = .ok (.slice (some ⟨W.heap.size, 0, none⟩) 0 64) (W.alloc (.cells (bc (List.replicate 64 0)).toArray 5)) := by
    intro W
    have h := run_make (P := Tryd.prog) W 26 5 i0 _ Tryd.underlying26 hi0 hz0 .i64 .i64 0 64 (by omega) (by omega) (by rw [hz2]; omega) (by omega)
    have e := Cz_zero (fun _ => 0) 64
    rw [show #[Value.int .u8 0] = (Value.int .u8 0).cells from rfl] at e
    rw [h, hz1, show Int.toNat 64 * 1 = 64 * 1 from rfl, ← e]
    have e2 : Cz (fun _ => 0) 0 64 = (bc (List.replicate 64 0)).toArray := by simp only [Cz, bc, List.map_replicate]; rfl
    rw [e2]
    rfl
  go_enter Tryd.func12, Tryd.ntmps12
  have HBX := Lib.hid (Row.new w 24 (bc h))
  go_wp2_with (refine wpList_load_row rfl _ _ rfl w.heap.size rfl _ _ (0, 0) _ ((Row.alloc HBX.out _)) Tryd.underlying24 rfl HIH.out ?_)
  go_loopw [3, 5, 8] (fun v _ i wr => ∃ (j : Nat) (A : Option Addr) (c : Nat), j ≤ 32 ∧ i = .int .i64 j ∧ v = .slice A (2 * j) c ∧ wr.ownsRow w.heap.size 5 1 (.slice A (2 * j) c) (2 * j) (bc (hex (h.take j))) ∧ Below w.heap.size w wr) (fun _ _ i _ => 32 - (intOf i).toNat)
  case atStart =>
    refine ⟨0, _, 64, by omega, rfl, rfl, ?_, below_new (below_new (Below.refl _ _) _) _⟩
    have := World.ownsRow_made (base := w.heap.size) (e := 5) (size := 1) (w.alloc (.cells (bc h).toArray 24)) (bc (List.replicate 64 0)).toArray 64 (by simp) (by simp [maxLen]) (by simp [bc])
    rw [show (w.alloc (.cells (bc h).toArray 24)).heap.size = w.heap.size + 1 by simp] at this
    exact this
  case round =>
    clear hmk
    obtain ⟨j, A, c, hj32, rfl, rfl, hown, hb⟩ := hrel
    by_cases hj : j < 32
    · have hx : ∀ W : World, (Instr.index 24 (.agg (bc h).toArray) (.int .i64 (j : Int))).run Tryd.prog W = .ok (.int .u8 ((h.getD j 0).toNat : Int)) W := fun W =>
        index_cell W _ _ _ 32 Tryd.underlying24 Tryd.underlying5 (by kernel_rfl) (bc h) _ j rfl hj _ (by rw [bc_get h j (by rw [HL.out]; omega), List.getD, List.getElem?_eq_getElem (by rw [HL.out]; omega)]; rfl)
      have HJ := Lib.hid (show hex (h.take (j + 1)) = hex (h.take j) ++ [digit (h.getD j 0 / 16), digit (h.getD j 0 % 16)] by
        rw [List.take_succ_eq_append_getElem (by rw [HL.out]; omega), hex_snoc, List.getD, List.getElem?_eq_getElem (by rw [HL.out]; omega)]; rfl)
      generalize h.getD j 0 = b at hx HJ
      obtain ⟨hi4, hhi⟩ : ∃ k, b.toNat / 16 = k := ⟨_, rfl⟩
      obtain ⟨lo4, hlo⟩ : ∃ k, b.toNat % 16 = k := ⟨_, rfl⟩
      have hbl := b.toNat_lt
      have e1 : (b.toNat : Int) / 16 = (hi4 : Int) := by omega
      have e2 : bits BinOp.and IntKind.u8 (b.toNat : Int) 15 = (lo4 : Int) := by rw [low_four, hlo]
      have d1 := fun W : World => digit_at W hi4 (by omega) (hi4 : Int) rfl
      have d2 := fun W : World => digit_at W lo4 (by omega) (lo4 : Int) rfl
      have HD := Lib.hid (show digit (UInt8.ofNat hi4) = digit (b / 16) ∧ digit (UInt8.ofNat lo4) = digit (b % 16) by
        constructor
        · congr 1; apply UInt8.toNat_inj.1; simp [← hhi]; omega
        · congr 1; apply UInt8.toNat_inj.1; simp [← hlo]; omega)
      have HOWN := Lib.hid hown
      clear hown hhi hlo hbl hi0 hz0 hz1 hz2
      go_wp2_with fail
      refine wp_region_held_drew (S := fun W => Below w.heap.size w W) (by kernel_rfl) hb.drew (fun hH0 => ?_)
      refine wpAnyH_take (i := 0) (v := ?_) rfl (by kernel_rfl) (by kernel_rfl) (by kernel_rfl) (fun _ _ _ h => h) (Or.inl ⟨by rfl, ?_⟩) (by assumption) ?_
      rotate_left
      · intro w' hS'; go_simp; try exact rfl
      try simp only [Act.put, List.getElem_toArray, List.getElem_cons_zero, List.setIfInBounds_toArray, List.set_cons_zero, List.set_cons_succ]
      refine wpAnyH_take (i := 1) (v := ?_) rfl (by kernel_rfl) (by kernel_rfl) (by kernel_rfl) (fun _ _ _ h => h) (Or.inl ⟨by rfl, ?_⟩) (by assumption) ?_
      rotate_left
      · intro w' hS'; go_simp; try exact rfl
      try simp only [Act.put, List.getElem_toArray, List.getElem_cons_succ, List.getElem_cons_zero, List.setIfInBounds_toArray, List.set_cons_zero, List.set_cons_succ]
      refine wpAnyH_take (i := 2) (v := ?_) rfl (by kernel_rfl) (by kernel_rfl) (by kernel_rfl) (fun _ _ _ h => h) (Or.inl ⟨by rfl, ?_⟩) (by assumption) ?_
      rotate_left
      · intro w' hS'; go_simp; try exact rfl
      try simp only [Act.put, List.getElem_toArray, List.getElem_cons_succ, List.getElem_cons_zero, List.setIfInBounds_toArray, List.set_cons_zero, List.set_cons_succ]
      refine wpAnyH_take (i := 3) (v := ?_) rfl (by kernel_rfl) (by kernel_rfl) (by kernel_rfl) (fun _ _ _ h => h) (Or.inl ⟨by rfl, ?_⟩) (by assumption) ?_
      rotate_left
      · intro w' hS'; go_simp; try exact rfl
      try simp only [Act.put, List.getElem_toArray, List.getElem_cons_succ, List.getElem_cons_zero, List.setIfInBounds_toArray, List.set_cons_zero, List.set_cons_succ]
      refine wpAnyH_take (i := 4) (v := ?_) rfl (by kernel_rfl) (by kernel_rfl) (by kernel_rfl) (fun _ _ _ h => h) (Or.inl ⟨by rfl, ?_⟩) (by assumption) ?_
      rotate_left
      · intro w' hS'; go_simp; try exact rfl
      try simp only [Act.put, List.getElem_toArray, List.getElem_cons_succ, List.getElem_cons_zero, List.setIfInBounds_toArray, List.set_cons_zero, List.set_cons_succ]
      refine wpAnyH_take (i := 5) (v := ?_) rfl (by kernel_rfl) (by kernel_rfl) (by kernel_rfl) (fun _ _ _ h => h) (Or.inl ⟨by rfl, ?_⟩) (by assumption) ?_
      rotate_left
      · intro w' hS'; go_simp; try exact rfl
      try simp only [Act.put, List.getElem_toArray, List.getElem_cons_succ, List.getElem_cons_zero, List.setIfInBounds_toArray, List.set_cons_zero, List.set_cons_succ]
      refine wpAnyH_take (i := 6) (v := ?_) rfl (by kernel_rfl) (by kernel_rfl) (by kernel_rfl) (fun _ _ _ h => h) (Or.inl ⟨by rfl, ?_⟩) (by assumption) ?_
      rotate_left
      · intro w' hS'; go_simp; try exact rfl
      try simp only [Act.put, List.getElem_toArray, List.getElem_cons_succ, List.getElem_cons_zero, List.setIfInBounds_toArray, List.set_cons_zero, List.set_cons_succ]
      refine wpAnyH_ready (rs := [7]) (by kernel_rfl) (by simp) ?_
      refine AllReadyH.cons rfl (fun K hK => ?_) AllReadyH.nil
      go_simp
      have hb2 : Below w.heap.size w ((wr.alloc (.cells #[.int .u8 ((digit (UInt8.ofNat hi4)).toNat : Int), .int .u8 ((digit (UInt8.ofNat lo4)).toNat : Int)] 5)).drew) := (below_new hb _).drew
      have hw2 : ((wr.alloc (.cells #[.int .u8 ((digit (UInt8.ofNat hi4)).toNat : Int), .int .u8 ((digit (UInt8.ofNat lo4)).toNat : Int)] 5)).drew).ownsRow w.heap.size 5 1 (.slice A (2 * j) c) (2 * j) (bc (hex (h.take j))) := HOWN.out.alloc _
      have hn2 : Row ((wr.alloc (.cells #[.int .u8 ((digit (UInt8.ofNat hi4)).toNat : Int), .int .u8 ((digit (UInt8.ofNat lo4)).toNat : Int)] 5)).drew) wr.heap.size 5 (bc [digit (UInt8.ofNat hi4), digit (UInt8.ofNat lo4)]) := heap_alloc_new wr _
      have hsz : wr.heap.size < ((wr.alloc (.cells #[.int .u8 ((digit (UInt8.ofNat hi4)).toNat : Int), .int .u8 ((digit (UInt8.ofNat lo4)).toNat : Int)] 5)).drew).heap.size := by simp
      refine hK.out _ _ hb2 (fun hHB => ?_)
      clear hK K
      try simp only [Act.put, List.getElem_toArray, List.getElem_cons_succ, List.getElem_cons_zero, List.setIfInBounds_toArray, List.set_cons_zero, List.set_cons_succ]
      generalize (wr.alloc (.cells #[.int .u8 ((digit (UInt8.ofNat hi4)).toNat : Int), .int .u8 ((digit (UInt8.ofNat lo4)).toNat : Int)] 5)).drew = W2 at hb2 hw2 hn2 hsz hHB ⊢
      have hsh : Shows W2 W2.heap.size (some ⟨wr.heap.size, 0, none⟩) 2 2 [digit (UInt8.ofNat hi4), digit (UInt8.ofNat lo4)] :=
        ⟨rfl, Nat.le_refl _, by decide, fun _ => ⟨_, 0, rfl, hsz, fun t ht => by rw [Nat.zero_add]; exact Row.cell hn2 (bc_get _ t ht)⟩⟩
      refine wpAnyH_ready (rs := [8]) (by kernel_rfl) (by simp) ?_
      refine AllReadyH.cons rfl (fun K hK => ?_) AllReadyH.nil
      rw [if_pos (by simp [Region.wanted])]
      obtain ⟨i0, hi0, hz0, hz1, hz2⟩ := info_parts HI.out
      refine wp_ap W2 (.tmp 11) (.tmp 18) 26 26 rfl w.heap.size 5 i0 Tryd.underlying26 hi0 hz0 hz1 hz2 A (2 * j) c (hex (h.take j)) rfl hw2 _ 2 [digit (UInt8.ofNat hi4), digit (UInt8.ofNat lo4)] rfl (hsh.src Tryd.underlying26) (by omega) hb2.size ?_
      intro A2 c2 W3 ho3 _ hg3 _
      have hb3 : Below w.heap.size w W3 := hb2.grown hg3 hb2.size (fun k hk => (own_block hw2 k hk).1)
      rw [HD.out.1, HD.out.2, ← HJ.out, show 2 * j + 2 = 2 * (j + 1) by omega] at ho3
      refine hK.out _ _ hb3 (fun hHC => ?_)
      clear hK K
      try simp only [Act.put, List.getElem_toArray, List.getElem_cons_succ, List.getElem_cons_zero, List.setIfInBounds_toArray, List.set_cons_zero, List.set_cons_succ]
      refine wpAnyH_take (i := 9) (v := ?_) rfl (by kernel_rfl) (by kernel_rfl) (by kernel_rfl) (fun _ _ _ h => h) (Or.inl ⟨by rfl, ?_⟩) (by assumption) ?_
      rotate_left
      · intro w' hS'; go_simp; try exact rfl
      try simp only [Act.put, List.getElem_toArray, List.getElem_cons_succ, List.getElem_cons_zero, List.setIfInBounds_toArray, List.set_cons_zero, List.set_cons_succ]
      refine wpAnyH_done (by kernel_rfl) ?_ _
      have HO3 := Lib.hid ho3
      clear hi0 hz0 hz1 hz2 hsh hn2 hw2 hb2 hsz ho3 hHB hg3 d1 d2 hx
      go_wp2
      go_roundw
      case rel => exact ⟨j + 1, A2, c2, by omega, by go_num, by rw [show 2 * (j + 1) = 2 * j + 2 by omega], HO3.out, hb3⟩
      case measure => simp [intOf]; omega
    · obtain rfl : j = 32 := by omega
      rw [List.take_of_length_le (by rw [HL.out]; exact Nat.le_refl _)] at hown
      have hc := (Shows.of_own hown).conv (P := Tryd.prog) Tryd.underlying26 Tryd.underlying5 Tryd.underlying9
      have HB := Lib.hid hb
      clear hown hb hi0 hz0 hz1 hz2 HBX
      go_wp2
      go_ret
      exact ⟨rfl, HB.out⟩
end Go.Proofs.YtkclbhmjhjfgiaaDoor
