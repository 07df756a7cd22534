/- The walk of the law CodeLong: a text has two bytes that say how long it is, and as many as it has, up to 65535. -/
import Derived.Test.YtjnpadokmhhffaaReadKit
namespace Go.Proofs.Ytjnpadokmhhffaa
open Go.RowKit Wd Nm

/-- A row of noughts; the same with its first byte set. -/
def Zs (N : Nat) : Array Value := (List.replicate N (Value.int .u8 0)).toArray
def Ls (b : Int) (N : Nat) : Array Value := (Value.int .u8 b :: List.replicate (N - 1) (Value.int .u8 0)).toArray
def Lb (b : Int) (N : Nat) : List UInt8 := UInt8.ofNat b.toNat :: List.replicate (N - 1) 0
theorem Zs_first (N : Nat) (h : 0 < N) : (Zs N)[0]? = some (.int .u8 0) := by
  unfold Zs
  rw [List.getElem?_toArray, List.getElem?_replicate, if_pos h]
theorem Zs_set (b : Int) (N : Nat) (h : 0 < N) : (Zs N).setIfInBounds 0 (.int .u8 b) = Ls b N := by
  unfold Zs Ls
  obtain ⟨m, rfl⟩ : ∃ m, N = m + 1 := ⟨N - 1, by omega⟩
  rw [List.replicate_succ]
  simp
theorem Zs_made (N : Nat) : madeCells #[Value.int .u8 0] (N * 1) = Zs N := by
  apply Array.ext'
  rw [toList_madeCells_one, Nat.mul_one]
  rfl
theorem Lb_len (b : Int) (N : Nat) (h : 0 < N) : (Lb b N).length = N := by
  unfold Lb
  rw [List.length_cons, List.length_replicate]
  omega
theorem Lb_cells (b : Int) (N : Nat) (h0 : 0 ≤ b) (h1 : b ≤ 255) : (Ls b N).toList = bc (Lb b N) := by
  have : ((UInt8.ofNat b.toNat).toNat : Int) = b := by simp; omega
  unfold Ls Lb bc
  rw [List.map_cons, this, List.map_replicate]
  rfl
theorem Lb_shows (b : Int) (N : Nat) (h0 : 0 ≤ b) (h1 : b ≤ 255) (hN : 0 < N) (hN2 : N ≤ 1000000) (w : World) :
    Shows (w.alloc (.cells (Ls b N) 5)) (w.heap.size + 1) (some ⟨w.heap.size, 0, none⟩) N N (Lb b N) := by
  have hsz : (Ls b N).size = N * 1 := by
    unfold Ls
    rw [List.size_toArray, List.length_cons, List.length_replicate]
    omega
  have h := World.ownsRow_lit (base := 0) (e := 5) (size := 1) w (Ls b N) N (Nat.zero_le _) (by simp only [maxLen]; omega) hsz
  rw [Lb_cells b N h0 h1] at h
  have := Shows.of_own h
  simpa using this

theorem Lb_size (b : Int) (N : Nat) (h : 0 < N) : (⟨(Lb b N).toArray⟩ : ByteArray).size = N := by
  show (Lb b N).toArray.size = N
  rw [List.size_toArray, Lb_len b N h]
theorem Lb_zero (b : Int) (N : Nat) (h0 : 0 ≤ b) (h1 : b ≤ 255) : ∀ h : 0 < (⟨(Lb b N).toArray⟩ : ByteArray).size, (((⟨(Lb b N).toArray⟩ : ByteArray)[0]'h).toNat : Int) = b := by
  intro h
  have hd : ((UInt8.ofNat b.toNat).toNat : Int) = b := by simp; omega
  exact hd
theorem text_long (b : Int) (N : Nat) (w : World) (h : 65535 < N) (hN2 : N ≤ 65537) :
    Calls Try.prog 15 #[.slice none 0 0, .string ⟨(Lb b N).toArray⟩] w fun e w' => ∃ A2 c2, e = .returned (.slice A2 (2 + 65535) c2) ∧ w'.ownsRow w.heap.size 5 1 (.slice A2 (2 + 65535) c2) (2 + 65535) (bc (leb 65535 2 ++ Lb b 65535)) ∧ Below w.heap.size w w' := by
  have ht := text_great none 0 0 [] ⟨(Lb b N).toArray⟩ w (Shows.nil _ _) (by omega) (by rw [Lb_size b N (by omega)]; exact h) (by rw [Lb_size b N (by omega)]; omega)
  have hl : (⟨(Lb b N).toArray⟩ : ByteArray).data.toList.take 65535 = Lb b 65535 := by
    show (Lb b N).toArray.toList.take 65535 = Lb b 65535
    rw [List.toList_toArray]
    unfold Lb
    rw [show (65535 : Nat) = 65534 + 1 from rfl, List.take_succ_cons, List.take_replicate, Nat.min_eq_left (by omega)]
  rw [hl, Nat.zero_add, List.nil_append] at ht
  exact ht

set_option maxRecDepth 100000 in
set_option maxHeartbeats 1000000 in
theorem codeLong_walk (x b : Int) (w : World) (_hx : (Lit.int .i64 x).wf = true) (hb : (Lit.int .u8 b).wf = true) :
    Calls Try.prog 8 #[.int .i64 x, .int .u8 b] w fun e w' => e = .returned (.bool true) ∧ Below w.heap.size w w' := by
  obtain ⟨hb0, hb255⟩ := u8_of_wf hb
  obtain ⟨i0, hi0, hz0, hz1, hz2⟩ := info_parts infoByte
  have hmk : ∀ (W : World) (N : Nat), N ≤ 1000000 → (Instr.makeSlice 22 (.int .i64 (N : Int)) (.int .i64 (N : Int))).run Try.prog W = .ok (.slice (some ⟨W.heap.size, 0, none⟩) N N) (W.alloc (.cells (Zs N) 5)) := by
    intro W N hN
    have h := run_make (P := Try.prog) W 22 5 i0 _ Try.underlying22 hi0 hz0 .i64 .i64 N N (by omega) (by omega) (by rw [hz2]; omega) (by omega)
    simp only [Int.toNat_natCast] at h
    rw [h, hz1, ← Zs_made]
    rfl
  have HMK := Lib.hid hmk
  clear hmk hb
  go_enter Try.func8, Try.ntmps8
  go_wp2_with fail
  refine (known_any _).mono ?_
  rintro _ w1 ⟨rfl, hb1⟩
  go_wp2_with fail
  refine (within_any _ _ _ (by omega) (by omega)).mono ?_
  rintro _ w2 ⟨rfl, rfl⟩
  have h5 : 0 ≤ x % 5 ∧ x % 5 < 5 := ⟨Int.emod_nonneg _ (by decide), Int.emod_lt_of_pos _ (by decide)⟩
  obtain ⟨d, hd⟩ : ∃ d : Nat, x % 5 = d := ⟨(x % 5).toNat, by omega⟩
  rw [hd] at h5 ⊢
  obtain ⟨_, h5⟩ := h5
  clear hd
  obtain ⟨N, hN⟩ : ∃ N : Nat, N = 65533 + d := ⟨_, rfl⟩
  have hN' : (65533 : Int) + (d : Int) = (N : Int) := by omega
  have HN' := Lib.hid hN'
  clear hN'
  have hN1 : 65533 ≤ N := by omega
  have hN2 : N ≤ 65537 := by omega
  clear hN
  have hmk := HMK.out w1 N (by omega)
  rw [← HN'.out] at hmk
  have hz := Zs_first N (by omega)
  have hset := Zs_set b N (by omega)
  have HS := Lib.hid (Lb_shows b N hb0 hb255 (by omega) (by omega) w1)
  have hcv := (Lb_shows b N hb0 hb255 (by omega) (by omega) w1).conv (P := Try.prog) Try.underlying22 Try.underlying5 Try.underlying9
  go_wp2_with fail
  rw [HN'.out]
  by_cases hc : N ≤ 65535
  · have HT := Lib.hid (text_nil ⟨(Lb b N).toArray⟩ (w1.alloc (.cells (Ls b N) 5)) (by rw [Lb_size b N (by omega)]; omega))
    rw [Lb_size b N (by omega)] at HT
    go_wp2_with fail
    refine HT.out.mono ?_
    rintro _ w3 ⟨A2, c2, rfl, hown3, hb3⟩
    have hs3 := Shows.of_own hown3
    have hw1 := hb1.size
    have hbw3 := (hb1.alloc hb1.size (.cells (Ls b N) 5)).trans (hb3.mono (by simp; omega))
    have hws3 := hbw3.size
    have HN3 := Lib.hid (new_any A2 (2 + N) c2 _ w3 hs3 (by omega))
    obtain ⟨gx, ox, rfl, hgx, hcx⟩ := hs3.cells (by omega)
    have hx0 : w3.cell? ⟨gx, ox, none⟩ = some (.int .u8 ((N : Int) % 256)) := by
      have h := hcx 0 (by omega)
      rw [show (((leb (N : Int) 2 ++ Lb b N).getD 0 0).toNat : Int) = (N : Int) % 256 from (leb_two (N : Int) (by omega) (by omega)).2.1, Nat.add_zero] at h
      exact h
    have hx1 : w3.cell? ⟨gx, ox + 1, none⟩ = some (.int .u8 ((N : Int) / 256)) := by
      have h := hcx 1 (by omega)
      rw [show (((leb (N : Int) 2 ++ Lb b N).getD 1 0).toNat : Int) = (N : Int) / 256 from (leb_two (N : Int) (by omega) (by omega)).2.2] at h
      exact h
    clear hown3 hs3 hcx hb3 HT hb1 HS hcv hset hz hmk
    go_wp2_with fail
    refine HN3.out.mono ?_
    rintro _ w4 ⟨g, rfl, hr4, hg4, hb⟩
    have hb4 := step_below hbw3 hb
    have hy0 := (hb.cell (p := ⟨gx, ox, none⟩) hgx).trans hx0
    have hy1 := (hb.cell (p := ⟨gx, ox + 1, none⟩) hgx).trans hx1
    have hne : some gx ≠ some g := by intro h; injection h with h; omega
    have hgg : w.heap.size ≤ g := by omega
    have h5 := read_Text g _ 0 w4 hr4
    rw [show leb (N : Int) 2 ++ Lb b N = leb ((Lb b N).length : Int) 2 ++ Lb b N ++ [] from by rw [Lb_len b N (by omega), List.append_nil], rdText_back _ _ (by rw [Lb_len b N (by omega)]; omega)] at h5
    have hS1 : (⟨(Lb b N).toArray⟩ : ByteArray).size = N := Lb_size b N (by omega)
    have hS2 := Lb_zero b N hb0 hb255
    generalize (⟨(Lb b N).toArray⟩ : ByteArray) = S at h5 hS1 hS2
    have H5 := Lib.hid h5
    clear h5 hr4 hb HN3 hx0 hx1 hbw3
    go_wp2_with fail
    refine H5.out.mono ?_
    rintro _ w5 ⟨rfl, hr5, hg5⟩
    have hb5 := step_grow hb4 hg5 hgg
    have hz0 := hg5.cell hy0 hne
    have hz1 := hg5.cell hy1 hne
    have h6 := end_any g [] 0 w5 hr5
    rw [rdEnd_ok] at h6
    have H6 := Lib.hid h6
    clear h6 hr5 hb4 hy0 hy1 H5 hne hg5
    go_wp2_with fail
    refine H6.out.mono ?_
    rintro _ w6 ⟨rfl, rfl⟩
    clear H6
    go_wp2
    go_ret
    exact ⟨rfl, hb5⟩
  · have HT := Lib.hid (text_long b N (w1.alloc (.cells (Ls b N) 5)) (by omega) hN2)
    go_wp2_with fail
    refine HT.out.mono ?_
    rintro _ w3 ⟨A2, c2, rfl, hown3, hb3⟩
    have hs3 := Shows.of_own hown3
    have hw1 := hb1.size
    have hbw3 := (hb1.alloc hb1.size (.cells (Ls b N) 5)).trans (hb3.mono (by simp; omega))
    have hws3 := hbw3.size
    have HN3 := Lib.hid (new_any A2 (2 + 65535) c2 _ w3 hs3 (by omega))
    obtain ⟨gx, ox, rfl, hgx, hcx⟩ := hs3.cells (by omega)
    have hx0 : w3.cell? ⟨gx, ox, none⟩ = some (.int .u8 (255)) := by
      have h := hcx 0 (by omega)
      rw [show (((leb 65535 2 ++ Lb b 65535).getD 0 0).toNat : Int) = 255 from (leb_two 65535 (by omega) (by omega)).2.1, Nat.add_zero] at h
      exact h
    have hx1 : w3.cell? ⟨gx, ox + 1, none⟩ = some (.int .u8 (255)) := by
      have h := hcx 1 (by omega)
      rw [show (((leb 65535 2 ++ Lb b 65535).getD 1 0).toNat : Int) = 255 from (leb_two 65535 (by omega) (by omega)).2.2] at h
      exact h
    clear hown3 hs3 hcx hb3 HT hb1 HS hcv hset hz hmk
    go_wp2_with fail
    refine HN3.out.mono ?_
    rintro _ w4 ⟨g, rfl, hr4, hg4, hb⟩
    have hb4 := step_below hbw3 hb
    have hy0 := (hb.cell (p := ⟨gx, ox, none⟩) hgx).trans hx0
    have hy1 := (hb.cell (p := ⟨gx, ox + 1, none⟩) hgx).trans hx1
    have hne : some gx ≠ some g := by intro h; injection h with h; omega
    have hgg : w.heap.size ≤ g := by omega
    have h5 := read_Text g _ 0 w4 hr4
    rw [show leb 65535 2 ++ Lb b 65535 = leb ((Lb b 65535).length : Int) 2 ++ Lb b 65535 ++ [] from by rw [Lb_len b 65535 (by omega), List.append_nil]; rfl, rdText_back _ _ (by rw [Lb_len b 65535 (by omega)]; omega)] at h5
    have hS1 : (⟨(Lb b 65535).toArray⟩ : ByteArray).size = 65535 := Lb_size b 65535 (by omega)
    have hS2 := Lb_zero b 65535 hb0 hb255
    generalize (⟨(Lb b 65535).toArray⟩ : ByteArray) = S at h5 hS1 hS2
    have H5 := Lib.hid h5
    clear h5 hr4 hb HN3 hx0 hx1 hbw3
    go_wp2_with fail
    refine H5.out.mono ?_
    rintro _ w5 ⟨rfl, hr5, hg5⟩
    have hb5 := step_grow hb4 hg5 hgg
    have hz0 := hg5.cell hy0 hne
    have hz1 := hg5.cell hy1 hne
    have h6 := end_any g [] 0 w5 hr5
    rw [rdEnd_ok] at h6
    have H6 := Lib.hid h6
    clear h6 hr5 hb4 hy0 hy1 H5 hne hg5
    go_wp2_with fail
    refine H6.out.mono ?_
    rintro _ w6 ⟨rfl, rfl⟩
    clear H6
    go_wp2
    go_ret
    exact ⟨rfl, hb5⟩
end Go.Proofs.Ytjnpadokmhhffaa
