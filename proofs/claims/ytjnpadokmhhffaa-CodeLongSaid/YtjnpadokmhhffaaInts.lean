/- Contracts for package code's Int, Byte and Text: what they return lies in new memory and shows what the chapter says. -/
import Derived.Test.YtjnpadokmhhffaaConcat
import Derived.Lib.ConvBytes
namespace Go.Proofs.Ytjnpadokmhhffaa
open Go.RowKit Wd Nm

theorem little8 (x : Int) (w : World) : Calls Try.prog 31 #[.int .i64 x, .int .i64 8] w fun e w' => e = .returned (.slice (some ⟨w.heap.size, 0, none⟩) 8 8) ∧ w.alloc (.cells (Cz (fun i => x / 2 ^ (8 * i) % 256) 8 8) 5) = w' := little_any x 8 (by omega) w
theorem little1 (x : Int) (w : World) : Calls Try.prog 31 #[.int .i64 x, .int .i64 1] w fun e w' => e = .returned (.slice (some ⟨w.heap.size, 0, none⟩) 1 1) ∧ w.alloc (.cells (Cz (fun i => x / 2 ^ (8 * i) % 256) 1 1) 5) = w' := little_any x 1 (by omega) w
theorem little2 (x : Int) (w : World) : Calls Try.prog 31 #[.int .i64 x, .int .i64 2] w fun e w' => e = .returned (.slice (some ⟨w.heap.size, 0, none⟩) 2 2) ∧ w.alloc (.cells (Cz (fun i => x / 2 ^ (8 * i) % 256) 2 2) 5) = w' := little_any x 2 (by omega) w

theorem shows_lit (x : Int) (k : Nat) (hk : k ≤ 8) (w : World) : Shows (w.alloc (.cells (Cz (fun i => x / 2 ^ (8 * i) % 256) k k) 5)) (w.heap.size + 1) (some ⟨w.heap.size, 0, none⟩) k k (leb x k) := by
  have h := World.ownsRow_lit (base := 0) (e := 5) (size := 1) w (Cz (fun i => x / 2 ^ (8 * i) % 256) k k) k (Nat.zero_le _) (by simp only [maxLen]; omega) (by rw [Cz_size _ _ _ (Nat.le_refl _), Nat.mul_one])
  rw [Cz_full] at h
  have := Shows.of_own h
  simpa using this

/-- Two parts in the block that the call has just made. -/
theorem laid_two {w : World} {p q : Part} (hp : Shows w w.heap.size p.A p.n p.cap p.l) (hq : Shows w w.heap.size q.A q.n q.cap q.l) (T : TypeId) :
    Laid (w.alloc (.cells #[.slice p.A p.n p.cap, .slice q.A q.n q.cap] T)) (w.alloc (.cells #[.slice p.A p.n p.cap, .slice q.A q.n q.cap] T)).heap.size w.heap.size [p, q] := by
  have hb : Below w.heap.size w (w.alloc (.cells #[.slice p.A p.n p.cap, .slice q.A q.n q.cap] T)) := (Below.refl _ _).alloc (Nat.le_refl _) _
  have hn := heap_alloc_new w (.cells #[.slice p.A p.n p.cap, .slice q.A q.n q.cap] T)
  intro j hj
  match j, hj with
  | 0, _ => exact ⟨by rw [cell_of_row _ _ 0 _ T (0, 0) hn]; rfl, (hp.below hb).more hb.size⟩
  | 1, _ => exact ⟨by rw [cell_of_row _ _ 1 _ T (0, 0) hn]; rfl, (hq.below hb).more hb.size⟩

theorem laid_three {w : World} {p q r : Part} (hp : Shows w w.heap.size p.A p.n p.cap p.l) (hq : Shows w w.heap.size q.A q.n q.cap q.l) (hr : Shows w w.heap.size r.A r.n r.cap r.l) (T : TypeId) :
    Laid (w.alloc (.cells #[.slice p.A p.n p.cap, .slice q.A q.n q.cap, .slice r.A r.n r.cap] T)) (w.alloc (.cells #[.slice p.A p.n p.cap, .slice q.A q.n q.cap, .slice r.A r.n r.cap] T)).heap.size w.heap.size [p, q, r] := by
  have hb : Below w.heap.size w (w.alloc (.cells #[.slice p.A p.n p.cap, .slice q.A q.n q.cap, .slice r.A r.n r.cap] T)) := (Below.refl _ _).alloc (Nat.le_refl _) _
  have hn := heap_alloc_new w (.cells #[.slice p.A p.n p.cap, .slice q.A q.n q.cap, .slice r.A r.n r.cap] T)
  intro j hj
  match j, hj with
  | 0, _ => exact ⟨by rw [cell_of_row _ _ 0 _ T (0, 0) hn]; rfl, (hp.below hb).more hb.size⟩
  | 1, _ => exact ⟨by rw [cell_of_row _ _ 1 _ T (0, 0) hn]; rfl, (hq.below hb).more hb.size⟩
  | 2, _ => exact ⟨by rw [cell_of_row _ _ 2 _ T (0, 0) hn]; rfl, (hr.below hb).more hb.size⟩

theorem concat_two (p q : Part) (w : World) (g : Nat) (hg : w.heap.size = g) (hp : Shows w g p.A p.n p.cap p.l) (hq : Shows w g q.A q.n q.cap q.l) (hsm : p.n + q.n ≤ 1000000000000) :
    Calls Try.prog 30 #[.slice (some ⟨g, 0, none⟩) 2 2] (w.alloc (.cells #[.slice p.A p.n p.cap, .slice q.A q.n q.cap] 22)) fun e w' => ∃ A c, e = .returned (.slice A (p.n + q.n) c) ∧ w'.ownsRow g 5 1 (.slice A (p.n + q.n) c) (p.n + q.n) (bc (p.l ++ q.l)) ∧ Below g w w' := by
  subst hg
  refine (concat_any [p, q] w.heap.size _ (by simp) (laid_two hp hq _) (by simp) (by simp [total]; omega)).mono ?_
  rintro e w' ⟨A, c, rfl, hown, hbel⟩
  have e1 : total [p, q] = p.n + q.n := by simp [total]
  have e2 : joined [p, q] = p.l ++ q.l := by simp [joined]
  rw [e1, e2] at hown
  rw [e1]
  refine ⟨A, c, rfl, ⟨hown.1, ?_⟩, ((Below.refl _ _).alloc (Nat.le_refl _) _).trans (hbel.mono (by simp))⟩
  rcases hown.2 with h | ⟨g, cap, cur, h1, h2, h3⟩
  · exact .inl h
  · exact .inr ⟨g, cap, cur, h1, by simp at h2; omega, h3⟩

theorem concat_three (p q r : Part) (w : World) (g : Nat) (hg : w.heap.size = g) (hp : Shows w g p.A p.n p.cap p.l) (hq : Shows w g q.A q.n q.cap q.l) (hr : Shows w g r.A r.n r.cap r.l) (hsm : p.n + q.n + r.n ≤ 1000000000000) :
    Calls Try.prog 30 #[.slice (some ⟨g, 0, none⟩) 3 3] (w.alloc (.cells #[.slice p.A p.n p.cap, .slice q.A q.n q.cap, .slice r.A r.n r.cap] 22)) fun e w' => ∃ A c, e = .returned (.slice A (p.n + q.n + r.n) c) ∧ w'.ownsRow g 5 1 (.slice A (p.n + q.n + r.n) c) (p.n + q.n + r.n) (bc (p.l ++ q.l ++ r.l)) ∧ Below g w w' := by
  subst hg
  refine (concat_any [p, q, r] w.heap.size _ (by simp) (laid_three hp hq hr _) (by simp) (by simp [total]; omega)).mono ?_
  rintro e w' ⟨A, c, rfl, hown, hbel⟩
  have e1 : total [p, q, r] = p.n + q.n + r.n := by simp [total]; omega
  have e2 : joined [p, q, r] = p.l ++ q.l ++ r.l := by simp [joined]
  rw [e1, e2] at hown
  rw [e1]
  refine ⟨A, c, rfl, ⟨hown.1, ?_⟩, ((Below.refl _ _).alloc (Nat.le_refl _) _).trans (hbel.mono (by simp))⟩
  rcases hown.2 with h | ⟨g, cap, cur, h1, h2, h3⟩
  · exact .inl h
  · exact .inr ⟨g, cap, cur, h1, by simp at h2; omega, h3⟩

set_option maxHeartbeats 400000 in
theorem int_any (A : Option Addr) (n cap : Nat) (l : List UInt8) (x : Int) (w : World) (hs : Shows w w.heap.size A n cap l) (hn : n ≤ 100000000000) :
    Calls Try.prog 11 #[.slice A n cap, .int .i64 x] w fun e w' => ∃ A2 c2, e = .returned (.slice A2 (n + 8) c2) ∧ w'.ownsRow w.heap.size 5 1 (.slice A2 (n + 8) c2) (n + 8) (bc (l ++ leb x 8)) ∧ Below w.heap.size w w' := by
  have hb : Below w.heap.size w (w.alloc (.cells (Cz (fun i => x / 2 ^ (8 * i) % 256) 8 8) 5)) := (Below.refl _ _).alloc (Nat.le_refl _) _
  have hc := concat_two ⟨A, n, cap, l⟩ ⟨some ⟨w.heap.size, 0, none⟩, 8, 8, leb x 8⟩ _ (w.heap.size + 1) (by simp) ((hs.below hb).more (by simp)) (shows_lit x 8 (by omega) w) (by simp; omega)
  go_enter Try.func11, Try.ntmps11
  go_wp2_with fail
  refine (little8 _ _).mono ?_
  rintro e w1 ⟨rfl, rfl⟩
  go_wp2_with fail
  refine hc.mono ?_
  rintro e w2 ⟨A2, c2, rfl, hown, hbel⟩
  go_wp2
  go_ret
  exact ⟨A2, c2, rfl, own_mono hown (by omega), hb.trans (hbel.mono (by omega))⟩

set_option maxHeartbeats 400000 in
theorem byte_any (A : Option Addr) (n cap : Nat) (l : List UInt8) (x : Int) (w : World) (hs : Shows w w.heap.size A n cap l) (hn : n ≤ 100000000000) :
    Calls Try.prog 13 #[.slice A n cap, .int .i64 x] w fun e w' => ∃ A2 c2, e = .returned (.slice A2 (n + 1) c2) ∧ w'.ownsRow w.heap.size 5 1 (.slice A2 (n + 1) c2) (n + 1) (bc (l ++ leb x 1)) ∧ Below w.heap.size w w' := by
  have hb : Below w.heap.size w (w.alloc (.cells (Cz (fun i => x / 2 ^ (8 * i) % 256) 1 1) 5)) := (Below.refl _ _).alloc (Nat.le_refl _) _
  have hc := concat_two ⟨A, n, cap, l⟩ ⟨some ⟨w.heap.size, 0, none⟩, 1, 1, leb x 1⟩ _ (w.heap.size + 1) (by simp) ((hs.below hb).more (by simp)) (shows_lit x 1 (by omega) w) (by simp; omega)
  go_enter Try.func13, Try.ntmps13
  go_wp2_with fail
  refine (little1 _ _).mono ?_
  rintro e w1 ⟨rfl, rfl⟩
  go_wp2_with fail
  refine hc.mono ?_
  rintro e w2 ⟨A2, c2, rfl, hown, hbel⟩
  go_wp2
  go_ret
  exact ⟨A2, c2, rfl, own_mono hown (by omega), hb.trans (hbel.mono (by omega))⟩

/-- What '[]byte(s)' makes. -/
theorem shows_bytes (w : World) (s : ByteArray) (hs : s.size ≤ 1000000) : Below w.heap.size w (Lib.bytesWorld w 5 s) ∧ (Lib.bytesWorld w 5 s).heap.size = w.heap.size + 1 ∧ Shows (Lib.bytesWorld w 5 s) (w.heap.size + 1) (some ⟨w.heap.size, 0, none⟩) s.size (grownCap w s.size 0 5) s.data.toList := by
  refine ⟨⟨rfl, rfl, rfl, by rw [Lib.bytesWorld_size]; omega, fun k hk => Lib.bytesWorld_at_old w _ s k hk⟩, Lib.bytesWorld_size _ _ _, rfl, grownCap_ge w _ _ _, grownCap_le_maxLen w _ _ _ (by simp only [maxLen]; omega), fun _ => ⟨_, 0, rfl, by omega, fun j hj => ?_⟩⟩
  have := Lib.bytesWorld_cell w 5 s j (by simpa using hj)
  rw [Nat.zero_add, this, List.getD_eq_getElem?_getD, List.getElem?_eq_getElem hj]
  rfl

/-- The call of Concat that Text comes to, whatever the text. -/
theorem text_concat (A : Option Addr) (n cap : Nat) (l : List UInt8) (s : ByteArray) (w : World) (hs : Shows w w.heap.size A n cap l) (hn : n ≤ 100000000000) (h : s.size ≤ 65535) :
    Calls Try.prog 30 #[.slice (some ⟨(Lib.bytesWorld (w.alloc (.cells (Cz (fun i => (s.size : Int) / 2 ^ (8 * i) % 256) 2 2) 5)) 5 s).heap.size, 0, none⟩) 3 3]
      ((Lib.bytesWorld (w.alloc (.cells (Cz (fun i => (s.size : Int) / 2 ^ (8 * i) % 256) 2 2) 5)) 5 s).alloc (.cells #[.slice A n cap, .slice (some ⟨w.heap.size, 0, none⟩) 2 2,
        .slice (some ⟨w.heap.size + 1, 0, none⟩) s.size (grownCap (w.alloc (.cells (Cz (fun i => (s.size : Int) / 2 ^ (8 * i) % 256) 2 2) 5)) s.size 0 5)] 22))
      fun e w' => ∃ A2 c2, e = .returned (.slice A2 (n + 2 + s.size) c2) ∧ w'.ownsRow w.heap.size 5 1 (.slice A2 (n + 2 + s.size) c2) (n + 2 + s.size) (bc (l ++ leb s.size 2 ++ s.data.toList)) ∧ Below w.heap.size w w' := by
  have hb : Below w.heap.size w (w.alloc (.cells (Cz (fun i => (s.size : Int) / 2 ^ (8 * i) % 256) 2 2) 5)) := (Below.refl _ _).alloc (Nat.le_refl _) _
  have e1 : (w.alloc (.cells (Cz (fun i => (s.size : Int) / 2 ^ (8 * i) % 256) 2 2) 5)).heap.size = w.heap.size + 1 := by simp
  have hlit := shows_lit s.size 2 (by omega) w
  obtain ⟨hb2, e2, hsb⟩ := shows_bytes (w.alloc (.cells (Cz (fun i => (s.size : Int) / 2 ^ (8 * i) % 256) 2 2) 5)) s (by omega)
  rw [e1] at hb2 e2 hsb
  refine (concat_three ⟨A, n, cap, l⟩ ⟨some ⟨w.heap.size, 0, none⟩, 2, 2, leb s.size 2⟩ ⟨some ⟨w.heap.size + 1, 0, none⟩, s.size, _, s.data.toList⟩ _ _ rfl (((hs.below hb).below (hb2.mono (by omega))).more (by omega)) ((hlit.below hb2).more (by omega)) (hsb.more (by omega)) (by simp; omega)).mono ?_
  rintro e w' ⟨A2, c2, rfl, hown, hbel⟩
  exact ⟨A2, c2, rfl, own_mono hown (by omega), (hb.trans (hb2.mono (by omega))).trans (hbel.mono (by omega))⟩

set_option maxHeartbeats 400000 in
theorem text_small (A : Option Addr) (n cap : Nat) (l : List UInt8) (s : ByteArray) (w : World) (hs : Shows w w.heap.size A n cap l) (hn : n ≤ 100000000000) (h : s.size ≤ 65535) :
    Calls Try.prog 15 #[.slice A n cap, .string s] w fun e w' => ∃ A2 c2, e = .returned (.slice A2 (n + 2 + s.size) c2) ∧ w'.ownsRow w.heap.size 5 1 (.slice A2 (n + 2 + s.size) c2) (n + 2 + s.size) (bc (l ++ leb s.size 2 ++ s.data.toList)) ∧ Below w.heap.size w w' := by
  have hcv := fun (W : World) (s : ByteArray) => Lib.run_convert_string_bytes (P := Try.prog) W 9 22 5 s Try.underlying9 Try.underlying22 Try.underlying5
  go_enter Try.func15, Try.ntmps15
  go_wp2_with fail
  refine (little2 _ _).mono ?_
  rintro e w1 ⟨rfl, rfl⟩
  go_wp2_with fail
  refine (text_concat A n cap l s w hs hn h).mono ?_
  rintro e w2 ⟨A2, c2, rfl, hown, hbel⟩
  clear hcv
  go_wp2
  go_ret
  exact ⟨A2, c2, rfl, hown, hbel⟩

set_option maxHeartbeats 400000 in
theorem text_great (A : Option Addr) (n cap : Nat) (l : List UInt8) (s : ByteArray) (w : World) (hs : Shows w w.heap.size A n cap l) (hn : n ≤ 100000000000) (h : 65535 < s.size) (hm : s.size ≤ 100000000000) :
    Calls Try.prog 15 #[.slice A n cap, .string s] w fun e w' => ∃ A2 c2, e = .returned (.slice A2 (n + 2 + 65535) c2) ∧ w'.ownsRow w.heap.size 5 1 (.slice A2 (n + 2 + 65535) c2) (n + 2 + 65535) (bc (l ++ leb 65535 2 ++ s.data.toList.take 65535)) ∧ Below w.heap.size w w' := by
  have hcv := fun (W : World) (s : ByteArray) => Lib.run_convert_string_bytes (P := Try.prog) W 9 22 5 s Try.underlying9 Try.underlying22 Try.underlying5
  have ht : (s.extract 0 65535).size = 65535 := by simp; omega
  have hd : (s.extract 0 65535).data.toList = s.data.toList.take 65535 := by simp [ByteArray.data_extract]
  have hc := text_concat A n cap l (s.extract 0 65535) w hs hn (by omega)
  rw [ht, hd] at hc
  have hmn : min 65535 s.size = 65535 := by omega
  clear ht hd
  go_enter Try.func15, Try.ntmps15
  go_wp2_with fail
  refine (little2 _ _).mono ?_
  rintro e w1 ⟨rfl, rfl⟩
  go_wp2_with fail
  refine hc.mono ?_
  rintro e w2 ⟨A2, c2, rfl, hown, hbel⟩
  clear hcv
  go_wp2
  go_ret
  exact ⟨A2, c2, rfl, hown, hbel⟩
end Go.Proofs.Ytjnpadokmhhffaa
