/- The walk of the law SlotsPlay: whatever is stored, marked, written beside, wherever the power goes, what is booted, and each answer, is the document's. -/
import Derived.Test.YtmebdnblobobnaaGreatDoorDo6a
import Derived.Test.YtmebdnblobobnaaGreatDoorDo6b
import Derived.Test.YtmebdnblobobnaaGreatDoorFew6
import Derived.Test.YtmebdnblobobnaaGreatDoorBoots6
namespace Go.Proofs.YtmebdnblobobnaaGreatDoor
set_option maxRecDepth 100000
open Go.RowKit _root_.Go.Proofs.YtmebdnblobobnaaGreatDoor.Wd _root_.Go.Proofs.YtmebdnblobobnaaGreatDoor.Nm _root_.Go.Proofs.YtmebdnblobobnaaGreatDoor.Cm _root_.Go.Proofs.YtmebdnblobobnaaGreatDoor.Fm _root_.Go.Proofs.YtmebdnblobobnaaGreatDoor.Sm

theorem do6_any (f x : Nat) (m : Mem) (a : ActW) (w0 w : World) (B : Nat) (hf : Fl w f m) (hx : Rf w x m) (hfx : f < x) (hBf : B ≤ f) (hlow : Below B w0 w) (ha : ActWf6 w0 B a) (hn : a.n ≤ 200) (hFn : a.F.n ≤ 40) :
    Calls Tryz.prog 9 #[.agg a.cells.toArray, .pointer (some ⟨f, 0, none⟩), .pointer (some ⟨x, 0, none⟩)] w (Did w0 B f x) := by
  obtain ⟨aK, aN, A, n, cap, l, ⟨FK, FS, FP, FN, FA, Fn, Fcap, FL⟩⟩ := a
  have h : aK % 11 = 0 ∨ aK % 11 = 1 ∨ aK % 11 = 2 ∨ aK % 11 = 3 ∨ aK % 11 = 4 ∨ aK % 11 = 5 ∨ aK % 11 = 6 ∨ aK % 11 = 7 ∨ aK % 11 = 8 ∨ aK % 11 = 9 ∨ aK % 11 = 10 := by omega
  rcases h with h | h | h | h | h | h | h | h | h | h | h
  · exact do6_0 f x m aK aN A n cap l FK FS FP FN FA Fn Fcap FL w0 w B hf hx hfx hBf hlow ha.b ha.f hn hFn h
  · exact do6_1 f x m aK aN A n cap l FK FS FP FN FA Fn Fcap FL w0 w B hf hx hfx hBf hlow ha.b ha.f hn hFn h
  · exact do6_2 f x m aK aN A n cap l FK FS FP FN FA Fn Fcap FL w0 w B hf hx hfx hBf hlow ha.b ha.f hn hFn h
  · exact do6_3 f x m aK aN A n cap l FK FS FP FN FA Fn Fcap FL w0 w B hf hx hfx hBf hlow ha.b ha.f hn hFn h
  · exact do6_4 f x m aK aN A n cap l FK FS FP FN FA Fn Fcap FL w0 w B hf hx hfx hBf hlow ha.b ha.f hn hFn h
  · exact do6_5 f x m aK aN A n cap l FK FS FP FN FA Fn Fcap FL w0 w B hf hx hfx hBf hlow ha.b ha.f hn hFn h
  · exact do6_6 f x m aK aN A n cap l FK FS FP FN FA Fn Fcap FL w0 w B hf hx hfx hBf hlow ha.b ha.f hn hFn h
  · exact do6_7 f x m aK aN A n cap l FK FS FP FN FA Fn Fcap FL w0 w B hf hx hfx hBf hlow ha.b ha.f hn hFn h
  · exact do6_8 f x m aK aN A n cap l FK FS FP FN FA Fn Fcap FL w0 w B hf hx hfx hBf hlow ha.b ha.f hn hFn h
  · exact do6_9 f x m aK aN A n cap l FK FS FP FN FA Fn Fcap FL w0 w B hf hx hfx hBf hlow ha.b ha.f hn hFn h
  · exact do6_10 f x m aK aN A n cap l FK FS FP FN FA Fn Fcap FL w0 w B hf hx hfx hBf hlow ha.b ha.f hn hFn h

set_option maxHeartbeats 4000000 in
theorem slotsPlay_walk (A : Option Addr) (n cap : Nat) (acs : List ActW) (w : World) (hT : Tables w) (hl : LaidActs6 w w.heap.size A n acs) (_hc : n ≤ cap) (hn : n ≤ 9223372036854775807) :
    Calls Tryz.prog 3 #[.slice A n cap] w fun e w' => e = .returned (.bool true) ∧ Below w.heap.size w w' := by
  have HT := Lib.hid hT
  have H := Lib.hid hl
  have HF0 := Lib.hid (fun (W : World) (hb : Below w.heap.size w W) => few6_any A n cap acs W (⟨(hl.below hb).len, fun h0 => by
    obtain ⟨g, o, e, hg, hc⟩ := (hl.below hb).spot h0
    exact ⟨g, o, e, Nat.lt_of_lt_of_le hg hb.size, hc⟩, fun p hp => by
    have h := (hl.below hb).each p hp
    exact ⟨h.k, h.n, h.b.more hb.size, ⟨h.f.k, h.f.s, h.f.p, h.f.n, h.f.b.more hb.size⟩⟩⟩) hn)
  have HLN := Lib.hid hl.len
  clear hT hl _hc
  go_enter Tryz.func3, Tryz.ntmps3
  go_wp2_with fail
  (with_reducible refine (known6_any w HT.out).mono ?_)
  rintro _ w1 ⟨rfl, hb1⟩
  have HB1 := Lib.hid hb1
  clear hb1
  go_wp2_with fail
  (with_reducible refine (HF0.out _ HB1.out).mono ?_)
  rintro _ w2 ⟨rfl, rfl⟩
  clear HF0
  cases hfew : few6 acs with
  | false =>
    clear hfew
    go_wp2_with fail
    go_ret
    exact ⟨rfl, HB1.out⟩
  | true =>
    have hok : ∀ a ∈ acs, a.n ≤ 200 ∧ a.F.n ≤ 40 := by
      unfold few6 at hfew
      rw [Bool.and_eq_true, List.all_eq_true] at hfew
      intro a ha
      have h := hfew.1 a ha
      unfold okW at h
      rw [Bool.and_eq_true] at h
      exact ⟨of_decide_eq_true h.1, of_decide_eq_true h.2⟩
    have HOK := Lib.hid hok
    clear hfew hok
    go_wp2_with fail
    (with_reducible refine (new_any _).mono ?_)
    rintro _ w2 ⟨rfl, hf2, hb2⟩
    obtain ⟨f, hf⟩ : ∃ f, w1.heap.size = f := ⟨_, rfl⟩
    rw [hf] at hf2 ⊢
    have K2 := Lib.hid (And.intro hf2 (And.intro (step_below HB1.out hb2) (show w.heap.size ≤ f by have := HB1.out.size; omega)))
    clear hf2 hb2 hf
    go_wp2_with fail
    (with_reducible refine (xnew_any _).mono ?_)
    rintro _ w6 ⟨rfl, hf6, hb6⟩
    obtain ⟨x, hx⟩ : ∃ y, w2.heap.size = y := ⟨_, rfl⟩
    rw [hx] at hf6 ⊢
    have hfx : f < x := by have := K2.out.1.lt; omega
    have hwf : w.heap.size ≤ f := K2.out.2.2
    have HJ0 : Hid (∃ m, Fl w6 f m ∧ Rf w6 x m ∧ Below w.heap.size w w6) := Lib.hid ⟨_, K2.out.1.below hb6, hf6, step_below K2.out.2.1 hb6⟩
    clear hf6 hb6 hx K2 HB1
    go_wp2_with fail
    go_loopw [5] (fun i wr => ∃ j : Nat, j ≤ n ∧ i = .int .i64 j ∧ Hid (∃ m, Fl wr f m ∧ Rf wr x m ∧ Below w.heap.size w wr)) (fun i _ => n - (intOf i).toNat)
    case atStart => exact ⟨0, by omega, rfl, HJ0⟩
    case round =>
      clear HJ0
      obtain ⟨j, hj, rfl, HJ⟩ := hrel
      obtain ⟨m, hfm, hxm, hlow⟩ := HJ.out
      by_cases hlt : j < n
      · have hji : (j : Int) < (n : Int) := by omega
        have hjl : j < acs.length := by have := HLN.out; omega
        obtain ⟨g, o, rfl, hg, hc⟩ := (H.out.below hlow).spot (by omega)
        have hcj := hc j hjl
        have hwf6 := H.out.each _ (List.getElem_mem hjl)
        have hok := HOK.out _ (List.getElem_mem hjl)
        obtain ⟨a, ha⟩ : ∃ a, acs[j] = a := ⟨_, rfl⟩
        rw [ha] at hcj hwf6 hok
        have hdo := do6_any f x m a w wr w.heap.size hfm hxm hfx hwf hlow hwf6 hok.1 hok.2
        have hl8 : a.cells.length = 8 := rfl
        have hrg : wr.rangeAt g (o + j * 8) a.cells := fun i v hv => hcj i v hv
        obtain ⟨C, hC⟩ : ∃ C, a.cells = C := ⟨_, rfl⟩
        rw [hC] at hdo hl8 hrg
        have HDO := Lib.hid hdo
        have HRG := Lib.hid hrg
        have HIC := Lib.hid (show (Tryz.prog.info? 33).map (·.size) = some C.length by rw [hl8]; kernel_rfl)
        clear hfm hxm hlow hg hc hcj hwf6 hok ha hdo hl8 hrg hC HJ hjl
        go_wp2_with (refine wpList_load_mid rfl 33 (.tmp 21) rfl g (o + j * 8) rfl C _ HRG.out Tryz.underlying33 rfl HIC.out ?_)
        refine HDO.out.mono ?_
        rintro _ w7 ⟨rfl, m7, hf7, hx7, hb7⟩
        have HS := Lib.hid (same_any f x m7 w7 hf7 hx7)
        have H7 := Lib.hid (And.intro hf7 (And.intro hx7 hb7))
        clear hf7 hx7 hb7 HDO HRG
        go_wp2_with fail
        (with_reducible refine HS.out.mono ?_)
        rintro _ w8 ⟨rfl, hb8⟩
        have HBO := Lib.hid (boots6_any f x m7 w8 (H7.out.1.below hb8) (H7.out.2.1.below hb8) (HT.out.below (step_below H7.out.2.2 hb8)))
        have H8 := Lib.hid (And.intro (H7.out.1.below hb8) (And.intro (H7.out.2.1.below hb8) (step_below H7.out.2.2 hb8)))
        clear hb8 HS H7
        go_wp2_with fail
        (with_reducible refine HBO.out.mono ?_)
        rintro _ w9 ⟨rfl, hb9⟩
        have HJ9 : Hid (∃ m, Fl w9 f m ∧ Rf w9 x m ∧ Below w.heap.size w w9) := Lib.hid ⟨m7, H8.out.1.below hb9, H8.out.2.1.below hb9, step_below H8.out.2.2 hb9⟩
        clear hb9 HBO H8
        go_wp2_with fail
        go_roundw
        case rel => exact ⟨j + 1, by omega, by go_num, HJ9⟩
        case measure => simp [intOf]; omega
      · have hji : ¬ (j : Int) < (n : Int) := by omega
        have HL := Lib.hid hlow
        clear hfm hxm hlow HJ
        go_wp2_with fail
        go_ret
        exact ⟨rfl, HL.out⟩
end Go.Proofs.YtmebdnblobobnaaGreatDoor
