/- The walk of the law RecordTorn: wherever the power goes within an append, whatever of the bits is done, all records ahead stand, and the last one is whole, or not there. -/
import Derived.Test.YtolpiklhnafnbaaSame
import Derived.Test.YtolpiklhnafnbaaLaw5Base
import Derived.Test.YtolpiklhnafnbaaRefAppend
import Derived.Test.YtolpiklhnafnbaaRows5
import Derived.Test.YtolpiklhnafnbaaRecCount
import Derived.Test.YtolpiklhnafnbaaRecTorn
namespace Go.Proofs.Ytolpiklhnafnbaa
set_option maxRecDepth 100000
open Go.RowKit Wd Fm

theorem Rf.beside {w w' : World} {g x : Nat} {m m' : Mem} (hx : Rf w x m) (hf : Fl w g m') (hg : w.grownBy w' (some g)) (hne : g ≠ x) : Rf w' x m := by
  obtain ⟨A, n, cap, hr, _⟩ := hf.spot
  exact hx.kept hg hne _ _ hr ty_ne
theorem Fl.beside {w w' : World} {g x : Nat} {m m' : Mem} (hf : Fl w g m) (hx : Rf w x m') (hg : w.grownBy w' (some x)) (hne : g ≠ x) : Fl w' g m := by
  obtain ⟨_, A, n, cap, hr, _⟩ := hx.spot
  exact hf.kept hg (fun e => hne e.symm) _ _ hr tyx_ne
/-- A memory of the program's and one of the reference's. -/
structure Couple (W : World) (B f x : Nat) (m : Mem) : Prop where
  pf : Fl W f m
  px : Rf W x m
  pd : B ≤ f ∧ f < x
theorem Couple.below {W W' : World} {B f x : Nat} {m : Mem} (a : Couple W B f x m) (hb : Below W.heap.size W W') : Couple W' B f x m := ⟨a.pf.below hb, a.px.below hb, a.pd⟩
theorem LaidAt.more {w : World} {B B' : Nat} {A : Option Addr} {n : Nat} {ps : List Part} (h : LaidAt w B A n ps) (hb : B ≤ B') : LaidAt w B' A n ps :=
  ⟨h.len, fun hn => by
    obtain ⟨g, o, e, hg, hc⟩ := h.spot hn
    exact ⟨g, o, e, Nat.lt_of_lt_of_le hg hb, hc⟩, fun p hp => (h.each p hp).more hb⟩
theorem LaidAt.front {w : World} {B : Nat} {A : Option Addr} {n k : Nat} {ps : List Part} (h : LaidAt w B A n ps) (hk : k ≤ n) : LaidAt w B A k (ps.take k) :=
  ⟨by rw [List.length_take, h.len]; omega, fun hn => by
    obtain ⟨g, o, e, hg, hc⟩ := h.spot (by omega)
    refine ⟨g, o, e, hg, fun j hj => ?_⟩
    have hj2 : j < ps.length := by rw [List.length_take] at hj; omega
    rw [List.getElem_take]
    exact hc j hj2, fun p hp => h.each p (List.mem_of_mem_take hp)⟩

set_option maxHeartbeats 8000000 in
theorem recordTorn_walk (A : Option Addr) (n cap : Nat) (ps : List Part) (A1 : Option Addr) (n1 cap1 : Nat) (lb : List UInt8) (at0 : Int) (A3 : Option Addr) (n3 cap3 : Nat) (lm : List UInt8) (w : World)
    (hl : LaidAt w w.heap.size A n ps) (hn : n ≤ 9223372036854775807) (hb : Shows w w.heap.size A1 n1 cap1 lb) (_hat : (Lit.int .i64 at0).wf = true) (hm : Shows w w.heap.size A3 n3 cap3 lm) :
    Calls Try.prog 6 #[.slice A n cap, .slice A1 n1 cap1, .int .i64 at0, .slice A3 n3 cap3] w fun e w' => e = .returned (.bool true) ∧ Below w.heap.size w w' := by
  have hn1 : n1 ≤ 9223372036854775807 := by have := hb.le; have := hb.top; unfold maxLen at this; omega
  have hn3 : n3 ≤ 9223372036854775807 := by have := hm.le; have := hm.top; unfold maxLen at this; omega
  have H := Lib.hid (And.intro hl (And.intro hb hm))
  clear hl hb hm
  go_enter Try.func6, Try.ntmps6
  go_wp2_with fail
  (with_reducible refine (known5_any _).mono ?_)
  rintro _ w1 ⟨rfl, hb1⟩
  have HB1 := Lib.hid hb1
  clear hb1
  by_cases hn8 : n ≤ 8
  · by_cases hn100 : n1 ≤ 100
    · by_cases hn20 : n3 ≤ 20
      · have hi1 : ¬ (n : Int) > 8 := by omega
        have hi2 : ¬ (n1 : Int) > 100 := by omega
        have hi3 : ¬ (n3 : Int) > 20 := by omega
        go_wp2_with fail
        (with_reducible refine (new_any _).mono ?_)
        rintro _ w2 ⟨rfl, hf2, hb2⟩
        obtain ⟨f, hf⟩ : ∃ f, w1.heap.size = f := ⟨_, rfl⟩
        rw [hf] at hf2 ⊢
        have K2 := Lib.hid (And.intro hf2 (And.intro (step_below HB1.out hb2) (show w.heap.size ≤ f by have := HB1.out.size; omega)))
        clear hf2 hb2 hf
        go_wp2_with fail
        (with_reducible refine (xnew_any _).mono ?_)
        rintro _ w6 ⟨rfl, hf6, hb6⟩
        obtain ⟨x, hx⟩ : ∃ y, w2.heap.size = y := ⟨_, rfl⟩
        rw [hx] at hf6 ⊢
        have hfx : f < x := by have := K2.out.1.lt; omega
        have K6 : Hid (Couple w6 w.heap.size f x Mem.fresh ∧ Below w.heap.size w w6) := Lib.hid ⟨⟨K2.out.1.below hb6, hf6, K2.out.2.2, hfx⟩, step_below K2.out.2.1 hb6⟩
        have hwf := K2.out.2.2
        clear hf6 hb6 hx K2 HB1
        go_wp2_with fail
        go_loopw [11] (fun i wr => ∃ j : Nat, j ≤ n ∧ i = .int .i64 j ∧ Hid (∃ m free, Couple wr w.heap.size f x m ∧ Calm m ∧ Good (m.page (3 * 1024) 1024) ((bytesOf ps).take j) free ∧ free ≤ 5 * j ∧ Below w.heap.size w wr)) (fun i _ => n - (intOf i).toNat)
        case atStart => exact ⟨0, by omega, rfl, Lib.hid ⟨_, 0, K6.out.1, calm_new, good_fresh 3 (by omega), by omega, K6.out.2⟩⟩
        case round =>
          clear K6
          obtain ⟨j, hj, rfl, HJ⟩ := hrel
          obtain ⟨m, free, hp, hc, hg, hfr, hbr⟩ := HJ.out
          clear HJ
          by_cases hlt : j < n
          · have hji : (j : Int) < (n : Int) := by omega
            have hjl : j < ps.length := by have := H.out.1.len; omega
            have hlr := H.out.1.below hbr
            obtain ⟨G, o, rfl, _, hcl⟩ := hlr.spot (by omega)
            have c0 := hcl j hjl
            have hsh := hlr.each ps[j] (List.getElem_mem hjl)
            have hshw := H.out.1.each ps[j] (List.getElem_mem hjl)
            have htk : (bytesOf ps).take (j + 1) = (bytesOf ps).take j ++ [ps[j].l] := by
              rw [List.take_succ_eq_append_getElem (by unfold bytesOf; rw [List.length_map]; exact hjl)]
              simp [bytesOf]
            obtain ⟨P, hP⟩ : ∃ P, ps[j] = P := ⟨_, rfl⟩
            rw [hP] at c0 hsh htk hshw
            obtain ⟨pA, pn, pc, pl⟩ := P
            simp only at c0 hsh htk hshw
            have hpl := hsh.len
            by_cases h60 : pn ≤ 60
            · have h60i : ¬ (pn : Int) > 60 := by omega
              have hpg := pagesN_hi pl.length
              obtain ⟨m', ha, hc', _, hg', _⟩ := append_good hc (by omega) hg pl (by omega) (by omega)
              rw [← htk] at hg'
              rw [show ((3 : Nat) : Int) = 3 from rfl] at ha
              have HAP := Lib.hid (append_any f m 3 pA pn pc pl wr hp.pf (hsh.more hbr.size) (by omega))
              rw [ha] at HAP
              have HX := Lib.hid (And.intro hp (And.intro hbr (And.intro ha (And.intro hc' (And.intro hg' (And.intro hshw (show free + pagesN pl.length ≤ 5 * (j + 1) by omega)))))))
              have HCL := Lib.hid (fun (W : World) (hb : Below w.heap.size w W) => (show W.cell? ⟨G, o + j, none⟩ = some (.slice pA pn pc) from by
                obtain ⟨g', o', e, _, hc3⟩ := (H.out.1.below hb).spot (show 0 < n by omega)
                injection e with e
                injection e with e1 e2
                subst e1 e2
                have := hc3 j hjl
                rw [hP] at this
                exact this))
              clear hlr hcl hsh hshw htk hP hpl hpg ha hc' hg' hp hc hg hbr hfr
              go_wp2_with fail
              (with_reducible refine HAP.out.mono ?_)
              rintro _ w5 ⟨rfl, hf5, hg5⟩
              have hb5 := step_grow HX.out.2.1 hg5 hwf
              have hx5 := HX.out.1.px.beside HX.out.1.pf hg5 (by omega)
              have HAX := Lib.hid (xappend_any x m 3 pA pn pc pl w5 hx5 ((HX.out.2.2.2.2.2.1.below hb5).more hb5.size) (by omega))
              rw [HX.out.2.2.1] at HAX
              have c5 := HCL.out w5 hb5
              have HF := Lib.hid (And.intro hf5 (And.intro hx5 hb5))
              clear hf5 hg5 hx5 hb5 HAP c0 HCL
              go_wp2_with fail
              (with_reducible refine HAX.out.mono ?_)
              rintro _ w6 ⟨rfl, hx6, hg6⟩
              have HN : Hid (∃ m free, Couple w6 w.heap.size f x m ∧ Calm m ∧ Good (m.page (3 * 1024) 1024) ((bytesOf ps).take (j + 1)) free ∧ free ≤ 5 * (j + 1) ∧ Below w.heap.size w w6) :=
                Lib.hid ⟨m', _, ⟨HF.out.1.beside HF.out.2.1 hg6 (by omega), hx6, hwf, hfx⟩, HX.out.2.2.2.1, HX.out.2.2.2.2.1, HX.out.2.2.2.2.2.2, step_grow HF.out.2.2 hg6 (by omega)⟩
              clear hx6 hg6 HAX HF HX c5
              go_wp2
              go_roundw
              case rel => exact ⟨j + 1, by omega, by go_num, HN⟩
              case measure => simp [intOf]; omega
            · have h60i : (pn : Int) > 60 := by omega
              have HB := Lib.hid hbr
              clear hlr hcl hsh hshw htk hP hpl hp hc hg hbr hfr
              go_wp2
              go_ret
              exact ⟨rfl, HB.out⟩
          · have hjn : j = n := by omega
            subst hjn
            have hji : ¬ (j : Int) < (j : Int) := by omega
            have htk : (bytesOf ps).take j = bytesOf ps := List.take_of_length_le (by unfold bytesOf; rw [List.length_map, H.out.1.len]; exact Nat.le_refl _)
            rw [htk] at hg
            obtain ⟨t, ht⟩ : ∃ t : Nat, at0 % 9 = t := ⟨(at0 % 9).toNat, by omega⟩
            have ht9 : t < 9 := by omega
            have hlb := H.out.2.1.len
            have hpg := pagesN_hi lb.length
            obtain ⟨e, m2, ha, hor, hez⟩ := torn_model hc (by omega) hg lb (by omega) (by omega) (1 + (t : Int)) (by omega) lm
            rw [show ((3 : Nat) : Int) = 3 from rfl] at ha hor hez
            have hmb : ∀ a, A3 = some a → 0 < n3 → a.block ≠ f := fun a ha h0 => by
              obtain ⟨g', o', e, hlt', _⟩ := H.out.2.2.spot h0
              rw [ha] at e
              injection e with e
              rw [e]
              show g' ≠ f
              omega
            have HT := Lib.hid ht
            have HST := Lib.hid (stop_any f m (1 + (t : Int)) A3 n3 cap3 lm wr hp.pf (by omega) ((H.out.2.2.below hbr).more hbr.size) hmb (by omega))
            have HX := Lib.hid (And.intro hp (And.intro hbr (And.intro ha (And.intro hor hez))))
            clear hp hc hg hfr hbr htk ht hlb hpg ha hor hez hmb
            go_wp2_with fail
            (with_reducible refine (within5_any _ 9 _ (by decide) (by decide)).mono ?_)
            rintro _ w5 ⟨rfl, rfl⟩
            rw [HT.out]
            go_wp2_with fail
            (with_reducible refine HST.out.mono ?_)
            rintro _ w5 ⟨rfl, hf5, hg5⟩
            have hb5 := step_grow HX.out.2.1 hg5 hwf
            have hx5 := HX.out.1.px.beside HX.out.1.pf hg5 (by omega)
            have HXS := Lib.hid (xstop_any x m (1 + (t : Int)) A3 n3 cap3 lm w5 hx5 (by omega) ((H.out.2.2.below hb5).more hb5.size) (by omega))
            have HF := Lib.hid (And.intro hf5 (And.intro hx5 hb5))
            clear hf5 hg5 hx5 hb5 HST
            go_wp2_with fail
            (with_reducible refine (within5_any _ 9 _ (by decide) (by decide)).mono ?_)
            rintro _ w6 ⟨rfl, rfl⟩
            rw [HT.out]
            go_wp2_with fail
            (with_reducible refine HXS.out.mono ?_)
            rintro _ w6 ⟨rfl, hx6, hg6⟩
            have hf6 := HF.out.1.beside HF.out.2.1 hg6 (by omega)
            have hb6 := step_grow HF.out.2.2 hg6 (by omega)
            have HAP := Lib.hid (append_any f (stopM m (1 + (t : Int)) lm) 3 A1 n1 cap1 lb w6 hf6 ((H.out.2.1.below hb6).more hb6.size) (by omega))
            rw [HX.out.2.2.1] at HAP
            have HG := Lib.hid (And.intro hf6 (And.intro hx6 hb6))
            clear hx6 hg6 hf6 hb6 HXS HF
            go_wp2_with fail
            (with_reducible refine HAP.out.mono ?_)
            rintro _ w7 ⟨rfl, hf7, hg7⟩
            have hx7 := HG.out.2.1.beside HG.out.1 hg7 (by omega)
            have hb7 := step_grow HG.out.2.2 hg7 hwf
            have HAX := Lib.hid (xappend_any x (stopM m (1 + (t : Int)) lm) 3 A1 n1 cap1 lb w7 hx7 ((H.out.2.1.below hb7).more hb7.size) (by omega))
            rw [HX.out.2.2.1] at HAX
            have HF := Lib.hid (And.intro hf7 (And.intro hx7 hb7))
            clear hf7 hg7 hx7 hb7 HAP HG
            go_wp2_with fail
            (with_reducible refine HAX.out.mono ?_)
            rintro _ w8 ⟨rfl, hx8, hg8⟩
            have hf8 := HF.out.1.beside HF.out.2.1 hg8 (by omega)
            have hb8 := step_grow HF.out.2.2 hg8 (by omega)
            have HS := Lib.hid (start_any f m2 w8 hf8)
            have HG := Lib.hid (And.intro hf8 (And.intro hx8 hb8))
            clear hx8 hg8 hf8 hb8 HAX HF
            go_wp2_with fail
            (with_reducible refine HS.out.mono ?_)
            rintro _ w9 ⟨rfl, hf9, hg9⟩
            have hx9 := HG.out.2.1.beside HG.out.1 hg9 (by omega)
            have hb9 := step_grow HG.out.2.2 hg9 hwf
            have HXS := Lib.hid (xstart_any x m2 w9 hx9)
            have HF := Lib.hid (And.intro hf9 (And.intro hx9 hb9))
            clear hf9 hg9 hx9 hb9 HS HG
            go_wp2_with fail
            (with_reducible refine HXS.out.mono ?_)
            rintro _ w10 ⟨rfl, hx10, hg10⟩
            have hf10 := HF.out.1.beside HF.out.2.1 hg10 (by omega)
            have hb10 := step_grow HF.out.2.2 hg10 (by omega)
            obtain ⟨R, hR⟩ : ∃ R, loadM (readM (startM m2) 3) = R := ⟨_, rfl⟩
            have hcnt : R.1.length ≤ 64 := by rw [← hR]; exact load_count _
            have hor := HX.out.2.2.2.1
            have hez := HX.out.2.2.2.2
            rw [hR] at hor hez
            have HL := Lib.hid (load_any f (startM m2) 3 _ hf10)
            rw [hR] at HL
            have HXL := Lib.hid (fun W hb => xload_any x (startM m2) 3 W (hx10.below hb))
            rw [hR] at HXL
            have HY := Lib.hid (And.intro hor (And.intro hez (And.intro hcnt hb10)))
            clear hx10 hg10 hf10 hb10 hR hcnt hor hez HXS HF HX HT
            go_wp2_with fail
            (with_reducible refine HL.out.mono ?_)
            rintro _ w11 ⟨A8, n8, c8, ps8, rfl, ho8, hl8, hb8⟩
            have H8 := Lib.hid (And.intro ho8 (And.intro hl8 hb8))
            clear ho8 hl8 hb8 HL
            go_wp2_with fail
            (with_reducible refine (HXL.out _ H8.out.2.2).mono ?_)
            rintro _ w12 ⟨A9, n9, c9, ps9, rfl, ho9, hl9, hb9⟩
            have ho89 := H8.out.1.below hb9
            have hc8 := own_cap ho89.own
            have h8l : n8 = R.1.length := by
              have h1 := ho89.len
              have h2 := congrArg List.length H8.out.2.1
              rw [List.length_map] at h2
              omega
            have h9l : n9 = R.1.length := by
              have h1 := ho9.len
              have h2 := congrArg List.length hl9
              rw [List.length_map] at h2
              omega
            have hbw := step_below (step_below HY.out.2.2.2 H8.out.2.2) hb9
            have hcnt := HY.out.2.2.1
            have HRW := Lib.hid (rows5_any A8 n8 c8 ps8 A9 n9 c9 ps9 w12 ho89.laid ho9.laid (by omega) (by omega))
            have heq : decide (bytesOf ps8 = bytesOf ps9) = true := by
              refine decide_eq_true ?_
              unfold bytesOf
              rw [H8.out.2.1, hl9]
            rw [heq] at HRW
            have hlj : (bytesOf ps).length = j := by unfold bytesOf; rw [List.length_map, H.out.1.len]
            have hfr : R.1.take j = bytesOf ps → decide (bytesOf (ps8.take j) = bytesOf ps) = true := fun h => by
              refine decide_eq_true ?_
              rw [← h]
              have e : bytesOf (ps8.take j) = (ps8.map (·.l)).take j := by unfold bytesOf; rw [List.map_take]
              rw [e, H8.out.2.1]
            have HZ := Lib.hid (And.intro ho89 (And.intro ho9 (And.intro hbw (And.intro hl9 H8.out.2.1))))
            have HYZ := Lib.hid (And.intro HY.out.2.1 hfr)
            have hor := HY.out.1
            clear ho9 hl9 hb9 ho89 heq HXL H8 hbw HY hfr
            rcases hor with hR | ⟨y, hR⟩
            · have hn8j : j = n8 := by rw [h8l, hR, hlj]
              have hn9j : j = n9 := by rw [h9l, hR, hlj]
              have he : e ≠ 0 := fun h => by
                have h5 := HYZ.out.1 h
                rw [hR] at h5
                have h6 := congrArg List.length h5
                simp at h6
              have hdt := HYZ.out.2 (by rw [hR]; exact List.take_of_length_le (by omega))
              have HDT := Lib.hid hdt
              have heb : (e == 0) = false := by simpa using he
              clear h8l h9l hR hlj HYZ hdt
              subst hn8j hn9j
              go_wp2_with fail
              (with_reducible refine HRW.out.mono ?_)
              rintro _ w13 ⟨rfl, hb13⟩
              have hbw13 := step_below HZ.out.2.2.1 hb13
              have HR2 := Lib.hid (rows5_any A8 j c8 (ps8.take j) A j cap ps w13 ((HZ.out.1.below hb13).laid.front (Nat.le_refl _)) ((H.out.1.below hbw13).more hbw13.size) (by omega) (by omega))
              rw [HDT.out] at HR2
              have HB13 := Lib.hid hbw13
              clear hb13 hbw13 HRW
              go_wp2_with fail
              (with_reducible refine HR2.out.mono ?_)
              rintro _ w14 ⟨rfl, hb14⟩
              have HB14 := Lib.hid (step_below HB13.out hb14)
              clear hb14 HR2
              have hdf : decide ((j : Int) = (j : Int) + 1) = false := decide_eq_false (by omega)
              have hdf2 : ((j : Int) == (j : Int) + 1) = false := by rw [beq_eq_false_iff_ne]; omega
              go_wp2_with fail
              go_quiet (fail)
              go_wp2
              go_ret
              exact ⟨rfl, below_drewN HB14.out _⟩
            · have hn8j : j + 1 = n8 := by rw [h8l, hR, List.length_append, hlj]; rfl
              have hn9j : j + 1 = n9 := by rw [h9l, hR, List.length_append, hlj]; rfl
              have hdt := HYZ.out.2 (by rw [hR]; exact List.take_left' hlj)
              have HDT := Lib.hid hdt
              have hget : ∀ qs : List Part, qs.map (·.l) = R.1 → ∀ h : j < qs.length, qs[j].l = y := fun qs hq h => by
                have h1 := congrArg (fun l => l[j]?) (hq.trans hR)
                simp only [List.getElem?_map, List.getElem?_eq_getElem h, Option.map_some] at h1
                rw [List.getElem?_append_right (by omega), hlj, Nat.sub_self] at h1
                exact Option.some.inj h1
              have HGET := Lib.hid hget
              clear h8l h9l hR hlj HYZ hdt hget
              subst hn8j hn9j
              go_wp2_with fail
              (with_reducible refine HRW.out.mono ?_)
              rintro _ w13 ⟨rfl, hb13⟩
              have hbw13 := step_below HZ.out.2.2.1 hb13
              have HR2 := Lib.hid (rows5_any A8 j c8 (ps8.take j) A j cap ps w13 ((HZ.out.1.below hb13).laid.front (Nat.le_succ _)) ((H.out.1.below hbw13).more hbw13.size) (by omega) (by omega))
              rw [HDT.out] at HR2
              have HB13 := Lib.hid (And.intro hbw13 hb13)
              clear hb13 hbw13 HRW
              go_wp2_with fail
              (with_reducible refine HR2.out.mono ?_)
              rintro _ w14 ⟨rfl, hb14⟩
              have HB14 := Lib.hid (step_below HB13.out.1 hb14)
              have hp8 := ((HZ.out.1.below HB13.out.2).below hb14)
              have hp9 := ((HZ.out.2.1.below HB13.out.2).below hb14)
              have hj8 : j < ps8.length := by rw [hp8.len]; omega
              have hj9 : j < ps9.length := by rw [hp9.len]; omega
              obtain ⟨g8, o8, rfl, _, hc8'⟩ := hp8.laid.spot (by omega)
              obtain ⟨g9, o9, rfl, _, hc9'⟩ := hp9.laid.spot (by omega)
              have d8 := hc8' j hj8
              have d9 := hc9' j hj9
              have s8 := (hp8.each ps8[j] (List.getElem_mem hj8)).shows
              have s9 := (hp9.each ps9[j] (List.getElem_mem hj9)).shows
              have e8 := HGET.out ps8 HZ.out.2.2.2.2 hj8
              have e9 := HGET.out ps9 HZ.out.2.2.2.1 hj9
              obtain ⟨P, hP⟩ : ∃ P, ps8[j] = P := ⟨_, rfl⟩
              obtain ⟨Q, hQ⟩ : ∃ Q, ps9[j] = Q := ⟨_, rfl⟩
              rw [hP] at d8 s8 e8
              rw [hQ] at d9 s9 e9
              obtain ⟨pA, pn, pc, pl⟩ := P
              obtain ⟨qA, qn, qc, ql⟩ := Q
              simp only at d8 d9 s8 s9 e8 e9
              subst e8 e9
              have sb := (H.out.2.1.below HB14.out).more HB14.out.size
              have cv8 := fun q => (s8.below (below_drewN (Below.refl w14.heap.size w14) q)).conv (P := Try.prog) Try.underlying29 Try.underlying5 Try.underlying9
              have cv9 := fun q => (s9.below (below_drewN (Below.refl w14.heap.size w14) q)).conv (P := Try.prog) Try.underlying29 Try.underlying5 Try.underlying9
              have cvb := fun q => (sb.below (below_drewN (Below.refl w14.heap.size w14) q)).conv (P := Try.prog) Try.underlying29 Try.underlying5 Try.underlying9
              have hdt1 : decide ((j : Int) + 1 = (j : Int) + 1) = true := decide_eq_true rfl
              have HSS := Lib.hid (And.intro s8 s9)
              clear hp8 hp9 hc8' hc9' s8 s9 sb hP hQ hb14 HR2 HZ HGET HDT hj8 hj9
              by_cases hyb : ql = lb
              · subst hyb
                go_wp2_with fail
                go_quiet (fail)
                clear cv8 cv9 cvb d8 d9
                by_cases he : e = 0
                · subst he
                  go_wp2
                  go_ret
                  exact ⟨rfl, below_drewN HB14.out _⟩
                · have heb : (e == 0) = false := by simpa using he
                  go_wp2
                  go_ret
                  exact ⟨rfl, below_drewN HB14.out _⟩
              · have hnb : (ql == lb) = false := by simpa using hyb
                go_wp2_with fail
                go_quiet (fail)
                obtain ⟨W5, hW5⟩ : ∃ W5, w14.drewN nq = W5 := ⟨_, rfl⟩
                rw [hW5]
                have hb5 : Below w14.heap.size w14 W5 := by rw [← hW5]; exact below_drewN (Below.refl _ _) nq
                have d8' : W5.cell? ⟨g8, o8 + j, none⟩ = some (.slice pA pn pc) := by rw [← hW5]; exact d8
                have d9' : W5.cell? ⟨g9, o9 + j, none⟩ = some (.slice qA qn qc) := by rw [← hW5]; exact d9
                have cv8' := fun q => ((HSS.out.1.below hb5).below (below_drewN (Below.refl w14.heap.size W5) q)).conv (P := Try.prog) Try.underlying29 Try.underlying5 Try.underlying9
                have cv9' := fun q => ((HSS.out.2.below hb5).below (below_drewN (Below.refl w14.heap.size W5) q)).conv (P := Try.prog) Try.underlying29 Try.underlying5 Try.underlying9
                have HB5 := Lib.hid (step_below HB14.out hb5)
                clear d8 d9 cv8 cv9 cvb hb5 hW5 HSS
                go_wp2_with fail
                go_quiet (fail)
                clear d8' d9' cv8' cv9'
                go_wp2
                go_ret
                exact ⟨rfl, below_drewN HB5.out _⟩
      · have hi1 : ¬ (n : Int) > 8 := by omega
        have hi2 : ¬ (n1 : Int) > 100 := by omega
        have hi3 : (n3 : Int) > 20 := by omega
        go_wp2
        go_ret
        exact ⟨rfl, HB1.out⟩
    · have hi1 : ¬ (n : Int) > 8 := by omega
      have hi2 : (n1 : Int) > 100 := by omega
      go_wp2
      go_ret
      exact ⟨rfl, HB1.out⟩
  · have hi1 : (n : Int) > 8 := by omega
    go_wp2
    go_ret
    exact ⟨rfl, HB1.out⟩
end Go.Proofs.Ytolpiklhnafnbaa
