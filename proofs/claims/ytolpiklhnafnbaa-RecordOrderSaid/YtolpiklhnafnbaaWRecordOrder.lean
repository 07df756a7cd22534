/- The walk of the law RecordOrder: records are told as they were appended, in each sector its own. -/
import Derived.Test.YtolpiklhnafnbaaSix
import Derived.Test.YtolpiklhnafnbaaRows5
import Derived.Test.YtolpiklhnafnbaaRecCount
import Derived.Test.YtolpiklhnafnbaaMake
import Derived.Deep.AppendLies
import Derived.StillTailTactics
import Derived.Deep.QuietTactic
import Derived.BigQuiet
import Derived.IntWalk
namespace Go.Proofs.Ytolpiklhnafnbaa
set_option maxRecDepth 100000
open Go.RowKit Wd Fm

theorem bc_set0 (l : List UInt8) (k : Nat) (c : UInt8) : (bc l).set k (.int .u8 (c.toNat : Int)) = bc (l.set k c) := by unfold bc; rw [← List.map_set]
theorem bc_byte0 (l : List UInt8) (k : Nat) (h : k < l.length) : (bc l)[k]? = some (.int .u8 ((l.getD k 0).toNat : Int)) := by
  rw [bc_get l k h]
  simp [List.getD, List.getElem?_eq_getElem h]
theorem Six.same {W W' : World} {B g Gw Gf : Nat} {m : Mem} {S : Nat → Sl} {F : Nat → Nat} (h : Six W B g Gw Gf m S F) (hf : Fl W' g m) (hg : W.grownBy W' (some g)) : Six W' B g Gw Gf m S F := by
  obtain ⟨a1, a2, a3, a4, a5, a6⟩ := h.mem hf h.calm hg (fun t => bytes6 (S t).ps) F h.good
  exact ⟨a1, a2, a3, a4, a5, a6, h.apart, h.ord⟩

theorem Six1.below {W W' : World} {B g Gw Gf s : Nat} {x : List UInt8} {m : Mem} {S : Nat → Sl} {F : Nat → Nat} (h : Six1 W B g Gw Gf m S F s x) (hb : Below W.heap.size W W') : Six1 W' B g Gw Gf m S F s x :=
  ⟨h.fl.below hb, h.calm, h.want.below hb h.want.lt, h.free.below hb h.free.lt, fun t ht => (h.own t ht).below hb, h.good, h.apart, h.ord⟩

set_option maxHeartbeats 8000000 in
theorem recordOrder_walk (A : Option Addr) (n cap : Nat) (zs : List Int) (w : World) (hl : Lays w w.heap.size A n cap (zs.map (Value.int .i64))) (_hz : ∀ z ∈ zs, (Lit.int .i64 z).wf = true) :
    Calls Try.prog 8 #[.slice A n cap] w fun e w' => e = .returned (.bool true) ∧ Below w.heap.size w w' := by
  have H := Lib.hid hl
  have hn2 : n ≤ 9223372036854775807 := by have := hl.le; have := hl.top; unfold maxLen at this; omega
  have HZL := Lib.hid (show zs.length = n by have := hl.len; simpa using this)
  obtain ⟨i0, hi0, hz0, hz1, hz2⟩ := info_parts infoSlice
  have HI0 := Lib.hid hi0
  have HZ0 := Lib.hid hz0
  have HZ1 := Lib.hid hz1
  have HZ2 := Lib.hid hz2
  clear hl _hz hi0 hz0 hz1 hz2
  go_enter Try.func8, Try.ntmps8
  go_wp2_with fail
  (with_reducible refine (known5_any _).mono ?_)
  rintro _ w1 ⟨rfl, hb1⟩
  have HB1 := Lib.hid hb1
  clear hb1
  go_wp2_with fail
  (with_reducible refine (new_any _).mono ?_)
  rintro _ w2 ⟨rfl, hf2, hb2⟩
  obtain ⟨g, hg⟩ : ∃ g, w1.heap.size = g := ⟨_, rfl⟩
  rw [hg] at hf2 ⊢
  have H2 := Lib.hid (And.intro hf2 (And.intro (step_below HB1.out hb2) (show w.heap.size ≤ g by have := HB1.out.size; omega)))
  clear hf2 hb2 hg HB1
  go_wp2_with fail
  obtain ⟨Gw, hGw⟩ : ∃ Gw, w2.heap.size = Gw := ⟨_, rfl⟩
  obtain ⟨Gf, hGf⟩ : ∃ Gf, Gw + 1 = Gf := ⟨_, rfl⟩
  have hS0 : Six ((w2.alloc (.cells #[.slice none 0 0, .slice none 0 0, .slice none 0 0, .slice none 0 0, .slice none 0 0, .slice none 0 0] 50)).alloc (.cells #[.int .i64 0, .int .i64 0, .int .i64 0, .int .i64 0, .int .i64 0, .int .i64 0] 51)) w.heap.size g w2.heap.size (w2.heap.size + 1) Mem.fresh (fun _ => Sl.nil) (fun _ => 0) ∧
      Below w.heap.size w ((w2.alloc (.cells #[.slice none 0 0, .slice none 0 0, .slice none 0 0, .slice none 0 0, .slice none 0 0, .slice none 0 0] 50)).alloc (.cells #[.int .i64 0, .int .i64 0, .int .i64 0, .int .i64 0, .int .i64 0, .int .i64 0] 51)) := by
    have r1 := Row.new w2 50 (six (fun _ => Sl.nil) Sl.val)
    have b1 := below_new (Below.refl w2.heap.size w2) (.cells (six (fun _ => Sl.nil) Sl.val).toArray 50)
    have r2 := Row.new (w2.alloc (.cells (six (fun _ => Sl.nil) Sl.val).toArray 50)) 51 (six (fun _ => (0 : Nat)) (fun n => .int .i64 (n : Int)))
    have b2 := below_new b1 (.cells (six (fun _ => (0 : Nat)) (fun n => Value.int .i64 (n : Int))).toArray 51)
    have r3 := r1.alloc (.cells (six (fun _ => (0 : Nat)) (fun n => Value.int .i64 (n : Int))).toArray 51)
    have es : (w2.alloc (.cells (six (fun _ => Sl.nil) Sl.val).toArray 50)).heap.size = w2.heap.size + 1 := by simp
    rw [es] at r2
    have hlt := H2.out.1.lt
    exact ⟨⟨H2.out.1.below b2, calm_new, r3, r2, fun t _ => OwnParts.nil _ _, fun t ht => good_fresh t ht, (fun t u _ _ _ k hk => by cases hk), ⟨H2.out.2.2, hlt, Nat.lt_succ_self _⟩⟩, step_below H2.out.2.1 b2⟩
  rw [hGw, hGf] at hS0
  have HS0 := Lib.hid hS0
  generalize (w2.alloc (.cells #[.slice none 0 0, .slice none 0 0, .slice none 0 0, .slice none 0 0, .slice none 0 0, .slice none 0 0] 50)).alloc (.cells #[.int .i64 0, .int .i64 0, .int .i64 0, .int .i64 0, .int .i64 0, .int .i64 0] 51) = w3 at HS0 ⊢
  rw [hGw, hGf]
  have hord := HS0.out.1.ord
  clear hS0 hGw hGf H2
  go_loopg [6] 40 (fun gk i wr => ∃ j : Nat, j ≤ 40 ∧ gk = 40 - j ∧ j ≤ n ∧ i = .int .i64 j ∧ Hid (∃ m S F, Six wr w.heap.size g Gw Gf m S F ∧ Below w.heap.size w wr))
  case atStart => exact ⟨0, by omega, by omega, by omega, rfl, Lib.hid ⟨_, _, _, HS0.out⟩⟩
  case round =>
    obtain ⟨j, hj, hgk, hj2, rfl, HJ⟩ := hrel
    clear HS0
    have HGK := Lib.hid hgk
    clear hgk
    by_cases hcond : j < n ∧ j < 40
    · obtain ⟨hlt, hlt6⟩ := hcond
      have hji : (j : Int) < (n : Int) := by omega
      have hji6 : (j : Int) < 40 := by omega
      have hjz : j < zs.length := by have := HZL.out; omega
      obtain ⟨z, hz⟩ : ∃ z, zs[j] = z := ⟨_, rfl⟩
      obtain ⟨m, S, F, h6, hbr⟩ := HJ.out
      clear HJ
      obtain ⟨g2, o2, rfl, _, hc⟩ := (H.out.below hbr).spot (by omega)
      have dz : wr.cell? ⟨g2, o2 + j, none⟩ = some (.int .i64 z) := by
        rw [hc j (by rw [List.length_map]; exact hjz), List.getElem_map, hz]
      obtain ⟨s, hs⟩ : ∃ s : Nat, z % 6 = s := ⟨(z % 6).toNat, by omega⟩
      have hs6 : s < 6 := by omega
      obtain ⟨t, ht⟩ : ∃ t : Nat, IntKind.i64.wrap (z.tdiv 6) % 90 = t := ⟨(IntKind.i64.wrap (z.tdiv 6) % 90).toNat, by omega⟩
      have ht90 : t < 90 := by omega
      have HW1 : Hid (∀ q, Calls Try.prog 19 #[.int .i64 z, .int .i64 6] (wr.drewN q) fun e w' => e = .returned (.int .i64 (s : Int)) ∧ w' = wr.drewN q) := Lib.hid (fun q => by
        refine (within5_any z 6 (wr.drewN q) (by decide) (by decide)).mono ?_
        rintro _ _ ⟨rfl, rfl⟩
        exact ⟨by rw [hs], rfl⟩)
      have HW2 : Hid (∀ q, Calls Try.prog 19 #[.int .i64 (IntKind.i64.wrap (z.tdiv 6)), .int .i64 90] (wr.drewN q) fun e w' => e = .returned (.int .i64 (t : Int)) ∧ w' = wr.drewN q) := Lib.hid (fun q => by
        refine (within5_any _ 90 (wr.drewN q) (by decide) (by decide)).mono ?_
        rintro _ _ ⟨rfl, rfl⟩
        exact ⟨by rw [ht], rfl⟩)
      have HX := Lib.hid (And.intro h6 hbr)
      clear hc hz hs ht h6 hbr
      go_wp2_with fail
      go_quiet ((first | (go_at_call 19; with_reducible exact Calls.quiet_of_same (HW1.out _)) | (go_at_call 19; with_reducible exact Calls.quiet_of_same (HW2.out _))))
      obtain ⟨W0, hW0⟩ : ∃ W0, wr.drewN nq = W0 := ⟨_, rfl⟩
      have hb0 : Below wr.heap.size wr W0 := by rw [← hW0]; exact below_drewN (Below.refl _ _) nq
      rw [hW0]
      have HP := Lib.hid (And.intro (HX.out.1.below hb0) (step_below HX.out.2 hb0))
      have hmk := fun W => make_bytes W t (by omega)
      clear hW0 hb0 HX HW1 HW2 dz
      go_wp2_with fail
      obtain ⟨Gb, hGb⟩ : ∃ Gb, W0.heap.size = Gb := ⟨_, rfl⟩
      have hrow := Row.new W0 5 (bc (List.replicate t 0))
      have hbb := below_new (Below.refl W0.heap.size W0) (.cells (bc (List.replicate t 0)).toArray 5)
      obtain ⟨W, hW⟩ : ∃ W, W0.alloc (.cells (bc (List.replicate t 0)).toArray 5) = W := ⟨_, rfl⟩
      rw [hW, hGb] at hrow
      rw [hW] at hbb
      try rw [hW]
      try rw [hGb]
      have hGw : W0.heap.size ≤ Gb := by omega
      have HR0 : Hid (∃ l : List UInt8, l.length = t ∧ Row W Gb 5 (bc l) ∧ Below W0.heap.size W0 W) := Lib.hid ⟨_, List.length_replicate, hrow, hbb⟩
      have HGW := Lib.hid hGw
      clear hrow hbb hW hGb hmk hGw
      go_loopw [10] (fun i wq => ∃ q : Nat, q ≤ t ∧ i = .int .i64 q ∧ Hid (∃ l : List UInt8, l.length = t ∧ Row wq Gb 5 (bc l) ∧ Below W0.heap.size W0 wq)) (fun i _ => t - (intOf i).toNat)
      case atStart => exact ⟨0, by omega, rfl, HR0⟩
      case round =>
        clear HR0
        obtain ⟨q, hq, rfl, HQ⟩ := hrel
        obtain ⟨l, hll, hrow, hbq⟩ := HQ.out
        clear HQ
        by_cases hqt : q < t
        · have hqi : (q : Int) < (t : Int) := by omega
          have ca := hrow.cell (bc_byte0 l q (by omega))
          obtain ⟨ob, hob⟩ : ∃ v, Value.int .u8 (((l.getD q 0).toNat : Nat) : Int) = v := ⟨_, rfl⟩
          rw [hob] at ca
          have fa := hrow.frozen q
          obtain ⟨c, hc⟩ : ∃ c : UInt8, (j : Int) = (c.toNat : Int) := ⟨UInt8.ofNat j, by simp <;> omega⟩
          have ra := hrow.set q (.int .u8 (c.toNat : Int))
          rw [bc_set0] at ra
          have rb := below_set hbq Gb q (.int .u8 (c.toNat : Int)) HGW.out
          rw [← hc] at ra rb
          have HR : Hid (∃ l : List UInt8, l.length = t ∧ Row (wr.setCell ⟨Gb, q, none⟩ (.int .u8 (j : Int))) Gb 5 (bc l) ∧ Below W0.heap.size W0 (wr.setCell ⟨Gb, q, none⟩ (.int .u8 (j : Int)))) := Lib.hid ⟨l.set q c, by rw [List.length_set]; exact hll, ra, rb⟩
          clear hrow hbq hob ra rb hc hll
          go_wp2
          go_roundw
          case rel => exact ⟨q + 1, by omega, by go_num, HR⟩
          case measure => simp [intOf]; omega
        · have hqi : ¬ (q : Int) < (t : Int) := by omega
          have h6 := HP.out.1.below hbq
          have hbw := step_below HP.out.2 hbq
          have hsh := row_shows (r := []) (n := t) (by rw [List.append_nil]; exact hrow) hll (by unfold maxLen; omega)
          have HAP := Lib.hid (append_any g m s _ t t l wr h6.fl hsh (by omega))
          have hpart : PartOk wr w.heap.size ⟨some ⟨Gb, 0, none⟩, t, t, l⟩ := by
            refine ⟨hsh, fun a ha => ?_⟩
            injection ha with ha
            subst ha
            exact ⟨Nat.le_trans HP.out.2.size HGW.out, _, hrow⟩
          have hpz := pagesZ_nat t (by omega)
          obtain ⟨pg, hpg⟩ : ∃ pg, pagesN t = pg := ⟨_, rfl⟩
          have hpg1 := pagesN_hi t
          rw [hpg] at hpz hpg1
          have hfs := (h6.good s hs6).le
          have HX := Lib.hid (And.intro h6 (And.intro hbw (And.intro hpart (And.intro hll (And.intro hpz hpg)))))
          clear hrow hbq h6 hbw hsh hpart hll hpz hpg HGW HP
          by_cases hfull : 64 < F s + pg
          · have ha := append_full hs6 (HX.out.1.good s hs6) l (by have := HX.out.2.2.2.1; omega) (by rw [HX.out.2.2.2.1, HX.out.2.2.2.2.2]; exact hfull)
            rw [ha] at HAP
            have hfi : (F s : Int) + (pg : Int) > 64 := by omega
            clear ha hfull
            go_wp2_with fail
            (with_reducible refine HAP.out.mono ?_)
            rintro _ w4 ⟨rfl, hf4, hg4⟩
            have h64 := HX.out.1.same hf4 hg4
            have d0 := h64.free.cell (six_at F (fun n => .int .i64 (n : Int)) s hs6)
            have HPG : Hid (∀ q, Calls Try.prog 25 #[.int .i64 (t : Int)] (w4.drewN q) fun e w' => e = .returned (.int .i64 (pg : Int)) ∧ w' = w4.drewN q) := Lib.hid (fun q => by
              refine (pages_any _ (w4.drewN q)).mono ?_
              rintro _ _ ⟨rfl, rfl⟩
              exact ⟨by rw [HX.out.2.2.2.2.1], rfl⟩)
            have HN := Lib.hid (And.intro h64 (step_grow HX.out.2.1 hg4 hord.1))
            clear hf4 hg4 h64 HAP HX
            go_wp2_with fail
            go_quiet ((go_at_call 25; with_reducible exact Calls.quiet_of_same (HPG.out _)))
            have HE : Hid (∃ m S F, Six (w4.drewN nq) w.heap.size g Gw Gf m S F ∧ Below w.heap.size w (w4.drewN nq)) := Lib.hid ⟨m, S, F, HN.out.1.below (below_drewN (Below.refl _ _) nq), below_drewN HN.out.2 nq⟩
            clear d0 HPG HN
            go_wp2_with fail
            go_roundg (40 - (j + 1))
            case measure => have := HGK.out; omega
            case rel => exact ⟨j + 1, by omega, rfl, by omega, by go_num, HE⟩
          · obtain ⟨m', ha, hc', _, hg', hoth⟩ := append_good HX.out.1.calm hs6 (HX.out.1.good s hs6) l (by have := HX.out.2.2.2.1; omega) (by rw [HX.out.2.2.2.1, HX.out.2.2.2.2.2]; omega)
            rw [ha] at HAP
            have hfi : ¬ (F s : Int) + (pg : Int) > 64 := by omega
            have HG := Lib.hid (And.intro hc' (And.intro hg' hoth))
            clear ha hfull hc' hg' hoth
            go_wp2_with fail
            (with_reducible refine HAP.out.mono ?_)
            rintro _ w4 ⟨rfl, hf4, hg4⟩
            have h64 := HX.out.1.one s l hf4 HG.out.1 hg4 HG.out.2.1 HG.out.2.2
            have d0 := h64.free.cell (six_at F (fun n => .int .i64 (n : Int)) s hs6)
            have HPG : Hid (∀ q, Calls Try.prog 25 #[.int .i64 (t : Int)] (w4.drewN q) fun e w' => e = .returned (.int .i64 (pg : Int)) ∧ w' = w4.drewN q) := Lib.hid (fun q => by
              refine (pages_any _ (w4.drewN q)).mono ?_
              rintro _ _ ⟨rfl, rfl⟩
              exact ⟨by rw [HX.out.2.2.2.2.1], rfl⟩)
            have HN := Lib.hid (And.intro h64 (And.intro (step_grow HX.out.2.1 hg4 hord.1) (HX.out.2.2.1.kept hg4 (fun k cs e hc => by
              injection e with e
              subst e
              obtain ⟨cs', hc'⟩ := HX.out.1.fl.type
              exact type_ne hc' hc (by decide) rfl))))
            clear hf4 hg4 h64 HAP HG
            go_wp2_with fail
            go_quiet ((go_at_call 25; with_reducible exact Calls.quiet_of_same (HPG.out _)))
            obtain ⟨W5, hW5⟩ : ∃ W5, w4.drewN nq = W5 := ⟨_, rfl⟩
            have hb5 : Below w4.heap.size w4 W5 := by rw [← hW5]; exact below_drewN (Below.refl _ _) nq
            rw [hW5]
            have h1 := HN.out.1.below hb5
            have hp5 := HN.out.2.2.below hb5
            have hbw5 := step_below HN.out.2.1 hb5
            have hcnt : (S s).n ≤ 64 := by
              have h2 := (HX.out.1.good s hs6).is
              have h3 := load_count (m.page (s * 1024) 1024)
              rw [h2] at h3
              have h4 := (h1.own s hs6).len
              unfold bytes6 at h3
              rw [List.length_map] at h3
              omega
            have dw := h1.want.cell (six_at S Sl.val s hs6)
            have how := h1.own s hs6
            obtain ⟨V, hV⟩ : ∃ V, S s = V := ⟨_, rfl⟩
            obtain ⟨A0, n0, c0, ps0⟩ := V
            rw [hV] at hcnt dw how
            simp only at hcnt how
            have dw2 : W5.cell? ⟨Gw, s, none⟩ = some (.slice A0 n0 c0) := dw
            have HV := Lib.hid (And.intro h1 (And.intro hp5 (And.intro hbw5 hV)))
            have HOWN := Lib.hid (how.own.alloc (.cells #[.slice (some ⟨Gb, 0, none⟩) t t] 29))
            have hpz := HX.out.2.2.2.2.1
            have hpgl : pagesN l.length = pg := by rw [HX.out.2.2.2.1, HX.out.2.2.2.2.2]
            have HPZ := Lib.hid (And.intro hpz hpgl)
            clear h1 hp5 hbw5 hV how dw d0 HPG HN hW5 hb5 HX hpz hpgl
            go_wp2_with (at_builtin; refine wpList_append_lies _ rfl (.tmp 69) (.tmp 71) 39 rfl w.heap.size 29 i0 (.slice none 0 0) 1 24 Try.underlying39 HI0.out HZ0.out HZ1.out HZ2.out rfl (by decide) _ _ _ rfl HOWN.out ⟨W5.heap.size, 0, none⟩ 1 1 [.slice (some ⟨Gb, 0, none⟩) t t] rfl rfl ?c1 ?c2 (by decide) ?c3 ?c4 ?c5 _ rfl ?_)
            case c1 => exact new_one W5 _ _
            case c2 => intro u hu; simp only [List.mem_singleton] at hu; subst hu; rfl
            case c3 => unfold maxLen; omega
            case c4 => omega
            case c5 => exact Nat.le_trans HV.out.2.2.1.size (by simp)
            intro G c6 w6 ho6 hg6 hG6 _
            obtain ⟨h1, hp5, hbw5, hV⟩ := HV.out
            have h2 : Six2 w6 w.heap.size g Gw Gf m' S F s l ⟨some ⟨G, 0, none⟩, n0 + 1, c6, ps0 ++ [⟨some ⟨Gb, 0, none⟩, t, t, l⟩]⟩ := by
              have h3 := Six1.two (W := W5) (W1 := w6) h1 hs6 ⟨some ⟨Gb, 0, none⟩, t, t, l⟩ hp5 rfl (.cells #[.slice (some ⟨Gb, 0, none⟩) t t] 29) G c6 (by rw [hV]; exact ho6) (by rw [hV]; exact hg6) (by rw [hV, show (W5.alloc (.cells #[.slice (some ⟨Gb, 0, none⟩) t t] 29)).heap.size = W5.heap.size + 1 by simp]; exact hG6)
              rw [hV] at h3
              exact h3
            have hbw6 : Below w.heap.size w w6 := by
              refine (below_new hbw5 (.cells #[.slice (some ⟨Gb, 0, none⟩) t t] 29)).grown hg6 (Nat.le_trans hbw5.size (by simp)) (fun k hk => ?_)
              have := ((h1.own s hs6).own.lt k (by rw [hV]; exact hk)).1
              exact this
            have dw6 := h2.want.cell (six_at S Sl.val s hs6)
            rw [hV] at dw6
            have dw7 : w6.cell? ⟨Gw, s, none⟩ = some (.slice A0 n0 c0) := dw6
            have fw6 := h2.want.frozen s
            have h3 := h2.put
            rw [HPZ.out.2] at h3
            have h3' : Six3 (w6.setCell ⟨Gw, s, none⟩ (.slice (some ⟨G, 0, none⟩) (n0 + 1) c6)) w.heap.size g Gw Gf m' (upd S s ⟨some ⟨G, 0, none⟩, n0 + 1, c6, ps0 ++ [⟨some ⟨Gb, 0, none⟩, t, t, l⟩]⟩) F s (F s + pg) := h3
            have hbw7 := below_set hbw6 Gw s (.slice (some ⟨G, 0, none⟩) (n0 + 1) c6) (by omega)
            obtain ⟨W7, hW7⟩ : ∃ W7, w6.setCell ⟨Gw, s, none⟩ (.slice (some ⟨G, 0, none⟩) (n0 + 1) c6) = W7 := ⟨_, rfl⟩
            rw [hW7] at h3' hbw7
            have df := h3'.free.cell (six_at F (fun n => .int .i64 (n : Int)) s hs6)
            have ff := h3'.free.frozen s
            have h4 := h3'.put
            have hbw8 := below_set hbw7 Gf s (.int .i64 ((F s + pg : Nat) : Int)) (by omega)
            have i4 : IntKind.i64.wrap ((F s : Int) + (pg : Int)) = ((F s + pg : Nat) : Int) := by rw [IntWalk.i64_in _ (by omega)]; omega
            have HZZ : Hid (∃ m1 S1 F1, Six (W7.setCell ⟨Gf, s, none⟩ (.int .i64 ((F s + pg : Nat) : Int))).drew w.heap.size g Gw Gf m1 S1 F1 ∧ Below w.heap.size w (W7.setCell ⟨Gf, s, none⟩ (.int .i64 ((F s + pg : Nat) : Int))).drew) :=
              Lib.hid ⟨_, _, _, h4.below ((Below.refl _ _).drew), hbw8.drew⟩
            clear ho6 hg6 hG6 h1 hp5 hbw5 hV h2 hbw6 dw6 h3 h3' hbw7 h4 hbw8 HV HOWN dw2
            go_wp2_with fail
            clear hW7 dw7 fw6
            have hsi : (s : Int) < 6 := by omega
            have hsi0 : (0 : Int) ≤ (s : Int) := by omega
            go_still_tail 8, (by kernel_rfl)
            refine wpStill_step (fun K hK => ?_)
            go_simp
            refine ⟨.int .i64 (pg : Int), ?_, hK _ ?_⟩
            · (with_reducible refine (pages_any _ _).mono ?_)
              rintro _ _ ⟨rfl, rfl⟩
              exact ⟨by rw [HPZ.out.1], rfl⟩
            clear hK K
            repeat still_step
            refine wpStill_nil ?_
            change wpList _ _ _ _ _ W7.drew
            go_wp2_with fail
            go_roundg (40 - (j + 1))
            case measure => have := HGK.out; omega
            case rel => exact ⟨j + 1, by omega, rfl, by omega, by go_num, HZZ⟩
    · obtain ⟨m, S, F, h6, hbr⟩ := HJ.out
      have H6 := Lib.hid (And.intro h6 hbr)
      clear HJ h6 hbr
      have hend : (j < n ∧ j = 40) ∨ ¬ j < n := by omega
      clear hcond
      rcases hend with ⟨hlt, rfl⟩ | hlt
      all_goals
        first
          | have hji : (40 : Int) < (n : Int) := by omega
          | have hji : ¬ (j : Int) < (n : Int) := by omega
        go_wp2_with fail
        go_loopw [12] (fun i wq => ∃ t : Nat, t ≤ 6 ∧ i = .int .i64 t ∧ Hid (Six wq w.heap.size g Gw Gf m S F ∧ Below w.heap.size w wq)) (fun i _ => 6 - (intOf i).toNat)
        case atStart => exact ⟨0, by omega, rfl, H6⟩
        case round =>
          clear H6
          obtain ⟨t, ht, rfl, HT⟩ := hrel
          by_cases ht6 : t < 6
          · have hti : (t : Int) < 6 := by omega
            have hgd := HT.out.1.good t ht6
            have HL := Lib.hid (load_good g m t _ _ wr HT.out.1.fl ht6 hgd)
            have how := HT.out.1.own t ht6
            obtain ⟨V, hV⟩ : ∃ V, S t = V := ⟨_, rfl⟩
            obtain ⟨A0, n0, c0, ps0⟩ := V
            have hcnt : n0 ≤ 64 := by
              have h2 := hgd.is
              have h3 := load_count (m.page (t * 1024) 1024)
              rw [h2] at h3
              have h4 := how.len
              rw [hV] at h3 h4
              unfold bytes6 at h3
              rw [List.length_map] at h3
              simp only at h4 h3
              omega
            have hlen : (bytes6 (S t).ps).length = n0 := by
              have h4 := how.len
              rw [hV] at h4 ⊢
              unfold bytes6
              rw [List.length_map]
              exact h4
            rw [hlen] at HL
            have HV := Lib.hid (And.intro hV (And.intro how hlen))
            clear hgd how hV hlen
            go_wp2_with fail
            (with_reducible refine HL.out.mono ?_)
            rintro _ w5 ⟨A5, c5, ps5, rfl, ho5, hl5, hb5⟩
            have h65 := HT.out.1.below hb5
            have how := h65.own t ht6
            have dw := h65.want.cell (six_at S Sl.val t ht6)
            have df := h65.free.cell (six_at F (fun n => .int .i64 (n : Int)) t ht6)
            rw [HV.out.1] at how dw hl5
            simp only at how
            have dw2 : w5.cell? ⟨Gw, t, none⟩ = some (.slice A0 n0 c0) := dw
            have HRW := Lib.hid (rows5_any A5 n0 c5 ps5 A0 n0 c0 ps0 w5 ho5.laid how.laid (by omega) (by omega))
            have heq : decide (bytesOf ps5 = bytesOf ps0) = true := by
              refine decide_eq_true ?_
              unfold bytesOf
              exact hl5
            rw [heq] at HRW
            have HN := Lib.hid (And.intro h65 (step_below HT.out.2 hb5))
            clear ho5 hl5 hb5 h65 how dw heq HL HT
            go_wp2_with fail
            (with_reducible refine HRW.out.mono ?_)
            rintro _ w6 ⟨rfl, hb6⟩
            have h66 := HN.out.1.below hb6
            have df6 := h66.free.cell (six_at F (fun n => .int .i64 (n : Int)) t ht6)
            have HE := Lib.hid (And.intro h66 (step_below HN.out.2 hb6))
            clear hb6 h66 HRW HN df dw2
            go_wp2
            go_roundw
            case rel =>
              first
                | exact ⟨t + 1, by omega, by go_num, HE⟩
                | ((repeat apply Exists.intro); exact ⟨⟨t + 1, by omega, by go_num, HE⟩, rfl⟩)
            case measure => simp [intOf]; omega
          · have hti : ¬ (t : Int) < 6 := by omega
            have HE := Lib.hid HT.out.2
            clear HT
            go_wp2
            go_ret
            exact ⟨rfl, HE.out⟩
end Go.Proofs.Ytolpiklhnafnbaa
