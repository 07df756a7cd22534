/- The walk of the law CodeBack: what was written, one behind the other, is read as it was, and there is an end; a byte less is cut, one more is more. -/
import Derived.Test.YtjnpadokmhhffaaBackFacts
import Derived.Deep.RegionHeld3
namespace Go.Proofs.Ytjnpadokmhhffaa
open Go.RowKit Wd Nm

set_option maxRecDepth 100000 in
set_option maxHeartbeats 4000000 in
theorem codeBack_walk (A0 : Option Addr) (n0 c0 : Nat) (xs : List Int) (A1 : Option Addr) (n1 c1 : Nat) (ss : List ByteArray) (w : World)
    (hx : Lays w w.heap.size A0 n0 c0 (xs.map (Value.int .i64))) (hxr : ∀ n ∈ xs, (Lit.int .i64 n).wf = true) (hy : Lays w w.heap.size A1 n1 c1 (ss.map Value.string)) (_hyr : ∀ s ∈ ss, s.size ≤ maxLen) :
    Calls Try.prog 5 #[.slice A0 n0 c0, .slice A1 n1 c1] w fun e w' => e = .returned (.bool true) ∧ Below w.heap.size w w' := by
  obtain ⟨i0, hi0, hz0, hz1, hz2⟩ := info_parts infoByte
  have hxl : xs.length = n0 := by have := hx.len; simpa using this
  have hyl : ss.length = n1 := by have := hy.len; simpa using this
  have HXL := Lib.hid hxl
  have HYL := Lib.hid hyl
  clear hxl hyl
  go_enter Try.func5, Try.ntmps5
  go_wp2_with fail
  refine (known_any _).mono ?_
  rintro _ w1 ⟨rfl, hb1⟩
  have hx1 := hx.below hb1
  have hy1 := hy.below hb1
  by_cases hn0 : 20 < n0
  · clear hx hy hx1 hy1
    go_wp2
    go_ret
    exact ⟨rfl, hb1⟩
  by_cases hn1 : 10 < n1
  · clear hx hy hx1 hy1
    go_wp2
    go_ret
    exact ⟨rfl, hb1⟩
  clear hx1 hy1
  go_wp2_with fail
  refine (byte_nil _ _).mono ?_
  rintro _ w2 ⟨A, c, rfl, hown2, hb2⟩
  have hs2 := Shows.of_own hown2
  have hbw2 := step_below hb1 hb2
  clear hown2 hb1 hb2
  go_wp2
  go_loopw [5, 6] (fun b i wr => ∃ j : Nat, ∃ A c, j ≤ n0 ∧ i = .int .i64 j ∧ b = .slice A (1 + 8 * j) c ∧ Shows wr wr.heap.size A (1 + 8 * j) c (leb n0 1 ++ encI (xs.take j)) ∧ Below w.heap.size w wr) (fun _ i _ => n0 - (intOf i).toNat)
  case atStart => exact ⟨0, A, c, by omega, rfl, rfl, by simpa [encI] using hs2, hbw2⟩
  case round =>
    clear hs2 hbw2
    obtain ⟨j, A, c, hj, rfl, rfl, hs, hb⟩ := hrel
    by_cases hlt : j < n0
    · have hjl : j < xs.length := by have := HXL.out; omega
      obtain ⟨g, o, rfl, hg, hc⟩ := (hx.below hb).spot (by omega)
      have hcj : wr.cell? ⟨g, o + j, none⟩ = some (.int .i64 xs[j]) := by rw [hc j (by simpa using hjl), List.getElem_map]
      have HI := Lib.hid (int_any A (1 + 8 * j) c _ xs[j] wr hs (by omega))
      have HE := Lib.hid (encI_next xs j hjl)
      have HX := Lib.hid hx
      have HY := Lib.hid hy
      clear hc hs hx hy
      go_wp2_with fail
      refine HI.out.mono ?_
      rintro _ wa ⟨A2, c2, rfl, hown, hba⟩
      have hs2 := Shows.of_own hown
      have hb2 := step_below hb hba
      clear HI hcj hown hba hb
      go_wp2
      go_roundw
      case rel => exact ⟨j + 1, A2, c2, by omega, by go_num, by rw [show 1 + 8 * (j + 1) = 1 + 8 * j + 8 by omega], by rw [HE.out, show 1 + 8 * (j + 1) = 1 + 8 * j + 8 by omega, ← List.append_assoc]; exact hs2, hb2⟩
      case measure => simp [intOf]; omega
    · obtain rfl : n0 = j := by omega
      have htk : xs.take n0 = xs := List.take_of_length_le (by have := HXL.out; omega)
      rw [htk] at hs
      clear htk
      go_wp2
      go_loopw [5, 7] (fun b i wr => ∃ j : Nat, ∃ A m c, j ≤ n1 ∧ i = .int .i64 j ∧ b = .slice A m c ∧ 1 + 8 * n0 ≤ m ∧ m ≤ 161 + 202 * j ∧ (∀ i (h : i < ss.length), i < j → ss[i].size ≤ 200) ∧ Shows wr wr.heap.size A m c (leb n0 1 ++ encI xs ++ encT (ss.take j)) ∧ Below w.heap.size w wr) (fun _ i _ => n1 - (intOf i).toNat)
      case atStart => exact ⟨0, A, 1 + 8 * n0, c, by omega, rfl, rfl, by omega, by omega, fun i h h' => by omega, by simpa [encT] using hs, hb⟩
      case round =>
        clear hs hb
        obtain ⟨j, A, m, c, hj, rfl, rfl, hm0, hm1, hsz, hs, hb⟩ := hrel
        by_cases hlt : j < n1
        · have hjl : j < ss.length := by have := HYL.out; omega
          obtain ⟨g, o, rfl, hg, hc⟩ := (hy.below hb).spot (by omega)
          have hcj : wr.cell? ⟨g, o + j, none⟩ = some (.string ss[j]) := by rw [hc j (by simpa using hjl), List.getElem_map]
          have HE := Lib.hid (encT_next ss j hjl)
          have HX := Lib.hid hx
          have HY := Lib.hid hy
          have HZ := Lib.hid hsz
          clear hc hx hy hsz
          by_cases h200 : 200 < ss[j].size
          · clear hs
            go_wp2
            go_ret
            exact ⟨rfl, hb⟩
          · have hsz2 : ∀ i (h : i < ss.length), i < j + 1 → ss[i].size ≤ 200 := by
              intro i h h'
              rcases Nat.lt_or_ge i j with h1 | h1
              · exact HZ.out i h h1
              · have h2 : i = j := by omega
                subst h2
                omega
            have HZ2 := Lib.hid hsz2
            clear hsz2
            have HT := Lib.hid (text_small A m c _ ss[j] wr hs (by omega) (by omega))
            clear hs
            go_wp2_with fail
            refine HT.out.mono ?_
            rintro _ wa ⟨A2, c2, rfl, hown, hba⟩
            have hs2 := Shows.of_own hown
            have hb2 := step_below hb hba
            clear HT hcj hown hba hb
            go_wp2
            go_roundw
            case rel => exact ⟨j + 1, A2, m + 2 + ss[j].size, c2, by omega, by go_num, rfl, by omega, by omega, HZ2.out, by rw [HE.out, ← List.append_assoc, ← List.append_assoc]; exact hs2, hb2⟩
            case measure => simp [intOf]; omega
        · obtain rfl : n1 = j := by omega
          have htk : ss.take n1 = ss := List.take_of_length_le (by have := HYL.out; omega)
          rw [htk] at hs
          clear htk
          -- THE THREE ROUNDS
          obtain ⟨wo, hwo⟩ : ∃ wo : World, wo = wr := ⟨_, rfl⟩
          rw [← hwo] at hs hb
          have hbwo := hb
          have hwos := hb.size
          have hb0 := hb
          have HZ := Lib.hid hsz
          have hml := hs.len
          have hD : leb (n0 : Int) 1 ++ encI xs ++ encT ss = leb (n0 : Int) 1 ++ (encI xs ++ encT ss) := List.append_assoc _ _ _
          rw [hD] at hs hml
          generalize hDD : leb (n0 : Int) 1 ++ (encI xs ++ encT ss) = D at hs hml
          have HD := Lib.hid hDD
          have HML := Lib.hid hml
          clear hD hDD hml hb hsz
          go_wp2
          go_loopw [8] (fun k wr => ∃ kk : Nat, kk ≤ 3 ∧ k = .int .i64 kk ∧ Below wo.heap.size wo wr) (fun k _ => 3 - (intOf k).toNat)
          case atStart => exact ⟨0, by omega, rfl, by rw [hwo]; exact Below.refl _ _⟩
          case round =>
            clear hwo
            obtain ⟨kk, hkk, rfl, hbk⟩ := hrel
            by_cases hlt : kk < 3
            · have hs1 := (hs.below hbk).more hbk.size
              have h012 : kk = 0 ∨ kk = 1 ∨ kk = 2 := by omega
              rcases h012 with rfl | rfl | rfl
              · have HN := Lib.hid (new_any A m c D wr hs1 (by omega))
                clear hs1
                go_wp2_with fail
                refine HN.out.mono ?_
                rintro _ w5 ⟨g, rfl, hr5, hg5, hb5⟩
                have hbw := step_below hbk hb5
                have hgg : wo.heap.size ≤ g := Nat.le_trans hbk.size hg5
                have hgo : Goes 0 (leb (n0 : Int) 1 ++ (encI xs ++ encT ss)) D 0 true := by unfold Goes; rw [HD.out]; simp
                generalize D = X at hgo hr5
                clear HN hb5 hg5 hbk
                have hgo6 := goes_byte (x := (n0 : Int)) (by omega) (by omega) hgo
                have H6 := Lib.hid (read_Byte g X 0 w5 hr5)
                generalize rdNum 1 X 0 = q at hgo6 H6
                obtain ⟨v6, l6, e6⟩ := q
                rw [Bool.and_true] at hgo6
                have HGO := Lib.hid hgo6
                clear hgo hgo6 hr5
                go_wp2_with fail
                refine H6.out.mono ?_
                rintro _ w6 ⟨rfl, hr6, hb6⟩
                have hbw6 := hbw.trans (grow_below hb6 (Nat.le_trans hbw.size (Nat.le_refl _)) (by intro k hk; injection hk with hk; omega))
                clear H6 hb6 hbw
                go_wp2
                go_loopw [11, 12] (fun ok i wr => ∃ j : Nat, ∃ l er b, j ≤ n0 ∧ i = .int .i64 j ∧ ok = .bool b ∧ Rd wr g l er ∧ Goes 0 (encI (xs.drop j) ++ encT ss) l er b ∧ Below wo.heap.size wo wr) (fun _ i _ => n0 - (intOf i).toNat)
                case atStart => exact ⟨0, l6, e6, _, by omega, rfl, rfl, hr6, HGO.out, hbw6⟩
                case round =>
                  clear hr6 hbw6
                  obtain ⟨j, l, er, b, hj, rfl, rfl, hr, hgo, hb⟩ := hrel
                  by_cases hlt : j < n0
                  · have hjl : j < xs.length := by have := HXL.out; omega
                    obtain ⟨ga, o, rfl, hga, hc0⟩ := (hx.below (hbwo.trans (hb.mono hbwo.size))).spot (by omega)
                    have hc : wr.cell? ⟨ga, o + j, none⟩ = some (.int .i64 xs[j]) := by rw [hc0 j (by simpa using hjl), List.getElem_map]
                    have hne : some ga ≠ some g := by intro h; injection h with h; omega
                    have hrg := i64_of_wf (hxr xs[j] (List.getElem_mem hjl))
                    rw [encI_drop xs j hjl, List.append_assoc] at hgo
                    have HG := Lib.hid (goes_int hrg.1 hrg.2 hgo)
                    have HI := Lib.hid (read_Int g l er wr.drew hr.drew)
                    generalize rdNum 8 l er = q at HG HI
                    obtain ⟨v, l', er'⟩ := q
                    have HX := Lib.hid hx
                    have HY := Lib.hid hy
                    clear hgo hr hrg hc0 hx hy
                    have hv : (v == xs[j]) = true := (by have h := goes_true (by decide) HG.out; rw [Bool.and_eq_true] at h; exact h.1)
                    · go_wp2
                      go_region_held3 (fun w' => w'.cell? ⟨ga, o + j, none⟩ = some (.int .i64 xs[j]))
                        (first | exact hc | exact hca)
                        ((first
                          | (go_at_call 20; refine HI.out.mono ?_; rintro _ wa ⟨rfl, hra, hgra⟩; have hca : wa.cell? ⟨ga, o + j, none⟩ = some (.int .i64 xs[j]) := World.grownBy.cell (drew_grow hgra) hc hne)))
                      have hb2 := hb.grown (drew_grow hgra) hb.size (by intro k hk; injection hk with hk; omega)
                      have hg2 := HG.out
                      simp only [hv, Bool.true_and] at hg2
                      clear hc hca hgra hb HI HG hne hv
                      go_wp2
                      go_roundw
                      case rel => exact ⟨j + 1, l', er', _, by omega, by go_num, rfl, hra, hg2, hb2⟩
                      case measure => simp [intOf]; omega
                  · obtain rfl : n0 = j := by omega
                    have hdr : xs.drop n0 = [] := List.drop_of_length_le (by have := HXL.out; omega)
                    rw [hdr] at hgo
                    have HGO := Lib.hid hgo
                    clear hdr hgo
                    go_wp2
                    go_loopw [11, 13] (fun ok i wr => ∃ j : Nat, ∃ l er b, j ≤ n1 ∧ i = .int .i64 j ∧ ok = .bool b ∧ Rd wr g l er ∧ Goes 0 (encT (ss.drop j)) l er b ∧ Below wo.heap.size wo wr) (fun _ i _ => n1 - (intOf i).toNat)
                    case atStart => exact ⟨0, l, er, b, by omega, rfl, rfl, hr, HGO.out, hb⟩
                    case round =>
                      clear hr hb HGO
                      obtain ⟨j, l, er, b, hj, rfl, rfl, hr, hgo, hb⟩ := hrel
                      by_cases hlt : j < n1
                      · have hjl : j < ss.length := by have := HYL.out; omega
                        obtain ⟨ga, o, rfl, hga, hc0⟩ := (hy.below (hbwo.trans (hb.mono hbwo.size))).spot (by omega)
                        have hc : wr.cell? ⟨ga, o + j, none⟩ = some (.string ss[j]) := by rw [hc0 j (by simpa using hjl), List.getElem_map]
                        have hne : some ga ≠ some g := by intro h; injection h with h; omega
                        have hsz' := HZ.out j hjl (by omega)
                        rw [encT_drop ss j hjl] at hgo
                        have HG := Lib.hid (goes_text ss[j].data.toList (by rw [Array.length_toList]; exact Nat.le_trans hsz' (by omega)) hgo)
                        have HI := Lib.hid (read_Text g l er wr.drew hr.drew)
                        generalize rdText l er = q at HG HI
                        obtain ⟨v, l', er'⟩ := q
                        have HX := Lib.hid hx
                        have HY := Lib.hid hy
                        clear hgo hr hc0 hx hy hsz'
                        have hv : (v == ss[j].data.toList) = true := (by have h := goes_true (by decide) HG.out; rw [Bool.and_eq_true] at h; exact h.1)
                        · have hst : (v == ss[j].toList) = true := by rw [Lib.toList_data]; exact hv
                          go_wp2
                          go_region_held3 (fun w' => w'.cell? ⟨ga, o + j, none⟩ = some (.string ss[j]))
                            (first | exact hc | exact hca)
                            ((first
                              | (go_at_call 24; refine HI.out.mono ?_; rintro _ wa ⟨rfl, hra, hgra⟩; have hca : wa.cell? ⟨ga, o + j, none⟩ = some (.string ss[j]) := World.grownBy.cell (drew_grow hgra) hc hne)))
                          have hb2 := hb.grown (drew_grow hgra) hb.size (by intro k hk; injection hk with hk; omega)
                          have hg2 := HG.out
                          simp only [hv, Bool.true_and] at hg2
                          clear hc hca hgra hb HI HG hne hv hst
                          go_wp2
                          go_roundw
                          case rel => exact ⟨j + 1, l', er', _, by omega, by go_num, rfl, hra, hg2, hb2⟩
                          case measure => simp [intOf]; omega
                      · obtain rfl : n1 = j := by omega
                        have hdr : ss.drop n1 = [] := List.drop_of_length_le (by have := HYL.out; omega)
                        rw [hdr] at hgo
                        have HEND := Lib.hid (end_any g l er wr hr)
                        clear hr hdr
                        go_wp2_with fail
                        refine HEND.out.mono ?_
                        rintro _ w8 ⟨rfl, rfl⟩
                        clear HEND
                        obtain ⟨rfl, he⟩ := goes_end0 hgo
                        rw [he]
                        clear hgo
                        go_wp2
                        go_roundw
                        case rel => exact ⟨0 + 1, by omega, by go_num, hb⟩
                        case measure => simp [intOf]
              · have hown0 : (wr.alloc (.cells #[] 5)).ownsRow wo.heap.size 5 1 (.slice (some ⟨wr.heap.size, 0, none⟩) 0 0) 0 (bc []) := World.ownsRow_made wr #[] 0 hbk.size (Nat.zero_le _) rfl
                have hba0 : Below wr.heap.size wr (wr.alloc (.cells #[] 5)) := (Below.refl _ _).alloc (Nat.le_refl _) _
                have hsrc := (hs1.below hba0).src (P := Try.prog) Try.underlying22
                have hbs := hbk.size
                clear hs1
                go_wp2_with (at_builtin; refine wpList_ap _ rfl (.tmp 65) (.tmp 66) 22 22 rfl wo.heap.size 5 i0 Try.underlying22 hi0 hz0 hz1 hz2 _ 0 0 [] rfl hown0 _ m D rfl hsrc ?c1 ?c2 ?_)
                case c1 => omega
                case c2 => simp; omega
                intro A2 c2 wA hownA _ hgA _
                have hbA := (step_below hbk hba0).grown hgA (by simp; omega) (by intro k hk; injection hk with hk; omega)
                have hbsA := hbA.size
                have hone := own_one wA wo.heap.size 7 7 rfl hbsA
                have hsrc2 := (Shows.of_own hone).src (P := Try.prog) Try.underlying22
                have hownA2 := hownA.alloc (.cells #[Value.int .u8 7] 5)
                have hblk := own_block hownA
                clear hown0 hsrc hgA hone hba0
                go_wp2_with (at_builtin; refine wpList_ap _ rfl (.tmp 67) (.tmp 68) 22 22 rfl wo.heap.size 5 i0 Try.underlying22 hi0 hz0 hz1 hz2 _ m c2 D rfl hownA2 _ 1 [7] rfl hsrc2 ?c1 ?c2 ?_)
                case c1 => omega
                case c2 => simp; omega
                intro A3 c3 wB hownB _ hgB _
                have hbB := (hbA.alloc hbsA (.cells #[Value.int .u8 7] 5)).grown hgB (by simp; omega) (fun k hk => (hblk k (by simpa using hk)).1)
                have HN := Lib.hid (new_any A3 (m + 1) c3 _ wB (Shows.of_own hownB) (by omega))
                clear hownA hownA2 hsrc2 hgB hblk hownB hbA hbk
                go_wp2_with fail
                refine HN.out.mono ?_
                rintro _ w5 ⟨g, rfl, hr5, hg5, hb5⟩
                have hbw := step_below hbB hb5
                have hgg : wo.heap.size ≤ g := Nat.le_trans hbB.size hg5
                have hgo : Goes 1 (leb (n0 : Int) 1 ++ (encI xs ++ encT ss)) (D ++ [7]) 0 true := by unfold Goes; rw [HD.out]; simp
                generalize D ++ [7] = X at hgo hr5
                clear HN hb5 hg5 hbB
                have hgo6 := goes_byte (x := (n0 : Int)) (by omega) (by omega) hgo
                have H6 := Lib.hid (read_Byte g X 0 w5 hr5)
                generalize rdNum 1 X 0 = q at hgo6 H6
                obtain ⟨v6, l6, e6⟩ := q
                rw [Bool.and_true] at hgo6
                have HGO := Lib.hid hgo6
                clear hgo hgo6 hr5
                go_wp2_with fail
                refine H6.out.mono ?_
                rintro _ w6 ⟨rfl, hr6, hb6⟩
                have hbw6 := hbw.trans (grow_below hb6 (Nat.le_trans hbw.size (Nat.le_refl _)) (by intro k hk; injection hk with hk; omega))
                clear H6 hb6 hbw
                go_wp2
                go_loopw [11, 12] (fun ok i wr => ∃ j : Nat, ∃ l er b, j ≤ n0 ∧ i = .int .i64 j ∧ ok = .bool b ∧ Rd wr g l er ∧ Goes 1 (encI (xs.drop j) ++ encT ss) l er b ∧ Below wo.heap.size wo wr) (fun _ i _ => n0 - (intOf i).toNat)
                case atStart => exact ⟨0, l6, e6, _, by omega, rfl, rfl, hr6, HGO.out, hbw6⟩
                case round =>
                  clear hr6 hbw6
                  obtain ⟨j, l, er, b, hj, rfl, rfl, hr, hgo, hb⟩ := hrel
                  by_cases hlt : j < n0
                  · have hjl : j < xs.length := by have := HXL.out; omega
                    obtain ⟨ga, o, rfl, hga, hc0⟩ := (hx.below (hbwo.trans (hb.mono hbwo.size))).spot (by omega)
                    have hc : wr.cell? ⟨ga, o + j, none⟩ = some (.int .i64 xs[j]) := by rw [hc0 j (by simpa using hjl), List.getElem_map]
                    have hne : some ga ≠ some g := by intro h; injection h with h; omega
                    have hrg := i64_of_wf (hxr xs[j] (List.getElem_mem hjl))
                    rw [encI_drop xs j hjl, List.append_assoc] at hgo
                    have HG := Lib.hid (goes_int hrg.1 hrg.2 hgo)
                    have HI := Lib.hid (read_Int g l er wr.drew hr.drew)
                    generalize rdNum 8 l er = q at HG HI
                    obtain ⟨v, l', er'⟩ := q
                    have HX := Lib.hid hx
                    have HY := Lib.hid hy
                    clear hgo hr hrg hc0 hx hy
                    have hv : (v == xs[j]) = true := (by have h := goes_true (by decide) HG.out; rw [Bool.and_eq_true] at h; exact h.1)
                    · go_wp2
                      go_region_held3 (fun w' => w'.cell? ⟨ga, o + j, none⟩ = some (.int .i64 xs[j]))
                        (first | exact hc | exact hca)
                        ((first
                          | (go_at_call 20; refine HI.out.mono ?_; rintro _ wa ⟨rfl, hra, hgra⟩; have hca : wa.cell? ⟨ga, o + j, none⟩ = some (.int .i64 xs[j]) := World.grownBy.cell (drew_grow hgra) hc hne)))
                      have hb2 := hb.grown (drew_grow hgra) hb.size (by intro k hk; injection hk with hk; omega)
                      have hg2 := HG.out
                      simp only [hv, Bool.true_and] at hg2
                      clear hc hca hgra hb HI HG hne hv
                      go_wp2
                      go_roundw
                      case rel => exact ⟨j + 1, l', er', _, by omega, by go_num, rfl, hra, hg2, hb2⟩
                      case measure => simp [intOf]; omega
                  · obtain rfl : n0 = j := by omega
                    have hdr : xs.drop n0 = [] := List.drop_of_length_le (by have := HXL.out; omega)
                    rw [hdr] at hgo
                    have HGO := Lib.hid hgo
                    clear hdr hgo
                    go_wp2
                    go_loopw [11, 13] (fun ok i wr => ∃ j : Nat, ∃ l er b, j ≤ n1 ∧ i = .int .i64 j ∧ ok = .bool b ∧ Rd wr g l er ∧ Goes 1 (encT (ss.drop j)) l er b ∧ Below wo.heap.size wo wr) (fun _ i _ => n1 - (intOf i).toNat)
                    case atStart => exact ⟨0, l, er, b, by omega, rfl, rfl, hr, HGO.out, hb⟩
                    case round =>
                      clear hr hb HGO
                      obtain ⟨j, l, er, b, hj, rfl, rfl, hr, hgo, hb⟩ := hrel
                      by_cases hlt : j < n1
                      · have hjl : j < ss.length := by have := HYL.out; omega
                        obtain ⟨ga, o, rfl, hga, hc0⟩ := (hy.below (hbwo.trans (hb.mono hbwo.size))).spot (by omega)
                        have hc : wr.cell? ⟨ga, o + j, none⟩ = some (.string ss[j]) := by rw [hc0 j (by simpa using hjl), List.getElem_map]
                        have hne : some ga ≠ some g := by intro h; injection h with h; omega
                        have hsz' := HZ.out j hjl (by omega)
                        rw [encT_drop ss j hjl] at hgo
                        have HG := Lib.hid (goes_text ss[j].data.toList (by rw [Array.length_toList]; exact Nat.le_trans hsz' (by omega)) hgo)
                        have HI := Lib.hid (read_Text g l er wr.drew hr.drew)
                        generalize rdText l er = q at HG HI
                        obtain ⟨v, l', er'⟩ := q
                        have HX := Lib.hid hx
                        have HY := Lib.hid hy
                        clear hgo hr hc0 hx hy hsz'
                        have hv : (v == ss[j].data.toList) = true := (by have h := goes_true (by decide) HG.out; rw [Bool.and_eq_true] at h; exact h.1)
                        · have hst : (v == ss[j].toList) = true := by rw [Lib.toList_data]; exact hv
                          go_wp2
                          go_region_held3 (fun w' => w'.cell? ⟨ga, o + j, none⟩ = some (.string ss[j]))
                            (first | exact hc | exact hca)
                            ((first
                              | (go_at_call 24; refine HI.out.mono ?_; rintro _ wa ⟨rfl, hra, hgra⟩; have hca : wa.cell? ⟨ga, o + j, none⟩ = some (.string ss[j]) := World.grownBy.cell (drew_grow hgra) hc hne)))
                          have hb2 := hb.grown (drew_grow hgra) hb.size (by intro k hk; injection hk with hk; omega)
                          have hg2 := HG.out
                          simp only [hv, Bool.true_and] at hg2
                          clear hc hca hgra hb HI HG hne hv hst
                          go_wp2
                          go_roundw
                          case rel => exact ⟨j + 1, l', er', _, by omega, by go_num, rfl, hra, hg2, hb2⟩
                          case measure => simp [intOf]; omega
                      · obtain rfl : n1 = j := by omega
                        have hdr : ss.drop n1 = [] := List.drop_of_length_le (by have := HYL.out; omega)
                        rw [hdr] at hgo
                        have HEND := Lib.hid (end_any g l er wr hr)
                        clear hr hdr
                        go_wp2_with fail
                        refine HEND.out.mono ?_
                        rintro _ w8 ⟨rfl, rfl⟩
                        clear HEND
                        obtain ⟨rfl, he⟩ := goes_end1 hgo
                        rw [he]
                        clear hgo
                        go_wp2
                        go_roundw
                        case rel => exact ⟨1 + 1, by omega, by go_num, hb⟩
                        case measure => simp [intOf]
              · obtain ⟨m', rfl⟩ : ∃ m', m = m' + 1 := ⟨m - 1, by omega⟩
                have hcap := hs1.le
                have hgo : Goes 2 (leb (n0 : Int) 1 ++ (encI xs ++ encT ss)) (D.take m') 0 true := by
                  unfold Goes
                  rw [HD.out, if_pos rfl]
                  have hlen := HML.out
                  exact .inr ⟨rfl, D[m'], by rw [← List.take_succ_eq_append_getElem (by omega), List.take_of_length_le (by omega)]⟩
                have HN := Lib.hid (new_any A m' c _ wr (hs1.take (by omega)) (by omega))
                clear hs1
                go_wp2_with fail
                refine HN.out.mono ?_
                rintro _ w5 ⟨g, rfl, hr5, hg5, hb5⟩
                have hbw := step_below hbk hb5
                have hgg : wo.heap.size ≤ g := Nat.le_trans hbk.size hg5
                generalize D.take m' = X at hgo hr5
                clear HN hb5 hg5 hbk hcap
                have hgo6 := goes_byte (x := (n0 : Int)) (by omega) (by omega) hgo
                have H6 := Lib.hid (read_Byte g X 0 w5 hr5)
                generalize rdNum 1 X 0 = q at hgo6 H6
                obtain ⟨v6, l6, e6⟩ := q
                rw [Bool.and_true] at hgo6
                have HGO := Lib.hid hgo6
                clear hgo hgo6 hr5
                go_wp2_with fail
                refine H6.out.mono ?_
                rintro _ w6 ⟨rfl, hr6, hb6⟩
                have hbw6 := hbw.trans (grow_below hb6 (Nat.le_trans hbw.size (Nat.le_refl _)) (by intro k hk; injection hk with hk; omega))
                clear H6 hb6 hbw
                go_wp2
                go_loopw [11, 12] (fun ok i wr => ∃ j : Nat, ∃ l er b, j ≤ n0 ∧ i = .int .i64 j ∧ ok = .bool b ∧ Rd wr g l er ∧ Goes 2 (encI (xs.drop j) ++ encT ss) l er b ∧ Below wo.heap.size wo wr) (fun _ i _ => n0 - (intOf i).toNat)
                case atStart => exact ⟨0, l6, e6, _, by omega, rfl, rfl, hr6, HGO.out, hbw6⟩
                case round =>
                  clear hr6 hbw6
                  obtain ⟨j, l, er, b, hj, rfl, rfl, hr, hgo, hb⟩ := hrel
                  by_cases hlt : j < n0
                  · have hjl : j < xs.length := by have := HXL.out; omega
                    obtain ⟨ga, o, rfl, hga, hc0⟩ := (hx.below (hbwo.trans (hb.mono hbwo.size))).spot (by omega)
                    have hc : wr.cell? ⟨ga, o + j, none⟩ = some (.int .i64 xs[j]) := by rw [hc0 j (by simpa using hjl), List.getElem_map]
                    have hne : some ga ≠ some g := by intro h; injection h with h; omega
                    have hrg := i64_of_wf (hxr xs[j] (List.getElem_mem hjl))
                    rw [encI_drop xs j hjl, List.append_assoc] at hgo
                    have HG := Lib.hid (goes_int hrg.1 hrg.2 hgo)
                    have HI := Lib.hid (read_Int g l er wr.drew hr.drew)
                    generalize rdNum 8 l er = q at HG HI
                    obtain ⟨v, l', er'⟩ := q
                    have HX := Lib.hid hx
                    have HY := Lib.hid hy
                    clear hgo hr hrg hc0 hx hy
                    by_cases hv : (v == xs[j]) = true
                    · go_wp2
                      go_region_held3 (fun w' => w'.cell? ⟨ga, o + j, none⟩ = some (.int .i64 xs[j]))
                        (first | exact hc | exact hca)
                        ((first
                          | (go_at_call 20; refine HI.out.mono ?_; rintro _ wa ⟨rfl, hra, hgra⟩; have hca : wa.cell? ⟨ga, o + j, none⟩ = some (.int .i64 xs[j]) := World.grownBy.cell (drew_grow hgra) hc hne)))
                      have hb2 := hb.grown (drew_grow hgra) hb.size (by intro k hk; injection hk with hk; omega)
                      have hg2 := HG.out
                      simp only [hv, Bool.true_and] at hg2
                      clear hc hca hgra hb HI HG hne hv
                      go_wp2
                      go_roundw
                      case rel => exact ⟨j + 1, l', er', _, by omega, by go_num, rfl, hra, hg2, hb2⟩
                      case measure => simp [intOf]; omega
                    · replace hv : (v == xs[j]) = false := by simpa using hv
                      go_wp2
                      first
                        | go_region_with ((go_at_call 20; refine HI.out.mono ?_; rintro _ wa ⟨rfl, hra, hgra⟩; have hca : wa.cell? ⟨ga, o + j, none⟩ = some (.int .i64 xs[j]) := World.grownBy.cell (drew_grow hgra) hc hne))
                        | fail "the region"
                      all_goals
                        have hb2 := hb.grown (drew_grow hgra) hb.size (by intro k hk; injection hk with hk; omega)
                        have hg2 := HG.out
                        simp only [hv, Bool.false_and] at hg2
                        clear hc hca hgra hb HI HG hne hv
                        go_wp2
                        go_roundw
                        case rel => exact ⟨j + 1, l', er', _, by omega, by go_num, rfl, hra, hg2, hb2⟩
                        case measure => simp [intOf]; omega
                  · obtain rfl : n0 = j := by omega
                    have hdr : xs.drop n0 = [] := List.drop_of_length_le (by have := HXL.out; omega)
                    rw [hdr] at hgo
                    have HGO := Lib.hid hgo
                    clear hdr hgo
                    go_wp2
                    go_loopw [11, 13] (fun ok i wr => ∃ j : Nat, ∃ l er b, j ≤ n1 ∧ i = .int .i64 j ∧ ok = .bool b ∧ Rd wr g l er ∧ Goes 2 (encT (ss.drop j)) l er b ∧ Below wo.heap.size wo wr) (fun _ i _ => n1 - (intOf i).toNat)
                    case atStart => exact ⟨0, l, er, b, by omega, rfl, rfl, hr, HGO.out, hb⟩
                    case round =>
                      clear hr hb HGO
                      obtain ⟨j, l, er, b, hj, rfl, rfl, hr, hgo, hb⟩ := hrel
                      by_cases hlt : j < n1
                      · have hjl : j < ss.length := by have := HYL.out; omega
                        obtain ⟨ga, o, rfl, hga, hc0⟩ := (hy.below (hbwo.trans (hb.mono hbwo.size))).spot (by omega)
                        have hc : wr.cell? ⟨ga, o + j, none⟩ = some (.string ss[j]) := by rw [hc0 j (by simpa using hjl), List.getElem_map]
                        have hne : some ga ≠ some g := by intro h; injection h with h; omega
                        have hsz' := HZ.out j hjl (by omega)
                        rw [encT_drop ss j hjl] at hgo
                        have HG := Lib.hid (goes_text ss[j].data.toList (by rw [Array.length_toList]; exact Nat.le_trans hsz' (by omega)) hgo)
                        have HI := Lib.hid (read_Text g l er wr.drew hr.drew)
                        generalize rdText l er = q at HG HI
                        obtain ⟨v, l', er'⟩ := q
                        have HX := Lib.hid hx
                        have HY := Lib.hid hy
                        clear hgo hr hc0 hx hy hsz'
                        by_cases hv : (v == ss[j].data.toList) = true
                        · have hst : (v == ss[j].toList) = true := by rw [Lib.toList_data]; exact hv
                          go_wp2
                          go_region_held3 (fun w' => w'.cell? ⟨ga, o + j, none⟩ = some (.string ss[j]))
                            (first | exact hc | exact hca)
                            ((first
                              | (go_at_call 24; refine HI.out.mono ?_; rintro _ wa ⟨rfl, hra, hgra⟩; have hca : wa.cell? ⟨ga, o + j, none⟩ = some (.string ss[j]) := World.grownBy.cell (drew_grow hgra) hc hne)))
                          have hb2 := hb.grown (drew_grow hgra) hb.size (by intro k hk; injection hk with hk; omega)
                          have hg2 := HG.out
                          simp only [hv, Bool.true_and] at hg2
                          clear hc hca hgra hb HI HG hne hv hst
                          go_wp2
                          go_roundw
                          case rel => exact ⟨j + 1, l', er', _, by omega, by go_num, rfl, hra, hg2, hb2⟩
                          case measure => simp [intOf]; omega
                        · replace hv : (v == ss[j].data.toList) = false := by simpa using hv
                          have hst : (v == ss[j].toList) = false := by rw [Lib.toList_data]; exact hv
                          go_wp2
                          first
                            | go_region_with ((go_at_call 24; refine HI.out.mono ?_; rintro _ wa ⟨rfl, hra, hgra⟩; have hca : wa.cell? ⟨ga, o + j, none⟩ = some (.string ss[j]) := World.grownBy.cell (drew_grow hgra) hc hne))
                            | fail "the region"
                          all_goals
                            have hb2 := hb.grown (drew_grow hgra) hb.size (by intro k hk; injection hk with hk; omega)
                            have hg2 := HG.out
                            simp only [hv, Bool.false_and] at hg2
                            clear hc hca hgra hb HI HG hne hv hst
                            go_wp2
                            go_roundw
                            case rel => exact ⟨j + 1, l', er', _, by omega, by go_num, rfl, hra, hg2, hb2⟩
                            case measure => simp [intOf]; omega
                      · obtain rfl : n1 = j := by omega
                        have hdr : ss.drop n1 = [] := List.drop_of_length_le (by have := HYL.out; omega)
                        rw [hdr] at hgo
                        have HEND := Lib.hid (end_any g l er wr hr)
                        clear hr hdr
                        go_wp2_with fail
                        refine HEND.out.mono ?_
                        rintro _ w8 ⟨rfl, rfl⟩
                        clear HEND
                        have he := goes_end2 hgo
                        rw [he]
                        clear hgo
                        go_wp2
                        go_roundw
                        case rel => exact ⟨2 + 1, by omega, by go_num, hb⟩
                        case measure => simp [intOf]
            · have hbz := hb0.trans (hbk.mono hb0.size)
              clear hs hbk hx hy
              go_wp2
              go_ret
              exact ⟨rfl, hbz⟩
end Go.Proofs.Ytjnpadokmhhffaa
