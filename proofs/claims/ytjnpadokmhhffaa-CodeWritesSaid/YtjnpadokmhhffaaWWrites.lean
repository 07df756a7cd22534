/- The walk of the law CodeWrites: any number, byte, text, behind any bytes, is written as the document says. -/
import Derived.Test.YtjnpadokmhhffaaWriteMid
import Derived.Deep.RegionHeld
namespace Go.Proofs.Ytjnpadokmhhffaa
open Go.RowKit Wd Nm

/-- What must hold behind every operation may be made stronger on the way. -/
theorem wpAnyH_up {P : Program} {md : Region.Mode} {ops : Array Oper} {Q : Exit → Act → World → Prop} {S S' : World → Prop} (himp : ∀ W, S' W → S W) :
    ∀ (fuel : Nat) (listed : Array Bool) (a : Act) (w : World), wpAnyH P md ops Q S' fuel listed a w → wpAnyH P md ops Q S fuel listed a w
  | 0, _, _, _, h => h
  | fuel + 1, _, _, _, h => ⟨h.1, fun i hi => wpOp_mono (fun _ _ h' => ⟨himp _ h'.1, wpAnyH_up himp fuel _ _ _ h'.2⟩) (h.2 i hi)⟩

set_option linter.unusedSimpArgs false in
set_option maxRecDepth 100000 in
set_option maxHeartbeats 4000000 in
theorem codeWrites_walk (A : Option Addr) (n cap : Nat) (bs : List UInt8) (x : Int) (s : ByteArray) (w : World) (hs : Shows w w.heap.size A n cap bs) (_hx : (Lit.int .i64 x).wf = true) (_hsm : s.size ≤ maxLen) :
    Calls Try.prog 3 #[.slice A n cap, .int .i64 x, .string s] w fun e w' => e = .returned (.bool true) ∧ Below w.heap.size w w' := by
  obtain ⟨i0, hi0, hz0, hz1, hz2⟩ := info_parts infoByte
  go_enter Try.func3, Try.ntmps3
  go_wp2_with fail
  refine (known_any _).mono ?_
  rintro _ w1 ⟨rfl, hb1⟩
  by_cases hn : 300 < n
  · clear hs
    go_wp2
    go_ret
    exact ⟨rfl, hb1⟩
  by_cases hsz : 500 < s.size
  · clear hs
    go_wp2
    go_ret
    exact ⟨rfl, hb1⟩
  have hbs := hb1.size
  have hs1 := hs.below hb1
  have hown0 : (w1.alloc (.cells #[] 5)).ownsRow w.heap.size 5 1 (.slice (some ⟨w1.heap.size, 0, none⟩) 0 0) 0 (bc []) := World.ownsRow_made w1 #[] 0 hbs (Nat.zero_le _) rfl
  have hba0 : Below w1.heap.size w1 (w1.alloc (.cells #[] 5)) := (Below.refl _ _).alloc (Nat.le_refl _) _
  have hsrc := (hs1.below (hba0.mono hbs)).src (P := Try.prog) Try.underlying22
  have HS := Lib.hid hs
  clear hs hs1
  go_wp2_with (at_builtin; refine wpList_ap _ rfl (.tmp 18) (.tmp 19) 22 22 rfl w.heap.size 5 i0 Try.underlying22 hi0 hz0 hz1 hz2 _ 0 0 [] rfl hown0 _ n bs rfl hsrc ?c1 ?c2 ?_)
  case c1 => omega
  case c2 => simp; omega
  intro Aw cw wA hownA _ hgA _
  have hbA := (step_below hb1 hba0).grown hgA (by simp; omega) (by intro k hk; injection hk with hk; omega)
  have hbsA := hbA.size
  have hblk := fun k (h : Aw.map (·.block) = some k) => (own_block hownA k h).1
  have hsA := (HS.out.below hbA)
  have hM0 : Mid w A Aw n cap cw bs wA.drew := Mid.drew ⟨hbA, by simpa using hownA, HS.out⟩
  clear hown0 hsrc hgA hba0 hb1 hbs hsA hownA hbA hblk HS hbsA
  go_wp2
  refine wp_region_held_drew (S := fun W => Mid w A Aw n cap cw bs W) (by kernel_rfl) hM0 (fun hH0 => ?_)
  refine wpAnyH_take (i := 0) (v := ?_) rfl (by kernel_rfl) (by kernel_rfl) (by kernel_rfl) (fun _ _ _ h => h) (Or.inl ⟨by rfl, ?_⟩) (by assumption) ?_
  rotate_left
  · intro w' hS'; go_simp; try exact rfl
  try simp only [Act.put, List.getElem_toArray, List.getElem_cons_succ, List.getElem_cons_zero, List.setIfInBounds_toArray, List.set_cons_zero, List.set_cons_succ]
  refine wpAnyH_take (i := 1) (v := ?_) rfl (by kernel_rfl) (by kernel_rfl) (by kernel_rfl) (fun _ _ _ h => h) (Or.inl ⟨by rfl, ?_⟩) (by assumption) ?_
  rotate_left
  · intro w' hS'; go_simp; try exact rfl
  try simp only [Act.put, List.getElem_toArray, List.getElem_cons_succ, List.getElem_cons_zero, List.setIfInBounds_toArray, List.set_cons_zero, List.set_cons_succ]
  refine wpAnyH_take (i := 4) (v := ?_) rfl (by kernel_rfl) (by kernel_rfl) (by kernel_rfl) (fun _ _ _ h => h) (Or.inl ⟨by rfl, ?_⟩) (by assumption) ?_
  rotate_left
  · intro w' hS'; go_simp; try exact rfl
  try simp only [Act.put, List.getElem_toArray, List.getElem_cons_succ, List.getElem_cons_zero, List.setIfInBounds_toArray, List.set_cons_zero, List.set_cons_succ]
  refine wpAnyH_take (i := 5) (v := ?_) rfl (by kernel_rfl) (by kernel_rfl) (by kernel_rfl) (fun _ _ _ h => h) (Or.inl ⟨by rfl, ?_⟩) (by assumption) ?_
  rotate_left
  · intro w' hS'; go_simp; try exact rfl
  try simp only [Act.put, List.getElem_toArray, List.getElem_cons_succ, List.getElem_cons_zero, List.setIfInBounds_toArray, List.set_cons_zero, List.set_cons_succ]
  refine wpAnyH_ready (rs := [2]) (by kernel_rfl) (by simp) ?_
  refine AllReadyH.cons rfl (fun K hK => ?_) AllReadyH.nil
  go_simp
  refine (codeInt_mid w A Aw n cap cw bs x _ hM0 (by omega)).mono ?_
  rintro _ wB0 ⟨A1, k1, rfl, hMB0, hAB0, hKB0⟩
  go_wp2_with fail
  refine hK.out _ _ hMB0 (fun hHB0 => ?_)
  clear hK K
  try simp only [Act.put, List.getElem_toArray, List.getElem_cons_succ, List.getElem_cons_zero, List.setIfInBounds_toArray, List.set_cons_zero, List.set_cons_succ]
  refine wpAnyH_up (S' := fun W => (Mid w A Aw n cap cw bs W ∧ Apart W Aw A1 (n + 8) k1 (bs ++ leb x 8))) (fun W h => h.1) _ _ _ _ ?_
  have hHC0 : (Mid w A Aw n cap cw bs wB0 ∧ Apart wB0 Aw A1 (n + 8) k1 (bs ++ leb x 8)) := ⟨hHB0, hAB0⟩
  refine wpAnyH_take (i := 3) (v := ?_) rfl (by kernel_rfl) (by kernel_rfl) (by kernel_rfl) (fun _ _ _ h => h) (Or.inl ⟨by rfl, ?_⟩) (by assumption) ?_
  rotate_left
  · intro w' hS'; have hcv := Apart.conv hS'.2; go_simp; try exact rfl
  try simp only [Act.put, List.getElem_toArray, List.getElem_cons_succ, List.getElem_cons_zero, List.setIfInBounds_toArray, List.set_cons_zero, List.set_cons_succ]
  refine wpAnyH_ready (rs := [6]) (by kernel_rfl) (by simp) ?_
  refine AllReadyH.cons rfl (fun K hK => ?_) AllReadyH.nil
  go_simp
  refine (refInt_mid w A Aw n cap cw bs x _ hMB0 (by omega)).mono ?_
  rintro _ wC0 ⟨A2, k2, rfl, hMC0, hKC0, hv0⟩
  go_wp2_with fail
  refine hK.out _ _ (⟨hMC0, hKC0 _ _ _ _ hHC0.2⟩) (fun hHD0 => ?_)
  clear hK K
  try simp only [Act.put, List.getElem_toArray, List.getElem_cons_succ, List.getElem_cons_zero, List.setIfInBounds_toArray, List.set_cons_zero, List.set_cons_succ]
  refine wpAnyH_ready (rs := [7]) (by kernel_rfl) (by simp) ?_
  refine AllReadyH.cons rfl (fun K hK => ?_) AllReadyH.nil
  go_simp
  refine hK.out _ _ hHD0 (fun _ => ?_)
  clear hK K
  try simp only [Act.put, List.getElem_toArray, List.getElem_cons_succ, List.getElem_cons_zero, List.setIfInBounds_toArray, List.set_cons_zero, List.set_cons_succ]
  clear hv0
  refine wpAnyH_take (i := 8) (v := ?_) rfl (by kernel_rfl) (by kernel_rfl) (by kernel_rfl) (fun _ _ _ h => h) (Or.inl ⟨by rfl, ?_⟩) (by assumption) ?_
  rotate_left
  · intro w' hS'; go_simp; try exact rfl
  try simp only [Act.put, List.getElem_toArray, List.getElem_cons_succ, List.getElem_cons_zero, List.setIfInBounds_toArray, List.set_cons_zero, List.set_cons_succ]
  refine wpAnyH_take (i := 9) (v := ?_) rfl (by kernel_rfl) (by kernel_rfl) (by kernel_rfl) (fun _ _ _ h => h) (Or.inl ⟨by rfl, ?_⟩) (by assumption) ?_
  rotate_left
  · intro w' hS'; go_simp; try exact rfl
  try simp only [Act.put, List.getElem_toArray, List.getElem_cons_succ, List.getElem_cons_zero, List.setIfInBounds_toArray, List.set_cons_zero, List.set_cons_succ]
  refine wpAnyH_take (i := 10) (v := ?_) rfl (by kernel_rfl) (by kernel_rfl) (by kernel_rfl) (fun _ _ _ h => h) (Or.inl ⟨by rfl, ?_⟩) (by assumption) ?_
  rotate_left
  · intro w' hS'; go_simp; try exact rfl
  try simp only [Act.put, List.getElem_toArray, List.getElem_cons_succ, List.getElem_cons_zero, List.setIfInBounds_toArray, List.set_cons_zero, List.set_cons_succ]
  refine wpAnyH_take (i := 11) (v := ?_) rfl (by kernel_rfl) (by kernel_rfl) (by kernel_rfl) (fun _ _ _ h => h) (Or.inl ⟨by rfl, ?_⟩) (by assumption) ?_
  rotate_left
  · intro w' hS'; go_simp; try exact rfl
  try simp only [Act.put, List.getElem_toArray, List.getElem_cons_succ, List.getElem_cons_zero, List.setIfInBounds_toArray, List.set_cons_zero, List.set_cons_succ]
  refine wpAnyH_take (i := 14) (v := ?_) rfl (by kernel_rfl) (by kernel_rfl) (by kernel_rfl) (fun _ _ _ h => h) (Or.inl ⟨by rfl, ?_⟩) (by assumption) ?_
  rotate_left
  · intro w' hS'; go_simp; try exact rfl
  try simp only [Act.put, List.getElem_toArray, List.getElem_cons_succ, List.getElem_cons_zero, List.setIfInBounds_toArray, List.set_cons_zero, List.set_cons_succ]
  refine wpAnyH_take (i := 15) (v := ?_) rfl (by kernel_rfl) (by kernel_rfl) (by kernel_rfl) (fun _ _ _ h => h) (Or.inl ⟨by rfl, ?_⟩) (by assumption) ?_
  rotate_left
  · intro w' hS'; go_simp; try exact rfl
  try simp only [Act.put, List.getElem_toArray, List.getElem_cons_succ, List.getElem_cons_zero, List.setIfInBounds_toArray, List.set_cons_zero, List.set_cons_succ]
  refine wpAnyH_ready (rs := [12]) (by kernel_rfl) (by simp) ?_
  refine AllReadyH.cons rfl (fun K hK => ?_) AllReadyH.nil
  go_simp
  refine (codeByte_mid w A Aw n cap cw bs x _ hMC0 (by omega)).mono ?_
  rintro _ wB1 ⟨A3, k3, rfl, hMB1, hAB1, hKB1⟩
  go_wp2_with fail
  refine hK.out _ _ (⟨hMB1, hKB1 _ _ _ _ hHD0.2⟩) (fun hHB1 => ?_)
  clear hK K
  try simp only [Act.put, List.getElem_toArray, List.getElem_cons_succ, List.getElem_cons_zero, List.setIfInBounds_toArray, List.set_cons_zero, List.set_cons_succ]
  refine wpAnyH_up (S' := fun W => ((Mid w A Aw n cap cw bs W ∧ Apart W Aw A1 (n + 8) k1 (bs ++ leb x 8)) ∧ Apart W Aw A3 (n + 1) k3 (bs ++ leb x 1))) (fun W h => h.1) _ _ _ _ ?_
  have hHC1 : ((Mid w A Aw n cap cw bs wB1 ∧ Apart wB1 Aw A1 (n + 8) k1 (bs ++ leb x 8)) ∧ Apart wB1 Aw A3 (n + 1) k3 (bs ++ leb x 1)) := ⟨hHB1, hAB1⟩
  refine wpAnyH_take (i := 13) (v := ?_) rfl (by kernel_rfl) (by kernel_rfl) (by kernel_rfl) (fun _ _ _ h => h) (Or.inl ⟨by rfl, ?_⟩) (by assumption) ?_
  rotate_left
  · intro w' hS'; have hcv := Apart.conv hS'.2; go_simp; try exact rfl
  try simp only [Act.put, List.getElem_toArray, List.getElem_cons_succ, List.getElem_cons_zero, List.setIfInBounds_toArray, List.set_cons_zero, List.set_cons_succ]
  refine wpAnyH_ready (rs := [16]) (by kernel_rfl) (by simp) ?_
  refine AllReadyH.cons rfl (fun K hK => ?_) AllReadyH.nil
  go_simp
  refine (refByte_mid w A Aw n cap cw bs x _ hMB1 (by omega)).mono ?_
  rintro _ wC1 ⟨A4, k4, rfl, hMC1, hKC1, hv1⟩
  go_wp2_with fail
  refine hK.out _ _ (⟨⟨hMC1, hKC1 _ _ _ _ (hHC1.1).2⟩, hKC1 _ _ _ _ hHC1.2⟩) (fun hHD1 => ?_)
  clear hK K
  try simp only [Act.put, List.getElem_toArray, List.getElem_cons_succ, List.getElem_cons_zero, List.setIfInBounds_toArray, List.set_cons_zero, List.set_cons_succ]
  refine wpAnyH_ready (rs := [17]) (by kernel_rfl) (by simp) ?_
  refine AllReadyH.cons rfl (fun K hK => ?_) AllReadyH.nil
  go_simp
  refine hK.out _ _ hHD1 (fun _ => ?_)
  clear hK K
  try simp only [Act.put, List.getElem_toArray, List.getElem_cons_succ, List.getElem_cons_zero, List.setIfInBounds_toArray, List.set_cons_zero, List.set_cons_succ]
  clear hv1
  refine wpAnyH_take (i := 18) (v := ?_) rfl (by kernel_rfl) (by kernel_rfl) (by kernel_rfl) (fun _ _ _ h => h) (Or.inl ⟨by rfl, ?_⟩) (by assumption) ?_
  rotate_left
  · intro w' hS'; go_simp; try exact rfl
  try simp only [Act.put, List.getElem_toArray, List.getElem_cons_succ, List.getElem_cons_zero, List.setIfInBounds_toArray, List.set_cons_zero, List.set_cons_succ]
  refine wpAnyH_take (i := 19) (v := ?_) rfl (by kernel_rfl) (by kernel_rfl) (by kernel_rfl) (fun _ _ _ h => h) (Or.inl ⟨by rfl, ?_⟩) (by assumption) ?_
  rotate_left
  · intro w' hS'; go_simp; try exact rfl
  try simp only [Act.put, List.getElem_toArray, List.getElem_cons_succ, List.getElem_cons_zero, List.setIfInBounds_toArray, List.set_cons_zero, List.set_cons_succ]
  refine wpAnyH_take (i := 20) (v := ?_) rfl (by kernel_rfl) (by kernel_rfl) (by kernel_rfl) (fun _ _ _ h => h) (Or.inl ⟨by rfl, ?_⟩) (by assumption) ?_
  rotate_left
  · intro w' hS'; go_simp; try exact rfl
  try simp only [Act.put, List.getElem_toArray, List.getElem_cons_succ, List.getElem_cons_zero, List.setIfInBounds_toArray, List.set_cons_zero, List.set_cons_succ]
  refine wpAnyH_take (i := 21) (v := ?_) rfl (by kernel_rfl) (by kernel_rfl) (by kernel_rfl) (fun _ _ _ h => h) (Or.inl ⟨by rfl, ?_⟩) (by assumption) ?_
  rotate_left
  · intro w' hS'; go_simp; try exact rfl
  try simp only [Act.put, List.getElem_toArray, List.getElem_cons_succ, List.getElem_cons_zero, List.setIfInBounds_toArray, List.set_cons_zero, List.set_cons_succ]
  refine wpAnyH_take (i := 22) (v := ?_) rfl (by kernel_rfl) (by kernel_rfl) (by kernel_rfl) (fun _ _ _ h => h) (Or.inl ⟨by rfl, ?_⟩) (by assumption) ?_
  rotate_left
  · intro w' hS'; go_simp; try exact rfl
  try simp only [Act.put, List.getElem_toArray, List.getElem_cons_succ, List.getElem_cons_zero, List.setIfInBounds_toArray, List.set_cons_zero, List.set_cons_succ]
  refine wpAnyH_take (i := 25) (v := ?_) rfl (by kernel_rfl) (by kernel_rfl) (by kernel_rfl) (fun _ _ _ h => h) (Or.inl ⟨by rfl, ?_⟩) (by assumption) ?_
  rotate_left
  · intro w' hS'; go_simp; try exact rfl
  try simp only [Act.put, List.getElem_toArray, List.getElem_cons_succ, List.getElem_cons_zero, List.setIfInBounds_toArray, List.set_cons_zero, List.set_cons_succ]
  refine wpAnyH_take (i := 26) (v := ?_) rfl (by kernel_rfl) (by kernel_rfl) (by kernel_rfl) (fun _ _ _ h => h) (Or.inl ⟨by rfl, ?_⟩) (by assumption) ?_
  rotate_left
  · intro w' hS'; go_simp; try exact rfl
  try simp only [Act.put, List.getElem_toArray, List.getElem_cons_succ, List.getElem_cons_zero, List.setIfInBounds_toArray, List.set_cons_zero, List.set_cons_succ]
  refine wpAnyH_ready (rs := [23]) (by kernel_rfl) (by simp) ?_
  refine AllReadyH.cons rfl (fun K hK => ?_) AllReadyH.nil
  go_simp
  refine (codeText_mid w A Aw n cap cw bs s _ hMC1 (by omega) (by omega)).mono ?_
  rintro _ wB2 ⟨A5, k5, rfl, hMB2, hAB2, hKB2⟩
  go_wp2_with fail
  refine hK.out _ _ (⟨⟨hMB2, hKB2 _ _ _ _ (hHD1.1).2⟩, hKB2 _ _ _ _ hHD1.2⟩) (fun hHB2 => ?_)
  clear hK K
  try simp only [Act.put, List.getElem_toArray, List.getElem_cons_succ, List.getElem_cons_zero, List.setIfInBounds_toArray, List.set_cons_zero, List.set_cons_succ]
  refine wpAnyH_up (S' := fun W => (((Mid w A Aw n cap cw bs W ∧ Apart W Aw A1 (n + 8) k1 (bs ++ leb x 8)) ∧ Apart W Aw A3 (n + 1) k3 (bs ++ leb x 1)) ∧ Apart W Aw A5 (n + 2 + s.size) k5 (bs ++ leb s.size 2 ++ s.data.toList))) (fun W h => h.1) _ _ _ _ ?_
  have hHC2 : (((Mid w A Aw n cap cw bs wB2 ∧ Apart wB2 Aw A1 (n + 8) k1 (bs ++ leb x 8)) ∧ Apart wB2 Aw A3 (n + 1) k3 (bs ++ leb x 1)) ∧ Apart wB2 Aw A5 (n + 2 + s.size) k5 (bs ++ leb s.size 2 ++ s.data.toList)) := ⟨hHB2, hAB2⟩
  refine wpAnyH_take (i := 24) (v := ?_) rfl (by kernel_rfl) (by kernel_rfl) (by kernel_rfl) (fun _ _ _ h => h) (Or.inl ⟨by rfl, ?_⟩) (by assumption) ?_
  rotate_left
  · intro w' hS'; have hcv := Apart.conv hS'.2; go_simp; try exact rfl
  try simp only [Act.put, List.getElem_toArray, List.getElem_cons_succ, List.getElem_cons_zero, List.setIfInBounds_toArray, List.set_cons_zero, List.set_cons_succ]
  refine wpAnyH_ready (rs := [27]) (by kernel_rfl) (by simp) ?_
  refine AllReadyH.cons rfl (fun K hK => ?_) AllReadyH.nil
  go_simp
  refine (refText_mid w A Aw n cap cw bs s _ hMB2 (by omega) (by omega)).mono ?_
  rintro _ wC2 ⟨A6, k6, rfl, hMC2, hKC2, hv2⟩
  go_wp2_with fail
  refine hK.out _ _ (⟨⟨⟨hMC2, hKC2 _ _ _ _ ((hHC2.1).1).2⟩, hKC2 _ _ _ _ (hHC2.1).2⟩, hKC2 _ _ _ _ hHC2.2⟩) (fun hHD2 => ?_)
  clear hK K
  try simp only [Act.put, List.getElem_toArray, List.getElem_cons_succ, List.getElem_cons_zero, List.setIfInBounds_toArray, List.set_cons_zero, List.set_cons_succ]
  refine wpAnyH_ready (rs := [28]) (by kernel_rfl) (by simp) ?_
  refine AllReadyH.cons rfl (fun K hK => ?_) AllReadyH.nil
  go_simp
  refine hK.out _ _ hHD2 (fun _ => ?_)
  clear hK K
  try simp only [Act.put, List.getElem_toArray, List.getElem_cons_succ, List.getElem_cons_zero, List.setIfInBounds_toArray, List.set_cons_zero, List.set_cons_succ]
  clear hv2
  refine wpAnyH_take (i := 29) (v := ?_) rfl (by kernel_rfl) (by kernel_rfl) (by kernel_rfl) (fun _ _ _ h => h) (Or.inl ⟨by rfl, ?_⟩) (by assumption) ?_
  rotate_left
  · intro w' hS'; go_simp; try exact rfl
  try simp only [Act.put, List.getElem_toArray, List.getElem_cons_succ, List.getElem_cons_zero, List.setIfInBounds_toArray, List.set_cons_zero, List.set_cons_succ]
  refine wpAnyH_take (i := 30) (v := ?_) rfl (by kernel_rfl) (by kernel_rfl) (by kernel_rfl) (fun _ _ _ h => h) (Or.inl ⟨by rfl, ?_⟩) (by assumption) ?_
  rotate_left
  · intro w' hS'; go_simp; try exact rfl
  try simp only [Act.put, List.getElem_toArray, List.getElem_cons_succ, List.getElem_cons_zero, List.setIfInBounds_toArray, List.set_cons_zero, List.set_cons_succ]
  refine wpAnyH_take (i := 31) (v := ?_) rfl (by kernel_rfl) (by kernel_rfl) (by kernel_rfl) (fun _ _ _ h => h) (Or.inl ⟨by rfl, ?_⟩) (by assumption) ?_
  rotate_left
  · intro w' hS'; go_simp; try exact rfl
  try simp only [Act.put, List.getElem_toArray, List.getElem_cons_succ, List.getElem_cons_zero, List.setIfInBounds_toArray, List.set_cons_zero, List.set_cons_succ]
  refine wpAnyH_done (by kernel_rfl) ?_ _
  have hfin := hMC2.1
  clear hMC2 hHD2 hKC2
  go_wp2
  go_ret
  exact ⟨rfl, hfin⟩
end Go.Proofs.Ytjnpadokmhhffaa
