/- An array of bytes that came in by value, and the two tables of package sha out of the row's condition. -/
import Derived.Test.YtmebdnblobobnaaGreatDoorRows
import Derived.Test.YtmebdnblobobnaaGreatDoorKSha
import Derived.Lib.LaidTab
import Derived.Stop.LaidErr
import Derived.WideShapes
import Derived.Lay
namespace Go.Proofs.YtmebdnblobobnaaGreatDoor
set_option maxRecDepth 100000
open Go.RowKit _root_.Go.Proofs.YtmebdnblobobnaaGreatDoor.Wd _root_.Go.Proofs.YtmebdnblobobnaaGreatDoor.Nm _root_.Go.Proofs.YtmebdnblobobnaaGreatDoor.Cm Sm

theorem okWide_array {P : Program} {w : World} {r : Reach} {base : Nat} {t e : TypeId} {n : Nat} {v : Value} (ht : P.underlying t = some (.array n e)) (h : Value.okWide P w r base t v) : ∃ cs, v = .agg cs ∧ cs.size = P.cellsOf t := by
  simp only [Value.okWide, ht] at h
  obtain ⟨cs, h1, h2, _⟩ := h
  exact ⟨cs, h1, h2⟩
theorem open_bytes {H : Type} {enc : TypeId × Value → H} {P : Program} {W : World} {base : Nat} {sp : Nat → Bool} {held : Bool} {fuel : Nat} {t e : TypeId} {n : Nat} {cs : List Value} {x : DataW H × List MemPlace}
    (ht : P.underlying t = some (.array n e)) (he : P.underlying e = some (.int .u8)) (hce : P.cellsOf e = 1) (hl : cs.length = n)
    (h : DataW.trod enc P W base sp held fuel t cs = some x) : ∃ l : List UInt8, l.length = n ∧ cs = bc l := by
  cases fuel with
  | zero => simp [DataW.trod] at h
  | succ fuel =>
    simp only [DataW.trod, ht, hce, Nat.mul_one] at h
    split at h
    · obtain ⟨xs, hm, hx⟩ := Option.map_eq_some_iff.1 h
      have hall : ∀ i, i < n → ∃ z : Int, cs[i]? = some (.int .u8 z) ∧ (Lit.int .u8 z).wf = true := by
        intro i hi
        obtain ⟨b, _, hf⟩ := Lib.mapM_at hm i i (by simp [hi])
        obtain ⟨z, hc, _, hz⟩ := DataW.trod_int he hf
        refine ⟨z, ?_, hz⟩
        have := congrArg (·[0]?) hc
        simpa [List.getElem?_take, List.getElem?_drop] using this
      refine ⟨cs.map fun v => match v with | .int _ z => UInt8.ofNat z.toNat | _ => 0, by simpa using hl, ?_⟩
      apply List.ext_getElem?
      intro i
      by_cases hi : i < n
      · obtain ⟨z, hz, hw⟩ := hall i hi
        simp only [bc, List.map_map, List.getElem?_map, hz, Option.map_some]
        have := u8_of_wf hw
        simp
        omega
      · rw [List.getElem?_eq_none (by omega), List.getElem?_eq_none (by rw [bc_len, List.length_map]; omega)]
    · cases h

theorem laid_first : Rows.laid_solenoid_sha_first = (Lib.tabData .u32 (ini.list.map tn) : DataW Unit) := by kernel_rfl
theorem laid_steps : Rows.laid_solenoid_sha_steps = (Lib.tabData .u32 (ks.map tn) : DataW Unit) := by kernel_rfl
theorem tables_of {W : World} (hL : laidMet Tryz.prog [("solenoid/sha.first", Rows.laid_solenoid_sha_first), ("solenoid/sha.steps", Rows.laid_solenoid_sha_steps)] W) : Tables W := by
  rw [laid_first, laid_steps] at hL
  have h1 := Lib.tabIs_of_head (show Tryz.prog.globalNamed "solenoid/sha.first" = some 0 by kernel_rfl) (t := 70) (by kernel_rfl) Tryz.underlying70 Tryz.underlying67 (by kernel_rfl) (by kernel_rfl) hL
  have h2 := Lib.tabIs_of_head (show Tryz.prog.globalNamed "solenoid/sha.steps" = some 2 by kernel_rfl) (t := 137) (by kernel_rfl) Tryz.underlying137 Tryz.underlying67 (by kernel_rfl) (by kernel_rfl) (laidMet.tail hL)
  refine ⟨fun j hj => ?_, fun j v hv => ?_⟩
  · rw [h2.cell (by kernel_rfl) j (by rw [List.length_map]; exact hj), List.getD_eq_getElem?_getD, List.getElem?_map, List.getD_eq_getElem?_getD]
    have : j < ks.length := hj
    rw [List.getElem?_eq_getElem this]
    rfl
  · have hj : j < (wc ini.list).length := (List.getElem?_eq_some_iff.1 hv).1
    rw [wc_len] at hj
    rw [Nat.zero_add, h1.cell (by kernel_rfl) j (by rw [List.length_map]; exact hj), ← hv, wc_get _ _ hj, List.getD_eq_getElem?_getD, List.getElem?_map, List.getD_eq_getElem?_getD, List.getElem?_eq_getElem hj]
    rfl
end Go.Proofs.YtmebdnblobobnaaGreatDoor
