/-
  No cell of these rows narrows 'for every input' (looked for: loops, veiled, ifaces, maps, wideKeys, modest, calm, conditions, laid).
  DERIVED. THE GIVEN ROWS OF THIS SEAT. 8 by the template 'for every input the law returns true; each argument reads behind the call as it read before'; 0 by the template 'total and deterministic' (their statements: YtolpiklhnafnbaaTotals.lean).
  GIVEN WITH THE SEED: the statements are not yours to turn. If you find one false, say at which input.
  Laid BY PROGRAM, IN A SANDBOX (cutbox-rows.mjs): the forced cells as the released guide's own fill.sh prints them over the translation 44f17489775bdb12… (all of the seat's roots in one cut). By AI agents, Wed Nov 11 2026. No macro, syntax, notation, axiom, sorry.
-/
import Derived.Test.YtolpiklhnafnbaaChecked
import GoSem.Claim
import GoSem.ClaimJoined
import GoSem.ClaimMapViews
import Derived.JoinedTies
import Derived.KernelRfl
namespace Go.Proofs.Ytolpiklhnafnbaa
/- THE CELL 'sum', in the pinned program and in every row, IS THE sha256 OF THE DUMP (.gsa) THAT YtolpiklhnafnbaaProg.lean LOADS. Nothing in Lean hashes anything: it is a label: what it is worth is what the hold of that sum in a sandbox is worth. -/
noncomputable def Try.pinned : Pinned := { name := "ytolpiklhnafnbaa", sum := "44f17489775bdb1284aabff6a2bea1ca9a48adcc57aa5cf36d831fc5f15b3ba6", checked := Try.checked }
namespace Rows
def none {H : Type} : Left H := { results := [], args := [] }

/-- 'solenoidlaw4.FlashTwins': WHATEVER THE INPUT: true; the input reads as it did. -/
def flashTwinsSpec : ChangeSpec := { name := "flashTwins", fn := fun _ => fun
  | [d] => { results := [.lit (.bool true)], args := [d] }
  | _ => none }
def flashTwinsRow : OpenClaim := { program := "ytolpiklhnafnbaa", sum := "44f17489775bdb1284aabff6a2bea1ca9a48adcc57aa5cf36d831fc5f15b3ba6", func := "solenoid/solenoidlaw4.FlashTwins", spec := "flashTwins", inPlace := ["internal/bytealg.MakeNoZero"], apart := false }
def FlashTwinsSaid : Prop := flashTwinsRow.holds Try.pinned (OpenSpec.ofChange flashTwinsSpec)

/-- ITS FALSE NEIGHBOUR: 'it returns false'. Refute it at one input. -/
def flashTwinsWrong : ChangeSpec := { name := "flashTwins", fn := fun _ => fun
  | [d] => { results := [.lit (.bool false)], args := [d] }
  | _ => none }
def FlashTwinsWrongFalsely : Prop := flashTwinsRow.holds Try.pinned (OpenSpec.ofChange flashTwinsWrong)

/-- 'solenoidlaw5.RecordPlays': WHATEVER THE INPUT: true; the input reads as it did. -/
def recordPlaysSpec : ChangeSpec := { name := "recordPlays", fn := fun _ => fun
  | [d1, d2] => { results := [.lit (.bool true)], args := [d1, d2] }
  | _ => none }
def recordPlaysRow : OpenClaim := { program := "ytolpiklhnafnbaa", sum := "44f17489775bdb1284aabff6a2bea1ca9a48adcc57aa5cf36d831fc5f15b3ba6", func := "solenoid/solenoidlaw5.RecordPlays", spec := "recordPlays", inPlace := ["internal/bytealg.MakeNoZero"], apart := false }
def RecordPlaysSaid : Prop := recordPlaysRow.holds Try.pinned (OpenSpec.ofChange recordPlaysSpec)

/-- ITS FALSE NEIGHBOUR: 'it returns false'. Refute it at one input. -/
def recordPlaysWrong : ChangeSpec := { name := "recordPlays", fn := fun _ => fun
  | [d1, d2] => { results := [.lit (.bool false)], args := [d1, d2] }
  | _ => none }
def RecordPlaysWrongFalsely : Prop := recordPlaysRow.holds Try.pinned (OpenSpec.ofChange recordPlaysWrong)

/-- 'solenoidlaw5.RecordPages': WHATEVER THE INPUT: true; the input reads as it did. -/
def recordPagesSpec : ChangeSpec := { name := "recordPages", fn := fun _ => fun
  | [d] => { results := [.lit (.bool true)], args := [d] }
  | _ => none }
def recordPagesRow : OpenClaim := { program := "ytolpiklhnafnbaa", sum := "44f17489775bdb1284aabff6a2bea1ca9a48adcc57aa5cf36d831fc5f15b3ba6", func := "solenoid/solenoidlaw5.RecordPages", spec := "recordPages", inPlace := ["internal/bytealg.MakeNoZero"], apart := false }
def RecordPagesSaid : Prop := recordPagesRow.holds Try.pinned (OpenSpec.ofChange recordPagesSpec)

/-- ITS FALSE NEIGHBOUR: 'it returns false'. Refute it at one input. -/
def recordPagesWrong : ChangeSpec := { name := "recordPages", fn := fun _ => fun
  | [d] => { results := [.lit (.bool false)], args := [d] }
  | _ => none }
def RecordPagesWrongFalsely : Prop := recordPagesRow.holds Try.pinned (OpenSpec.ofChange recordPagesWrong)

/-- 'solenoidlaw5.RecordTorn': WHATEVER THE INPUT: true; the input reads as it did. -/
def recordTornSpec : ChangeSpec := { name := "recordTorn", fn := fun _ => fun
  | [d1, d2, d3, d4] => { results := [.lit (.bool true)], args := [d1, d2, d3, d4] }
  | _ => none }
def recordTornRow : OpenClaim := { program := "ytolpiklhnafnbaa", sum := "44f17489775bdb1284aabff6a2bea1ca9a48adcc57aa5cf36d831fc5f15b3ba6", func := "solenoid/solenoidlaw5.RecordTorn", spec := "recordTorn", inPlace := ["internal/bytealg.MakeNoZero"], apart := false }
def RecordTornSaid : Prop := recordTornRow.holds Try.pinned (OpenSpec.ofChange recordTornSpec)

/-- ITS FALSE NEIGHBOUR: 'it returns false'. Refute it at one input. -/
def recordTornWrong : ChangeSpec := { name := "recordTorn", fn := fun _ => fun
  | [d1, d2, d3, d4] => { results := [.lit (.bool false)], args := [d1, d2, d3, d4] }
  | _ => none }
def RecordTornWrongFalsely : Prop := recordTornRow.holds Try.pinned (OpenSpec.ofChange recordTornWrong)

/-- 'solenoidlaw5.RecordFull': WHATEVER THE INPUT: true; the input reads as it did. -/
def recordFullSpec : ChangeSpec := { name := "recordFull", fn := fun _ => fun
  | [d] => { results := [.lit (.bool true)], args := [d] }
  | _ => none }
def recordFullRow : OpenClaim := { program := "ytolpiklhnafnbaa", sum := "44f17489775bdb1284aabff6a2bea1ca9a48adcc57aa5cf36d831fc5f15b3ba6", func := "solenoid/solenoidlaw5.RecordFull", spec := "recordFull", inPlace := ["internal/bytealg.MakeNoZero"], apart := false }
def RecordFullSaid : Prop := recordFullRow.holds Try.pinned (OpenSpec.ofChange recordFullSpec)

/-- ITS FALSE NEIGHBOUR: 'it returns false'. Refute it at one input. -/
def recordFullWrong : ChangeSpec := { name := "recordFull", fn := fun _ => fun
  | [d] => { results := [.lit (.bool false)], args := [d] }
  | _ => none }
def RecordFullWrongFalsely : Prop := recordFullRow.holds Try.pinned (OpenSpec.ofChange recordFullWrong)

/-- 'solenoidlaw5.RecordOrder': WHATEVER THE INPUT: true; the input reads as it did. -/
def recordOrderSpec : ChangeSpec := { name := "recordOrder", fn := fun _ => fun
  | [d] => { results := [.lit (.bool true)], args := [d] }
  | _ => none }
def recordOrderRow : OpenClaim := { program := "ytolpiklhnafnbaa", sum := "44f17489775bdb1284aabff6a2bea1ca9a48adcc57aa5cf36d831fc5f15b3ba6", func := "solenoid/solenoidlaw5.RecordOrder", spec := "recordOrder", inPlace := ["internal/bytealg.MakeNoZero"], apart := false }
def RecordOrderSaid : Prop := recordOrderRow.holds Try.pinned (OpenSpec.ofChange recordOrderSpec)

/-- ITS FALSE NEIGHBOUR: 'it returns false'. Refute it at one input. -/
def recordOrderWrong : ChangeSpec := { name := "recordOrder", fn := fun _ => fun
  | [d] => { results := [.lit (.bool false)], args := [d] }
  | _ => none }
def RecordOrderWrongFalsely : Prop := recordOrderRow.holds Try.pinned (OpenSpec.ofChange recordOrderWrong)

/-- 'solenoidlaw5.RecordSpoilt': WHATEVER THE INPUT: true; the input reads as it did. -/
def recordSpoiltSpec : ChangeSpec := { name := "recordSpoilt", fn := fun _ => fun
  | [d1, d2, d3] => { results := [.lit (.bool true)], args := [d1, d2, d3] }
  | _ => none }
def recordSpoiltRow : OpenClaim := { program := "ytolpiklhnafnbaa", sum := "44f17489775bdb1284aabff6a2bea1ca9a48adcc57aa5cf36d831fc5f15b3ba6", func := "solenoid/solenoidlaw5.RecordSpoilt", spec := "recordSpoilt", inPlace := ["internal/bytealg.MakeNoZero"], apart := false }
def RecordSpoiltSaid : Prop := recordSpoiltRow.holds Try.pinned (OpenSpec.ofChange recordSpoiltSpec)

/-- ITS FALSE NEIGHBOUR: 'it returns false'. Refute it at one input. -/
def recordSpoiltWrong : ChangeSpec := { name := "recordSpoilt", fn := fun _ => fun
  | [d1, d2, d3] => { results := [.lit (.bool false)], args := [d1, d2, d3] }
  | _ => none }
def RecordSpoiltWrongFalsely : Prop := recordSpoiltRow.holds Try.pinned (OpenSpec.ofChange recordSpoiltWrong)

/-- 'solenoidlaw5.RecordRows': WHATEVER THE INPUT: true; the input reads as it did. -/
def recordRowsSpec : ChangeSpec := { name := "recordRows", fn := fun _ => fun
  | [d1, d2] => { results := [.lit (.bool true)], args := [d1, d2] }
  | _ => none }
def recordRowsRow : OpenClaim := { program := "ytolpiklhnafnbaa", sum := "44f17489775bdb1284aabff6a2bea1ca9a48adcc57aa5cf36d831fc5f15b3ba6", func := "solenoid/solenoidlaw5.RecordRows", spec := "recordRows", inPlace := ["internal/bytealg.MakeNoZero"], apart := false }
def RecordRowsSaid : Prop := recordRowsRow.holds Try.pinned (OpenSpec.ofChange recordRowsSpec)

/-- ITS FALSE NEIGHBOUR: 'it returns false'. Refute it at one input. -/
def recordRowsWrong : ChangeSpec := { name := "recordRows", fn := fun _ => fun
  | [d1, d2] => { results := [.lit (.bool false)], args := [d1, d2] }
  | _ => none }
def RecordRowsWrongFalsely : Prop := recordRowsRow.holds Try.pinned (OpenSpec.ofChange recordRowsWrong)

/- THE SECOND FORM. 'bulk': how many values and letters a reading holds, each counted each time it is reached (what is shared counts as often as it is met; a slice's spare places count too). A statement '..UptoSaid' is the law's where the arguments, and the package variables that the reading takes, are together of bulk at most 1048576: NARROWER than '..Said'. Prove '..Said' where nothing that the law and all that it calls make is longer than what came in: it says more and counts as full. Else prove '..UptoSaid'. A law counts once. -/
mutual
def uptoBulk {H : Type} : DataW H → Nat
  | .lit (.string bytes) => bytes.length + 1
  | .lit _ => 1
  | .nil => 1
  | .ptr d => uptoBulk d + 1
  | .slice elems spare => uptoBulkAll elems + uptoBulkAll spare + 1
  | .agg parts => uptoBulkAll parts + 1
  | .iface _ d => uptoBulk d + 1
  | .map entries => uptoBulkEntries entries + 1
  | .held _ => 1
def uptoBulkAll {H : Type} : List (DataW H) → Nat
  | [] => 0
  | d :: r => uptoBulk d + uptoBulkAll r
def uptoBulkEntries {H : Type} : List (Lit × DataW H) → Nat
  | [] => 0
  | x :: r => uptoBulkEntry x + uptoBulkEntries r
def uptoBulkEntry {H : Type} : Lit × DataW H → Nat
  | (.string bytes, d) => bytes.length + uptoBulk d + 1
  | (_, d) => uptoBulk d + 1
 end
def uptoSmall : (H : Type) → List (DataW H) → Bool := fun _ ds => decide (uptoBulkAll ds ≤ 1048576)
def OpenSpec.upto (s : _root_.Go.ChangeSpec) : _root_.Go.OpenSpec := { _root_.Go.OpenSpec.ofChange s with cond := some uptoSmall }

/-- 'solenoidlaw4.FlashTwins', WHERE WHAT IT READS IS OF BULK AT MOST 1048576: true; the input reads as it did. -/
def flashTwinsUptoRow : OpenClaim := { program := "ytolpiklhnafnbaa", sum := "44f17489775bdb1284aabff6a2bea1ca9a48adcc57aa5cf36d831fc5f15b3ba6", func := "solenoid/solenoidlaw4.FlashTwins", spec := "flashTwins", inPlace := ["internal/bytealg.MakeNoZero"], apart := false, narrowed := true }
def FlashTwinsUptoSaid : Prop := flashTwinsUptoRow.holds Try.pinned (OpenSpec.upto flashTwinsSpec)

/-- 'solenoidlaw5.RecordPlays', WHERE WHAT IT READS IS OF BULK AT MOST 1048576: true; the input reads as it did. -/
def recordPlaysUptoRow : OpenClaim := { program := "ytolpiklhnafnbaa", sum := "44f17489775bdb1284aabff6a2bea1ca9a48adcc57aa5cf36d831fc5f15b3ba6", func := "solenoid/solenoidlaw5.RecordPlays", spec := "recordPlays", inPlace := ["internal/bytealg.MakeNoZero"], apart := false, narrowed := true }
def RecordPlaysUptoSaid : Prop := recordPlaysUptoRow.holds Try.pinned (OpenSpec.upto recordPlaysSpec)

/-- 'solenoidlaw5.RecordPages', WHERE WHAT IT READS IS OF BULK AT MOST 1048576: true; the input reads as it did. -/
def recordPagesUptoRow : OpenClaim := { program := "ytolpiklhnafnbaa", sum := "44f17489775bdb1284aabff6a2bea1ca9a48adcc57aa5cf36d831fc5f15b3ba6", func := "solenoid/solenoidlaw5.RecordPages", spec := "recordPages", inPlace := ["internal/bytealg.MakeNoZero"], apart := false, narrowed := true }
def RecordPagesUptoSaid : Prop := recordPagesUptoRow.holds Try.pinned (OpenSpec.upto recordPagesSpec)

/-- 'solenoidlaw5.RecordTorn', WHERE WHAT IT READS IS OF BULK AT MOST 1048576: true; the input reads as it did. -/
def recordTornUptoRow : OpenClaim := { program := "ytolpiklhnafnbaa", sum := "44f17489775bdb1284aabff6a2bea1ca9a48adcc57aa5cf36d831fc5f15b3ba6", func := "solenoid/solenoidlaw5.RecordTorn", spec := "recordTorn", inPlace := ["internal/bytealg.MakeNoZero"], apart := false, narrowed := true }
def RecordTornUptoSaid : Prop := recordTornUptoRow.holds Try.pinned (OpenSpec.upto recordTornSpec)

/-- 'solenoidlaw5.RecordFull', WHERE WHAT IT READS IS OF BULK AT MOST 1048576: true; the input reads as it did. -/
def recordFullUptoRow : OpenClaim := { program := "ytolpiklhnafnbaa", sum := "44f17489775bdb1284aabff6a2bea1ca9a48adcc57aa5cf36d831fc5f15b3ba6", func := "solenoid/solenoidlaw5.RecordFull", spec := "recordFull", inPlace := ["internal/bytealg.MakeNoZero"], apart := false, narrowed := true }
def RecordFullUptoSaid : Prop := recordFullUptoRow.holds Try.pinned (OpenSpec.upto recordFullSpec)

/-- 'solenoidlaw5.RecordOrder', WHERE WHAT IT READS IS OF BULK AT MOST 1048576: true; the input reads as it did. -/
def recordOrderUptoRow : OpenClaim := { program := "ytolpiklhnafnbaa", sum := "44f17489775bdb1284aabff6a2bea1ca9a48adcc57aa5cf36d831fc5f15b3ba6", func := "solenoid/solenoidlaw5.RecordOrder", spec := "recordOrder", inPlace := ["internal/bytealg.MakeNoZero"], apart := false, narrowed := true }
def RecordOrderUptoSaid : Prop := recordOrderUptoRow.holds Try.pinned (OpenSpec.upto recordOrderSpec)

/-- 'solenoidlaw5.RecordSpoilt', WHERE WHAT IT READS IS OF BULK AT MOST 1048576: true; the input reads as it did. -/
def recordSpoiltUptoRow : OpenClaim := { program := "ytolpiklhnafnbaa", sum := "44f17489775bdb1284aabff6a2bea1ca9a48adcc57aa5cf36d831fc5f15b3ba6", func := "solenoid/solenoidlaw5.RecordSpoilt", spec := "recordSpoilt", inPlace := ["internal/bytealg.MakeNoZero"], apart := false, narrowed := true }
def RecordSpoiltUptoSaid : Prop := recordSpoiltUptoRow.holds Try.pinned (OpenSpec.upto recordSpoiltSpec)

/-- 'solenoidlaw5.RecordRows', WHERE WHAT IT READS IS OF BULK AT MOST 1048576: true; the input reads as it did. -/
def recordRowsUptoRow : OpenClaim := { program := "ytolpiklhnafnbaa", sum := "44f17489775bdb1284aabff6a2bea1ca9a48adcc57aa5cf36d831fc5f15b3ba6", func := "solenoid/solenoidlaw5.RecordRows", spec := "recordRows", inPlace := ["internal/bytealg.MakeNoZero"], apart := false, narrowed := true }
def RecordRowsUptoSaid : Prop := recordRowsUptoRow.holds Try.pinned (OpenSpec.upto recordRowsSpec)

end Rows
end Go.Proofs.Ytolpiklhnafnbaa
