/-
  No cell of these rows narrows 'for every input' (looked for: loops, veiled, ifaces, maps, wideKeys, modest, calm, conditions, laid).
  DERIVED. THE GIVEN ROWS OF THIS SEAT. 7 by the template 'for every input the law returns true; each argument reads behind the call as it read before'; 0 by the template 'total and deterministic' (their statements: YtnpognhgncnnpaaTotals.lean).
  GIVEN WITH THE SEED: the statements are not yours to turn. If you find one false, say at which input.
  Laid BY PROGRAM, IN A SANDBOX (cutbox-rows.mjs): the forced cells as the released guide's own fill.sh prints them over the translation d64bb8be5cfb6196… (all of the seat's roots in one cut). By AI agents, Wed Nov 11 2026. No macro, syntax, notation, axiom, sorry.
-/
import Derived.Test.YtnpognhgncnnpaaChecked
import GoSem.Claim
import GoSem.ClaimJoined
import GoSem.ClaimMapViews
import Derived.JoinedTies
import Derived.KernelRfl
namespace Go.Proofs.Ytnpognhgncnnpaa
/- THE CELL 'sum', in the pinned program and in every row, IS THE sha256 OF THE DUMP (.gsa) THAT YtnpognhgncnnpaaProg.lean LOADS. Nothing in Lean hashes anything: it is a label: what it is worth is what the hold of that sum in a sandbox is worth. -/
noncomputable def Try.pinned : Pinned := { name := "ytnpognhgncnnpaa", sum := "d64bb8be5cfb6196a6f77edc41f18f55f8e94f2633c24d43ff248d1bdaa621a6", checked := Try.checked }
namespace Rows
def none {H : Type} : Left H := { results := [], args := [] }

/-- 'hogsheadlaw09.CellRecords': WHATEVER THE INPUT: true; the input reads as it did. -/
def cellRecordsSpec : ChangeSpec := { name := "cellRecords", fn := fun _ => fun
  | [d1, d2, d3] => { results := [.lit (.bool true)], args := [d1, d2, d3] }
  | _ => none }
def cellRecordsRow : OpenClaim := { program := "ytnpognhgncnnpaa", sum := "d64bb8be5cfb6196a6f77edc41f18f55f8e94f2633c24d43ff248d1bdaa621a6", func := "hogshead/hogsheadlaw09.CellRecords", spec := "cellRecords", unfollowed := true, recurses := true, apart := false }
def CellRecordsSaid : Prop := cellRecordsRow.holds Try.pinned (OpenSpec.ofChange cellRecordsSpec)

/-- ITS FALSE NEIGHBOUR: 'it returns false'. Refute it at one input. -/
def cellRecordsWrong : ChangeSpec := { name := "cellRecords", fn := fun _ => fun
  | [d1, d2, d3] => { results := [.lit (.bool false)], args := [d1, d2, d3] }
  | _ => none }
def CellRecordsWrongFalsely : Prop := cellRecordsRow.holds Try.pinned (OpenSpec.ofChange cellRecordsWrong)

/-- 'hogsheadlaw09.CellActs': WHATEVER THE INPUT: true; the input reads as it did. -/
def cellActsSpec : ChangeSpec := { name := "cellActs", fn := fun _ => fun
  | [d1, d2, d3] => { results := [.lit (.bool true)], args := [d1, d2, d3] }
  | _ => none }
def cellActsRow : OpenClaim := { program := "ytnpognhgncnnpaa", sum := "d64bb8be5cfb6196a6f77edc41f18f55f8e94f2633c24d43ff248d1bdaa621a6", func := "hogshead/hogsheadlaw09.CellActs", spec := "cellActs", unfollowed := true, recurses := true, apart := false }
def CellActsSaid : Prop := cellActsRow.holds Try.pinned (OpenSpec.ofChange cellActsSpec)

/-- ITS FALSE NEIGHBOUR: 'it returns false'. Refute it at one input. -/
def cellActsWrong : ChangeSpec := { name := "cellActs", fn := fun _ => fun
  | [d1, d2, d3] => { results := [.lit (.bool false)], args := [d1, d2, d3] }
  | _ => none }
def CellActsWrongFalsely : Prop := cellActsRow.holds Try.pinned (OpenSpec.ofChange cellActsWrong)

/-- 'hogsheadlaw09.CellReads': WHATEVER THE INPUT: true; the input reads as it did. -/
def cellReadsSpec : ChangeSpec := { name := "cellReads", fn := fun _ => fun
  | [d1, d2, d3] => { results := [.lit (.bool true)], args := [d1, d2, d3] }
  | _ => none }
def cellReadsRow : OpenClaim := { program := "ytnpognhgncnnpaa", sum := "d64bb8be5cfb6196a6f77edc41f18f55f8e94f2633c24d43ff248d1bdaa621a6", func := "hogshead/hogsheadlaw09.CellReads", spec := "cellReads", unfollowed := true, recurses := true, apart := false }
def CellReadsSaid : Prop := cellReadsRow.holds Try.pinned (OpenSpec.ofChange cellReadsSpec)

/-- ITS FALSE NEIGHBOUR: 'it returns false'. Refute it at one input. -/
def cellReadsWrong : ChangeSpec := { name := "cellReads", fn := fun _ => fun
  | [d1, d2, d3] => { results := [.lit (.bool false)], args := [d1, d2, d3] }
  | _ => none }
def CellReadsWrongFalsely : Prop := cellReadsRow.holds Try.pinned (OpenSpec.ofChange cellReadsWrong)

/-- 'hogsheadlaw09.CellLasts': WHATEVER THE INPUT: true; the input reads as it did. -/
def cellLastsSpec : ChangeSpec := { name := "cellLasts", fn := fun _ => fun
  | [d] => { results := [.lit (.bool true)], args := [d] }
  | _ => none }
def cellLastsRow : OpenClaim := { program := "ytnpognhgncnnpaa", sum := "d64bb8be5cfb6196a6f77edc41f18f55f8e94f2633c24d43ff248d1bdaa621a6", func := "hogshead/hogsheadlaw09.CellLasts", spec := "cellLasts", unfollowed := true, recurses := true, apart := false }
def CellLastsSaid : Prop := cellLastsRow.holds Try.pinned (OpenSpec.ofChange cellLastsSpec)

/-- ITS FALSE NEIGHBOUR: 'it returns false'. Refute it at one input. -/
def cellLastsWrong : ChangeSpec := { name := "cellLasts", fn := fun _ => fun
  | [d] => { results := [.lit (.bool false)], args := [d] }
  | _ => none }
def CellLastsWrongFalsely : Prop := cellLastsRow.holds Try.pinned (OpenSpec.ofChange cellLastsWrong)

/-- 'hogsheadlaw09.CellCut': WHATEVER THE INPUT: true; the input reads as it did. -/
def cellCutSpec : ChangeSpec := { name := "cellCut", fn := fun _ => fun
  | [d1, d2, d3] => { results := [.lit (.bool true)], args := [d1, d2, d3] }
  | _ => none }
def cellCutRow : OpenClaim := { program := "ytnpognhgncnnpaa", sum := "d64bb8be5cfb6196a6f77edc41f18f55f8e94f2633c24d43ff248d1bdaa621a6", func := "hogshead/hogsheadlaw09.CellCut", spec := "cellCut", unfollowed := true, recurses := true, apart := false }
def CellCutSaid : Prop := cellCutRow.holds Try.pinned (OpenSpec.ofChange cellCutSpec)

/-- ITS FALSE NEIGHBOUR: 'it returns false'. Refute it at one input. -/
def cellCutWrong : ChangeSpec := { name := "cellCut", fn := fun _ => fun
  | [d1, d2, d3] => { results := [.lit (.bool false)], args := [d1, d2, d3] }
  | _ => none }
def CellCutWrongFalsely : Prop := cellCutRow.holds Try.pinned (OpenSpec.ofChange cellCutWrong)

/-- 'hogsheadlaw09.CellApart': WHATEVER THE INPUT: true; the input reads as it did. -/
def cellApartSpec : ChangeSpec := { name := "cellApart", fn := fun _ => fun
  | [d] => { results := [.lit (.bool true)], args := [d] }
  | _ => none }
def cellApartRow : OpenClaim := { program := "ytnpognhgncnnpaa", sum := "d64bb8be5cfb6196a6f77edc41f18f55f8e94f2633c24d43ff248d1bdaa621a6", func := "hogshead/hogsheadlaw09.CellApart", spec := "cellApart", unfollowed := true, recurses := true, apart := false }
def CellApartSaid : Prop := cellApartRow.holds Try.pinned (OpenSpec.ofChange cellApartSpec)

/-- ITS FALSE NEIGHBOUR: 'it returns false'. Refute it at one input. -/
def cellApartWrong : ChangeSpec := { name := "cellApart", fn := fun _ => fun
  | [d] => { results := [.lit (.bool false)], args := [d] }
  | _ => none }
def CellApartWrongFalsely : Prop := cellApartRow.holds Try.pinned (OpenSpec.ofChange cellApartWrong)

/-- 'hogsheadlaw09.CellTurns': WHATEVER THE INPUT: true; the input reads as it did. -/
def cellTurnsSpec : ChangeSpec := { name := "cellTurns", fn := fun _ => fun
  | [d1, d2, d3] => { results := [.lit (.bool true)], args := [d1, d2, d3] }
  | _ => none }
def cellTurnsRow : OpenClaim := { program := "ytnpognhgncnnpaa", sum := "d64bb8be5cfb6196a6f77edc41f18f55f8e94f2633c24d43ff248d1bdaa621a6", func := "hogshead/hogsheadlaw09.CellTurns", spec := "cellTurns", unfollowed := true, recurses := true, apart := false }
def CellTurnsSaid : Prop := cellTurnsRow.holds Try.pinned (OpenSpec.ofChange cellTurnsSpec)

/-- ITS FALSE NEIGHBOUR: 'it returns false'. Refute it at one input. -/
def cellTurnsWrong : ChangeSpec := { name := "cellTurns", fn := fun _ => fun
  | [d1, d2, d3] => { results := [.lit (.bool false)], args := [d1, d2, d3] }
  | _ => none }
def CellTurnsWrongFalsely : Prop := cellTurnsRow.holds Try.pinned (OpenSpec.ofChange cellTurnsWrong)

/- THE SECOND FORM. 'bulk': how many values and letters a reading holds, each counted each time it is reached (what is shared counts as often as it is met; a slice's spare places count too). A statement '..UptoSaid' is the law's where the arguments, and the package variables that the reading takes, are together of bulk at most 1048576: NARROWER than '..Said'. Prove '..Said' where nothing that the law and all that it calls make is longer than what came in: it says more and counts as full. Else prove '..UptoSaid'. A law counts once. -/
mutual
def uptoBulk {H : Type} : DataW H → Nat
  | .lit (.string bytes) => bytes.length + 1
  | .lit _ => 1
  | .nil => 1
  | .ptr d => uptoBulk d + 1
  | .slice elems spare => uptoBulkAll elems + uptoBulkAll spare + 1
  | .agg parts => uptoBulkAll parts + 1
  | .iface _ d => uptoBulk d + 1
  | .map entries => uptoBulkEntries entries + 1
  | .held _ => 1
def uptoBulkAll {H : Type} : List (DataW H) → Nat
  | [] => 0
  | d :: r => uptoBulk d + uptoBulkAll r
def uptoBulkEntries {H : Type} : List (Lit × DataW H) → Nat
  | [] => 0
  | x :: r => uptoBulkEntry x + uptoBulkEntries r
def uptoBulkEntry {H : Type} : Lit × DataW H → Nat
  | (.string bytes, d) => bytes.length + uptoBulk d + 1
  | (_, d) => uptoBulk d + 1
 end
def uptoSmall : (H : Type) → List (DataW H) → Bool := fun _ ds => decide (uptoBulkAll ds ≤ 1048576)
def OpenSpec.upto (s : _root_.Go.ChangeSpec) : _root_.Go.OpenSpec := { _root_.Go.OpenSpec.ofChange s with cond := some uptoSmall }

/-- 'hogsheadlaw09.CellRecords', WHERE WHAT IT READS IS OF BULK AT MOST 1048576: true; the input reads as it did. -/
def cellRecordsUptoRow : OpenClaim := { program := "ytnpognhgncnnpaa", sum := "d64bb8be5cfb6196a6f77edc41f18f55f8e94f2633c24d43ff248d1bdaa621a6", func := "hogshead/hogsheadlaw09.CellRecords", spec := "cellRecords", unfollowed := true, recurses := true, apart := false, narrowed := true }
def CellRecordsUptoSaid : Prop := cellRecordsUptoRow.holds Try.pinned (OpenSpec.upto cellRecordsSpec)

/-- 'hogsheadlaw09.CellActs', WHERE WHAT IT READS IS OF BULK AT MOST 1048576: true; the input reads as it did. -/
def cellActsUptoRow : OpenClaim := { program := "ytnpognhgncnnpaa", sum := "d64bb8be5cfb6196a6f77edc41f18f55f8e94f2633c24d43ff248d1bdaa621a6", func := "hogshead/hogsheadlaw09.CellActs", spec := "cellActs", unfollowed := true, recurses := true, apart := false, narrowed := true }
def CellActsUptoSaid : Prop := cellActsUptoRow.holds Try.pinned (OpenSpec.upto cellActsSpec)

/-- 'hogsheadlaw09.CellReads', WHERE WHAT IT READS IS OF BULK AT MOST 1048576: true; the input reads as it did. -/
def cellReadsUptoRow : OpenClaim := { program := "ytnpognhgncnnpaa", sum := "d64bb8be5cfb6196a6f77edc41f18f55f8e94f2633c24d43ff248d1bdaa621a6", func := "hogshead/hogsheadlaw09.CellReads", spec := "cellReads", unfollowed := true, recurses := true, apart := false, narrowed := true }
def CellReadsUptoSaid : Prop := cellReadsUptoRow.holds Try.pinned (OpenSpec.upto cellReadsSpec)

/-- 'hogsheadlaw09.CellLasts', WHERE WHAT IT READS IS OF BULK AT MOST 1048576: true; the input reads as it did. -/
def cellLastsUptoRow : OpenClaim := { program := "ytnpognhgncnnpaa", sum := "d64bb8be5cfb6196a6f77edc41f18f55f8e94f2633c24d43ff248d1bdaa621a6", func := "hogshead/hogsheadlaw09.CellLasts", spec := "cellLasts", unfollowed := true, recurses := true, apart := false, narrowed := true }
def CellLastsUptoSaid : Prop := cellLastsUptoRow.holds Try.pinned (OpenSpec.upto cellLastsSpec)

/-- 'hogsheadlaw09.CellCut', WHERE WHAT IT READS IS OF BULK AT MOST 1048576: true; the input reads as it did. -/
def cellCutUptoRow : OpenClaim := { program := "ytnpognhgncnnpaa", sum := "d64bb8be5cfb6196a6f77edc41f18f55f8e94f2633c24d43ff248d1bdaa621a6", func := "hogshead/hogsheadlaw09.CellCut", spec := "cellCut", unfollowed := true, recurses := true, apart := false, narrowed := true }
def CellCutUptoSaid : Prop := cellCutUptoRow.holds Try.pinned (OpenSpec.upto cellCutSpec)

/-- 'hogsheadlaw09.CellApart', WHERE WHAT IT READS IS OF BULK AT MOST 1048576: true; the input reads as it did. -/
def cellApartUptoRow : OpenClaim := { program := "ytnpognhgncnnpaa", sum := "d64bb8be5cfb6196a6f77edc41f18f55f8e94f2633c24d43ff248d1bdaa621a6", func := "hogshead/hogsheadlaw09.CellApart", spec := "cellApart", unfollowed := true, recurses := true, apart := false, narrowed := true }
def CellApartUptoSaid : Prop := cellApartUptoRow.holds Try.pinned (OpenSpec.upto cellApartSpec)

/-- 'hogsheadlaw09.CellTurns', WHERE WHAT IT READS IS OF BULK AT MOST 1048576: true; the input reads as it did. -/
def cellTurnsUptoRow : OpenClaim := { program := "ytnpognhgncnnpaa", sum := "d64bb8be5cfb6196a6f77edc41f18f55f8e94f2633c24d43ff248d1bdaa621a6", func := "hogshead/hogsheadlaw09.CellTurns", spec := "cellTurns", unfollowed := true, recurses := true, apart := false, narrowed := true }
def CellTurnsUptoSaid : Prop := cellTurnsUptoRow.holds Try.pinned (OpenSpec.upto cellTurnsSpec)

end Rows
end Go.Proofs.Ytnpognhgncnnpaa
