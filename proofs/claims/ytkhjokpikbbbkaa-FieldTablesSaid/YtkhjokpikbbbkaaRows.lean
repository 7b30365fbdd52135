/-
  No cell of these rows narrows 'for every input' (looked for: loops, veiled, ifaces, maps, wideKeys, modest, calm, conditions, laid).
  DERIVED. THE GIVEN ROWS OF THIS SEAT. 8 by the template 'for every input the law returns true; each argument reads behind the call as it read before'; 0 by the template 'total and deterministic' (their statements: YtkhjokpikbbbkaaTotals.lean).
  GIVEN WITH THE SEED: the statements are not yours to turn. If you find one false, say at which input.
  Laid BY PROGRAM, IN A SANDBOX (cutbox-rows.mjs): the forced cells as the released guide's own fill.sh prints them over the translation 6c6530a3e38c79b6… (all of the seat's roots in one cut). By AI agents, Wed Nov 11 2026. No macro, syntax, notation, axiom, sorry.
-/
import Derived.Test.YtkhjokpikbbbkaaChecked
import GoSem.Claim
import GoSem.ClaimJoined
import GoSem.ClaimMapViews
import Derived.JoinedTies
import Derived.KernelRfl
namespace Go.Proofs.Ytkhjokpikbbbkaa
/- THE CELL 'sum', in the pinned program and in every row, IS THE sha256 OF THE DUMP (.gsa) THAT YtkhjokpikbbbkaaProg.lean LOADS. Nothing in Lean hashes anything: it is a label: what it is worth is what the hold of that sum in a sandbox is worth. -/
noncomputable def Try.pinned : Pinned := { name := "ytkhjokpikbbbkaa", sum := "6c6530a3e38c79b65b9275fa26f760635a419e048902fd4d5bc3617cc9b88c84", checked := Try.checked }
namespace Rows
def none {H : Type} : Left H := { results := [], args := [] }

/-- 'hogsheadlaw03.FieldMuls': WHATEVER THE INPUT: true; the input reads as it did. -/
def fieldMulsSpec : ChangeSpec := { name := "fieldMuls", fn := fun _ => fun
  | [d1, d2, d3] => { results := [.lit (.bool true)], args := [d1, d2, d3] }
  | _ => none }
def fieldMulsRow : OpenClaim := { program := "ytkhjokpikbbbkaa", sum := "6c6530a3e38c79b65b9275fa26f760635a419e048902fd4d5bc3617cc9b88c84", func := "hogshead/hogsheadlaw03.FieldMuls", spec := "fieldMuls", apart := false }
def FieldMulsSaid : Prop := fieldMulsRow.holds Try.pinned (OpenSpec.ofChange fieldMulsSpec)

/-- ITS FALSE NEIGHBOUR: 'it returns false'. Refute it at one input. -/
def fieldMulsWrong : ChangeSpec := { name := "fieldMuls", fn := fun _ => fun
  | [d1, d2, d3] => { results := [.lit (.bool false)], args := [d1, d2, d3] }
  | _ => none }
def FieldMulsWrongFalsely : Prop := fieldMulsRow.holds Try.pinned (OpenSpec.ofChange fieldMulsWrong)

/-- 'hogsheadlaw03.FieldInvs': WHATEVER THE INPUT: true; the input reads as it did. -/
def fieldInvsSpec : ChangeSpec := { name := "fieldInvs", fn := fun _ => fun
  | [d1, d2] => { results := [.lit (.bool true)], args := [d1, d2] }
  | _ => none }
def fieldInvsRow : OpenClaim := { program := "ytkhjokpikbbbkaa", sum := "6c6530a3e38c79b65b9275fa26f760635a419e048902fd4d5bc3617cc9b88c84", func := "hogshead/hogsheadlaw03.FieldInvs", spec := "fieldInvs", apart := false }
def FieldInvsSaid : Prop := fieldInvsRow.holds Try.pinned (OpenSpec.ofChange fieldInvsSpec)

/-- ITS FALSE NEIGHBOUR: 'it returns false'. Refute it at one input. -/
def fieldInvsWrong : ChangeSpec := { name := "fieldInvs", fn := fun _ => fun
  | [d1, d2] => { results := [.lit (.bool false)], args := [d1, d2] }
  | _ => none }
def FieldInvsWrongFalsely : Prop := fieldInvsRow.holds Try.pinned (OpenSpec.ofChange fieldInvsWrong)

/-- 'hogsheadlaw03.FieldTables': WHATEVER THE INPUT: true; the input reads as it did. -/
def fieldTablesSpec : ChangeSpec := { name := "fieldTables", fn := fun _ => fun
  | [d] => { results := [.lit (.bool true)], args := [d] }
  | _ => none }
def fieldTablesRow : OpenClaim := { program := "ytkhjokpikbbbkaa", sum := "6c6530a3e38c79b65b9275fa26f760635a419e048902fd4d5bc3617cc9b88c84", func := "hogshead/hogsheadlaw03.FieldTables", spec := "fieldTables", apart := false }
def FieldTablesSaid : Prop := fieldTablesRow.holds Try.pinned (OpenSpec.ofChange fieldTablesSpec)

/-- ITS FALSE NEIGHBOUR: 'it returns false'. Refute it at one input. -/
def fieldTablesWrong : ChangeSpec := { name := "fieldTables", fn := fun _ => fun
  | [d] => { results := [.lit (.bool false)], args := [d] }
  | _ => none }
def FieldTablesWrongFalsely : Prop := fieldTablesRow.holds Try.pinned (OpenSpec.ofChange fieldTablesWrong)

/-- 'hogsheadlaw03.FieldRing': WHATEVER THE INPUT: true; the input reads as it did. -/
def fieldRingSpec : ChangeSpec := { name := "fieldRing", fn := fun _ => fun
  | [d1, d2, d3] => { results := [.lit (.bool true)], args := [d1, d2, d3] }
  | _ => none }
def fieldRingRow : OpenClaim := { program := "ytkhjokpikbbbkaa", sum := "6c6530a3e38c79b65b9275fa26f760635a419e048902fd4d5bc3617cc9b88c84", func := "hogshead/hogsheadlaw03.FieldRing", spec := "fieldRing", apart := false }
def FieldRingSaid : Prop := fieldRingRow.holds Try.pinned (OpenSpec.ofChange fieldRingSpec)

/-- ITS FALSE NEIGHBOUR: 'it returns false'. Refute it at one input. -/
def fieldRingWrong : ChangeSpec := { name := "fieldRing", fn := fun _ => fun
  | [d1, d2, d3] => { results := [.lit (.bool false)], args := [d1, d2, d3] }
  | _ => none }
def FieldRingWrongFalsely : Prop := fieldRingRow.holds Try.pinned (OpenSpec.ofChange fieldRingWrong)

/-- 'hogsheadlaw03.FieldOne': WHATEVER THE INPUT: true; the input reads as it did. -/
def fieldOneSpec : ChangeSpec := { name := "fieldOne", fn := fun _ => fun
  | [d1, d2] => { results := [.lit (.bool true)], args := [d1, d2] }
  | _ => none }
def fieldOneRow : OpenClaim := { program := "ytkhjokpikbbbkaa", sum := "6c6530a3e38c79b65b9275fa26f760635a419e048902fd4d5bc3617cc9b88c84", func := "hogshead/hogsheadlaw03.FieldOne", spec := "fieldOne", apart := false }
def FieldOneSaid : Prop := fieldOneRow.holds Try.pinned (OpenSpec.ofChange fieldOneSpec)

/-- ITS FALSE NEIGHBOUR: 'it returns false'. Refute it at one input. -/
def fieldOneWrong : ChangeSpec := { name := "fieldOne", fn := fun _ => fun
  | [d1, d2] => { results := [.lit (.bool false)], args := [d1, d2] }
  | _ => none }
def FieldOneWrongFalsely : Prop := fieldOneRow.holds Try.pinned (OpenSpec.ofChange fieldOneWrong)

/-- 'hogsheadlaw03.FieldPows': WHATEVER THE INPUT: true; the input reads as it did. -/
def fieldPowsSpec : ChangeSpec := { name := "fieldPows", fn := fun _ => fun
  | [d1, d2, d3] => { results := [.lit (.bool true)], args := [d1, d2, d3] }
  | _ => none }
def fieldPowsRow : OpenClaim := { program := "ytkhjokpikbbbkaa", sum := "6c6530a3e38c79b65b9275fa26f760635a419e048902fd4d5bc3617cc9b88c84", func := "hogshead/hogsheadlaw03.FieldPows", spec := "fieldPows", apart := false }
def FieldPowsSaid : Prop := fieldPowsRow.holds Try.pinned (OpenSpec.ofChange fieldPowsSpec)

/-- ITS FALSE NEIGHBOUR: 'it returns false'. Refute it at one input. -/
def fieldPowsWrong : ChangeSpec := { name := "fieldPows", fn := fun _ => fun
  | [d1, d2, d3] => { results := [.lit (.bool false)], args := [d1, d2, d3] }
  | _ => none }
def FieldPowsWrongFalsely : Prop := fieldPowsRow.holds Try.pinned (OpenSpec.ofChange fieldPowsWrong)

/-- 'hogsheadlaw03.FieldLogs': WHATEVER THE INPUT: true; the input reads as it did. -/
def fieldLogsSpec : ChangeSpec := { name := "fieldLogs", fn := fun _ => fun
  | [d1, d2] => { results := [.lit (.bool true)], args := [d1, d2] }
  | _ => none }
def fieldLogsRow : OpenClaim := { program := "ytkhjokpikbbbkaa", sum := "6c6530a3e38c79b65b9275fa26f760635a419e048902fd4d5bc3617cc9b88c84", func := "hogshead/hogsheadlaw03.FieldLogs", spec := "fieldLogs", apart := false }
def FieldLogsSaid : Prop := fieldLogsRow.holds Try.pinned (OpenSpec.ofChange fieldLogsSpec)

/-- ITS FALSE NEIGHBOUR: 'it returns false'. Refute it at one input. -/
def fieldLogsWrong : ChangeSpec := { name := "fieldLogs", fn := fun _ => fun
  | [d1, d2] => { results := [.lit (.bool false)], args := [d1, d2] }
  | _ => none }
def FieldLogsWrongFalsely : Prop := fieldLogsRow.holds Try.pinned (OpenSpec.ofChange fieldLogsWrong)

/-- 'hogsheadlaw03.FieldGenerates': WHATEVER THE INPUT: true; the input reads as it did. -/
def fieldGeneratesSpec : ChangeSpec := { name := "fieldGenerates", fn := fun _ => fun
  | [d1, d2] => { results := [.lit (.bool true)], args := [d1, d2] }
  | _ => none }
def fieldGeneratesRow : OpenClaim := { program := "ytkhjokpikbbbkaa", sum := "6c6530a3e38c79b65b9275fa26f760635a419e048902fd4d5bc3617cc9b88c84", func := "hogshead/hogsheadlaw03.FieldGenerates", spec := "fieldGenerates", apart := false }
def FieldGeneratesSaid : Prop := fieldGeneratesRow.holds Try.pinned (OpenSpec.ofChange fieldGeneratesSpec)

/-- ITS FALSE NEIGHBOUR: 'it returns false'. Refute it at one input. -/
def fieldGeneratesWrong : ChangeSpec := { name := "fieldGenerates", fn := fun _ => fun
  | [d1, d2] => { results := [.lit (.bool false)], args := [d1, d2] }
  | _ => none }
def FieldGeneratesWrongFalsely : Prop := fieldGeneratesRow.holds Try.pinned (OpenSpec.ofChange fieldGeneratesWrong)

/- THE SECOND FORM. 'bulk': how many values and letters a reading holds, each counted each time it is reached (what is shared counts as often as it is met; a slice's spare places count too). A statement '..UptoSaid' is the law's where the arguments, and the package variables that the reading takes, are together of bulk at most 1048576: NARROWER than '..Said'. Prove '..Said' where nothing that the law and all that it calls make is longer than what came in: it says more and counts as full. Else prove '..UptoSaid'. A law counts once. -/
mutual
def uptoBulk {H : Type} : DataW H → Nat
  | .lit (.string bytes) => bytes.length + 1
  | .lit _ => 1
  | .nil => 1
  | .ptr d => uptoBulk d + 1
  | .slice elems spare => uptoBulkAll elems + uptoBulkAll spare + 1
  | .agg parts => uptoBulkAll parts + 1
  | .iface _ d => uptoBulk d + 1
  | .map entries => uptoBulkEntries entries + 1
  | .held _ => 1
def uptoBulkAll {H : Type} : List (DataW H) → Nat
  | [] => 0
  | d :: r => uptoBulk d + uptoBulkAll r
def uptoBulkEntries {H : Type} : List (Lit × DataW H) → Nat
  | [] => 0
  | x :: r => uptoBulkEntry x + uptoBulkEntries r
def uptoBulkEntry {H : Type} : Lit × DataW H → Nat
  | (.string bytes, d) => bytes.length + uptoBulk d + 1
  | (_, d) => uptoBulk d + 1
 end
def uptoSmall : (H : Type) → List (DataW H) → Bool := fun _ ds => decide (uptoBulkAll ds ≤ 1048576)
def OpenSpec.upto (s : _root_.Go.ChangeSpec) : _root_.Go.OpenSpec := { _root_.Go.OpenSpec.ofChange s with cond := some uptoSmall }

/-- 'hogsheadlaw03.FieldMuls', WHERE WHAT IT READS IS OF BULK AT MOST 1048576: true; the input reads as it did. -/
def fieldMulsUptoRow : OpenClaim := { program := "ytkhjokpikbbbkaa", sum := "6c6530a3e38c79b65b9275fa26f760635a419e048902fd4d5bc3617cc9b88c84", func := "hogshead/hogsheadlaw03.FieldMuls", spec := "fieldMuls", apart := false, narrowed := true }
def FieldMulsUptoSaid : Prop := fieldMulsUptoRow.holds Try.pinned (OpenSpec.upto fieldMulsSpec)

/-- 'hogsheadlaw03.FieldInvs', WHERE WHAT IT READS IS OF BULK AT MOST 1048576: true; the input reads as it did. -/
def fieldInvsUptoRow : OpenClaim := { program := "ytkhjokpikbbbkaa", sum := "6c6530a3e38c79b65b9275fa26f760635a419e048902fd4d5bc3617cc9b88c84", func := "hogshead/hogsheadlaw03.FieldInvs", spec := "fieldInvs", apart := false, narrowed := true }
def FieldInvsUptoSaid : Prop := fieldInvsUptoRow.holds Try.pinned (OpenSpec.upto fieldInvsSpec)

/-- 'hogsheadlaw03.FieldTables', WHERE WHAT IT READS IS OF BULK AT MOST 1048576: true; the input reads as it did. -/
def fieldTablesUptoRow : OpenClaim := { program := "ytkhjokpikbbbkaa", sum := "6c6530a3e38c79b65b9275fa26f760635a419e048902fd4d5bc3617cc9b88c84", func := "hogshead/hogsheadlaw03.FieldTables", spec := "fieldTables", apart := false, narrowed := true }
def FieldTablesUptoSaid : Prop := fieldTablesUptoRow.holds Try.pinned (OpenSpec.upto fieldTablesSpec)

/-- 'hogsheadlaw03.FieldRing', WHERE WHAT IT READS IS OF BULK AT MOST 1048576: true; the input reads as it did. -/
def fieldRingUptoRow : OpenClaim := { program := "ytkhjokpikbbbkaa", sum := "6c6530a3e38c79b65b9275fa26f760635a419e048902fd4d5bc3617cc9b88c84", func := "hogshead/hogsheadlaw03.FieldRing", spec := "fieldRing", apart := false, narrowed := true }
def FieldRingUptoSaid : Prop := fieldRingUptoRow.holds Try.pinned (OpenSpec.upto fieldRingSpec)

/-- 'hogsheadlaw03.FieldOne', WHERE WHAT IT READS IS OF BULK AT MOST 1048576: true; the input reads as it did. -/
def fieldOneUptoRow : OpenClaim := { program := "ytkhjokpikbbbkaa", sum := "6c6530a3e38c79b65b9275fa26f760635a419e048902fd4d5bc3617cc9b88c84", func := "hogshead/hogsheadlaw03.FieldOne", spec := "fieldOne", apart := false, narrowed := true }
def FieldOneUptoSaid : Prop := fieldOneUptoRow.holds Try.pinned (OpenSpec.upto fieldOneSpec)

/-- 'hogsheadlaw03.FieldPows', WHERE WHAT IT READS IS OF BULK AT MOST 1048576: true; the input reads as it did. -/
def fieldPowsUptoRow : OpenClaim := { program := "ytkhjokpikbbbkaa", sum := "6c6530a3e38c79b65b9275fa26f760635a419e048902fd4d5bc3617cc9b88c84", func := "hogshead/hogsheadlaw03.FieldPows", spec := "fieldPows", apart := false, narrowed := true }
def FieldPowsUptoSaid : Prop := fieldPowsUptoRow.holds Try.pinned (OpenSpec.upto fieldPowsSpec)

/-- 'hogsheadlaw03.FieldLogs', WHERE WHAT IT READS IS OF BULK AT MOST 1048576: true; the input reads as it did. -/
def fieldLogsUptoRow : OpenClaim := { program := "ytkhjokpikbbbkaa", sum := "6c6530a3e38c79b65b9275fa26f760635a419e048902fd4d5bc3617cc9b88c84", func := "hogshead/hogsheadlaw03.FieldLogs", spec := "fieldLogs", apart := false, narrowed := true }
def FieldLogsUptoSaid : Prop := fieldLogsUptoRow.holds Try.pinned (OpenSpec.upto fieldLogsSpec)

/-- 'hogsheadlaw03.FieldGenerates', WHERE WHAT IT READS IS OF BULK AT MOST 1048576: true; the input reads as it did. -/
def fieldGeneratesUptoRow : OpenClaim := { program := "ytkhjokpikbbbkaa", sum := "6c6530a3e38c79b65b9275fa26f760635a419e048902fd4d5bc3617cc9b88c84", func := "hogshead/hogsheadlaw03.FieldGenerates", spec := "fieldGenerates", apart := false, narrowed := true }
def FieldGeneratesUptoSaid : Prop := fieldGeneratesUptoRow.holds Try.pinned (OpenSpec.upto fieldGeneratesSpec)

end Rows
end Go.Proofs.Ytkhjokpikbbbkaa
