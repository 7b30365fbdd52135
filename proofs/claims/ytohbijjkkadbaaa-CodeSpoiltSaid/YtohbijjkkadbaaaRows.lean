/-
  No cell of these rows narrows 'for every input' (looked for: loops, veiled, ifaces, maps, wideKeys, modest, calm, conditions, laid).
  DERIVED. THE GIVEN ROWS OF THIS SEAT. 8 by the template 'for every input the law returns true; each argument reads behind the call as it read before'; 0 by the template 'total and deterministic' (their statements: YtohbijjkkadbaaaTotals.lean).
  GIVEN WITH THE SEED: the statements are not yours to turn. If you find one false, say at which input.
  Laid BY PROGRAM, IN A SANDBOX (cutbox-rows.mjs): the forced cells as the released guide's own fill.sh prints them over the translation c47831ed956f33e8… (all of the seat's roots in one cut). By AI agents, Wed Nov 11 2026. No macro, syntax, notation, axiom, sorry.
-/
import Derived.Test.YtohbijjkkadbaaaChecked
import GoSem.Claim
import GoSem.ClaimJoined
import GoSem.ClaimMapViews
import Derived.JoinedTies
import Derived.KernelRfl
namespace Go.Proofs.Ytohbijjkkadbaaa
/- THE CELL 'sum', in the pinned program and in every row, IS THE sha256 OF THE DUMP (.gsa) THAT YtohbijjkkadbaaaProg.lean LOADS. Nothing in Lean hashes anything: it is a label: what it is worth is what the hold of that sum in a sandbox is worth. -/
noncomputable def Try.pinned : Pinned := { name := "ytohbijjkkadbaaa", sum := "c47831ed956f33e889cfde6d4697f99a052db5b882b3b86c7e1735d39d9f9ccf", checked := Try.checked }
namespace Rows
def none {H : Type} : Left H := { results := [], args := [] }

/-- 'hogsheadlaw05.CodeTables': WHATEVER THE INPUT: true; the input reads as it did. -/
def codeTablesSpec : ChangeSpec := { name := "codeTables", fn := fun _ => fun
  | [d1, d2] => { results := [.lit (.bool true)], args := [d1, d2] }
  | _ => none }
def codeTablesRow : OpenClaim := { program := "ytohbijjkkadbaaa", sum := "c47831ed956f33e889cfde6d4697f99a052db5b882b3b86c7e1735d39d9f9ccf", func := "hogshead/hogsheadlaw05.CodeTables", spec := "codeTables", unfollowed := true, recurses := true, apart := false }
def CodeTablesSaid : Prop := codeTablesRow.holds Try.pinned (OpenSpec.ofChange codeTablesSpec)

/-- ITS FALSE NEIGHBOUR: 'it returns false'. Refute it at one input. -/
def codeTablesWrong : ChangeSpec := { name := "codeTables", fn := fun _ => fun
  | [d1, d2] => { results := [.lit (.bool false)], args := [d1, d2] }
  | _ => none }
def CodeTablesWrongFalsely : Prop := codeTablesRow.holds Try.pinned (OpenSpec.ofChange codeTablesWrong)

/-- 'hogsheadlaw05.CodeEncodes': WHATEVER THE INPUT: true; the input reads as it did. -/
def codeEncodesSpec : ChangeSpec := { name := "codeEncodes", fn := fun _ => fun
  | [d1, d2, d3] => { results := [.lit (.bool true)], args := [d1, d2, d3] }
  | _ => none }
def codeEncodesRow : OpenClaim := { program := "ytohbijjkkadbaaa", sum := "c47831ed956f33e889cfde6d4697f99a052db5b882b3b86c7e1735d39d9f9ccf", func := "hogshead/hogsheadlaw05.CodeEncodes", spec := "codeEncodes", unfollowed := true, recurses := true, apart := false }
def CodeEncodesSaid : Prop := codeEncodesRow.holds Try.pinned (OpenSpec.ofChange codeEncodesSpec)

/-- ITS FALSE NEIGHBOUR: 'it returns false'. Refute it at one input. -/
def codeEncodesWrong : ChangeSpec := { name := "codeEncodes", fn := fun _ => fun
  | [d1, d2, d3] => { results := [.lit (.bool false)], args := [d1, d2, d3] }
  | _ => none }
def CodeEncodesWrongFalsely : Prop := codeEncodesRow.holds Try.pinned (OpenSpec.ofChange codeEncodesWrong)

/-- 'hogsheadlaw05.CodeRebuilds': WHATEVER THE INPUT: true; the input reads as it did. -/
def codeRebuildsSpec : ChangeSpec := { name := "codeRebuilds", fn := fun _ => fun
  | [d1, d2, d3] => { results := [.lit (.bool true)], args := [d1, d2, d3] }
  | _ => none }
def codeRebuildsRow : OpenClaim := { program := "ytohbijjkkadbaaa", sum := "c47831ed956f33e889cfde6d4697f99a052db5b882b3b86c7e1735d39d9f9ccf", func := "hogshead/hogsheadlaw05.CodeRebuilds", spec := "codeRebuilds", unfollowed := true, recurses := true, apart := false }
def CodeRebuildsSaid : Prop := codeRebuildsRow.holds Try.pinned (OpenSpec.ofChange codeRebuildsSpec)

/-- ITS FALSE NEIGHBOUR: 'it returns false'. Refute it at one input. -/
def codeRebuildsWrong : ChangeSpec := { name := "codeRebuilds", fn := fun _ => fun
  | [d1, d2, d3] => { results := [.lit (.bool false)], args := [d1, d2, d3] }
  | _ => none }
def CodeRebuildsWrongFalsely : Prop := codeRebuildsRow.holds Try.pinned (OpenSpec.ofChange codeRebuildsWrong)

/-- 'hogsheadlaw05.CodeAny': WHATEVER THE INPUT: true; the input reads as it did. -/
def codeAnySpec : ChangeSpec := { name := "codeAny", fn := fun _ => fun
  | [d] => { results := [.lit (.bool true)], args := [d] }
  | _ => none }
def codeAnyRow : OpenClaim := { program := "ytohbijjkkadbaaa", sum := "c47831ed956f33e889cfde6d4697f99a052db5b882b3b86c7e1735d39d9f9ccf", func := "hogshead/hogsheadlaw05.CodeAny", spec := "codeAny", unfollowed := true, recurses := true, apart := false }
def CodeAnySaid : Prop := codeAnyRow.holds Try.pinned (OpenSpec.ofChange codeAnySpec)

/-- ITS FALSE NEIGHBOUR: 'it returns false'. Refute it at one input. -/
def codeAnyWrong : ChangeSpec := { name := "codeAny", fn := fun _ => fun
  | [d] => { results := [.lit (.bool false)], args := [d] }
  | _ => none }
def CodeAnyWrongFalsely : Prop := codeAnyRow.holds Try.pinned (OpenSpec.ofChange codeAnyWrong)

/-- 'hogsheadlaw05.CodeOrder': WHATEVER THE INPUT: true; the input reads as it did. -/
def codeOrderSpec : ChangeSpec := { name := "codeOrder", fn := fun _ => fun
  | [d1, d2, d3] => { results := [.lit (.bool true)], args := [d1, d2, d3] }
  | _ => none }
def codeOrderRow : OpenClaim := { program := "ytohbijjkkadbaaa", sum := "c47831ed956f33e889cfde6d4697f99a052db5b882b3b86c7e1735d39d9f9ccf", func := "hogshead/hogsheadlaw05.CodeOrder", spec := "codeOrder", unfollowed := true, recurses := true, apart := false }
def CodeOrderSaid : Prop := codeOrderRow.holds Try.pinned (OpenSpec.ofChange codeOrderSpec)

/-- ITS FALSE NEIGHBOUR: 'it returns false'. Refute it at one input. -/
def codeOrderWrong : ChangeSpec := { name := "codeOrder", fn := fun _ => fun
  | [d1, d2, d3] => { results := [.lit (.bool false)], args := [d1, d2, d3] }
  | _ => none }
def CodeOrderWrongFalsely : Prop := codeOrderRow.holds Try.pinned (OpenSpec.ofChange codeOrderWrong)

/-- 'hogsheadlaw05.CodeSums': WHATEVER THE INPUT: true; the input reads as it did. -/
def codeSumsSpec : ChangeSpec := { name := "codeSums", fn := fun _ => fun
  | [d] => { results := [.lit (.bool true)], args := [d] }
  | _ => none }
def codeSumsRow : OpenClaim := { program := "ytohbijjkkadbaaa", sum := "c47831ed956f33e889cfde6d4697f99a052db5b882b3b86c7e1735d39d9f9ccf", func := "hogshead/hogsheadlaw05.CodeSums", spec := "codeSums", unfollowed := true, recurses := true, apart := false }
def CodeSumsSaid : Prop := codeSumsRow.holds Try.pinned (OpenSpec.ofChange codeSumsSpec)

/-- ITS FALSE NEIGHBOUR: 'it returns false'. Refute it at one input. -/
def codeSumsWrong : ChangeSpec := { name := "codeSums", fn := fun _ => fun
  | [d] => { results := [.lit (.bool false)], args := [d] }
  | _ => none }
def CodeSumsWrongFalsely : Prop := codeSumsRow.holds Try.pinned (OpenSpec.ofChange codeSumsWrong)

/-- 'hogsheadlaw05.CodeSpoilt': WHATEVER THE INPUT: true; the input reads as it did. -/
def codeSpoiltSpec : ChangeSpec := { name := "codeSpoilt", fn := fun _ => fun
  | [d] => { results := [.lit (.bool true)], args := [d] }
  | _ => none }
def codeSpoiltRow : OpenClaim := { program := "ytohbijjkkadbaaa", sum := "c47831ed956f33e889cfde6d4697f99a052db5b882b3b86c7e1735d39d9f9ccf", func := "hogshead/hogsheadlaw05.CodeSpoilt", spec := "codeSpoilt", unfollowed := true, recurses := true, apart := false }
def CodeSpoiltSaid : Prop := codeSpoiltRow.holds Try.pinned (OpenSpec.ofChange codeSpoiltSpec)

/-- ITS FALSE NEIGHBOUR: 'it returns false'. Refute it at one input. -/
def codeSpoiltWrong : ChangeSpec := { name := "codeSpoilt", fn := fun _ => fun
  | [d] => { results := [.lit (.bool false)], args := [d] }
  | _ => none }
def CodeSpoiltWrongFalsely : Prop := codeSpoiltRow.holds Try.pinned (OpenSpec.ofChange codeSpoiltWrong)

/-- 'hogsheadlaw05.CodeOne': WHATEVER THE INPUT: true; the input reads as it did. -/
def codeOneSpec : ChangeSpec := { name := "codeOne", fn := fun _ => fun
  | [d1, d2] => { results := [.lit (.bool true)], args := [d1, d2] }
  | _ => none }
def codeOneRow : OpenClaim := { program := "ytohbijjkkadbaaa", sum := "c47831ed956f33e889cfde6d4697f99a052db5b882b3b86c7e1735d39d9f9ccf", func := "hogshead/hogsheadlaw05.CodeOne", spec := "codeOne", unfollowed := true, recurses := true, apart := false }
def CodeOneSaid : Prop := codeOneRow.holds Try.pinned (OpenSpec.ofChange codeOneSpec)

/-- ITS FALSE NEIGHBOUR: 'it returns false'. Refute it at one input. -/
def codeOneWrong : ChangeSpec := { name := "codeOne", fn := fun _ => fun
  | [d1, d2] => { results := [.lit (.bool false)], args := [d1, d2] }
  | _ => none }
def CodeOneWrongFalsely : Prop := codeOneRow.holds Try.pinned (OpenSpec.ofChange codeOneWrong)

/- THE SECOND FORM. 'bulk': how many values and letters a reading holds, each counted each time it is reached (what is shared counts as often as it is met; a slice's spare places count too). A statement '..UptoSaid' is the law's where the arguments, and the package variables that the reading takes, are together of bulk at most 1048576: NARROWER than '..Said'. Prove '..Said' where nothing that the law and all that it calls make is longer than what came in: it says more and counts as full. Else prove '..UptoSaid'. A law counts once. -/
mutual
def uptoBulk {H : Type} : DataW H → Nat
  | .lit (.string bytes) => bytes.length + 1
  | .lit _ => 1
  | .nil => 1
  | .ptr d => uptoBulk d + 1
  | .slice elems spare => uptoBulkAll elems + uptoBulkAll spare + 1
  | .agg parts => uptoBulkAll parts + 1
  | .iface _ d => uptoBulk d + 1
  | .map entries => uptoBulkEntries entries + 1
  | .held _ => 1
def uptoBulkAll {H : Type} : List (DataW H) → Nat
  | [] => 0
  | d :: r => uptoBulk d + uptoBulkAll r
def uptoBulkEntries {H : Type} : List (Lit × DataW H) → Nat
  | [] => 0
  | x :: r => uptoBulkEntry x + uptoBulkEntries r
def uptoBulkEntry {H : Type} : Lit × DataW H → Nat
  | (.string bytes, d) => bytes.length + uptoBulk d + 1
  | (_, d) => uptoBulk d + 1
 end
def uptoSmall : (H : Type) → List (DataW H) → Bool := fun _ ds => decide (uptoBulkAll ds ≤ 1048576)
def OpenSpec.upto (s : _root_.Go.ChangeSpec) : _root_.Go.OpenSpec := { _root_.Go.OpenSpec.ofChange s with cond := some uptoSmall }

/-- 'hogsheadlaw05.CodeTables', WHERE WHAT IT READS IS OF BULK AT MOST 1048576: true; the input reads as it did. -/
def codeTablesUptoRow : OpenClaim := { program := "ytohbijjkkadbaaa", sum := "c47831ed956f33e889cfde6d4697f99a052db5b882b3b86c7e1735d39d9f9ccf", func := "hogshead/hogsheadlaw05.CodeTables", spec := "codeTables", unfollowed := true, recurses := true, apart := false, narrowed := true }
def CodeTablesUptoSaid : Prop := codeTablesUptoRow.holds Try.pinned (OpenSpec.upto codeTablesSpec)

/-- 'hogsheadlaw05.CodeEncodes', WHERE WHAT IT READS IS OF BULK AT MOST 1048576: true; the input reads as it did. -/
def codeEncodesUptoRow : OpenClaim := { program := "ytohbijjkkadbaaa", sum := "c47831ed956f33e889cfde6d4697f99a052db5b882b3b86c7e1735d39d9f9ccf", func := "hogshead/hogsheadlaw05.CodeEncodes", spec := "codeEncodes", unfollowed := true, recurses := true, apart := false, narrowed := true }
def CodeEncodesUptoSaid : Prop := codeEncodesUptoRow.holds Try.pinned (OpenSpec.upto codeEncodesSpec)

/-- 'hogsheadlaw05.CodeRebuilds', WHERE WHAT IT READS IS OF BULK AT MOST 1048576: true; the input reads as it did. -/
def codeRebuildsUptoRow : OpenClaim := { program := "ytohbijjkkadbaaa", sum := "c47831ed956f33e889cfde6d4697f99a052db5b882b3b86c7e1735d39d9f9ccf", func := "hogshead/hogsheadlaw05.CodeRebuilds", spec := "codeRebuilds", unfollowed := true, recurses := true, apart := false, narrowed := true }
def CodeRebuildsUptoSaid : Prop := codeRebuildsUptoRow.holds Try.pinned (OpenSpec.upto codeRebuildsSpec)

/-- 'hogsheadlaw05.CodeAny', WHERE WHAT IT READS IS OF BULK AT MOST 1048576: true; the input reads as it did. -/
def codeAnyUptoRow : OpenClaim := { program := "ytohbijjkkadbaaa", sum := "c47831ed956f33e889cfde6d4697f99a052db5b882b3b86c7e1735d39d9f9ccf", func := "hogshead/hogsheadlaw05.CodeAny", spec := "codeAny", unfollowed := true, recurses := true, apart := false, narrowed := true }
def CodeAnyUptoSaid : Prop := codeAnyUptoRow.holds Try.pinned (OpenSpec.upto codeAnySpec)

/-- 'hogsheadlaw05.CodeOrder', WHERE WHAT IT READS IS OF BULK AT MOST 1048576: true; the input reads as it did. -/
def codeOrderUptoRow : OpenClaim := { program := "ytohbijjkkadbaaa", sum := "c47831ed956f33e889cfde6d4697f99a052db5b882b3b86c7e1735d39d9f9ccf", func := "hogshead/hogsheadlaw05.CodeOrder", spec := "codeOrder", unfollowed := true, recurses := true, apart := false, narrowed := true }
def CodeOrderUptoSaid : Prop := codeOrderUptoRow.holds Try.pinned (OpenSpec.upto codeOrderSpec)

/-- 'hogsheadlaw05.CodeSums', WHERE WHAT IT READS IS OF BULK AT MOST 1048576: true; the input reads as it did. -/
def codeSumsUptoRow : OpenClaim := { program := "ytohbijjkkadbaaa", sum := "c47831ed956f33e889cfde6d4697f99a052db5b882b3b86c7e1735d39d9f9ccf", func := "hogshead/hogsheadlaw05.CodeSums", spec := "codeSums", unfollowed := true, recurses := true, apart := false, narrowed := true }
def CodeSumsUptoSaid : Prop := codeSumsUptoRow.holds Try.pinned (OpenSpec.upto codeSumsSpec)

/-- 'hogsheadlaw05.CodeSpoilt', WHERE WHAT IT READS IS OF BULK AT MOST 1048576: true; the input reads as it did. -/
def codeSpoiltUptoRow : OpenClaim := { program := "ytohbijjkkadbaaa", sum := "c47831ed956f33e889cfde6d4697f99a052db5b882b3b86c7e1735d39d9f9ccf", func := "hogshead/hogsheadlaw05.CodeSpoilt", spec := "codeSpoilt", unfollowed := true, recurses := true, apart := false, narrowed := true }
def CodeSpoiltUptoSaid : Prop := codeSpoiltUptoRow.holds Try.pinned (OpenSpec.upto codeSpoiltSpec)

/-- 'hogsheadlaw05.CodeOne', WHERE WHAT IT READS IS OF BULK AT MOST 1048576: true; the input reads as it did. -/
def codeOneUptoRow : OpenClaim := { program := "ytohbijjkkadbaaa", sum := "c47831ed956f33e889cfde6d4697f99a052db5b882b3b86c7e1735d39d9f9ccf", func := "hogshead/hogsheadlaw05.CodeOne", spec := "codeOne", unfollowed := true, recurses := true, apart := false, narrowed := true }
def CodeOneUptoSaid : Prop := codeOneUptoRow.holds Try.pinned (OpenSpec.upto codeOneSpec)

end Rows
end Go.Proofs.Ytohbijjkkadbaaa
