/-
  No cell of these rows narrows 'for every input' (looked for: loops, veiled, ifaces, maps, wideKeys, modest, calm, conditions, laid).
  DERIVED. THE GIVEN ROWS OF THIS SEAT. 7 by the template 'for every input the law returns true; each argument reads behind the call as it read before'; 0 by the template 'total and deterministic' (their statements: YtjegopkaficbpaaTotals.lean).
  GIVEN WITH THE SEED: the statements are not yours to turn. If you find one false, say at which input.
  Laid BY PROGRAM, IN A SANDBOX (cutbox-rows.mjs): the forced cells as the released guide's own fill.sh prints them over the translation 6381cab12971115a… (all of the seat's roots in one cut). By AI agents, Wed Nov 11 2026. No macro, syntax, notation, axiom, sorry.
-/
import Derived.Test.YtjegopkaficbpaaChecked
import GoSem.Claim
import GoSem.ClaimJoined
import GoSem.ClaimMapViews
import Derived.JoinedTies
import Derived.KernelRfl
namespace Go.Proofs.Ytjegopkaficbpaa
/- THE CELL 'sum', in the pinned program and in every row, IS THE sha256 OF THE DUMP (.gsa) THAT YtjegopkaficbpaaProg.lean LOADS. Nothing in Lean hashes anything: it is a label: what it is worth is what the hold of that sum in a sandbox is worth. -/
noncomputable def Try.pinned : Pinned := { name := "ytjegopkaficbpaa", sum := "6381cab12971115aa2f4fd72ffed8ba3cfb876b257f1e06c14e978f79475da57", checked := Try.checked }
namespace Rows
def none {H : Type} : Left H := { results := [], args := [] }

/-- 'hogsheadlaw07.TurnMuls': WHATEVER THE INPUT: true; the input reads as it did. -/
def turnMulsSpec : ChangeSpec := { name := "turnMuls", fn := fun _ => fun
  | [d1, d2, d3] => { results := [.lit (.bool true)], args := [d1, d2, d3] }
  | _ => none }
def turnMulsRow : OpenClaim := { program := "ytjegopkaficbpaa", sum := "6381cab12971115aa2f4fd72ffed8ba3cfb876b257f1e06c14e978f79475da57", func := "hogshead/hogsheadlaw07.TurnMuls", spec := "turnMuls", inPlace := ["math.archFloor", "math.Float64bits", "math.Float64frombits", "math.archTrunc"], apart := false }
def TurnMulsSaid : Prop := turnMulsRow.holds Try.pinned (OpenSpec.ofChange turnMulsSpec)

/-- ITS FALSE NEIGHBOUR: 'it returns false'. Refute it at one input. -/
def turnMulsWrong : ChangeSpec := { name := "turnMuls", fn := fun _ => fun
  | [d1, d2, d3] => { results := [.lit (.bool false)], args := [d1, d2, d3] }
  | _ => none }
def TurnMulsWrongFalsely : Prop := turnMulsRow.holds Try.pinned (OpenSpec.ofChange turnMulsWrong)

/-- 'hogsheadlaw07.TurnPrints': WHATEVER THE INPUT: true; the input reads as it did. -/
def turnPrintsSpec : ChangeSpec := { name := "turnPrints", fn := fun _ => fun
  | [d] => { results := [.lit (.bool true)], args := [d] }
  | _ => none }
def turnPrintsRow : OpenClaim := { program := "ytjegopkaficbpaa", sum := "6381cab12971115aa2f4fd72ffed8ba3cfb876b257f1e06c14e978f79475da57", func := "hogshead/hogsheadlaw07.TurnPrints", spec := "turnPrints", inPlace := ["math.archFloor", "math.Float64bits", "math.Float64frombits", "math.archTrunc"], apart := false }
def TurnPrintsSaid : Prop := turnPrintsRow.holds Try.pinned (OpenSpec.ofChange turnPrintsSpec)

/-- ITS FALSE NEIGHBOUR: 'it returns false'. Refute it at one input. -/
def turnPrintsWrong : ChangeSpec := { name := "turnPrints", fn := fun _ => fun
  | [d] => { results := [.lit (.bool false)], args := [d] }
  | _ => none }
def TurnPrintsWrongFalsely : Prop := turnPrintsRow.holds Try.pinned (OpenSpec.ofChange turnPrintsWrong)

/-- 'hogsheadlaw07.TurnRolls': WHATEVER THE INPUT: true; the input reads as it did. -/
def turnRollsSpec : ChangeSpec := { name := "turnRolls", fn := fun _ => fun
  | [d] => { results := [.lit (.bool true)], args := [d] }
  | _ => none }
def turnRollsRow : OpenClaim := { program := "ytjegopkaficbpaa", sum := "6381cab12971115aa2f4fd72ffed8ba3cfb876b257f1e06c14e978f79475da57", func := "hogshead/hogsheadlaw07.TurnRolls", spec := "turnRolls", inPlace := ["math.archFloor", "math.Float64bits", "math.Float64frombits", "math.archTrunc"], apart := false }
def TurnRollsSaid : Prop := turnRollsRow.holds Try.pinned (OpenSpec.ofChange turnRollsSpec)

/-- ITS FALSE NEIGHBOUR: 'it returns false'. Refute it at one input. -/
def turnRollsWrong : ChangeSpec := { name := "turnRolls", fn := fun _ => fun
  | [d] => { results := [.lit (.bool false)], args := [d] }
  | _ => none }
def TurnRollsWrongFalsely : Prop := turnRollsRow.holds Try.pinned (OpenSpec.ofChange turnRollsWrong)

/-- 'hogsheadlaw07.TurnWindows': WHATEVER THE INPUT: true; the input reads as it did. -/
def turnWindowsSpec : ChangeSpec := { name := "turnWindows", fn := fun _ => fun
  | [d1, d2] => { results := [.lit (.bool true)], args := [d1, d2] }
  | _ => none }
def turnWindowsRow : OpenClaim := { program := "ytjegopkaficbpaa", sum := "6381cab12971115aa2f4fd72ffed8ba3cfb876b257f1e06c14e978f79475da57", func := "hogshead/hogsheadlaw07.TurnWindows", spec := "turnWindows", inPlace := ["math.archFloor", "math.Float64bits", "math.Float64frombits", "math.archTrunc"], apart := false }
def TurnWindowsSaid : Prop := turnWindowsRow.holds Try.pinned (OpenSpec.ofChange turnWindowsSpec)

/-- ITS FALSE NEIGHBOUR: 'it returns false'. Refute it at one input. -/
def turnWindowsWrong : ChangeSpec := { name := "turnWindows", fn := fun _ => fun
  | [d1, d2] => { results := [.lit (.bool false)], args := [d1, d2] }
  | _ => none }
def TurnWindowsWrongFalsely : Prop := turnWindowsRow.holds Try.pinned (OpenSpec.ofChange turnWindowsWrong)

/-- 'hogsheadlaw07.TurnJoins': WHATEVER THE INPUT: true; the input reads as it did. -/
def turnJoinsSpec : ChangeSpec := { name := "turnJoins", fn := fun _ => fun
  | [d1, d2] => { results := [.lit (.bool true)], args := [d1, d2] }
  | _ => none }
def turnJoinsRow : OpenClaim := { program := "ytjegopkaficbpaa", sum := "6381cab12971115aa2f4fd72ffed8ba3cfb876b257f1e06c14e978f79475da57", func := "hogshead/hogsheadlaw07.TurnJoins", spec := "turnJoins", inPlace := ["math.archFloor", "math.Float64bits", "math.Float64frombits", "math.archTrunc"], apart := false }
def TurnJoinsSaid : Prop := turnJoinsRow.holds Try.pinned (OpenSpec.ofChange turnJoinsSpec)

/-- ITS FALSE NEIGHBOUR: 'it returns false'. Refute it at one input. -/
def turnJoinsWrong : ChangeSpec := { name := "turnJoins", fn := fun _ => fun
  | [d1, d2] => { results := [.lit (.bool false)], args := [d1, d2] }
  | _ => none }
def TurnJoinsWrongFalsely : Prop := turnJoinsRow.holds Try.pinned (OpenSpec.ofChange turnJoinsWrong)

/-- 'hogsheadlaw07.TurnTells': WHATEVER THE INPUT: true; the input reads as it did. -/
def turnTellsSpec : ChangeSpec := { name := "turnTells", fn := fun _ => fun
  | [d1, d2, d3] => { results := [.lit (.bool true)], args := [d1, d2, d3] }
  | _ => none }
def turnTellsRow : OpenClaim := { program := "ytjegopkaficbpaa", sum := "6381cab12971115aa2f4fd72ffed8ba3cfb876b257f1e06c14e978f79475da57", func := "hogshead/hogsheadlaw07.TurnTells", spec := "turnTells", inPlace := ["math.archFloor", "math.Float64bits", "math.Float64frombits", "math.archTrunc"], apart := false }
def TurnTellsSaid : Prop := turnTellsRow.holds Try.pinned (OpenSpec.ofChange turnTellsSpec)

/-- ITS FALSE NEIGHBOUR: 'it returns false'. Refute it at one input. -/
def turnTellsWrong : ChangeSpec := { name := "turnTells", fn := fun _ => fun
  | [d1, d2, d3] => { results := [.lit (.bool false)], args := [d1, d2, d3] }
  | _ => none }
def TurnTellsWrongFalsely : Prop := turnTellsRow.holds Try.pinned (OpenSpec.ofChange turnTellsWrong)

/-- 'hogsheadlaw07.TurnPowers': WHATEVER THE INPUT: true; the input reads as it did. -/
def turnPowersSpec : ChangeSpec := { name := "turnPowers", fn := fun _ => fun
  | [d1, d2] => { results := [.lit (.bool true)], args := [d1, d2] }
  | _ => none }
def turnPowersRow : OpenClaim := { program := "ytjegopkaficbpaa", sum := "6381cab12971115aa2f4fd72ffed8ba3cfb876b257f1e06c14e978f79475da57", func := "hogshead/hogsheadlaw07.TurnPowers", spec := "turnPowers", inPlace := ["math.archFloor", "math.Float64bits", "math.Float64frombits", "math.archTrunc"], apart := false }
def TurnPowersSaid : Prop := turnPowersRow.holds Try.pinned (OpenSpec.ofChange turnPowersSpec)

/-- ITS FALSE NEIGHBOUR: 'it returns false'. Refute it at one input. -/
def turnPowersWrong : ChangeSpec := { name := "turnPowers", fn := fun _ => fun
  | [d1, d2] => { results := [.lit (.bool false)], args := [d1, d2] }
  | _ => none }
def TurnPowersWrongFalsely : Prop := turnPowersRow.holds Try.pinned (OpenSpec.ofChange turnPowersWrong)

/- THE SECOND FORM. 'bulk': how many values and letters a reading holds, each counted each time it is reached (what is shared counts as often as it is met; a slice's spare places count too). A statement '..UptoSaid' is the law's where the arguments, and the package variables that the reading takes, are together of bulk at most 1048576: NARROWER than '..Said'. Prove '..Said' where nothing that the law and all that it calls make is longer than what came in: it says more and counts as full. Else prove '..UptoSaid'. A law counts once. -/
mutual
def uptoBulk {H : Type} : DataW H → Nat
  | .lit (.string bytes) => bytes.length + 1
  | .lit _ => 1
  | .nil => 1
  | .ptr d => uptoBulk d + 1
  | .slice elems spare => uptoBulkAll elems + uptoBulkAll spare + 1
  | .agg parts => uptoBulkAll parts + 1
  | .iface _ d => uptoBulk d + 1
  | .map entries => uptoBulkEntries entries + 1
  | .held _ => 1
def uptoBulkAll {H : Type} : List (DataW H) → Nat
  | [] => 0
  | d :: r => uptoBulk d + uptoBulkAll r
def uptoBulkEntries {H : Type} : List (Lit × DataW H) → Nat
  | [] => 0
  | x :: r => uptoBulkEntry x + uptoBulkEntries r
def uptoBulkEntry {H : Type} : Lit × DataW H → Nat
  | (.string bytes, d) => bytes.length + uptoBulk d + 1
  | (_, d) => uptoBulk d + 1
 end
def uptoSmall : (H : Type) → List (DataW H) → Bool := fun _ ds => decide (uptoBulkAll ds ≤ 1048576)
def OpenSpec.upto (s : _root_.Go.ChangeSpec) : _root_.Go.OpenSpec := { _root_.Go.OpenSpec.ofChange s with cond := some uptoSmall }

/-- 'hogsheadlaw07.TurnMuls', WHERE WHAT IT READS IS OF BULK AT MOST 1048576: true; the input reads as it did. -/
def turnMulsUptoRow : OpenClaim := { program := "ytjegopkaficbpaa", sum := "6381cab12971115aa2f4fd72ffed8ba3cfb876b257f1e06c14e978f79475da57", func := "hogshead/hogsheadlaw07.TurnMuls", spec := "turnMuls", inPlace := ["math.archFloor", "math.Float64bits", "math.Float64frombits", "math.archTrunc"], apart := false, narrowed := true }
def TurnMulsUptoSaid : Prop := turnMulsUptoRow.holds Try.pinned (OpenSpec.upto turnMulsSpec)

/-- 'hogsheadlaw07.TurnPrints', WHERE WHAT IT READS IS OF BULK AT MOST 1048576: true; the input reads as it did. -/
def turnPrintsUptoRow : OpenClaim := { program := "ytjegopkaficbpaa", sum := "6381cab12971115aa2f4fd72ffed8ba3cfb876b257f1e06c14e978f79475da57", func := "hogshead/hogsheadlaw07.TurnPrints", spec := "turnPrints", inPlace := ["math.archFloor", "math.Float64bits", "math.Float64frombits", "math.archTrunc"], apart := false, narrowed := true }
def TurnPrintsUptoSaid : Prop := turnPrintsUptoRow.holds Try.pinned (OpenSpec.upto turnPrintsSpec)

/-- 'hogsheadlaw07.TurnRolls', WHERE WHAT IT READS IS OF BULK AT MOST 1048576: true; the input reads as it did. -/
def turnRollsUptoRow : OpenClaim := { program := "ytjegopkaficbpaa", sum := "6381cab12971115aa2f4fd72ffed8ba3cfb876b257f1e06c14e978f79475da57", func := "hogshead/hogsheadlaw07.TurnRolls", spec := "turnRolls", inPlace := ["math.archFloor", "math.Float64bits", "math.Float64frombits", "math.archTrunc"], apart := false, narrowed := true }
def TurnRollsUptoSaid : Prop := turnRollsUptoRow.holds Try.pinned (OpenSpec.upto turnRollsSpec)

/-- 'hogsheadlaw07.TurnWindows', WHERE WHAT IT READS IS OF BULK AT MOST 1048576: true; the input reads as it did. -/
def turnWindowsUptoRow : OpenClaim := { program := "ytjegopkaficbpaa", sum := "6381cab12971115aa2f4fd72ffed8ba3cfb876b257f1e06c14e978f79475da57", func := "hogshead/hogsheadlaw07.TurnWindows", spec := "turnWindows", inPlace := ["math.archFloor", "math.Float64bits", "math.Float64frombits", "math.archTrunc"], apart := false, narrowed := true }
def TurnWindowsUptoSaid : Prop := turnWindowsUptoRow.holds Try.pinned (OpenSpec.upto turnWindowsSpec)

/-- 'hogsheadlaw07.TurnJoins', WHERE WHAT IT READS IS OF BULK AT MOST 1048576: true; the input reads as it did. -/
def turnJoinsUptoRow : OpenClaim := { program := "ytjegopkaficbpaa", sum := "6381cab12971115aa2f4fd72ffed8ba3cfb876b257f1e06c14e978f79475da57", func := "hogshead/hogsheadlaw07.TurnJoins", spec := "turnJoins", inPlace := ["math.archFloor", "math.Float64bits", "math.Float64frombits", "math.archTrunc"], apart := false, narrowed := true }
def TurnJoinsUptoSaid : Prop := turnJoinsUptoRow.holds Try.pinned (OpenSpec.upto turnJoinsSpec)

/-- 'hogsheadlaw07.TurnTells', WHERE WHAT IT READS IS OF BULK AT MOST 1048576: true; the input reads as it did. -/
def turnTellsUptoRow : OpenClaim := { program := "ytjegopkaficbpaa", sum := "6381cab12971115aa2f4fd72ffed8ba3cfb876b257f1e06c14e978f79475da57", func := "hogshead/hogsheadlaw07.TurnTells", spec := "turnTells", inPlace := ["math.archFloor", "math.Float64bits", "math.Float64frombits", "math.archTrunc"], apart := false, narrowed := true }
def TurnTellsUptoSaid : Prop := turnTellsUptoRow.holds Try.pinned (OpenSpec.upto turnTellsSpec)

/-- 'hogsheadlaw07.TurnPowers', WHERE WHAT IT READS IS OF BULK AT MOST 1048576: true; the input reads as it did. -/
def turnPowersUptoRow : OpenClaim := { program := "ytjegopkaficbpaa", sum := "6381cab12971115aa2f4fd72ffed8ba3cfb876b257f1e06c14e978f79475da57", func := "hogshead/hogsheadlaw07.TurnPowers", spec := "turnPowers", inPlace := ["math.archFloor", "math.Float64bits", "math.Float64frombits", "math.archTrunc"], apart := false, narrowed := true }
def TurnPowersUptoSaid : Prop := turnPowersUptoRow.holds Try.pinned (OpenSpec.upto turnPowersSpec)

end Rows
end Go.Proofs.Ytjegopkaficbpaa
