/-
  No cell of these rows narrows 'for every input' (looked for: loops, veiled, ifaces, maps, wideKeys, modest, calm, conditions, laid).
  DERIVED. THE GIVEN ROWS OF THIS SEAT. 8 by the template 'for every input the law returns true; each argument reads behind the call as it read before'; 0 by the template 'total and deterministic' (their statements: YtofafmjkjgiccaaTotals.lean).
  GIVEN WITH THE SEED: the statements are not yours to turn. If you find one false, say at which input.
  Laid BY PROGRAM, IN A SANDBOX (cutbox-rows.mjs): the forced cells as the released guide's own fill.sh prints them over the translation b169cb2af189c01f… (all of the seat's roots in one cut). By AI agents, Wed Nov 11 2026. No macro, syntax, notation, axiom, sorry.
-/
import Derived.Test.YtofafmjkjgiccaaChecked
import GoSem.Claim
import GoSem.ClaimJoined
import GoSem.ClaimMapViews
import Derived.JoinedTies
import Derived.KernelRfl
namespace Go.Proofs.Ytofafmjkjgiccaa
/- THE CELL 'sum', in the pinned program and in every row, IS THE sha256 OF THE DUMP (.gsa) THAT YtofafmjkjgiccaaProg.lean LOADS. Nothing in Lean hashes anything: it is a label: what it is worth is what the hold of that sum in a sandbox is worth. -/
noncomputable def Try.pinned : Pinned := { name := "ytofafmjkjgiccaa", sum := "b169cb2af189c01f2b7ff0ce5aa61f5816381eb90ca3f35da77bcba650a16a84", checked := Try.checked }
namespace Rows
def none {H : Type} : Left H := { results := [], args := [] }

/-- 'hogsheadlaw10.ShelfRecords': WHATEVER THE INPUT: true; the input reads as it did. -/
def shelfRecordsSpec : ChangeSpec := { name := "shelfRecords", fn := fun _ => fun
  | [d1, d2] => { results := [.lit (.bool true)], args := [d1, d2] }
  | _ => none }
def shelfRecordsRow : OpenClaim := { program := "ytofafmjkjgiccaa", sum := "b169cb2af189c01f2b7ff0ce5aa61f5816381eb90ca3f35da77bcba650a16a84", func := "hogshead/hogsheadlaw10.ShelfRecords", spec := "shelfRecords", unfollowed := true, recurses := true, plainKeys := false, apart := false }
def ShelfRecordsSaid : Prop := shelfRecordsRow.holds Try.pinned (OpenSpec.ofChange shelfRecordsSpec)

/-- ITS FALSE NEIGHBOUR: 'it returns false'. Refute it at one input. -/
def shelfRecordsWrong : ChangeSpec := { name := "shelfRecords", fn := fun _ => fun
  | [d1, d2] => { results := [.lit (.bool false)], args := [d1, d2] }
  | _ => none }
def ShelfRecordsWrongFalsely : Prop := shelfRecordsRow.holds Try.pinned (OpenSpec.ofChange shelfRecordsWrong)

/-- 'hogsheadlaw10.ShelfTells': WHATEVER THE INPUT: true; the input reads as it did. -/
def shelfTellsSpec : ChangeSpec := { name := "shelfTells", fn := fun _ => fun
  | [d1, d2] => { results := [.lit (.bool true)], args := [d1, d2] }
  | _ => none }
def shelfTellsRow : OpenClaim := { program := "ytofafmjkjgiccaa", sum := "b169cb2af189c01f2b7ff0ce5aa61f5816381eb90ca3f35da77bcba650a16a84", func := "hogshead/hogsheadlaw10.ShelfTells", spec := "shelfTells", unfollowed := true, recurses := true, plainKeys := false, apart := false }
def ShelfTellsSaid : Prop := shelfTellsRow.holds Try.pinned (OpenSpec.ofChange shelfTellsSpec)

/-- ITS FALSE NEIGHBOUR: 'it returns false'. Refute it at one input. -/
def shelfTellsWrong : ChangeSpec := { name := "shelfTells", fn := fun _ => fun
  | [d1, d2] => { results := [.lit (.bool false)], args := [d1, d2] }
  | _ => none }
def ShelfTellsWrongFalsely : Prop := shelfTellsRow.holds Try.pinned (OpenSpec.ofChange shelfTellsWrong)

/-- 'hogsheadlaw10.ShelfPuts': WHATEVER THE INPUT: true; the input reads as it did. -/
def shelfPutsSpec : ChangeSpec := { name := "shelfPuts", fn := fun _ => fun
  | [d1, d2, d3] => { results := [.lit (.bool true)], args := [d1, d2, d3] }
  | _ => none }
def shelfPutsRow : OpenClaim := { program := "ytofafmjkjgiccaa", sum := "b169cb2af189c01f2b7ff0ce5aa61f5816381eb90ca3f35da77bcba650a16a84", func := "hogshead/hogsheadlaw10.ShelfPuts", spec := "shelfPuts", unfollowed := true, recurses := true, plainKeys := false, apart := false }
def ShelfPutsSaid : Prop := shelfPutsRow.holds Try.pinned (OpenSpec.ofChange shelfPutsSpec)

/-- ITS FALSE NEIGHBOUR: 'it returns false'. Refute it at one input. -/
def shelfPutsWrong : ChangeSpec := { name := "shelfPuts", fn := fun _ => fun
  | [d1, d2, d3] => { results := [.lit (.bool false)], args := [d1, d2, d3] }
  | _ => none }
def ShelfPutsWrongFalsely : Prop := shelfPutsRow.holds Try.pinned (OpenSpec.ofChange shelfPutsWrong)

/-- 'hogsheadlaw10.ShelfLasts': WHATEVER THE INPUT: true; the input reads as it did. -/
def shelfLastsSpec : ChangeSpec := { name := "shelfLasts", fn := fun _ => fun
  | [d] => { results := [.lit (.bool true)], args := [d] }
  | _ => none }
def shelfLastsRow : OpenClaim := { program := "ytofafmjkjgiccaa", sum := "b169cb2af189c01f2b7ff0ce5aa61f5816381eb90ca3f35da77bcba650a16a84", func := "hogshead/hogsheadlaw10.ShelfLasts", spec := "shelfLasts", unfollowed := true, recurses := true, plainKeys := false, apart := false }
def ShelfLastsSaid : Prop := shelfLastsRow.holds Try.pinned (OpenSpec.ofChange shelfLastsSpec)

/-- ITS FALSE NEIGHBOUR: 'it returns false'. Refute it at one input. -/
def shelfLastsWrong : ChangeSpec := { name := "shelfLasts", fn := fun _ => fun
  | [d] => { results := [.lit (.bool false)], args := [d] }
  | _ => none }
def ShelfLastsWrongFalsely : Prop := shelfLastsRow.holds Try.pinned (OpenSpec.ofChange shelfLastsWrong)

/-- 'hogsheadlaw10.ShelfGoes': WHATEVER THE INPUT: true; the input reads as it did. -/
def shelfGoesSpec : ChangeSpec := { name := "shelfGoes", fn := fun _ => fun
  | [d1, d2, d3] => { results := [.lit (.bool true)], args := [d1, d2, d3] }
  | _ => none }
def shelfGoesRow : OpenClaim := { program := "ytofafmjkjgiccaa", sum := "b169cb2af189c01f2b7ff0ce5aa61f5816381eb90ca3f35da77bcba650a16a84", func := "hogshead/hogsheadlaw10.ShelfGoes", spec := "shelfGoes", unfollowed := true, recurses := true, plainKeys := false, apart := false }
def ShelfGoesSaid : Prop := shelfGoesRow.holds Try.pinned (OpenSpec.ofChange shelfGoesSpec)

/-- ITS FALSE NEIGHBOUR: 'it returns false'. Refute it at one input. -/
def shelfGoesWrong : ChangeSpec := { name := "shelfGoes", fn := fun _ => fun
  | [d1, d2, d3] => { results := [.lit (.bool false)], args := [d1, d2, d3] }
  | _ => none }
def ShelfGoesWrongFalsely : Prop := shelfGoesRow.holds Try.pinned (OpenSpec.ofChange shelfGoesWrong)

/-- 'hogsheadlaw10.ShelfLists': WHATEVER THE INPUT: true; the input reads as it did. -/
def shelfListsSpec : ChangeSpec := { name := "shelfLists", fn := fun _ => fun
  | [d1, d2] => { results := [.lit (.bool true)], args := [d1, d2] }
  | _ => none }
def shelfListsRow : OpenClaim := { program := "ytofafmjkjgiccaa", sum := "b169cb2af189c01f2b7ff0ce5aa61f5816381eb90ca3f35da77bcba650a16a84", func := "hogshead/hogsheadlaw10.ShelfLists", spec := "shelfLists", unfollowed := true, recurses := true, plainKeys := false, apart := false }
def ShelfListsSaid : Prop := shelfListsRow.holds Try.pinned (OpenSpec.ofChange shelfListsSpec)

/-- ITS FALSE NEIGHBOUR: 'it returns false'. Refute it at one input. -/
def shelfListsWrong : ChangeSpec := { name := "shelfLists", fn := fun _ => fun
  | [d1, d2] => { results := [.lit (.bool false)], args := [d1, d2] }
  | _ => none }
def ShelfListsWrongFalsely : Prop := shelfListsRow.holds Try.pinned (OpenSpec.ofChange shelfListsWrong)

/-- 'hogsheadlaw10.ShelfTorn': WHATEVER THE INPUT: true; the input reads as it did. -/
def shelfTornSpec : ChangeSpec := { name := "shelfTorn", fn := fun _ => fun
  | [d1, d2, d3] => { results := [.lit (.bool true)], args := [d1, d2, d3] }
  | _ => none }
def shelfTornRow : OpenClaim := { program := "ytofafmjkjgiccaa", sum := "b169cb2af189c01f2b7ff0ce5aa61f5816381eb90ca3f35da77bcba650a16a84", func := "hogshead/hogsheadlaw10.ShelfTorn", spec := "shelfTorn", unfollowed := true, recurses := true, plainKeys := false, apart := false }
def ShelfTornSaid : Prop := shelfTornRow.holds Try.pinned (OpenSpec.ofChange shelfTornSpec)

/-- ITS FALSE NEIGHBOUR: 'it returns false'. Refute it at one input. -/
def shelfTornWrong : ChangeSpec := { name := "shelfTorn", fn := fun _ => fun
  | [d1, d2, d3] => { results := [.lit (.bool false)], args := [d1, d2, d3] }
  | _ => none }
def ShelfTornWrongFalsely : Prop := shelfTornRow.holds Try.pinned (OpenSpec.ofChange shelfTornWrong)

/-- 'hogsheadlaw10.ShelfRoom': WHATEVER THE INPUT: true; the input reads as it did. -/
def shelfRoomSpec : ChangeSpec := { name := "shelfRoom", fn := fun _ => fun
  | [d1, d2] => { results := [.lit (.bool true)], args := [d1, d2] }
  | _ => none }
def shelfRoomRow : OpenClaim := { program := "ytofafmjkjgiccaa", sum := "b169cb2af189c01f2b7ff0ce5aa61f5816381eb90ca3f35da77bcba650a16a84", func := "hogshead/hogsheadlaw10.ShelfRoom", spec := "shelfRoom", unfollowed := true, recurses := true, plainKeys := false, apart := false }
def ShelfRoomSaid : Prop := shelfRoomRow.holds Try.pinned (OpenSpec.ofChange shelfRoomSpec)

/-- ITS FALSE NEIGHBOUR: 'it returns false'. Refute it at one input. -/
def shelfRoomWrong : ChangeSpec := { name := "shelfRoom", fn := fun _ => fun
  | [d1, d2] => { results := [.lit (.bool false)], args := [d1, d2] }
  | _ => none }
def ShelfRoomWrongFalsely : Prop := shelfRoomRow.holds Try.pinned (OpenSpec.ofChange shelfRoomWrong)

/- THE SECOND FORM. 'bulk': how many values and letters a reading holds, each counted each time it is reached (what is shared counts as often as it is met; a slice's spare places count too). A statement '..UptoSaid' is the law's where the arguments, and the package variables that the reading takes, are together of bulk at most 1048576: NARROWER than '..Said'. Prove '..Said' where nothing that the law and all that it calls make is longer than what came in: it says more and counts as full. Else prove '..UptoSaid'. A law counts once. -/
mutual
def uptoBulk {H : Type} : DataW H → Nat
  | .lit (.string bytes) => bytes.length + 1
  | .lit _ => 1
  | .nil => 1
  | .ptr d => uptoBulk d + 1
  | .slice elems spare => uptoBulkAll elems + uptoBulkAll spare + 1
  | .agg parts => uptoBulkAll parts + 1
  | .iface _ d => uptoBulk d + 1
  | .map entries => uptoBulkEntries entries + 1
  | .held _ => 1
def uptoBulkAll {H : Type} : List (DataW H) → Nat
  | [] => 0
  | d :: r => uptoBulk d + uptoBulkAll r
def uptoBulkEntries {H : Type} : List (Lit × DataW H) → Nat
  | [] => 0
  | x :: r => uptoBulkEntry x + uptoBulkEntries r
def uptoBulkEntry {H : Type} : Lit × DataW H → Nat
  | (.string bytes, d) => bytes.length + uptoBulk d + 1
  | (_, d) => uptoBulk d + 1
 end
def uptoSmall : (H : Type) → List (DataW H) → Bool := fun _ ds => decide (uptoBulkAll ds ≤ 1048576)
def OpenSpec.upto (s : _root_.Go.ChangeSpec) : _root_.Go.OpenSpec := { _root_.Go.OpenSpec.ofChange s with cond := some uptoSmall }

/-- 'hogsheadlaw10.ShelfRecords', WHERE WHAT IT READS IS OF BULK AT MOST 1048576: true; the input reads as it did. -/
def shelfRecordsUptoRow : OpenClaim := { program := "ytofafmjkjgiccaa", sum := "b169cb2af189c01f2b7ff0ce5aa61f5816381eb90ca3f35da77bcba650a16a84", func := "hogshead/hogsheadlaw10.ShelfRecords", spec := "shelfRecords", unfollowed := true, recurses := true, plainKeys := false, apart := false, narrowed := true }
def ShelfRecordsUptoSaid : Prop := shelfRecordsUptoRow.holds Try.pinned (OpenSpec.upto shelfRecordsSpec)

/-- 'hogsheadlaw10.ShelfTells', WHERE WHAT IT READS IS OF BULK AT MOST 1048576: true; the input reads as it did. -/
def shelfTellsUptoRow : OpenClaim := { program := "ytofafmjkjgiccaa", sum := "b169cb2af189c01f2b7ff0ce5aa61f5816381eb90ca3f35da77bcba650a16a84", func := "hogshead/hogsheadlaw10.ShelfTells", spec := "shelfTells", unfollowed := true, recurses := true, plainKeys := false, apart := false, narrowed := true }
def ShelfTellsUptoSaid : Prop := shelfTellsUptoRow.holds Try.pinned (OpenSpec.upto shelfTellsSpec)

/-- 'hogsheadlaw10.ShelfPuts', WHERE WHAT IT READS IS OF BULK AT MOST 1048576: true; the input reads as it did. -/
def shelfPutsUptoRow : OpenClaim := { program := "ytofafmjkjgiccaa", sum := "b169cb2af189c01f2b7ff0ce5aa61f5816381eb90ca3f35da77bcba650a16a84", func := "hogshead/hogsheadlaw10.ShelfPuts", spec := "shelfPuts", unfollowed := true, recurses := true, plainKeys := false, apart := false, narrowed := true }
def ShelfPutsUptoSaid : Prop := shelfPutsUptoRow.holds Try.pinned (OpenSpec.upto shelfPutsSpec)

/-- 'hogsheadlaw10.ShelfLasts', WHERE WHAT IT READS IS OF BULK AT MOST 1048576: true; the input reads as it did. -/
def shelfLastsUptoRow : OpenClaim := { program := "ytofafmjkjgiccaa", sum := "b169cb2af189c01f2b7ff0ce5aa61f5816381eb90ca3f35da77bcba650a16a84", func := "hogshead/hogsheadlaw10.ShelfLasts", spec := "shelfLasts", unfollowed := true, recurses := true, plainKeys := false, apart := false, narrowed := true }
def ShelfLastsUptoSaid : Prop := shelfLastsUptoRow.holds Try.pinned (OpenSpec.upto shelfLastsSpec)

/-- 'hogsheadlaw10.ShelfGoes', WHERE WHAT IT READS IS OF BULK AT MOST 1048576: true; the input reads as it did. -/
def shelfGoesUptoRow : OpenClaim := { program := "ytofafmjkjgiccaa", sum := "b169cb2af189c01f2b7ff0ce5aa61f5816381eb90ca3f35da77bcba650a16a84", func := "hogshead/hogsheadlaw10.ShelfGoes", spec := "shelfGoes", unfollowed := true, recurses := true, plainKeys := false, apart := false, narrowed := true }
def ShelfGoesUptoSaid : Prop := shelfGoesUptoRow.holds Try.pinned (OpenSpec.upto shelfGoesSpec)

/-- 'hogsheadlaw10.ShelfLists', WHERE WHAT IT READS IS OF BULK AT MOST 1048576: true; the input reads as it did. -/
def shelfListsUptoRow : OpenClaim := { program := "ytofafmjkjgiccaa", sum := "b169cb2af189c01f2b7ff0ce5aa61f5816381eb90ca3f35da77bcba650a16a84", func := "hogshead/hogsheadlaw10.ShelfLists", spec := "shelfLists", unfollowed := true, recurses := true, plainKeys := false, apart := false, narrowed := true }
def ShelfListsUptoSaid : Prop := shelfListsUptoRow.holds Try.pinned (OpenSpec.upto shelfListsSpec)

/-- 'hogsheadlaw10.ShelfTorn', WHERE WHAT IT READS IS OF BULK AT MOST 1048576: true; the input reads as it did. -/
def shelfTornUptoRow : OpenClaim := { program := "ytofafmjkjgiccaa", sum := "b169cb2af189c01f2b7ff0ce5aa61f5816381eb90ca3f35da77bcba650a16a84", func := "hogshead/hogsheadlaw10.ShelfTorn", spec := "shelfTorn", unfollowed := true, recurses := true, plainKeys := false, apart := false, narrowed := true }
def ShelfTornUptoSaid : Prop := shelfTornUptoRow.holds Try.pinned (OpenSpec.upto shelfTornSpec)

/-- 'hogsheadlaw10.ShelfRoom', WHERE WHAT IT READS IS OF BULK AT MOST 1048576: true; the input reads as it did. -/
def shelfRoomUptoRow : OpenClaim := { program := "ytofafmjkjgiccaa", sum := "b169cb2af189c01f2b7ff0ce5aa61f5816381eb90ca3f35da77bcba650a16a84", func := "hogshead/hogsheadlaw10.ShelfRoom", spec := "shelfRoom", unfollowed := true, recurses := true, plainKeys := false, apart := false, narrowed := true }
def ShelfRoomUptoSaid : Prop := shelfRoomUptoRow.holds Try.pinned (OpenSpec.upto shelfRoomSpec)

end Rows
end Go.Proofs.Ytofafmjkjgiccaa
