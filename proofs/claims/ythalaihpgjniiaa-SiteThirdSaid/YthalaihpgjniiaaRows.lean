/-
  No cell of these rows narrows 'for every input' (looked for: loops, veiled, ifaces, maps, wideKeys, modest, calm, conditions, laid).
  DERIVED. THE GIVEN ROWS OF THIS SEAT. 6 by the template 'for every input the law returns true; each argument reads behind the call as it read before'; 0 by the template 'total and deterministic' (their statements: YthalaihpgjniiaaTotals.lean).
  GIVEN WITH THE SEED: the statements are not yours to turn. If you find one false, say at which input.
  Laid BY PROGRAM, IN A SANDBOX (cutbox-rows.mjs): the forced cells as the released guide's own fill.sh prints them over the translation 6bae20845753d4a0… (all of the seat's roots in one cut). By AI agents, Wed Nov 11 2026. No macro, syntax, notation, axiom, sorry.
-/
import Derived.Test.YthalaihpgjniiaaChecked
import GoSem.Claim
import GoSem.ClaimJoined
import GoSem.ClaimMapViews
import Derived.JoinedTies
import Derived.KernelRfl
namespace Go.Proofs.Ythalaihpgjniiaa
/- THE CELL 'sum', in the pinned program and in every row, IS THE sha256 OF THE DUMP (.gsa) THAT YthalaihpgjniiaaProg.lean LOADS. Nothing in Lean hashes anything: it is a label: what it is worth is what the hold of that sum in a sandbox is worth. -/
noncomputable def Try.pinned : Pinned := { name := "ythalaihpgjniiaa", sum := "6bae20845753d4a08044da6e2db31cb94246175f0b417924984c799af1c3c93e", checked := Try.checked }
namespace Rows
def none {H : Type} : Left H := { results := [], args := [] }

/-- 'hogsheadlaw11.SiteRings': WHATEVER THE INPUT: true; the input reads as it did. -/
def siteRingsSpec : ChangeSpec := { name := "siteRings", fn := fun _ => fun
  | [d] => { results := [.lit (.bool true)], args := [d] }
  | _ => none }
def siteRingsRow : OpenClaim := { program := "ythalaihpgjniiaa", sum := "6bae20845753d4a08044da6e2db31cb94246175f0b417924984c799af1c3c93e", func := "hogshead/hogsheadlaw11.SiteRings", spec := "siteRings", unfollowed := true, recurses := true, apart := false }
def SiteRingsSaid : Prop := siteRingsRow.holds Try.pinned (OpenSpec.ofChange siteRingsSpec)

/-- ITS FALSE NEIGHBOUR: 'it returns false'. Refute it at one input. -/
def siteRingsWrong : ChangeSpec := { name := "siteRings", fn := fun _ => fun
  | [d] => { results := [.lit (.bool false)], args := [d] }
  | _ => none }
def SiteRingsWrongFalsely : Prop := siteRingsRow.holds Try.pinned (OpenSpec.ofChange siteRingsWrong)

/-- 'hogsheadlaw11.SiteNexts': WHATEVER THE INPUT: true; the input reads as it did. -/
def siteNextsSpec : ChangeSpec := { name := "siteNexts", fn := fun _ => fun
  | [d] => { results := [.lit (.bool true)], args := [d] }
  | _ => none }
def siteNextsRow : OpenClaim := { program := "ythalaihpgjniiaa", sum := "6bae20845753d4a08044da6e2db31cb94246175f0b417924984c799af1c3c93e", func := "hogshead/hogsheadlaw11.SiteNexts", spec := "siteNexts", unfollowed := true, recurses := true, apart := false }
def SiteNextsSaid : Prop := siteNextsRow.holds Try.pinned (OpenSpec.ofChange siteNextsSpec)

/-- ITS FALSE NEIGHBOUR: 'it returns false'. Refute it at one input. -/
def siteNextsWrong : ChangeSpec := { name := "siteNexts", fn := fun _ => fun
  | [d] => { results := [.lit (.bool false)], args := [d] }
  | _ => none }
def SiteNextsWrongFalsely : Prop := siteNextsRow.holds Try.pinned (OpenSpec.ofChange siteNextsWrong)

/-- 'hogsheadlaw11.SiteApart': WHATEVER THE INPUT: true; the input reads as it did. -/
def siteApartSpec : ChangeSpec := { name := "siteApart", fn := fun _ => fun
  | [d] => { results := [.lit (.bool true)], args := [d] }
  | _ => none }
def siteApartRow : OpenClaim := { program := "ythalaihpgjniiaa", sum := "6bae20845753d4a08044da6e2db31cb94246175f0b417924984c799af1c3c93e", func := "hogshead/hogsheadlaw11.SiteApart", spec := "siteApart", unfollowed := true, recurses := true, apart := false }
def SiteApartSaid : Prop := siteApartRow.holds Try.pinned (OpenSpec.ofChange siteApartSpec)

/-- ITS FALSE NEIGHBOUR: 'it returns false'. Refute it at one input. -/
def siteApartWrong : ChangeSpec := { name := "siteApart", fn := fun _ => fun
  | [d] => { results := [.lit (.bool false)], args := [d] }
  | _ => none }
def SiteApartWrongFalsely : Prop := siteApartRow.holds Try.pinned (OpenSpec.ofChange siteApartWrong)

/-- 'hogsheadlaw11.SiteBesides': WHATEVER THE INPUT: true; the input reads as it did. -/
def siteBesidesSpec : ChangeSpec := { name := "siteBesides", fn := fun _ => fun
  | [d1, d2, d3] => { results := [.lit (.bool true)], args := [d1, d2, d3] }
  | _ => none }
def siteBesidesRow : OpenClaim := { program := "ythalaihpgjniiaa", sum := "6bae20845753d4a08044da6e2db31cb94246175f0b417924984c799af1c3c93e", func := "hogshead/hogsheadlaw11.SiteBesides", spec := "siteBesides", unfollowed := true, recurses := true, apart := false }
def SiteBesidesSaid : Prop := siteBesidesRow.holds Try.pinned (OpenSpec.ofChange siteBesidesSpec)

/-- ITS FALSE NEIGHBOUR: 'it returns false'. Refute it at one input. -/
def siteBesidesWrong : ChangeSpec := { name := "siteBesides", fn := fun _ => fun
  | [d1, d2, d3] => { results := [.lit (.bool false)], args := [d1, d2, d3] }
  | _ => none }
def SiteBesidesWrongFalsely : Prop := siteBesidesRow.holds Try.pinned (OpenSpec.ofChange siteBesidesWrong)

/-- 'hogsheadlaw11.SiteAll': WHATEVER THE INPUT: true; the input reads as it did. -/
def siteAllSpec : ChangeSpec := { name := "siteAll", fn := fun _ => fun
  | [d1, d2, d3] => { results := [.lit (.bool true)], args := [d1, d2, d3] }
  | _ => none }
def siteAllRow : OpenClaim := { program := "ythalaihpgjniiaa", sum := "6bae20845753d4a08044da6e2db31cb94246175f0b417924984c799af1c3c93e", func := "hogshead/hogsheadlaw11.SiteAll", spec := "siteAll", unfollowed := true, recurses := true, apart := false }
def SiteAllSaid : Prop := siteAllRow.holds Try.pinned (OpenSpec.ofChange siteAllSpec)

/-- ITS FALSE NEIGHBOUR: 'it returns false'. Refute it at one input. -/
def siteAllWrong : ChangeSpec := { name := "siteAll", fn := fun _ => fun
  | [d1, d2, d3] => { results := [.lit (.bool false)], args := [d1, d2, d3] }
  | _ => none }
def SiteAllWrongFalsely : Prop := siteAllRow.holds Try.pinned (OpenSpec.ofChange siteAllWrong)

/-- 'hogsheadlaw11.SiteThird': WHATEVER THE INPUT: true; the input reads as it did. -/
def siteThirdSpec : ChangeSpec := { name := "siteThird", fn := fun _ => fun
  | [d1, d2] => { results := [.lit (.bool true)], args := [d1, d2] }
  | _ => none }
def siteThirdRow : OpenClaim := { program := "ythalaihpgjniiaa", sum := "6bae20845753d4a08044da6e2db31cb94246175f0b417924984c799af1c3c93e", func := "hogshead/hogsheadlaw11.SiteThird", spec := "siteThird", unfollowed := true, recurses := true, apart := false }
def SiteThirdSaid : Prop := siteThirdRow.holds Try.pinned (OpenSpec.ofChange siteThirdSpec)

/-- ITS FALSE NEIGHBOUR: 'it returns false'. Refute it at one input. -/
def siteThirdWrong : ChangeSpec := { name := "siteThird", fn := fun _ => fun
  | [d1, d2] => { results := [.lit (.bool false)], args := [d1, d2] }
  | _ => none }
def SiteThirdWrongFalsely : Prop := siteThirdRow.holds Try.pinned (OpenSpec.ofChange siteThirdWrong)

/- THE SECOND FORM. 'bulk': how many values and letters a reading holds, each counted each time it is reached (what is shared counts as often as it is met; a slice's spare places count too). A statement '..UptoSaid' is the law's where the arguments, and the package variables that the reading takes, are together of bulk at most 1048576: NARROWER than '..Said'. Prove '..Said' where nothing that the law and all that it calls make is longer than what came in: it says more and counts as full. Else prove '..UptoSaid'. A law counts once. -/
mutual
def uptoBulk {H : Type} : DataW H → Nat
  | .lit (.string bytes) => bytes.length + 1
  | .lit _ => 1
  | .nil => 1
  | .ptr d => uptoBulk d + 1
  | .slice elems spare => uptoBulkAll elems + uptoBulkAll spare + 1
  | .agg parts => uptoBulkAll parts + 1
  | .iface _ d => uptoBulk d + 1
  | .map entries => uptoBulkEntries entries + 1
  | .held _ => 1
def uptoBulkAll {H : Type} : List (DataW H) → Nat
  | [] => 0
  | d :: r => uptoBulk d + uptoBulkAll r
def uptoBulkEntries {H : Type} : List (Lit × DataW H) → Nat
  | [] => 0
  | x :: r => uptoBulkEntry x + uptoBulkEntries r
def uptoBulkEntry {H : Type} : Lit × DataW H → Nat
  | (.string bytes, d) => bytes.length + uptoBulk d + 1
  | (_, d) => uptoBulk d + 1
 end
def uptoSmall : (H : Type) → List (DataW H) → Bool := fun _ ds => decide (uptoBulkAll ds ≤ 1048576)
def OpenSpec.upto (s : _root_.Go.ChangeSpec) : _root_.Go.OpenSpec := { _root_.Go.OpenSpec.ofChange s with cond := some uptoSmall }

/-- 'hogsheadlaw11.SiteRings', WHERE WHAT IT READS IS OF BULK AT MOST 1048576: true; the input reads as it did. -/
def siteRingsUptoRow : OpenClaim := { program := "ythalaihpgjniiaa", sum := "6bae20845753d4a08044da6e2db31cb94246175f0b417924984c799af1c3c93e", func := "hogshead/hogsheadlaw11.SiteRings", spec := "siteRings", unfollowed := true, recurses := true, apart := false, narrowed := true }
def SiteRingsUptoSaid : Prop := siteRingsUptoRow.holds Try.pinned (OpenSpec.upto siteRingsSpec)

/-- 'hogsheadlaw11.SiteNexts', WHERE WHAT IT READS IS OF BULK AT MOST 1048576: true; the input reads as it did. -/
def siteNextsUptoRow : OpenClaim := { program := "ythalaihpgjniiaa", sum := "6bae20845753d4a08044da6e2db31cb94246175f0b417924984c799af1c3c93e", func := "hogshead/hogsheadlaw11.SiteNexts", spec := "siteNexts", unfollowed := true, recurses := true, apart := false, narrowed := true }
def SiteNextsUptoSaid : Prop := siteNextsUptoRow.holds Try.pinned (OpenSpec.upto siteNextsSpec)

/-- 'hogsheadlaw11.SiteApart', WHERE WHAT IT READS IS OF BULK AT MOST 1048576: true; the input reads as it did. -/
def siteApartUptoRow : OpenClaim := { program := "ythalaihpgjniiaa", sum := "6bae20845753d4a08044da6e2db31cb94246175f0b417924984c799af1c3c93e", func := "hogshead/hogsheadlaw11.SiteApart", spec := "siteApart", unfollowed := true, recurses := true, apart := false, narrowed := true }
def SiteApartUptoSaid : Prop := siteApartUptoRow.holds Try.pinned (OpenSpec.upto siteApartSpec)

/-- 'hogsheadlaw11.SiteBesides', WHERE WHAT IT READS IS OF BULK AT MOST 1048576: true; the input reads as it did. -/
def siteBesidesUptoRow : OpenClaim := { program := "ythalaihpgjniiaa", sum := "6bae20845753d4a08044da6e2db31cb94246175f0b417924984c799af1c3c93e", func := "hogshead/hogsheadlaw11.SiteBesides", spec := "siteBesides", unfollowed := true, recurses := true, apart := false, narrowed := true }
def SiteBesidesUptoSaid : Prop := siteBesidesUptoRow.holds Try.pinned (OpenSpec.upto siteBesidesSpec)

/-- 'hogsheadlaw11.SiteAll', WHERE WHAT IT READS IS OF BULK AT MOST 1048576: true; the input reads as it did. -/
def siteAllUptoRow : OpenClaim := { program := "ythalaihpgjniiaa", sum := "6bae20845753d4a08044da6e2db31cb94246175f0b417924984c799af1c3c93e", func := "hogshead/hogsheadlaw11.SiteAll", spec := "siteAll", unfollowed := true, recurses := true, apart := false, narrowed := true }
def SiteAllUptoSaid : Prop := siteAllUptoRow.holds Try.pinned (OpenSpec.upto siteAllSpec)

/-- 'hogsheadlaw11.SiteThird', WHERE WHAT IT READS IS OF BULK AT MOST 1048576: true; the input reads as it did. -/
def siteThirdUptoRow : OpenClaim := { program := "ythalaihpgjniiaa", sum := "6bae20845753d4a08044da6e2db31cb94246175f0b417924984c799af1c3c93e", func := "hogshead/hogsheadlaw11.SiteThird", spec := "siteThird", unfollowed := true, recurses := true, apart := false, narrowed := true }
def SiteThirdUptoSaid : Prop := siteThirdUptoRow.holds Try.pinned (OpenSpec.upto siteThirdSpec)

end Rows
end Go.Proofs.Ythalaihpgjniiaa
