/-
  No cell of these rows narrows 'for every input' (looked for: loops, veiled, ifaces, maps, wideKeys, modest, calm, conditions, laid).
  DERIVED. THE GIVEN ROWS OF THIS SEAT. 4 by the template 'for every input the law returns true; each argument reads behind the call as it read before'; 0 by the template 'total and deterministic' (their statements: YtbhfkgaenahchaaTotals.lean).
  GIVEN WITH THE SEED: the statements are not yours to turn. If you find one false, say at which input.
  Laid BY PROGRAM, IN A SANDBOX (cutbox-rows.mjs): the forced cells as the released guide's own fill.sh prints them over the translation e5a36e63f770b465… (all of the seat's roots in one cut). By AI agents, Wed Nov 11 2026. No macro, syntax, notation, axiom, sorry.
-/
import Derived.Test.YtbhfkgaenahchaaChecked
import GoSem.Claim
import GoSem.ClaimJoined
import GoSem.ClaimMapViews
import Derived.JoinedTies
import Derived.KernelRfl
namespace Go.Proofs.Ytbhfkgaenahchaa
/- THE CELL 'sum', in the pinned program and in every row, IS THE sha256 OF THE DUMP (.gsa) THAT YtbhfkgaenahchaaProg.lean LOADS. Nothing in Lean hashes anything: it is a label: what it is worth is what the hold of that sum in a sandbox is worth. -/
noncomputable def Try.pinned : Pinned := { name := "ytbhfkgaenahchaa", sum := "e5a36e63f770b4658d10a22a2cc99381b50cf377a712deb8154fdea1e2289361", checked := Try.checked }
namespace Rows
def none {H : Type} : Left H := { results := [], args := [] }

/-- 'guipurelaw11.SpecChecks': WHATEVER THE INPUT: true; the input reads as it did. -/
def specChecksSpec : ChangeSpec := { name := "specChecks", fn := fun _ => fun
  | [d] => { results := [.lit (.bool true)], args := [d] }
  | _ => none }
def specChecksRow : OpenClaim := { program := "ytbhfkgaenahchaa", sum := "e5a36e63f770b4658d10a22a2cc99381b50cf377a712deb8154fdea1e2289361", func := "guipure/guipurelaw11.SpecChecks", spec := "specChecks", unfollowed := true, recurses := true, apart := false }
def SpecChecksSaid : Prop := specChecksRow.holds Try.pinned (OpenSpec.ofChange specChecksSpec)

/-- ITS FALSE NEIGHBOUR: 'it returns false'. Refute it at one input. -/
def specChecksWrong : ChangeSpec := { name := "specChecks", fn := fun _ => fun
  | [d] => { results := [.lit (.bool false)], args := [d] }
  | _ => none }
def SpecChecksWrongFalsely : Prop := specChecksRow.holds Try.pinned (OpenSpec.ofChange specChecksWrong)

/-- 'guipurelaw11.SpecBuilds': WHATEVER THE INPUT: true; the input reads as it did. -/
def specBuildsSpec : ChangeSpec := { name := "specBuilds", fn := fun _ => fun
  | [d] => { results := [.lit (.bool true)], args := [d] }
  | _ => none }
def specBuildsRow : OpenClaim := { program := "ytbhfkgaenahchaa", sum := "e5a36e63f770b4658d10a22a2cc99381b50cf377a712deb8154fdea1e2289361", func := "guipure/guipurelaw11.SpecBuilds", spec := "specBuilds", unfollowed := true, recurses := true, apart := false }
def SpecBuildsSaid : Prop := specBuildsRow.holds Try.pinned (OpenSpec.ofChange specBuildsSpec)

/-- ITS FALSE NEIGHBOUR: 'it returns false'. Refute it at one input. -/
def specBuildsWrong : ChangeSpec := { name := "specBuilds", fn := fun _ => fun
  | [d] => { results := [.lit (.bool false)], args := [d] }
  | _ => none }
def SpecBuildsWrongFalsely : Prop := specBuildsRow.holds Try.pinned (OpenSpec.ofChange specBuildsWrong)

/-- 'guipurelaw11.SpecEach': WHATEVER THE INPUT: true; the input reads as it did. -/
def specEachSpec : ChangeSpec := { name := "specEach", fn := fun _ => fun
  | [d1, d2] => { results := [.lit (.bool true)], args := [d1, d2] }
  | _ => none }
def specEachRow : OpenClaim := { program := "ytbhfkgaenahchaa", sum := "e5a36e63f770b4658d10a22a2cc99381b50cf377a712deb8154fdea1e2289361", func := "guipure/guipurelaw11.SpecEach", spec := "specEach", unfollowed := true, recurses := true, apart := false }
def SpecEachSaid : Prop := specEachRow.holds Try.pinned (OpenSpec.ofChange specEachSpec)

/-- ITS FALSE NEIGHBOUR: 'it returns false'. Refute it at one input. -/
def specEachWrong : ChangeSpec := { name := "specEach", fn := fun _ => fun
  | [d1, d2] => { results := [.lit (.bool false)], args := [d1, d2] }
  | _ => none }
def SpecEachWrongFalsely : Prop := specEachRow.holds Try.pinned (OpenSpec.ofChange specEachWrong)

/-- 'guipurelaw11.SpecParts': WHATEVER THE INPUT: true; the input reads as it did. -/
def specPartsSpec : ChangeSpec := { name := "specParts", fn := fun _ => fun
  | [d] => { results := [.lit (.bool true)], args := [d] }
  | _ => none }
def specPartsRow : OpenClaim := { program := "ytbhfkgaenahchaa", sum := "e5a36e63f770b4658d10a22a2cc99381b50cf377a712deb8154fdea1e2289361", func := "guipure/guipurelaw11.SpecParts", spec := "specParts", unfollowed := true, recurses := true, apart := false }
def SpecPartsSaid : Prop := specPartsRow.holds Try.pinned (OpenSpec.ofChange specPartsSpec)

/-- ITS FALSE NEIGHBOUR: 'it returns false'. Refute it at one input. -/
def specPartsWrong : ChangeSpec := { name := "specParts", fn := fun _ => fun
  | [d] => { results := [.lit (.bool false)], args := [d] }
  | _ => none }
def SpecPartsWrongFalsely : Prop := specPartsRow.holds Try.pinned (OpenSpec.ofChange specPartsWrong)

/- THE SECOND FORM. 'bulk': how many values and letters a reading holds, each counted each time it is reached (what is shared counts as often as it is met; a slice's spare places count too). A statement '..UptoSaid' is the law's where the arguments, and the package variables that the reading takes, are together of bulk at most 1048576: NARROWER than '..Said'. Prove '..Said' where nothing that the law and all that it calls make is longer than what came in: it says more and counts as full. Else prove '..UptoSaid'. A law counts once. -/
mutual
def uptoBulk {H : Type} : DataW H → Nat
  | .lit (.string bytes) => bytes.length + 1
  | .lit _ => 1
  | .nil => 1
  | .ptr d => uptoBulk d + 1
  | .slice elems spare => uptoBulkAll elems + uptoBulkAll spare + 1
  | .agg parts => uptoBulkAll parts + 1
  | .iface _ d => uptoBulk d + 1
  | .map entries => uptoBulkEntries entries + 1
  | .held _ => 1
def uptoBulkAll {H : Type} : List (DataW H) → Nat
  | [] => 0
  | d :: r => uptoBulk d + uptoBulkAll r
def uptoBulkEntries {H : Type} : List (Lit × DataW H) → Nat
  | [] => 0
  | x :: r => uptoBulkEntry x + uptoBulkEntries r
def uptoBulkEntry {H : Type} : Lit × DataW H → Nat
  | (.string bytes, d) => bytes.length + uptoBulk d + 1
  | (_, d) => uptoBulk d + 1
 end
def uptoSmall : (H : Type) → List (DataW H) → Bool := fun _ ds => decide (uptoBulkAll ds ≤ 1048576)
def OpenSpec.upto (s : _root_.Go.ChangeSpec) : _root_.Go.OpenSpec := { _root_.Go.OpenSpec.ofChange s with cond := some uptoSmall }

/-- 'guipurelaw11.SpecChecks', WHERE WHAT IT READS IS OF BULK AT MOST 1048576: true; the input reads as it did. -/
def specChecksUptoRow : OpenClaim := { program := "ytbhfkgaenahchaa", sum := "e5a36e63f770b4658d10a22a2cc99381b50cf377a712deb8154fdea1e2289361", func := "guipure/guipurelaw11.SpecChecks", spec := "specChecks", unfollowed := true, recurses := true, apart := false, narrowed := true }
def SpecChecksUptoSaid : Prop := specChecksUptoRow.holds Try.pinned (OpenSpec.upto specChecksSpec)

/-- 'guipurelaw11.SpecBuilds', WHERE WHAT IT READS IS OF BULK AT MOST 1048576: true; the input reads as it did. -/
def specBuildsUptoRow : OpenClaim := { program := "ytbhfkgaenahchaa", sum := "e5a36e63f770b4658d10a22a2cc99381b50cf377a712deb8154fdea1e2289361", func := "guipure/guipurelaw11.SpecBuilds", spec := "specBuilds", unfollowed := true, recurses := true, apart := false, narrowed := true }
def SpecBuildsUptoSaid : Prop := specBuildsUptoRow.holds Try.pinned (OpenSpec.upto specBuildsSpec)

/-- 'guipurelaw11.SpecEach', WHERE WHAT IT READS IS OF BULK AT MOST 1048576: true; the input reads as it did. -/
def specEachUptoRow : OpenClaim := { program := "ytbhfkgaenahchaa", sum := "e5a36e63f770b4658d10a22a2cc99381b50cf377a712deb8154fdea1e2289361", func := "guipure/guipurelaw11.SpecEach", spec := "specEach", unfollowed := true, recurses := true, apart := false, narrowed := true }
def SpecEachUptoSaid : Prop := specEachUptoRow.holds Try.pinned (OpenSpec.upto specEachSpec)

/-- 'guipurelaw11.SpecParts', WHERE WHAT IT READS IS OF BULK AT MOST 1048576: true; the input reads as it did. -/
def specPartsUptoRow : OpenClaim := { program := "ytbhfkgaenahchaa", sum := "e5a36e63f770b4658d10a22a2cc99381b50cf377a712deb8154fdea1e2289361", func := "guipure/guipurelaw11.SpecParts", spec := "specParts", unfollowed := true, recurses := true, apart := false, narrowed := true }
def SpecPartsUptoSaid : Prop := specPartsUptoRow.holds Try.pinned (OpenSpec.upto specPartsSpec)

end Rows
end Go.Proofs.Ytbhfkgaenahchaa
