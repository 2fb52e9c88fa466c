/-
  No cell of these rows narrows 'for every input' (looked for: loops, veiled, ifaces, maps, wideKeys, modest, calm, conditions, laid).
  DERIVED. THE GIVEN ROWS OF THIS SEAT. 3 by the template 'for every input the law returns true; each argument reads behind the call as it read before'; 0 by the template 'total and deterministic' (their statements: YtpjfpkhcadombaaTotals.lean).
  GIVEN WITH THE SEED: the statements are not yours to turn. If you find one false, say at which input.
  Laid BY PROGRAM, IN A SANDBOX (cutbox-rows.mjs): the forced cells as the released guide's own fill.sh prints them over the translation a62e58848b42b4df… (all of the seat's roots in one cut). By AI agents, Wed Nov 11 2026. No macro, syntax, notation, axiom, sorry.
-/
import Derived.Test.YtpjfpkhcadombaaChecked
import GoSem.Claim
import GoSem.ClaimJoined
import GoSem.ClaimMapViews
import Derived.JoinedTies
import Derived.KernelRfl
namespace Go.Proofs.Ytpjfpkhcadombaa
/- THE CELL 'sum', in the pinned program and in every row, IS THE sha256 OF THE DUMP (.gsa) THAT YtpjfpkhcadombaaProg.lean LOADS. Nothing in Lean hashes anything: it is a label: what it is worth is what the hold of that sum in a sandbox is worth. -/
noncomputable def Try.pinned : Pinned := { name := "ytpjfpkhcadombaa", sum := "a62e58848b42b4df341b0d3037b6cfb058ded3e78c332ee342b65bc2014ccb4e", checked := Try.checked }
namespace Rows
def none {H : Type} : Left H := { results := [], args := [] }

/-- 'photonmeshlaw04.SynthPerms': WHATEVER THE INPUT: true; the input reads as it did. -/
def synthPermsSpec : ChangeSpec := { name := "synthPerms", fn := fun _ => fun
  | [d] => { results := [.lit (.bool true)], args := [d] }
  | _ => none }
def synthPermsRow : OpenClaim := { program := "ytpjfpkhcadombaa", sum := "a62e58848b42b4df341b0d3037b6cfb058ded3e78c332ee342b65bc2014ccb4e", func := "photonmesh/photonmeshlaw04.SynthPerms", spec := "synthPerms", unfollowed := true, recurses := true, apart := false }
def SynthPermsSaid : Prop := synthPermsRow.holds Try.pinned (OpenSpec.ofChange synthPermsSpec)

/-- ITS FALSE NEIGHBOUR: 'it returns false'. Refute it at one input. -/
def synthPermsWrong : ChangeSpec := { name := "synthPerms", fn := fun _ => fun
  | [d] => { results := [.lit (.bool false)], args := [d] }
  | _ => none }
def SynthPermsWrongFalsely : Prop := synthPermsRow.holds Try.pinned (OpenSpec.ofChange synthPermsWrong)

/-- 'photonmeshlaw04.SynthComposes': WHATEVER THE INPUT: true; the input reads as it did. -/
def synthComposesSpec : ChangeSpec := { name := "synthComposes", fn := fun _ => fun
  | [d1, d2] => { results := [.lit (.bool true)], args := [d1, d2] }
  | _ => none }
def synthComposesRow : OpenClaim := { program := "ytpjfpkhcadombaa", sum := "a62e58848b42b4df341b0d3037b6cfb058ded3e78c332ee342b65bc2014ccb4e", func := "photonmesh/photonmeshlaw04.SynthComposes", spec := "synthComposes", unfollowed := true, recurses := true, apart := false }
def SynthComposesSaid : Prop := synthComposesRow.holds Try.pinned (OpenSpec.ofChange synthComposesSpec)

/-- ITS FALSE NEIGHBOUR: 'it returns false'. Refute it at one input. -/
def synthComposesWrong : ChangeSpec := { name := "synthComposes", fn := fun _ => fun
  | [d1, d2] => { results := [.lit (.bool false)], args := [d1, d2] }
  | _ => none }
def SynthComposesWrongFalsely : Prop := synthComposesRow.holds Try.pinned (OpenSpec.ofChange synthComposesWrong)

/-- 'photonmeshlaw04.SynthPermsOf': WHATEVER THE INPUT: true; the input reads as it did. -/
def synthPermsOfSpec : ChangeSpec := { name := "synthPermsOf", fn := fun _ => fun
  | [d1, d2] => { results := [.lit (.bool true)], args := [d1, d2] }
  | _ => none }
def synthPermsOfRow : OpenClaim := { program := "ytpjfpkhcadombaa", sum := "a62e58848b42b4df341b0d3037b6cfb058ded3e78c332ee342b65bc2014ccb4e", func := "photonmesh/photonmeshlaw04.SynthPermsOf", spec := "synthPermsOf", unfollowed := true, recurses := true, apart := false }
def SynthPermsOfSaid : Prop := synthPermsOfRow.holds Try.pinned (OpenSpec.ofChange synthPermsOfSpec)

/-- ITS FALSE NEIGHBOUR: 'it returns false'. Refute it at one input. -/
def synthPermsOfWrong : ChangeSpec := { name := "synthPermsOf", fn := fun _ => fun
  | [d1, d2] => { results := [.lit (.bool false)], args := [d1, d2] }
  | _ => none }
def SynthPermsOfWrongFalsely : Prop := synthPermsOfRow.holds Try.pinned (OpenSpec.ofChange synthPermsOfWrong)

/- THE SECOND FORM. 'bulk': how many values and letters a reading holds, each counted each time it is reached (what is shared counts as often as it is met; a slice's spare places count too). A statement '..UptoSaid' is the law's where the arguments, and the package variables that the reading takes, are together of bulk at most 1048576: NARROWER than '..Said'. Prove '..Said' where nothing that the law and all that it calls make is longer than what came in: it says more and counts as full. Else prove '..UptoSaid'. A law counts once. -/
mutual
def uptoBulk {H : Type} : DataW H → Nat
  | .lit (.string bytes) => bytes.length + 1
  | .lit _ => 1
  | .nil => 1
  | .ptr d => uptoBulk d + 1
  | .slice elems spare => uptoBulkAll elems + uptoBulkAll spare + 1
  | .agg parts => uptoBulkAll parts + 1
  | .iface _ d => uptoBulk d + 1
  | .map entries => uptoBulkEntries entries + 1
  | .held _ => 1
def uptoBulkAll {H : Type} : List (DataW H) → Nat
  | [] => 0
  | d :: r => uptoBulk d + uptoBulkAll r
def uptoBulkEntries {H : Type} : List (Lit × DataW H) → Nat
  | [] => 0
  | x :: r => uptoBulkEntry x + uptoBulkEntries r
def uptoBulkEntry {H : Type} : Lit × DataW H → Nat
  | (.string bytes, d) => bytes.length + uptoBulk d + 1
  | (_, d) => uptoBulk d + 1
 end
def uptoSmall : (H : Type) → List (DataW H) → Bool := fun _ ds => decide (uptoBulkAll ds ≤ 1048576)
def OpenSpec.upto (s : _root_.Go.ChangeSpec) : _root_.Go.OpenSpec := { _root_.Go.OpenSpec.ofChange s with cond := some uptoSmall }

/-- 'photonmeshlaw04.SynthPerms', WHERE WHAT IT READS IS OF BULK AT MOST 1048576: true; the input reads as it did. -/
def synthPermsUptoRow : OpenClaim := { program := "ytpjfpkhcadombaa", sum := "a62e58848b42b4df341b0d3037b6cfb058ded3e78c332ee342b65bc2014ccb4e", func := "photonmesh/photonmeshlaw04.SynthPerms", spec := "synthPerms", unfollowed := true, recurses := true, apart := false, narrowed := true }
def SynthPermsUptoSaid : Prop := synthPermsUptoRow.holds Try.pinned (OpenSpec.upto synthPermsSpec)

/-- 'photonmeshlaw04.SynthComposes', WHERE WHAT IT READS IS OF BULK AT MOST 1048576: true; the input reads as it did. -/
def synthComposesUptoRow : OpenClaim := { program := "ytpjfpkhcadombaa", sum := "a62e58848b42b4df341b0d3037b6cfb058ded3e78c332ee342b65bc2014ccb4e", func := "photonmesh/photonmeshlaw04.SynthComposes", spec := "synthComposes", unfollowed := true, recurses := true, apart := false, narrowed := true }
def SynthComposesUptoSaid : Prop := synthComposesUptoRow.holds Try.pinned (OpenSpec.upto synthComposesSpec)

/-- 'photonmeshlaw04.SynthPermsOf', WHERE WHAT IT READS IS OF BULK AT MOST 1048576: true; the input reads as it did. -/
def synthPermsOfUptoRow : OpenClaim := { program := "ytpjfpkhcadombaa", sum := "a62e58848b42b4df341b0d3037b6cfb058ded3e78c332ee342b65bc2014ccb4e", func := "photonmesh/photonmeshlaw04.SynthPermsOf", spec := "synthPermsOf", unfollowed := true, recurses := true, apart := false, narrowed := true }
def SynthPermsOfUptoSaid : Prop := synthPermsOfUptoRow.holds Try.pinned (OpenSpec.upto synthPermsOfSpec)

end Rows
end Go.Proofs.Ytpjfpkhcadombaa
