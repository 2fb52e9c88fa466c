/-
  No cell of these rows narrows 'for every input' (looked for: loops, veiled, ifaces, maps, wideKeys, modest, calm, conditions, laid).
  DERIVED. THE GIVEN ROWS OF THIS SEAT. 6 by the template 'for every input the law returns true; each argument reads behind the call as it read before'; 0 by the template 'total and deterministic' (their statements: YtjodjfllgofkaaaTotals.lean).
  GIVEN WITH THE SEED: the statements are not yours to turn. If you find one false, say at which input.
  Laid BY PROGRAM, IN A SANDBOX (cutbox-rows.mjs): the forced cells as the released guide's own fill.sh prints them over the translation c9a880aed70c4084… (all of the seat's roots in one cut). By AI agents, Wed Nov 11 2026. No macro, syntax, notation, axiom, sorry.
-/
import Derived.Test.YtjodjfllgofkaaaChecked
import GoSem.Claim
import GoSem.ClaimJoined
import GoSem.ClaimMapViews
import Derived.JoinedTies
import Derived.KernelRfl
namespace Go.Proofs.Ytjodjfllgofkaaa
/- THE CELL 'sum', in the pinned program and in every row, IS THE sha256 OF THE DUMP (.gsa) THAT YtjodjfllgofkaaaProg.lean LOADS. Nothing in Lean hashes anything: it is a label: what it is worth is what the hold of that sum in a sandbox is worth. -/
noncomputable def Try.pinned : Pinned := { name := "ytjodjfllgofkaaa", sum := "c9a880aed70c40847fac6997c6f7270069714395513c5e685bebffe365a64863", checked := Try.checked }
namespace Rows
def none {H : Type} : Left H := { results := [], args := [] }

/-- 'photonmeshlaw03.MeshItems': WHATEVER THE INPUT: true; the input reads as it did. -/
def meshItemsSpec : ChangeSpec := { name := "meshItems", fn := fun _ => fun
  | [d1, d2, d3] => { results := [.lit (.bool true)], args := [d1, d2, d3] }
  | _ => none }
def meshItemsRow : OpenClaim := { program := "ytjodjfllgofkaaa", sum := "c9a880aed70c40847fac6997c6f7270069714395513c5e685bebffe365a64863", func := "photonmesh/photonmeshlaw03.MeshItems", spec := "meshItems", unfollowed := true, recurses := true, apart := false }
def MeshItemsSaid : Prop := meshItemsRow.holds Try.pinned (OpenSpec.ofChange meshItemsSpec)

/-- ITS FALSE NEIGHBOUR: 'it returns false'. Refute it at one input. -/
def meshItemsWrong : ChangeSpec := { name := "meshItems", fn := fun _ => fun
  | [d1, d2, d3] => { results := [.lit (.bool false)], args := [d1, d2, d3] }
  | _ => none }
def MeshItemsWrongFalsely : Prop := meshItemsRow.holds Try.pinned (OpenSpec.ofChange meshItemsWrong)

/-- 'photonmeshlaw03.MeshColumns': WHATEVER THE INPUT: true; the input reads as it did. -/
def meshColumnsSpec : ChangeSpec := { name := "meshColumns", fn := fun _ => fun
  | [d1, d2] => { results := [.lit (.bool true)], args := [d1, d2] }
  | _ => none }
def meshColumnsRow : OpenClaim := { program := "ytjodjfllgofkaaa", sum := "c9a880aed70c40847fac6997c6f7270069714395513c5e685bebffe365a64863", func := "photonmesh/photonmeshlaw03.MeshColumns", spec := "meshColumns", unfollowed := true, recurses := true, apart := false }
def MeshColumnsSaid : Prop := meshColumnsRow.holds Try.pinned (OpenSpec.ofChange meshColumnsSpec)

/-- ITS FALSE NEIGHBOUR: 'it returns false'. Refute it at one input. -/
def meshColumnsWrong : ChangeSpec := { name := "meshColumns", fn := fun _ => fun
  | [d1, d2] => { results := [.lit (.bool false)], args := [d1, d2] }
  | _ => none }
def MeshColumnsWrongFalsely : Prop := meshColumnsRow.holds Try.pinned (OpenSpec.ofChange meshColumnsWrong)

/-- 'photonmeshlaw03.MeshChanges': WHATEVER THE INPUT: true; the input reads as it did. -/
def meshChangesSpec : ChangeSpec := { name := "meshChanges", fn := fun _ => fun
  | [d1, d2, d3, d4] => { results := [.lit (.bool true)], args := [d1, d2, d3, d4] }
  | _ => none }
def meshChangesRow : OpenClaim := { program := "ytjodjfllgofkaaa", sum := "c9a880aed70c40847fac6997c6f7270069714395513c5e685bebffe365a64863", func := "photonmesh/photonmeshlaw03.MeshChanges", spec := "meshChanges", unfollowed := true, recurses := true, apart := false }
def MeshChangesSaid : Prop := meshChangesRow.holds Try.pinned (OpenSpec.ofChange meshChangesSpec)

/-- ITS FALSE NEIGHBOUR: 'it returns false'. Refute it at one input. -/
def meshChangesWrong : ChangeSpec := { name := "meshChanges", fn := fun _ => fun
  | [d1, d2, d3, d4] => { results := [.lit (.bool false)], args := [d1, d2, d3, d4] }
  | _ => none }
def MeshChangesWrongFalsely : Prop := meshChangesRow.holds Try.pinned (OpenSpec.ofChange meshChangesWrong)

/-- 'photonmeshlaw04.SynthEquals': WHATEVER THE INPUT: true; the input reads as it did. -/
def synthEqualsSpec : ChangeSpec := { name := "synthEquals", fn := fun _ => fun
  | [d1, d2, d3] => { results := [.lit (.bool true)], args := [d1, d2, d3] }
  | _ => none }
def synthEqualsRow : OpenClaim := { program := "ytjodjfllgofkaaa", sum := "c9a880aed70c40847fac6997c6f7270069714395513c5e685bebffe365a64863", func := "photonmesh/photonmeshlaw04.SynthEquals", spec := "synthEquals", unfollowed := true, recurses := true, apart := false }
def SynthEqualsSaid : Prop := synthEqualsRow.holds Try.pinned (OpenSpec.ofChange synthEqualsSpec)

/-- ITS FALSE NEIGHBOUR: 'it returns false'. Refute it at one input. -/
def synthEqualsWrong : ChangeSpec := { name := "synthEquals", fn := fun _ => fun
  | [d1, d2, d3] => { results := [.lit (.bool false)], args := [d1, d2, d3] }
  | _ => none }
def SynthEqualsWrongFalsely : Prop := synthEqualsRow.holds Try.pinned (OpenSpec.ofChange synthEqualsWrong)

/-- 'photonmeshlaw04.SynthCrosses': WHATEVER THE INPUT: true; the input reads as it did. -/
def synthCrossesSpec : ChangeSpec := { name := "synthCrosses", fn := fun _ => fun
  | [d] => { results := [.lit (.bool true)], args := [d] }
  | _ => none }
def synthCrossesRow : OpenClaim := { program := "ytjodjfllgofkaaa", sum := "c9a880aed70c40847fac6997c6f7270069714395513c5e685bebffe365a64863", func := "photonmesh/photonmeshlaw04.SynthCrosses", spec := "synthCrosses", unfollowed := true, recurses := true, apart := false }
def SynthCrossesSaid : Prop := synthCrossesRow.holds Try.pinned (OpenSpec.ofChange synthCrossesSpec)

/-- ITS FALSE NEIGHBOUR: 'it returns false'. Refute it at one input. -/
def synthCrossesWrong : ChangeSpec := { name := "synthCrosses", fn := fun _ => fun
  | [d] => { results := [.lit (.bool false)], args := [d] }
  | _ => none }
def SynthCrossesWrongFalsely : Prop := synthCrossesRow.holds Try.pinned (OpenSpec.ofChange synthCrossesWrong)

/-- 'photonmeshlaw03.MeshJoins': WHATEVER THE INPUT: true; the input reads as it did. -/
def meshJoinsSpec : ChangeSpec := { name := "meshJoins", fn := fun _ => fun
  | [d1, d2, d3, d4] => { results := [.lit (.bool true)], args := [d1, d2, d3, d4] }
  | _ => none }
def meshJoinsRow : OpenClaim := { program := "ytjodjfllgofkaaa", sum := "c9a880aed70c40847fac6997c6f7270069714395513c5e685bebffe365a64863", func := "photonmesh/photonmeshlaw03.MeshJoins", spec := "meshJoins", unfollowed := true, recurses := true, apart := false }
def MeshJoinsSaid : Prop := meshJoinsRow.holds Try.pinned (OpenSpec.ofChange meshJoinsSpec)

/-- ITS FALSE NEIGHBOUR: 'it returns false'. Refute it at one input. -/
def meshJoinsWrong : ChangeSpec := { name := "meshJoins", fn := fun _ => fun
  | [d1, d2, d3, d4] => { results := [.lit (.bool false)], args := [d1, d2, d3, d4] }
  | _ => none }
def MeshJoinsWrongFalsely : Prop := meshJoinsRow.holds Try.pinned (OpenSpec.ofChange meshJoinsWrong)

/- THE SECOND FORM. 'bulk': how many values and letters a reading holds, each counted each time it is reached (what is shared counts as often as it is met; a slice's spare places count too). A statement '..UptoSaid' is the law's where the arguments, and the package variables that the reading takes, are together of bulk at most 1048576: NARROWER than '..Said'. Prove '..Said' where nothing that the law and all that it calls make is longer than what came in: it says more and counts as full. Else prove '..UptoSaid'. A law counts once. -/
mutual
def uptoBulk {H : Type} : DataW H → Nat
  | .lit (.string bytes) => bytes.length + 1
  | .lit _ => 1
  | .nil => 1
  | .ptr d => uptoBulk d + 1
  | .slice elems spare => uptoBulkAll elems + uptoBulkAll spare + 1
  | .agg parts => uptoBulkAll parts + 1
  | .iface _ d => uptoBulk d + 1
  | .map entries => uptoBulkEntries entries + 1
  | .held _ => 1
def uptoBulkAll {H : Type} : List (DataW H) → Nat
  | [] => 0
  | d :: r => uptoBulk d + uptoBulkAll r
def uptoBulkEntries {H : Type} : List (Lit × DataW H) → Nat
  | [] => 0
  | x :: r => uptoBulkEntry x + uptoBulkEntries r
def uptoBulkEntry {H : Type} : Lit × DataW H → Nat
  | (.string bytes, d) => bytes.length + uptoBulk d + 1
  | (_, d) => uptoBulk d + 1
 end
def uptoSmall : (H : Type) → List (DataW H) → Bool := fun _ ds => decide (uptoBulkAll ds ≤ 1048576)
def OpenSpec.upto (s : _root_.Go.ChangeSpec) : _root_.Go.OpenSpec := { _root_.Go.OpenSpec.ofChange s with cond := some uptoSmall }

/-- 'photonmeshlaw03.MeshItems', WHERE WHAT IT READS IS OF BULK AT MOST 1048576: true; the input reads as it did. -/
def meshItemsUptoRow : OpenClaim := { program := "ytjodjfllgofkaaa", sum := "c9a880aed70c40847fac6997c6f7270069714395513c5e685bebffe365a64863", func := "photonmesh/photonmeshlaw03.MeshItems", spec := "meshItems", unfollowed := true, recurses := true, apart := false, narrowed := true }
def MeshItemsUptoSaid : Prop := meshItemsUptoRow.holds Try.pinned (OpenSpec.upto meshItemsSpec)

/-- 'photonmeshlaw03.MeshColumns', WHERE WHAT IT READS IS OF BULK AT MOST 1048576: true; the input reads as it did. -/
def meshColumnsUptoRow : OpenClaim := { program := "ytjodjfllgofkaaa", sum := "c9a880aed70c40847fac6997c6f7270069714395513c5e685bebffe365a64863", func := "photonmesh/photonmeshlaw03.MeshColumns", spec := "meshColumns", unfollowed := true, recurses := true, apart := false, narrowed := true }
def MeshColumnsUptoSaid : Prop := meshColumnsUptoRow.holds Try.pinned (OpenSpec.upto meshColumnsSpec)

/-- 'photonmeshlaw03.MeshChanges', WHERE WHAT IT READS IS OF BULK AT MOST 1048576: true; the input reads as it did. -/
def meshChangesUptoRow : OpenClaim := { program := "ytjodjfllgofkaaa", sum := "c9a880aed70c40847fac6997c6f7270069714395513c5e685bebffe365a64863", func := "photonmesh/photonmeshlaw03.MeshChanges", spec := "meshChanges", unfollowed := true, recurses := true, apart := false, narrowed := true }
def MeshChangesUptoSaid : Prop := meshChangesUptoRow.holds Try.pinned (OpenSpec.upto meshChangesSpec)

/-- 'photonmeshlaw04.SynthEquals', WHERE WHAT IT READS IS OF BULK AT MOST 1048576: true; the input reads as it did. -/
def synthEqualsUptoRow : OpenClaim := { program := "ytjodjfllgofkaaa", sum := "c9a880aed70c40847fac6997c6f7270069714395513c5e685bebffe365a64863", func := "photonmesh/photonmeshlaw04.SynthEquals", spec := "synthEquals", unfollowed := true, recurses := true, apart := false, narrowed := true }
def SynthEqualsUptoSaid : Prop := synthEqualsUptoRow.holds Try.pinned (OpenSpec.upto synthEqualsSpec)

/-- 'photonmeshlaw04.SynthCrosses', WHERE WHAT IT READS IS OF BULK AT MOST 1048576: true; the input reads as it did. -/
def synthCrossesUptoRow : OpenClaim := { program := "ytjodjfllgofkaaa", sum := "c9a880aed70c40847fac6997c6f7270069714395513c5e685bebffe365a64863", func := "photonmesh/photonmeshlaw04.SynthCrosses", spec := "synthCrosses", unfollowed := true, recurses := true, apart := false, narrowed := true }
def SynthCrossesUptoSaid : Prop := synthCrossesUptoRow.holds Try.pinned (OpenSpec.upto synthCrossesSpec)

/-- 'photonmeshlaw03.MeshJoins', WHERE WHAT IT READS IS OF BULK AT MOST 1048576: true; the input reads as it did. -/
def meshJoinsUptoRow : OpenClaim := { program := "ytjodjfllgofkaaa", sum := "c9a880aed70c40847fac6997c6f7270069714395513c5e685bebffe365a64863", func := "photonmesh/photonmeshlaw03.MeshJoins", spec := "meshJoins", unfollowed := true, recurses := true, apart := false, narrowed := true }
def MeshJoinsUptoSaid : Prop := meshJoinsUptoRow.holds Try.pinned (OpenSpec.upto meshJoinsSpec)

end Rows
end Go.Proofs.Ytjodjfllgofkaaa
