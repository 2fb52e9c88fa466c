import Derived.Test.YtgbnpnenejgnnaaEnclosePartsL
/-
  EncloseParts, proved: for every two whole numbers and every number that can be read as data, the Go function photonmeshlaw05.EncloseParts returns true: the least span for the fraction and the rectangle of the exact number are what the document's answers are, errors and all; nothing that came in is changed. No conditions beside the row's own.
-/
namespace Go.Proofs.Ytgbnpnenejgnnaa
open Go.ChangeShapes Go.WideShapes Go.ChangeAt Go.RowKit Go.Joins
theorem and_t {a b : Bool} (ha : a = true) (hb : b = true) : (a && b) = true := by rw [ha, hb]; rfl
theorem jf0 : (Rows.enclosePartsRow.wf (OpenSpec.ofChange Rows.enclosePartsSpec)) = true := by kernel_rfl
theorem jf1 : (laidOutB Try.pinned.checked.prog) = true := by kernel_rfl
theorem jf2 : (mapsRowed Try.pinned.checked.prog) = true := by kernel_rfl
theorem jf3 : (Try.f15.params.all (Try.pinned.checked.prog.readableRec ·)) = true := by kernel_rfl
theorem jf4 : (namedTie Try.pinned.checked.prog Rows.enclosePartsRow.named Rows.enclosePartsSpec.vars) = true := by kernel_rfl
theorem jf5 : ((Rows.enclosePartsRow.stops == [])) = true := by kernel_rfl
theorem jf6 : ((Try.pinned.checked.prog.stops == [])) = true := by kernel_rfl
theorem jf7 : ((Rows.enclosePartsRow.knobs == [])) = true := by kernel_rfl
theorem jf8 : ((Try.pinned.checked.prog.stopKnobs == [])) = true := by kernel_rfl
theorem jf9 : ((Rows.enclosePartsRow.inPlace == Try.pinned.checked.prog.inPlace 15)) = true := by kernel_rfl
theorem jf10 : ((Rows.enclosePartsRow.unfollowed == Try.pinned.checked.prog.unfollowed 15)) = true := by kernel_rfl
theorem jf11 : ((Rows.enclosePartsRow.recurses == Try.pinned.checked.prog.recurses 15)) = true := by kernel_rfl
theorem jf12 : ((Rows.enclosePartsRow.named == Try.pinned.checked.prog.varsNamed 15)) = true := by kernel_rfl
theorem jf13 : ((Rows.enclosePartsRow.maps == (Try.f15.params.toList ++ Rows.enclosePartsSpec.plain.varTypes Try.pinned.checked.prog).any (Try.pinned.checked.prog.mapsRec ·))) = true := by kernel_rfl
theorem jf14 : ((Rows.enclosePartsRow.ifaces == (Try.f15.params.toList ++ Rows.enclosePartsSpec.plain.varTypes Try.pinned.checked.prog).any (Try.pinned.checked.prog.ifacesRec ·))) = true := by kernel_rfl
theorem jf15 : ((Rows.enclosePartsRow.mapsOut == Try.pinned.checked.prog.mapsAmong Try.f15.resultTypes.toList)) = true := by kernel_rfl
theorem jf16 : ((Rows.enclosePartsRow.loops == (Try.f15.params.toList ++ Rows.enclosePartsSpec.plain.varTypes Try.pinned.checked.prog).any (Try.pinned.checked.prog.loopsFrom ·))) = true := by kernel_rfl
theorem jf17 : ((Rows.enclosePartsRow.wideKeys == (Try.f15.params.toList ++ Rows.enclosePartsSpec.plain.varTypes Try.pinned.checked.prog ++ Try.f15.resultTypes.toList).any (Try.pinned.checked.prog.wideKeysFrom ·))) = true := by kernel_rfl
theorem jf18 : (Rows.enclosePartsSpec.vars.all (Try.pinned.checked.prog.varReadable ·)) = true := by kernel_rfl
theorem jf19 : (Try.f15.resultTypes.all (fun t => Try.pinned.checked.prog.readableRec t && decide (t < Try.pinned.checked.prog.types.size))) = true := by kernel_rfl
theorem jf20 : ((Rows.enclosePartsRow.ifacesOut == Try.f15.resultTypes.toList.any (Try.pinned.checked.prog.ifacesRec ·))) = true := by kernel_rfl
theorem jf21 : ((Rows.enclosePartsRow.loopsOut == Try.f15.resultTypes.toList.any (Try.pinned.checked.prog.loopsFrom ·))) = true := by kernel_rfl
theorem jf22 : ((Rows.enclosePartsRow.plainKeys == Try.pinned.checked.prog.plainKeys)) = true := by kernel_rfl
theorem jf23 : (Rows.enclosePartsRow.shortTexts.isNone) = true := by kernel_rfl
theorem jf24 : (Try.pinned.checked.prog.stopsHeard) = true := by kernel_rfl
theorem jf25 : (Try.pinned.checked.prog.mayEnter) = true := by kernel_rfl
theorem jf26 : ((Rows.enclosePartsRow.lifted == Try.pinned.checked.prog.liftsFinal)) = true := by kernel_rfl
theorem jf27 : ((Try.pinned.checked.prog.make == some Rows.enclosePartsRow.make)) = true := by kernel_rfl
theorem jf28 : ((Rows.enclosePartsRow.kinds == (if Rows.enclosePartsRow.domain.isEmpty then [] else Try.f15.params.toList.map fun t => match Try.pinned.checked.prog.underlying t with | some (.int k) => some k | _ => none))) = true := by kernel_rfl
theorem jf29 : ((Rows.enclosePartsRow.pinned == Rows.enclosePartsRow.pinnedBy)) = true := by kernel_rfl
theorem jf30 : ((Rows.enclosePartsRow.veiled == (Try.f15.params.toList ++ Rows.enclosePartsSpec.plain.varTypes Try.pinned.checked.prog ++ Try.f15.resultTypes.toList).any (Try.pinned.checked.prog.veiledRec ·))) = true := by kernel_rfl
theorem jf31 : (Rows.enclosePartsRow.veiledFits Try.pinned.checked.prog Try.f15.params.toList (Try.f15.params.toList ++ Rows.enclosePartsSpec.plain.varTypes Try.pinned.checked.prog ++ Try.f15.resultTypes.toList)) = true := by kernel_rfl
set_option maxRecDepth 100000 in
theorem jf_all : joinedFacts Try.pinned.checked.prog 15 Try.f15 Rows.enclosePartsSpec Rows.enclosePartsRow = true := by
  unfold joinedFacts
  exact and_t (and_t (and_t (and_t (and_t (and_t (and_t (and_t (and_t (and_t (and_t (and_t (and_t (and_t (and_t (and_t (and_t (and_t (and_t (and_t (and_t (and_t (and_t (and_t (and_t (and_t (and_t (and_t (and_t (and_t (and_t (jf0) jf1) jf2) jf3) jf4) jf5) jf6) jf7) jf8) jf9) jf10) jf11) jf12) jf13) jf14) jf15) jf16) jf17) jf18) jf19) jf20) jf21) jf22) jf23) jf24) jf25) jf26) jf27) jf28) jf29) jf30) jf31
theorem jf_named : Try.pinned.checked.prog.funcNamed Rows.enclosePartsRow.func = some 15 := by kernel_rfl
theorem jf_inst : Try.f15.isInstance Try.pinned.checked.prog Rows.enclosePartsRow.origin Rows.enclosePartsRow.targs := of_decide_eq_true (by kernel_rfl)
theorem jf_wrap : Try.f15.isWrapper Try.pinned.checked.prog Rows.enclosePartsRow.wrapper Rows.enclosePartsRow.mainSum := by unfold Func.isWrapper; rw [if_neg (of_decide_eq_false (by kernel_rfl))]; exact ⟨rfl, rfl⟩
theorem encloseParts_holds : Rows.EnclosePartsSaid :=
  OpenClaim.holds_of_wide 15 Try.f15 rfl rfl rfl rfl rfl rfl rfl ⟨rfl, rfl, rfl, rfl, rfl⟩ rfl rfl rfl rfl rfl jf_named Try.func15 jf_all
    jf_inst jf_wrap
    (fun os started H enc _ => encloseParts_lifted os started H enc)
#print axioms encloseParts_holds
end Go.Proofs.Ytgbnpnenejgnnaa
