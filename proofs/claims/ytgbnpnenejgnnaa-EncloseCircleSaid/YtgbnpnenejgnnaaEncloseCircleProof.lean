import Derived.Test.YtgbnpnenejgnnaaEncloseCircleL
/-
  EncloseCircle, proved: for every whole number that can be read as data, the Go function photonmeshlaw05.EncloseCircle returns true: the power of a point of the unit circle encloses 1, eighths of a turn enclose the powers of w, and a whole turn changes nothing. No conditions beside the row's own.
-/
namespace Go.Proofs.Ytgbnpnenejgnnaa
open Go.ChangeShapes Go.WideShapes Go.ChangeAt Go.RowKit Go.Joins
theorem and_t {a b : Bool} (ha : a = true) (hb : b = true) : (a && b) = true := by rw [ha, hb]; rfl
theorem jf0 : (Rows.encloseCircleRow.wf (OpenSpec.ofChange Rows.encloseCircleSpec)) = true := by kernel_rfl
theorem jf1 : (laidOutB Try.pinned.checked.prog) = true := by kernel_rfl
theorem jf2 : (mapsRowed Try.pinned.checked.prog) = true := by kernel_rfl
theorem jf3 : (Try.f17.params.all (Try.pinned.checked.prog.readableRec ·)) = true := by kernel_rfl
theorem jf4 : (namedTie Try.pinned.checked.prog Rows.encloseCircleRow.named Rows.encloseCircleSpec.vars) = true := by kernel_rfl
theorem jf5 : ((Rows.encloseCircleRow.stops == [])) = true := by kernel_rfl
theorem jf6 : ((Try.pinned.checked.prog.stops == [])) = true := by kernel_rfl
theorem jf7 : ((Rows.encloseCircleRow.knobs == [])) = true := by kernel_rfl
theorem jf8 : ((Try.pinned.checked.prog.stopKnobs == [])) = true := by kernel_rfl
theorem jf9 : ((Rows.encloseCircleRow.inPlace == Try.pinned.checked.prog.inPlace 17)) = true := by kernel_rfl
theorem jf10 : ((Rows.encloseCircleRow.unfollowed == Try.pinned.checked.prog.unfollowed 17)) = true := by kernel_rfl
theorem jf11 : ((Rows.encloseCircleRow.recurses == Try.pinned.checked.prog.recurses 17)) = true := by kernel_rfl
theorem jf12 : ((Rows.encloseCircleRow.named == Try.pinned.checked.prog.varsNamed 17)) = true := by kernel_rfl
theorem jf13 : ((Rows.encloseCircleRow.maps == (Try.f17.params.toList ++ Rows.encloseCircleSpec.plain.varTypes Try.pinned.checked.prog).any (Try.pinned.checked.prog.mapsRec ·))) = true := by kernel_rfl
theorem jf14 : ((Rows.encloseCircleRow.ifaces == (Try.f17.params.toList ++ Rows.encloseCircleSpec.plain.varTypes Try.pinned.checked.prog).any (Try.pinned.checked.prog.ifacesRec ·))) = true := by kernel_rfl
theorem jf15 : ((Rows.encloseCircleRow.mapsOut == Try.pinned.checked.prog.mapsAmong Try.f17.resultTypes.toList)) = true := by kernel_rfl
theorem jf16 : ((Rows.encloseCircleRow.loops == (Try.f17.params.toList ++ Rows.encloseCircleSpec.plain.varTypes Try.pinned.checked.prog).any (Try.pinned.checked.prog.loopsFrom ·))) = true := by kernel_rfl
theorem jf17 : ((Rows.encloseCircleRow.wideKeys == (Try.f17.params.toList ++ Rows.encloseCircleSpec.plain.varTypes Try.pinned.checked.prog ++ Try.f17.resultTypes.toList).any (Try.pinned.checked.prog.wideKeysFrom ·))) = true := by kernel_rfl
theorem jf18 : (Rows.encloseCircleSpec.vars.all (Try.pinned.checked.prog.varReadable ·)) = true := by kernel_rfl
theorem jf19 : (Try.f17.resultTypes.all (fun t => Try.pinned.checked.prog.readableRec t && decide (t < Try.pinned.checked.prog.types.size))) = true := by kernel_rfl
theorem jf20 : ((Rows.encloseCircleRow.ifacesOut == Try.f17.resultTypes.toList.any (Try.pinned.checked.prog.ifacesRec ·))) = true := by kernel_rfl
theorem jf21 : ((Rows.encloseCircleRow.loopsOut == Try.f17.resultTypes.toList.any (Try.pinned.checked.prog.loopsFrom ·))) = true := by kernel_rfl
theorem jf22 : ((Rows.encloseCircleRow.plainKeys == Try.pinned.checked.prog.plainKeys)) = true := by kernel_rfl
theorem jf23 : (Rows.encloseCircleRow.shortTexts.isNone) = true := by kernel_rfl
theorem jf24 : (Try.pinned.checked.prog.stopsHeard) = true := by kernel_rfl
theorem jf25 : (Try.pinned.checked.prog.mayEnter) = true := by kernel_rfl
theorem jf26 : ((Rows.encloseCircleRow.lifted == Try.pinned.checked.prog.liftsFinal)) = true := by kernel_rfl
theorem jf27 : ((Try.pinned.checked.prog.make == some Rows.encloseCircleRow.make)) = true := by kernel_rfl
theorem jf28 : ((Rows.encloseCircleRow.kinds == (if Rows.encloseCircleRow.domain.isEmpty then [] else Try.f17.params.toList.map fun t => match Try.pinned.checked.prog.underlying t with | some (.int k) => some k | _ => none))) = true := by kernel_rfl
theorem jf29 : ((Rows.encloseCircleRow.pinned == Rows.encloseCircleRow.pinnedBy)) = true := by kernel_rfl
theorem jf30 : ((Rows.encloseCircleRow.veiled == (Try.f17.params.toList ++ Rows.encloseCircleSpec.plain.varTypes Try.pinned.checked.prog ++ Try.f17.resultTypes.toList).any (Try.pinned.checked.prog.veiledRec ·))) = true := by kernel_rfl
theorem jf31 : (Rows.encloseCircleRow.veiledFits Try.pinned.checked.prog Try.f17.params.toList (Try.f17.params.toList ++ Rows.encloseCircleSpec.plain.varTypes Try.pinned.checked.prog ++ Try.f17.resultTypes.toList)) = true := by kernel_rfl
set_option maxRecDepth 100000 in
theorem jf_all : joinedFacts Try.pinned.checked.prog 17 Try.f17 Rows.encloseCircleSpec Rows.encloseCircleRow = true := by
  unfold joinedFacts
  exact and_t (and_t (and_t (and_t (and_t (and_t (and_t (and_t (and_t (and_t (and_t (and_t (and_t (and_t (and_t (and_t (and_t (and_t (and_t (and_t (and_t (and_t (and_t (and_t (and_t (and_t (and_t (and_t (and_t (and_t (and_t (jf0) jf1) jf2) jf3) jf4) jf5) jf6) jf7) jf8) jf9) jf10) jf11) jf12) jf13) jf14) jf15) jf16) jf17) jf18) jf19) jf20) jf21) jf22) jf23) jf24) jf25) jf26) jf27) jf28) jf29) jf30) jf31
theorem jf_named : Try.pinned.checked.prog.funcNamed Rows.encloseCircleRow.func = some 17 := by kernel_rfl
theorem jf_inst : Try.f17.isInstance Try.pinned.checked.prog Rows.encloseCircleRow.origin Rows.encloseCircleRow.targs := of_decide_eq_true (by kernel_rfl)
theorem jf_wrap : Try.f17.isWrapper Try.pinned.checked.prog Rows.encloseCircleRow.wrapper Rows.encloseCircleRow.mainSum := by unfold Func.isWrapper; rw [if_neg (of_decide_eq_false (by kernel_rfl))]; exact ⟨rfl, rfl⟩
theorem encloseCircle_holds : Rows.EncloseCircleSaid :=
  OpenClaim.holds_of_wide 17 Try.f17 rfl rfl rfl rfl rfl rfl rfl ⟨rfl, rfl, rfl, rfl, rfl⟩ rfl rfl rfl rfl rfl jf_named Try.func17 jf_all
    jf_inst jf_wrap
    (fun os started H enc _ => encloseCircle_lifted os started H enc)
#print axioms encloseCircle_holds
end Go.Proofs.Ytgbnpnenejgnnaa
