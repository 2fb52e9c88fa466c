import Derived.Test.YtgbnpnenejgnnaaEncloseStarsL
/-
  EncloseStars, proved: for every two two-ports that can be read as data, the Go function photonmeshlaw05.EncloseStars returns true: what comes of joining them, and of exchanging the ports of the first, is what the document's answers are, errors and all; nothing that came in is changed. No conditions beside the row's own.
-/
namespace Go.Proofs.Ytgbnpnenejgnnaa
open Go.ChangeShapes Go.WideShapes Go.ChangeAt Go.RowKit Go.Joins
theorem and_t {a b : Bool} (ha : a = true) (hb : b = true) : (a && b) = true := by rw [ha, hb]; rfl
theorem jf0 : (Rows.encloseStarsRow.wf (OpenSpec.ofChange Rows.encloseStarsSpec)) = true := by kernel_rfl
theorem jf1 : (laidOutB Try.pinned.checked.prog) = true := by kernel_rfl
theorem jf2 : (mapsRowed Try.pinned.checked.prog) = true := by kernel_rfl
theorem jf3 : (Try.f9.params.all (Try.pinned.checked.prog.readableRec ·)) = true := by kernel_rfl
theorem jf4 : (namedTie Try.pinned.checked.prog Rows.encloseStarsRow.named Rows.encloseStarsSpec.vars) = true := by kernel_rfl
theorem jf5 : ((Rows.encloseStarsRow.stops == [])) = true := by kernel_rfl
theorem jf6 : ((Try.pinned.checked.prog.stops == [])) = true := by kernel_rfl
theorem jf7 : ((Rows.encloseStarsRow.knobs == [])) = true := by kernel_rfl
theorem jf8 : ((Try.pinned.checked.prog.stopKnobs == [])) = true := by kernel_rfl
theorem jf9 : ((Rows.encloseStarsRow.inPlace == Try.pinned.checked.prog.inPlace 9)) = true := by kernel_rfl
theorem jf10 : ((Rows.encloseStarsRow.unfollowed == Try.pinned.checked.prog.unfollowed 9)) = true := by kernel_rfl
theorem jf11 : ((Rows.encloseStarsRow.recurses == Try.pinned.checked.prog.recurses 9)) = true := by kernel_rfl
theorem jf12 : ((Rows.encloseStarsRow.named == Try.pinned.checked.prog.varsNamed 9)) = true := by kernel_rfl
theorem jf13 : ((Rows.encloseStarsRow.maps == (Try.f9.params.toList ++ Rows.encloseStarsSpec.plain.varTypes Try.pinned.checked.prog).any (Try.pinned.checked.prog.mapsRec ·))) = true := by kernel_rfl
theorem jf14 : ((Rows.encloseStarsRow.ifaces == (Try.f9.params.toList ++ Rows.encloseStarsSpec.plain.varTypes Try.pinned.checked.prog).any (Try.pinned.checked.prog.ifacesRec ·))) = true := by kernel_rfl
theorem jf15 : ((Rows.encloseStarsRow.mapsOut == Try.pinned.checked.prog.mapsAmong Try.f9.resultTypes.toList)) = true := by kernel_rfl
theorem jf16 : ((Rows.encloseStarsRow.loops == (Try.f9.params.toList ++ Rows.encloseStarsSpec.plain.varTypes Try.pinned.checked.prog).any (Try.pinned.checked.prog.loopsFrom ·))) = true := by kernel_rfl
theorem jf17 : ((Rows.encloseStarsRow.wideKeys == (Try.f9.params.toList ++ Rows.encloseStarsSpec.plain.varTypes Try.pinned.checked.prog ++ Try.f9.resultTypes.toList).any (Try.pinned.checked.prog.wideKeysFrom ·))) = true := by kernel_rfl
theorem jf18 : (Rows.encloseStarsSpec.vars.all (Try.pinned.checked.prog.varReadable ·)) = true := by kernel_rfl
theorem jf19 : (Try.f9.resultTypes.all (fun t => Try.pinned.checked.prog.readableRec t && decide (t < Try.pinned.checked.prog.types.size))) = true := by kernel_rfl
theorem jf20 : ((Rows.encloseStarsRow.ifacesOut == Try.f9.resultTypes.toList.any (Try.pinned.checked.prog.ifacesRec ·))) = true := by kernel_rfl
theorem jf21 : ((Rows.encloseStarsRow.loopsOut == Try.f9.resultTypes.toList.any (Try.pinned.checked.prog.loopsFrom ·))) = true := by kernel_rfl
theorem jf22 : ((Rows.encloseStarsRow.plainKeys == Try.pinned.checked.prog.plainKeys)) = true := by kernel_rfl
theorem jf23 : (Rows.encloseStarsRow.shortTexts.isNone) = true := by kernel_rfl
theorem jf24 : (Try.pinned.checked.prog.stopsHeard) = true := by kernel_rfl
theorem jf25 : (Try.pinned.checked.prog.mayEnter) = true := by kernel_rfl
theorem jf26 : ((Rows.encloseStarsRow.lifted == Try.pinned.checked.prog.liftsFinal)) = true := by kernel_rfl
theorem jf27 : ((Try.pinned.checked.prog.make == some Rows.encloseStarsRow.make)) = true := by kernel_rfl
theorem jf28 : ((Rows.encloseStarsRow.kinds == (if Rows.encloseStarsRow.domain.isEmpty then [] else Try.f9.params.toList.map fun t => match Try.pinned.checked.prog.underlying t with | some (.int k) => some k | _ => none))) = true := by kernel_rfl
theorem jf29 : ((Rows.encloseStarsRow.pinned == Rows.encloseStarsRow.pinnedBy)) = true := by kernel_rfl
theorem jf30 : ((Rows.encloseStarsRow.veiled == (Try.f9.params.toList ++ Rows.encloseStarsSpec.plain.varTypes Try.pinned.checked.prog ++ Try.f9.resultTypes.toList).any (Try.pinned.checked.prog.veiledRec ·))) = true := by kernel_rfl
theorem jf31 : (Rows.encloseStarsRow.veiledFits Try.pinned.checked.prog Try.f9.params.toList (Try.f9.params.toList ++ Rows.encloseStarsSpec.plain.varTypes Try.pinned.checked.prog ++ Try.f9.resultTypes.toList)) = true := by kernel_rfl
set_option maxRecDepth 100000 in
theorem jf_all : joinedFacts Try.pinned.checked.prog 9 Try.f9 Rows.encloseStarsSpec Rows.encloseStarsRow = true := by
  unfold joinedFacts
  exact and_t (and_t (and_t (and_t (and_t (and_t (and_t (and_t (and_t (and_t (and_t (and_t (and_t (and_t (and_t (and_t (and_t (and_t (and_t (and_t (and_t (and_t (and_t (and_t (and_t (and_t (and_t (and_t (and_t (and_t (and_t (jf0) jf1) jf2) jf3) jf4) jf5) jf6) jf7) jf8) jf9) jf10) jf11) jf12) jf13) jf14) jf15) jf16) jf17) jf18) jf19) jf20) jf21) jf22) jf23) jf24) jf25) jf26) jf27) jf28) jf29) jf30) jf31
theorem jf_named : Try.pinned.checked.prog.funcNamed Rows.encloseStarsRow.func = some 9 := by kernel_rfl
theorem jf_inst : Try.f9.isInstance Try.pinned.checked.prog Rows.encloseStarsRow.origin Rows.encloseStarsRow.targs := of_decide_eq_true (by kernel_rfl)
theorem jf_wrap : Try.f9.isWrapper Try.pinned.checked.prog Rows.encloseStarsRow.wrapper Rows.encloseStarsRow.mainSum := by unfold Func.isWrapper; rw [if_neg (of_decide_eq_false (by kernel_rfl))]; exact ⟨rfl, rfl⟩
theorem encloseStars_holds : Rows.EncloseStarsSaid :=
  OpenClaim.holds_of_wide 9 Try.f9 rfl rfl rfl rfl rfl rfl rfl ⟨rfl, rfl, rfl, rfl, rfl⟩ rfl rfl rfl rfl rfl jf_named Try.func9 jf_all
    jf_inst jf_wrap
    (fun os started H enc _ => encloseStars_lifted os started H enc)
#print axioms encloseStars_holds
end Go.Proofs.Ytgbnpnenejgnnaa
