import Derived.Test.YtgbnpnenejgnnaaEncloseExactL
/-
  EncloseExact, proved: for every two numbers that can be read as data, the Go function photonmeshlaw05.EncloseExact returns true: where nothing has an error, the sum, the difference and the product of the exact numbers, and the power of the first, lie in what Add, Sub, Mul and Power make of the rectangles that enclose them; nothing that came in is changed. No conditions beside the row's own.
-/
namespace Go.Proofs.Ytgbnpnenejgnnaa
open Go.ChangeShapes Go.WideShapes Go.ChangeAt Go.RowKit Go.Joins
theorem and_t {a b : Bool} (ha : a = true) (hb : b = true) : (a && b) = true := by rw [ha, hb]; rfl
theorem jf0 : (Rows.encloseExactRow.wf (OpenSpec.ofChange Rows.encloseExactSpec)) = true := by kernel_rfl
theorem jf1 : (laidOutB Try.pinned.checked.prog) = true := by kernel_rfl
theorem jf2 : (mapsRowed Try.pinned.checked.prog) = true := by kernel_rfl
theorem jf3 : (Try.f16.params.all (Try.pinned.checked.prog.readableRec ·)) = true := by kernel_rfl
theorem jf4 : (namedTie Try.pinned.checked.prog Rows.encloseExactRow.named Rows.encloseExactSpec.vars) = true := by kernel_rfl
theorem jf5 : ((Rows.encloseExactRow.stops == [])) = true := by kernel_rfl
theorem jf6 : ((Try.pinned.checked.prog.stops == [])) = true := by kernel_rfl
theorem jf7 : ((Rows.encloseExactRow.knobs == [])) = true := by kernel_rfl
theorem jf8 : ((Try.pinned.checked.prog.stopKnobs == [])) = true := by kernel_rfl
theorem jf9 : ((Rows.encloseExactRow.inPlace == Try.pinned.checked.prog.inPlace 16)) = true := by kernel_rfl
theorem jf10 : ((Rows.encloseExactRow.unfollowed == Try.pinned.checked.prog.unfollowed 16)) = true := by kernel_rfl
theorem jf11 : ((Rows.encloseExactRow.recurses == Try.pinned.checked.prog.recurses 16)) = true := by kernel_rfl
theorem jf12 : ((Rows.encloseExactRow.named == Try.pinned.checked.prog.varsNamed 16)) = true := by kernel_rfl
theorem jf13 : ((Rows.encloseExactRow.maps == (Try.f16.params.toList ++ Rows.encloseExactSpec.plain.varTypes Try.pinned.checked.prog).any (Try.pinned.checked.prog.mapsRec ·))) = true := by kernel_rfl
theorem jf14 : ((Rows.encloseExactRow.ifaces == (Try.f16.params.toList ++ Rows.encloseExactSpec.plain.varTypes Try.pinned.checked.prog).any (Try.pinned.checked.prog.ifacesRec ·))) = true := by kernel_rfl
theorem jf15 : ((Rows.encloseExactRow.mapsOut == Try.pinned.checked.prog.mapsAmong Try.f16.resultTypes.toList)) = true := by kernel_rfl
theorem jf16 : ((Rows.encloseExactRow.loops == (Try.f16.params.toList ++ Rows.encloseExactSpec.plain.varTypes Try.pinned.checked.prog).any (Try.pinned.checked.prog.loopsFrom ·))) = true := by kernel_rfl
theorem jf17 : ((Rows.encloseExactRow.wideKeys == (Try.f16.params.toList ++ Rows.encloseExactSpec.plain.varTypes Try.pinned.checked.prog ++ Try.f16.resultTypes.toList).any (Try.pinned.checked.prog.wideKeysFrom ·))) = true := by kernel_rfl
theorem jf18 : (Rows.encloseExactSpec.vars.all (Try.pinned.checked.prog.varReadable ·)) = true := by kernel_rfl
theorem jf19 : (Try.f16.resultTypes.all (fun t => Try.pinned.checked.prog.readableRec t && decide (t < Try.pinned.checked.prog.types.size))) = true := by kernel_rfl
theorem jf20 : ((Rows.encloseExactRow.ifacesOut == Try.f16.resultTypes.toList.any (Try.pinned.checked.prog.ifacesRec ·))) = true := by kernel_rfl
theorem jf21 : ((Rows.encloseExactRow.loopsOut == Try.f16.resultTypes.toList.any (Try.pinned.checked.prog.loopsFrom ·))) = true := by kernel_rfl
theorem jf22 : ((Rows.encloseExactRow.plainKeys == Try.pinned.checked.prog.plainKeys)) = true := by kernel_rfl
theorem jf23 : (Rows.encloseExactRow.shortTexts.isNone) = true := by kernel_rfl
theorem jf24 : (Try.pinned.checked.prog.stopsHeard) = true := by kernel_rfl
theorem jf25 : (Try.pinned.checked.prog.mayEnter) = true := by kernel_rfl
theorem jf26 : ((Rows.encloseExactRow.lifted == Try.pinned.checked.prog.liftsFinal)) = true := by kernel_rfl
theorem jf27 : ((Try.pinned.checked.prog.make == some Rows.encloseExactRow.make)) = true := by kernel_rfl
theorem jf28 : ((Rows.encloseExactRow.kinds == (if Rows.encloseExactRow.domain.isEmpty then [] else Try.f16.params.toList.map fun t => match Try.pinned.checked.prog.underlying t with | some (.int k) => some k | _ => none))) = true := by kernel_rfl
theorem jf29 : ((Rows.encloseExactRow.pinned == Rows.encloseExactRow.pinnedBy)) = true := by kernel_rfl
theorem jf30 : ((Rows.encloseExactRow.veiled == (Try.f16.params.toList ++ Rows.encloseExactSpec.plain.varTypes Try.pinned.checked.prog ++ Try.f16.resultTypes.toList).any (Try.pinned.checked.prog.veiledRec ·))) = true := by kernel_rfl
theorem jf31 : (Rows.encloseExactRow.veiledFits Try.pinned.checked.prog Try.f16.params.toList (Try.f16.params.toList ++ Rows.encloseExactSpec.plain.varTypes Try.pinned.checked.prog ++ Try.f16.resultTypes.toList)) = true := by kernel_rfl
set_option maxRecDepth 100000 in
theorem jf_all : joinedFacts Try.pinned.checked.prog 16 Try.f16 Rows.encloseExactSpec Rows.encloseExactRow = true := by
  unfold joinedFacts
  exact and_t (and_t (and_t (and_t (and_t (and_t (and_t (and_t (and_t (and_t (and_t (and_t (and_t (and_t (and_t (and_t (and_t (and_t (and_t (and_t (and_t (and_t (and_t (and_t (and_t (and_t (and_t (and_t (and_t (and_t (and_t (jf0) jf1) jf2) jf3) jf4) jf5) jf6) jf7) jf8) jf9) jf10) jf11) jf12) jf13) jf14) jf15) jf16) jf17) jf18) jf19) jf20) jf21) jf22) jf23) jf24) jf25) jf26) jf27) jf28) jf29) jf30) jf31
theorem jf_named : Try.pinned.checked.prog.funcNamed Rows.encloseExactRow.func = some 16 := by kernel_rfl
theorem jf_inst : Try.f16.isInstance Try.pinned.checked.prog Rows.encloseExactRow.origin Rows.encloseExactRow.targs := of_decide_eq_true (by kernel_rfl)
theorem jf_wrap : Try.f16.isWrapper Try.pinned.checked.prog Rows.encloseExactRow.wrapper Rows.encloseExactRow.mainSum := by unfold Func.isWrapper; rw [if_neg (of_decide_eq_false (by kernel_rfl))]; exact ⟨rfl, rfl⟩
theorem encloseExact_holds : Rows.EncloseExactSaid :=
  OpenClaim.holds_of_wide 16 Try.f16 rfl rfl rfl rfl rfl rfl rfl ⟨rfl, rfl, rfl, rfl, rfl⟩ rfl rfl rfl rfl rfl jf_named Try.func16 jf_all
    jf_inst jf_wrap
    (fun os started H enc _ => encloseExact_lifted os started H enc)
#print axioms encloseExact_holds
end Go.Proofs.Ytgbnpnenejgnnaa
