import Derived.Test.YtgbnpnenejgnnaaEncloseMirrorsL
/-
  EncloseMirrors, proved: for every two two-ports that can be read as data, the Go function photonmeshlaw05.EncloseMirrors returns true: exchanging the ports twice changes nothing, joining the mirrors in the other order meets the mirror of what was joined, and a two-port that lets all through changes nothing but what rounding widens; nothing that came in is changed. No conditions beside the row's own.
-/
namespace Go.Proofs.Ytgbnpnenejgnnaa
open Go.ChangeShapes Go.WideShapes Go.ChangeAt Go.RowKit Go.Joins
theorem and_t {a b : Bool} (ha : a = true) (hb : b = true) : (a && b) = true := by rw [ha, hb]; rfl
theorem jf0 : (Rows.encloseMirrorsRow.wf (OpenSpec.ofChange Rows.encloseMirrorsSpec)) = true := by kernel_rfl
theorem jf1 : (laidOutB Try.pinned.checked.prog) = true := by kernel_rfl
theorem jf2 : (mapsRowed Try.pinned.checked.prog) = true := by kernel_rfl
theorem jf3 : (Try.f14.params.all (Try.pinned.checked.prog.readableRec ·)) = true := by kernel_rfl
theorem jf4 : (namedTie Try.pinned.checked.prog Rows.encloseMirrorsRow.named Rows.encloseMirrorsSpec.vars) = true := by kernel_rfl
theorem jf5 : ((Rows.encloseMirrorsRow.stops == [])) = true := by kernel_rfl
theorem jf6 : ((Try.pinned.checked.prog.stops == [])) = true := by kernel_rfl
theorem jf7 : ((Rows.encloseMirrorsRow.knobs == [])) = true := by kernel_rfl
theorem jf8 : ((Try.pinned.checked.prog.stopKnobs == [])) = true := by kernel_rfl
theorem jf9 : ((Rows.encloseMirrorsRow.inPlace == Try.pinned.checked.prog.inPlace 14)) = true := by kernel_rfl
theorem jf10 : ((Rows.encloseMirrorsRow.unfollowed == Try.pinned.checked.prog.unfollowed 14)) = true := by kernel_rfl
theorem jf11 : ((Rows.encloseMirrorsRow.recurses == Try.pinned.checked.prog.recurses 14)) = true := by kernel_rfl
theorem jf12 : ((Rows.encloseMirrorsRow.named == Try.pinned.checked.prog.varsNamed 14)) = true := by kernel_rfl
theorem jf13 : ((Rows.encloseMirrorsRow.maps == (Try.f14.params.toList ++ Rows.encloseMirrorsSpec.plain.varTypes Try.pinned.checked.prog).any (Try.pinned.checked.prog.mapsRec ·))) = true := by kernel_rfl
theorem jf14 : ((Rows.encloseMirrorsRow.ifaces == (Try.f14.params.toList ++ Rows.encloseMirrorsSpec.plain.varTypes Try.pinned.checked.prog).any (Try.pinned.checked.prog.ifacesRec ·))) = true := by kernel_rfl
theorem jf15 : ((Rows.encloseMirrorsRow.mapsOut == Try.pinned.checked.prog.mapsAmong Try.f14.resultTypes.toList)) = true := by kernel_rfl
theorem jf16 : ((Rows.encloseMirrorsRow.loops == (Try.f14.params.toList ++ Rows.encloseMirrorsSpec.plain.varTypes Try.pinned.checked.prog).any (Try.pinned.checked.prog.loopsFrom ·))) = true := by kernel_rfl
theorem jf17 : ((Rows.encloseMirrorsRow.wideKeys == (Try.f14.params.toList ++ Rows.encloseMirrorsSpec.plain.varTypes Try.pinned.checked.prog ++ Try.f14.resultTypes.toList).any (Try.pinned.checked.prog.wideKeysFrom ·))) = true := by kernel_rfl
theorem jf18 : (Rows.encloseMirrorsSpec.vars.all (Try.pinned.checked.prog.varReadable ·)) = true := by kernel_rfl
theorem jf19 : (Try.f14.resultTypes.all (fun t => Try.pinned.checked.prog.readableRec t && decide (t < Try.pinned.checked.prog.types.size))) = true := by kernel_rfl
theorem jf20 : ((Rows.encloseMirrorsRow.ifacesOut == Try.f14.resultTypes.toList.any (Try.pinned.checked.prog.ifacesRec ·))) = true := by kernel_rfl
theorem jf21 : ((Rows.encloseMirrorsRow.loopsOut == Try.f14.resultTypes.toList.any (Try.pinned.checked.prog.loopsFrom ·))) = true := by kernel_rfl
theorem jf22 : ((Rows.encloseMirrorsRow.plainKeys == Try.pinned.checked.prog.plainKeys)) = true := by kernel_rfl
theorem jf23 : (Rows.encloseMirrorsRow.shortTexts.isNone) = true := by kernel_rfl
theorem jf24 : (Try.pinned.checked.prog.stopsHeard) = true := by kernel_rfl
theorem jf25 : (Try.pinned.checked.prog.mayEnter) = true := by kernel_rfl
theorem jf26 : ((Rows.encloseMirrorsRow.lifted == Try.pinned.checked.prog.liftsFinal)) = true := by kernel_rfl
theorem jf27 : ((Try.pinned.checked.prog.make == some Rows.encloseMirrorsRow.make)) = true := by kernel_rfl
theorem jf28 : ((Rows.encloseMirrorsRow.kinds == (if Rows.encloseMirrorsRow.domain.isEmpty then [] else Try.f14.params.toList.map fun t => match Try.pinned.checked.prog.underlying t with | some (.int k) => some k | _ => none))) = true := by kernel_rfl
theorem jf29 : ((Rows.encloseMirrorsRow.pinned == Rows.encloseMirrorsRow.pinnedBy)) = true := by kernel_rfl
theorem jf30 : ((Rows.encloseMirrorsRow.veiled == (Try.f14.params.toList ++ Rows.encloseMirrorsSpec.plain.varTypes Try.pinned.checked.prog ++ Try.f14.resultTypes.toList).any (Try.pinned.checked.prog.veiledRec ·))) = true := by kernel_rfl
theorem jf31 : (Rows.encloseMirrorsRow.veiledFits Try.pinned.checked.prog Try.f14.params.toList (Try.f14.params.toList ++ Rows.encloseMirrorsSpec.plain.varTypes Try.pinned.checked.prog ++ Try.f14.resultTypes.toList)) = true := by kernel_rfl
set_option maxRecDepth 100000 in
theorem jf_all : joinedFacts Try.pinned.checked.prog 14 Try.f14 Rows.encloseMirrorsSpec Rows.encloseMirrorsRow = true := by
  unfold joinedFacts
  exact and_t (and_t (and_t (and_t (and_t (and_t (and_t (and_t (and_t (and_t (and_t (and_t (and_t (and_t (and_t (and_t (and_t (and_t (and_t (and_t (and_t (and_t (and_t (and_t (and_t (and_t (and_t (and_t (and_t (and_t (and_t (jf0) jf1) jf2) jf3) jf4) jf5) jf6) jf7) jf8) jf9) jf10) jf11) jf12) jf13) jf14) jf15) jf16) jf17) jf18) jf19) jf20) jf21) jf22) jf23) jf24) jf25) jf26) jf27) jf28) jf29) jf30) jf31
theorem jf_named : Try.pinned.checked.prog.funcNamed Rows.encloseMirrorsRow.func = some 14 := by kernel_rfl
theorem jf_inst : Try.f14.isInstance Try.pinned.checked.prog Rows.encloseMirrorsRow.origin Rows.encloseMirrorsRow.targs := of_decide_eq_true (by kernel_rfl)
theorem jf_wrap : Try.f14.isWrapper Try.pinned.checked.prog Rows.encloseMirrorsRow.wrapper Rows.encloseMirrorsRow.mainSum := by unfold Func.isWrapper; rw [if_neg (of_decide_eq_false (by kernel_rfl))]; exact ⟨rfl, rfl⟩
theorem encloseMirrors_holds : Rows.EncloseMirrorsSaid :=
  OpenClaim.holds_of_wide 14 Try.f14 rfl rfl rfl rfl rfl rfl rfl ⟨rfl, rfl, rfl, rfl, rfl⟩ rfl rfl rfl rfl rfl jf_named Try.func14 jf_all
    jf_inst jf_wrap
    (fun os started H enc _ => encloseMirrors_lifted os started H enc)
#print axioms encloseMirrors_holds
end Go.Proofs.Ytgbnpnenejgnnaa
