/- The row's closed facts, one by one. -/
import Derived.Test.YtgjjjdccbpjnfaaGreatDoorRows
import Derived.Test.YtgjjjdccbpjnfaaGreatDoorChecked
import Derived.JoinedOf
namespace Go.Proofs.YtgjjjdccbpjnfaaGreatDoor
open Go
def jfSpec : ChangeSpec := (Rows.OpenSpec.upto Rows.storesSpec).bare
def jfRow : OpenClaim := Rows.storesUptoRow
theorem jf_0 : (jfRow.wf (OpenSpec.ofChange jfSpec)) = true := by kernel_rfl
theorem jf_1 : (laidOutB Tryz.prog) = true := by kernel_rfl
theorem jf_2 : (mapsRowed Tryz.prog) = true := by kernel_rfl
theorem jf_3 : (Tryz.f3.params.all (Tryz.prog.readableRec ·)) = true := by kernel_rfl
theorem jf_4 : (namedTie Tryz.prog jfRow.named jfSpec.vars) = true := by kernel_rfl
theorem jf_5 : ((jfRow.stops == [])) = true := by kernel_rfl
theorem jf_6 : ((Tryz.prog.stops == [])) = true := by kernel_rfl
theorem jf_7 : ((jfRow.knobs == [])) = true := by kernel_rfl
theorem jf_8 : ((Tryz.prog.stopKnobs == [])) = true := by kernel_rfl
theorem jf_9 : ((jfRow.inPlace == Tryz.prog.inPlace 3)) = true := by kernel_rfl
theorem jf_10 : ((jfRow.unfollowed == Tryz.prog.unfollowed 3)) = true := by kernel_rfl
theorem jf_11 : ((jfRow.recurses == Tryz.prog.recurses 3)) = true := by kernel_rfl
theorem jf_12 : ((jfRow.named == Tryz.prog.varsNamed 3)) = true := by kernel_rfl
theorem jf_13 : ((jfRow.maps == (Tryz.f3.params.toList ++ jfSpec.plain.varTypes Tryz.prog).any (Tryz.prog.mapsRec ·))) = true := by kernel_rfl
theorem jf_14 : ((jfRow.ifaces == (Tryz.f3.params.toList ++ jfSpec.plain.varTypes Tryz.prog).any (Tryz.prog.ifacesRec ·))) = true := by kernel_rfl
theorem jf_15 : ((jfRow.mapsOut == Tryz.prog.mapsAmong Tryz.f3.resultTypes.toList)) = true := by kernel_rfl
theorem jf_16 : ((jfRow.loops == (Tryz.f3.params.toList ++ jfSpec.plain.varTypes Tryz.prog).any (Tryz.prog.loopsFrom ·))) = true := by kernel_rfl
theorem jf_17 : ((jfRow.wideKeys == (Tryz.f3.params.toList ++ jfSpec.plain.varTypes Tryz.prog ++ Tryz.f3.resultTypes.toList).any (Tryz.prog.wideKeysFrom ·))) = true := by kernel_rfl
theorem jf_18 : (jfSpec.vars.all (Tryz.prog.varReadable ·)) = true := by kernel_rfl
theorem jf_19 : (Tryz.f3.resultTypes.all (fun t => Tryz.prog.readableRec t && decide (t < Tryz.prog.types.size))) = true := by kernel_rfl
theorem jf_20 : ((jfRow.ifacesOut == Tryz.f3.resultTypes.toList.any (Tryz.prog.ifacesRec ·))) = true := by kernel_rfl
theorem jf_21 : ((jfRow.loopsOut == Tryz.f3.resultTypes.toList.any (Tryz.prog.loopsFrom ·))) = true := by kernel_rfl
theorem jf_22 : ((jfRow.plainKeys == Tryz.prog.plainKeys)) = true := by kernel_rfl
theorem jf_23 : (jfRow.shortTexts.isNone) = true := by kernel_rfl
theorem jf_24 : (Tryz.prog.stopsHeard) = true := by kernel_rfl
theorem jf_25 : (Tryz.prog.mayEnter) = true := by kernel_rfl
theorem jf_26 : ((jfRow.lifted == Tryz.prog.liftsFinal)) = true := by kernel_rfl
theorem jf_27 : ((Tryz.prog.make == some jfRow.make)) = true := by kernel_rfl
theorem jf_29 : ((jfRow.pinned == jfRow.pinnedBy)) = true := by kernel_rfl
theorem jf_30 : ((jfRow.veiled == (Tryz.f3.params.toList ++ jfSpec.plain.varTypes Tryz.prog ++ Tryz.f3.resultTypes.toList).any (Tryz.prog.veiledRec ·))) = true := by kernel_rfl
theorem jf_31 : (jfRow.veiledFits Tryz.prog Tryz.f3.params.toList (Tryz.f3.params.toList ++ jfSpec.plain.varTypes Tryz.prog ++ Tryz.f3.resultTypes.toList)) = true := by kernel_rfl
theorem jf_and {a b : Bool} (ha : a = true) (hb : b = true) : (a && b) = true := by rw [ha, hb]; rfl
set_option maxRecDepth 100000 in
theorem jf_all : joinedFacts Tryz.prog 3 Tryz.f3 jfSpec jfRow = true := by
  unfold joinedFacts
  exact (jf_and (jf_and (jf_and (jf_and (jf_and (jf_and (jf_and (jf_and (jf_and (jf_and (jf_and (jf_and (jf_and (jf_and (jf_and (jf_and (jf_and (jf_and (jf_and (jf_and (jf_and (jf_and (jf_and (jf_and (jf_and (jf_and (jf_and (jf_and (jf_and (jf_and (jf_and jf_0 jf_1) jf_2) jf_3) jf_4) jf_5) jf_6) jf_7) jf_8) jf_9) jf_10) jf_11) jf_12) jf_13) jf_14) jf_15) jf_16) jf_17) jf_18) jf_19) jf_20) jf_21) jf_22) jf_23) jf_24) jf_25) jf_26) jf_27) (by kernel_rfl)) jf_29) jf_30) jf_31)
end Go.Proofs.YtgjjjdccbpjnfaaGreatDoor
