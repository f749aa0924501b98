/- The law of stores: the row. -/
import Derived.Test.YtgjjjdccbpjnfaaGreatDoorStoresLift
import Derived.Test.YtgjjjdccbpjnfaaGreatDoorFacts
namespace Go.Proofs.YtgjjjdccbpjnfaaGreatDoor
open Go.ChangeShapes Go.WideShapes Go.ChangeAt Go.RowKit

theorem stores_name : Tryz.prog.funcNamed Rows.storesUptoRow.func = some 3 := by kernel_rfl
theorem stores_inst : Tryz.f3.isInstance Tryz.prog Rows.storesUptoRow.origin Rows.storesUptoRow.targs := of_decide_eq_true (by kernel_rfl)
theorem stores_wrap : Tryz.f3.isWrapper Tryz.prog Rows.storesUptoRow.wrapper Rows.storesUptoRow.mainSum := by
  unfold Func.isWrapper; first | (rw [if_pos (by decide +kernel)]; kernel_rfl) | (rw [if_neg (by decide +kernel)]; exact ⟨rfl, rfl⟩)
theorem stores_holds : Rows.StoresUptoSaid :=
  OpenClaim.holds_of_cond 3 Tryz.f3 rfl rfl rfl rfl rfl rfl rfl ⟨rfl, rfl, rfl, rfl, rfl⟩ rfl rfl rfl rfl rfl stores_name Tryz.func3 jf_all stores_inst stores_wrap
    (fun os started H enc _ F => by rw [OpenClaim.pre_eq_preRow]; exact stores_lifted os started H enc F)
end Go.Proofs.YtgjjjdccbpjnfaaGreatDoor
