/- The law of stores: what its card asks besides, one by one. -/
import Derived.Test.YtgjjjdccbpjnfaaGreatDoorRows
import Derived.Test.YtgjjjdccbpjnfaaGreatDoorCards
import Derived.Test.YtgjjjdccbpjnfaaGreatDoorChecked
import Derived.SevenTiedAt
namespace Go.Proofs.YtgjjjdccbpjnfaaGreatDoor

theorem card_w : Rows.storesUptoRow.wfByText (Rows.OpenSpec.upto Rows.storesSpec) = true := by kernel_rfl
theorem card_m : Tryz.pinned.checked.prog.mainIs = some (Rows.storesUptoCard.stood.harness.1, Rows.storesUptoCard.stood.harness.2.toList) := by kernel_rfl
theorem card_n : (!Rows.storesUptoCard.stood.harness.1 && Rows.storesUptoCard.stood.harness.2.isEmpty && !Rows.storesUptoCard.stood.looks) = false := by kernel_rfl
theorem card_l : Rows.storesUptoCard.stood.looks = Tryz.pinned.checked.prog.looks [] := by kernel_rfl
theorem card_g : false = Rows.storesUptoRow.goesBy Tryz.pinned.checked.prog := by kernel_rfl
theorem card_s : Tryz.prog.wantsStandIn 22 = false := by kernel_rfl
theorem card_f : Tryz.prog.funcNamed Rows.storesUptoRow.func = some 3 := by kernel_rfl
end Go.Proofs.YtgjjjdccbpjnfaaGreatDoor
