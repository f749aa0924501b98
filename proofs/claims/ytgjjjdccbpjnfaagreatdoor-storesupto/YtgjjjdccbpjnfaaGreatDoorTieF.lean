/- The rows are whole. -/
import Derived.Test.YtgjjjdccbpjnfaaGreatDoorTieA
namespace Go.Proofs.YtgjjjdccbpjnfaaGreatDoor
open Go
theorem tie_3 (os : Os) (tape : Tape) : (DataW.laidRun Tryz.prog (varsWorld Tryz.prog 400 (varsId Tryz.prog) os tape).memory 8 (tiedList.map (·.1))).map (fun x => laidRowsB Tryz.prog (varsWorld Tryz.prog 400 (varsId Tryz.prog) os tape).memory x.2) = some true := by kernel_rfl
end Go.Proofs.YtgjjjdccbpjnfaaGreatDoor
