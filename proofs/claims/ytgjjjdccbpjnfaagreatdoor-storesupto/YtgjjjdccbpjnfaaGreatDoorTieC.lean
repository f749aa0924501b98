/- What the run lays is what is listed. -/
import Derived.Test.YtgjjjdccbpjnfaaGreatDoorTieA
namespace Go.Proofs.YtgjjjdccbpjnfaaGreatDoor
open Go
theorem tie_1 (os : Os) (tape : Tape) : (DataW.laidRun Tryz.prog (varsWorld Tryz.prog 400 (varsId Tryz.prog) os tape).memory 8 (tiedList.map (·.1))).map (·.1) = some tiedList := by kernel_rfl
end Go.Proofs.YtgjjjdccbpjnfaaGreatDoor
