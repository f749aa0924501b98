/- The run that lays the tables ends. -/
import Derived.Test.YtgjjjdccbpjnfaaGreatDoorTieA
namespace Go.Proofs.YtgjjjdccbpjnfaaGreatDoor
open Go
theorem tie_d (os : Os) (tape : Tape) : varsDone Tryz.prog 400 (varsId Tryz.prog) os tape = true := by kernel_rfl
end Go.Proofs.YtgjjjdccbpjnfaaGreatDoor
