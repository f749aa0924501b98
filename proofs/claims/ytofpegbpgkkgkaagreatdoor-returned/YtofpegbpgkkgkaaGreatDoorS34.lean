import Derived.Test.YtofpegbpgkkgkaaGreatDoorS31
namespace Go.Proofs.YtofpegbpgkkgkaaGreatDoor
set_option maxHeartbeats 8000000
set_option maxRecDepth 1000000
open Go.RowKit
section
variable {E own:Nat→Prop} {pp gb:Nat} {c:bX} {w:World} {vS vM:Value} {sl:List (j0×Value)} {ml:List (aX×Value)} {g g':GS}
end
end Go.Proofs.YtofpegbpgkkgkaaGreatDoor
