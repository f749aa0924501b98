import Derived.Lib.Hide
import Derived.RowKit
namespace Go.Proofs.YtofpegbpgkkgkaaGreatDoor
open Go.RowKit
theorem Ky{p:Prop}(h:p):RowKit.Hid p:=h
end Go.Proofs.YtofpegbpgkkgkaaGreatDoor
