/- The program's Address. -/
import Derived.Test.YtnfhdbmmoicilaaDoorAddr3
namespace Go.Proofs.YtnfhdbmmoicilaaDoor
open Go.RowKit

set_option maxHeartbeats 400000 in
theorem address_any (s : ByteArray) (m : Int) (w : World) (hs : s.size ≤ 140737488355328) (hm : w.cell? ⟨0, 0, none⟩ = some (.int .i64 m)) :
    Calls Tryd.prog 5 #[.string s] w (AddrPost s.data.toList w) := by
  go_enter Tryd.func5, Tryd.ntmps5
  go_wp2_with fail
  refine (read_any s m _ hs hm).mono ?_
  rintro e w' ⟨x, y, f, rfl, hc, hb⟩
  have HC := Lib.hid hc
  clear hc
  go_wp2_with fail
  go_ret3
  exact AddrPost.mk _ _ _ rfl HC.out hb
end Go.Proofs.YtnfhdbmmoicilaaDoor
