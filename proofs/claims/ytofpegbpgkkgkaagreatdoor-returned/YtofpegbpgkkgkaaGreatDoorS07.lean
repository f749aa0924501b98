import Derived.Test.YtofpegbpgkkgkaaGreatDoorS02
import Derived.Laws.CopyRow
import Derived.Test.YtofpegbpgkkgkaaGreatDoorS03
namespace Go.Proofs.YtofpegbpgkkgkaaGreatDoor
set_option maxHeartbeats 8000000
set_option maxRecDepth 1000000
open Go.RowKit
theorem uk:(Tryz.prog.info? 9).map (fun i=>(i.zero,i.size,i.bytes))=some (some (.string ⟨#[]⟩),1,16):=by kernel_rfl
theorem G3:(Tryz.prog.info? 77).map (fun i=>(i.zero,i.size,i.bytes))=some (some (.agg #[.int .i64 0,.int .i64 0]),2,16):=by kernel_rfl
theorem E9:(Tryz.prog.info? 79).map (fun i=>(i.zero,i.size,i.bytes))=some (some (.agg #[.string ⟨#[]⟩,.string ⟨#[]⟩]),2,32):=by kernel_rfl
theorem GZ:(Tryz.prog.info? 3).map (fun i=>(i.zero,i.size,i.bytes))=some (some (.int .i64 0),1,8):=by kernel_rfl
theorem Ie (l:List ByteArray):∀u∈dK l,u.oneCell'=true:=by
 intro u a;obtain ⟨x,_,rfl⟩:=List.mem_map.1 a;rfl
theorem Ia (l:List Int):∀u∈ib l,u.oneCell'=true:=by
 intro u a;obtain ⟨x,_,rfl⟩:=List.mem_map.1 a;rfl
theorem Ib (l:List (Int×Int)):∀u∈ik l,u.oneCell'=true:=by
 intro u a;obtain ⟨x,_,h⟩:=List.mem_flatMap.1 a
 rcases List.mem_cons.1 h with rfl | h
 ·rfl
 ·rcases List.mem_cons.1 h with rfl | h
  ·rfl
  ·cases h
theorem FA (l:List (ByteArray×ByteArray)):∀u∈cH l,u.oneCell'=true:=by
 intro u a;obtain ⟨x,_,h⟩:=List.mem_flatMap.1 a
 rcases List.mem_cons.1 h with rfl | h
 ·rfl
 ·rcases List.mem_cons.1 h with rfl | h
  ·rfl
  ·cases h
def gu (w:World) (q id t:Nat) (f:List UInt8) (v:Value) (b:List UInt8):Prop:=w.heap[q]? =some (.cells #[.int .i64 id,.int .i64 t,.string (bs f),v,.string (bs b)] 45 (0,0))
theorem gu.same {w d:World} {q c t s:Nat} {f b:List UInt8} {v:Value} (h:gu w q c t f v b) (e:aL s w d) (a:q≠s):gu d q c t f v b:=by
 unfold gu at h ⊢;rw [e.2 q a];exact h
theorem gu.cell {w:World} {q a t:Nat} {f b:List UInt8} {v:Value} (h:gu w q a t f v b) (j:Nat):w.cell? ⟨q,j,none⟩=(#[.int .i64 a,.int .i64 t,.string (bs f),v,.string (bs b)]:Array Value)[j]? ∧w.frozen? ⟨q,j,none⟩=false:=
 ⟨Lib.cell_of_heap h j,Lib.frozen_of_heap h j⟩
theorem nR:(Tryz.prog.info? 9).map (fun i=>(i.zero,i.size,i.bytes))=some (some (.string ⟨#[]⟩),1,16):=by kernel_rfl
theorem dJ {w i:World} {a f n b:Nat} {e:TypeId} {v:Value} {j:List Value} (h:w.ownsRow a e f v n j) (p:aL b w i) (q:b < a):i.ownsRow a e f v n j:=by
 refine ⟨h.1,?_⟩
 rcases h.2 with h | ⟨g,c,d,k,l,m,o⟩
 ·exact .inl h
 ·exact .inr ⟨g,c,d,k,l,(p.2 g (by omega)).trans m,o⟩
structure sc (p:Nat) (w w':World):Prop where
 size:w.heap.size≤w'.heap.size
 block:∀k,k < w.heap.size→k≠p→w'.heap[k]? =w.heap[k]?
 still:dU w w'
theorem sc.refl (p:Nat) (w:World):sc p w w:=⟨Nat.le_refl _,fun _ _ _=>rfl,dU.refl w⟩
theorem sc.trans {p:Nat} {a b c:World} (h:sc p a b) (d:sc p b c):sc p a c:=⟨Nat.le_trans h.size d.size,fun k e f=>(d.block k (Nat.lt_of_lt_of_le e h.size) f).trans (h.block k e f),h.still.trans d.still⟩
theorem sc.below {p B:Nat} {a b:World} (h:sc p a b) (c:B≤p) (e:B≤a.heap.size):Below B a b:=⟨h.still.1,h.still.2.1,h.still.2.2,h.size,fun k d=>h.block k (by omega) (by omega)⟩
end Go.Proofs.YtofpegbpgkkgkaaGreatDoor
