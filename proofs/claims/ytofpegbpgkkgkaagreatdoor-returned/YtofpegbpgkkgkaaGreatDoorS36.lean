import Derived.Test.YtofpegbpgkkgkaaGreatDoorS35
namespace Go.Proofs.YtofpegbpgkkgkaaGreatDoor
set_option maxHeartbeats 8000000
set_option maxRecDepth 1000000
open Go.RowKit
section
variable {E B:Nat→Prop} {pp pb mb:Nat} {c:bX} {w w':World} {q:Nat→Nat} {vr:Value} {S:bp} {recs:List UInt8} {vs:Value} {l:List (Option eH)} {x:eH}
end
section
variable {E own:Nat→Prop} {pp gb:Nat} {c:bX} {w:World} {vS vM:Value} {sl:List (j0×Value)} {ml:List (aX×Value)} {g:GS} {n:Nat} {s:bG} {x:j0} {l:List UInt8}
end
section
variable {E own:Nat→Prop} {pp gb:Nat} {c:bX} {w:World} {vS vM:Value} {sl:List (j0×Value)} {ml:List (aX×Value)} {g g':GS}
theorem gX.step (a:dX c) (h:gX E own pp gb c w vS vM sl ml g) (d:hJ g) (f:vo c g g'):hJ g':=
 d.step a f (fun _ _ e=>h.post.inv e) ⟨fun T b=>(h.post.laters.1 T b).1,fun t e=>(h.post.laters.2 t e).1⟩
theorem cX.cell {a:World} (h:cX E own pp gb c w vS vM g' a) {b:Nat} (d:b < w.heap.size) (f:¬(b=pp∨own b∨fX gb vS vM b)) (j:Nat):a.cell? ⟨b,j,none⟩=w.cell? ⟨b,j,none⟩:=by
 obtain ⟨_,_,_,_,_,_,_,e⟩:=h;exact World.cell?_of_block (e.block b d f)
end
section
variable {E own:Nat→Prop} {pp gb:Nat} {c:bX} {w:World} {vS vM:Value} {sl:List (j0×Value)} {ml:List (aX×Value)} {g g':GS}
end
section
variable {E own:Nat→Prop} {pp gb:Nat} {c:bX} {w:World} {vS vM:Value} {sl:List (j0×Value)} {ml:List (aX×Value)} {g:GS}
theorem gX.mail (h:gX E own pp gb c w vS vM sl ml g) {n:Nat} (o:n < ml.length):∃d a,vM= .slice (some ⟨d,0,none⟩) ml.length a∧d < w.heap.size∧∀i,i < 5→w.cell? ⟨d,n * 5+i,none⟩=(aY ml[n].1 ml[n].2)[i]? :=by
 rcases h.mrow.2 with ⟨_,p⟩ | ⟨l,j,k,e,_,f,_,_,_,b⟩
 ·omega
 ·refine ⟨l,j,e,ah f,fun i m=>?_⟩;rw [Lib.cell_of_heap f,←Array.getElem?_toList,←List.getElem?_take_of_lt (show n * 5+i < ml.length * 5 by omega),b,lU _ _ _ o m]
end
end Go.Proofs.YtofpegbpgkkgkaaGreatDoor
