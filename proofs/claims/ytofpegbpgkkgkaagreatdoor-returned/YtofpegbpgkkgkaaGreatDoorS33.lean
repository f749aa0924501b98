import Derived.Test.YtofpegbpgkkgkaaGreatDoorS31
namespace Go.Proofs.YtofpegbpgkkgkaaGreatDoor
set_option maxHeartbeats 8000000
set_option maxRecDepth 1000000
open Go.RowKit
section
variable {E own:Nat→Prop} {pp gb:Nat} {c:bX} {w:World} {vS vM:Value} {sl:List (j0×Value)} {ml:List (aX×Value)} {g:GS}
end
section
variable {E own:Nat→Prop} {pp gb:Nat} {c:bX} {w:World} {vS vM:Value} {sl:List (j0×Value)} {ml:List (aX×Value)} {g:GS} {n:Nat} {s:bG} {x:j0} {l:List UInt8}
def fN (c:bX) (g:GS) (n:Nat) (s:bG) (l:List UInt8):GS:={g with S:=(aO c s g.S g.recs l false).2.1,recs:=(aO c s g.S g.recs l false).2.2.1,l:=g.l.set n (if (aO c s g.S g.recs l false).1.over then none else some (aO c s g.S g.recs l false).1),d:=oS g.S (aO c s g.S g.recs l false).2.1 g.d}
structure Gh (E own:Nat→Prop) (pp gb:Nat) (c:bX) (w:World) (vS vM:Value) (sl:List (j0×Value)) (ml:List (aX×Value)) (g:GS) (n:Nat) (s:bG) (l:List UInt8) (own1:Nat→Prop) (w1:World):Prop where
 at_:gX E own1 pp gb c w1 vS vM sl ml (fN c g n s l)
 ho:∀k,own1 k→own k∨w.heap.size≤k
 hc:aH (fun k=>k=pp∨own k) w w1
end
section
variable {E own:Nat→Prop} {pp gb:Nat} {c:bX} {w:World} {vS vM:Value} {sl:List (j0×Value)} {ml:List (aX×Value)} {g:GS} {n:Nat} {s:bG} {x:j0}
theorem Gh.cells {l:List UInt8} {a:Nat→Prop} {e:World} {sb f:Nat} {v:Value} (m:Gh E own pp gb c w vS vM sl ml g n s l a e) (o:n < sl.length) (p:sl[n]=(x,v)) (q:vS= .slice (some ⟨sb,0,none⟩) sl.length f):(∀i,i < 5→e.cell? ⟨sb,n * 5+i,none⟩=(di x v)[i]?)∧(∀j,e.frozen? ⟨sb,j,none⟩=false)∧iE E a gb vS vM e x.tos v:=by
 obtain ⟨t,k,b,d,h⟩:=m.at_.seat o;rw [q] at b;injection b with ev1 _ _;injection ev1 with ev1;injection ev1 with ev1;subst ev1;refine ⟨fun i r=>by rw [d i r,p],h,?_⟩
 have:=m.at_.stos sl[n] (List.getElem_mem o);rw [p] at this;exact this
end
section
variable {E own:Nat→Prop} {pp gb:Nat} {c:bX} {w w' W:World} {vS vM:Value} {sl:List (j0×Value)} {ml:List (aX×Value)} {g g':GS}
end
section
variable {E own:Nat→Prop} {pp gb:Nat} {c:bX} {w:World} {vS vM:Value} {sl:List (j0×Value)} {ml:List (aX×Value)} {g g':GS}
end
end Go.Proofs.YtofpegbpgkkgkaaGreatDoor
