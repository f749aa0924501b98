import Derived.Test.YtofpegbpgkkgkaaGreatDoorS06
import Derived.Test.YtofpegbpgkkgkaaGreatDoorS05
import Derived.Test.YtofpegbpgkkgkaaGreatDoorS08
namespace Go.Proofs.YtofpegbpgkkgkaaGreatDoor
set_option maxHeartbeats 8000000
set_option maxRecDepth 1000000
open Go.RowKit
theorem CI (l:List (List UInt8)) (k:Nat) (h:k < l.length):yW l k= !((l.take k).contains l[k]):=by
 unfold yW;rw [Bool.eq_iff_iff,List.all_eq_true,Bool.not_eq_true',←Bool.not_eq_true,List.contains_iff_mem];have b:l.getD k []=l[k]:=by rw [List.getD_eq_getElem?_getD,List.getElem?_eq_getElem h];rfl
 constructor
 ·intro c d;obtain ⟨j,a,e⟩:=List.getElem_of_mem d;rw [List.length_take] at a;have:=c j (List.mem_range.2 (by omega));rw [b,List.getD_eq_getElem?_getD,List.getElem?_eq_getElem (by omega:j < l.length)] at this;rw [List.getElem_take] at e;simp [e] at this
 ·intro f j a;have a:=List.mem_range.1 a;rw [b,List.getD_eq_getElem?_getD,List.getElem?_eq_getElem (by omega:j < l.length)];simp only [Option.getD_some,Bool.not_eq_true',beq_eq_false_iff_ne,ne_eq];intro e;exact f (by rw [←e];exact List.mem_take_iff_getElem.2 ⟨j,by omega,rfl⟩)
theorem bg.part {w:World} {a:Option Addr} {n c:Nat} {l:List (List UInt8)} (h:bg w (.slice a n c) l.length 1 (aB l)) (k:Nat) (r:k≤l.length):bg w (.slice a k c) (l.take k).length 1 (aB (l.take k)):=by
 have f:(l.take k).length=k:=by rw [List.length_take];omega
 refine ⟨by simp [aB],?_⟩
 rw [f]
 rcases h.2 with ⟨p,o,d,e⟩ | ⟨b,g,d,e,m,i⟩
 ·have:k=0:=by omega
  subst this;exact .inl ⟨rfl,_,_,rfl⟩
 ·injection e with e1 e2 e3;subst e1 e3;refine .inr ⟨b,g,_,rfl,by omega,fun j q=>?_⟩
  rw [i j (by omega)];simp [aB,show j < k by omega]
theorem vB (l:List (List UInt8)) (v:Value) (m:Int) (w:World) (h:bg w v l.length 1 (aB l)) (hl:l.length≤255) (U:∀t∈l,t.length≤255) (T:w.cell? ⟨0,0,none⟩=some (.int .i64 m)):
  Calls Tryz.prog 219 #[v] w fun e r=>e= .returned (.bool (iH l))∧Below w.heap.size w r:=by
 obtain ⟨a,x,rfl,Q⟩:=h.one;have R:=h.cap;have V:=Lib.hid Q;have W:=Lib.hid h;have X:=Lib.hid U;have Y:=aC T;clear Q h U
 by_cases O:1≤l.length
 ·by_cases P:l.length≤10
  ·have s:Hid (iH l=(List.range l.length).all (oG l)):=Lib.hid (by unfold iH;rw [decide_eq_true O,decide_eq_true P];rfl);have y:decide ((l.length:Int) < 1)=false:=decide_eq_false (by omega);have H:decide (10 < (l.length:Int))=false:=decide_eq_false (by omega);go_enter Tryz.func219,Tryz.ntmps219;go_wp2_with fail
   go_loopw [15] (fun i r=>∃k:Nat,k≤l.length∧i= .int .i64 k∧Hid (∀j,j < k→oG l j=true)∧Hid (Below w.heap.size w r)) (fun i _=>l.length - (intOf i).toNat)
   case atStart=>exact ⟨0,Nat.zero_le _,rfl,Lib.hid (fun j I=>by omega),Lib.hid (Below.refl _ _)⟩
   case round=>
    obtain ⟨k,Z,rfl,M,p⟩:=hrel
    by_cases g:k < l.length
    ·have S:(k:Int) < (l.length:Int):=by omega
     obtain ⟨b,A,rfl,F,f⟩:=V.out k g;rw [eh l k g] at f;have G:wr.cell? ⟨b,A+k,none⟩=some (.string (bs l[k])):=(p.out.cell F).trans f;have K:=X.out l[k] (List.getElem_mem g)
     have n:Hid (oG l k=(dH l[k] && !((l.take k).contains l[k]))):=Lib.hid (by
      unfold oG
      rw [CI l k g,List.getD_eq_getElem?_getD,List.getElem?_eq_getElem g];rfl)
     obtain ⟨t,N⟩:∃t,l[k]=t:=⟨_,rfl⟩;rw [N] at G K n;have z:wr.cell? ⟨0,0,none⟩=some (.int .i64 m):=(p.out.cell Y).trans T;have u:=Lib.hid (um t m wr (by omega) z);have q:Hid (∀r,Below w.heap.size w r→Calls Tryz.prog 201 #[.slice (some ⟨b,A,none⟩) k x,.string (bs t)] r fun e L=>e= .returned (.bool ((l.take k).contains t))∧r=L):=Lib.hid (fun r E=>mw (l.take k) t _ r ((W.out.below E).part k Z) (by rw [List.length_take];omega));have a0:(0:Int)≤(k:Int):=by omega
     have a1:(k:Int)≤(x:Int):=by omega
     clear N f z
     cases C:dH t with
     | false=>
      have o:Hid ((List.range l.length).all (oG l)=false):=Lib.hid (qG g (by rw [n.out,C];rfl));rw [C] at u;go_wp2_with fail
      refine u.out.mono ?_;rintro e B ⟨rfl,c⟩;have d:=Lib.hid (p.out.trans (c.mono p.out.size));clear c;go_wp2_with fail
      go_ret;exact ⟨cG (by rw [s.out,o.out]),d.out⟩
     | true=>
      rw [C] at u n
      cases D:(l.take k).contains t with
      | true=>
       have o:Hid ((List.range l.length).all (oG l)=false):=Lib.hid (qG g (by rw [n.out,D];rfl));rw [D] at q;go_wp2_with fail
       refine u.out.mono ?_;rintro e B ⟨rfl,c⟩;have d:=Lib.hid (p.out.trans (c.mono p.out.size));clear c;go_wp2_with fail
       refine (q.out B d.out).mono ?_;rintro e w2 ⟨rfl,rfl⟩;go_wp2_with fail
       go_ret;exact ⟨cG (by rw [s.out,o.out]),d.out⟩
      | false=>
       rw [D] at q n;go_wp2_with fail
       refine u.out.mono ?_;rintro e B ⟨rfl,c⟩;have d:=Lib.hid (p.out.trans (c.mono p.out.size));clear c;go_wp2_with fail
       refine (q.out B d.out).mono ?_;rintro e w2 ⟨rfl,rfl⟩;go_wp2_with fail
       refine ⟨⟨k+1,by omega,by go_num,Lib.hid (fun j I=>?_),d⟩,by simp [intOf];omega⟩
       rcases Nat.lt_or_ge j k with h | h
       ·exact M.out j h
       ·have:j=k:=by omega
        subst this;rw [n.out];rfl
    ·have J:k=l.length:=by omega
     subst J;have o:Hid ((List.range l.length).all (oG l)=true):=Lib.hid (List.all_eq_true.2 (fun j I=>M.out j (List.mem_range.1 I)));go_wp2_with fail
     go_ret;exact ⟨cG (by rw [s.out,o.out]),p.out⟩
  ·have s:Hid (iH l=false):=Lib.hid (by unfold iH;rw [decide_eq_false P];simp);have y:decide ((l.length:Int) < 1)=false:=decide_eq_false (by omega);have H:decide (10 < (l.length:Int))=true:=decide_eq_true (by omega);go_enter Tryz.func219,Tryz.ntmps219;go_wp2_with fail
   go_ret;exact ⟨cG s.out.symm,Below.refl _ _⟩
 ·have s:Hid (iH l=false):=Lib.hid (by unfold iH;rw [decide_eq_false O];simp);have y:decide ((l.length:Int) < 1)=true:=decide_eq_true (by omega);go_enter Tryz.func219,Tryz.ntmps219;go_wp2_with fail
  go_ret;exact ⟨cG s.out.symm,Below.refl _ _⟩
theorem Bf (H:aX) (v:Value) (m:Int) (w:World) (h:bg w v H.tos.length 1 (aB H.tos)) (hz:dQ H) (hm:w.cell? ⟨0,0,none⟩=some (.int .i64 m)):
  Calls Tryz.prog 165 #[.agg (aY H v)] w fun e q=>e= .returned (.bool (dr H))∧Below w.heap.size w q:=by
 obtain ⟨D,c,f,g,d⟩:=H;obtain ⟨z1,z2,z3,z4,X,z6⟩:=hz;simp only at h z1 z2 z3 z4 X z6;obtain ⟨a,o,rfl,_⟩:=h.one;simp only [aY];have h0:=aC hm;have HH:=Lib.hid h;have I:=Lib.hid X;have s:Hid (dr ⟨D,c,f,g,d⟩=(decide (c≤1000000000) && (f.isEmpty || dH f) && iH g && decide (d.length≤1000))):=Lib.hid rfl;obtain ⟨A,y⟩:∃A:World,w.alloc (.cells #[.int .i64 D,.int .i64 c,.string (bs f),.slice a g.length o,.string (bs d)] 45)=A:=⟨_,rfl⟩;have J:Below w.heap.size w A:=by rw [←y];exact (Below.refl _ _).alloc (Nat.le_refl _) _
 have M:A.heap.size=w.heap.size+1:=by rw [←y];simp
 have hx:A.heap[w.heap.size]? =some (.cells #[.int .i64 D,.int .i64 c,.string (bs f),.slice a g.length o,.string (bs d)] 45 (0,0)):=by rw [←y];exact heap_alloc_new w _
 have R:Hid (∀q,Below (w.heap.size+1) A q→Below w.heap.size w q∧q.cell? ⟨w.heap.size,1,none⟩=some (.int .i64 c)∧q.cell? ⟨w.heap.size,2,none⟩=some (.string (bs f))∧q.cell? ⟨w.heap.size,3,none⟩=some (.slice a g.length o)∧q.cell? ⟨w.heap.size,4,none⟩=some (.string (bs d))∧q.cell? ⟨0,0,none⟩=some (.int .i64 m)∧bg q (.slice a g.length o) g.length 1 (aB g)):=Lib.hid (fun q Z=>by
  have F:Below w.heap.size w q:=J.trans (Z.mono (by omega));have O:q.heap[w.heap.size]? =_:=(Z.block w.heap.size (by omega)).trans hx
  exact ⟨F,by rw [Lib.cell_of_heap O];rfl,by rw [Lib.cell_of_heap O];rfl,by rw [Lib.cell_of_heap O];rfl,by rw [Lib.cell_of_heap O];rfl,(F.cell h0).trans hm,HH.out.below F⟩)
 obtain ⟨Y,x1,x2,x3,x4,L,_⟩:=R.out A (Below.refl _ _);have sF:=aG f;have sB:=aG d;have x:=Lib.hid y;have k:=Lib.hid M;have r:=Lib.hid Y;clear h X J hx y M Y;have hd:∀b:Bool,decide ((c:Int)≤1000000000)=b→b=decide (c≤1000000000):=fun b h=>by rw [←h,Bool.eq_iff_iff];simp;omega
 cases S:decide ((c:Int)≤1000000000) with
 | false=>
  have t:Hid (dr ⟨D,c,f,g,d⟩=false):=Lib.hid (by rw [s.out,decide_eq_false (show ¬c≤1000000000 by simp at S;omega)];rfl);clear hd;go_enter Tryz.func165,Tryz.ntmps165;go_wp2_with fail
  rw [x.out];go_ret;exact ⟨cG t.out.symm,r.out⟩
 | true=>
  clear hd
  by_cases E:f=[]
  ·have K:(bs f).toList=[]:=by rw [E,Lib.toList_data];rfl
   have T:(bs f).toList.isEmpty=true:=by rw [K];rfl
   have z:f.isEmpty=true:=by rw [E];rfl
   have C:=Lib.hid z;clear E z;have j:=Lib.hid (vB g (.slice a g.length o) m A (R.out A (by rw [←k.out];exact Below.refl _ _)).2.2.2.2.2.2 (by omega) I.out L)
   cases p:iH g with
   | false=>
    have t:Hid (dr ⟨D,c,f,g,d⟩=false):=Lib.hid (by rw [s.out,p];simp);rw [p] at j;clear p s;go_enter Tryz.func165,Tryz.ntmps165;go_wp2_with fail
    rw [x.out];refine j.out.mono ?_;rintro e N ⟨rfl,i⟩;have l:=Lib.hid (r.out.trans (i.mono (by rw [k.out];omega)));clear i;go_wp2_with fail
    go_ret;exact ⟨cG t.out.symm,l.out⟩
   | true=>
    have t:Hid (dr ⟨D,c,f,g,d⟩=decide (d.length≤1000)):=Lib.hid (by rw [s.out,p,decide_eq_true (show c≤1000000000 by simp at S;omega),C.out];simp);rw [p] at j;clear p s;go_enter Tryz.func165,Tryz.ntmps165;go_wp2_with fail
    rw [x.out];refine j.out.mono ?_;rintro e N ⟨rfl,i⟩;have y4:N.cell? ⟨w.heap.size,4,none⟩=some (.string (bs d)):=(i.cell (by show w.heap.size < _;rw [k.out];omega)).trans x4;have l:=Lib.hid (r.out.trans (i.mono (by rw [k.out];omega)));clear i;go_wp2_with fail
    go_ret;refine ⟨cG ?_,l.out⟩;rw [t.out,Bool.eq_iff_iff];simp;omega
  ·have K:¬(bs f).toList=[]:=by rw [Lib.toList_data,aI];exact E
   have T:(bs f).toList.isEmpty=false:=by rw [Lib.toList_data,aI];simpa using E
   have z:f.isEmpty=false:=by simpa using E
   have C:=Lib.hid z;have u:=Lib.hid (um f m A (by omega) L);clear E z
   cases G:dH f with
   | false=>
    have t:Hid (dr ⟨D,c,f,g,d⟩=false):=Lib.hid (by rw [s.out,G,C.out];simp);rw [G] at u;clear G s;go_enter Tryz.func165,Tryz.ntmps165;go_wp2_with fail
    rw [x.out];refine u.out.mono ?_;rintro e P ⟨rfl,n⟩;have B:=Lib.hid (r.out.trans (n.mono (by rw [k.out];omega)));clear n;go_wp2_with fail
    go_ret;exact ⟨cG t.out.symm,B.out⟩
   | true=>
    rw [G] at u;have Q:=Lib.hid G;clear G;go_enter Tryz.func165,Tryz.ntmps165;go_wp2_with fail
    rw [x.out];refine u.out.mono ?_;rintro e P ⟨rfl,n⟩;have B:=Lib.hid (r.out.trans (n.mono (by rw [k.out];omega)));obtain ⟨_,y1,y2,y3,W,U,V⟩:=R.out P (by rw [←k.out];exact n);have a0:w.heap.size+1≤P.heap.size:=by have:=n.size;rw [k.out] at this;exact this
    clear n x1 x2 x3 x4 u;have j:=Lib.hid (vB g (.slice a g.length o) m P V (by omega) I.out U)
    cases p:iH g with
    | false=>
     have t:Hid (dr ⟨D,c,f,g,d⟩=false):=Lib.hid (by rw [s.out,p];simp);rw [p] at j;clear p s;go_wp2_with fail
     refine j.out.mono ?_;rintro e N ⟨rfl,i⟩;have l:=Lib.hid (B.out.trans (i.mono (by omega)));clear i;go_wp2_with fail
     go_ret;exact ⟨cG t.out.symm,l.out⟩
    | true=>
     have t:Hid (dr ⟨D,c,f,g,d⟩=decide (d.length≤1000)):=Lib.hid (by rw [s.out,p,decide_eq_true (show c≤1000000000 by simp at S;omega),C.out,Q.out];simp);rw [p] at j;clear p s;go_wp2_with fail
     refine j.out.mono ?_;rintro e N ⟨rfl,i⟩;have y4:N.cell? ⟨w.heap.size,4,none⟩=some (.string (bs d)):=(i.cell (by show w.heap.size < _;omega)).trans W;have l:=Lib.hid (B.out.trans (i.mono (by omega)));clear i;go_wp2_with fail
     go_ret;refine ⟨cG ?_,l.out⟩;rw [t.out,Bool.eq_iff_iff];simp;omega
def lf:aX:=⟨0,0,[],[],[]⟩
def yw (l:List UInt8) (w:World) (e:Ending) (w':World):Prop:=
 (bP l=none∧e= .returned (.tuple #[.agg (aY lf (.slice none 0 0)),.bool false])∨∃mm v,bP l=some mm∧e= .returned (.tuple #[.agg (aY mm v),.bool true])∧w'.ownsRow w.heap.size 9 1 v mm.tos.length (aB mm.tos)∧dQ mm)∧Below w.heap.size w w'
structure RS (w wk:World) (s:Nat) (o:Option (List UInt8)) (I T:Nat) (f:List UInt8) (v:Value) (B:List UInt8):Prop where
 fd:gG wk (s+1) o
 res:gu wk s 0 0 [] (.slice none 0 0) []
 mail:gu wk (s+2) I T f v B
 below:Below s w wk
 size:s+3≤wk.heap.size
theorem gG.same {w d:World} {b s:Nat} {o:Option (List UInt8)} (h:gG w b o) (c:aL s w d) (a:b≠s):gG d b o:=by
 cases o with
 | none=>obtain ⟨l,h⟩:=h;exact ⟨l,(c.2 b a).trans h⟩
 | some l=>exact ⟨(c.2 b a).trans h.1,h.2⟩
theorem gG.blk {w c:World} {b:Nat} {o:Option (List UInt8)} (h:gG w b o) (a:c.heap[b]? =w.heap[b]?):gG c b o:=by
 cases o with
 | none=>obtain ⟨l,h⟩:=h;exact ⟨l,a.trans h⟩
 | some l=>exact ⟨a.trans h.1,h.2⟩
theorem RS.fdStep {w d a:World} {s I T:Nat} {o c:Option (List UInt8)} {f B:List UInt8} {v:Value} (h:RS w d s o I T f v B) (b:aL (s+1) d a) (e:gG a (s+1) c):RS w a s c I T f v B:=
 ⟨e,h.res.same b (by omega),h.mail.same b (by omega),h.below.trans (b.below (by omega)),by rw [b.1];exact h.size⟩
theorem RS.keep {w c b:World} {s I T:Nat} {o:Option (List UInt8)} {f B:List UInt8} {v:Value} (h:RS w c s o I T f v B) (a:Below c.heap.size c b):RS w b s o I T f v B:=by
 have d:=h.size;refine ⟨h.fd.blk (a.block (s+1) (by omega)),?_,?_,h.below.trans (a.mono (by omega)),Nat.le_trans h.size a.size⟩
 ·have:=h.res;unfold gu at this ⊢;rw [a.block s (by omega)];exact this
 ·have:=h.mail;unfold gu at this ⊢;rw [a.block (s+2) (by omega)];exact this
theorem RS.cellAt {w a:World} {s I T:Nat} {o:Option (List UInt8)} {f B:List UInt8} {v:Value} (h:RS w a s o I T f v B) (j:Nat):a.cell? ⟨s+2,j,none⟩=(#[.int .i64 I,.int .i64 T,.string (bs f),v,.string (bs B)]:Array Value)[j]? ∧a.frozen? ⟨s+2,j,none⟩=false:=h.mail.cell j
theorem RS.set {w a:World} {s I T I' T' j:Nat} {o:Option (List UInt8)} {f B f' B':List UInt8} {v v' u:Value} (h:RS w a s o I T f v B) (e:(#[.int .i64 I,.int .i64 T,.string (bs f),v,.string (bs B)]:Array Value).setIfInBounds j u=#[.int .i64 I',.int .i64 T',.string (bs f'),v',.string (bs B')]):RS w (a.setCell ⟨s+2,j,none⟩ u) s o I' T' f' v' B':=by
 have b:aL (s+2) a (a.setCell ⟨s+2,j,none⟩ u):=(aL.refl _ _).setCell _;refine ⟨h.fd.same b (by omega),h.res.same b (by omega),?_,h.below.trans (b.below (by omega)),by rw [b.1];exact h.size⟩
 have:=heap_setCell_same a (s+2) j _ _ u h.mail;unfold gu;rw [this,e]
theorem RS.ofGrown {w d m l:World} {s I T n:Nat} {o:Option (List UInt8)} {f B:List UInt8} {v:Value} {q:List Value} (h:RS w d s o I T f v B) (p:d.ownsRow (s+3) 9 1 v n q) (c:Below d.heap.size d m) (g:m.grownBy l v.ownBlock):RS w l s o I T f v B:=by
 have t:=h.size;have a:∀j,v.ownBlock=some j→s+3≤j:=fun j i=>(p.lt j i).1
 have b:∀k,k < s+3→l.heap[k]? =d.heap[k]? :=fun k r=>by
  rw [g.block k (by have:=c.size;omega) (fun e=>by have:=a k e.symm;omega),c.block k (by omega)]
 refine ⟨h.fd.blk (b _ (by omega)),?_,?_,?_,by have:=c.size;have:=g.size;omega⟩
 ·have:=h.res;unfold gu at this ⊢;rw [b s (by omega)];exact this
 ·have:=h.mail;unfold gu at this ⊢;rw [b (s+2) (by omega)];exact this
 ·exact (h.below.trans (c.mono (by omega))).grown g (by have:=c.size;omega) (fun j i=>by have:=a j i;omega)
theorem ka (l:List UInt8) (m:Int) (w:World) (hl:l.length≤536870912) (hm:w.cell? ⟨0,0,none⟩=some (.int .i64 m)):
  Calls Tryz.prog 114 #[.string (bs l)] w (yw l w):=by
 have h0:=aC hm;have sl:=aG l;obtain ⟨s,hs⟩:∃s,w.heap.size=s:=⟨_,rfl⟩;rw [hs] at h0;obtain ⟨W0,V⟩:∃W0:World,(w.alloc (.cells #[.int .i64 0,.int .i64 0,.string ⟨#[]⟩,.slice none 0 0,.string ⟨#[]⟩] 45)).alloc (.cells #[.string (bs l),.bool false] 187)=W0:=⟨_,rfl⟩;have F0:gG W0 (s+1) (some l):=⟨by rw [←V,←hs];have:=heap_alloc_new (w.alloc (.cells #[.int .i64 0,.int .i64 0,.string ⟨#[]⟩,.slice none 0 0,.string ⟨#[]⟩] 45)) (.cells #[.string (bs l),.bool false] 187);simpa using this,by unfold maxLen;omega⟩
 have R0:gu W0 s 0 0 [] (.slice none 0 0) []:=by
  unfold gu;rw [←V,←hs,((Below.refl (w.alloc (.cells #[.int .i64 0,.int .i64 0,.string ⟨#[]⟩,.slice none 0 0,.string ⟨#[]⟩] 45)).heap.size _).alloc (Nat.le_refl _) _).block w.heap.size (by simp)];exact heap_alloc_new w _
 have B0:Below s w W0:=by rw [←V];exact ((Below.refl _ _).alloc (by omega) _).alloc (by simp;omega) _
 have Z0:W0.heap.size=s+2:=by rw [←V,←hs];simp
 have R:=Lib.hid (iY (s+1) 1 (some l) W0 F0 (by decide));have b7:=Lib.hid V;have U:=Lib.hid hs;have a6:=Lib.hid R0;have a4:=Lib.hid B0;have f5:=Lib.hid Z0;clear V F0 R0 B0 Z0
 by_cases a0:l.take 1=[77]
 ·obtain ⟨r,hr⟩:∃r,l.drop 1=r:=⟨_,rfl⟩;have HL:Hid (l=77::r):=Lib.hid (by rw [←List.take_append_drop 1 l,a0,hr];rfl)
  have e1:(some l).bind (bm 1)=some ([77],r):=by
   show bm 1 l=_;rw [HL.out];rfl
  have S:Hid (bP l=(nk r).bind fun m=>if dr m then some m else none):=Lib.hid (by
   rw [HL.out];unfold bP;simp only;rw [if_pos trivial])
  rw [e1] at R;have l5:r.length≤536870912:=by rw [←hr,List.length_drop];omega
  clear e1 hr a0;go_enter Tryz.func114,Tryz.ntmps114;go_wp2_with fail
  rw [b7.out];refine R.out.mono ?_;rintro e W ⟨rfl,B,y⟩
  have m1:((bs (gK (some ([77],r)))).toList == [77])=true:=by
   show ((bs [77]).toList == [77])=true;rw [qM];rfl
  have F1:gG W (s+1) (some r):=B;have O:=a6.out.same y (by omega);have B1:=a4.out.trans (y.below (by omega));have Z1:W.heap.size=s+2:=y.1.trans f5.out;obtain ⟨W2,a1⟩:∃W2:World,W.alloc (.cells #[.int .i64 0,.int .i64 0,.string ⟨#[]⟩,.slice none 0 0,.string ⟨#[]⟩] 45)=W2:=⟨_,rfl⟩
  have S2:RS w W2 s (some r) 0 0 [] (.slice none 0 0) []:=by
   have hb:Below W.heap.size W W2:=by rw [←a1];exact (Below.refl _ _).alloc (Nat.le_refl _) _
   refine ⟨F1.blk (hb.block (s+1) (by omega)),?_,?_,B1.trans (hb.mono (by omega)),by rw [←a1];simp;omega⟩
   ·unfold gu at O ⊢;rw [hb.block s (by omega)];exact O
   ·unfold gu;rw [←a1,←Z1];exact heap_alloc_new W _
  have b3:=Lib.hid S2;have e6:=Lib.hid a1;clear B y F1 O B1 R a6 a4 f5 b7 S2 a1;obtain ⟨I,o1,hI⟩:∃I o1,gj 4 (some r)=(I,o1):=⟨_,_,rfl⟩;have i4:I≤4294967295:=by have:=lZ 4 (some r);rw [hI] at this;simp at this;omega
  have A:Calls Tryz.prog 111 #[.pointer (some ⟨s+1,0,none⟩),.int .i64 4] W2 fun e q=>e= .returned (.int .i64 (gj 4 (some r)).1)∧gG q (s+1) (gj 4 (some r)).2∧aL (s+1) W2 q:=dZ (s+1) 4 (some r) W2 b3.out.fd (by decide);rw [hI] at A;have Q:=Lib.hid A;have HI:=Lib.hid hI;clear A hI;go_wp2_with fail
  rw [e6.out];refine Q.out.mono ?_;rintro e w3 ⟨rfl,B,y⟩;have S3:=b3.out.fdStep y B;obtain ⟨c0,f0⟩:=S3.cellAt 0;have c7:RS w (w3.setCell ⟨s+2,0,none⟩ (.int .i64 I)) s o1 I 0 [] (.slice none 0 0) []:=S3.set rfl;obtain ⟨W3,d2⟩:∃W3:World,w3.setCell ⟨s+2,0,none⟩ (.int .i64 I)=W3:=⟨_,rfl⟩;rw [d2] at c7;have b4:=Lib.hid c7;have e7:=Lib.hid d2;clear B y S3 c7 d2 Q b3 e6;obtain ⟨T,o2,hT⟩:∃T o2,gj 4 o1=(T,o2):=⟨_,_,rfl⟩;have i5:T≤4294967295:=by have:=lZ 4 o1;rw [hT] at this;simp at this;omega
  have A:Calls Tryz.prog 111 #[.pointer (some ⟨s+1,0,none⟩),.int .i64 4] W3 fun e q=>e= .returned (.int .i64 (gj 4 o1).1)∧gG q (s+1) (gj 4 o1).2∧aL (s+1) W3 q:=dZ (s+1) 4 o1 W3 b4.out.fd (by decide);rw [hT] at A;have Q:=Lib.hid A;have HT:=Lib.hid hT;clear A hT;go_wp2_with fail
  rw [e7.out];refine Q.out.mono ?_;rintro e w4 ⟨rfl,B,y⟩;have S4:=b4.out.fdStep y B;obtain ⟨c1,f1⟩:=S4.cellAt 1;have c8:RS w (w4.setCell ⟨s+2,1,none⟩ (.int .i64 T)) s o2 I T [] (.slice none 0 0) []:=S4.set rfl;obtain ⟨W4,d3⟩:∃W4:World,w4.setCell ⟨s+2,1,none⟩ (.int .i64 T)=W4:=⟨_,rfl⟩;rw [d3] at c8;have b5:=Lib.hid c8;have e8:=Lib.hid d3;clear B y S4 c8 d3 Q b4 e7 c0 f0;obtain ⟨f,o3,hf⟩:∃f o3,jX 1 o2=(f,o3):=⟨_,_,rfl⟩;have i8:f.length≤255:=by have:=tj 1 o2;rw [hf] at this;simp at this;omega
  have A:Calls Tryz.prog 163 #[.pointer (some ⟨s+1,0,none⟩),.int .i64 1] W4 fun e q=>e= .returned (.string (bs (jX 1 o2).1))∧gG q (s+1) (jX 1 o2).2∧aL (s+1) W4 q:=oT (s+1) 1 o2 W4 b5.out.fd (by decide);rw [hf] at A;have Q:=Lib.hid A;have HF:=Lib.hid hf;have sf:=aG f;clear A hf;go_wp2_with fail
  rw [e8.out];refine Q.out.mono ?_;rintro e w5 ⟨rfl,B,y⟩;have e2:=Lib.hid (b5.out.fdStep y B);have L:=Lib.hid (iw (bs f) w5 (by omega));clear B y Q b5 e8 c1 f1;go_wp2_with fail
  refine L.out.mono ?_;rintro e w6 ⟨rfl,g6⟩;have S6:=e2.out.keep g6;obtain ⟨c2,f2⟩:=S6.cellAt 2;have d0:RS w (w6.setCell ⟨s+2,2,none⟩ (.string (bs f))) s o3 I T f (.slice none 0 0) []:=S6.set rfl;obtain ⟨W6,d4⟩:∃W6:World,w6.setCell ⟨s+2,2,none⟩ (.string (bs f))=W6:=⟨_,rfl⟩;rw [d4] at d0;have b6:=Lib.hid d0;have e9:=Lib.hid d4;clear g6 S6 d0 d4 L e2;obtain ⟨N,o4,hN⟩:∃N o4,gj 1 o3=(N,o4):=⟨_,_,rfl⟩;have l3:N≤255:=by have:=lZ 1 o3;rw [hN] at this;simp at this;omega
  have A:Calls Tryz.prog 111 #[.pointer (some ⟨s+1,0,none⟩),.int .i64 1] W6 fun e q=>e= .returned (.int .i64 (gj 1 o3).1)∧gG q (s+1) (gj 1 o3).2∧aL (s+1) W6 q:=dZ (s+1) 1 o3 W6 b6.out.fd (by decide);rw [hN] at A;have Q:=Lib.hid A;have HN:=Lib.hid hN;clear A hN;go_wp2_with fail
  rw [e9.out];refine Q.out.mono ?_;rintro e w7 ⟨rfl,B,y⟩;have e3:=Lib.hid (b6.out.fdStep y B);clear B y Q b6 e9 c2 f2;go_wp2_with fail
  obtain ⟨is,i9,g8,g9,h3⟩:=info_parts nR;go_loopw [19] (fun i q=>∃(k:Nat) (v:Value) (z:List (List UInt8)) (o:Option (List UInt8)),k≤N∧i= .int .i64 k∧Hid (jh k o4=(z,o))∧Hid (RS w q s o I T f v [])∧Hid (q.ownsRow (s+3) 9 1 v k (aB z))) (fun i _=>N - (intOf i).toNat)
  case atStart=>exact ⟨0,_,[],o4,Nat.zero_le _,rfl,Lib.hid rfl,e3,Lib.hid (World.ownsRow_nil _ _ _ _)⟩
  case round=>
   clear e3;obtain ⟨k,v,z,o,hk,rfl,a8,HS,HO⟩:=hrel
   obtain ⟨C,H,F,rfl⟩:∃a n c,v= .slice a n c:=by
    rcases HO.out.2 with ⟨e,_⟩ | ⟨g,l0,l1,e,_⟩
    ·exact ⟨_,_,_,e⟩
    ·exact ⟨_,_,_,e⟩
   by_cases l4:k < N
   ·have k8:(k:Int) < (N:Int):=by omega
    obtain ⟨t,o',ht⟩:∃t o',jX 1 o=(t,o'):=⟨_,_,rfl⟩;have l6:t.length≤255:=by have:=tj 1 o;rw [ht] at this;simp at this;omega
    have st:=aG t;have h6:Hid (jh (k+1) o4=(z++[t],o')):=Lib.hid (by rw [jh,a8.out];simp only [ht])
    have h9:Hid (∀q,gG q (s+1) o→Calls Tryz.prog 163 #[.pointer (some ⟨s+1,0,none⟩),.int .i64 1] q fun e P=>e= .returned (.string (bs t))∧gG P (s+1) o'∧aL (s+1) q P):=Lib.hid (fun q h'=>by
     have A:Calls Tryz.prog 163 #[.pointer (some ⟨s+1,0,none⟩),.int .i64 1] q fun e P=>e= .returned (.string (bs (jX 1 o).1))∧gG P (s+1) (jX 1 o).2∧aL (s+1) q P:=oT (s+1) 1 o q h' (by decide);rw [ht] at A
     exact A)
    have L:Hid (∀q,Calls Tryz.prog 69 #[.string (bs t)] q fun e P=>e= .returned (.string (bs t))∧Below q.heap.size q P):=Lib.hid (fun q=>iw (bs t) q (by omega));have Sd:Hid (RS w wr.drew s o I T f (.slice C H F) []):=Lib.hid (HS.out.keep ((Below.refl _ _).drew));have Od:Hid (wr.drew.ownsRow (s+3) 9 1 (.slice C H F) k (aB z)):=Lib.hid HO.out.drew;have c3:wr.drew.cell? ⟨s+2,3,none⟩=some (.slice C H F):=(Sd.out.cellAt 3).1;have k9:wr.cell? ⟨s+2,3,none⟩=some (.slice C H F):=(HS.out.cellAt 3).1;clear ht;go_wp2_with fail
    go_region_law (first
     | (refine step_append_lies _ (by rfl) _ _ _ (by rfl) (s+3) 9 is _ 1 16 Tryz.underlying25 i9 g8 g9 h3 rfl (by decide) (.slice C H F) k (aB z) (by rfl) (f6.out.alloc _) ⟨J.heap.size,0,none⟩ 1 1 [.string (bs t)] (by rfl) (by rfl) (World.news_of_block (cs:=#[.string (bs t)]) (t:=9) (fr:=(0,0)) (heap_alloc_new J _)) (by simp [Value.oneCell']) (by decide) (by unfold maxLen;omega) (by omega) (by simp;omega) (J.heap.size+1) (by simp) ?_;intro ga E p b0 a3 i6 j1;have b:=Lib.hid (c6.out.ofGrown f6.out ((Below.refl _ _).alloc (Nat.le_refl _) _) a3);have j2:p.cell? ⟨s+2,3,none⟩=some (.slice C H F):=(b.out.cellAt 3).1;have i3:=(b.out.cellAt 3).2;have k5:(p.setCell ⟨s+2,3,none⟩ (.slice (some ⟨ga,0,none⟩) (k+1) E)).cell? ⟨s+2,3,none⟩=some (.slice (some ⟨ga,0,none⟩) (k+1) E):=((b.out.set (u:= .slice (some ⟨ga,0,none⟩) (k+1) E) rfl).cellAt 3).1;have e0:=Lib.hid b0;clear b0 a3 i6)
     | (go_simp;go_at_call 163;refine (h9.out _ Sd.out.fd).mono ?_;rintro e w9 ⟨rfl,B,y⟩;have S9:=Lib.hid (Sd.out.fdStep y B);have O9:=Lib.hid (dJ Od.out y (by omega));have c9:w9.cell? ⟨s+2,3,none⟩=some (.slice C H F):=(S9.out.cellAt 3).1;clear B y;dsimp only)
     | (go_simp;go_at_call 69;refine (L.out _).mono ?_;rintro e J ⟨rfl,a2⟩;have c6:=Lib.hid (S9.out.keep a2);have f6:=Lib.hid (dG (cJ.below (ts:=[]) a2) (by simp) O9.out);have f8:J.cell? ⟨s+2,3,none⟩=some (.slice C H F):=(c6.out.cellAt 3).1;have l8:=c6.out.size;have k7:∀o:Obj,(J.alloc o).cell? ⟨s+2,3,none⟩=some (.slice C H F):=(fun o=>(((Below.refl J.heap.size J).alloc (Nat.le_refl _) o).cell (aC f8)).trans f8);clear a2;dsimp only))
    all_goals
     have i2:=Lib.hid (b.out.set (j:=3) (u:= .slice (some ⟨ga,0,none⟩) (k+1) E) (I':=I) (T':=T) (f':=f) (B':=[]) (v':= .slice (some ⟨ga,0,none⟩) (k+1) E) rfl);have i1:=Lib.hid (dJ e0.out (show aL (s+2) p (p.setCell ⟨s+2,3,none⟩ (.slice (some ⟨ga,0,none⟩) (k+1) E)) from (aL.refl _ _).setCell _) (by omega));clear j2 i3 k5 e0 b;go_wp2_with fail
     exact ⟨⟨k+1,_,z++[t],o',by omega,by go_num,h6,i2,Lib.hid (by rw [show aB (z++[t])=aB z++[.string (bs t)] by simp [aB]];exact i1.out)⟩,by simp [intOf];omega⟩
   ·have j0:k=N:=by omega
    subst j0;have f9:z.length=k:=by have:=yp k o4;rw [a8.out] at this;exact this
    have g5:∀t∈z,t.length < 256:=by have:=BZ k o4;rw [a8.out] at this;exact this
    have e5:=Lib.hid f9;have h8:=Lib.hid g5;obtain ⟨D,o6,hD⟩:∃D o6,jX 2 o=(D,o6):=⟨_,_,rfl⟩;have l2:D.length≤65535:=by have:=tj 2 o;rw [hD] at this;simp at this;omega
    have a5:Hid (nk r=if o6=some [] then some ⟨I,T,f,z,D⟩ else none):=Lib.hid (Db r HI.out HT.out HF.out HN.out a8.out hD);have A:Calls Tryz.prog 163 #[.pointer (some ⟨s+1,0,none⟩),.int .i64 2] wr fun e q=>e= .returned (.string (bs (jX 2 o).1))∧gG q (s+1) (jX 2 o).2∧aL (s+1) wr q:=oT (s+1) 2 o wr HS.out.fd (by decide);rw [hD] at A;have Q:=Lib.hid A;have sD:=aG D;clear A hD f9 g5;go_wp2_with fail
    refine Q.out.mono ?_;rintro e w8 ⟨rfl,B,y⟩;have e4:=Lib.hid (HS.out.fdStep y B);have d9:=Lib.hid (dJ HO.out y (by omega));have L:=Lib.hid (iw (bs D) w8 (by omega));clear B y Q HS HO;go_wp2_with fail
    refine L.out.mono ?_;rintro e w9 ⟨rfl,d6⟩;have S9:=e4.out.keep d6;have O9:=dG (cJ.below (ts:=[]) d6) (by simp) d9.out;obtain ⟨c4,f4⟩:=S9.cellAt 4;have k0:w9.cell? ⟨s+2,0,none⟩=some (.int .i64 I):=(S9.cellAt 0).1;have k1:w9.cell? ⟨s+2,1,none⟩=some (.int .i64 T):=(S9.cellAt 1).1;have k2:w9.cell? ⟨s+2,2,none⟩=some (.string (bs f)):=(S9.cellAt 2).1;have k3:w9.cell? ⟨s+2,3,none⟩=some (.slice C H F):=(S9.cellAt 3).1;have a9:RS w (w9.setCell ⟨s+2,4,none⟩ (.string (bs D))) s o6 I T f (.slice C H F) D:=S9.set rfl;have c5:(w9.setCell ⟨s+2,4,none⟩ (.string (bs D))).ownsRow (s+3) 9 1 (.slice C H F) k (aB z):=dJ O9 (show aL (s+2) w9 _ from (aL.refl _ _).setCell _) (by omega);obtain ⟨K,d5⟩:∃K:World,w9.setCell ⟨s+2,4,none⟩ (.string (bs D))=K:=⟨_,rfl⟩;rw [d5] at a9 c5;have d:=Lib.hid a9;have Y:=Lib.hid c5;have b8:=Lib.hid d5;have b2:=Lib.hid (ue (s+1) o6 K a9.fd);clear d6 S9 O9 a9 c5 d5 L e4 d9;go_wp2_with fail
    rw [b8.out];refine b2.out.mono ?_;rintro e J ⟨rfl,rfl⟩
    cases hq:decide (o6=some []) with
    | false=>
     have Z:Hid (bP l=none):=Lib.hid (by rw [S.out,a5.out,if_neg (by simpa using hq)];rfl);have r0:K.cell? ⟨s,0,none⟩=some (.int .i64 0):=(d.out.res.cell 0).1;have g0:=(d.out.res.cell 0).2;have r1:K.cell? ⟨s,1,none⟩=some (.int .i64 0):=(d.out.res.cell 1).1;have g1:=(d.out.res.cell 1).2;have r2:K.cell? ⟨s,2,none⟩=some (.string ⟨#[]⟩):=(d.out.res.cell 2).1;have g2:=(d.out.res.cell 2).2;have r3:K.cell? ⟨s,3,none⟩=some (.slice none 0 0):=(d.out.res.cell 3).1;have g3:=(d.out.res.cell 3).2;have r4:K.cell? ⟨s,4,none⟩=some (.string ⟨#[]⟩):=(d.out.res.cell 4).1;have g4:=(d.out.res.cell 4).2;have h5:=Lib.hid d.out.below;clear d Y b8 b2 k0 k1 k2 k3 c4 f4 S a5 hq;go_wp2_with fail
     refine bodyPost_ret (v:= .tuple #[.agg (aY lf (.slice none 0 0)),.bool false]) (by simp [results,Tryz.results114,go_sem,lf,aY,bs, *]) rfl ?_;refine ⟨.inl ⟨Z.out,rfl⟩,?_⟩;rw [U.out];exact ((((h5.out.setCell (Nat.le_refl _) _).setCell (Nat.le_refl _) _).setCell (Nat.le_refl _) _).setCell (Nat.le_refl _) _).setCell (Nat.le_refl _) _
    | true=>
     have d7:dQ ⟨I,T,f,z,D⟩:=⟨i4,i5,i8,by show z.length≤255;have:=e5.out;omega,fun x hx=>by have:=h8.out x hx;omega,by show D.length≤1048576;omega⟩
     have d1:(⟨I,T,f,z,D⟩:aX).tos.length=k:=e5.out;have b1:bg K (.slice C H F) (⟨I,T,f,z,D⟩:aX).tos.length 1 (aB (⟨I,T,f,z,D⟩:aX).tos):=by rw [d1];exact vF Y.out
     have g7:K.cell? ⟨0,0,none⟩=some (.int .i64 m):=(d.out.below.cell (by rw [←U.out];exact aC hm)).trans hm;have M:=Lib.hid (Bf ⟨I,T,f,z,D⟩ (.slice C H F) m K b1 d7 g7);have a7:Hid (bP l=if dr ⟨I,T,f,z,D⟩ then some ⟨I,T,f,z,D⟩ else none):=Lib.hid (by rw [S.out,a5.out,if_pos (by simpa using hq)];rfl);have q0:K.cell? ⟨s+2,0,none⟩=some (.int .i64 I):=(d.out.cellAt 0).1;have q1:K.cell? ⟨s+2,1,none⟩=some (.int .i64 T):=(d.out.cellAt 1).1;have q2:K.cell? ⟨s+2,2,none⟩=some (.string (bs f)):=(d.out.cellAt 2).1;have q3:K.cell? ⟨s+2,3,none⟩=some (.slice C H F):=(d.out.cellAt 3).1;have q4:K.cell? ⟨s+2,4,none⟩=some (.string (bs D)):=(d.out.cellAt 4).1;have i0:=Lib.hid d7;have h7:=Lib.hid d1;simp only [aY] at M;clear d7 d1 b1 g7 b8 b2 k0 k1 k2 k3 c4 f4 S a5 hq
     cases hM:dr ⟨I,T,f,z,D⟩ with
     | false=>
      have Z:Hid (bP l=none):=Lib.hid (by rw [a7.out,hM];rfl);rw [hM] at M;clear hM a7;go_wp2_with fail
      refine M.out.mono ?_;rintro e p ⟨rfl,G⟩;have b:=d.out.keep G;have r0:p.cell? ⟨s,0,none⟩=some (.int .i64 0):=(b.res.cell 0).1;have g0:=(b.res.cell 0).2;have r1:p.cell? ⟨s,1,none⟩=some (.int .i64 0):=(b.res.cell 1).1;have g1:=(b.res.cell 1).2;have r2:p.cell? ⟨s,2,none⟩=some (.string ⟨#[]⟩):=(b.res.cell 2).1;have g2:=(b.res.cell 2).2;have r3:p.cell? ⟨s,3,none⟩=some (.slice none 0 0):=(b.res.cell 3).1;have g3:=(b.res.cell 3).2;have r4:p.cell? ⟨s,4,none⟩=some (.string ⟨#[]⟩):=(b.res.cell 4).1;have g4:=(b.res.cell 4).2;have X:=Lib.hid b.below;clear b G d Y M q0 q1 q2 q3 q4;go_wp2_with fail
      refine bodyPost_ret (v:= .tuple #[.agg (aY lf (.slice none 0 0)),.bool false]) (by simp [results,Tryz.results114,go_sem,lf,aY,bs, *]) rfl ?_;refine ⟨.inl ⟨Z.out,rfl⟩,?_⟩;rw [U.out];exact ((((X.out.setCell (Nat.le_refl _) _).setCell (Nat.le_refl _) _).setCell (Nat.le_refl _) _).setCell (Nat.le_refl _) _).setCell (Nat.le_refl _) _
     | true=>
      have Z:Hid (bP l=some ⟨I,T,f,z,D⟩):=Lib.hid (by rw [a7.out,hM];rfl);rw [hM] at M;clear hM a7;go_wp2_with fail
      refine M.out.mono ?_;rintro e p ⟨rfl,G⟩;have b:=d.out.keep G;have f7:=dG (cJ.below (ts:=[]) G) (by simp) Y.out;have r0:p.cell? ⟨s,0,none⟩=some (.int .i64 0):=(b.res.cell 0).1;have g0:=(b.res.cell 0).2;have r1:p.cell? ⟨s,1,none⟩=some (.int .i64 0):=(b.res.cell 1).1;have g1:=(b.res.cell 1).2;have r2:p.cell? ⟨s,2,none⟩=some (.string ⟨#[]⟩):=(b.res.cell 2).1;have g2:=(b.res.cell 2).2;have r3:p.cell? ⟨s,3,none⟩=some (.slice none 0 0):=(b.res.cell 3).1;have g3:=(b.res.cell 3).2;have r4:p.cell? ⟨s,4,none⟩=some (.string ⟨#[]⟩):=(b.res.cell 4).1;have g4:=(b.res.cell 4).2;have p0:p.cell? ⟨s+2,0,none⟩=some (.int .i64 I):=(b.cellAt 0).1;have p1:p.cell? ⟨s+2,1,none⟩=some (.int .i64 T):=(b.cellAt 1).1;have p2:p.cell? ⟨s+2,2,none⟩=some (.string (bs f)):=(b.cellAt 2).1;have p3:p.cell? ⟨s+2,3,none⟩=some (.slice C H F):=(b.cellAt 3).1;have p4:p.cell? ⟨s+2,4,none⟩=some (.string (bs D)):=(b.cellAt 4).1;have X:=Lib.hid b.below;have d8:=Lib.hid f7;have k6:=Lib.hid b.res;clear b f7 G d Y M q0 q1 q2 q3 q4;go_wp2_with fail
      refine bodyPost_ret (v:= .tuple #[.agg (aY ⟨I,T,f,z,D⟩ (.slice C H F)),.bool true]) (by simp [results,Tryz.results114,go_sem,aY, *]) rfl ?_;refine ⟨.inr ⟨⟨I,T,f,z,D⟩,.slice C H F,Z.out,rfl,?_,i0.out⟩,?_⟩
      ·rw [U.out,h7.out];refine World.ownsRow.mono (base:=s+3) ?_ (by omega);have hS:∀(u:World) (j:Nat) (x:Value),u.ownsRow (s+3) 9 1 (.slice C H F) k (aB z)→(u.setCell ⟨s,j,none⟩ x).ownsRow (s+3) 9 1 (.slice C H F) k (aB z):=fun u j x h=>dJ h (show aL s u _ from (aL.refl _ _).setCell _) (by omega);exact hS _ _ _ (hS _ _ _ (hS _ _ _ (hS _ _ _ (hS _ _ _ d8.out))))
      ·rw [U.out];exact ((((X.out.setCell (Nat.le_refl _) _).setCell (Nat.le_refl _) _).setCell (Nat.le_refl _) _).setCell (Nat.le_refl _) _).setCell (Nat.le_refl _) _
 ·have S:Hid (bP l=none):=Lib.hid (by
   cases l with
   | nil=>rfl
   | cons c r=>
    have A:¬c=77:=fun e=>a0 (by rw [e];rfl);unfold bP;simp only
    rw [if_neg A])
  have m1:((bs (gK ((some l).bind (bm 1)))).toList == [77])=false:=by
   rw [qM]
   cases l with
   | nil=>rfl
   | cons c r=>
    have A:¬c=77:=fun e=>a0 (by rw [e];rfl);show ([c] == [77])=false;simpa using A
  obtain ⟨t,et⟩:∃t,gK ((some l).bind (bm 1))=t:=⟨_,rfl⟩;rw [et] at m1 R;clear a0 et;go_enter Tryz.func114,Tryz.ntmps114;go_wp2_with fail
  rw [b7.out];refine R.out.mono ?_;rintro e W ⟨rfl,B,y⟩;have O:=a6.out.same y (by omega);have k0:W.cell? ⟨s,0,none⟩=some (.int .i64 0):=(O.cell 0).1;have k1:W.cell? ⟨s,1,none⟩=some (.int .i64 0):=(O.cell 1).1;have k2:W.cell? ⟨s,2,none⟩=some (.string ⟨#[]⟩):=(O.cell 2).1;have k3:W.cell? ⟨s,3,none⟩=some (.slice none 0 0):=(O.cell 3).1;have k4:W.cell? ⟨s,4,none⟩=some (.string ⟨#[]⟩):=(O.cell 4).1;have f0:=(O.cell 0).2;have f1:=(O.cell 1).2;have f2:=(O.cell 2).2;have f3:=(O.cell 3).2;have f4:=(O.cell 4).2;have h4:=Lib.hid (a4.out.trans (y.below (by omega)));clear B y O R a6 a4;go_wp2_with fail
  refine bodyPost_ret (v:= .tuple #[.agg (aY lf (.slice none 0 0)),.bool false]) (by simp [results,Tryz.results114,go_sem,lf,aY,bs, *]) rfl ?_;refine ⟨.inl ⟨S.out,rfl⟩,?_⟩;rw [U.out];exact ((((h4.out.setCell (Nat.le_refl _) _).setCell (Nat.le_refl _) _).setCell (Nat.le_refl _) _).setCell (Nat.le_refl _) _).setCell (Nat.le_refl _) _
theorem cJ.toBelow {a b:World} {B:Nat} (h:cJ [] a b) (d:B≤a.heap.size):Below B a b:=
 ⟨h.still.1,h.still.2.1,h.still.2.2,h.size,fun k f=>by
  have c:k < a.heap.size:=by omega
  have e:=Array.getElem?_eq_getElem c;rw [e]
  exact h.block k _ e (by simp)⟩
theorem wV (l:List Nat) (n:Nat):aZ (l++[n])=aZ l++[.int .i64 (n:Int)]:=by simp [aZ]
def oe (w:World) (q:Nat) (I:Nat) (v:Value):Prop:=w.heap[q]? =some (.cells #[.int .i64 I,v] 193 (0,0))
theorem oe.cell {w:World} {q I:Nat} {v:Value} (h:oe w q I v) (j:Nat):w.cell? ⟨q,j,none⟩=(#[.int .i64 I,v]:Array Value)[j]? ∧w.frozen? ⟨q,j,none⟩=false:=
 ⟨Lib.cell_of_heap h j,Lib.frozen_of_heap h j⟩
def jv (o:Option (List UInt8)):Option (Nat×List Nat):=o.bind dq
def zO (b:Nat) (o:Option (List UInt8)) (w:World) (e:Ending) (w':World):Prop:=
 (jv o=none∧e= .returned (.tuple #[.agg #[.int .i64 0,.slice none 0 0],.bool false])∨∃id ps v,jv o=some (id,ps)∧e= .returned (.tuple #[.agg #[.int .i64 (id:Nat),v],.bool true])∧w'.ownsRow w.heap.size 3 1 v ps.length (aZ ps)∧id≤4294967295∧1≤ps.length∧ps.length≤255∧∀x∈ps,x≤255)∧sc b w w'
theorem wQ (o:Option (List UInt8)) {g i e:Option (List UInt8)} {I N:Nat} {a:List Nat} (b:gj 4 o=(I,g)) (c:gj 1 g=(N,i)) (f:iM N i=(a,e)):jv o=if e=some []∧1≤a.length∧bF a=true then some (I,a) else none:=by
 cases o with
 | none=>
  rw [kh] at b;injection b with _ b;subst b;rw [kh] at c;injection c with _ c;subst c;have:=l7 N;rw [f] at this;simp only at this;rw [if_neg (by rw [this];rintro ⟨h,_⟩;cases h)];rfl
 | some r=>
  show dq r=_;unfold dq;rw [C4 r b c f]
  by_cases h:e=some []
  ·rw [if_pos h,sb]
   by_cases d:1≤a.length∧bF a=true
   ·rw [if_pos (by simp only [Bool.and_eq_true,decide_eq_true_eq];exact d),if_pos ⟨h,d⟩]
   ·rw [if_neg (by simp only [Bool.and_eq_true,decide_eq_true_eq];exact d),if_neg (fun k=>d k.2)]
  ·rw [if_neg h,if_neg (fun k=>h k.1)];rfl
theorem sc.drewN {b:Nat} {w c:World} (h:sc b w c) (n:Nat):sc b w (c.drewN n):=
 ⟨by simpa using h.size,fun k d a=>by simpa using h.block k d a,h.still.trans (kV n c)⟩
theorem sc.setNew {b p:Nat} {w c:World} (h:sc b w c) (e:w.heap.size≤p) {j:Nat} (v:Value):sc b w (c.setCell ⟨p,j,none⟩ v):=
 ⟨by simpa using h.size,fun k d a=>(heap_setCell_other c ⟨p,j,none⟩ k v (by show k≠p;omega)).trans (h.block k d a),h.still.trans ⟨rfl,rfl,rfl⟩⟩
structure LS (w wk:World) (s b:Nat) (o:Option (List UInt8)) (I:Nat) (v:Value):Prop where
 fd:gG wk b o
 res:oe wk s 0 (.slice none 0 0)
 lv:oe wk (s+1) I v
 but:sc b w wk
 size:s+2≤wk.heap.size
theorem LS.fdStep {w e a:World} {s b I:Nat} {o d:Option (List UInt8)} {v:Value} (h:LS w e s b o I v) (i:b < s) (c:aL b e a) (f:gG a b d):LS w a s b d I v:=
 ⟨f,(c.2 s (by omega)).trans h.res,(c.2 (s+1) (by omega)).trans h.lv,h.but.trans ⟨by rw [c.1];exact Nat.le_refl _,fun k _ g=>c.2 k g,c.3⟩,by rw [c.1];exact h.size⟩
theorem LS.keep {w e c:World} {s b I:Nat} {o:Option (List UInt8)} {v:Value} (h:LS w e s b o I v) (f:b < s) (a:Below e.heap.size e c):LS w c s b o I v:=by
 have g:=h.size;exact ⟨h.fd.blk (a.block b (by omega)),(a.block s (by omega)).trans h.res,(a.block (s+1) (by omega)).trans h.lv,h.but.trans ⟨a.size,fun k d _=>a.block k d,dU.of_below a⟩,Nat.le_trans h.size a.size⟩
theorem LS.set {w c:World} {s b I I' j:Nat} {o:Option (List UInt8)} {v v' u:Value} (h:LS w c s b o I v) (i:w.heap.size≤s+1) (g:b < s) (e:(#[.int .i64 I,v]:Array Value).setIfInBounds j u=#[.int .i64 I',v']):LS w (c.setCell ⟨s+1,j,none⟩ u) s b o I' v':=by
 have a:aL (s+1) c (c.setCell ⟨s+1,j,none⟩ u):=(aL.refl _ _).setCell _;refine ⟨h.fd.same a (by omega),(a.2 s (by omega)).trans h.res,?_,⟨by rw [a.1];exact h.but.size,fun k f d=>(a.2 k (by omega)).trans (h.but.block k f d),h.but.still.trans a.3⟩,by rw [a.1];exact h.size⟩
 have:=heap_setCell_same c (s+1) j _ _ u h.lv;unfold oe;rw [this,e]
theorem LS.ofGrown {w g p l:World} {s b I n:Nat} {o:Option (List UInt8)} {v:Value} {t:List Value} (h:LS w g s b o I v) (x:w.heap.size≤s) (u:b < s) (q:g.ownsRow (s+2) 3 1 v n t) (d:Below g.heap.size g p) (c:p.grownBy l v.ownBlock):LS w l s b o I v:=by
 have y:=h.size;have f:∀j,v.ownBlock=some j→s+2≤j:=fun j r=>(q.lt j r).1
 have a:∀k,k < s+2→l.heap[k]? =g.heap[k]? :=fun k m=>by
  rw [c.block k (by have:=d.size;omega) (fun e=>by have:=f k e.symm;omega),d.block k (by omega)]
 exact ⟨h.fd.blk (a _ (by omega)),(a s (by omega)).trans h.res,(a (s+1) (by omega)).trans h.lv,⟨by have:=d.size;have:=c.size;have:=h.but.size;omega,fun k m i=>(a k (by omega)).trans (h.but.block k m i),h.but.still.trans ((dU.of_below d).trans ⟨c.os,c.tape,c.output⟩)⟩,by have:=d.size;have:=c.size;omega⟩
theorem rH (b:Nat) (o:Option (List UInt8)) (w:World) (h:gG w b o) (R:b < w.heap.size):
  Calls Tryz.prog 167 #[.pointer (some ⟨b,0,none⟩)] w (zO b o w):=by
 obtain ⟨s,hs⟩:∃s,w.heap.size=s:=⟨_,rfl⟩;rw [hs] at R;have HH:=Lib.hid h;have d:=Lib.hid hs;clear h;go_enter Tryz.func167,Tryz.ntmps167;go_wp2_with fail
 obtain ⟨X,z⟩:∃X:World,(w.alloc (.cells #[.int .i64 0,.slice none 0 0] 193)).alloc (.cells #[.int .i64 0,.slice none 0 0] 193)=X:=⟨_,rfl⟩
 have S0:LS w X s b o 0 (.slice none 0 0):=by
  have P:Below w.heap.size w X:=by rw [←z];exact ((Below.refl _ _).alloc (Nat.le_refl _) _).alloc (by simp) _
  refine ⟨HH.out.blk (P.block b (by omega)),?_,?_,⟨P.size,fun k hk _=>P.block k hk,dU.of_below P⟩,by rw [←z];simp;omega⟩
  ·unfold oe;rw [←z,←hs,((Below.refl (w.alloc (.cells #[.int .i64 0,.slice none 0 0] 193)).heap.size _).alloc (Nat.le_refl _) _).block w.heap.size (by simp)];exact heap_alloc_new w _
  ·unfold oe;rw [←z,←hs];have:=heap_alloc_new (w.alloc (.cells #[.int .i64 0,.slice none 0 0] 193)) (.cells #[.int .i64 0,.slice none 0 0] 193);simpa using this
 have U:=Lib.hid S0;rw [z];obtain ⟨I,T,hI⟩:∃I T,gj 4 o=(I,T):=⟨_,_,rfl⟩;have b5:I≤4294967295:=by have:=lZ 4 o;rw [hI] at this;simp at this;omega
 have J:Calls Tryz.prog 111 #[.pointer (some ⟨b,0,none⟩),.int .i64 4] X fun e m=>e= .returned (.int .i64 (gj 4 o).1)∧gG m b (gj 4 o).2∧aL b X m:=dZ b 4 o X U.out.fd (by decide);rw [hI] at J;have HI:=Lib.hid hI;clear hI S0 z;refine J.mono ?_;rintro e w3 ⟨rfl,Q,O⟩;have S3:=U.out.fdStep R O Q;obtain ⟨c0,f0⟩:=S3.lv.cell 0;have W:LS w (w3.setCell ⟨s+1,0,none⟩ (.int .i64 I)) s b T I (.slice none 0 0):=S3.set (by omega) R rfl;obtain ⟨W3,Y⟩:∃W3:World,w3.setCell ⟨s+1,0,none⟩ (.int .i64 I)=W3:=⟨_,rfl⟩;rw [Y] at W;have V:=Lib.hid W;have a2:=Lib.hid Y;clear Q O S3 W Y J U HH;obtain ⟨N,Z,hN⟩:∃N Z,gj 1 T=(N,Z):=⟨_,_,rfl⟩;have d4:N≤255:=by have:=lZ 1 T;rw [hN] at this;simp at this;omega
 have J:Calls Tryz.prog 111 #[.pointer (some ⟨b,0,none⟩),.int .i64 1] W3 fun e m=>e= .returned (.int .i64 (gj 1 T).1)∧gG m b (gj 1 T).2∧aL b W3 m:=dZ b 1 T W3 V.out.fd (by decide);rw [hN] at J;have HC:=Lib.hid J;have HN:=Lib.hid hN;clear J hN;go_wp2_with fail
 rw [a2.out];refine HC.out.mono ?_;rintro e w7 ⟨rfl,Q,O⟩;have a1:=Lib.hid (V.out.fdStep R O Q);clear Q O HC V a2 c0 f0;go_wp2_with fail
 obtain ⟨ii,b8,a6,a7,a8⟩:=info_parts E7;go_loopw [10] (fun i m=>∃(k:Nat) (v:Value) (f:List Nat) (p:Option (List UInt8)),k≤N∧i= .int .i64 k∧Hid (iM k Z=(f,p))∧Hid (LS w m s b p I v)∧Hid (m.ownsRow (s+2) 3 1 v k (aZ f))) (fun i _=>N - (intOf i).toNat)
 case atStart=>exact ⟨0,_,[],Z,Nat.zero_le _,rfl,Lib.hid rfl,a1,Lib.hid (World.ownsRow_nil _ _ _ _)⟩
 case round=>
  clear a1;obtain ⟨k,v,f,p,hk,rfl,L,H,HO⟩:=hrel;have a3:f.length=k:=by have:=xW k Z;rw [L.out] at this;exact this
  have B:=Lib.hid a3
  obtain ⟨r,y,rfl⟩:∃a c,v= .slice a k c:=by
   rcases HO.out.2 with ⟨e,h0⟩ | ⟨g,d2,d3,e,_⟩
   ·exact ⟨_,_,by rw [h0];exact e⟩
   ·exact ⟨_,_,e⟩
  clear a3
  by_cases d5:k < N
  ·have c7:(k:Int) < (N:Int):=by omega
   obtain ⟨x,p',hx⟩:∃x p',gj 1 p=(x,p'):=⟨_,_,rfl⟩;have a9:Hid (iM (k+1) Z=(f++[x],p')):=Lib.hid (by rw [iM,L.out];simp only [hx])
   have b1:Hid (∀m,gG m b p→Calls Tryz.prog 111 #[.pointer (some ⟨b,0,none⟩),.int .i64 1] m fun e F=>e= .returned (.int .i64 (x:Int))∧gG F b p'∧aL b m F):=Lib.hid (fun m h'=>by
    have J:Calls Tryz.prog 111 #[.pointer (some ⟨b,0,none⟩),.int .i64 1] m fun e F=>e= .returned (.int .i64 (gj 1 p).1)∧gG F b (gj 1 p).2∧aL b m F:=dZ b 1 p m h' (by decide);rw [hx] at J
    exact J)
   have Sd:Hid (LS w wr.drew s b p I (.slice r k y)):=Lib.hid (H.out.keep R ((Below.refl _ _).drew));have Od:Hid (wr.drew.ownsRow (s+2) 3 1 (.slice r k y) k (aZ f)):=Lib.hid HO.out.drew;have c3:wr.drew.cell? ⟨s+1,1,none⟩=some (.slice r k y):=(Sd.out.lv.cell 1).1;clear hx;go_wp2_with fail
   go_region_law (first
    | (refine step_append_lies _ (by rfl) _ _ _ (by rfl) (s+2) 3 ii _ 1 8 Tryz.underlying28 b8 a6 a7 a8 rfl (by decide) (.slice r k y) k (aZ f) (by rfl) (O9.out.alloc _) ⟨w9.heap.size,0,none⟩ 1 1 [.int .i64 (x:Int)] (by rfl) (by rfl) (World.news_of_block (cs:=#[.int .i64 (x:Int)]) (t:=3) (fr:=(0,0)) (heap_alloc_new w9 _)) (by simp [Value.oneCell']) (by decide) (by unfold maxLen;omega) (by omega) (by simp;omega) (w9.heap.size+1) (by simp) ?_;intro ga C G S D b6 c2;have M:=Lib.hid (S9.out.ofGrown (by rw [d.out];exact Nat.le_refl _) R O9.out ((Below.refl _ _).alloc (Nat.le_refl _) _) D);have c5:G.cell? ⟨s+1,1,none⟩=some (.slice r k y):=(M.out.lv.cell 1).1;have b4:=(M.out.lv.cell 1).2;have a0:=Lib.hid S;clear S D b6)
    | (go_simp;go_at_call 111;refine (b1.out _ Sd.out.fd).mono ?_;rintro e w9 ⟨rfl,Q,O⟩;have S9:=Lib.hid (Sd.out.fdStep R O Q);have O9:=Lib.hid (dJ Od.out O (by omega));have c9:w9.cell? ⟨s+1,1,none⟩=some (.slice r k y):=(S9.out.lv.cell 1).1;have z9:=S9.out.size;have c8:∀o:Obj,(w9.alloc o).cell? ⟨s+1,1,none⟩=some (.slice r k y):=(fun o=>(((Below.refl w9.heap.size w9).alloc (Nat.le_refl _) o).cell (aC c9)).trans c9);clear Q O;dsimp only))
   all_goals
    have b3:=Lib.hid (M.out.set (j:=1) (u:= .slice (some ⟨ga,0,none⟩) (k+1) C) (I':=I) (v':= .slice (some ⟨ga,0,none⟩) (k+1) C) (by rw [d.out];omega) R rfl);have b2:=Lib.hid (dJ a0.out (show aL (s+1) G (G.setCell ⟨s+1,1,none⟩ (.slice (some ⟨ga,0,none⟩) (k+1) C)) from (aL.refl _ _).setCell _) (by omega));clear c5 b4 a0 M;go_wp2_with fail
    exact ⟨⟨k+1,_,f++[x],p',by omega,by go_num,a9,b3,Lib.hid (by rw [wV];exact b2.out)⟩,by simp [intOf];omega⟩
  ·have c1:k=N:=by omega
   subst c1;have l:Hid (jv o=if p=some []∧1≤f.length∧bF f=true then some (I,f) else none):=Lib.hid (wQ o HI.out HN.out L.out);have a4:∀x∈f,x < 256:=by have:=Bp k Z;rw [L.out] at this;exact this
   have b0:=Lib.hid a4;have A:=Lib.hid (ue b p wr H.out.fd);have d0:wr.cell? ⟨s+1,0,none⟩=some (.int .i64 I):=(H.out.lv.cell 0).1;have d1:wr.cell? ⟨s+1,1,none⟩=some (.slice r k y):=(H.out.lv.cell 1).1;have r0:wr.cell? ⟨s,0,none⟩=some (.int .i64 0):=(H.out.res.cell 0).1;have g0:=(H.out.res.cell 0).2;have r1:wr.cell? ⟨s,1,none⟩=some (.slice none 0 0):=(H.out.res.cell 1).1;have g1:=(H.out.res.cell 1).2;have HB:=Lib.hid H.out.but;have HX:=Lib.hid H.out.lv;clear a4;go_wp2_with fail
   refine A.out.mono ?_;rintro e d6 ⟨rfl,rfl⟩
   cases hq:decide (p=some []) with
   | false=>
    have q:Hid (jv o=none):=Lib.hid (by rw [l.out,if_neg (by rintro ⟨h,_⟩;simp [h] at hq)]);clear l hq A;go_wp2_with fail
    refine bodyPost_ret (v:= .tuple #[.agg #[.int .i64 0,.slice none 0 0],.bool false]) (by simp [results,Tryz.results167,go_sem, *]) rfl ?_;exact ⟨.inl ⟨q.out,rfl⟩,(HB.out.setNew (by rw [d.out];exact Nat.le_refl _) _).setNew (by rw [d.out];exact Nat.le_refl _) _⟩
   | true=>
    by_cases a5:k=0
    ·have q:Hid (jv o=none):=Lib.hid (by rw [l.out,if_neg (by rintro ⟨_,h,_⟩;have:=B.out;omega)]);have b7:((k:Int) == 0)=true:=by rw [a5];rfl
     clear l hq A;go_wp2_with fail
     refine bodyPost_ret (v:= .tuple #[.agg #[.int .i64 0,.slice none 0 0],.bool false]) (by simp [results,Tryz.results167,go_sem, *]) rfl ?_;exact ⟨.inl ⟨q.out,rfl⟩,(HB.out.setNew (by rw [d.out];exact Nat.le_refl _) _).setNew (by rw [d.out];exact Nat.le_refl _) _⟩
    ·have b7:((k:Int) == 0)=false:=by rw [beq_eq_false_iff_ne];omega
     have E:bg wr (.slice r k y) f.length 1 (aZ f):=by rw [B.out];exact vF HO.out
     have K:=Lib.hid (zh (.slice r k y) f wr E (by have:=B.out;omega));have c6:¬k=0:=a5
     cases hR:bF f with
     | false=>
      have q:Hid (jv o=none):=Lib.hid (by rw [l.out,if_neg (by rintro ⟨_,_,h⟩;rw [hR] at h;cases h)]);rw [hR] at K;clear l hq A hR E;go_wp2_with fail
      refine K.out.mono ?_;rintro e G ⟨rfl,n,rfl⟩;go_wp2_with fail
      refine bodyPost_ret (v:= .tuple #[.agg #[.int .i64 0,.slice none 0 0],.bool false]) (by simp [results,Tryz.results167,go_sem, *]) rfl ?_;exact ⟨.inl ⟨q.out,rfl⟩,((HB.out.drewN n).setNew (by rw [d.out];exact Nat.le_refl _) _).setNew (by rw [d.out];exact Nat.le_refl _) _⟩
     | true=>
      have q:Hid (jv o=some (I,f)):=Lib.hid (by rw [l.out,if_pos ⟨by simpa using hq,by have:=B.out;omega,hR⟩]);rw [hR] at K;clear l hq A hR E;go_wp2_with fail
      refine K.out.mono ?_;rintro e G ⟨rfl,n,rfl⟩;go_wp2_with fail
      refine bodyPost_ret (v:= .tuple #[.agg #[.int .i64 I,.slice r k y],.bool true]) (by simp [results,Tryz.results167,go_sem, *]) rfl ?_;have c4:=B.out;refine ⟨.inr ⟨I,f,.slice r k y,q.out,rfl,?_,b5,by omega,by omega,fun x hx=>by have:=b0.out x hx;omega⟩,((HB.out.drewN n).setNew (by rw [d.out];exact Nat.le_refl _) _).setNew (by rw [d.out];exact Nat.le_refl _) _⟩
      rw [d.out,c4];refine World.ownsRow.mono (base:=s+2) ?_ (by omega);have hS:∀(u:World) (j:Nat) (x:Value),u.ownsRow (s+2) 3 1 (.slice r k y) k (aZ f)→(u.setCell ⟨s,j,none⟩ x).ownsRow (s+2) 3 1 (.slice r k y) k (aZ f):=fun u j x h=>dJ h (show aL s u _ from (aL.refl _ _).setCell _) (by omega);exact hS _ _ _ (hS _ _ _ (dG ((cJ.refl [] wr).drewN n) (by simp) HO.out))
def Ka (w w':World) (id:Nat) (ps:List Nat) (v:Value):Prop:=w'.ownsRow w.heap.size 3 1 v ps.length (aZ ps)∧id≤4294967295∧1≤ps.length∧ps.length≤255∧∀x∈ps,x≤255
def yv (l:List UInt8) (w:World) (e:Ending) (w':World):Prop:=
 (dh l=none∧e= .returned (.tuple #[.agg #[.int .i64 0,.slice none 0 0],.bool false])∨∃id ps v,dh l=some (id,ps)∧e= .returned (.tuple #[.agg #[.int .i64 (id:Nat),v],.bool true])∧Ka w w' id ps v)∧Below w.heap.size w w'
def tz (l:List UInt8) (w:World) (e:Ending) (w':World):Prop:=
 (bS l=none∧e= .returned (.tuple #[.int .i64 0,.agg #[.int .i64 0,.slice none 0 0],.bool false])∨∃T id ps v,bS l=some (T,id,ps)∧e= .returned (.tuple #[.int .i64 (T:Nat),.agg #[.int .i64 (id:Nat),v],.bool true])∧Ka w w' id ps v∧T≤1000000000)∧Below w.heap.size w w'
theorem yn {w b:World} {s:Nat} {l:List UInt8} (c:w.heap.size=s) (d:l.length≤536870912) (a:(w.alloc (.cells #[.int .i64 0,.slice none 0 0] 193)).alloc (.cells #[.string (bs l),.bool false] 187)=b):
  gG b (s+1) (some l)∧oe b s 0 (.slice none 0 0)∧Below s w b∧b.heap.size=s+2:=by
 refine ⟨⟨by rw [←a,←c];have:=heap_alloc_new (w.alloc (.cells #[.int .i64 0,.slice none 0 0] 193)) (.cells #[.string (bs l),.bool false] 187);simpa using this,by unfold maxLen;omega⟩,?_,?_,?_⟩
 ·unfold oe;rw [←a,←c,((Below.refl (w.alloc (.cells #[.int .i64 0,.slice none 0 0] 193)).heap.size _).alloc (Nat.le_refl _) _).block w.heap.size (by simp)];exact heap_alloc_new w _
 ·rw [←a];exact ((Below.refl _ _).alloc (by omega) _).alloc (by simp;omega) _
 ·rw [←a,←c];simp
theorem nX {s k j n:Nat} {u:World} {v x:Value} {a:List Value} (h:u.ownsRow (s+2) 3 1 v n a) (b:k < s+2):(u.setCell ⟨k,j,none⟩ x).ownsRow (s+2) 3 1 v n a:=dJ h (show aL k u _ from (aL.refl _ _).setCell _) b
theorem ma (l:List UInt8) (w:World) (hl:l.length≤536870912):Calls Tryz.prog 116 #[.string (bs l)] w (yv l w):=by
 have sl:=aG l;obtain ⟨s,hs⟩:∃s,w.heap.size=s:=⟨_,rfl⟩;obtain ⟨M,z⟩:∃M:World,(w.alloc (.cells #[.int .i64 0,.slice none 0 0] 193)).alloc (.cells #[.string (bs l),.bool false] 187)=M:=⟨_,rfl⟩;obtain ⟨Q,T,O,U⟩:=yn hs hl z;have j:=iY (s+1) 1 (some l) M Q (by decide);have x:=Lib.hid z;have n:=Lib.hid hs;have m:=Lib.hid T;have k:=Lib.hid O;have E:=Lib.hid U;clear z Q T O U
 by_cases f:l.take 1=[71]
 ·obtain ⟨r,Z⟩:∃r,l.drop 1=r:=⟨_,rfl⟩;have S:Hid (l=71::r):=Lib.hid (by rw [←List.take_append_drop 1 l,f,Z];rfl);have W:(some l).bind (bm 1)=some ([71],r):=by show bm 1 l=_;rw [S.out];rfl
  have b:Hid (dh l=dq r):=Lib.hid (by rw [S.out];unfold dh;simp only;rw [if_pos trivial]);rw [W] at j;have m1:((bs (gK (some ([71],r)))).toList == [71])=true:=by show ((bs [71]).toList == [71])=true;rw [qM];rfl
  have d:=Lib.hid j;clear j W Z f;go_enter Tryz.func116,Tryz.ntmps116;go_wp2_with fail
  rw [x.out];refine d.out.mono ?_;rintro e p ⟨rfl,B,i⟩;have R:gG p (s+1) (some r):=B;have o:oe p s 0 (.slice none 0 0):=(i.2 s (by omega)).trans m.out;have P:=k.out.trans (i.below (by omega));have V:p.heap.size=s+2:=i.1.trans E.out;have D:=Lib.hid (rH (s+1) (some r) p R (by omega));have L:=Lib.hid o;have q:=Lib.hid P;have y:=Lib.hid V;clear B i R o P V d m k E x;go_wp2_with fail
  refine D.out.mono ?_;rintro e K ⟨A,h⟩;have F:oe K s 0 (.slice none 0 0):=(h.block s (by have:=y.out;omega) (by omega)).trans L.out;have r0:K.cell? ⟨s,0,none⟩=some (.int .i64 0):=(F.cell 0).1;have g0:=(F.cell 0).2;have r1:K.cell? ⟨s,1,none⟩=some (.slice none 0 0):=(F.cell 1).1;have g1:=(F.cell 1).2;have C:Hid (Below s w K):=Lib.hid (q.out.trans (h.below (by omega) (by have:=y.out;omega)));clear h F D
  rcases A with ⟨G,rfl⟩ | ⟨N,H,v,G,rfl,J,B,i,h3,Y⟩
  ·have u:Hid (dh l=none):=Lib.hid (by rw [b.out];exact G);clear G b;go_wp2_with fail
   refine bodyPost_ret (v:= .tuple #[.agg #[.int .i64 0,.slice none 0 0],.bool false]) (by simp [results,Tryz.results116,go_sem, *]) rfl ?_;refine ⟨.inl ⟨u.out,rfl⟩,?_⟩;rw [n.out];exact (C.out.setCell (Nat.le_refl _) _).setCell (Nat.le_refl _) _
  ·have u:Hid (dh l=some (N,H)):=Lib.hid (by rw [b.out];exact G);rw [y.out] at J;have HO:=Lib.hid J;have H4:=Lib.hid Y
   obtain ⟨a,I,rfl⟩:∃a I,v= .slice a H.length I:=by
    rcases J.2 with ⟨e,h0⟩ | ⟨g,a0,a1,e,_⟩
    ·exact ⟨_,_,by rw [h0];exact e⟩
    ·exact ⟨_,_,e⟩
   clear G b J Y;go_wp2_with fail
   refine bodyPost_ret (v:= .tuple #[.agg #[.int .i64 N,.slice a H.length I],.bool true]) (by simp [results,Tryz.results116,go_sem, *]) rfl ?_;refine ⟨.inr ⟨N,H,.slice a H.length I,u.out,rfl,?_,B,i,h3,H4.out⟩,?_⟩
   ·rw [n.out];exact (nX (nX HO.out (by omega)) (by omega)).mono (by omega)
   ·rw [n.out];exact (C.out.setCell (Nat.le_refl _) _).setCell (Nat.le_refl _) _
 ·have b:Hid (dh l=none):=Lib.hid (by
   cases l with
   | nil=>rfl
   | cons c r=>
    have j:¬c=71:=fun e=>f (by rw [e];rfl);unfold dh;simp only
    rw [if_neg j])
  have m1:((bs (gK ((some l).bind (bm 1)))).toList == [71])=false:=by
   rw [qM]
   cases l with
   | nil=>rfl
   | cons c r=>
    have j:¬c=71:=fun e=>f (by rw [e];rfl);show ([c] == [71])=false;simpa using j
  obtain ⟨t,X⟩:∃t,gK ((some l).bind (bm 1))=t:=⟨_,rfl⟩;rw [X] at m1 j;have d:=Lib.hid j;clear f X j;go_enter Tryz.func116,Tryz.ntmps116;go_wp2_with fail
  rw [x.out];refine d.out.mono ?_;rintro e p ⟨rfl,B,i⟩;have o:oe p s 0 (.slice none 0 0):=(i.2 s (by omega)).trans m.out;have r0:p.cell? ⟨s,0,none⟩=some (.int .i64 0):=(o.cell 0).1;have g0:=(o.cell 0).2;have r1:p.cell? ⟨s,1,none⟩=some (.slice none 0 0):=(o.cell 1).1;have g1:=(o.cell 1).2;have q:=Lib.hid (k.out.trans (i.below (by omega)));clear B i o d m k;go_wp2_with fail
  refine bodyPost_ret (v:= .tuple #[.agg #[.int .i64 0,.slice none 0 0],.bool false]) (by simp [results,Tryz.results116,go_sem, *]) rfl ?_;refine ⟨.inl ⟨b.out,rfl⟩,?_⟩;rw [n.out];exact (q.out.setCell (Nat.le_refl _) _).setCell (Nat.le_refl _) _
theorem nA (l:List UInt8) (w:World) (hl:l.length≤536870912):Calls Tryz.prog 118 #[.string (bs l)] w (tz l w):=by
 have sl:=aG l;obtain ⟨s,hs⟩:∃s,w.heap.size=s:=⟨_,rfl⟩;obtain ⟨W0,K⟩:∃W0:World,(w.alloc (.cells #[.int .i64 0,.slice none 0 0] 193)).alloc (.cells #[.string (bs l),.bool false] 187)=W0:=⟨_,rfl⟩;obtain ⟨F0,R0,B0,Z0⟩:=yn hs hl K;have p:=iY (s+1) 1 (some l) W0 F0 (by decide);have H:=Lib.hid K;have j:=Lib.hid hs;have z:=Lib.hid R0;have y:=Lib.hid B0;have S:=Lib.hid Z0;clear K F0 R0 B0 Z0
 by_cases m:l.take 1=[70]
 ·obtain ⟨r,hr⟩:∃r,l.drop 1=r:=⟨_,rfl⟩;have HL:Hid (l=70::r):=Lib.hid (by rw [←List.take_append_drop 1 l,m,hr];rfl);have e1:(some l).bind (bm 1)=some ([70],r):=by show bm 1 l=_;rw [HL.out];rfl
  have A:Hid (bS l=(fZ 4 r).bind fun a=>(dq a.2).bind fun x=>if a.1≤1000000000 then some (a.1,x.1,x.2) else none):=Lib.hid (by rw [HL.out];unfold bS;simp only;rw [if_pos trivial]);rw [e1] at p;have m1:((bs (gK (some ([70],r)))).toList == [70])=true:=by show ((bs [70]).toList == [70])=true;rw [qM];rfl
  have h:=Lib.hid p;clear p e1 hr m;go_enter Tryz.func118,Tryz.ntmps118;go_wp2_with fail
  rw [H.out];refine h.out.mono ?_;rintro e u ⟨rfl,B,d⟩;have F1:gG u (s+1) (some r):=B;have k:oe u s 0 (.slice none 0 0):=(d.2 s (by omega)).trans z.out;have P:=y.out.trans (d.below (by omega));have V:u.heap.size=s+2:=d.1.trans S.out;obtain ⟨T,X,hT⟩:∃T X,gj 4 (some r)=(T,X):=⟨_,_,rfl⟩;have a6:T≤4294967295:=by have:=lZ 4 (some r);rw [hT] at this;simp at this;omega
  have f:Hid (bS l=(jv X).bind fun x=>if T≤1000000000 then some (T,x.1,x.2) else none):=Lib.hid (by
   rw [A.out,jI,hT]
   cases X with
   | none=>rfl
   | some q=>rfl)
  have M:Calls Tryz.prog 111 #[.pointer (some ⟨s+1,0,none⟩),.int .i64 4] u fun e w'=>e= .returned (.int .i64 (gj 4 (some r)).1)∧gG w' (s+1) (gj 4 (some r)).2∧aL (s+1) u w':=dZ (s+1) 4 (some r) u F1 (by decide);rw [hT] at M;have Q:=Lib.hid M;have D:=Lib.hid k;have C:=Lib.hid P;have E:=Lib.hid V;clear B d F1 k P V h z y S H hT M A;go_wp2_with fail
  refine Q.out.mono ?_;rintro e O ⟨rfl,B,d⟩;have k:oe O s 0 (.slice none 0 0):=(d.2 s (by omega)).trans D.out;have P:=C.out.trans (d.below (by omega));have V:O.heap.size=s+2:=d.1.trans E.out;have R:=Lib.hid (rH (s+1) X O B (by omega));have a0:=Lib.hid k;have F:=Lib.hid P;have I:=Lib.hid V;clear B d k P V Q D C E;go_wp2_with fail
  refine R.out.mono ?_;rintro e b ⟨L,n⟩;have U:oe b s 0 (.slice none 0 0):=(n.block s (by have:=I.out;omega) (by omega)).trans a0.out;have Z:b.cell? ⟨s,0,none⟩=some (.int .i64 0):=(U.cell 0).1;have g0:=(U.cell 0).2;have r1:b.cell? ⟨s,1,none⟩=some (.slice none 0 0):=(U.cell 1).1;have g1:=(U.cell 1).2;have G:Hid (Below s w b):=Lib.hid (F.out.trans (n.below (by omega) (by have:=I.out;omega)));have a7:s < b.heap.size:=aC Z;have a9:∀o:Obj,(b.alloc o).cell? ⟨s,0,none⟩=some (.int .i64 0):=fun o=>(((Below.refl b.heap.size b).alloc (Nat.le_refl _) o).cell (aC Z)).trans Z;have b0:∀o:Obj,(b.alloc o).cell? ⟨s,1,none⟩=some (.slice none 0 0):=fun o=>(((Below.refl b.heap.size b).alloc (Nat.le_refl _) o).cell (aC r1)).trans r1;have a4:∀o:Obj,(b.alloc o).frozen? ⟨s,0,none⟩=false:=fun o=>(((Below.refl b.heap.size b).alloc (Nat.le_refl _) o).frozen (aC Z)).trans g0;have a5:∀o:Obj,(b.alloc o).frozen? ⟨s,1,none⟩=false:=fun o=>(((Below.refl b.heap.size b).alloc (Nat.le_refl _) o).frozen (aC r1)).trans g1;have a8:¬b.heap.size=s:=by omega
  have a1:¬s=b.heap.size:=by omega
  clear n U R
  rcases L with ⟨N,rfl⟩ | ⟨id,Y,v,N,rfl,W,B,d,h3,h4⟩
  ·have i:Hid (bS l=none):=Lib.hid (by rw [f.out,N];rfl);clear N f;go_wp2_with fail
   refine bodyPost_ret (v:= .tuple #[.int .i64 0,.agg #[.int .i64 0,.slice none 0 0],.bool false]) (by simp [results,Tryz.results118,go_sem, *]) rfl ?_;refine ⟨.inl ⟨i.out,rfl⟩,?_⟩;rw [j.out];exact ((G.out.setCell (Nat.le_refl _) _).setCell (Nat.le_refl _) _).alloc (by simp;omega) _
  ·obtain ⟨a,cp,rfl⟩:∃a cp,v= .slice a Y.length cp:=by
    rcases W.2 with ⟨e,h0⟩ | ⟨g,a2,a3,e,_⟩
    ·exact ⟨_,_,by rw [h0];exact e⟩
    ·exact ⟨_,_,e⟩
   rw [I.out] at W;have HO:=Lib.hid W;have H4:=Lib.hid h4
   by_cases J:T≤1000000000
   ·have i:Hid (bS l=some (T,id,Y)):=Lib.hid (by rw [f.out,N,sb,if_pos J]);have hd:decide (1000000000 < (T:Int))=false:=decide_eq_false (by omega);clear N f W h4;go_wp2_with fail
    go_region
    go_wp2_with fail
    refine bodyPost_ret (v:= .tuple #[.int .i64 T,.agg #[.int .i64 id,.slice a Y.length cp],.bool true]) (by simp [results,Tryz.results118,go_sem, *]) rfl ?_;refine ⟨.inr ⟨T,id,Y,.slice a Y.length cp,i.out,rfl,⟨?_,B,d,h3,H4.out⟩,J⟩,?_⟩
    ·rw [j.out];exact ((((nX (nX HO.out (by omega)) (by omega)).alloc _).drew)).mono (by omega)
    ·rw [j.out];exact (((G.out.setCell (Nat.le_refl _) _).setCell (Nat.le_refl _) _).alloc (by simp;omega) _).drew
   ·have i:Hid (bS l=none):=Lib.hid (by rw [f.out,N,sb,if_neg J]);have hd:decide (1000000000 < (T:Int))=true:=decide_eq_true (by omega);clear N f W h4;go_wp2_with fail
    refine bodyPost_ret (v:= .tuple #[.int .i64 0,.agg #[.int .i64 0,.slice none 0 0],.bool false]) (by simp [results,Tryz.results118,go_sem, *]) rfl ?_;refine ⟨.inl ⟨i.out,rfl⟩,?_⟩;rw [j.out];exact ((G.out.setCell (Nat.le_refl _) _).setCell (Nat.le_refl _) _).alloc (by simp;omega) _
 ·have A:Hid (bS l=none):=Lib.hid (by
   cases l with
   | nil=>rfl
   | cons c r=>
    have p:¬c=70:=fun e=>m (by rw [e];rfl);unfold bS;simp only
    rw [if_neg p])
  have m1:((bs (gK ((some l).bind (bm 1)))).toList == [70])=false:=by
   rw [qM]
   cases l with
   | nil=>rfl
   | cons c r=>
    have p:¬c=70:=fun e=>m (by rw [e];rfl);show ([c] == [70])=false;simpa using p
  obtain ⟨t,et⟩:∃t,gK ((some l).bind (bm 1))=t:=⟨_,rfl⟩;rw [et] at m1 p;have h:=Lib.hid p;clear m et p;go_enter Tryz.func118,Tryz.ntmps118;go_wp2_with fail
  rw [H.out];refine h.out.mono ?_;rintro e u ⟨rfl,B,d⟩;have k:oe u s 0 (.slice none 0 0):=(d.2 s (by omega)).trans z.out;have Z:u.cell? ⟨s,0,none⟩=some (.int .i64 0):=(k.cell 0).1;have g0:=(k.cell 0).2;have r1:u.cell? ⟨s,1,none⟩=some (.slice none 0 0):=(k.cell 1).1;have g1:=(k.cell 1).2;have F:=Lib.hid (y.out.trans (d.below (by omega)));clear B d k h z y;go_wp2_with fail
  refine bodyPost_ret (v:= .tuple #[.int .i64 0,.agg #[.int .i64 0,.slice none 0 0],.bool false]) (by simp [results,Tryz.results118,go_sem, *]) rfl ?_;refine ⟨.inl ⟨A.out,rfl⟩,?_⟩;rw [j.out];exact (F.out.setCell (Nat.le_refl _) _).setCell (Nat.le_refl _) _
def oM (s:ByteArray):Prop:=∀(j:Nat) (b:UInt8),s.data.toList[j]? =some b→b.toNat < 128
def my (dom:ByteArray) (d:ByteArray):Bool:=Lib.equalFold d.data.toList dom.data.toList
theorem ER (d a:ByteArray) (g:Nat) (w:World) (i:w.cell? ⟨g,0,none⟩=some (.string a)) (j:d.size≤255) (c:oM d) (f:oM a):
  Calls Tryz.prog 266 #[.string d,.pointer (some ⟨g,0,none⟩)] w fun e b=>e= .returned (.bool (my a d))∧Below w.heap.size w b:=by
 have h:Hid (∀W:World,Calls Tryz.prog 246 #[.string d,.string a] W fun e b=>e= .returned (.bool (Lib.equalFold d.data.toList a.data.toList))∧b=W):=Lib.hid (fun W=>Tryz.strings_EqualFold d a W (by omega) c f);clear c f;go_enter Tryz.func266,Tryz.ntmps266;go_wp2_with fail
 refine (h.out _).mono ?_;rintro e k ⟨rfl,rfl⟩;go_wp2_with fail
 go_ret;exact ⟨rfl,Below.refl _ _⟩
theorem tC {l:List ByteArray} {p:ByteArray→Bool} {k:Nat} (h:k < l.length) (a:(l.take k).any p=false) (b:p l[k]=false):(l.take (k+1)).any p=false:=by
 rw [List.take_succ_eq_append_getElem h,List.any_append,a];simp [b]
theorem uj (l:List ByteArray) (v:Value) (u:Nat) (a:ByteArray) (w:World) (N:bg w v l.length 1 (dK l)) (K:w.cell? ⟨u,0,none⟩=some (.string a)) (X:l.length≤5) (O:∀d∈l,d.size≤255∧oM d) (I:oM a):
  Calls Tryz.prog 289 #[v,.func (.func 266) #[] #[.pointer (some ⟨u,0,none⟩)]] w fun e E=>∃r:Int,e= .returned (.int .i64 r)∧(-1≤r∧r≤255)∧decide (0≤r)=l.any (my a)∧Below w.heap.size w E:=by
 obtain ⟨U,V,rfl,h⟩:=N.one;have Q:=Lib.hid h;have F:=Lib.hid K;have R:=Lib.hid O;have P:=Lib.hid I;obtain ⟨s,M⟩:∃s,w.heap.size=s:=⟨_,rfl⟩;have f:=Lib.hid M;clear N M K h O I;go_enter Tryz.func289,Tryz.ntmps289;go_wp2_with fail
 go_loopw [5,8] (fun _ i E=>∃k:Nat,k≤l.length∧i= .int .i64 k∧Hid ((l.take k).any (my a)=false)∧Hid (Below s w E)) (fun _ i _=>l.length - (intOf i).toNat)
 case atStart=>exact ⟨0,Nat.zero_le _,rfl,Lib.hid rfl,Lib.hid (by rw [←f.out];exact Below.refl _ _)⟩
 case round=>
  obtain ⟨k,W,rfl,y,o⟩:=hrel
  by_cases j:k < l.length
  ·have L:(k:Int) < (l.length:Int):=by omega
   obtain ⟨g,D,rfl,B,A⟩:=Q.out k j;rw [dK,List.getElem?_map,List.getElem?_eq_getElem j] at A;have S:wr.cell? ⟨g,D+k,none⟩=some (.string l[k]):=(o.out.cell (by show g < s;rw [←f.out];exact B)).trans A;have G:wr.cell? ⟨u,0,none⟩=some (.string a):=(o.out.cell (by show u < s;rw [←f.out];exact aC F.out)).trans F.out;have q:Hid (∀b:Bool,my a l[k]=b→(b=true→l.any (my a)=true)∧(b=false→(l.take (k+1)).any (my a)=false)):=Lib.hid (fun b J=>⟨fun e=>List.any_eq_true.2 ⟨_,List.getElem_mem j,by rw [J,e]⟩,fun e=>tC j y.out (by rw [J,e])⟩);have m:=R.out l[k] (List.getElem_mem j);obtain ⟨x,H⟩:∃x,l[k]=x:=⟨_,rfl⟩;rw [H] at S q m;have c:=Lib.hid (ER x a u wr G m.1 m.2 P.out);have t:s≤wr.heap.size:=by have:=o.out.size;have:=f.out;omega
   clear H A G y m
   cases p:my a x with
   | true=>
    have z:=Lib.hid ((q.out true p).1 rfl);rw [p] at c;clear q p;go_wp2_with (first | (go_at_call 266;refine c.out.mono ?_;rintro e T ⟨rfl,n⟩) | fail)
    go_ret;exact ⟨_,rfl,by omega,by rw [z.out];simp,by rw [f.out];exact o.out.trans (n.mono t)⟩
   | false=>
    have z:=Lib.hid ((q.out false p).2 rfl);rw [p] at c;clear q p;go_wp2_with (first | (go_at_call 266;refine c.out.mono ?_;rintro e T ⟨rfl,n⟩) | fail)
    exact ⟨⟨k+1,by omega,by go_num,z,Lib.hid (o.out.trans (n.mono t))⟩,by simp [intOf];omega⟩
  ·have C:k=l.length:=by omega
   subst C;rw [List.take_length] at y;go_wp2_with fail
   go_ret;exact ⟨_,rfl,by omega,by rw [y.out];rfl,by rw [f.out];exact o.out⟩
theorem pF (l:List ByteArray) (v:Value) (b:Nat) (a:ByteArray) (w:World) (i:bg w v l.length 1 (dK l)) (f:w.cell? ⟨b,0,none⟩=some (.string a)) (o:l.length≤5) (j:∀d∈l,d.size≤255∧oM d) (c:oM a):
  Calls Tryz.prog 265 #[v,.func (.func 266) #[] #[.pointer (some ⟨b,0,none⟩)]] w fun e k=>e= .returned (.bool (l.any (my a)))∧Below w.heap.size w k:=by
 have h:=uj l v b a w i f o j c;clear i f j c;go_enter Tryz.func265,Tryz.ntmps265;go_wp2_with fail
 refine h.mono ?_;rintro e k ⟨r,rfl,p,g,n⟩;have m:=Lib.hid g;clear g h;go_wp2_with fail
 go_ret;exact ⟨by rw [←m.out];rfl,n⟩
theorem vX {l:List UInt8} (h:∀(j:Nat) (b:UInt8),l[j]? =some b→b.toNat < 128):∀(j:Nat) (b:UInt8),(Lib.toLowerA l)[j]? =some b→b.toNat < 128:=by
 intro j b c;unfold Lib.toLowerA at c;rw [List.getElem?_map,Option.map_eq_some_iff] at c;obtain ⟨a,e,rfl⟩:=c;have:=h j a e;unfold Lib.lowerB
 split
 ·rename_i d
  unfold Lib.isUpperB at d;simp only [Bool.and_eq_true,decide_eq_true_eq,UInt8.le_iff_toNat_le,UInt8.reduceToNat] at d;rw [UInt8.toNat_add];simp only [UInt8.reduceToNat];omega
 ·exact this
theorem Cg {l x y:List UInt8} {f:Bool} (h:fq l=(x,y,f)):∀(j:Nat) (b:UInt8),y[j]? =some b→b.toNat < 128:=by
 unfold fq at h
 split at h
 ·rename_i a
  rw [Bool.and_eq_true] at a;injection h with _ h;injection h with h _;rw [←h];exact vX (qK _ a.2)
 ·injection h with _ h;injection h with h _;rw [←h];intro j b c;simp at c
theorem Hq {c:bX} (h:ij c=true):∀d∈c.doms,d.size≤255∧oM d:=by
 have e:=kg h;unfold ij oq nr kG kI at h;simp only [Bool.and_eq_true,decide_eq_true_eq,List.all_eq_true] at h;obtain ⟨⟨⟨⟨⟨⟨⟨⟨f,g,b⟩,_⟩,_⟩,_⟩,_⟩,_⟩,_⟩,_⟩:=h;exact fun d a=>⟨e.domz d a,qK _ (b d a)⟩
def dM (c:bX) (name:List UInt8):Bool:=(fq name).2.2 && c.doms.any (my (bs (fq name).2.1))
theorem sw (c:bX) (U V W X:Value) (a:List UInt8) (m:Int) (w:World) (h:jZ w c U V W X) (S:ij c=true) (hn:a.length≤1048576) (F:w.cell? ⟨0,0,none⟩=some (.int .i64 m)):
  Calls Tryz.prog 238 #[.agg #[.string c.host,U,V,W,.int .i64 c.most,.int .i64 c.size,X,.int .i64 c.life,.int .i64 c.room],.string (bs a)] w fun e w'=>e= .returned (.bool (dM c a))∧Below w.heap.size w w':=by
 obtain ⟨C,D,Y⟩:=aE h.1;obtain ⟨K,O,Z⟩:=aE h.2.1;obtain ⟨L,P,eU⟩:=aE h.2.2.1;obtain ⟨M,Q,eW⟩:=aE h.2.2.2;subst Y Z eU eW;obtain ⟨n,g⟩:∃n:World,w.alloc (.cells #[.string c.host,.slice C c.doms.length D,.slice K c.nets.length O,.slice L c.users.length P,.int .i64 c.most,.int .i64 c.size,.slice M c.waits.length Q,.int .i64 c.life,.int .i64 c.room] 30)=n:=⟨_,rfl⟩;have t:Below w.heap.size w n:=by rw [←g];exact (Below.refl _ _).alloc (Nat.le_refl _) _
 have I:n.heap[w.heap.size]? =some (.cells #[.string c.host,.slice C c.doms.length D,.slice K c.nets.length O,.slice L c.users.length P,.int .i64 c.most,.int .i64 c.size,.slice M c.waits.length Q,.int .i64 c.life,.int .i64 c.room] 30 (0,0)):=by rw [←g];exact heap_alloc_new w _
 have a0:=aG a;have p:=Lib.hid I;have o:=Lib.hid t;have B:=Lib.hid g;have G:=Lib.hid h.1;have A:=Lib.hid S;have T:n.cell? ⟨0,0,none⟩=some (.int .i64 m):=(t.cell (by exact aC F)).trans F;have H:=Lib.hid (vz (bs a) m n (by omega) T);clear h t I g F S T;go_enter Tryz.func238,Tryz.ntmps238;go_wp2_with fail
 rw [B.out];refine H.out.mono ?_;rintro e l ⟨x,y,f,rfl,R,k⟩;have d:Hid (fq a=(x.data.toList,y.data.toList,f)):=Lib.hid (by rw [←R,aI]);have b:=Lib.hid ((o.out.trans (k.mono o.out.size)));have q:=Lib.hid (ae k p.out);clear R k p H
 cases f with
 | false=>
  have z:Hid (dM c a=false):=Lib.hid (by unfold dM;rw [d.out];rfl);go_wp2_with fail
  go_ret;exact ⟨by rw [z.out];rfl,b.out.alloc b.out.size _⟩
 | true=>
  have z:Hid (dM c a=c.doms.any (my y)):=Lib.hid (by unfold dM;rw [d.out];simp only [Bool.true_and];congr 1);obtain ⟨j,r⟩:∃j:World,l.alloc (.cells #[.string y] 9)=j:=⟨_,rfl⟩;have u:Below l.heap.size l j:=by rw [←r];exact (Below.refl _ _).alloc (Nat.le_refl _) _
  have J:j.heap[l.heap.size]? =some (.cells #[.string y] 9 (0,0)):=by rw [←r];exact heap_alloc_new l _
  have N:j.cell? ⟨l.heap.size,0,none⟩=some (.string y):=by rw [Lib.cell_of_heap J];rfl
  have s:=ae u q.out;have y1:j.cell? ⟨w.heap.size,1,none⟩=some (.slice C c.doms.length D):=by rw [Lib.cell_of_heap s];rfl
  have i:=Lib.hid (b.out.trans (u.mono b.out.size));have v:=Lib.hid (pF c.doms _ l.heap.size y j (G.out.below i.out) N (kg A.out).doms (Hq A.out) (Cg d.out));clear u J N s G A d q;go_wp2_with (first | (go_at_call 265;refine v.out.mono ?_;rintro e w9 ⟨rfl,E⟩) | fail)
  go_ret;exact ⟨by rw [z.out];rfl,i.out.trans (E.mono i.out.size)⟩
theorem pv {P:Program} {t e:TypeId} {i:TypeInfo} {z:Value} {a:Nat} (F:P.underlying t=some (.slice e)) (E:P.info? e=some i) (H:i.zero=some z) (f:i.size=1) (r:i.bytes=a) (s:z.cells.size=1)
  (w W:World) (v x:Value) (n:Nat) (o:List Value) (l:w.ownsRow 0 e 1 v n o) (G:x.oneCell'=true) (q:Below w.heap.size w W) (D:W.heap[w.heap.size]? =some (.cells #[x] e (0,0))) (p:n+1≤maxLen) (c:(n+1) * a≤140737488355328):
  ∃g b m,(Builtin.append_ #[t,t] t #[v,.slice (some ⟨w.heap.size,0,none⟩) 1 1]).run P W= .ok (.slice (some ⟨g,0,none⟩) (n+1) b) m∧m.ownsRow 0 e 1 (.slice (some ⟨g,0,none⟩) (n+1) b) (n+1) (o++[x])∧aH (fun k=>v.ownBlock=some k) w m∧(v.ownBlock=some g∨w.heap.size≤g):=by
 have d:W.ownsRow 0 e 1 v n o:=aA l fun g A e _=>ae q e;obtain ⟨g,b,m,B,C,h⟩:=gC (P:=P) W t t 0 e i z 1 a F E H f r s (by decide) v n o d ⟨w.heap.size,0,none⟩ 1 1 [x] rfl (World.news_of_block (cs:=#[x]) (t:=e) (fr:=(0,0)) D) (by intro u y;simp at y;rw [y];exact G) (by decide) p c (Nat.zero_le _);refine ⟨g,b,m,B,C,?_,?_⟩
 ·refine (aH.below q:aH (fun k=>v.ownBlock=some k) w W).trans (A1:=fun k=>v.ownBlock=some k) ?_ (fun k _ e=>e)
  rcases h with ⟨j,h⟩ | ⟨_,h⟩
  ·exact (aH.grown h).mono fun k _ e=>j.trans e
  ·exact (aH.grown h).mono fun k _ e=>by cases e
 ·rcases h with ⟨j,_⟩ | ⟨j,_⟩
  ·exact .inl j
  ·exact .inr (by rw [j];exact q.size)
structure si (w:World) (tb:Nat) (vt vb:Value) (frm:List UInt8) (tos:List (List UInt8)):Prop where
 blk:w.heap[tb]? =some (.cells #[.string (bs frm),vt,vb] 216 (0,0))
 row:w.ownsRow 0 9 1 vt tos.length (aB tos)
theorem si.cell {w:World} {c:Nat} {e d:Value} {a:List UInt8} {b:List (List UInt8)} (h:si w c e d a b) (j:Nat):w.cell? ⟨c,j,none⟩=(#[Value.string (bs a),e,d]:Array Value)[j]? :=by rw [Lib.cell_of_heap h.blk]
theorem dm {w:World} {c j n g:Nat} {e:TypeId} {v:Value} {k:List Value} (h:w.ownsRow c e j v n k) (b:v.ownBlock=some g):∃a,w.heap[g]? =some (.cells a e (0,0)):=by
 rcases h.2 with ⟨d,_⟩ | ⟨l,f,a,d,_,i,_⟩
 ·rw [d] at b;cases b
 ·rw [d] at b;injection b with b;subst b;exact ⟨a,i⟩
theorem bC {A:Nat→Prop} {w i:World} {a f n:Nat} {e:TypeId} {v:Value} {j:List Value} (h:w.ownsRow a e f v n j) (m:aH A w i) (o:∀g,v.ownBlock=some g→¬A g):i.ownsRow a e f v n j:=by
 refine ⟨h.1,?_⟩
 rcases h.2 with h | ⟨g,b,c,d,k,l,r⟩
 ·exact .inl h
 ·exact .inr ⟨g,b,c,d,k,m.some_ l (o g (by rw [d];rfl)),r⟩
theorem si.far {w:World} {d:Nat} {f i:Value} {a:List UInt8} {b:List (List UInt8)} (h:si w d f i a b):f.ownBlock≠some d:=fun e=>by
 obtain ⟨g,c⟩:=dm h.row e;rw [h.blk] at c;simp at c
theorem si.chg {A:Nat→Prop} {w i:World} {c:Nat} {d f:Value} {a:List UInt8} {b:List (List UInt8)} (h:si w c d f a b) (e:aH A w i) (j:¬A c) (k:∀g,d.ownBlock=some g→¬A g):si i c d f a b:=⟨e.some_ h.blk j,bC h.row e k⟩
theorem ko.below {w i:World} {b:Nat} {c:bX} {d e f g:Value} (h:ko w b c d e f g) (a:Below w.heap.size w i):ko i b c d e f g:=by
 obtain ⟨A,j,k⟩:=h.blk;exact ⟨⟨A,ae a j,k⟩,h.rows.below a,h.may⟩
theorem bT.chg {A:Nat→Prop} {w d:World} {sb a:Nat} {C:Array Value} {c:List (List UInt8)} (h:bT w sb a C c) (b:aH A w d) (e:¬A sb) (f:¬A a):bT d sb a C c:=by
 obtain ⟨s,r,g⟩:=h.chan;exact ⟨b.some_ h.blk e,h.size,h.told,s,r,b.some_ g f⟩
theorem wU (sb l j:Nat) (C:Array Value) (c:bX) (v x y z:Value) (f b:Bool) (d:List UInt8) (m:Int) (w:World) (h:bT w sb l C []) (a:ko w j c v x y z) (r:C[0]? =some (.pointer (some ⟨j,0,none⟩))) (s:C[4]? =some (.bool f)) (t:C[6]? =some (.bool b)) (u:d.length≤1048576) (i:w.cell? ⟨0,0,none⟩=some (.int .i64 m)):
  Calls Tryz.prog 202 #[.pointer (some ⟨sb,0,none⟩),.string (bs d)] w fun e A=>e= .returned (.bool (f || b || dM c d))∧Below w.heap.size w A:=by
 have P:=(h.cell 0).trans r;have Q:=(h.cell 4).trans s;have R:=(h.cell 6).trans t;obtain ⟨L,S,n⟩:=aE a.rows.1;obtain ⟨M,T,o⟩:=aE a.rows.2.1;obtain ⟨N,U,p⟩:=aE a.rows.2.2.1;obtain ⟨O,V,q⟩:=aE a.rows.2.2.2;subst n o p q;have B:=a.cell 0 (by decide);have D:=a.cell 1 (by decide);have E:=a.cell 2 (by decide);have F:=a.cell 3 (by decide);have G:=a.cell 4 (by decide);have H:=a.cell 5 (by decide);have I:=a.cell 6 (by decide);have J:=a.cell 7 (by decide);have K:=a.cell 8 (by decide);simp only [List.getElem?_cons_zero,List.getElem?_cons_succ] at B D E F G H I J K;have k:=Lib.hid (sw c _ _ _ _ d m w a.rows a.may u i);clear h a i
 cases f with
 | true=>
  go_enter Tryz.func202,Tryz.ntmps202;go_wp2_with fail
  go_ret;exact ⟨rfl,Below.refl _ _⟩
 | false=>
  cases b with
  | true=>
   go_enter Tryz.func202,Tryz.ntmps202;go_wp2_with fail
   go_ret;exact ⟨rfl,Below.refl _ _⟩
  | false=>
   go_enter Tryz.func202,Tryz.ntmps202;go_wp2_with (first | (go_at_call 238;refine k.out.mono ?_;rintro e W ⟨rfl,g⟩) | fail)
   go_ret;exact ⟨rfl,g⟩
def cY (tos:List (List UInt8)) (most:Int) (may:Bool) (name:List UInt8):List (List UInt8):=
 if tos.contains name then tos else if (tos.length:Int)=most then tos else if may then tos++[name] else tos
def b9 (tos:List (List UInt8)) (most:Int) (may:Bool) (name:List UInt8):List UInt8:=
 if tos.contains name then [50,53,48,32,111,107,13,10] else if (tos.length:Int)=most then [52,53,50,32,109,97,110,121,13,10] else if may then [50,53,48,32,111,107,13,10] else [53,53,48,32,110,111,13,10]
theorem zT (sb H pp q:Nat) (C:Array Value) (c:bX) (vD vN vU vW vt vb:Value) (j f:Bool) (S a:List UInt8) (d:List (List UInt8)) (m:Int) (w:World) (h:bT w sb H C []) (hc:ko w pp c vD vN vU vW) (N:si w q vt vb S d) (h0:C[0]? =some (.pointer (some ⟨pp,0,none⟩))) (h4:C[4]? =some (.bool j)) (h6:C[6]? =some (.bool f)) (h8:C[8]? =some (.pointer (some ⟨q,0,none⟩))) (hn:a.length≤1048576) (hl:d.length≤10) (hm:w.cell? ⟨0,0,none⟩=some (.int .i64 m)):
  Calls Tryz.prog 148 #[.pointer (some ⟨sb,0,none⟩),.string (bs a)] w fun e w'=>e= .returned (.tuple #[])∧bT w' sb H C [b9 d c.most (j || f || dM c a) a]∧∃a7,si w' q a7 vb S (cY d c.most (j || f || dM c a) a)∧aH (fun k=>k=H∨k=q∨vt.ownBlock=some k) w w'∧∀k,a7.ownBlock=some k→vt.ownBlock=some k∨w.heap.size≤k:=by
 have c0:=(h.cell 0).trans h0;have c8:=(h.cell 8).trans h8;have t1:w.cell? ⟨q,1,none⟩=some vt:=N.cell 1;have y4:=hc.cell 4 (by decide);simp only [List.getElem?_cons_zero,List.getElem?_cons_succ] at y4;have A:=aF N.row;obtain ⟨av,cv,ev⟩:=aE A;subst ev;have O:Hid (∀W:World,Below w.heap.size w W→Calls Tryz.prog 202 #[.pointer (some ⟨sb,0,none⟩),.string (bs a)] W fun e w'=>e= .returned (.bool (j || f || dM c a))∧Below W.heap.size W w'):=Lib.hid (fun W hb=>wU sb H pp C c vD vN vU vW j f a m W (h.below hb) (hc.below hb) h0 h4 h6 hn ((hb.cell (aC hm)).trans hm));have v:=Lib.hid (mw d a _ w A (by omega));have D:H≠q:=fun e=>by obtain ⟨s,r,L⟩:=h.chan;rw [e,N.blk] at L;simp at L
 have J:∀g,(Value.slice av d.length cv).ownBlock=some g→H≠g:=fun g U e=>by
  obtain ⟨s,r,L⟩:=h.chan;obtain ⟨R,h1⟩:=dm N.row U;rw [e,h1] at L;simp at L
 have b7:=Lib.hid (h.tell (by simp) [50,53,48,32,111,107] (by decide));have HH:=Lib.hid h;have HT:=Lib.hid N;have G:=Lib.hid J
 cases l:d.contains a with
 | true=>
  rw [l] at v;have X:Hid (b9 d c.most (j || f || dM c a) a=[50,53,48,32,111,107,13,10]):=Lib.hid (by unfold b9;rw [l];rfl);have Y:Hid (cY d c.most (j || f || dM c a) a=d):=Lib.hid (by unfold cY;rw [l];rfl);rw [X.out,Y.out];clear h hc N A hm l J;go_enter Tryz.func148,Tryz.ntmps148;go_wp2_with fail
  refine v.out.mono ?_;rintro e K ⟨rfl,rfl⟩;go_wp2_with fail
  refine b7.out.mono ?_;rintro e E ⟨rfl,F,z⟩;go_wp2_with fail
  refine bodyPost_end (results_none rfl _ _ _) rfl ?_;exact ⟨rfl,F,_,HT.out.chg (aH.same z) (fun e=>D e.symm) (fun g U e=>G.out g U e.symm),(aH.same z).mono (fun _ _ e=> .inl e),fun k e=> .inl e⟩
 | false=>
  rw [l] at v
  by_cases p:(d.length:Int)=c.most
  ·have X:Hid (b9 d c.most (j || f || dM c a) a=[52,53,50,32,109,97,110,121,13,10]):=Lib.hid (by unfold b9;rw [l,if_pos p];rfl);have Y:Hid (cY d c.most (j || f || dM c a) a=d):=Lib.hid (by unfold cY;rw [l,if_pos p];rfl);rw [X.out,Y.out];have c3:((d.length:Int) == c.most)=true:=by rw [beq_iff_eq];exact p
   clear h hc N A hm l J p O;go_enter Tryz.func148,Tryz.ntmps148;go_wp2_with fail
   refine v.out.mono ?_;rintro e K ⟨rfl,rfl⟩;go_wp2_with fail
   go_quiet (fail)
   have n:=bA nq w w.heap.size;obtain ⟨K,B⟩:∃K,w.drewN nq=K:=⟨_,rfl⟩;rw [B] at n ⊢;have b6:=Lib.hid ((HH.out.below n).tell (by simp) [52,53,50,32,109,97,110,121] (by decide));have K1:aH (fun _=>False) w K:=aH.below n;have a1:=Lib.hid K1;clear n B K1;go_wp2_with fail
   refine b6.out.mono ?_;rintro e E ⟨rfl,F,z⟩;go_wp2_with fail
   refine bodyPost_end (results_none rfl _ _ _) rfl ?_;exact ⟨rfl,F,_,(HT.out.chg a1.out (fun e=>e) (fun _ _ e=>e)).chg (aH.same z) (fun e=>D e.symm) (fun g U e=>G.out g U e.symm),(a1.out.mono (fun _ _ e=>e.elim)).trans (aH.same z) (fun _ _ e=> .inl e),fun k e=> .inl e⟩
  ·have c3:((d.length:Int) == c.most)=false:=by rw [beq_eq_false_iff_ne];exact p
   have X:Hid (∀b:Bool,b9 d c.most b a=if b then [50,53,48,32,111,107,13,10] else [53,53,48,32,110,111,13,10]):=Lib.hid (fun b=>by unfold b9;rw [l,if_neg p];rfl);have Y:Hid (∀b:Bool,cY d c.most b a=if b then d++[a] else d):=Lib.hid (fun b=>by unfold cY;rw [l,if_neg p];rfl);obtain ⟨c7,M⟩:∃b,(j || f || dM c a)=b:=⟨_,rfl⟩;rw [M] at O ⊢;rw [X.out,Y.out];clear h hc N A hm l J p M X Y;go_enter Tryz.func148,Tryz.ntmps148;go_wp2_with fail
   refine v.out.mono ?_;rintro e K ⟨rfl,rfl⟩;go_wp2_with fail
   go_quiet (fail)
   have n:=bA nq w w.heap.size;have T:=O.out _ n;obtain ⟨K,B⟩:∃K,w.drewN nq=K:=⟨_,rfl⟩;rw [B] at n T ⊢;have b0:=Lib.hid T;have a0:=Lib.hid n;clear B n T;go_wp2_with fail
   refine b0.out.mono ?_;rintro e E ⟨rfl,t⟩;replace t:=a0.out.trans (t.mono a0.out.size);have K2:aH (fun _=>False) w E:=aH.below t;have F:=HH.out.below t;have x:=HT.out.chg K2 (fun e=>e) (fun _ _ e=>e)
   cases c7 with
   | false=>
    have Q:=Lib.hid (F.tell (by simp) [53,53,48,32,110,111] (by decide));have b2:=Lib.hid x;have a8:=Lib.hid K2;clear F x t K2;go_wp2_with fail
    refine Q.out.mono ?_;rintro e w3 ⟨rfl,h3,a2⟩;go_wp2_with fail
    refine bodyPost_end (results_none rfl _ _ _) rfl ?_;exact ⟨rfl,h3,_,b2.out.chg (aH.same a2) (fun e=>D e.symm) (fun g U e=>G.out g U e.symm),(a8.out.mono (fun _ _ e=>e.elim)).trans (aH.same a2) (fun _ _ e=> .inl e),fun k e=> .inl e⟩
   | true=>
    have d1:E.cell? ⟨q,1,none⟩=some (.slice av d.length cv):=x.cell 1;have e1:∀o:Obj,(E.alloc o).cell? ⟨q,1,none⟩=some (.slice av d.length cv):=fun o=>by rw [Lib.cell_of_heap ((((Below.refl E.heap.size E).alloc (Nat.le_refl _) o).block q (ah x.blk)).trans x.blk)];rfl
    obtain ⟨i,hi,c4,c5,c6⟩:=info_parts uk;obtain ⟨g,y,W4,a5,I,K4,c2⟩:=pv (P:=Tryz.prog) Tryz.underlying25 hi c4 c5 c6 rfl E (E.alloc (.cells #[.string (bs a)] 9)) _ (.string (bs a)) d.length (aB d) x.row rfl ((Below.refl _ _).alloc (Nat.le_refl _) _) (heap_alloc_new E _) (by unfold maxLen;omega) (by omega);have b4:=K4.some_ x.blk (x.far);have d4:W4.cell? ⟨q,1,none⟩=some (.slice av d.length cv):=by rw [Lib.cell_of_heap b4];rfl
    have f4:=Lib.frozen_of_heap b4 1;have Z:aL q W4 (W4.setCell ⟨q,1,none⟩ (.slice (some ⟨g,0,none⟩) (d.length+1) y)):=(aL.refl _ _).setCell _;have b5:=heap_setCell_same W4 q 1 _ _ (.slice (some ⟨g,0,none⟩) (d.length+1) y) b4;obtain ⟨W5,c1⟩:∃W5:World,W4.setCell ⟨q,1,none⟩ (.slice (some ⟨g,0,none⟩) (d.length+1) y)=W5:=⟨_,rfl⟩;rw [c1] at Z b5
    have a6:q≠g:=fun e=>by
     obtain ⟨R,V⟩:=dm I (g:=g) rfl;rw [←e,b4] at V;simp at V
    have T5:si W5 q (.slice (some ⟨g,0,none⟩) (d.length+1) y) vb S (d++[a]):=⟨b5,by
     have:=bC I (aH.same Z) (fun k u e=>a6 (by injection u with u;exact e.symm.trans u.symm));rw [List.length_append]
     simpa [aB] using this⟩
    have h5:=(F.chg K4 (fun e=>by
     obtain ⟨R,V⟩:=dm x.row e;rw [F.blk] at V
     simp at V) (fun e=>G.out H e rfl)).same Z (fun e=>by have:=F.blk;rw [e,x.blk] at this;simp at this) D
    have Q:=Lib.hid (h5.tell (by simp) [50,53,48,32,111,107] (by decide));have K5:aH (fun k=>k=H∨k=q∨(Value.slice av d.length cv).ownBlock=some k) w W5:=((K2.mono (fun _ _ e=>e.elim)).trans K4 (fun k _ e=> .inr (.inr e))).trans (aH.same Z) (fun k _ e=> .inr (.inl e))
    have a4:H≠g:=fun e=>by
     obtain ⟨s,r,L⟩:=h5.chan;obtain ⟨R,V⟩:=dm I (g:=g) rfl;rw [e,Z.2 g (fun e=>a6 e.symm),V] at L;simp at L
    have b3:=Lib.hid T5;have a9:=Lib.hid K5;have b1:=Lib.hid a5;have c9:w.heap.size≤E.heap.size:=t.size;clear F x t K2 b4 b5 Z T5 h5 K5 K4 I a5
    go_wp2_with (first
     | (at_builtin;refine bB rfl _ _ 25 rfl _ _ (.slice (some ⟨g,0,none⟩) (d.length+1) y) W4 rfl rfl b1.out ?_)
     | fail)
    refine Q.out.mono ?_;rintro e w6 ⟨rfl,b8,a3⟩;go_wp2_with fail
    refine bodyPost_end (results_none rfl _ _ _) rfl ?_;exact ⟨rfl,b8,_,b3.out.chg (aH.same a3) (fun e=>D e.symm) (fun k u e=>a4 (by injection u with u;exact e.symm.trans u.symm)),a9.out.trans (aH.same a3) (fun _ _ e=> .inl e),fun k u=>c2.elim (fun e=> .inl (by injection u with u;exact e.trans (congrArg some u))) (fun e=> .inr (by injection u with u;have u:g=k:=u;omega))⟩
def mL (base pb mb:Nat) (q:Nat→Nat) (vr:Value) (S:aa) (o:Option aa) (w:World) (e:Ending) (w':World):Prop:=
 ((o=none∧e= .returned (.bool false)∧bh base w' pb mb q vr S)∨∃S' q',o=some S'∧e= .returned (.bool true)∧bh base w' pb mb q' vr S')∧Below base w w'
theorem bh.drewN {a c b:Nat} {q:Nat→Nat} {d:Value} {S:aa} {w:World} (h:bh a w c b q d S) (n:Nat):bh a (w.drewN n) c b q d S:=h.keep (bA n _ _)
theorem zA (a l t:Nat) (q:Nat→Nat) (u:Value) (S:aa) (m:aX) (v:Value) (w:World) (h:bh a w l t q u S) (B:Nat) (y:w.ownsRow B 9 1 v m.tos.length (aB m.tos)) (I:dQ m) (H:1≤m.tos.length) (G:S.items.length < 4294967295):
  Calls Tryz.prog 115 #[.pointer (some ⟨l,0,none⟩),.agg (aY m v)] w (mL a l t q u S (S.takesM m) w):=by
 have k:=h.le;obtain ⟨b,c⟩:∃b:World,w.alloc (.cells #[.int .i64 m.id,.int .i64 m.time,.string (bs m.frm),v,.string (bs m.body)] 45)=b:=⟨_,rfl⟩;have r:Below w.heap.size w b:=by rw [←c];exact (Below.refl _ _).alloc (Nat.le_refl _) _
 have p:bh a b l t q u S:=h.keep r;have n:b.heap[w.heap.size]? =some (.cells #[.int .i64 m.id,.int .i64 m.time,.string (bs m.frm),v,.string (bs m.body)] 45 (0,0)):=by rw [←c];exact heap_alloc_new w _
 have L:b.cell? ⟨l,1,none⟩=some (.int .i64 S.time):=by rw [Lib.cell_of_heap p.bag];rfl
 have M:b.cell? ⟨l,2,none⟩=some (.int .i64 S.items.length):=by rw [Lib.cell_of_heap p.bag];rfl
 have N:b.cell? ⟨w.heap.size,0,none⟩=some (.int .i64 m.id):=by rw [Lib.cell_of_heap n];rfl
 have O:b.cell? ⟨w.heap.size,1,none⟩=some (.int .i64 m.time):=by rw [Lib.cell_of_heap n];rfl
 have P:b.cell? ⟨w.heap.size,2,none⟩=some (.string (bs m.frm)):=by rw [Lib.cell_of_heap n];rfl
 have Q:b.cell? ⟨w.heap.size,3,none⟩=some v:=by rw [Lib.cell_of_heap n];rfl
 have R:b.cell? ⟨w.heap.size,4,none⟩=some (.string (bs m.body)):=by rw [Lib.cell_of_heap n];rfl
 have f:=Lib.hid p;have i:=Lib.hid r;have j:=Lib.hid c;have E:=Lib.hid (aA y fun g x e _=>ae r e);have F:=Lib.hid I;unfold aY;clear p n r h c y;have T:IntKind.i64.wrap ((S.items.length:Int)+1)=(S.items.length:Int)+1:=by rw [IntKind.wrap_i64];omega
 by_cases d:m.id=S.items.length+1
 ·by_cases s:S.time≤m.time
  ·have o:Hid (S.takesM m=some (S.plus m)):=Lib.hid (by unfold aa.takesM aa.plus;rw [decide_eq_true d,decide_eq_true s];rfl);have z:((m.id:Int) != (S.items.length:Int)+1)=false:=by rw [d];simp
   have K:¬m.time < S.time:=by omega
   have D:=Lib.hid d;clear d s;go_enter Tryz.func115,Tryz.ntmps115;go_wp2_with fail
   rw [j.out];go_quiet (fail)
   go_wp2_with fail
   refine (tG a l t q u S m v _ (f.out.drewN _) B (aA E.out fun g x e _=>ae (bA _ _ _) e) F.out D.out H G).mono ?_;rintro e U ⟨rfl,J,A,C⟩;go_wp2_with fail
   go_ret;exact ⟨.inr ⟨_,J,o.out,rfl,A⟩,((i.out.mono k).trans (bA _ _ _)).trans C⟩
  ·have o:Hid (S.takesM m=none):=Lib.hid (by unfold aa.takesM;rw [decide_eq_false s,Bool.and_false];rfl);have z:((m.id:Int) != (S.items.length:Int)+1)=false:=by rw [d];simp
   have K:m.time < S.time:=by omega
   clear d s;go_enter Tryz.func115,Tryz.ntmps115;go_wp2_with fail
   rw [j.out];go_quiet (fail)
   go_wp2_with fail
   go_ret;exact ⟨.inl ⟨o.out,rfl,f.out.drewN _⟩,(i.out.mono k).trans (bA _ _ _)⟩
 ·have o:Hid (S.takesM m=none):=Lib.hid (by unfold aa.takesM;rw [decide_eq_false d,Bool.false_and];rfl);have z:((m.id:Int) != (S.items.length:Int)+1)=true:=by rw [bne_iff_ne];omega
  clear d;go_enter Tryz.func115,Tryz.ntmps115;go_wp2_with fail
  rw [j.out];go_quiet (fail)
  go_wp2_with fail
  go_ret;exact ⟨.inl ⟨o.out,rfl,f.out.drewN _⟩,(i.out.mono k).trans (bA _ _ _)⟩
structure mK where
 frm:List UInt8
 tos:List (List UInt8)
 body:Option dW
structure bG where
 nets:Bool
 greeted:Bool
 known:Bool
 over:Bool
 wait:List UInt8
 tx:Option mK
def rm (w:World) (A:Nat→Prop) (vb:Value):Option dW→Prop
 | none=>vb= .pointer none
 | some b=>∃bb vy,vb= .pointer (some ⟨bb,0,none⟩)∧A bb∧gl w bb vy b∧∀g,vy.ownBlock=some g→A g
def oh (w:World) (A:Nat→Prop) (vx:Value):Option mK→Prop
 | none=>vx= .pointer none
 | some t=>∃tb vt vb,vx= .pointer (some ⟨tb,0,none⟩)∧A tb∧si w tb vt vb t.frm t.tos∧(∀g,vt.ownBlock=some g→A g)∧rm w A vb t.body
def iq (pp pb ch:Nat) (vw vx:Value) (s:bG):Array Value:=#[.pointer (some ⟨pp,0,none⟩),.pointer (some ⟨pb,0,none⟩),vw,.chan (some ch),.bool s.nets,.bool s.greeted,.bool s.known,.bool s.over,vx]
structure cI (w:World) (A:Nat→Prop) (pp pb sb ch:Nat) (vw:Value) (ls:List (List UInt8)) (s:bG):Prop where
 ex:∃vx,bT w sb ch (iq pp pb ch vw vx s) ls∧oh w A vx s.tx
 asb:A sb
 ach:A ch
 lt:∀k,A k→k < w.heap.size
def zF (t:TypeId):Prop:=t=216∨t=9∨t=253∨t=5
section
variable {w w':World} {A A' B:Nat→Prop} {pp pb sb ch:Nat} {vw vx vb:Value} {ls:List (List UInt8)} {s:bG}
theorem rm.off {o:Option dW} (h:rm w A vb o) (n:aH B w w') (i:∀k C t z,A k→w.heap[k]? =some (.cells C t z)→zF t→¬B k):rm w' A vb o:=by
 cases o with
 | none=>exact h
 | some b=>
  obtain ⟨d,p,e,a,c,f⟩:=h
  exact ⟨d,p,e,a,c.chg n (i d _ _ _ a c.blk (.inr (.inr (.inl rfl)))) (fun g j=>by
   obtain ⟨l,z,m⟩:=gB c.row j
   exact i g _ _ _ (f g j) m (.inr (.inr (.inr rfl)))),f⟩
theorem oh.off {o:Option mK} (h:oh w A vx o) (f:aH B w w') (c:∀k C t z,A k→w.heap[k]? =some (.cells C t z)→zF t→¬B k):oh w' A vx o:=by
 cases o with
 | none=>exact h
 | some t=>
  obtain ⟨j,p,vb,e,a,b,d,m⟩:=h
  exact ⟨j,p,vb,e,a,b.chg f (c j _ _ _ a b.blk (.inl rfl)) (fun g i=>by
   obtain ⟨l,n⟩:=dm b.row i
   exact c g _ _ _ (d g i) n (.inr (.inl rfl))),d,m.off f c⟩
theorem rm.mono {o:Option dW} (h:rm w A vb o) (c:∀k,A k→A' k):rm w A' vb o:=by
 cases o with
 | none=>exact h
 | some b=>
  obtain ⟨d,l,e,a,f,i⟩:=h;exact ⟨d,l,e,c _ a,f,fun g j=>c _ (i g j)⟩
theorem oh.mono {o:Option mK} (h:oh w A vx o) (b:∀k,A k→A' k):oh w A' vx o:=by
 cases o with
 | none=>exact h
 | some t=>
  obtain ⟨j,l,vb,e,a,c,d,f⟩:=h;exact ⟨j,l,vb,e,b _ a,c,fun g i=>b _ (d g i),f.mono b⟩
theorem cI.chg (h:cI w A pp pb sb ch vw ls s) (c:aH B w w') (b:∀k,A k→¬B k):cI w' A pp pb sb ch vw ls s:=by
 obtain ⟨vx,d,e⟩:=h.ex;exact ⟨⟨vx,d.chg c (b _ h.asb) (b _ h.ach),e.off c (fun k _ _ _ a _ _=>b k a)⟩,h.asb,h.ach,fun k f=>Nat.lt_of_lt_of_le (h.lt k f) c.size⟩
theorem cI.below (h:cI w A pp pb sb ch vw ls s) (a:Below w.heap.size w w'):cI w' A pp pb sb ch vw ls s:=h.chg (aH.below a:aH (fun _=>False) w w') (fun _ _ e=>e)
theorem tg {C:Array Value} (h:bT w sb ch C ls):∀k D t z,w.heap[k]? =some (.cells D t z)→zF t→¬(k=sb∨k=ch):=by
 rintro k D t z e b (rfl | rfl)
 ·rw [h.blk] at e;injection e with e;injection e with _ e _;subst e
  revert b
  unfold zF;decide
 ·obtain ⟨s,r,a⟩:=h.chan;rw [a] at e
  cases e
theorem cI.back (h:cI w A pp pb sb ch vw ls s) {a:Value} {b:List (List UInt8)} {c:bG} (e:bT w' sb ch (iq pp pb ch vw a c) b) (g:oh w' A' a c.tx) (d:∀k,A k→A' k) (f:∀k,A' k→k < w'.heap.size):cI w' A' pp pb sb ch vw b c:=
 ⟨⟨a,e,g⟩,d _ h.asb,d _ h.ach,f⟩
end
theorem cI.tell {w:World} {A:Nat→Prop} {pp pb sb ch:Nat} {vw:Value} {ls:List (List UInt8)} {s:bG} (h:cI w A pp pb sb ch vw ls s) (j:ls.length < 3) (l:List UInt8) (n:l.length≤1048576):
  Calls Tryz.prog 62 #[.pointer (some ⟨sb,0,none⟩),.string (bs l)] w fun e w'=>e= .returned (.tuple #[])∧cI w' A pp pb sb ch vw (ls++[l++[13,10]]) s∧aH A w w':=by
 obtain ⟨vx,b,d⟩:=h.ex;refine (b.tell j l n).mono ?_;rintro e w' ⟨rfl,f,g⟩;have a:aH (fun k=>k=ch) w w':=aH.same g;refine ⟨rfl,⟨⟨vx,f,d.off a (fun k C t z _ e m c=>tg b k C t z e m (.inr c))⟩,h.asb,h.ach,fun k i=>Nat.lt_of_lt_of_le (h.lt k i) a.size⟩,a.mono (fun k _ e=>by rw [e];exact h.ach)⟩
theorem bg.chg {A:Nat→Prop} {w w':World} {v:Value} {n o:Nat} {f:List Value} (h:bg w v n o f) (q:aH A w w') (t:∀g,v.ownBlock=some g→¬A g):bg w' v n o f:=by
 refine ⟨h.1,?_⟩
 rcases h.2 with p | ⟨b,m,d,e,k,a⟩
 ·exact .inl p
 ·refine .inr ⟨b,m,d,e,k,fun j r=>?_⟩;have i:=a j r
  have l:b < w.heap.size:=by
   rcases hv:f[j]? with _ | x
   ·have:=h.1;rw [List.getElem?_eq_none_iff] at hv;omega
   ·rw [hv] at i;exact aC i
  rw [←i];exact World.cell?_of_block (q.block b l (t b (by rw [e];rfl)))
theorem JC {A:Nat→Prop} {w w':World} {g h:Nat} (a:Lib.Utf8Tabs g h w) (b:aH A w w') (j:g < w.heap.size) (l:h < w.heap.size) (n:¬A g) (p:¬A h):Lib.Utf8Tabs g h w':=by
 have m:∀o,w'.cell? ⟨g,o,none⟩=w.cell? ⟨g,o,none⟩:=fun o=>World.cell?_of_block (b.block _ j n);have e:∀o,w'.cell? ⟨h,o,none⟩=w.cell? ⟨h,o,none⟩:=fun o=>World.cell?_of_block (b.block _ l p);exact ⟨fun k f=>(m k).trans (a.1 k f),fun i d=>⟨(e _).trans (a.2 i d).1,(e _).trans (a.2 i d).2⟩⟩
structure gg (E:Nat→Prop) (w:World) (pp:Nat) (c:bX):Prop where
 set:∃vD vN vU vW,ko w pp c vD vN vU vW∧∀k,(vD.ownBlock=some k∨vN.ownBlock=some k∨vU.ownBlock=some k∨vW.ownBlock=some k)→E k
 epp:E pp
 len:∃n,w.cell? ⟨0,0,none⟩=some (.int .i64 n)
 elen:E 0
 pow:tw w
 epow:E 6
 utf:Lib.Utf8Tabs 2 3 w
 efir:E 2
 eacc:E 3
 lt:∀k,E k→k < w.heap.size
section
variable {E A:Nat→Prop} {w w':World} {pp:Nat} {c:bX}
theorem gg.chg (h:gg E w pp c) (b:aH A w w') (a:∀k,E k→¬A k):gg E w' pp c:=by
 obtain ⟨o,p,q,r,d,f⟩:=h.set;obtain ⟨D,i,j⟩:=d.blk;obtain ⟨n,m⟩:=h.len;refine ⟨⟨o,p,q,r,⟨⟨D,b.some_ i (a _ h.epp),j⟩,⟨d.rows.1.chg b (fun g e=>a g (f g (.inl e))),d.rows.2.1.chg b (fun g e=>a g (f g (.inr (.inl e)))),d.rows.2.2.1.chg b (fun g e=>a g (f g (.inr (.inr (.inl e))))),d.rows.2.2.2.chg b (fun g e=>a g (f g (.inr (.inr (.inr e)))))⟩,d.may⟩,f⟩,h.epp,⟨n,?_⟩,h.elen,h.pow.chg b (a _ h.epow),h.epow,JC h.utf b (h.lt _ h.efir) (h.lt _ h.eacc) (a _ h.efir) (a _ h.eacc),h.efir,h.eacc,fun k l=>Nat.lt_of_lt_of_le (h.lt k l) b.size⟩;rw [←m];exact World.cell?_of_block (b.block _ (h.lt _ h.elen) (a _ h.elen))
theorem gg.below (h:gg E w pp c) (a:Below w.heap.size w w'):gg E w' pp c:=h.chg (aH.below a:aH (fun _=>False) w w') (fun _ _ e=>e)
theorem gg.may (h:gg E w pp c):ij c=true:=by
 obtain ⟨_,_,_,_,a,_⟩:=h.set;exact a.may
end
structure og where
 verb:Nat
 name:List UInt8
 size:Nat
 shown:List UInt8
def jD:List UInt8:=[50,53,48,32,111,107,13,10]
def zm:List UInt8:=[53,48,48,32,119,104,97,116,13,10]
def G8:List UInt8:=[53,48,49,32,104,111,119,13,10]
def ni:List UInt8:=[53,48,51,32,102,105,114,115,116,13,10]
def uw:List UInt8:=[53,53,50,32,115,105,122,101,13,10]
def G7:List UInt8:=[50,50,49,32,98,121,101,13,10]
def zl:List UInt8:=[51,53,52,32,103,111,13,10]
def Fe:List UInt8:=[50,51,53,32,111,107,13,10]
def G9:List UInt8:=[53,51,53,32,110,111,13,10]
def CR:List UInt8:=[52,53,50,32,114,111,111,109,13,10]
def cQ (c:bX):List UInt8:=c.host.data.toList
def fO (s:bG) (v:Nat):Bool:=jA v s.greeted (s.tx.map fun t=>t.tos.length)
def bz (c:bX) (s:bG) (k:og):bG×List (List UInt8):=
 if fO s k.verb=false then (s,[ni]) else
 match k.verb with
 | 0=>(s,[zm])
 | 1=>(s,[G8])
 | 2=>({s with over:=true},[G7])
 | 3=>(s,[jD])
 | 4=>({s with tx:=none},[jD])
 | 5=>(match s.tx with | some t=>({s with tx:=some {t with body:=some ⟨[],false,false⟩}},[zl]) | none=>(s,[]))
 | 6=>({s with greeted:=true,tx:=none},[[50,53,48,32]++cQ c++[13,10]])
 | 7=>({s with greeted:=true,tx:=none},[[50,53,48,45]++cQ c++[13,10],[50,53,48,45,83,73,90,69,32]++Lib.itoa c.size++[13,10],[50,53,48,32,65,85,84,72,32,80,76,65,73,78,13,10]])
 | 8=>if s.tx.isSome || s.known then (s,[ni]) else if c.users.any (iV (bs k.shown)) then ({s with known:=true},[Fe]) else (s,[G9])
 | 9=>if s.tx.isSome then (s,[ni]) else if c.size < (k.size:Int) then (s,[uw]) else ({s with tx:=some ⟨k.name,[],none⟩},[jD])
 | 10=>(match s.tx with | some t=>({s with tx:=some {t with tos:=cY t.tos c.most (s.nets || s.known || dM c k.name) k.name}},[b9 t.tos c.most (s.nets || s.known || dM c k.name) k.name]) | none=>(s,[]))
 | _=>(s,[])
def cP (A:Nat→Prop) (pp pb sb ch:Nat) (vw:Value) (w:World) (s':bG) (ls':List (List UInt8)) (e:Ending) (w':World):Prop:=
 e= .returned (.tuple #[])∧∃A',cI w' A' pp pb sb ch vw ls' s'∧(∀k,A k→A' k)∧(∀k,A' k→A k∨w.heap.size≤k)∧aH A w w'
theorem cP.from {A:Nat→Prop} {pp pb sb ch:Nat} {vw:Value} {w b w':World} {f:bG} {a:List (List UInt8)} {e:Ending} (d:Below w.heap.size w b) (h:cP A pp pb sb ch vw b f a e w'):cP A pp pb sb ch vw w f a e w':=by
 obtain ⟨i,g,j,l,m,n⟩:=h;exact ⟨i,g,j,l,fun k o=>(m k o).imp id (fun e=>Nat.le_trans d.size e),(aH.below d:aH A w b).trans n (fun k _ e=>e)⟩
section
variable {A:Nat→Prop} {pp pb sb ch:Nat} {vw:Value} {w:World} {s:bG}
theorem cI.told1 (h:cI w A pp pb sb ch vw [] s) (l:List UInt8) (f:l.length≤1048576):Calls Tryz.prog 62 #[.pointer (some ⟨sb,0,none⟩),.string (bs l)] w (cP A pp pb sb ch vw w s [l++[13,10]]):=by
 refine (h.tell (by simp) l f).mono ?_;rintro e w' ⟨rfl,b,d⟩;exact ⟨rfl,A,b,fun _ a=>a,fun _ a=> .inl a,d⟩
theorem jO {w':World} {s':bG} {b:List (List UInt8)} {C:Array Value} {vx':Value} (h:cI w A pp pb sb ch vw [] s) (f:bT w sb ch C []) (d:aH (fun k=>k=sb∨k=ch) w w') (g:bT w' sb ch (iq pp pb ch vw vx' s') b) (l:oh w A vx' s'.tx):cP A pp pb sb ch vw w s' b (.returned (.tuple #[])) w':=
 ⟨rfl,A,⟨⟨vx',g,l.off d (fun k C t z _ e j=>tg f k C t z e j)⟩,h.asb,h.ach,fun k i=>Nat.lt_of_lt_of_le (h.lt k i) d.size⟩,fun _ a=>a,fun _ a=> .inl a,d.mono (fun k _ e=>by rcases e with e | e <;> rw [e];exact h.asb;exact h.ach)⟩
theorem pD {w':World} (b:∀k,k < w.heap.size→k≠sb→k≠ch→w'.heap[k]? =w.heap[k]?) (d:dU w w') (f:w.heap.size≤w'.heap.size):aH (fun k=>k=sb∨k=ch) w w':=⟨f,fun k g a=>b k g (fun e=>a (.inl e)) (fun e=>a (.inr e)),d⟩
theorem cI.quit (h:cI w A pp pb sb ch vw [] s):Calls Tryz.prog 142 #[.pointer (some ⟨sb,0,none⟩)] w (cP A pp pb sb ch vw w {s with over:=true} [G7]):=by
 obtain ⟨g,a,b⟩:=h.ex;refine (Iq sb ch _ w a).mono ?_;rintro e w' ⟨rfl,d,f⟩;exact jO h a f (s':={s with over:=true}) d b
theorem cI.reset (h:cI w A pp pb sb ch vw [] s):Calls Tryz.prog 143 #[.pointer (some ⟨sb,0,none⟩)] w (cP A pp pb sb ch vw w {s with tx:=none} [jD]):=by
 obtain ⟨j,a,i⟩:=h.ex;refine (FM sb ch _ w a).mono ?_;rintro e w' ⟨rfl,b,d,f,g⟩;exact jO h a (pD (fun k _=>d k) f (Nat.le_of_eq g.symm)) (s':={s with tx:=none}) (vx':= .pointer none) b rfl
variable {E:Nat→Prop} {c:bX}
theorem sT (c:bX):bs (cQ c)=c.host:=rfl
theorem gg.host (b:gg E w pp c):w.cell? ⟨pp,0,none⟩=some (.string (bs (cQ c)))∧(cQ c).length≤255:=by
 obtain ⟨d,f,g,h,a,_⟩:=b.set;refine ⟨(a.cell 0 (by decide)).trans rfl,?_⟩;have:=a.small.host;have e:=aG (cQ c);rw [sT] at e;omega
theorem cI.greet (h:cI w A pp pb sb ch vw [] s) (a:gg E w pp c) (j:∀k,E k→¬A k):Calls Tryz.prog 144 #[.pointer (some ⟨sb,0,none⟩)] w (cP A pp pb sb ch vw w {s with greeted:=true,tx:=none} [[50,53,48,32]++cQ c++[13,10]]):=by
 obtain ⟨m,b,l⟩:=h.ex;refine (E0 sb ch pp _ (cQ c) w b rfl a.host.1 (fun e=>j pp a.epp (by rw [e];exact h.asb)) a.host.2).mono ?_;rintro e w' ⟨rfl,d,f,g,i⟩;exact jO h b (pD (fun k _=>f k) g (Nat.le_of_eq i.symm)) (s':={s with greeted:=true,tx:=none}) (vx':= .pointer none) d rfl
theorem ly (h:ij c=true):(1≤c.most∧c.most≤10)∧(1≤c.size∧c.size≤1000)∧0≤c.room∧c.room≤1000000:=by
 unfold ij cF at h;simp only [Bool.and_eq_true,decide_eq_true_eq] at h;obtain ⟨⟨⟨⟨⟨⟨⟨⟨_,_⟩,_⟩,_⟩,a⟩,b⟩,_⟩,_⟩,d⟩:=h;exact ⟨a,b,d⟩
theorem cI.more (h:cI w A pp pb sb ch vw [] s) (a:gg E w pp c) (b:∀k,E k→¬A k):Calls Tryz.prog 145 #[.pointer (some ⟨sb,0,none⟩)] w (cP A pp pb sb ch vw w {s with greeted:=true,tx:=none} [[50,53,48,45]++cQ c++[13,10],[50,53,48,45,83,73,90,69,32]++Lib.itoa c.size++[13,10],[50,53,48,32,65,85,84,72,32,80,76,65,73,78,13,10]]):=by
 obtain ⟨q,d,j⟩:=h.ex;obtain ⟨m,n,o,p,i,_⟩:=a.set;have l:=ly a.may;refine (wE sb ch pp _ (cQ c) c.size w d rfl a.host.1 ((i.cell 5 (by decide)).trans rfl) (fun e=>b pp a.epp (by rw [e];exact h.asb)) (fun e=>b pp a.epp (by rw [e];exact h.ach)) a.host.2 a.pow (fun e=>b _ a.epow (by rw [←e];exact h.asb)) (fun e=>b _ a.epow (by rw [←e];exact h.ach)) (by omega) (by omega)).mono ?_;rintro e w' ⟨rfl,f,g⟩;exact jO h d g (s':={s with greeted:=true,tx:=none}) (vx':= .pointer none) f rfl
end
section
variable {A:Nat→Prop} {pp pb sb ch:Nat} {vw:Value} {w:World} {s:bG} {E:Nat→Prop} {c:bX}
theorem te {a:World} (h:aL ch w a):aH (fun k=>k=sb∨k=ch) w a:=(aH.same h).mono (fun _ _ e=> .inr e)
theorem oh.ptr {b:Value} {o:Option mK} (h:oh w A b o) (d:o.isSome=true):∃a,b= .pointer (some ⟨a,0,none⟩):=by
 cases o with
 | none=>cases d
 | some t=>obtain ⟨a,_,_,e,_⟩:=h;exact ⟨a,e⟩
theorem oh.nil {a:Value} {o:Option mK} (h:oh w A a o) (b:o.isSome=false):a= .pointer none:=by
 cases o with
 | none=>exact h
 | some t=>cases b
def pW (c:bX) (s:bG) (shown:List UInt8):bG×List (List UInt8):=if s.tx.isSome || s.known then (s,[ni]) else if c.users.any (iV (bs shown)) then ({s with known:=true},[Fe]) else (s,[G9])
theorem cI.know (h:cI w A pp pb sb ch vw [] s) (o:gg E w pp c) (a:List UInt8):Calls Tryz.prog 146 #[.pointer (some ⟨sb,0,none⟩),.string (bs a)] w (cP A pp pb sb ch vw w (pW c s a).1 (pW c s a).2):=by
 obtain ⟨y,d,f⟩:=h.ex;obtain ⟨t,u,v,x,q,_⟩:=o.set;unfold pW
 cases l:s.tx.isSome with
 | true=>
  obtain ⟨r,rfl⟩:=f.ptr l;refine (Fc sb ch r _ (bs a) w d rfl).mono ?_;rintro e n ⟨rfl,b,g⟩;exact jO h d (te g) (s':=s) b f
 | false=>
  have p:=f.nil l;subst p
  cases k:s.known with
  | true=>
   refine (CQ sb ch _ (bs a) w d rfl (by rw [←k];rfl)).mono ?_;rintro e n ⟨rfl,b,g⟩;exact jO h d (te g) (s':=s) b f
  | false=>
   refine (G6 sb ch pp _ c t u v x (bs a) w d q rfl rfl (by rw [←k];rfl)).mono ?_;rintro e n ⟨rfl,b,g,i,j⟩
   cases m:c.users.any (iV (bs a)) with
   | true=>
    rw [m] at b;exact jO h d (pD g i j) (s':={s with known:=true}) b f
   | false=>
    rw [m] at b;exact jO h d (pD g i j) (s':=s) b f
def lV (c:bX) (s:bG) (name:List UInt8) (size:Int):bG×List (List UInt8):=if s.tx.isSome then (s,[ni]) else if c.size < size then (s,[uw]) else ({s with tx:=some ⟨name,[],none⟩},[jD])
theorem cI.mail (h:cI w A pp pb sb ch vw [] s) (x:gg E w pp c) (d:List UInt8) (b:Int):Calls Tryz.prog 147 #[.pointer (some ⟨sb,0,none⟩),.string (bs d),.int .i64 b] w (cP A pp pb sb ch vw w (lV c s d b).1 (lV c s d b).2):=by
 obtain ⟨G,j,n⟩:=h.ex;obtain ⟨B,C,D,F,q,_⟩:=x.set;unfold lV
 cases r:s.tx.isSome with
 | true=>
  obtain ⟨z,rfl⟩:=n.ptr r;refine (yD sb ch z _ d b w j rfl).mono ?_;rintro e o ⟨rfl,l,m⟩;exact jO h j (te m) (s':=s) l n
 | false=>
  have y:=n.nil r;subst y
  by_cases f:c.size < b
  ·simp only [f,if_true];refine (yE sb ch pp _ d b c.size w j rfl rfl ((q.cell 5 (by decide)).trans rfl) f).mono ?_;rintro e o ⟨rfl,l,m⟩;exact jO h j (te m) (s':=s) l n
  ·simp only [f,if_false];refine (Ae sb ch pp _ d b c.size w j rfl rfl ((q.cell 5 (by decide)).trans rfl) f).mono ?_;rintro e o ⟨rfl,l,t,m,u,v⟩;have p:w.heap.size < o.heap.size:=ah t;refine ⟨rfl,fun k=>A k∨k=w.heap.size,⟨⟨_,l,w.heap.size,.slice none 0 0,.pointer none,rfl,.inr rfl,⟨t,rfl,.inl ⟨rfl,rfl⟩⟩,(fun g e=>by cases e),rfl⟩,.inl h.asb,.inl h.ach,fun k i=>?_⟩,fun _ a=> .inl a,fun k i=>i.imp id (fun e=>Nat.le_of_eq e.symm),(pD m u v).mono (fun k _ e=>by rcases e with e | e <;> rw [e];exact h.asb;exact h.ach)⟩
   rcases i with i | i
   ·have:=h.lt k i;omega
   ·omega
theorem cI.rcpt (h:cI w A pp pb sb ch vw [] s) (v:gg E w pp c) {t:mK} (L:s.tx=some t) (i:t.body=none) (b:List UInt8) (I:b.length≤1048576) (G:t.tos.length≤10):
  Calls Tryz.prog 148 #[.pointer (some ⟨sb,0,none⟩),.string (bs b)] w (cP A pp pb sb ch vw w {s with tx:=some {t with tos:=cY t.tos c.most (s.nets || s.known || dM c b) b}} [b9 t.tos c.most (s.nets || s.known || dM c b) b]):=by
 obtain ⟨S,B,n⟩:=h.ex;obtain ⟨N,O,P,Q,K,_⟩:=v.set;obtain ⟨m,H⟩:=v.len;rw [L] at n;obtain ⟨x,R,l,rfl,u,F,r,q⟩:=n;rw [i] at q;refine (zT sb ch pp x _ c N O P Q R l s.nets s.known t.frm b t.tos m w B K F rfl rfl rfl rfl I G H).mono ?_;rintro e y ⟨rfl,C,f,o,p,D⟩
 have M:∀g,f.ownBlock=some g→g < y.heap.size:=fun g j=>by
  obtain ⟨z,J⟩:=dm o.row j;exact ah J
 refine ⟨rfl,fun k=>A k∨f.ownBlock=some k,⟨⟨_,C,x,f,l,rfl,.inl u,o,fun g j=> .inr j,?_⟩,.inl h.asb,.inl h.ach,fun k d=>?_⟩,fun _ a=> .inl a,fun k d=>?_,p.mono (fun k _ e=>?_)⟩
 ·show rm y _ l t.body;rw [i];exact q
 ·rcases d with d | d
  ·exact Nat.lt_of_lt_of_le (h.lt k d) p.size
  ·exact M k d
 ·rcases d with d | d
  ·exact .inl d
  ·exact (D k d).imp (r k) id
 ·rcases e with e | e | e
  ·rw [e];exact h.ach
  ·rw [e];exact u
  ·exact r k e
theorem cI.data (h:cI w A pp pb sb ch vw [] s) {t:mK} (I:s.tx=some t):
  Calls Tryz.prog 149 #[.pointer (some ⟨sb,0,none⟩)] w (cP A pp pb sb ch vw w {s with tx:=some {t with body:=some ⟨[],false,false⟩}} [zl]):=by
 obtain ⟨M,l,m⟩:=h.ex;rw [I] at m;obtain ⟨j,x,J,rfl,o,d,H,K⟩:=m;refine (wz sb ch j _ _ x J w l rfl d.blk).mono ?_;rintro e y ⟨rfl,B,C,n,D,F,G⟩;have p:aH (fun k=>k=j∨k=ch) w y:=⟨G,fun k b u=>D k b (fun e=>u (.inl e)) (fun e=>u (.inr e)),F⟩;have q:w.heap.size < y.heap.size:=ah n;refine ⟨rfl,fun k=>A k∨k=w.heap.size,⟨⟨_,B,j,x,_,rfl,.inl o,⟨C,bC d.row p (fun g f e=>?_)⟩,fun g f=> .inl (H g f),w.heap.size,.slice none 0 0,rfl,.inr rfl,⟨n,World.ownsRowF_nil _ _ _ _⟩,(fun g e=>by cases e)⟩,.inl h.asb,.inl h.ach,fun k b=>?_⟩,fun _ a=> .inl a,fun k b=>b.imp id (fun e=>Nat.le_of_eq e.symm),p.mono (fun k _ e=>?_)⟩
 ·rcases e with e | e
  ·exact d.far (by rw [←e];exact f)
  ·obtain ⟨z,v⟩:=dm d.row f;obtain ⟨L,r,i⟩:=l.chan;rw [e,i] at v
   cases v
 ·rcases b with b | b
  ·have:=h.lt k b;omega
  ·omega
 ·rcases e with e | e <;> rw [e]
  ·exact o
  ·exact h.ach
end
end Go.Proofs.YtofpegbpgkkgkaaGreatDoor
