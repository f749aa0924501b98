import Derived.Test.YtofpegbpgkkgkaaGreatDoorS03
import Derived.Test.YtofpegbpgkkgkaaGreatDoorS05
import Derived.Test.YtofpegbpgkkgkaaGreatDoorS04
namespace Go.Proofs.YtofpegbpgkkgkaaGreatDoor
set_option maxHeartbeats 8000000
set_option maxRecDepth 1000000
open Go.RowKit
def yr (x:ByteArray×ByteArray):ByteArray:=(⟨#[0]⟩++x.1++⟨#[0]⟩)++x.2
def iV (shown:ByteArray) (x:ByteArray×ByteArray):Bool:=(shown.toList == (yr x).toList) || (shown.toList == (x.1++yr x).toList)
theorem AM (c:bX) (Q R S T:Value) (a:ByteArray) (w:World) (h:jZ w c Q R S T) (hn:c.users.length≤5) (N:∀x∈c.users,x.1.size≤255∧x.2.size≤255):
  Calls Tryz.prog 200 #[.agg #[.string c.host,Q,R,S,.int .i64 c.most,.int .i64 c.size,T,.int .i64 c.life,.int .i64 c.room],.string a] w fun e I=>e= .returned (.bool (c.users.any (iV a)))∧Below w.heap.size w I:=by
 obtain ⟨V,Z,eD⟩:=aE h.1;obtain ⟨W,cN,eN⟩:=aE h.2.1;obtain ⟨Y,cW,eW⟩:=aE h.2.2.2;obtain ⟨X,cU,eU,M⟩:=h.2.2.1.shape;subst eD eN eU eW;obtain ⟨C,l⟩:∃C:World,w.alloc (.cells #[.string c.host,.slice V c.doms.length Z,.slice W c.nets.length cN,.slice X c.users.length cU,.int .i64 c.most,.int .i64 c.size,.slice Y c.waits.length cW,.int .i64 c.life,.int .i64 c.room] 30)=C:=⟨_,rfl⟩;have J:Below w.heap.size w C:=by rw [←l];exact (Below.refl _ _).alloc (Nat.le_refl _) _
 have K:=Lib.hid M;have U:=Lib.hid N;have u:=Lib.hid J;have B:=Lib.hid l;clear h M N J l;go_enter Tryz.func200,Tryz.ntmps200;go_wp2_with fail
 rw [B.out];go_loopw [6,7,11] (fun _ _ i I=>∃k:Nat,k≤c.users.length∧i= .int .i64 k∧Hid ((c.users.take k).any (iV a)=false)∧Hid (Below w.heap.size w I)) (fun _ _ i _=>c.users.length - (intOf i).toNat)
 case atStart=>exact ⟨0,Nat.zero_le _,rfl,Lib.hid rfl,u⟩
 case round=>
  obtain ⟨k,hk,rfl,v,n⟩:=hrel
  by_cases g:k < c.users.length
  ·have O:(k:Int) < (c.users.length:Int):=by omega
   obtain ⟨b,q,rfl,o,f⟩:=K.out k 0 g (by omega);obtain ⟨b',P,D,_,d⟩:=K.out k 1 g (by omega);injection D with D;injection D with e1 e2 _;subst e1 e2;rw [Nat.add_zero,tp c.users k g] at f;rw [qD c.users k g] at d;have p:=U.out c.users[k] (List.getElem_mem g);have A:Hid ((c.users.take (k+1)).any (iV a)=iV a c.users[k]):=Lib.hid (by rw [List.take_succ_eq_append_getElem g,List.any_append,v.out];simp);have r:Hid (iV a c.users[k]=true→c.users.any (iV a)=true):=Lib.hid (fun e=>List.any_eq_true.2 ⟨_,List.getElem_mem g,e⟩);obtain ⟨x,L⟩:∃x,c.users[k]=x:=⟨_,rfl⟩;rw [L] at f d p A r;obtain ⟨j,m⟩:=x;simp only at f d p;have d0:wr.cell? ⟨b,q+k * 2,none⟩=some (.string j):=(n.out.cell (by exact o)).trans f;have d1:wr.cell? ⟨b,q+k * 2+1,none⟩=some (.string m):=(n.out.cell (by exact o)).trans d;have E:iV a (j,m)=((a.toList == ((⟨#[0]⟩++j++⟨#[0]⟩)++m).toList) || (a.toList == (j++((⟨#[0]⟩++j++⟨#[0]⟩)++m)).toList)):=rfl;obtain ⟨t1,G⟩:∃t,(a.toList == ((⟨#[0]⟩++j++⟨#[0]⟩)++m).toList)=t:=⟨_,rfl⟩;obtain ⟨t2,H⟩:∃t,(a.toList == (j++((⟨#[0]⟩++j++⟨#[0]⟩)++m)).toList)=t:=⟨_,rfl⟩;rw [G,H] at E;rw [E] at A r;clear L f d E;have s:=Lib.hid (n.out.alloc n.out.size (.cells #[.string j,.string m] 79))
   cases t1 with
   | true=>
    have z:=Lib.hid (r.out (by simp));go_wp2_with fail
    go_ret;exact ⟨by rw [z.out];rfl,s.out⟩
   | false=>
    cases t2 with
    | true=>
     have z:=Lib.hid (r.out (by simp));go_wp2_with fail
     go_ret;exact ⟨by rw [z.out];rfl,s.out⟩
    | false=>
     have y:Hid ((c.users.take (k+1)).any (iV a)=false):=Lib.hid (A.out.trans (by simp));go_wp2_with fail
     exact ⟨⟨k+1,by omega,by go_num,y,s⟩,by simp [intOf];omega⟩
  ·have F:k=c.users.length:=by omega
   subst F;rw [List.take_length] at v;go_wp2_with fail
   go_ret;exact ⟨by rw [v.out];rfl,n.out⟩
structure ko (w:World) (pp:Nat) (c:bX) (vD vN vU vW:Value):Prop where
 blk:∃A:Array Value,w.heap[pp]? =some (.cells A 88 (0,0))∧A.toList.take 9=[.string c.host,vD,vN,vU,.int .i64 c.most,.int .i64 c.size,vW,.int .i64 c.life,.int .i64 c.room]
 rows:jZ w c vD vN vU vW
 may:ij c=true
theorem ko.small {w:World} {a:Nat} {c:bX} {b d e f:Value} (h:ko w a c b d e f):Ge c:=kg h.may
theorem ko.cell {w:World} {a:Nat} {c:bX} {b d e f:Value} (h:ko w a c b d e f) (j:Nat) (i:j < 9):w.cell? ⟨a,j,none⟩=[.string c.host,b,d,e,.int .i64 c.most,.int .i64 c.size,f,.int .i64 c.life,.int .i64 c.room][j]? :=by
 obtain ⟨A,g,k⟩:=h.blk;rw [Lib.cell_of_heap g,←Array.getElem?_toList,←List.getElem?_take_of_lt i,k]
theorem Fc (sb b j:Nat) (C:Array Value) (a:ByteArray) (w:World) (h:bT w sb b C []) (i:C[8]? =some (.pointer (some ⟨j,0,none⟩))):
  Calls Tryz.prog 146 #[.pointer (some ⟨sb,0,none⟩),.string a] w fun e d=>e= .returned (.tuple #[])∧bT d sb b C [[53,48,51,32,102,105,114,115,116,13,10]]∧aL b w d:=by
 have f:=Lib.hid (h.tell (by simp) [53,48,51,32,102,105,114,115,116] (by decide));have k:=(h.cell 8).trans i;clear h;go_enter Tryz.func146,Tryz.ntmps146;go_wp2_with fail
 refine f.out.mono ?_;rintro e l ⟨rfl,g,c⟩;go_wp2_with fail
 refine bodyPost_end (results_none rfl _ _ _) rfl ?_;exact ⟨rfl,g,c⟩
theorem CQ (sb b:Nat) (C:Array Value) (a:ByteArray) (w:World) (h:bT w sb b C []) (j:C[8]? =some (.pointer none)) (i:C[6]? =some (.bool true)):
  Calls Tryz.prog 146 #[.pointer (some ⟨sb,0,none⟩),.string a] w fun e d=>e= .returned (.tuple #[])∧bT d sb b C [[53,48,51,32,102,105,114,115,116,13,10]]∧aL b w d:=by
 have f:=Lib.hid (h.tell (by simp) [53,48,51,32,102,105,114,115,116] (by decide));have l:=(h.cell 8).trans j;have k:=(h.cell 6).trans i;clear h;go_enter Tryz.func146,Tryz.ntmps146;go_wp2_with fail
 refine f.out.mono ?_;rintro e m ⟨rfl,g,c⟩;go_wp2_with fail
 refine bodyPost_end (results_none rfl _ _ _) rfl ?_;exact ⟨rfl,g,c⟩
theorem G6 (sb s z:Nat) (C:Array Value) (c:bX) (I J K L:Value) (f:ByteArray) (w:World) (h:bT w sb s C []) (i:ko w z c I J K L) (G:C[0]? =some (.pointer (some ⟨z,0,none⟩))) (H:C[8]? =some (.pointer none)) (x:C[6]? =some (.bool false)):
  Calls Tryz.prog 146 #[.pointer (some ⟨sb,0,none⟩),.string f] w fun e p=>e= .returned (.tuple #[])∧bT p sb s (if c.users.any (iV f) then C.setIfInBounds 6 (.bool true) else C) [if c.users.any (iV f) then [50,51,53,32,111,107,13,10] else [53,51,53,32,110,111,13,10]]∧(∀k,k < w.heap.size→k≠sb→k≠s→p.heap[k]? =w.heap[k]?)∧dU w p∧w.heap.size≤p.heap.size:=by
 have c8:=(h.cell 8).trans H;have c6:=(h.cell 6).trans x;have c0:=(h.cell 0).trans G;obtain ⟨W,cD,B⟩:=aE i.rows.1;obtain ⟨X,cN,D⟩:=aE i.rows.2.1;obtain ⟨Y,cU,E⟩:=aE i.rows.2.2.1;obtain ⟨Z,cW,F⟩:=aE i.rows.2.2.2;subst B D E F;have N:=i.cell 0 (by decide);have O:=i.cell 1 (by decide);have P:=i.cell 2 (by decide);have Q:=i.cell 3 (by decide);have R:=i.cell 4 (by decide);have S:=i.cell 5 (by decide);have T:=i.cell 6 (by decide);have U:=i.cell 7 (by decide);have V:=i.cell 8 (by decide);simp only [List.getElem?_cons_zero,List.getElem?_cons_succ] at N O P Q R S T U V;have o:=Lib.hid (AM c _ _ _ _ f w i.rows i.small.users i.small.userz);have A:=Lib.hid h;obtain ⟨t,y⟩:∃t,c.users.any (iV f)=t:=⟨_,rfl⟩;rw [y] at o ⊢;clear h i y;go_enter Tryz.func146,Tryz.ntmps146;go_wp2_with fail
 refine o.out.mono ?_;rintro e q ⟨rfl,l⟩;have n:=A.out.below l;have g:=Lib.hid l
 cases t with
 | true=>
  have d6:=(n.cell 6).trans x;have f6:=n.frozen 6;have v:aL sb q (q.setCell ⟨sb,6,none⟩ (.bool true)):=(aL.refl _ _).setCell _;have r:=Lib.hid ((n.set 6 (by decide) (.bool true)).tell (by simp) [50,51,53,32,111,107] (by decide));have m:=Lib.hid v;clear n v l o;go_wp2_with fail
  refine r.out.mono ?_;rintro e M ⟨rfl,u,j⟩;go_wp2_with fail
  refine bodyPost_end (results_none rfl _ _ _) rfl ?_;refine ⟨rfl,u,fun k a b d=>(j.2 k d).trans ((m.out.2 k b).trans (g.out.block k a)),((show dU w q from ⟨g.out.1,g.out.2,g.out.3⟩).trans m.out.3).trans j.3,?_⟩;rw [j.1,m.out.1];exact g.out.size
 | false=>
  have r:=Lib.hid (n.tell (by simp) [53,51,53,32,110,111] (by decide));clear n l o;go_wp2_with fail
  refine r.out.mono ?_;rintro e M ⟨rfl,u,j⟩;go_wp2_with fail
  refine bodyPost_end (results_none rfl _ _ _) rfl ?_;refine ⟨rfl,u,fun k a _ d=>(j.2 k d).trans (g.out.block k a),(show dU w q from ⟨g.out.1,g.out.2,g.out.3⟩).trans j.3,?_⟩;rw [j.1];exact g.out.size
def lf:aX:=⟨0,0,[],[],[]⟩
def yw (l:List UInt8) (w:World) (e:Ending) (w':World):Prop:=
 (bP l=none∧e= .returned (.tuple #[.agg (aY lf (.slice none 0 0)),.bool false])∨∃mm v,bP l=some mm∧e= .returned (.tuple #[.agg (aY mm v),.bool true])∧w'.ownsRow w.heap.size 9 1 v mm.tos.length (aB mm.tos)∧dQ mm)∧Below w.heap.size w w'
structure RS (w wk:World) (s:Nat) (o:Option (List UInt8)) (I T:Nat) (f:List UInt8) (v:Value) (B:List UInt8):Prop where
 fd:gG wk (s+1) o
 res:gu wk s 0 0 [] (.slice none 0 0) []
 mail:gu wk (s+2) I T f v B
 below:Below s w wk
 size:s+3≤wk.heap.size
theorem gG.same {w d:World} {b s:Nat} {o:Option (List UInt8)} (h:gG w b o) (c:aL s w d) (a:b≠s):gG d b o:=by
 cases o with
 | none=>obtain ⟨l,h⟩:=h;exact ⟨l,(c.2 b a).trans h⟩
 | some l=>exact ⟨(c.2 b a).trans h.1,h.2⟩
theorem gG.blk {w c:World} {b:Nat} {o:Option (List UInt8)} (h:gG w b o) (a:c.heap[b]? =w.heap[b]?):gG c b o:=by
 cases o with
 | none=>obtain ⟨l,h⟩:=h;exact ⟨l,a.trans h⟩
 | some l=>exact ⟨a.trans h.1,h.2⟩
theorem RS.fdStep {w d a:World} {s I T:Nat} {o c:Option (List UInt8)} {f B:List UInt8} {v:Value} (h:RS w d s o I T f v B) (b:aL (s+1) d a) (e:gG a (s+1) c):RS w a s c I T f v B:=
 ⟨e,h.res.same b (by omega),h.mail.same b (by omega),h.below.trans (b.below (by omega)),by rw [b.1];exact h.size⟩
theorem RS.keep {w c b:World} {s I T:Nat} {o:Option (List UInt8)} {f B:List UInt8} {v:Value} (h:RS w c s o I T f v B) (a:Below c.heap.size c b):RS w b s o I T f v B:=by
 have d:=h.size;refine ⟨h.fd.blk (a.block (s+1) (by omega)),?_,?_,h.below.trans (a.mono (by omega)),Nat.le_trans h.size a.size⟩
 ·have:=h.res;unfold gu at this ⊢;rw [a.block s (by omega)];exact this
 ·have:=h.mail;unfold gu at this ⊢;rw [a.block (s+2) (by omega)];exact this
theorem RS.cellAt {w a:World} {s I T:Nat} {o:Option (List UInt8)} {f B:List UInt8} {v:Value} (h:RS w a s o I T f v B) (j:Nat):a.cell? ⟨s+2,j,none⟩=(#[.int .i64 I,.int .i64 T,.string (bs f),v,.string (bs B)]:Array Value)[j]? ∧a.frozen? ⟨s+2,j,none⟩=false:=h.mail.cell j
theorem RS.set {w a:World} {s I T I' T' j:Nat} {o:Option (List UInt8)} {f B f' B':List UInt8} {v v' u:Value} (h:RS w a s o I T f v B) (e:(#[.int .i64 I,.int .i64 T,.string (bs f),v,.string (bs B)]:Array Value).setIfInBounds j u=#[.int .i64 I',.int .i64 T',.string (bs f'),v',.string (bs B')]):RS w (a.setCell ⟨s+2,j,none⟩ u) s o I' T' f' v' B':=by
 have b:aL (s+2) a (a.setCell ⟨s+2,j,none⟩ u):=(aL.refl _ _).setCell _;refine ⟨h.fd.same b (by omega),h.res.same b (by omega),?_,h.below.trans (b.below (by omega)),by rw [b.1];exact h.size⟩
 have:=heap_setCell_same a (s+2) j _ _ u h.mail;unfold gu;rw [this,e]
theorem RS.ofGrown {w d m l:World} {s I T n:Nat} {o:Option (List UInt8)} {f B:List UInt8} {v:Value} {q:List Value} (h:RS w d s o I T f v B) (p:d.ownsRow (s+3) 9 1 v n q) (c:Below d.heap.size d m) (g:m.grownBy l v.ownBlock):RS w l s o I T f v B:=by
 have t:=h.size;have a:∀j,v.ownBlock=some j→s+3≤j:=fun j i=>(p.lt j i).1
 have b:∀k,k < s+3→l.heap[k]? =d.heap[k]? :=fun k r=>by
  rw [g.block k (by have:=c.size;omega) (fun e=>by have:=a k e.symm;omega),c.block k (by omega)]
 refine ⟨h.fd.blk (b _ (by omega)),?_,?_,?_,by have:=c.size;have:=g.size;omega⟩
 ·have:=h.res;unfold gu at this ⊢;rw [b s (by omega)];exact this
 ·have:=h.mail;unfold gu at this ⊢;rw [b (s+2) (by omega)];exact this
 ·exact (h.below.trans (c.mono (by omega))).grown g (by have:=c.size;omega) (fun j i=>by have:=a j i;omega)
theorem ka (l:List UInt8) (m:Int) (w:World) (hl:l.length≤536870912) (hm:w.cell? ⟨0,0,none⟩=some (.int .i64 m)):
  Calls Tryz.prog 114 #[.string (bs l)] w (yw l w):=by
 have h0:=aC hm;have sl:=aG l;obtain ⟨s,hs⟩:∃s,w.heap.size=s:=⟨_,rfl⟩;rw [hs] at h0;obtain ⟨W0,V⟩:∃W0:World,(w.alloc (.cells #[.int .i64 0,.int .i64 0,.string ⟨#[]⟩,.slice none 0 0,.string ⟨#[]⟩] 45)).alloc (.cells #[.string (bs l),.bool false] 187)=W0:=⟨_,rfl⟩;have F0:gG W0 (s+1) (some l):=⟨by rw [←V,←hs];have:=heap_alloc_new (w.alloc (.cells #[.int .i64 0,.int .i64 0,.string ⟨#[]⟩,.slice none 0 0,.string ⟨#[]⟩] 45)) (.cells #[.string (bs l),.bool false] 187);simpa using this,by unfold maxLen;omega⟩
 have R0:gu W0 s 0 0 [] (.slice none 0 0) []:=by
  unfold gu;rw [←V,←hs,((Below.refl (w.alloc (.cells #[.int .i64 0,.int .i64 0,.string ⟨#[]⟩,.slice none 0 0,.string ⟨#[]⟩] 45)).heap.size _).alloc (Nat.le_refl _) _).block w.heap.size (by simp)];exact heap_alloc_new w _
 have B0:Below s w W0:=by rw [←V];exact ((Below.refl _ _).alloc (by omega) _).alloc (by simp;omega) _
 have Z0:W0.heap.size=s+2:=by rw [←V,←hs];simp
 have R:=Lib.hid (iY (s+1) 1 (some l) W0 F0 (by decide));have b7:=Lib.hid V;have U:=Lib.hid hs;have a6:=Lib.hid R0;have a4:=Lib.hid B0;have f5:=Lib.hid Z0;clear V F0 R0 B0 Z0
 by_cases a0:l.take 1=[77]
 ·obtain ⟨r,hr⟩:∃r,l.drop 1=r:=⟨_,rfl⟩;have HL:Hid (l=77::r):=Lib.hid (by rw [←List.take_append_drop 1 l,a0,hr];rfl)
  have e1:(some l).bind (bm 1)=some ([77],r):=by
   show bm 1 l=_;rw [HL.out];rfl
  have S:Hid (bP l=(nk r).bind fun m=>if dr m then some m else none):=Lib.hid (by
   rw [HL.out];unfold bP;simp only;rw [if_pos trivial])
  rw [e1] at R;have l5:r.length≤536870912:=by rw [←hr,List.length_drop];omega
  clear e1 hr a0;go_enter Tryz.func114,Tryz.ntmps114;go_wp2_with fail
  rw [b7.out];refine R.out.mono ?_;rintro e W ⟨rfl,B,y⟩
  have m1:((bs (gK (some ([77],r)))).toList == [77])=true:=by
   show ((bs [77]).toList == [77])=true;rw [qM];rfl
  have F1:gG W (s+1) (some r):=B;have O:=a6.out.same y (by omega);have B1:=a4.out.trans (y.below (by omega));have Z1:W.heap.size=s+2:=y.1.trans f5.out;obtain ⟨W2,a1⟩:∃W2:World,W.alloc (.cells #[.int .i64 0,.int .i64 0,.string ⟨#[]⟩,.slice none 0 0,.string ⟨#[]⟩] 45)=W2:=⟨_,rfl⟩
  have S2:RS w W2 s (some r) 0 0 [] (.slice none 0 0) []:=by
   have hb:Below W.heap.size W W2:=by rw [←a1];exact (Below.refl _ _).alloc (Nat.le_refl _) _
   refine ⟨F1.blk (hb.block (s+1) (by omega)),?_,?_,B1.trans (hb.mono (by omega)),by rw [←a1];simp;omega⟩
   ·unfold gu at O ⊢;rw [hb.block s (by omega)];exact O
   ·unfold gu;rw [←a1,←Z1];exact heap_alloc_new W _
  have b3:=Lib.hid S2;have e6:=Lib.hid a1;clear B y F1 O B1 R a6 a4 f5 b7 S2 a1;obtain ⟨I,o1,hI⟩:∃I o1,gj 4 (some r)=(I,o1):=⟨_,_,rfl⟩;have i4:I≤4294967295:=by have:=lZ 4 (some r);rw [hI] at this;simp at this;omega
  have A:Calls Tryz.prog 111 #[.pointer (some ⟨s+1,0,none⟩),.int .i64 4] W2 fun e q=>e= .returned (.int .i64 (gj 4 (some r)).1)∧gG q (s+1) (gj 4 (some r)).2∧aL (s+1) W2 q:=dZ (s+1) 4 (some r) W2 b3.out.fd (by decide);rw [hI] at A;have Q:=Lib.hid A;have HI:=Lib.hid hI;clear A hI;go_wp2_with fail
  rw [e6.out];refine Q.out.mono ?_;rintro e w3 ⟨rfl,B,y⟩;have S3:=b3.out.fdStep y B;obtain ⟨c0,f0⟩:=S3.cellAt 0;have c7:RS w (w3.setCell ⟨s+2,0,none⟩ (.int .i64 I)) s o1 I 0 [] (.slice none 0 0) []:=S3.set rfl;obtain ⟨W3,d2⟩:∃W3:World,w3.setCell ⟨s+2,0,none⟩ (.int .i64 I)=W3:=⟨_,rfl⟩;rw [d2] at c7;have b4:=Lib.hid c7;have e7:=Lib.hid d2;clear B y S3 c7 d2 Q b3 e6;obtain ⟨T,o2,hT⟩:∃T o2,gj 4 o1=(T,o2):=⟨_,_,rfl⟩;have i5:T≤4294967295:=by have:=lZ 4 o1;rw [hT] at this;simp at this;omega
  have A:Calls Tryz.prog 111 #[.pointer (some ⟨s+1,0,none⟩),.int .i64 4] W3 fun e q=>e= .returned (.int .i64 (gj 4 o1).1)∧gG q (s+1) (gj 4 o1).2∧aL (s+1) W3 q:=dZ (s+1) 4 o1 W3 b4.out.fd (by decide);rw [hT] at A;have Q:=Lib.hid A;have HT:=Lib.hid hT;clear A hT;go_wp2_with fail
  rw [e7.out];refine Q.out.mono ?_;rintro e w4 ⟨rfl,B,y⟩;have S4:=b4.out.fdStep y B;obtain ⟨c1,f1⟩:=S4.cellAt 1;have c8:RS w (w4.setCell ⟨s+2,1,none⟩ (.int .i64 T)) s o2 I T [] (.slice none 0 0) []:=S4.set rfl;obtain ⟨W4,d3⟩:∃W4:World,w4.setCell ⟨s+2,1,none⟩ (.int .i64 T)=W4:=⟨_,rfl⟩;rw [d3] at c8;have b5:=Lib.hid c8;have e8:=Lib.hid d3;clear B y S4 c8 d3 Q b4 e7 c0 f0;obtain ⟨f,o3,hf⟩:∃f o3,jX 1 o2=(f,o3):=⟨_,_,rfl⟩;have i7:f.length≤255:=by have:=tj 1 o2;rw [hf] at this;simp at this;omega
  have A:Calls Tryz.prog 163 #[.pointer (some ⟨s+1,0,none⟩),.int .i64 1] W4 fun e q=>e= .returned (.string (bs (jX 1 o2).1))∧gG q (s+1) (jX 1 o2).2∧aL (s+1) W4 q:=oT (s+1) 1 o2 W4 b5.out.fd (by decide);rw [hf] at A;have Q:=Lib.hid A;have HF:=Lib.hid hf;have sf:=aG f;clear A hf;go_wp2_with fail
  rw [e8.out];refine Q.out.mono ?_;rintro e w5 ⟨rfl,B,y⟩;have e2:=Lib.hid (b5.out.fdStep y B);have L:=Lib.hid (iw (bs f) w5 (by omega));clear B y Q b5 e8 c1 f1;go_wp2_with fail
  refine L.out.mono ?_;rintro e w6 ⟨rfl,g6⟩;have S6:=e2.out.keep g6;obtain ⟨c2,f2⟩:=S6.cellAt 2;have d0:RS w (w6.setCell ⟨s+2,2,none⟩ (.string (bs f))) s o3 I T f (.slice none 0 0) []:=S6.set rfl;obtain ⟨W6,d4⟩:∃W6:World,w6.setCell ⟨s+2,2,none⟩ (.string (bs f))=W6:=⟨_,rfl⟩;rw [d4] at d0;have b6:=Lib.hid d0;have e9:=Lib.hid d4;clear g6 S6 d0 d4 L e2;obtain ⟨N,o4,hN⟩:∃N o4,gj 1 o3=(N,o4):=⟨_,_,rfl⟩;have l3:N≤255:=by have:=lZ 1 o3;rw [hN] at this;simp at this;omega
  have A:Calls Tryz.prog 111 #[.pointer (some ⟨s+1,0,none⟩),.int .i64 1] W6 fun e q=>e= .returned (.int .i64 (gj 1 o3).1)∧gG q (s+1) (gj 1 o3).2∧aL (s+1) W6 q:=dZ (s+1) 1 o3 W6 b6.out.fd (by decide);rw [hN] at A;have Q:=Lib.hid A;have HN:=Lib.hid hN;clear A hN;go_wp2_with fail
  rw [e9.out];refine Q.out.mono ?_;rintro e w7 ⟨rfl,B,y⟩;have e3:=Lib.hid (b6.out.fdStep y B);clear B y Q b6 e9 c2 f2;go_wp2_with fail
  obtain ⟨is,i8,g8,g9,h3⟩:=info_parts nR;go_loopw [19] (fun i q=>∃(k:Nat) (v:Value) (z:List (List UInt8)) (o:Option (List UInt8)),k≤N∧i= .int .i64 k∧Hid (jh k o4=(z,o))∧Hid (RS w q s o I T f v [])∧Hid (q.ownsRow (s+3) 9 1 v k (aB z))) (fun i _=>N - (intOf i).toNat)
  case atStart=>exact ⟨0,_,[],o4,Nat.zero_le _,rfl,Lib.hid rfl,e3,Lib.hid (World.ownsRow_nil _ _ _ _)⟩
  case round=>
   clear e3;obtain ⟨k,v,z,o,hk,rfl,a8,HS,HO⟩:=hrel
   obtain ⟨C,H,F,rfl⟩:∃a n c,v= .slice a n c:=by
    rcases HO.out.2 with ⟨e,_⟩ | ⟨g,l0,l1,e,_⟩
    ·exact ⟨_,_,_,e⟩
    ·exact ⟨_,_,_,e⟩
   by_cases l4:k < N
   ·have k8:(k:Int) < (N:Int):=by omega
    obtain ⟨t,o',ht⟩:∃t o',jX 1 o=(t,o'):=⟨_,_,rfl⟩;have l6:t.length≤255:=by have:=tj 1 o;rw [ht] at this;simp at this;omega
    have st:=aG t;have h6:Hid (jh (k+1) o4=(z++[t],o')):=Lib.hid (by rw [jh,a8.out];simp only [ht])
    have h9:Hid (∀q,gG q (s+1) o→Calls Tryz.prog 163 #[.pointer (some ⟨s+1,0,none⟩),.int .i64 1] q fun e P=>e= .returned (.string (bs t))∧gG P (s+1) o'∧aL (s+1) q P):=Lib.hid (fun q h'=>by
     have A:Calls Tryz.prog 163 #[.pointer (some ⟨s+1,0,none⟩),.int .i64 1] q fun e P=>e= .returned (.string (bs (jX 1 o).1))∧gG P (s+1) (jX 1 o).2∧aL (s+1) q P:=oT (s+1) 1 o q h' (by decide);rw [ht] at A
     exact A)
    have L:Hid (∀q,Calls Tryz.prog 69 #[.string (bs t)] q fun e P=>e= .returned (.string (bs t))∧Below q.heap.size q P):=Lib.hid (fun q=>iw (bs t) q (by omega));have Sd:Hid (RS w wr.drew s o I T f (.slice C H F) []):=Lib.hid (HS.out.keep ((Below.refl _ _).drew));have Od:Hid (wr.drew.ownsRow (s+3) 9 1 (.slice C H F) k (aB z)):=Lib.hid HO.out.drew;have c3:wr.drew.cell? ⟨s+2,3,none⟩=some (.slice C H F):=(Sd.out.cellAt 3).1;have k9:wr.cell? ⟨s+2,3,none⟩=some (.slice C H F):=(HS.out.cellAt 3).1;clear ht;go_wp2_with fail
    go_region_law (first
     | (refine step_append_lies _ (by rfl) _ _ _ (by rfl) (s+3) 9 is _ 1 16 Tryz.underlying25 i8 g8 g9 h3 rfl (by decide) (.slice C H F) k (aB z) (by rfl) (f6.out.alloc _) ⟨J.heap.size,0,none⟩ 1 1 [.string (bs t)] (by rfl) (by rfl) (World.news_of_block (cs:=#[.string (bs t)]) (t:=9) (fr:=(0,0)) (heap_alloc_new J _)) (by simp [Value.oneCell']) (by decide) (by unfold maxLen;omega) (by omega) (by simp;omega) (J.heap.size+1) (by simp) ?_;intro ga E p b0 a3 i6 j1;have b:=Lib.hid (c6.out.ofGrown f6.out ((Below.refl _ _).alloc (Nat.le_refl _) _) a3);have j2:p.cell? ⟨s+2,3,none⟩=some (.slice C H F):=(b.out.cellAt 3).1;have i3:=(b.out.cellAt 3).2;have k5:(p.setCell ⟨s+2,3,none⟩ (.slice (some ⟨ga,0,none⟩) (k+1) E)).cell? ⟨s+2,3,none⟩=some (.slice (some ⟨ga,0,none⟩) (k+1) E):=((b.out.set (u:= .slice (some ⟨ga,0,none⟩) (k+1) E) rfl).cellAt 3).1;have e0:=Lib.hid b0;clear b0 a3 i6)
     | (go_simp;go_at_call 163;refine (h9.out _ Sd.out.fd).mono ?_;rintro e w9 ⟨rfl,B,y⟩;have S9:=Lib.hid (Sd.out.fdStep y B);have O9:=Lib.hid (dJ Od.out y (by omega));have c9:w9.cell? ⟨s+2,3,none⟩=some (.slice C H F):=(S9.out.cellAt 3).1;clear B y;dsimp only)
     | (go_simp;go_at_call 69;refine (L.out _).mono ?_;rintro e J ⟨rfl,a2⟩;have c6:=Lib.hid (S9.out.keep a2);have f6:=Lib.hid (dG (cJ.below (ts:=[]) a2) (by simp) O9.out);have f8:J.cell? ⟨s+2,3,none⟩=some (.slice C H F):=(c6.out.cellAt 3).1;have l8:=c6.out.size;have k7:∀o:Obj,(J.alloc o).cell? ⟨s+2,3,none⟩=some (.slice C H F):=(fun o=>(((Below.refl J.heap.size J).alloc (Nat.le_refl _) o).cell (aC f8)).trans f8);clear a2;dsimp only))
    all_goals
     have i2:=Lib.hid (b.out.set (j:=3) (u:= .slice (some ⟨ga,0,none⟩) (k+1) E) (I':=I) (T':=T) (f':=f) (B':=[]) (v':= .slice (some ⟨ga,0,none⟩) (k+1) E) rfl);have i1:=Lib.hid (dJ e0.out (show aL (s+2) p (p.setCell ⟨s+2,3,none⟩ (.slice (some ⟨ga,0,none⟩) (k+1) E)) from (aL.refl _ _).setCell _) (by omega));clear j2 i3 k5 e0 b;go_wp2_with fail
     exact ⟨⟨k+1,_,z++[t],o',by omega,by go_num,h6,i2,Lib.hid (by rw [show aB (z++[t])=aB z++[.string (bs t)] by simp [aB]];exact i1.out)⟩,by simp [intOf];omega⟩
   ·have i9:k=N:=by omega
    subst i9;have f9:z.length=k:=by have:=yp k o4;rw [a8.out] at this;exact this
    have g5:∀t∈z,t.length < 256:=by have:=BZ k o4;rw [a8.out] at this;exact this
    have e5:=Lib.hid f9;have h8:=Lib.hid g5;obtain ⟨D,o6,hD⟩:∃D o6,jX 2 o=(D,o6):=⟨_,_,rfl⟩;have l2:D.length≤65535:=by have:=tj 2 o;rw [hD] at this;simp at this;omega
    have a5:Hid (nk r=if o6=some [] then some ⟨I,T,f,z,D⟩ else none):=Lib.hid (Db r HI.out HT.out HF.out HN.out a8.out hD);have A:Calls Tryz.prog 163 #[.pointer (some ⟨s+1,0,none⟩),.int .i64 2] wr fun e q=>e= .returned (.string (bs (jX 2 o).1))∧gG q (s+1) (jX 2 o).2∧aL (s+1) wr q:=oT (s+1) 2 o wr HS.out.fd (by decide);rw [hD] at A;have Q:=Lib.hid A;have sD:=aG D;clear A hD f9 g5;go_wp2_with fail
    refine Q.out.mono ?_;rintro e w8 ⟨rfl,B,y⟩;have e4:=Lib.hid (HS.out.fdStep y B);have d9:=Lib.hid (dJ HO.out y (by omega));have L:=Lib.hid (iw (bs D) w8 (by omega));clear B y Q HS HO;go_wp2_with fail
    refine L.out.mono ?_;rintro e w9 ⟨rfl,d6⟩;have S9:=e4.out.keep d6;have O9:=dG (cJ.below (ts:=[]) d6) (by simp) d9.out;obtain ⟨c4,f4⟩:=S9.cellAt 4;have k0:w9.cell? ⟨s+2,0,none⟩=some (.int .i64 I):=(S9.cellAt 0).1;have k1:w9.cell? ⟨s+2,1,none⟩=some (.int .i64 T):=(S9.cellAt 1).1;have k2:w9.cell? ⟨s+2,2,none⟩=some (.string (bs f)):=(S9.cellAt 2).1;have k3:w9.cell? ⟨s+2,3,none⟩=some (.slice C H F):=(S9.cellAt 3).1;have a9:RS w (w9.setCell ⟨s+2,4,none⟩ (.string (bs D))) s o6 I T f (.slice C H F) D:=S9.set rfl;have c5:(w9.setCell ⟨s+2,4,none⟩ (.string (bs D))).ownsRow (s+3) 9 1 (.slice C H F) k (aB z):=dJ O9 (show aL (s+2) w9 _ from (aL.refl _ _).setCell _) (by omega);obtain ⟨K,d5⟩:∃K:World,w9.setCell ⟨s+2,4,none⟩ (.string (bs D))=K:=⟨_,rfl⟩;rw [d5] at a9 c5;have d:=Lib.hid a9;have Y:=Lib.hid c5;have b8:=Lib.hid d5;have b2:=Lib.hid (ue (s+1) o6 K a9.fd);clear d6 S9 O9 a9 c5 d5 L e4 d9;go_wp2_with fail
    rw [b8.out];refine b2.out.mono ?_;rintro e J ⟨rfl,rfl⟩
    cases hq:decide (o6=some []) with
    | false=>
     have Z:Hid (bP l=none):=Lib.hid (by rw [S.out,a5.out,if_neg (by simpa using hq)];rfl);have r0:K.cell? ⟨s,0,none⟩=some (.int .i64 0):=(d.out.res.cell 0).1;have g0:=(d.out.res.cell 0).2;have r1:K.cell? ⟨s,1,none⟩=some (.int .i64 0):=(d.out.res.cell 1).1;have g1:=(d.out.res.cell 1).2;have r2:K.cell? ⟨s,2,none⟩=some (.string ⟨#[]⟩):=(d.out.res.cell 2).1;have g2:=(d.out.res.cell 2).2;have r3:K.cell? ⟨s,3,none⟩=some (.slice none 0 0):=(d.out.res.cell 3).1;have g3:=(d.out.res.cell 3).2;have r4:K.cell? ⟨s,4,none⟩=some (.string ⟨#[]⟩):=(d.out.res.cell 4).1;have g4:=(d.out.res.cell 4).2;have h5:=Lib.hid d.out.below;clear d Y b8 b2 k0 k1 k2 k3 c4 f4 S a5 hq;go_wp2_with fail
     refine bodyPost_ret (v:= .tuple #[.agg (aY lf (.slice none 0 0)),.bool false]) (by simp [results,Tryz.results114,go_sem,lf,aY,bs, *]) rfl ?_;refine ⟨.inl ⟨Z.out,rfl⟩,?_⟩;rw [U.out];exact ((((h5.out.setCell (Nat.le_refl _) _).setCell (Nat.le_refl _) _).setCell (Nat.le_refl _) _).setCell (Nat.le_refl _) _).setCell (Nat.le_refl _) _
    | true=>
     have d7:dQ ⟨I,T,f,z,D⟩:=⟨i4,i5,i7,by show z.length≤255;have:=e5.out;omega,fun x hx=>by have:=h8.out x hx;omega,by show D.length≤1048576;omega⟩
     have d1:(⟨I,T,f,z,D⟩:aX).tos.length=k:=e5.out;have b1:bg K (.slice C H F) (⟨I,T,f,z,D⟩:aX).tos.length 1 (aB (⟨I,T,f,z,D⟩:aX).tos):=by rw [d1];exact vF Y.out
     have g7:K.cell? ⟨0,0,none⟩=some (.int .i64 m):=(d.out.below.cell (by rw [←U.out];exact aC hm)).trans hm;have M:=Lib.hid (Bf ⟨I,T,f,z,D⟩ (.slice C H F) m K b1 d7 g7);have a7:Hid (bP l=if dr ⟨I,T,f,z,D⟩ then some ⟨I,T,f,z,D⟩ else none):=Lib.hid (by rw [S.out,a5.out,if_pos (by simpa using hq)];rfl);have q0:K.cell? ⟨s+2,0,none⟩=some (.int .i64 I):=(d.out.cellAt 0).1;have q1:K.cell? ⟨s+2,1,none⟩=some (.int .i64 T):=(d.out.cellAt 1).1;have q2:K.cell? ⟨s+2,2,none⟩=some (.string (bs f)):=(d.out.cellAt 2).1;have q3:K.cell? ⟨s+2,3,none⟩=some (.slice C H F):=(d.out.cellAt 3).1;have q4:K.cell? ⟨s+2,4,none⟩=some (.string (bs D)):=(d.out.cellAt 4).1;have i0:=Lib.hid d7;have h7:=Lib.hid d1;simp only [aY] at M;clear d7 d1 b1 g7 b8 b2 k0 k1 k2 k3 c4 f4 S a5 hq
     cases hM:dr ⟨I,T,f,z,D⟩ with
     | false=>
      have Z:Hid (bP l=none):=Lib.hid (by rw [a7.out,hM];rfl);rw [hM] at M;clear hM a7;go_wp2_with fail
      refine M.out.mono ?_;rintro e p ⟨rfl,G⟩;have b:=d.out.keep G;have r0:p.cell? ⟨s,0,none⟩=some (.int .i64 0):=(b.res.cell 0).1;have g0:=(b.res.cell 0).2;have r1:p.cell? ⟨s,1,none⟩=some (.int .i64 0):=(b.res.cell 1).1;have g1:=(b.res.cell 1).2;have r2:p.cell? ⟨s,2,none⟩=some (.string ⟨#[]⟩):=(b.res.cell 2).1;have g2:=(b.res.cell 2).2;have r3:p.cell? ⟨s,3,none⟩=some (.slice none 0 0):=(b.res.cell 3).1;have g3:=(b.res.cell 3).2;have r4:p.cell? ⟨s,4,none⟩=some (.string ⟨#[]⟩):=(b.res.cell 4).1;have g4:=(b.res.cell 4).2;have X:=Lib.hid b.below;clear b G d Y M q0 q1 q2 q3 q4;go_wp2_with fail
      refine bodyPost_ret (v:= .tuple #[.agg (aY lf (.slice none 0 0)),.bool false]) (by simp [results,Tryz.results114,go_sem,lf,aY,bs, *]) rfl ?_;refine ⟨.inl ⟨Z.out,rfl⟩,?_⟩;rw [U.out];exact ((((X.out.setCell (Nat.le_refl _) _).setCell (Nat.le_refl _) _).setCell (Nat.le_refl _) _).setCell (Nat.le_refl _) _).setCell (Nat.le_refl _) _
     | true=>
      have Z:Hid (bP l=some ⟨I,T,f,z,D⟩):=Lib.hid (by rw [a7.out,hM];rfl);rw [hM] at M;clear hM a7;go_wp2_with fail
      refine M.out.mono ?_;rintro e p ⟨rfl,G⟩;have b:=d.out.keep G;have f7:=dG (cJ.below (ts:=[]) G) (by simp) Y.out;have r0:p.cell? ⟨s,0,none⟩=some (.int .i64 0):=(b.res.cell 0).1;have g0:=(b.res.cell 0).2;have r1:p.cell? ⟨s,1,none⟩=some (.int .i64 0):=(b.res.cell 1).1;have g1:=(b.res.cell 1).2;have r2:p.cell? ⟨s,2,none⟩=some (.string ⟨#[]⟩):=(b.res.cell 2).1;have g2:=(b.res.cell 2).2;have r3:p.cell? ⟨s,3,none⟩=some (.slice none 0 0):=(b.res.cell 3).1;have g3:=(b.res.cell 3).2;have r4:p.cell? ⟨s,4,none⟩=some (.string ⟨#[]⟩):=(b.res.cell 4).1;have g4:=(b.res.cell 4).2;have p0:p.cell? ⟨s+2,0,none⟩=some (.int .i64 I):=(b.cellAt 0).1;have p1:p.cell? ⟨s+2,1,none⟩=some (.int .i64 T):=(b.cellAt 1).1;have p2:p.cell? ⟨s+2,2,none⟩=some (.string (bs f)):=(b.cellAt 2).1;have p3:p.cell? ⟨s+2,3,none⟩=some (.slice C H F):=(b.cellAt 3).1;have p4:p.cell? ⟨s+2,4,none⟩=some (.string (bs D)):=(b.cellAt 4).1;have X:=Lib.hid b.below;have d8:=Lib.hid f7;have k6:=Lib.hid b.res;clear b f7 G d Y M q0 q1 q2 q3 q4;go_wp2_with fail
      refine bodyPost_ret (v:= .tuple #[.agg (aY ⟨I,T,f,z,D⟩ (.slice C H F)),.bool true]) (by simp [results,Tryz.results114,go_sem,aY, *]) rfl ?_;refine ⟨.inr ⟨⟨I,T,f,z,D⟩,.slice C H F,Z.out,rfl,?_,i0.out⟩,?_⟩
      ·rw [U.out,h7.out];refine World.ownsRow.mono (base:=s+3) ?_ (by omega);have hS:∀(u:World) (j:Nat) (x:Value),u.ownsRow (s+3) 9 1 (.slice C H F) k (aB z)→(u.setCell ⟨s,j,none⟩ x).ownsRow (s+3) 9 1 (.slice C H F) k (aB z):=fun u j x h=>dJ h (show aL s u _ from (aL.refl _ _).setCell _) (by omega);exact hS _ _ _ (hS _ _ _ (hS _ _ _ (hS _ _ _ (hS _ _ _ d8.out))))
      ·rw [U.out];exact ((((X.out.setCell (Nat.le_refl _) _).setCell (Nat.le_refl _) _).setCell (Nat.le_refl _) _).setCell (Nat.le_refl _) _).setCell (Nat.le_refl _) _
 ·have S:Hid (bP l=none):=Lib.hid (by
   cases l with
   | nil=>rfl
   | cons c r=>
    have A:¬c=77:=fun e=>a0 (by rw [e];rfl);unfold bP;simp only
    rw [if_neg A])
  have m1:((bs (gK ((some l).bind (bm 1)))).toList == [77])=false:=by
   rw [qM]
   cases l with
   | nil=>rfl
   | cons c r=>
    have A:¬c=77:=fun e=>a0 (by rw [e];rfl);show ([c] == [77])=false;simpa using A
  obtain ⟨t,et⟩:∃t,gK ((some l).bind (bm 1))=t:=⟨_,rfl⟩;rw [et] at m1 R;clear a0 et;go_enter Tryz.func114,Tryz.ntmps114;go_wp2_with fail
  rw [b7.out];refine R.out.mono ?_;rintro e W ⟨rfl,B,y⟩;have O:=a6.out.same y (by omega);have k0:W.cell? ⟨s,0,none⟩=some (.int .i64 0):=(O.cell 0).1;have k1:W.cell? ⟨s,1,none⟩=some (.int .i64 0):=(O.cell 1).1;have k2:W.cell? ⟨s,2,none⟩=some (.string ⟨#[]⟩):=(O.cell 2).1;have k3:W.cell? ⟨s,3,none⟩=some (.slice none 0 0):=(O.cell 3).1;have k4:W.cell? ⟨s,4,none⟩=some (.string ⟨#[]⟩):=(O.cell 4).1;have f0:=(O.cell 0).2;have f1:=(O.cell 1).2;have f2:=(O.cell 2).2;have f3:=(O.cell 3).2;have f4:=(O.cell 4).2;have h4:=Lib.hid (a4.out.trans (y.below (by omega)));clear B y O R a6 a4;go_wp2_with fail
  refine bodyPost_ret (v:= .tuple #[.agg (aY lf (.slice none 0 0)),.bool false]) (by simp [results,Tryz.results114,go_sem,lf,aY,bs, *]) rfl ?_;refine ⟨.inl ⟨S.out,rfl⟩,?_⟩;rw [U.out];exact ((((h4.out.setCell (Nat.le_refl _) _).setCell (Nat.le_refl _) _).setCell (Nat.le_refl _) _).setCell (Nat.le_refl _) _).setCell (Nat.le_refl _) _
def oe (w:World) (q:Nat) (I:Nat) (v:Value):Prop:=w.heap[q]? =some (.cells #[.int .i64 I,v] 193 (0,0))
theorem oe.cell {w:World} {q I:Nat} {v:Value} (h:oe w q I v) (j:Nat):w.cell? ⟨q,j,none⟩=(#[.int .i64 I,v]:Array Value)[j]? ∧w.frozen? ⟨q,j,none⟩=false:=
 ⟨Lib.cell_of_heap h j,Lib.frozen_of_heap h j⟩
def jv (o:Option (List UInt8)):Option (Nat×List Nat):=o.bind dq
def zO (b:Nat) (o:Option (List UInt8)) (w:World) (e:Ending) (w':World):Prop:=
 (jv o=none∧e= .returned (.tuple #[.agg #[.int .i64 0,.slice none 0 0],.bool false])∨∃id ps v,jv o=some (id,ps)∧e= .returned (.tuple #[.agg #[.int .i64 (id:Nat),v],.bool true])∧w'.ownsRow w.heap.size 3 1 v ps.length (aZ ps)∧id≤4294967295∧1≤ps.length∧ps.length≤255∧∀x∈ps,x≤255)∧sc b w w'
theorem wQ (o:Option (List UInt8)) {g i e:Option (List UInt8)} {I N:Nat} {a:List Nat} (b:gj 4 o=(I,g)) (c:gj 1 g=(N,i)) (f:iM N i=(a,e)):jv o=if e=some []∧1≤a.length∧bF a=true then some (I,a) else none:=by
 cases o with
 | none=>
  rw [kh] at b;injection b with _ b;subst b;rw [kh] at c;injection c with _ c;subst c;have:=l7 N;rw [f] at this;simp only at this;rw [if_neg (by rw [this];rintro ⟨h,_⟩;cases h)];rfl
 | some r=>
  show dq r=_;unfold dq;rw [C4 r b c f]
  by_cases h:e=some []
  ·rw [if_pos h,sb]
   by_cases d:1≤a.length∧bF a=true
   ·rw [if_pos (by simp only [Bool.and_eq_true,decide_eq_true_eq];exact d),if_pos ⟨h,d⟩]
   ·rw [if_neg (by simp only [Bool.and_eq_true,decide_eq_true_eq];exact d),if_neg (fun k=>d k.2)]
  ·rw [if_neg h,if_neg (fun k=>h k.1)];rfl
theorem sc.drewN {b:Nat} {w c:World} (h:sc b w c) (n:Nat):sc b w (c.drewN n):=
 ⟨by simpa using h.size,fun k d a=>by simpa using h.block k d a,h.still.trans (kV n c)⟩
theorem sc.setNew {b p:Nat} {w c:World} (h:sc b w c) (e:w.heap.size≤p) {j:Nat} (v:Value):sc b w (c.setCell ⟨p,j,none⟩ v):=
 ⟨by simpa using h.size,fun k d a=>(heap_setCell_other c ⟨p,j,none⟩ k v (by show k≠p;omega)).trans (h.block k d a),h.still.trans ⟨rfl,rfl,rfl⟩⟩
structure LS (w wk:World) (s b:Nat) (o:Option (List UInt8)) (I:Nat) (v:Value):Prop where
 fd:gG wk b o
 res:oe wk s 0 (.slice none 0 0)
 lv:oe wk (s+1) I v
 but:sc b w wk
 size:s+2≤wk.heap.size
theorem LS.fdStep {w e a:World} {s b I:Nat} {o d:Option (List UInt8)} {v:Value} (h:LS w e s b o I v) (i:b < s) (c:aL b e a) (f:gG a b d):LS w a s b d I v:=
 ⟨f,(c.2 s (by omega)).trans h.res,(c.2 (s+1) (by omega)).trans h.lv,h.but.trans ⟨by rw [c.1];exact Nat.le_refl _,fun k _ g=>c.2 k g,c.3⟩,by rw [c.1];exact h.size⟩
theorem LS.keep {w e c:World} {s b I:Nat} {o:Option (List UInt8)} {v:Value} (h:LS w e s b o I v) (f:b < s) (a:Below e.heap.size e c):LS w c s b o I v:=by
 have g:=h.size;exact ⟨h.fd.blk (a.block b (by omega)),(a.block s (by omega)).trans h.res,(a.block (s+1) (by omega)).trans h.lv,h.but.trans ⟨a.size,fun k d _=>a.block k d,dU.of_below a⟩,Nat.le_trans h.size a.size⟩
theorem LS.set {w c:World} {s b I I' j:Nat} {o:Option (List UInt8)} {v v' u:Value} (h:LS w c s b o I v) (i:w.heap.size≤s+1) (g:b < s) (e:(#[.int .i64 I,v]:Array Value).setIfInBounds j u=#[.int .i64 I',v']):LS w (c.setCell ⟨s+1,j,none⟩ u) s b o I' v':=by
 have a:aL (s+1) c (c.setCell ⟨s+1,j,none⟩ u):=(aL.refl _ _).setCell _;refine ⟨h.fd.same a (by omega),(a.2 s (by omega)).trans h.res,?_,⟨by rw [a.1];exact h.but.size,fun k f d=>(a.2 k (by omega)).trans (h.but.block k f d),h.but.still.trans a.3⟩,by rw [a.1];exact h.size⟩
 have:=heap_setCell_same c (s+1) j _ _ u h.lv;unfold oe;rw [this,e]
theorem LS.ofGrown {w g p l:World} {s b I n:Nat} {o:Option (List UInt8)} {v:Value} {t:List Value} (h:LS w g s b o I v) (x:w.heap.size≤s) (u:b < s) (q:g.ownsRow (s+2) 3 1 v n t) (d:Below g.heap.size g p) (c:p.grownBy l v.ownBlock):LS w l s b o I v:=by
 have y:=h.size;have f:∀j,v.ownBlock=some j→s+2≤j:=fun j r=>(q.lt j r).1
 have a:∀k,k < s+2→l.heap[k]? =g.heap[k]? :=fun k m=>by
  rw [c.block k (by have:=d.size;omega) (fun e=>by have:=f k e.symm;omega),d.block k (by omega)]
 exact ⟨h.fd.blk (a _ (by omega)),(a s (by omega)).trans h.res,(a (s+1) (by omega)).trans h.lv,⟨by have:=d.size;have:=c.size;have:=h.but.size;omega,fun k m i=>(a k (by omega)).trans (h.but.block k m i),h.but.still.trans ((dU.of_below d).trans ⟨c.os,c.tape,c.output⟩)⟩,by have:=d.size;have:=c.size;omega⟩
theorem rH (b:Nat) (o:Option (List UInt8)) (w:World) (h:gG w b o) (R:b < w.heap.size):
  Calls Tryz.prog 167 #[.pointer (some ⟨b,0,none⟩)] w (zO b o w):=by
 obtain ⟨s,hs⟩:∃s,w.heap.size=s:=⟨_,rfl⟩;rw [hs] at R;have HH:=Lib.hid h;have d:=Lib.hid hs;clear h;go_enter Tryz.func167,Tryz.ntmps167;go_wp2_with fail
 obtain ⟨X,z⟩:∃X:World,(w.alloc (.cells #[.int .i64 0,.slice none 0 0] 193)).alloc (.cells #[.int .i64 0,.slice none 0 0] 193)=X:=⟨_,rfl⟩
 have S0:LS w X s b o 0 (.slice none 0 0):=by
  have P:Below w.heap.size w X:=by rw [←z];exact ((Below.refl _ _).alloc (Nat.le_refl _) _).alloc (by simp) _
  refine ⟨HH.out.blk (P.block b (by omega)),?_,?_,⟨P.size,fun k hk _=>P.block k hk,dU.of_below P⟩,by rw [←z];simp;omega⟩
  ·unfold oe;rw [←z,←hs,((Below.refl (w.alloc (.cells #[.int .i64 0,.slice none 0 0] 193)).heap.size _).alloc (Nat.le_refl _) _).block w.heap.size (by simp)];exact heap_alloc_new w _
  ·unfold oe;rw [←z,←hs];have:=heap_alloc_new (w.alloc (.cells #[.int .i64 0,.slice none 0 0] 193)) (.cells #[.int .i64 0,.slice none 0 0] 193);simpa using this
 have U:=Lib.hid S0;rw [z];obtain ⟨I,T,hI⟩:∃I T,gj 4 o=(I,T):=⟨_,_,rfl⟩;have b5:I≤4294967295:=by have:=lZ 4 o;rw [hI] at this;simp at this;omega
 have J:Calls Tryz.prog 111 #[.pointer (some ⟨b,0,none⟩),.int .i64 4] X fun e m=>e= .returned (.int .i64 (gj 4 o).1)∧gG m b (gj 4 o).2∧aL b X m:=dZ b 4 o X U.out.fd (by decide);rw [hI] at J;have HI:=Lib.hid hI;clear hI S0 z;refine J.mono ?_;rintro e w3 ⟨rfl,Q,O⟩;have S3:=U.out.fdStep R O Q;obtain ⟨c0,f0⟩:=S3.lv.cell 0;have W:LS w (w3.setCell ⟨s+1,0,none⟩ (.int .i64 I)) s b T I (.slice none 0 0):=S3.set (by omega) R rfl;obtain ⟨W3,Y⟩:∃W3:World,w3.setCell ⟨s+1,0,none⟩ (.int .i64 I)=W3:=⟨_,rfl⟩;rw [Y] at W;have V:=Lib.hid W;have a2:=Lib.hid Y;clear Q O S3 W Y J U HH;obtain ⟨N,Z,hN⟩:∃N Z,gj 1 T=(N,Z):=⟨_,_,rfl⟩;have d4:N≤255:=by have:=lZ 1 T;rw [hN] at this;simp at this;omega
 have J:Calls Tryz.prog 111 #[.pointer (some ⟨b,0,none⟩),.int .i64 1] W3 fun e m=>e= .returned (.int .i64 (gj 1 T).1)∧gG m b (gj 1 T).2∧aL b W3 m:=dZ b 1 T W3 V.out.fd (by decide);rw [hN] at J;have HC:=Lib.hid J;have HN:=Lib.hid hN;clear J hN;go_wp2_with fail
 rw [a2.out];refine HC.out.mono ?_;rintro e w7 ⟨rfl,Q,O⟩;have a1:=Lib.hid (V.out.fdStep R O Q);clear Q O HC V a2 c0 f0;go_wp2_with fail
 obtain ⟨ii,b8,a6,a7,a8⟩:=info_parts E7;go_loopw [10] (fun i m=>∃(k:Nat) (v:Value) (f:List Nat) (p:Option (List UInt8)),k≤N∧i= .int .i64 k∧Hid (iM k Z=(f,p))∧Hid (LS w m s b p I v)∧Hid (m.ownsRow (s+2) 3 1 v k (aZ f))) (fun i _=>N - (intOf i).toNat)
 case atStart=>exact ⟨0,_,[],Z,Nat.zero_le _,rfl,Lib.hid rfl,a1,Lib.hid (World.ownsRow_nil _ _ _ _)⟩
 case round=>
  clear a1;obtain ⟨k,v,f,p,hk,rfl,L,H,HO⟩:=hrel;have a3:f.length=k:=by have:=xW k Z;rw [L.out] at this;exact this
  have B:=Lib.hid a3
  obtain ⟨r,y,rfl⟩:∃a c,v= .slice a k c:=by
   rcases HO.out.2 with ⟨e,h0⟩ | ⟨g,d2,d3,e,_⟩
   ·exact ⟨_,_,by rw [h0];exact e⟩
   ·exact ⟨_,_,e⟩
  clear a3
  by_cases d5:k < N
  ·have c7:(k:Int) < (N:Int):=by omega
   obtain ⟨x,p',hx⟩:∃x p',gj 1 p=(x,p'):=⟨_,_,rfl⟩;have a9:Hid (iM (k+1) Z=(f++[x],p')):=Lib.hid (by rw [iM,L.out];simp only [hx])
   have b1:Hid (∀m,gG m b p→Calls Tryz.prog 111 #[.pointer (some ⟨b,0,none⟩),.int .i64 1] m fun e F=>e= .returned (.int .i64 (x:Int))∧gG F b p'∧aL b m F):=Lib.hid (fun m h'=>by
    have J:Calls Tryz.prog 111 #[.pointer (some ⟨b,0,none⟩),.int .i64 1] m fun e F=>e= .returned (.int .i64 (gj 1 p).1)∧gG F b (gj 1 p).2∧aL b m F:=dZ b 1 p m h' (by decide);rw [hx] at J
    exact J)
   have Sd:Hid (LS w wr.drew s b p I (.slice r k y)):=Lib.hid (H.out.keep R ((Below.refl _ _).drew));have Od:Hid (wr.drew.ownsRow (s+2) 3 1 (.slice r k y) k (aZ f)):=Lib.hid HO.out.drew;have c3:wr.drew.cell? ⟨s+1,1,none⟩=some (.slice r k y):=(Sd.out.lv.cell 1).1;clear hx;go_wp2_with fail
   go_region_law (first
    | (refine step_append_lies _ (by rfl) _ _ _ (by rfl) (s+2) 3 ii _ 1 8 Tryz.underlying28 b8 a6 a7 a8 rfl (by decide) (.slice r k y) k (aZ f) (by rfl) (O9.out.alloc _) ⟨w9.heap.size,0,none⟩ 1 1 [.int .i64 (x:Int)] (by rfl) (by rfl) (World.news_of_block (cs:=#[.int .i64 (x:Int)]) (t:=3) (fr:=(0,0)) (heap_alloc_new w9 _)) (by simp [Value.oneCell']) (by decide) (by unfold maxLen;omega) (by omega) (by simp;omega) (w9.heap.size+1) (by simp) ?_;intro ga C G S D b6 c2;have M:=Lib.hid (S9.out.ofGrown (by rw [d.out];exact Nat.le_refl _) R O9.out ((Below.refl _ _).alloc (Nat.le_refl _) _) D);have c5:G.cell? ⟨s+1,1,none⟩=some (.slice r k y):=(M.out.lv.cell 1).1;have b4:=(M.out.lv.cell 1).2;have a0:=Lib.hid S;clear S D b6)
    | (go_simp;go_at_call 111;refine (b1.out _ Sd.out.fd).mono ?_;rintro e w9 ⟨rfl,Q,O⟩;have S9:=Lib.hid (Sd.out.fdStep R O Q);have O9:=Lib.hid (dJ Od.out O (by omega));have c9:w9.cell? ⟨s+1,1,none⟩=some (.slice r k y):=(S9.out.lv.cell 1).1;have z9:=S9.out.size;have c8:∀o:Obj,(w9.alloc o).cell? ⟨s+1,1,none⟩=some (.slice r k y):=(fun o=>(((Below.refl w9.heap.size w9).alloc (Nat.le_refl _) o).cell (aC c9)).trans c9);clear Q O;dsimp only))
   all_goals
    have b3:=Lib.hid (M.out.set (j:=1) (u:= .slice (some ⟨ga,0,none⟩) (k+1) C) (I':=I) (v':= .slice (some ⟨ga,0,none⟩) (k+1) C) (by rw [d.out];omega) R rfl);have b2:=Lib.hid (dJ a0.out (show aL (s+1) G (G.setCell ⟨s+1,1,none⟩ (.slice (some ⟨ga,0,none⟩) (k+1) C)) from (aL.refl _ _).setCell _) (by omega));clear c5 b4 a0 M;go_wp2_with fail
    exact ⟨⟨k+1,_,f++[x],p',by omega,by go_num,a9,b3,Lib.hid (by rw [wV];exact b2.out)⟩,by simp [intOf];omega⟩
  ·have c1:k=N:=by omega
   subst c1;have l:Hid (jv o=if p=some []∧1≤f.length∧bF f=true then some (I,f) else none):=Lib.hid (wQ o HI.out HN.out L.out);have a4:∀x∈f,x < 256:=by have:=Bp k Z;rw [L.out] at this;exact this
   have b0:=Lib.hid a4;have A:=Lib.hid (ue b p wr H.out.fd);have d0:wr.cell? ⟨s+1,0,none⟩=some (.int .i64 I):=(H.out.lv.cell 0).1;have d1:wr.cell? ⟨s+1,1,none⟩=some (.slice r k y):=(H.out.lv.cell 1).1;have r0:wr.cell? ⟨s,0,none⟩=some (.int .i64 0):=(H.out.res.cell 0).1;have g0:=(H.out.res.cell 0).2;have r1:wr.cell? ⟨s,1,none⟩=some (.slice none 0 0):=(H.out.res.cell 1).1;have g1:=(H.out.res.cell 1).2;have HB:=Lib.hid H.out.but;have HX:=Lib.hid H.out.lv;clear a4;go_wp2_with fail
   refine A.out.mono ?_;rintro e d6 ⟨rfl,rfl⟩
   cases hq:decide (p=some []) with
   | false=>
    have q:Hid (jv o=none):=Lib.hid (by rw [l.out,if_neg (by rintro ⟨h,_⟩;simp [h] at hq)]);clear l hq A;go_wp2_with fail
    refine bodyPost_ret (v:= .tuple #[.agg #[.int .i64 0,.slice none 0 0],.bool false]) (by simp [results,Tryz.results167,go_sem, *]) rfl ?_;exact ⟨.inl ⟨q.out,rfl⟩,(HB.out.setNew (by rw [d.out];exact Nat.le_refl _) _).setNew (by rw [d.out];exact Nat.le_refl _) _⟩
   | true=>
    by_cases a5:k=0
    ·have q:Hid (jv o=none):=Lib.hid (by rw [l.out,if_neg (by rintro ⟨_,h,_⟩;have:=B.out;omega)]);have b7:((k:Int) == 0)=true:=by rw [a5];rfl
     clear l hq A;go_wp2_with fail
     refine bodyPost_ret (v:= .tuple #[.agg #[.int .i64 0,.slice none 0 0],.bool false]) (by simp [results,Tryz.results167,go_sem, *]) rfl ?_;exact ⟨.inl ⟨q.out,rfl⟩,(HB.out.setNew (by rw [d.out];exact Nat.le_refl _) _).setNew (by rw [d.out];exact Nat.le_refl _) _⟩
    ·have b7:((k:Int) == 0)=false:=by rw [beq_eq_false_iff_ne];omega
     have E:bg wr (.slice r k y) f.length 1 (aZ f):=by rw [B.out];exact vF HO.out
     have K:=Lib.hid (zh (.slice r k y) f wr E (by have:=B.out;omega));have c6:¬k=0:=a5
     cases hR:bF f with
     | false=>
      have q:Hid (jv o=none):=Lib.hid (by rw [l.out,if_neg (by rintro ⟨_,_,h⟩;rw [hR] at h;cases h)]);rw [hR] at K;clear l hq A hR E;go_wp2_with fail
      refine K.out.mono ?_;rintro e G ⟨rfl,n,rfl⟩;go_wp2_with fail
      refine bodyPost_ret (v:= .tuple #[.agg #[.int .i64 0,.slice none 0 0],.bool false]) (by simp [results,Tryz.results167,go_sem, *]) rfl ?_;exact ⟨.inl ⟨q.out,rfl⟩,((HB.out.drewN n).setNew (by rw [d.out];exact Nat.le_refl _) _).setNew (by rw [d.out];exact Nat.le_refl _) _⟩
     | true=>
      have q:Hid (jv o=some (I,f)):=Lib.hid (by rw [l.out,if_pos ⟨by simpa using hq,by have:=B.out;omega,hR⟩]);rw [hR] at K;clear l hq A hR E;go_wp2_with fail
      refine K.out.mono ?_;rintro e G ⟨rfl,n,rfl⟩;go_wp2_with fail
      refine bodyPost_ret (v:= .tuple #[.agg #[.int .i64 I,.slice r k y],.bool true]) (by simp [results,Tryz.results167,go_sem, *]) rfl ?_;have c4:=B.out;refine ⟨.inr ⟨I,f,.slice r k y,q.out,rfl,?_,b5,by omega,by omega,fun x hx=>by have:=b0.out x hx;omega⟩,((HB.out.drewN n).setNew (by rw [d.out];exact Nat.le_refl _) _).setNew (by rw [d.out];exact Nat.le_refl _) _⟩
      rw [d.out,c4];refine World.ownsRow.mono (base:=s+2) ?_ (by omega);have hS:∀(u:World) (j:Nat) (x:Value),u.ownsRow (s+2) 3 1 (.slice r k y) k (aZ f)→(u.setCell ⟨s,j,none⟩ x).ownsRow (s+2) 3 1 (.slice r k y) k (aZ f):=fun u j x h=>dJ h (show aL s u _ from (aL.refl _ _).setCell _) (by omega);exact hS _ _ _ (hS _ _ _ (dG ((cJ.refl [] wr).drewN n) (by simp) HO.out))
theorem gD {P:Program} {w:World} {b:Array Oper} {o:Oper} {a:Act} {K:Act→World→Prop} {Q:Exit→Act→World→Prop} {E:Prop} (c:o.guard=none) (s x:Operand) (t u:TypeId)
  (e:o.op= .call {callee:= .builtin .append,args:=#[s,x],argTypes:=#[t,u]}) (v y r:Value) (d:World) (g:a.eval s=v) (j:a.eval x=y) (f:(Builtin.append_ #[t,u] o.type #[v,y]).run P w= .ok r d) (h:K (a.put o.dst r) d):
  if Region.wanted o (yielded b a.tmps)=true then Oper.wp P o a w K Q else E:=by
 have i:Region.wanted o (yielded b a.tmps)=true:=by simp [Region.wanted,c]
 rw [if_pos i];unfold Oper.wp execOp;simp only [e,resolve,invoke,builtin,Sem.run_bind,Sem.run_pure,Result.andThen_ok,List.map_toArray,List.map_cons,List.map_nil,g,j,f];exact h
structure dW where
 text:List UInt8
 has:Bool
 bad:Bool
def jP:List UInt8→List UInt8
 | []=>[]
 | x::l=>if x=46 then l else x::l
theorem vY (l:List UInt8):(jP l).length≤l.length:=by
 cases l with
 | nil=>exact Nat.le_refl _
 | cons x l=>
  show (if x=46 then l else x::l).length≤_
  split <;> simp
theorem vZ (l:List UInt8):Lib.trimPrefix l [46]=jP l:=by
 cases l with
 | nil=>rfl
 | cons x l=>
  unfold Lib.trimPrefix Lib.hasPrefix jP
  by_cases h:x=46
  ·subst h;simp [List.isPrefixOf]
  ·have:(46:UInt8)≠x:=fun e=>h e.symm;simp [List.isPrefixOf,this,h]
def dW.add (B:dW) (t:List UInt8) (isBad:Bool) (size:Int):dW:=
 if size < (B.text.length:Int) then {B with bad:=B.bad || isBad} else ⟨(if B.has then B.text++[13,10] else B.text)++jP t,true,B.bad || isBad⟩
structure gl (w:World) (bb:Nat) (vt:Value) (B:dW):Prop where
 blk:w.heap[bb]? =some (.cells #[vt,.bool B.has,.bool B.bad] 253 (0,0))
 row:w.ownsRowF 0 5 1 vt B.text.length (Lib.byteCells B.text)
theorem DE {w:World} {b i n:Nat} {e:TypeId} {v:Value} {j:List Value} (h:w.ownsRowF b e i v n j):∃a m c,v= .slice a m c:=by
 rcases h.2 with ⟨e,_⟩ | ⟨g,d,f,k,e,_⟩
 ·exact ⟨_,_,_,e⟩
 ·exact ⟨_,_,_,e⟩
theorem vC {w:World} {b j n:Nat} {e:TypeId} {v:Value} {k:List Value} (h:w.ownsRowF b e j v n k):∃a c,v= .slice a n c:=by
 rcases h.2 with ⟨e,i⟩ | ⟨g,d,f,l,e,_⟩
 ·exact ⟨none,0,by rw [e,i]⟩
 ·exact ⟨_,_,e⟩
theorem gB {w:World} {b j n g:Nat} {e:TypeId} {v:Value} {k:List Value} (h:w.ownsRowF b e j v n k) (a:v.ownBlock=some g):∃c z,w.heap[g]? =some (.cells c e z):=by
 rcases h.2 with ⟨d,_⟩ | ⟨m,f,c,l,d,_,i,_⟩
 ·rw [d] at a;cases a
 ·rw [d] at a;injection a with a;subst a;exact ⟨_,_,i⟩
theorem BA {A:Nat→Prop} {w i:World} {a f n:Nat} {e:TypeId} {v:Value} {j:List Value} (h:w.ownsRowF a e f v n j) (o:aH A w i) (p:∀g,v.ownBlock=some g→¬A g):i.ownsRowF a e f v n j:=by
 refine ⟨h.1,?_⟩
 rcases h.2 with h | ⟨g,b,c,m,d,k,l,r⟩
 ·exact .inl h
 ·exact .inr ⟨g,b,c,m,d,k,o.some_ l (p g (by rw [d];rfl)),r⟩
theorem gl.far {w:World} {a:Nat} {c:Value} {B:dW} (h:gl w a c B):c.ownBlock≠some a:=fun e=>by
 obtain ⟨d,z,b⟩:=gB h.row e;rw [h.blk] at b;simp at b
theorem gl.chg {A:Nat→Prop} {w d:World} {a:Nat} {b:Value} {B:dW} (h:gl w a b B) (c:aH A w d) (e:¬A a) (f:∀g,b.ownBlock=some g→¬A g):gl d a b B:=⟨c.some_ h.blk e,BA h.row c f⟩
theorem gl.app {w:World} {b:Nat} {g:Value} {B:dW} (h:gl w b g B) (l:List UInt8) (x:B.text.length+l.length≤140737488355328):
  ∃a n c o,(Builtin.append_ #[114,9] 114 #[g,.string (bs l)]).run Tryz.prog w= .ok (.slice a n c) o∧gl (o.setCell ⟨b,0,none⟩ (.slice a n c)) b (.slice a n c) ⟨B.text++l,B.has,B.bad⟩∧o.heap[b]? =some (.cells #[g,.bool B.has,.bool B.bad] 253 (0,0))∧aH (fun k=>g.ownBlock=some k) w o∧∀k,(Value.slice a n c).ownBlock=some k→g.ownBlock=some k∨w.heap.size≤k:=by
 obtain ⟨i,C,s,t,u⟩:=info_parts lx;have q:=aG l;obtain ⟨D,m,p,f,j,r⟩:=jW (P:=Tryz.prog) w 0 114 9 114 5 i Tryz.underlying114 Tryz.underlying9 C s t u g B.text.length (Lib.byteCells B.text) h.row (bs l) (by unfold maxLen;omega) (by omega) (Nat.zero_le _);obtain ⟨a,n,c,rfl⟩:=DE f;have d:m.heap[b]? =some (.cells #[g,.bool B.has,.bool B.bad] 253 (0,0)):=(j.block b (ah h.blk) (fun e=>h.far e.symm)).trans h.blk;refine ⟨a,n,c,m,p,⟨heap_setCell_same m b 0 _ _ _ d,?_⟩,d,aH.grown j,r⟩;have y:aL b m (m.setCell ⟨b,0,none⟩ (.slice a n c)):=(aL.refl _ _).setCell _;rw [lr,List.length_append,←q];refine kk f y (fun e=>?_);obtain ⟨A,z,v⟩:=gB f e;rw [d] at v;simp at v
theorem ED (b:Bool) (c:Nat) (n:Value) (d:List UInt8) (i:Bool) (t:List UInt8) (a:Bool) (g:Int) (w:World) (h:gl w c n ⟨d,i,b⟩) (hB:d.length≤1073741824) (ht:t.length≤1048576):
  Calls Tryz.prog 140 #[.pointer (some ⟨c,0,none⟩),.agg #[.string (bs t),.bool a],.int .i64 g] w fun e w'=>e= .returned (.tuple #[])∧∃a5,gl w' c a5 (dW.add ⟨d,i,b⟩ t a g)∧aH (fun k=>k=c∨n.ownBlock=some k) w w'∧∀k,a5.ownBlock=some k→n.ownBlock=some k∨w.heap.size≤k:=by
 obtain ⟨o,a1⟩:∃o:World,w.alloc (.cells #[.string (bs t),.bool a] 138)=o:=⟨_,rfl⟩;have T:Below w.heap.size w o:=by rw [←a1];exact (Below.refl _ _).alloc (Nat.le_refl _) _
 have I:o.heap[w.heap.size]? =some (.cells #[.string (bs t),.bool a] 138 (0,0)):=by rw [←a1];exact heap_alloc_new w _
 have bl:=ah h.blk;have p:c≠w.heap.size:=by omega
 have B:gl o c n ⟨d,i,b⟩:=h.chg (A:=fun _=>False) (aH.below T) (fun e=>e) (fun _ _ e=>e);have u:aL c o (o.setCell ⟨c,2,none⟩ (.bool (b || a))):=(aL.refl _ _).setCell _;have j:gl (o.setCell ⟨c,2,none⟩ (.bool (b || a))) c n ⟨d,i,b || a⟩:=⟨heap_setCell_same o c 2 _ _ (.bool (b || a)) B.blk,kk B.row u B.far⟩;have l0:o.cell? ⟨w.heap.size,0,none⟩=some (.string (bs t)):=by rw [Lib.cell_of_heap I];rfl
 have l1:o.cell? ⟨w.heap.size,1,none⟩=some (.bool a):=by rw [Lib.cell_of_heap I];rfl
 have c2:o.cell? ⟨c,2,none⟩=some (.bool b):=by rw [Lib.cell_of_heap B.blk];rfl
 have f2:=Lib.frozen_of_heap B.blk 2;obtain ⟨m,y⟩:∃m:World,o.setCell ⟨c,2,none⟩ (.bool (b || a))=m:=⟨_,rfl⟩;rw [y] at j u;have m0:m.cell? ⟨w.heap.size,0,none⟩=some (.string (bs t)):=(u.cell (Ne.symm p)).trans l0;have c0:m.cell? ⟨c,0,none⟩=some n:=by rw [Lib.cell_of_heap j.blk];rfl
 have c1:m.cell? ⟨c,1,none⟩=some (.bool i):=by rw [Lib.cell_of_heap j.blk];rfl
 have f0:=Lib.frozen_of_heap j.blk 0;have f1:=Lib.frozen_of_heap j.blk 1;obtain ⟨av,cv,ev⟩:=vC j.row;simp only at ev;have J:m.heap[w.heap.size]? =some (.cells #[.string (bs t),.bool a] 138 (0,0)):=(u.2 _ (Ne.symm p)).trans I;have R:aH (fun k=>k=c∨n.ownBlock=some k) w m:=(aH.below T).trans (aH.same u) (fun _ _ e=> .inl e);have b5:w.heap.size < m.heap.size:=by rw [u.1];exact ah I
 have a6:=Lib.hid j;have V:=Lib.hid R;have b3:=Lib.hid J;have Z:=Lib.hid (vY t)
 have a0:Hid (∀W:World,Calls Tryz.prog 197 #[.string (bs t),.string ⟨#[46]⟩] W fun e w'=>e= .returned (.string (bs (jP t)))∧W=w'):=Lib.hid (fun W=>(Tryz.strings_TrimPrefix (bs t) ⟨#[46]⟩ W).mono (by
  rintro e w' ⟨rfl,rfl⟩
  exact ⟨by rw [←vZ];rfl,rfl⟩))
 by_cases O:g < (d.length:Int)
 ·have X:Hid (dW.add ⟨d,i,b⟩ t a g=⟨d,i,b || a⟩):=Lib.hid (by simp [dW.add,O]);clear h B j T I u J R;subst ev
  cases b
  all_goals
   simp only [Bool.true_or,Bool.false_or] at y;go_enter Tryz.func140,Tryz.ntmps140;go_wp2_with fail
   refine bodyPost_ret (v:= .tuple #[]) (by simp [results,Tryz.results140,go_sem]) rfl ?_;exact ⟨rfl,_,by rw [X.out];exact a6.out,V.out,fun k e=> .inl e⟩
 ·cases i with
  | false=>
   have X:Hid (dW.add ⟨d,false,b⟩ t a g=⟨d++jP t,true,b || a⟩):=Lib.hid (by simp [dW.add,O]);have s:gl (m.setCell ⟨c,1,none⟩ (.bool true)) c n ⟨d,true,b || a⟩:=⟨heap_setCell_same m c 1 _ _ (.bool true) j.blk,kk j.row ((aL.refl _ _).setCell _) j.far⟩;have x:aL c m (m.setCell ⟨c,1,none⟩ (.bool true)):=(aL.refl _ _).setCell _;obtain ⟨f,M⟩:∃f:World,m.setCell ⟨c,1,none⟩ (.bool true)=f:=⟨_,rfl⟩;rw [M] at s x;have X2:f.heap[w.heap.size]? =some (.cells #[.string (bs t),.bool a] 138 (0,0)):=(x.2 _ (Ne.symm p)).trans J;have n0:f.drew.cell? ⟨w.heap.size,0,none⟩=some (.string (bs t)):=by show f.cell? _=_;rw [Lib.cell_of_heap X2];rfl
   have d0:f.drew.cell? ⟨c,0,none⟩=some n:=by show f.cell? _=_;rw [Lib.cell_of_heap s.blk];rfl
   obtain ⟨a3,n3,c3,C,q,U,l,K3,r⟩:=gl.app (w:=f.drew) (s.chg (A:=fun _=>False) (aH.below ((Below.refl _ _).drew)) (fun e=>e) (fun _ _ e=>e)) (jP t) (by simp only;have:=Z.out;omega);have d3:C.cell? ⟨c,0,none⟩=some n:=by rw [Lib.cell_of_heap l];rfl
   have f3:=Lib.frozen_of_heap l 0;have Y:=Lib.hid x;have F:=Lib.hid U;have a7:=Lib.hid K3;have G:=Lib.hid q;have H:=Lib.hid r;clear h B j T I u J R s x X2 U K3 q r l;subst ev
   cases b
   all_goals
    simp only [Bool.true_or,Bool.false_or] at y;go_enter Tryz.func140,Tryz.ntmps140;go_wp2_with fail
    go_region_law (first
     | (refine gD rfl _ _ 114 9 rfl _ _ _ C rfl rfl G.out ?_)
     | (go_simp;go_at_call 197;refine (a0.out f.drew).mono ?_;rintro e w9 ⟨rfl,rfl⟩;dsimp only))
    all_goals
     go_wp2_with fail
     refine bodyPost_end (results_none rfl _ _ _) rfl ?_;refine ⟨rfl,_,by rw [X.out];exact F.out,?_,?_⟩
     ·exact ((V.out.trans (aH.same Y.out) (fun _ _ e=> .inl e)).trans ((aH.below ((Below.refl _ _).drew)).trans a7.out (fun k _ e=>e):aH (fun k=>(Value.slice av d.length cv).ownBlock=some k) f C) (fun _ _ e=> .inr e)).trans (aH.same ((aL.refl _ _).setCell _)) (fun _ _ e=> .inl e)
     ·exact fun k e=>(H.out k e).imp id (fun e=>by have:=Y.out.1;have:f.heap.size≤k:=e;omega)
  | true=>
   have X:Hid (dW.add ⟨d,true,b⟩ t a g=⟨d++[13,10]++jP t,true,b || a⟩):=Lib.hid (by simp [dW.add,O]);obtain ⟨K,Q,L,S,a2,E,N,K4,P⟩:=j.app [13,10] (by simp only [List.length_cons,List.length_nil];omega);have d4:S.cell? ⟨c,0,none⟩=some n:=by rw [Lib.cell_of_heap N];rfl
   have f4:=Lib.frozen_of_heap N 0;have S5:aL c S (S.setCell ⟨c,0,none⟩ (.slice K Q L)):=(aL.refl _ _).setCell _;obtain ⟨D,b0⟩:∃D:World,S.setCell ⟨c,0,none⟩ (.slice K Q L)=D:=⟨_,rfl⟩;rw [b0] at E S5;have d5:D.cell? ⟨c,1,none⟩=some (.bool true):=by rw [Lib.cell_of_heap E.blk];rfl
   have f5:=Lib.frozen_of_heap E.blk 1;have s:gl (D.setCell ⟨c,1,none⟩ (.bool true)) c (.slice K Q L) ⟨d++[13,10],true,b || a⟩:=⟨heap_setCell_same D c 1 _ _ (.bool true) E.blk,kk E.row ((aL.refl _ _).setCell _) E.far⟩;have x:aL c D (D.setCell ⟨c,1,none⟩ (.bool true)):=(aL.refl _ _).setCell _;obtain ⟨f,M⟩:∃f:World,D.setCell ⟨c,1,none⟩ (.bool true)=f:=⟨_,rfl⟩;rw [M] at s x;have K2:aH (fun k=>k=c∨n.ownBlock=some k) w f:=((R.trans K4 (fun _ _ e=> .inr e)).trans (aH.same S5) (fun _ _ e=> .inl e)).trans (aH.same x) (fun _ _ e=> .inl e)
   have X4:S.heap[w.heap.size]? =some (.cells #[.string (bs t),.bool a] 138 (0,0)):=K4.some_ J (fun e=>by
    obtain ⟨b4,z,h1⟩:=gB j.row e;rw [J] at h1
    simp at h1)
   have X2:f.heap[w.heap.size]? =some (.cells #[.string (bs t),.bool a] 138 (0,0)):=(x.2 _ (Ne.symm p)).trans ((S5.2 _ (Ne.symm p)).trans X4);have n0:f.drew.cell? ⟨w.heap.size,0,none⟩=some (.string (bs t)):=by show f.cell? _=_;rw [Lib.cell_of_heap X2];rfl
   have d0:f.drew.cell? ⟨c,0,none⟩=some (.slice K Q L):=by show f.cell? _=_;rw [Lib.cell_of_heap s.blk];rfl
   obtain ⟨a3,n3,c3,C,q,U,l,K3,r⟩:=gl.app (w:=f.drew) (s.chg (A:=fun _=>False) (aH.below ((Below.refl _ _).drew)) (fun e=>e) (fun _ _ e=>e)) (jP t) (by simp only [List.length_append,List.length_cons,List.length_nil];have:=Z.out;omega);have d3:C.cell? ⟨c,0,none⟩=some (.slice K Q L):=by rw [Lib.cell_of_heap l];rfl
   have f3:=Lib.frozen_of_heap l 0;have b2:w.heap.size≤f.heap.size:=K2.size;have b1:w.heap.size≤m.heap.size:=R.size;have KF:aH (fun k=>k=c∨n.ownBlock=some k) w C:=K2.trans ((aH.below ((Below.refl _ _).drew)).trans K3 (fun k _ e=>e):aH (fun k=>(Value.slice K Q L).ownBlock=some k) f C) (fun k hk e=>(P k e).elim (fun e=> .inr e) (fun e=>absurd hk (by omega)));have H:Hid (∀k,(Value.slice a3 n3 c3).ownBlock=some k→n.ownBlock=some k∨w.heap.size≤k):=Lib.hid (fun k e=>(r k e).elim (fun e=>(P k e).imp id (fun e=>by omega)) (fun e=> .inr (by have:f.heap.size≤k:=e;omega)));have F:=Lib.hid U;have a8:=Lib.hid KF;have G:=Lib.hid q;have a9:=Lib.hid a2;clear h B j T I u J R s x X2 U K3 q r l E N K4 P a2 S5 K2 X4 KF;subst ev
   cases b
   all_goals
    simp only [Bool.true_or,Bool.false_or] at y;go_enter Tryz.func140,Tryz.ntmps140
    go_wp2_with (first
     | (at_builtin;refine iX rfl _ _ 114 9 rfl _ (.slice K Q L) (bs [13,10]) S rfl rfl a9.out ?_)
     | fail)
    go_region_law (first
     | (refine gD rfl _ _ 114 9 rfl _ _ _ C rfl rfl G.out ?_)
     | (go_simp;go_at_call 197;refine (a0.out f.drew).mono ?_;rintro e w9 ⟨rfl,rfl⟩;dsimp only))
    all_goals
     go_wp2_with fail
     refine bodyPost_end (results_none rfl _ _ _) rfl ?_;exact ⟨rfl,_,by rw [X.out];exact F.out,a8.out.trans (aH.same ((aL.refl _ _).setCell _)) (fun _ _ e=> .inl e),H.out⟩
theorem Ah (c:Nat) (f:Value) (B:dW) (t:List UInt8) (a:Bool) (b:Int) (w:World) (h:gl w c f B) (m:B.text.length≤1073741824) (n:t.length≤1048576):
  Calls Tryz.prog 140 #[.pointer (some ⟨c,0,none⟩),.agg #[.string (bs t),.bool a],.int .i64 b] w fun e l=>e= .returned (.tuple #[])∧∃d,gl l c d (B.add t a b)∧aH (fun k=>k=c∨f.ownBlock=some k) w l∧∀k,d.ownBlock=some k→f.ownBlock=some k∨w.heap.size≤k:=by
 obtain ⟨j,i,g⟩:=B;exact ED g c f j i t a b w h m n
theorem zW (s:ByteArray) (m:Int) (w:World) (g:s.size≤140737488355328) (d:w.cell? ⟨0,0,none⟩=some (.int .i64 m)):
  Calls Tryz.prog 86 #[.string s] w (jR s.data.toList w):=by
 go_enter Tryz.func86,Tryz.ntmps86;go_wp2_with fail
 refine (vz s m _ g d).mono ?_;rintro e h ⟨x,y,f,rfl,a,c⟩;have b:=Lib.hid a;clear a;go_wp2_with fail
 go_ret3
 exact jR.mk _ _ _ rfl b.out c
end Go.Proofs.YtofpegbpgkkgkaaGreatDoor
