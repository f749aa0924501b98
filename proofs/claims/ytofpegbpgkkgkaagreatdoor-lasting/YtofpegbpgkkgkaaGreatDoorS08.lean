import Derived.Test.YtofpegbpgkkgkaaGreatDoorS04
import Derived.Test.YtofpegbpgkkgkaaGreatDoorS05
import Derived.Test.YtofpegbpgkkgkaaGreatDoorS03
namespace Go.Proofs.YtofpegbpgkkgkaaGreatDoor
set_option maxHeartbeats 8000000
set_option maxRecDepth 1000000
open Go.RowKit
def dL (w:World) (q time:Nat) (frm:List UInt8) (v:Value) (body:List UInt8) (x:Int×Int):Prop:=w.heap[q]? =some (.cells #[.int .i64 time,.string (bs frm),v,.string (bs body),.int .i64 x.1,.int .i64 x.2] 158 (0,0))
def aR (l:List (Nat×List UInt8)):List Value:=l.flatMap fun x=>[.int .i64 x.1,.string (bs x.2)]
theorem lR:(Tryz.prog.info? 162).map (fun i=>(i.zero,i.size,i.bytes))=some (some (.agg #[.int .i64 0,.string ⟨#[]⟩]),2,24):=by kernel_rfl
theorem nH (a:List (List UInt8)):stay a (List.replicate a.length false)=(List.range a.length).map fun i=>(i,a.getD i []):=by
 unfold stay iW;rw [List.length_replicate]
 congr 1
 rw [List.filter_eq_self];intro i b;have:=List.mem_range.1 b;simp [List.getD_eq_getElem?_getD,this]
theorem oE (l:List (Nat×List UInt8)) (x:Nat×List UInt8):aR (l++[x])=aR l++[.int .i64 x.1,.string (bs x.2)]:=by simp [aR]
theorem kc (l:List (Nat×List UInt8)):(aR l).length=l.length * 2:=by
 induction l with
 | nil=>rfl
 | cons x l ih=>show ([_,_]++aR l).length=_;rw [List.length_append,ih];simp;omega
def mT (tos:List (List UInt8)) (k:Nat):List (Nat×List UInt8):=(List.range k).map fun i=>(i,tos.getD i [])
theorem AE (a:List (List UInt8)) (k:Nat):mT a (k+1)=mT a k++[(k,a.getD k [])]:=by simp [mT,List.range_succ]
theorem CG (a:List (List UInt8)) (k:Nat):(mT a k).length=k:=by simp [mT]
theorem IM {D:Array Value} {k n:Nat} {b:List Value} {x y:Value} (f:D.size=n * 2) (g:k < n) (e:b.length=k * 2) (h:D.toList.take (k * 2)=b):((D.setIfInBounds (k * 2) x).setIfInBounds (k * 2+1) y).toList.take ((k+1) * 2)=b++[x,y]:=by
 apply List.ext_getElem?;intro j;rw [List.getElem?_take];have d:∀i,D.toList[i]? =D[i]? :=fun i=>Array.getElem?_toList
 rcases Nat.lt_or_ge j (k * 2) with c | c
 ·rw [if_pos (by omega),List.getElem?_append_left (by omega),Array.getElem?_toList,Array.getElem?_setIfInBounds_ne (by omega),Array.getElem?_setIfInBounds_ne (by omega),←h,List.getElem?_take,if_pos c,d]
 ·rw [List.getElem?_append_right (by omega),e]
  rcases Nat.lt_or_ge j (k * 2+2) with a | a
  ·rw [if_pos (by omega),Array.getElem?_toList];obtain rfl | rfl:j=k * 2∨j=k * 2+1:=by omega
   ·rw [Array.getElem?_setIfInBounds_ne (by omega),Array.getElem?_setIfInBounds];simp;omega
   ·rw [Array.getElem?_setIfInBounds];rw [if_pos rfl];simp;omega
  ·rw [if_neg (by omega),List.getElem?_eq_none (by simp;omega)]
theorem rN (j:aX) (v:Value) (w:World) (h:bg w v j.tos.length 1 (aB j.tos)) (hz:dQ j):
  Calls Tryz.prog 220 #[.agg (aY j v)] w fun e z=>∃q g,e= .returned (.pointer (some ⟨q,0,none⟩))∧dL z q j.time j.frm (.slice (some ⟨g,0,none⟩) j.tos.length j.tos.length) j.body (j.time,0)∧w.heap.size≤q∧z.ownsRow w.heap.size 162 2 (.slice (some ⟨g,0,none⟩) j.tos.length j.tos.length) j.tos.length (aR (stay j.tos (List.replicate j.tos.length false)))∧Below w.heap.size w z:=by
 obtain ⟨E,f,l,c,d⟩:=j;obtain ⟨z1,z2,z3,z4,V,z6⟩:=hz;simp only at h z1 z2 z3 z4 V z6;obtain ⟨a,n,rfl,Z⟩:=h.one;simp only [aY];have HC:=Lib.hid Z;have T:=fun z=>Dc (P:=Tryz.prog) Tryz.underlying102 lR c.length (by omega) (by omega) z;obtain ⟨C,M⟩:∃C,madeCells (Value.agg #[.int .i64 0,.string ⟨#[]⟩]).cells (c.length * 2)=C:=⟨_,rfl⟩;have N:C.size=c.length * 2:=by rw [←M];simp [madeCells]
 rw [M] at T;obtain ⟨s,J⟩:∃s,w.heap.size=s:=⟨_,rfl⟩;obtain ⟨A,o⟩:∃A:World,(w.alloc (.cells #[.int .i64 E,.int .i64 f,.string (bs l),.slice a c.length n,.string (bs d)] 45)).alloc (.cells C 162)=A:=⟨_,rfl⟩;have H:Below s w (w.alloc (.cells #[.int .i64 E,.int .i64 f,.string (bs l),.slice a c.length n,.string (bs d)] 45)):=(Below.refl _ _).alloc (by omega) _;have B0:Hid (Below s w A):=Lib.hid (by rw [←o];exact H.alloc (by simp;omega) _)
 have X0:Hid (gu A s E f l (.slice a c.length n) d):=Lib.hid (by
  unfold gu;rw [←o,←J,((Below.refl (w.alloc (.cells #[.int .i64 E,.int .i64 f,.string (bs l),.slice a c.length n,.string (bs d)] 45)).heap.size _).alloc (Nat.le_refl _) _).block w.heap.size (by simp)]
  exact heap_alloc_new w _)
 have G0:Hid (A.heap[s+1]? =some (.cells C 162 (0,0))):=Lib.hid (by
  rw [←o,←J];have:=heap_alloc_new (w.alloc (.cells #[.int .i64 E,.int .i64 f,.string (bs l),.slice a c.length n,.string (bs d)] 45)) (.cells C 162)
  simpa using this)
 have Z0:Hid (A.heap.size=s+2):=Lib.hid (by rw [←o,←J];simp);have K:=Lib.hid o;have p:=Lib.hid J;have a1:=Lib.hid V;clear h Z V H o M;go_enter Tryz.func220,Tryz.ntmps220;go_wp2_with fail
 rw [K.out];go_loopw [13] (fun i z=>∃(k:Nat) (D:Array Value),k≤c.length∧i= .int .i64 k∧D.size=c.length * 2∧Hid (D.toList.take (k * 2)=aR (mT c k))∧Hid (z.heap[s+1]? =some (.cells D 162 (0,0)))∧Hid (aL (s+1) A z)) (fun i _=>c.length - (intOf i).toNat)
 case atStart=>exact ⟨0,C,Nat.zero_le _,rfl,N,Lib.hid rfl,G0,Lib.hid (aL.refl _ _)⟩
 case round=>
  obtain ⟨k,D,hk,rfl,O,X,B,I⟩:=hrel;have W:Hid (Below s w wr):=Lib.hid (B0.out.trans (I.out.below (by omega)))
  by_cases r:k < c.length
  ·have a0:(k:Int) < (c.length:Int):=by omega
   obtain ⟨b,U,rfl,Q,m⟩:=HC.out k r;rw [eh c k r] at m;have R:wr.cell? ⟨b,U+k,none⟩=some (.string (bs c[k])):=(W.out.cell (by show b < s;rw [←p.out];exact Q)).trans m;have F:Hid (mT c (k+1)=mT c k++[(k,c[k])]):=Lib.hid (by rw [AE,List.getD_eq_getElem?_getD,List.getElem?_eq_getElem r];rfl);obtain ⟨t,Y⟩:∃t,c[k]=t:=⟨_,rfl⟩;rw [Y] at R F;have x0:∃u,wr.cell? ⟨s+1,k * 2,none⟩=some u:=by rw [Lib.cell_of_heap B.out];exact ⟨_,Array.getElem?_eq_getElem (by omega)⟩
   have x1:∃u,wr.cell? ⟨s+1,k * 2+1,none⟩=some u:=by rw [Lib.cell_of_heap B.out];exact ⟨_,Array.getElem?_eq_getElem (by omega)⟩
   obtain ⟨u0,x0⟩:=x0;obtain ⟨u1,x1⟩:=x1;have y0:=Lib.frozen_of_heap B.out (k * 2);have y1:=Lib.frozen_of_heap B.out (k * 2+1);have HN:=Lib.hid (IM (x:= .int .i64 k) (y:= .string (bs t)) O r (by rw [kc,CG]) X.out);clear Y m;go_wp2_with fail
   have h1:=heap_setCell_same wr (s+1) (k * 2) _ _ (.int .i64 k) B.out;have h2:=heap_setCell_same _ (s+1) (k * 2+1) _ _ (.string (bs t)) h1;exact ⟨⟨k+1,_,by omega,by go_num,by simp [O],Lib.hid (by rw [HN.out,F.out,oE]),Lib.hid h2,Lib.hid ((I.out.setCell _).setCell _)⟩,by simp [intOf];omega⟩
  ·have S:k=c.length:=by omega
   subst S;have L:Hid (gu wr s E f l (.slice a c.length n) d):=Lib.hid (X0.out.same I.out (by omega));have k1:wr.cell? ⟨s,1,none⟩=some (.int .i64 f):=(L.out.cell 1).1;have k2:wr.cell? ⟨s,2,none⟩=some (.string (bs l)):=(L.out.cell 2).1;have k4:wr.cell? ⟨s,4,none⟩=some (.string (bs d)):=(L.out.cell 4).1;have z9:wr.heap.size=s+2:=I.out.1.trans Z0.out;have G:=Lib.hid z9;go_wp2_with fail
   go_ret;refine ⟨s+2,s+1,?_,?_,by rw [p.out];omega,?_,?_⟩
   ·rfl
   ·unfold dL;rw [←G.out];exact heap_alloc_new wr _
   ·rw [p.out];refine World.ownsRow.alloc ?_ _;refine ⟨by rw [kc,nH];simp,.inr ⟨s+1,c.length,D,rfl,by omega,B.out,Nat.le_refl _,by unfold maxLen;omega,O,?_⟩⟩
    rw [X.out,nH];rfl
   ·rw [p.out];exact W.out.alloc (by rw [G.out];omega) _
theorem lY (l:List Nat) (k:Nat) (h:k < l.length):(aZ l)[k]? =some (.int .i64 (l[k]:Int)):=by simp [aZ,h]
theorem wX {l:List Nat} {t:Nat} {k:Nat} (b:k < l.length) (h:t ∉ l.take k) (c:¬t=l[k]):t ∉ l.take (k+1):=by
 rw [List.take_succ_eq_append_getElem b,List.mem_append,List.mem_singleton];rintro (a | a)
 ·exact h a
 ·exact c a
theorem ze (l:List Nat) (t:Nat) (v:Value) (w:World) (h:bg w v l.length 1 (aZ l)) (z:l.length≤255):
  Calls Tryz.prog 283 #[v,.int .i64 (t:Int)] w fun e x=>∃r:Int,e= .returned (.int .i64 r)∧(-1≤r∧r≤255)∧(0≤r ↔ t∈l)∧w=x:=by
 obtain ⟨a,q,rfl,n⟩:=h.one;have p:=Lib.hid n;clear n h;go_enter Tryz.func283,Tryz.ntmps283;go_wp2_with fail
 go_loop [8] (fun i=>∃k:Nat,k≤l.length∧i= .int .i64 k∧Hid (t ∉ l.take k)) (fun i=>l.length - (intOf i).toNat)
 case atStart=>exact ⟨0,Nat.zero_le _,rfl,Lib.hid (by simp)⟩
 case round=>
  obtain ⟨k,y,rfl,m⟩:=hrel
  by_cases c:k < l.length
  ·have o:(k:Int) < (l.length:Int):=by omega
   obtain ⟨b,u,rfl,_,d⟩:=p.out k c;rw [lY l k c] at d
   by_cases g:t=l[k]
   ·have s:((t:Int) == (l[k]:Int))=true:=by rw [g];simp
    have f:Hid (t∈l):=Lib.hid (by rw [g];exact List.getElem_mem c);clear g;go_wp2_with fail
    go_ret;exact ⟨_,rfl,by omega,⟨fun _=>f.out,fun _=>by omega⟩,rfl⟩
   ·have s:((t:Int) == (l[k]:Int))=false:=by rw [beq_eq_false_iff_ne];omega
    have f:=Lib.hid (wX c m.out g);clear g;go_wp2_with fail
    exact ⟨⟨k+1,by omega,by go_num,f⟩,by simp [intOf];omega⟩
  ·have j:k=l.length:=by omega
   subst j
   have f:Hid (t ∉ l):=Lib.hid (by
    have:=m.out
    rwa [List.take_length] at this)
   go_wp2_with fail
   go_ret;exact ⟨_,rfl,by omega,⟨fun h=>by omega,fun h=>absurd h f.out⟩,rfl⟩
theorem sv (l:List Nat) (t:Nat) (v:Value) (w:World) (h:bg w v l.length 1 (aZ l)) (g:l.length≤255):
  Calls Tryz.prog 259 #[v,.int .i64 (t:Int)] w fun e i=>e= .returned (.bool (l.contains t))∧w=i:=by
 have c:=ze l t v w h g;obtain ⟨a,f,rfl,_⟩:=h.one;clear h;go_enter Tryz.func259,Tryz.ntmps259;go_wp2_with fail
 refine c.mono ?_;rintro e k ⟨r,rfl,j,b,rfl⟩;have d:Hid (decide (0≤r)=l.contains t):=Lib.hid (by rw [Bool.eq_iff_iff,decide_eq_true_iff,List.contains_iff_mem];exact b);clear b c;go_wp2_with fail
 go_ret;exact ⟨cG d.out,rfl⟩
theorem dP (l:List (Nat×List UInt8)) (k:Nat) (h:k < l.length):(aR l)[k * 2]? =some (.int .i64 (l[k].1:Int))∧(aR l)[k * 2+1]? =some (.string (bs l[k].2)):=by
 induction l generalizing k with
 | nil=>simp at h
 | cons x l ih=>
  show ([Value.int .i64 (x.1:Int),.string (bs x.2)]++aR l)[k * 2]? =_∧([Value.int .i64 (x.1:Int),.string (bs x.2)]++aR l)[k * 2+1]? =_
  cases k with
  | zero=>exact ⟨rfl,rfl⟩
  | succ k=>
   have:=ih k (by simpa using h);rw [List.getElem?_append_right (by simp only [List.length_cons,List.length_nil];omega),List.getElem?_append_right (by simp only [List.length_cons,List.length_nil];omega)];simp only [List.length_cons,List.length_nil];rw [show (k+1) * 2 - (0+1+1)=k * 2 by omega,show (k+1) * 2+1 - (0+1+1)=k * 2+1 by omega]
   exact this
def dx (l:List (Nat×List UInt8)) (ps:List Nat):List (List UInt8):=(l.filter fun r=>ps.contains r.1).map (·.2)
def bM (l:List (Nat×List UInt8)) (ps:List Nat):List (Nat×List UInt8):=l.filter fun r=> !(ps.contains r.1)
theorem FE (l:List (Nat×List UInt8)) (a:List Nat) (k:Nat) (h:k < l.length):(a.contains l[k].1=true→dx (l.take (k+1)) a=dx (l.take k) a++[l[k].2]∧bM (l.take (k+1)) a=bM (l.take k) a)∧(a.contains l[k].1=false→dx (l.take (k+1)) a=dx (l.take k) a∧bM (l.take (k+1)) a=bM (l.take k) a++[l[k]]):=by
 unfold dx bM;rw [List.take_succ_eq_append_getElem h,List.filter_append,List.filter_append]
 constructor
 ·intro e;simp only [List.filter_cons,e,List.filter_nil,Bool.not_true,if_true,Bool.false_eq_true,if_false,List.append_nil,List.map_append];exact ⟨rfl,trivial⟩
 ·intro e;simp only [List.filter_cons,e,List.filter_nil,Bool.not_false,if_true,Bool.false_eq_true,if_false,List.append_nil];exact ⟨trivial,trivial⟩
theorem mV (l:List (Nat×List UInt8)) (a:List Nat):(dx l a).length≤l.length:=by unfold dx;rw [List.length_map];exact List.length_filter_le _ _
theorem Iz (l:List (Nat×List UInt8)) (a:List Nat):(bM l a).length≤l.length:=List.length_filter_le _ _
theorem Eg {i s f:World} {a n m B d:Nat} {e j:TypeId} {x y:Value} {C t:List Value} (A:i.ownsRow a e B x n C) (r:i.ownsRow a j d y m t) (o:j≠e) (w:Below i.heap.size i s) (b:s.grownBy f x.ownBlock):f.ownsRow a j d y m t:=by
 refine (dG (cJ.below (ts:=[]) w) (by simp) r).kept b ?_
 rcases r.2 with ⟨h,_⟩ | ⟨g,u,v,h,_,z,_⟩
 ·subst h;exact .inl rfl
 ·refine .inr fun c=>?_
  rcases A.2 with ⟨k,_⟩ | ⟨D,p,q,k,_,l,_⟩
  ·rw [k,h] at c;cases c
  ·rw [k,h] at c;injection c with c;exact DQ z l o c
theorem oA (C q y:Nat) (J p:List UInt8) (v vp:Value) (l:List (Nat×List UInt8)) (d:List Nat) (x:Int×Int) (w:World) (h:dL w q y J v p x) (_:C≤q) (hv:w.ownsRow C 162 2 v l.length (aR l)) (hp:bg w vp d.length 1 (aZ d)) (hl:l.length≤255) (b5:d.length≤255):
  Calls Tryz.prog 223 #[.pointer (some ⟨q,0,none⟩),vp] w fun e D=>∃vn vs,e= .returned vn∧D.ownsRow w.heap.size 9 1 vn (dx l d).length (aB (dx l d))∧dL D q y J vs p x∧D.ownsRow w.heap.size 162 2 vs (bM l d).length (aR (bM l d))∧sc q w D:=by
 obtain ⟨a,I,rfl,_⟩:=hp.one;have HP:=Lib.hid hp;have HV:=Lib.hid hv;have HH:=Lib.hid h;have k2:w.cell? ⟨q,2,none⟩=some v:=by rw [Lib.cell_of_heap h];rfl
 obtain ⟨av,cv,rfl⟩:∃a c,v= .slice a l.length c:=by
  rcases hv.2 with ⟨e,h0⟩ | ⟨g,I,W,e,_⟩
  ·exact ⟨_,_,by rw [h0];exact e⟩
  ·exact ⟨_,_,e⟩
 obtain ⟨s,hs⟩:∃s,w.heap.size=s:=⟨_,rfl⟩;have f:=Lib.hid hs;obtain ⟨is,b2,a5,a6,a7⟩:=info_parts nR;obtain ⟨ir,b1,a2,a3,a4⟩:=info_parts lR;have N:q < s:=by rw [←hs];exact sZ h
 clear h hv hp hs;go_enter Tryz.func223,Tryz.ntmps223;go_wp2_with fail
 go_loopw [5,6,14] (fun vn vs i D=>∃k:Nat,k≤l.length∧i= .int .i64 k∧Hid (D.ownsRow s 9 1 vn (dx (l.take k) d).length (aB (dx (l.take k) d)))∧Hid (D.ownsRow s 162 2 vs (bM (l.take k) d).length (aR (bM (l.take k) d)))∧Hid (Below s w D)) (fun _ _ i _=>l.length - (intOf i).toNat)
 case atStart=>exact ⟨0,Nat.zero_le _,rfl,Lib.hid (World.ownsRow_nil _ _ _ _),Lib.hid (World.ownsRow_nil _ _ _ _),Lib.hid (by rw [←f.out];exact Below.refl _ _)⟩
 case round=>
  obtain ⟨k,O,rfl,S,n,z⟩:=hrel
  by_cases M:k < l.length
  ·have b8:(k:Int) < (l.length:Int):=by omega
   have m:=Lib.hid (FE l d k M);have Y:=mV (l.take k) d;have Z:=Iz (l.take k) d;rw [List.length_take] at Y Z;obtain ⟨G,eG⟩:∃G,dx (l.take k) d=G:=⟨_,rfl⟩;obtain ⟨R,eR⟩:∃R,bM (l.take k) d=R:=⟨_,rfl⟩;rw [eG] at S Y m;rw [eR] at n Z m
   obtain ⟨g,rfl,c0,c1⟩:∃g,av=some ⟨g,0,none⟩∧w.cell? ⟨g,k * 2,none⟩=some (.int .i64 (l[k].1:Int))∧w.cell? ⟨g,k * 2+1,none⟩=some (.string (bs l[k].2)):=by
    rcases HV.out.2 with ⟨_,h0⟩ | ⟨g,cp,W,e,_,hg,_,_,_,a0⟩
    ·omega
    ·injection e with e1 _ _;refine ⟨g,e1,?_,?_⟩
     ·rw [Lib.cell_of_heap hg,←Array.getElem?_toList,←List.getElem?_take_of_lt (show k * 2 < l.length * 2 by omega),a0];exact (dP l k M).1
     ·rw [Lib.cell_of_heap hg,←Array.getElem?_toList,←List.getElem?_take_of_lt (show k * 2+1 < l.length * 2 by omega),a0];exact (dP l k M).2
   have d0:wr.cell? ⟨g,k * 2,none⟩=some (.int .i64 (l[k].1:Int)):=(z.out.cell (by show g < s;rw [←f.out];exact aC c0)).trans c0;have d1:wr.cell? ⟨g,k * 2+1,none⟩=some (.string (bs l[k].2)):=(z.out.cell (by show g < s;rw [←f.out];exact aC c1)).trans c1;obtain ⟨x,ex⟩:∃x,l[k]=x:=⟨_,rfl⟩;rw [ex] at d0 d1 m;obtain ⟨P,T⟩:=x;simp only at d0 d1;have b7:s≤wr.heap.size:=by have:=z.out.size;have:=f.out;omega
   obtain ⟨o,B⟩:∃o:World,wr.alloc (.cells #[.int .i64 (P:Int),.string (bs T)] 162)=o:=⟨_,rfl⟩;have r:Below wr.heap.size wr o:=by rw [←B];exact (Below.refl _ _).alloc (Nat.le_refl _) _
   have L:o.heap[wr.heap.size]? =some (.cells #[.int .i64 (P:Int),.string (bs T)] 162 (0,0)):=by rw [←B];exact heap_alloc_new wr _
   have p0:o.cell? ⟨wr.heap.size,0,none⟩=some (.int .i64 (P:Int)):=by rw [Lib.cell_of_heap L];rfl
   have p1:o.cell? ⟨wr.heap.size,1,none⟩=some (.string (bs T)):=by rw [Lib.cell_of_heap L];rfl
   have BW:Hid (Below s w o):=Lib.hid (z.out.trans (r.mono b7));have A:=Lib.hid (sv d P (.slice a d.length I) o (HP.out.below (by rw [f.out];exact BW.out)) b5);have F:=dG (cJ.below (ts:=[]) r) (by simp) S.out;have H:=dG (cJ.below (ts:=[]) r) (by simp) n.out;have a1:s≤o.heap.size:=by have:=r.size;omega
   have U:=Lib.hid B;have c6:=Lib.hid F;have c7:=Lib.hid H;clear B r L ex c0 c1 eG eR S n z
   cases Q:d.contains P with
   | true=>
    obtain ⟨q1,q2⟩:=m.out.1 Q;have Q1:=Lib.hid q1;have Q2:=Lib.hid q2;rw [Q] at A;clear q1 q2 m Q;go_wp2_with fail
    rw [U.out];refine A.out.mono ?_;rintro e w2 ⟨rfl,rfl⟩
    go_wp2_with (first
     | (at_builtin;refine wpList_append_own _ rfl _ _ 25 rfl s 9 is (.string ⟨#[]⟩) 1 16 Tryz.underlying25 b2 a5 a6 a7 rfl (by decide) _ _ _ rfl (F.alloc _) ⟨o.heap.size,0,none⟩ 1 1 [.string (bs T)] rfl rfl ?c1 ?c2 ?c3 ?c4 ?c5 ?_)
     | fail)
    case c1=>exact World.news_of_block (cs:=#[.string (bs T)]) (t:=9) (fr:=(0,0)) (heap_alloc_new o _)
    case c2=>intro u hu;simp at hu;subst hu;rfl
    case c3=>unfold maxLen;omega
    case c4=>omega
    case c5=>simp;omega
    ·intro v' w4 j b _;have b0:=Lib.hid (Eg F H (by decide) ((Below.refl _ _).alloc (Nat.le_refl _) _) b);have K:=Lib.hid ((BW.out.alloc a1 _).grown b (by simp;omega) (fun k O=>(F.lt k O).1));have E:=Lib.hid j;clear j b F H;go_wp2_with fail
     exact ⟨⟨k+1,by omega,by go_num,Lib.hid (by rw [Q1.out];simpa [aB] using E.out),Lib.hid (by rw [Q2.out];exact b0.out),K⟩,by simp [intOf];omega⟩
   | false=>
    obtain ⟨q1,q2⟩:=m.out.2 Q;have Q1:=Lib.hid q1;have Q2:=Lib.hid q2;rw [Q] at A;clear q1 q2 m Q;go_wp2_with fail
    rw [U.out];refine A.out.mono ?_;rintro e w2 ⟨rfl,rfl⟩
    go_wp2_with (first
     | (at_builtin;refine wpList_append_own _ rfl _ _ 102 rfl s 162 ir _ 2 24 Tryz.underlying102 b1 a2 a3 a4 rfl (by decide) _ _ _ rfl (H.alloc _) ⟨o.heap.size,0,none⟩ 1 1 [.int .i64 (P:Int),.string (bs T)] rfl rfl ?c1 ?c2 ?c3 ?c4 ?c5 ?_)
     | fail)
    case c1=>exact World.news_of_block (cs:=#[.int .i64 (P:Int),.string (bs T)]) (t:=162) (fr:=(0,0)) (heap_alloc_new o _)
    case c2=>intro u hu;simp at hu;rcases hu with rfl | rfl <;> rfl
    case c3=>unfold maxLen;omega
    case c4=>omega
    case c5=>simp;omega
    ·intro v' w4 j b _;have a9:=Lib.hid (Eg H F (by decide) ((Below.refl _ _).alloc (Nat.le_refl _) _) b);have K:=Lib.hid ((BW.out.alloc a1 _).grown b (by simp;omega) (fun k O=>(H.lt k O).1));have E:=Lib.hid j;clear j b F H;go_wp2_with fail
     exact ⟨⟨k+1,by omega,by go_num,Lib.hid (by rw [Q1.out];exact a9.out),Lib.hid (by rw [Q2.out,oE,List.length_append];exact E.out),K⟩,by simp [intOf];omega⟩
  ·have b3:k=l.length:=by omega
   subst b3;rw [List.take_length] at S n
   have hP:dL wr q y J (.slice av l.length cv) p x:=by
    have:=HH.out;unfold dL at this ⊢;rw [z.out.block q N];exact this
   have m2:∃u,wr.cell? ⟨q,2,none⟩=some u:=⟨_,by rw [Lib.cell_of_heap hP];rfl⟩
   obtain ⟨u2,m2⟩:=m2;have f2:=Lib.frozen_of_heap hP 2;have a8:=Lib.hid hP
   obtain ⟨gs,V,e6⟩:∃a c,u6= .slice a (bM l d).length c:=by
    rcases n.out.2 with ⟨e,h0⟩ | ⟨g,I,W,e,_⟩
    ·exact ⟨_,_,by rw [h0];exact e⟩
    ·exact ⟨_,_,e⟩
   subst e6;clear hP;go_wp2_with fail
   go_ret;have b6:=heap_setCell_same wr q 2 _ _ (.slice gs (bM l d).length V) a8.out;have X:aL q wr (wr.setCell ⟨q,2,none⟩ (.slice gs (bM l d).length V)):=(aL.refl _ _).setCell _;refine ⟨u5,.slice gs (bM l d).length V,rfl,?_,b6,?_,?_⟩
   ·rw [f.out];exact dJ S.out X N
   ·rw [f.out];exact dJ n.out X N
   ·exact ⟨by rw [X.1];exact z.out.size,fun k O b4=>(X.2 k b4).trans (z.out.block k (by rw [←f.out];exact O)),(dU.of_below z.out).trans X.3⟩
def aa.stayOf (S:aa) (i:Nat):List (Nat×List UInt8):=stay (S.mailOf i).tos (S.outOf i)
def aa.live (S:aa):List Nat:=(List.range S.items.length).filter fun i=> !(S.stayOf i).isEmpty
def aa.plus (S:aa) (m:aX):aa:=⟨S.items++[⟨m,List.replicate m.tos.length false⟩],m.time⟩
theorem cd {S:aa} {i:Nat} (h:i < S.items.length):S.mailOf i=S.items[i].m:=by
 unfold aa.mailOf;rw [List.getElem?_eq_getElem h];rfl
theorem Ig {S:aa} {i:Nat} (h:i < S.items.length):S.outOf i=S.items[i].out:=by
 unfold aa.outOf;rw [List.getD_eq_getElem?_getD,List.getElem?_map,List.getElem?_eq_getElem h];rfl
theorem gT {S:aa} {i:Nat} (h:i < S.items.length):S.stayOf i=stay S.items[i].m.tos S.items[i].out:=by
 unfold aa.stayOf;rw [cd h,Ig h]
theorem rb {S:aa} {i:Nat} (h:S.items.length≤i):S.stayOf i=[]:=by
 unfold aa.stayOf aa.outOf;rw [List.getD_eq_getElem?_getD,List.getElem?_eq_none (by rw [List.length_map];exact h)];rfl
theorem jT {S:aa} {i:Nat}:i∈S.live ↔ i < S.items.length∧S.stayOf i≠[]:=by
 unfold aa.live;rw [List.mem_filter,List.mem_range];simp
theorem gJ (S:aa):S.live.Nodup:=List.Pairwise.filter _ List.nodup_range
theorem bq {S:aa} {i:Nat} (h:i∈S.live):i < S.items.length:=(jT.1 h).1
theorem zo {S:aa} {i:Nat} (h:S.stayOf i≠[]):i∈S.live:=by
 refine jT.2 ⟨?_,h⟩
 rcases Nat.lt_or_ge i S.items.length with a | a
 ·exact a
 ·exact absurd (rb a) h
theorem dv (S:aa) (m:aX):(S.plus m).items.length=S.items.length+1:=by simp [aa.plus]
theorem je {S:aa} {m:aX} {i:Nat} (h:i < S.items.length):(S.plus m).mailOf i=S.mailOf i:=by
 rw [cd h,cd (by rw [dv];omega)];simp only [aa.plus];rw [List.getElem_append_left h]
theorem jU {S:aa} {m:aX} {i:Nat} (h:i < S.items.length):(S.plus m).stayOf i=S.stayOf i:=by
 rw [gT h,gT (by rw [dv];omega)];simp only [aa.plus];rw [List.getElem_append_left h]
theorem dN (S:aa) (m:aX):(S.plus m).mailOf S.items.length=m:=by
 rw [cd (by rw [dv];omega)];simp [aa.plus]
theorem mB (S:aa) (m:aX):(S.plus m).stayOf S.items.length=stay m.tos (List.replicate m.tos.length false):=by
 rw [gT (by rw [dv];omega)];simp [aa.plus]
theorem BM {m:aX} (h:1≤m.tos.length):stay m.tos (List.replicate m.tos.length false)≠[]:=by
 rw [nH];intro e;have:=congrArg List.length e;simp only [List.length_map,List.length_range,List.length_nil] at this;omega
theorem lz {S:aa} {m:aX} (h:1≤m.tos.length):(S.plus m).live=S.live++[S.items.length]:=by
 unfold aa.live;rw [dv,List.range_succ,List.filter_append]
 congr 1
 ·apply List.filter_congr;intro i a;rw [jU (List.mem_range.1 a)]
 ·rw [List.filter_cons,mB,if_pos]
  ·rfl
  ·have:=BM h;simpa using this
theorem bL (S:aa) (K:Nat) (a:List Nat):(S.outs K a).items.length=S.items.length:=by simp [aa.outs]
theorem ez (S:aa) (K:Nat) (a:List Nat) (i:Nat):(S.outs K a).mailOf i=S.mailOf i:=by
 unfold aa.mailOf aa.outs;rw [List.getElem?_modify]
 by_cases h:K=i
 ·subst h
  cases S.items[K]? <;> simp
 ·simp [h]
theorem il {S:aa} {K i:Nat} {a:List Nat} (h:i≠K):(S.outs K a).stayOf i=S.stayOf i:=by
 unfold aa.stayOf;rw [ez]
 congr 1
 unfold aa.outOf aa.outs;rw [List.getD_eq_getElem?_getD,List.getD_eq_getElem?_getD,List.getElem?_map,List.getElem?_map,List.getElem?_modify];simp [Ne.symm h]
theorem jc {S:aa} {K:Nat} {a:List Nat} (h:K < S.items.length):(S.outs K a).stayOf K=bM (S.stayOf K) a:=by
 rw [gT (by rw [bL];exact h),gT h];unfold bM;rw [←rV]
 have b:(S.outs K a).items[K]'(by rw [bL];exact h)=⟨S.items[K].m,jV S.items[K].out a⟩:=by
  simp [aa.outs]
 rw [b]
theorem jz {S:aa} {K:Nat} {a:List Nat} (h:K∈S.live) (b:bM (S.stayOf K) a≠[]):(S.outs K a).live=S.live:=by
 unfold aa.live;rw [bL];apply List.filter_congr;intro i c
 by_cases e:i=K
 ·subst e;have:=(jT.1 h).2;rw [jc (bq h)];rw [Bool.eq_iff_iff];simp [b,this]
 ·rw [il e]
theorem jy {S:aa} {K:Nat} {a:List Nat} (h:K∈S.live) (b:bM (S.stayOf K) a=[]):(S.outs K a).live=S.live.filter fun i=>decide (i≠K):=by
 unfold aa.live;rw [bL,List.filter_filter];apply List.filter_congr;intro i c
 by_cases e:i=K
 ·subst e;rw [jc (bq h),b];simp
 ·rw [il e];simp [e]
theorem db {S:aa} {a:Nat} {b:List Nat} (g:1≤b.length):bt S a b=(decide (1≤a∧a - 1∈S.live) && b.all fun x=>(S.stayOf (a - 1)).any fun r=>decide (r.1=x)):=by
 unfold bt aa.stayOf;simp only [BN];obtain ⟨B,d⟩:∃B,(b.all fun x=>decide (x < (S.outOf (a - 1)).length) && !((S.outOf (a - 1)).getD x false))=B:=⟨_,rfl⟩;rw [d]
 cases B with
 | false=>simp
 | true=>
  rw [Bool.and_true,Bool.and_true,Bool.eq_iff_iff];simp only [Bool.and_eq_true,decide_eq_true_eq]
  constructor
  ·rintro ⟨c,f⟩;refine ⟨c,jT.2 ⟨by omega,?_⟩⟩
   obtain ⟨x,h⟩:∃x,x∈b:=by
    cases b with
    | nil=>simp at g
    | cons x l=>exact ⟨x,by simp⟩
   have:=List.all_eq_true.1 d x h;rw [←BN (S.mailOf (a - 1)).tos] at this;intro e;unfold aa.stayOf at e;rw [e] at this;simp at this
  ·rintro ⟨c,f⟩;have:=bq f;exact ⟨c,by omega⟩
structure aa.Ok (S:aa):Prop where
 id:∀i (h:i < S.items.length),S.items[i].m.id=i+1
 sz:∀x∈S.items,dQ x.m∧1≤x.m.tos.length∧x.m.tos.length≤10∧x.out.length=x.m.tos.length
theorem aa.Ok.nil (T:Nat):aa.Ok ⟨[],T⟩:=⟨fun i h=>by simp at h,fun x h=>by simp at h⟩
theorem aa.Ok.plus {S:aa} (h:S.Ok) {m:aX} (f:m.id=S.items.length+1) (g:dQ m) (c:1≤m.tos.length) (d:m.tos.length≤10):(S.plus m).Ok:=by
 refine ⟨fun i b=>?_,fun x a=>?_⟩
 ·rw [dv] at b
  by_cases e:i < S.items.length
  ·simp only [aa.plus];rw [List.getElem_append_left e];exact h.id i e
  ·obtain rfl:i=S.items.length:=by omega
   simp [aa.plus,f]
 ·simp only [aa.plus,List.mem_append,List.mem_singleton] at a
  rcases a with a | rfl
  ·exact h.sz x a
  ·exact ⟨g,c,d,by simp⟩
theorem aa.Ok.outs {S:aa} (h:S.Ok) (K:Nat) (j:List Nat):(S.outs K j).Ok:=by
 refine ⟨fun i g=>?_,fun x l=>?_⟩
 ·rw [bL] at g;have f:=ez S K j i;rw [cd (by rw [bL];exact g),cd g] at f;rw [f];exact h.id i g
 ·obtain ⟨i,g,rfl⟩:=List.getElem_of_mem l;have e:i < S.items.length:=by rwa [bL] at g
  obtain ⟨a,b,c,d⟩:=h.sz S.items[i] (List.getElem_mem e)
  have f:((S.outs K j).items[i]).m=S.items[i].m:=by
   have f:=ez S K j i
   rwa [cd (by rw [bL];exact e),cd e] at f
  have k:((S.outs K j).items[i]).out.length=S.items[i].out.length:=by
   simp only [aa.outs,List.getElem_modify]
   split
   ·rw [uS]
   ·rfl
  rw [f,k];exact ⟨a,b,c,d⟩
theorem aa.Ok.time {S:aa} (h:S.Ok) (T:Nat):aa.Ok ⟨S.items,T⟩:=⟨h.id,h.sz⟩
theorem dk {S:aa} (h:S.Ok) (i:Nat):(S.stayOf i).length≤10:=by
 rcases Nat.lt_or_ge i S.items.length with a | a
 ·rw [gT a];unfold stay;rw [List.length_map];have:=uF S.items[i].out S.items[i].out.length;have:=h.sz S.items[i] (List.getElem_mem a);omega
 ·rw [rb a];simp
def nM (q:Nat→Nat) (i:Nat):MapEntry:=⟨.int .i64 ((i:Int)+1),.pointer (some ⟨q i,0,none⟩),i⟩
def cO (q:Nat→Nat) (l:List Nat):Array MapEntry:=(l.map (nM q)).toArray
def gh (w:World) (b:Nat) (q:Nat→Nat) (l:List Nat) (c:Nat):Prop:=w.heap[b]? =some (.map (cO q l) c)
theorem Ef (q:Nat→Nat) {i j:Nat} (h:(nM q i).key= .int .i64 ((j:Int)+1)):i=j:=by
 unfold nM at h;simp only [Value.int.injEq,true_and] at h;omega
theorem cT (q:Nat→Nat) (l:List Nat):(cO q l).toList=l.map (nM q):=by simp [cO]
theorem CC {q a:Nat→Nat} {l:List Nat} (h:∀i∈l,q i=a i):cO q l=cO a l:=by
 unfold cO
 congr 1
 exact List.map_congr_left fun i d=>by unfold nM;rw [h i d]
section
variable {P:Program} {k e t:TypeId} {w:World} {b c:Nat} {q:Nat→Nat} {l:List Nat}
theorem xC (f:P.underlying k=some (.int .i64)) (q:Nat→Nat) (l:List Nat) (g:∀i∈l,i < 4294967296):∀x∈l.map (nM q),∃y,keyOf P k x.key=some y:=by
 intro x h;obtain ⟨i,d,rfl⟩:=List.mem_map.1 h;exact ⟨_,Maps.keyOf_int_mk f (a:=(i:Int)+1) (WalkArith.wf_i64 (by have:=g i d;omega))⟩
theorem sY (g:P.underlying k=some (.int .i64)) (p:∀i∈l,i < 4294967296) (j:Nat) (u:j < 4294967296):
  (j ∉ l→(Instr.findKey k (.int .i64 ((j:Int)+1)) (l.map (nM q))).run P w= .ok none w)∧
  (j∈l→∃n,(Instr.findKey k (.int .i64 ((j:Int)+1)) (l.map (nM q))).run P w= .ok (some (n,.pointer (some ⟨q j,0,none⟩))) w∧l[n]? =some j):=by
 have a:keyOf P k (.int .i64 ((j:Int)+1))=some (.int .i64 ((j:Int)+1)):=Maps.keyOf_int_mk g (WalkArith.wf_i64 (by omega))
 rcases (Maps.int_keyed g).find w a (l.map (nM q)) (xC g q l p) with ⟨f,d⟩ | ⟨n,x,f,d,o⟩
 ·exact ⟨fun _=>f,fun r=>absurd rfl (d (nM q j) (List.mem_map.2 ⟨j,r,rfl⟩))⟩
 ·rw [List.getElem?_map,Option.map_eq_some_iff] at d;obtain ⟨i,h,rfl⟩:=d;have m:=Ef q o;subst m;exact ⟨fun s=>absurd (List.mem_of_getElem? h) s,fun _=>⟨n,f,h⟩⟩
theorem pC (d:P.underlying k=some (.int .i64)) (j:Nat) (f:j < 4294967296) (a:Bool):(Instr.checkKey a 10000 k (.int .i64 ((j:Int)+1))).run P w= .ok () w:=
 (Maps.int_keyed d).check w a (Maps.keyOf_int_mk d (WalkArith.wf_i64 (by omega)))
theorem ig (d:P.underlying k=some (.int .i64)) (p:P.underlying t=some (.map k e)) (h:gh w b q l c) (m:∀i∈l,i < 4294967296) (j:Nat) (a:j < 4294967296) (o:j∈l) (f:Bool):
  (Instr.lookup t (.map (some b)) (.int .i64 ((j:Int)+1)) f).run P w= .ok (if f then .tuple #[.pointer (some ⟨q j,0,none⟩),.bool true] else .pointer (some ⟨q j,0,none⟩)) w:=by
 obtain ⟨n,g,_⟩:=(sY (w:=w) (q:=q) d m j a).2 o;simp [Instr.lookup,run_underlying p,MapKept.run_getObj_map h,pC d j a,cT,g,Result.andThen]
theorem rM (d:P.underlying k=some (.int .i64)) (o:P.underlying t=some (.map k e)) (p:(zeroValue e).run P w= .ok (.pointer none) w) (h:gh w b q l c) (m:∀i∈l,i < 4294967296) (j:Nat) (a:j < 4294967296) (n:j ∉ l) (f:Bool):
  (Instr.lookup t (.map (some b)) (.int .i64 ((j:Int)+1)) f).run P w= .ok (if f then .tuple #[.pointer none,.bool false] else .pointer none) w:=by
 have g:=(sY (w:=w) (q:=q) d m j a).1 n;simp [Instr.lookup,run_underlying o,MapKept.run_getObj_map h,pC d j a,cT,g,p,Result.andThen]
theorem wT (f:P.underlying k=some (.int .i64)) (p:P.underlying t=some (.map k e)) (r:(zeroValue e).run P w= .ok (.pointer none) w) (h:gh w b q l c) (o:∀i∈l,i < 4294967296) (m:Bool):
  (Instr.lookup t (.map (some b)) (.int .i64 0) m).run P w= .ok (if m then .tuple #[.pointer none,.bool false] else .pointer none) w:=by
 have a:keyOf P k (.int .i64 0)=some (.int .i64 0):=Maps.keyOf_int_mk f (WalkArith.wf_i64 (by omega))
 have d:(Instr.findKey k (.int .i64 0) (l.map (nM q))).run P w= .ok none w:=by
  rcases (Maps.int_keyed f).find w a (l.map (nM q)) (xC f q l o) with ⟨d,g⟩ | ⟨n,x,d,g,j⟩
  ·exact d
  ·rw [List.getElem?_map,Option.map_eq_some_iff] at g;obtain ⟨i,s,rfl⟩:=g;unfold nM at j;simp only [Value.int.injEq,true_and] at j;omega
 simp [Instr.lookup,run_underlying p,MapKept.run_getObj_map h,(Maps.int_keyed f).check w _ a,cT,d,r,Result.andThen]
theorem Jl (f:P.underlying k=some (.int .i64)) (s:P.underlying t=some (.map k e)) (h:gh w b q l c) (g:∀i∈l,i < c) (u:c < 4294967295) (p:Nat) (a:Nat→Nat) (r:∀i∈l,a i=q i) (o:a c=p):
  (Instr.mapUpdate t (.map (some b)) (.int .i64 ((c:Int)+1)) (.pointer (some ⟨p,0,none⟩))).run P w= .ok () (ChangeMaps.setBlock w b (.map (cO a (l++[c])) (c+1))):=by
 have m:=(sY (w:=w) (q:=q) f (fun i d=>by have:=g i d;omega) c (by omega)).1 (fun n=>by have:=g c n;omega)
 have j:(cO q l).push ⟨.int .i64 ((c:Int)+1),.pointer (some ⟨p,0,none⟩),c⟩=cO a (l++[c]):=by
  rw [CC (fun i d=>(r i d).symm)];unfold cO;rw [List.map_append,List.push_toArray];simp [nM,o]
 simp [Instr.mapUpdate,run_underlying s,MapKept.run_getObj_map h,pC f c (by omega),cT,m,MapKept.run_setObj_map _ h,Result.andThen,ChangeMaps.setBlock,j]
theorem CF {l:List Nat} (a:l.Nodup) {n j:Nat} (h:l[n]? =some j):l.eraseIdx n=l.filter fun i=>decide (i≠j):=by
 induction l generalizing n with
 | nil=>simp at h
 | cons x l ih=>
  rw [List.nodup_cons] at a
  cases n with
  | zero=>
   simp only [List.getElem?_cons_zero,Option.some.injEq] at h;subst h;rw [List.eraseIdx_cons_zero,List.filter_cons];simp only [ne_eq,not_true_eq_false,decide_false,Bool.false_eq_true,if_false];refine (List.filter_eq_self.2 fun i d=>?_).symm;have:i≠x:=fun e=>a.1 (e ▸ d);simpa using this
  | succ n=>
   simp only [List.getElem?_cons_succ] at h;have f:x≠j:=fun e=>a.1 (e ▸ List.mem_of_getElem? h);rw [List.eraseIdx_cons_succ,List.filter_cons,if_pos (by simpa using f),ih a.2 h]
theorem Bg {x:TypeId} (g:P.underlying k=some (.int .i64)) (v:P.underlying t=some (.map k e)) (h:gh w b q l c) (p:∀i∈l,i < 4294967296) (s:l.Nodup) (j:Nat) (f:j < 4294967296) (r:j∈l):
  (Builtin.delete_ #[t,k] x #[.map (some b),.int .i64 ((j:Int)+1)]).run P w= .ok (.tuple #[]) (ChangeMaps.setBlock w b (.map (cO q (l.filter fun i=>decide (i≠j))) c)):=by
 obtain ⟨n,o,d⟩:=(sY (w:=w) (q:=q) g p j f).2 r;have a:n < l.length:=(List.getElem?_eq_some_iff.1 d).1
 have m:(cO q l).eraseIdxIfInBounds n=cO q (l.filter fun i=>decide (i≠j)):=by
  rw [←CF s d];have u:n < (cO q l).size:=by simpa [cO] using a
  apply Array.toList_inj.1;unfold Array.eraseIdxIfInBounds;rw [dif_pos u,Array.toList_eraseIdx,cT,cT,←ChangeMaps.map_eraseIdx]
 simp [Builtin.delete_,run_underlying v,MapKept.run_getObj_map h,pC g j f,cT,o,MapKept.run_setObj_map _ h,Result.andThen,ChangeMaps.setBlock,m]
end
structure bh (base:Nat) (w:World) (pb mb:Nat) (q:Nat→Nat) (vr:Value) (S:aa):Prop where
 bag:w.heap[pb]? =some (.cells #[vr,.int .i64 S.time,.int .i64 S.items.length,.map (some mb)] 117 (0,0))
 map:gh w mb q S.live S.items.length
 pbb:base≤pb
 mbb:base≤mb
 one:∀i∈S.live,∀j∈S.live,q i=q j→i=j
 mail:∀i∈S.live,base≤q i∧∃v x,dL w (q i) (S.mailOf i).time (S.mailOf i).frm v (S.mailOf i).body x∧w.ownsRow base 162 2 v (S.stayOf i).length (aR (S.stayOf i))
theorem gN {p:Nat} {w w':World} (b:sc p w w') {k:Nat} {o:Obj} (h:w.heap[k]? =some o) (a:k≠p):w'.heap[k]? =some o:=(b.block k (ah h) a).trans h
theorem gd {w:World} {b:Nat} {a:Array MapEntry} {c:Nat} (h:w.heap[b]? =some (.map a c)) (o:Obj):aL b w (ChangeMaps.setBlock w b o):=
 ⟨by simp [ChangeMaps.setBlock],fun k d=>ChangeMaps.heap_setBlock_other h o d,⟨rfl,rfl,rfl⟩⟩
section
variable {base pb mb:Nat} {q:Nat→Nat} {vr:Value} {S:aa} {w w':World}
theorem bh.pblt (h:bh base w pb mb q vr S):pb < w.heap.size:=ah h.bag
theorem bh.mblt (h:bh base w pb mb q vr S):mb < w.heap.size:=ah h.map
theorem bh.le (h:bh base w pb mb q vr S):base≤w.heap.size:=by have:=h.pblt;have:=h.pbb;omega
theorem bh.keep (h:bh base w pb mb q vr S) (d:Below w.heap.size w w'):bh base w' pb mb q vr S:=
 ⟨ae d h.bag,ae d h.map,h.pbb,h.mbb,h.one,fun i j=>by
  obtain ⟨a,v,x,b,c⟩:=h.mail i j
  exact ⟨a,v,x,ae d b,aA c fun g f e _=>ae d e⟩⟩
theorem bh.timed (h:bh base w pb mb q vr S) {T:Nat} {vr':Value} (d:aL pb w w') (l:w'.heap[pb]? =some (.cells #[vr',.int .i64 T,.int .i64 S.items.length,.map (some mb)] 117 (0,0))):bh base w' pb mb q vr' ⟨S.items,T⟩:=
 ⟨l,aP d h.map (fun e=>by have:=h.map;unfold gh at this;rw [e,h.bag] at this;simp at this),h.pbb,h.mbb,h.one,fun i k=>by
  obtain ⟨a,v,x,b,c⟩:=h.mail i k;refine ⟨a,v,x,aP d b (fun e=>?_),aA c fun g f e _=>aP d e fun j=>?_⟩
  ·unfold dL at b;rw [e,h.bag] at b;simp at b
  ·rw [j,h.bag] at e;simp at e⟩
theorem bh.added (h:bh base w pb mb q vr S) {p s:World} {m:aX} {Q:Nat} {v:Value} {x:Int×Int} (y:aL pb w p) (u:p.heap[pb]? =some (.cells #[vr,.int .i64 m.time,.int .i64 ((S.items.length:Int)+1),.map (some mb)] 117 (0,0)))
  (C:Below p.heap.size p s) (P:p.heap.size≤Q) (E:dL s Q m.time m.frm v m.body x) (I:s.ownsRow p.heap.size 162 2 v m.tos.length (aR (stay m.tos (List.replicate m.tos.length false)))) (J:1≤m.tos.length):
  bh base (ChangeMaps.setBlock s mb (.map (cO (fun i=>if i=S.items.length then Q else q i) (S.live++[S.items.length])) (S.items.length+1))) pb mb (fun i=>if i=S.items.length then Q else q i) vr (S.plus m):=by
 have r:p.heap[mb]? =some (.map (cO q S.live) S.items.length):=aP y h.map (fun e=>by have:=h.map;unfold gh at this;rw [e,h.bag] at this;simp at this);have f:s.heap[mb]? =some (.map (cO q S.live) S.items.length):=ae C r;have D:=gd f (.map (cO (fun i=>if i=S.items.length then Q else q i) (S.live++[S.items.length])) (S.items.length+1));have t:base≤p.heap.size:=by rw [y.1];exact h.le
 have H:pb≠mb:=fun e=>by rw [e,r] at u;simp at u
 have l:∀i∈S.live,i≠S.items.length:=fun i d e=>by have:=bq d;omega
 refine ⟨?_,?_,h.pbb,h.mbb,?_,?_⟩
 ·rw [dv];have:=aP D (ae C u) H;simpa [aa.plus] using this
 ·unfold gh;rw [dv,lz J];exact ChangeMaps.heap_setBlock_same f _
 ·rw [lz J]
  have K:∀i∈S.live,q i < Q:=fun i d=>by
   obtain ⟨_,v,_,b,_⟩:=h.mail i d;have:=ah b;rw [y.1] at P;omega
  intro i d j o e;simp only [List.mem_append,List.mem_singleton] at d o
  rcases d with d | rfl
  ·rcases o with o | rfl
   ·rw [if_neg (l i d),if_neg (l j o)] at e;exact h.one i d j o e
   ·rw [if_neg (l i d),if_pos rfl] at e;have:=K i d;omega
  ·rcases o with o | rfl
   ·rw [if_pos rfl,if_neg (l j o)] at e;have:=K j o;omega
   ·rfl
 ·rw [lz J];intro i d;simp only [List.mem_append,List.mem_singleton] at d
  have k:∀{n:Nat} {v:Value} {L:List Value} {B:Nat},base≤B→s.ownsRow B 162 2 v n L→(ChangeMaps.setBlock s mb (.map (cO (fun i=>if i=S.items.length then Q else q i) (S.live++[S.items.length])) (S.items.length+1))).ownsRow base 162 2 v n L:=fun O I=>by
   refine (aA I fun g F e _=>aP D e fun G=>?_).mono O;rw [G,f] at e;simp at e
  rcases d with d | rfl
  ·have z:=bq d;obtain ⟨a,v,x,b,c⟩:=h.mail i d;simp only [if_neg (l i d)];rw [je z,jU z];have M:dL p (q i) (S.mailOf i).time (S.mailOf i).frm v (S.mailOf i).body x:=aP y b (fun e=>by unfold dL at b;rw [e,h.bag] at b;simp at b);have A:dL s (q i) (S.mailOf i).time (S.mailOf i).frm v (S.mailOf i).body x:=ae C M;refine ⟨a,v,x,aP D A (fun e=>by unfold dL at A;rw [e,f] at A;simp at A),k (Nat.le_refl _) ?_⟩;refine aA c fun g F e _=>ae C (aP y e fun G=>?_);rw [G,h.bag] at e;simp at e
  ·simp only [if_true];rw [dN,mB];have N:(stay m.tos (List.replicate m.tos.length false)).length=m.tos.length:=by rw [nH];simp
   rw [N];exact ⟨by omega,v,x,aP D E (fun e=>by unfold dL at E;rw [e,f] at E;simp at E),k t I⟩
theorem bh.left (h:bh base w pb mb q vr S) {l:World} {K:Nat} {k:List Nat} {v:Value} {x:Int×Int} (f:K∈S.live) (j:sc (q K) w l) (t:dL l (q K) (S.mailOf K).time (S.mailOf K).frm v (S.mailOf K).body x)
  (u:l.ownsRow w.heap.size 162 2 v (bM (S.stayOf K) k).length (aR (bM (S.stayOf K) k))) (o:bM (S.stayOf K) k≠[]):bh base l pb mb q vr (S.outs K k):=by
 obtain ⟨r,A,B,d,z⟩:=h.mail K f;refine ⟨?_,?_,h.pbb,h.mbb,?_,?_⟩
 ·rw [bL];exact gN j h.bag (fun e=>by unfold dL at d;rw [←e,h.bag] at d;simp at d)
 ·unfold gh;rw [bL,jz f o];refine gN j h.map (fun e=>?_);have:=h.map;unfold gh at this;unfold dL at d;rw [e,d] at this;simp at this
 ·rw [jz f o];exact h.one
 ·rw [jz f o];intro i p;rw [ez]
  by_cases e:i=K
  ·subst e;rw [jc (bq f)];exact ⟨r,v,x,t,u.mono h.le⟩
  ·obtain ⟨a,y,x,b,c⟩:=h.mail i p;rw [il e];refine ⟨a,y,x,gN j b (fun m=>e (h.one i p K f m)),aA c fun g s n _=>gN j n fun m=>?_⟩;unfold dL at d;rw [m,d] at n;simp at n
theorem bh.emptied (h:bh base w pb mb q vr S) {o:World} {K:Nat} {z:List Nat} (n:K∈S.live) (r:sc (q K) w o) (y:bM (S.stayOf K) z=[]):o.heap[mb]? =some (.map (cO q S.live) S.items.length)∧
  bh base (ChangeMaps.setBlock o mb (.map (cO q (S.live.filter fun i=>decide (i≠K))) S.items.length)) pb mb q vr (S.outs K z):=by
 obtain ⟨D,F,G,f,E⟩:=h.mail K n
 have d:o.heap[mb]? =some (.map (cO q S.live) S.items.length):=gN r h.map (fun e=>by
  have:=h.map;unfold gh at this;unfold dL at f;rw [e,f] at this
  simp at this)
 have u:=gd d (.map (cO q (S.live.filter fun i=>decide (i≠K))) S.items.length);have l:=gN r h.bag (fun e=>by unfold dL at f;rw [←e,h.bag] at f;simp at f);refine ⟨d,?_,?_,h.pbb,h.mbb,?_,?_⟩
 ·rw [bL];exact aP u l (fun e=>by rw [e,d] at l;simp at l)
 ·unfold gh;rw [bL,jy n y];exact ChangeMaps.heap_setBlock_same d _
 ·rw [jy n y];exact fun i m j C e=>h.one i (List.mem_filter.1 m).1 j (List.mem_filter.1 C).1 e
 ·rw [jy n y];intro i m;obtain ⟨m,v⟩:=List.mem_filter.1 m;have e:i≠K:=by simpa using v
  rw [ez,il e];obtain ⟨a,A,x,b,c⟩:=h.mail i m;have p:dL o (q i) (S.mailOf i).time (S.mailOf i).frm A (S.mailOf i).body x:=gN r b (fun k=>e (h.one i m K n k));refine ⟨a,A,x,aP u p (fun k=>by unfold dL at p;rw [k,d] at p;simp at p),aA c fun g B s _=>?_⟩;have t:=gN r s (fun k=>by unfold dL at f;rw [k,f] at s;simp at s);exact aP u t (fun k=>by rw [k,d] at t;simp at t)
end
theorem GU (P:Nat) (T:List UInt8) (b a:Nat) (w:World) (c:w.cell? ⟨b,0,none⟩=some (.int .i64 a)):
  Calls Tryz.prog 258 #[.agg #[.int .i64 P,.string (bs T)],.pointer (some ⟨b,0,none⟩)] w fun e g=>e= .returned (.bool (decide (P=a)))∧Below w.heap.size w g:=by
 have f:∀o:Obj,(w.alloc o).cell? ⟨b,0,none⟩=some (.int .i64 a):=fun o=>by
  rw [((Below.refl _ w).alloc (Nat.le_refl _) o).cell (show b < w.heap.size from aC c)];exact c
 go_enter Tryz.func258,Tryz.ntmps258;go_wp2_with fail
 go_ret;have d:((P:Int) == (a:Int))=decide (P=a):=by rw [Bool.eq_iff_iff];simp only [beq_iff_eq,decide_eq_true_eq];omega
 exact ⟨by rw [←d];rfl,(Below.refl _ w).alloc (Nat.le_refl _) _⟩
theorem wu {l:List (Nat×List UInt8)} {p:Nat×List UInt8→Bool} {k:Nat} (h:k < l.length) (a:(l.take k).any p=false) (b:p l[k]=false):(l.take (k+1)).any p=false:=by
 rw [List.take_succ_eq_append_getElem h,List.any_append,a];simp [b]
theorem I3 {l:List (Nat×List UInt8)} {p:Nat×List UInt8→Bool} {k:Nat} (h:k < l.length) (a:p l[k]=true):l.any p=true:=List.any_eq_true.2 ⟨_,List.getElem_mem h,a⟩
theorem wJ (q:Nat) (l:List (Nat×List UInt8)) (v:Value) (y d:Nat) (w:World) (F:w.ownsRow q 162 2 v l.length (aR l)) (O:w.cell? ⟨y,0,none⟩=some (.int .i64 d)) (hl:l.length≤255):
  Calls Tryz.prog 282 #[v,.func (.func 258) #[] #[.pointer (some ⟨y,0,none⟩)]] w fun e G=>∃r:Int,e= .returned (.int .i64 r)∧(-1≤r∧r≤255)∧decide (0≤r)=l.any (fun x=>decide (x.1=d))∧Below w.heap.size w G:=by
 have U:=Lib.hid F;have H:=Lib.hid O
 obtain ⟨V,Z,rfl⟩:∃a c,v= .slice a l.length c:=by
  rcases F.2 with ⟨e,M⟩ | ⟨g,W,D,e,_⟩
  ·exact ⟨_,_,by rw [M];exact e⟩
  ·exact ⟨_,_,e⟩
 obtain ⟨s,S⟩:∃s,w.heap.size=s:=⟨_,rfl⟩;have h:=Lib.hid S;clear F S O;go_enter Tryz.func282,Tryz.ntmps282;go_wp2_with fail
 go_loopw [5,8] (fun _ i G=>∃k:Nat,k≤l.length∧i= .int .i64 k∧Hid ((l.take k).any (fun x=>decide (x.1=d))=false)∧Hid (Below s w G)) (fun _ i _=>l.length - (intOf i).toNat)
 case atStart=>exact ⟨0,Nat.zero_le _,rfl,Lib.hid rfl,Lib.hid (by rw [←h.out];exact Below.refl _ _)⟩
 case round=>
  obtain ⟨k,hk,rfl,z,m⟩:=hrel
  by_cases j:k < l.length
  ·have R:(k:Int) < (l.length:Int):=by omega
   obtain ⟨g,rfl,B,C⟩:∃g,V=some ⟨g,0,none⟩∧w.cell? ⟨g,k * 2,none⟩=some (.int .i64 (l[k].1:Int))∧w.cell? ⟨g,k * 2+1,none⟩=some (.string (bs l[k].2)):=by
    rcases U.out.2 with ⟨_,M⟩ | ⟨g,Y,D,e,_,Q,_,_,_,u⟩
    ·omega
    ·injection e with e1 _ _;refine ⟨g,e1,?_,?_⟩
     ·rw [Lib.cell_of_heap Q,←Array.getElem?_toList,←List.getElem?_take_of_lt (show k * 2 < l.length * 2 by omega),u];exact (dP l k j).1
     ·rw [Lib.cell_of_heap Q,←Array.getElem?_toList,←List.getElem?_take_of_lt (show k * 2+1 < l.length * 2 by omega),u];exact (dP l k j).2
   have I:wr.cell? ⟨g,k * 2,none⟩=some (.int .i64 (l[k].1:Int)):=(m.out.cell (by show g < s;rw [←h.out];exact aC B)).trans B;have J:wr.cell? ⟨g,k * 2+1,none⟩=some (.string (bs l[k].2)):=(m.out.cell (by show g < s;rw [←h.out];exact aC C)).trans C;have K:wr.cell? ⟨y,0,none⟩=some (.int .i64 d):=(m.out.cell (by show y < s;rw [←h.out];exact aC H.out)).trans H.out;have p:Hid (∀b:Bool,decide (l[k].1=d)=b→(b=true→l.any (fun x=>decide (x.1=d))=true)∧(b=false→(l.take (k+1)).any (fun x=>decide (x.1=d))=false)):=Lib.hid (fun b N=>⟨fun e=>I3 j (by rw [N,e]),fun e=>wu j z.out (by rw [N,e])⟩);obtain ⟨x,L⟩:∃x,l[k]=x:=⟨_,rfl⟩;rw [L] at I J p;obtain ⟨P,T⟩:=x;simp only at I J;have f:=Lib.hid (GU P T y d wr K);have t:s≤wr.heap.size:=by have:=m.out.size;have:=h.out;omega
   clear L B C K z
   cases o:decide (P=d) with
   | true=>
    have A:=Lib.hid ((p.out true o).1 rfl);rw [o] at f;clear p o;go_wp2_with (first | (go_at_call 258;refine f.out.mono ?_;rintro e X ⟨rfl,n⟩) | fail)
    go_ret;exact ⟨_,rfl,by omega,by rw [A.out];simp,by rw [h.out];exact m.out.trans (n.mono t)⟩
   | false=>
    have A:=Lib.hid ((p.out false o).2 rfl);rw [o] at f;clear p o;go_wp2_with (first | (go_at_call 258;refine f.out.mono ?_;rintro e X ⟨rfl,n⟩) | fail)
    exact ⟨⟨k+1,by omega,by go_num,A,Lib.hid (m.out.trans (n.mono t))⟩,by simp [intOf];omega⟩
  ·have E:k=l.length:=by omega
   subst E;rw [List.take_length] at z;go_wp2_with fail
   go_ret;exact ⟨_,rfl,by omega,by rw [z.out];rfl,by rw [h.out];exact m.out⟩
theorem qJ (b:Nat) (l:List (Nat×List UInt8)) (v:Value) (c a:Nat) (w:World) (h:w.ownsRow b 162 2 v l.length (aR l)) (d:w.cell? ⟨c,0,none⟩=some (.int .i64 a)) (m:l.length≤255):
  Calls Tryz.prog 257 #[v,.func (.func 258) #[] #[.pointer (some ⟨c,0,none⟩)]] w fun e i=>e= .returned (.bool (l.any (fun x=>decide (x.1=a))))∧Below w.heap.size w i:=by
 have g:=wJ b l v c a w h d m;clear h d;go_enter Tryz.func257,Tryz.ntmps257;go_wp2_with fail
 refine g.mono ?_;rintro e i ⟨r,rfl,n,f,k⟩;have j:=Lib.hid f;clear f g;go_wp2_with fail
 go_ret;exact ⟨by rw [←j.out];rfl,k⟩
theorem CK (u q I:Nat) (O E:List UInt8) (v vp:Value) (l:List (Nat×List UInt8)) (f:List Nat) (x:Int×Int) (w:World) (h:dL w q I O v E x) (V:w.ownsRow u 162 2 v l.length (aR l)) (hp:bg w vp f.length 1 (aZ f)) (hl:l.length≤255) (a0:f.length≤255):
  Calls Tryz.prog 222 #[.pointer (some ⟨q,0,none⟩),vp] w fun e X=>e= .returned (.bool (f.all fun x=>l.any fun r=>decide (r.1=x)))∧Below w.heap.size w X:=by
 obtain ⟨a,M,rfl,G⟩:=hp.one;have HV:=Lib.hid V;have HC:=Lib.hid G;have HH:=Lib.hid h
 obtain ⟨av,cv,rfl⟩:∃a c,v= .slice a l.length c:=by
  rcases V.2 with ⟨e,h0⟩ | ⟨g,M,N,e,_⟩
  ·exact ⟨_,_,by rw [h0];exact e⟩
  ·exact ⟨_,_,e⟩
 obtain ⟨s,T⟩:∃s,w.heap.size=s:=⟨_,rfl⟩;have m:=Lib.hid T;have S:q < s:=by rw [←T];exact sZ h
 clear V T G h hp;go_enter Tryz.func222,Tryz.ntmps222;go_wp2_with fail
 go_loopw [6,9] (fun _ i X=>∃k:Nat,k≤f.length∧i= .int .i64 k∧Hid ((f.take k).all (fun x=>l.any fun r=>decide (r.1=x))=true)∧Hid (Below s w X)) (fun _ i _=>f.length - (intOf i).toNat)
 case atStart=>exact ⟨0,Nat.zero_le _,rfl,Lib.hid rfl,Lib.hid (by rw [←m.out];exact Below.refl _ _)⟩
 case round=>
  obtain ⟨k,hk,rfl,J,B⟩:=hrel
  by_cases p:k < f.length
  ·have Z:(k:Int) < (f.length:Int):=by omega
   obtain ⟨b,W,rfl,Q,j⟩:=HC.out k p;rw [lY f k p] at j;have d0:wr.cell? ⟨b,W+k,none⟩=some (.int .i64 (f[k]:Int)):=(B.out.cell (by show b < s;rw [←m.out];exact Q)).trans j
   have D:Hid (∀c:Bool,l.any (fun r=>decide (r.1=f[k]))=c→(c=true→(f.take (k+1)).all (fun x=>l.any fun r=>decide (r.1=x))=true)∧(c=false→f.all (fun x=>l.any fun r=>decide (r.1=x))=false)):=Lib.hid (fun c G=>⟨fun e=>by
     rw [List.take_succ_eq_append_getElem p,List.all_append,J.out];simp only [List.all_cons,List.all_nil,Bool.and_true,Bool.true_and];rw [G,e],fun e=>by
     rw [List.all_eq_false]
     exact ⟨f[k],List.getElem_mem p,by rw [G,e];simp⟩⟩)
   obtain ⟨P,Y⟩:∃P,f[k]=P:=⟨_,rfl⟩;rw [Y] at d0 D;obtain ⟨t,n⟩:∃t:World,wr.alloc (.cells #[.int .i64 P] 3)=t:=⟨_,rfl⟩;have y:Below wr.heap.size wr t:=by rw [←n];exact (Below.refl _ _).alloc (Nat.le_refl _) _
   have F:t.heap[wr.heap.size]? =some (.cells #[.int .i64 P] 3 (0,0)):=by rw [←n];exact heap_alloc_new wr _
   have p0:t.cell? ⟨wr.heap.size,0,none⟩=some (.int .i64 P):=by rw [Lib.cell_of_heap F];rfl
   have U:s≤wr.heap.size:=by have:=B.out.size;have:=m.out;omega
   have K:Hid (Below s w t):=Lib.hid (B.out.trans (y.mono U))
   have k2:∀o:Obj,(wr.alloc o).cell? ⟨q,2,none⟩=some (.slice av l.length cv):=fun o=>by
    have:=ae (w:=wr) ((Below.refl _ wr).alloc (Nat.le_refl _) o) (show wr.heap[q]? =some _ from (B.out.block q S).trans HH.out);rw [Lib.cell_of_heap this];rfl
   have d:=Lib.hid (qJ u l _ wr.heap.size P t (aA HV.out fun g N e _=>ae (by rw [m.out];exact K.out) e) p0 hl);have H:s≤t.heap.size:=by have:=y.size;omega
   have C:=Lib.hid n;clear n y F p0 Y j J
   cases A:l.any (fun r=>decide (r.1=P)) with
   | true=>
    have L:=Lib.hid ((D.out true A).1 rfl);rw [A] at d;clear D A;go_wp2_with fail
    rw [C.out];refine d.out.mono ?_;rintro e w2 ⟨rfl,z⟩;go_wp2_with fail
    exact ⟨⟨k+1,by omega,by go_num,L,Lib.hid (K.out.trans (z.mono H))⟩,by simp [intOf];omega⟩
   | false=>
    have L:=Lib.hid ((D.out false A).2 rfl);rw [A] at d;clear D A;go_wp2_with fail
    rw [C.out];refine d.out.mono ?_;rintro e w2 ⟨rfl,z⟩;go_wp2_with fail
    go_ret;exact ⟨by rw [L.out];rfl,by rw [m.out];exact K.out.trans (z.mono H)⟩
  ·have R:k=f.length:=by omega
   subst R;rw [List.take_length] at J;go_wp2_with fail
   go_ret;exact ⟨by rw [J.out];rfl,by rw [m.out];exact B.out⟩
theorem fU:Tryz.prog.underlying 3=some (.int .i64):=Tryz.underlying3
theorem pk (w:World):(zeroValue 122).run Tryz.prog w= .ok (.pointer none) w:=by kernel_rfl
theorem D7 {c l a Q:Nat} {q:Nat→Nat} {o:Value} {S:aa} {m:aX} {n b g:World} (h:bh c n l a q o S) (p:aL l n b) (_:b.heap[l]? =some (.cells #[o,.int .i64 m.time,.int .i64 ((S.items.length:Int)+1),.map (some a)] 117 (0,0))) (r:Below b.heap.size b g) (k:m.id=S.items.length+1) (s:S.items.length < 4294967295):
  (Instr.mapUpdate 115 (.map (some a)) (.int .i64 m.id) (.pointer (some ⟨Q,0,none⟩))).run Tryz.prog g= .ok () (ChangeMaps.setBlock g a (.map (cO (fun i=>if i=S.items.length then Q else q i) (S.live++[S.items.length])) (S.items.length+1))):=by
 have d:b.heap[a]? =some (.map (cO q S.live) S.items.length):=aP p h.map (fun e=>by have:=h.map;unfold gh at this;rw [e,h.bag] at this;simp at this);have f:gh g a q S.live S.items.length:=ae r d;have:=Jl (t:=115) (e:=122) fU Tryz.underlying115 f (fun i j=>bq j) s Q (fun i=>if i=S.items.length then Q else q i) (fun i j=>if_neg (by have:=bq j;omega)) (if_pos rfl);rw [k];exact this
theorem zV {a k i:Nat} {q:Nat→Nat} {m:Value} {S:aa} {d b l:World} (h:bh a d k i q m S) (f:aL k d b) (j:Below b.heap.size b l) (o:Obj):Below a d (ChangeMaps.setBlock l i o):=by
 have c:b.heap[i]? =some (.map (cO q S.live) S.items.length):=aP f h.map (fun e=>by have:=h.map;unfold gh at this;rw [e,h.bag] at this;simp at this);have g:a≤b.heap.size:=by rw [f.1];exact h.le
 exact ((f.below h.pbb).trans (j.mono g)).trans ((gd (ae j c) o).below h.mbb)
theorem tG (d b k:Nat) (q:Nat→Nat) (z:Value) (S:aa) (m:aX) (v:Value) (w:World) (h:bh d w b k q z S) (B:Nat) (R:w.ownsRow B 9 1 v m.tos.length (aB m.tos)) (T:dQ m) (x:m.id=S.items.length+1) (ht:1≤m.tos.length) (hn:S.items.length < 4294967295):
  Calls Tryz.prog 166 #[.pointer (some ⟨b,0,none⟩),.agg (aY m v)] w fun e U=>e= .returned (.tuple #[])∧∃q',bh d U b k q' z (S.plus m)∧Below d w U:=by
 have E:=Lib.hid h;have Z:=Lib.hid R;have HZ:=Lib.hid T;have c:∀o:Obj,(w.alloc o).heap[b]? =some (.cells #[z,.int .i64 S.time,.int .i64 S.items.length,.map (some k)] 117 (0,0)):=fun o=>ae ((Below.refl _ w).alloc (Nat.le_refl _) o) h.bag;have c1:∀o:Obj,(w.alloc o).cell? ⟨b,1,none⟩=some (.int .i64 S.time):=fun o=>by rw [Lib.cell_of_heap (c o)];rfl
 have c2:∀o:Obj,(w.alloc o).cell? ⟨b,2,none⟩=some (.int .i64 S.items.length):=fun o=>by rw [Lib.cell_of_heap (c o)];rfl
 have c3:∀o:Obj,(w.alloc o).cell? ⟨b,3,none⟩=some (.map (some k)):=fun o=>by rw [Lib.cell_of_heap (c o)];rfl
 have f1:∀o:Obj,(w.alloc o).frozen? ⟨b,1,none⟩=false:=fun o=>Lib.frozen_of_heap (c o) 1;have f2:∀o:Obj,(w.alloc o).frozen? ⟨b,2,none⟩=false:=fun o=>Lib.frozen_of_heap (c o) 2;have X:=Lib.hid c;obtain ⟨s,P⟩:∃s,w.heap.size=s:=⟨_,rfl⟩;have K:b≠s:=by have:=h.pblt;omega
 have H:=Lib.hid P;unfold aY;have u:=Lib.hid x;clear h R T c P x;go_enter Tryz.func166,Tryz.ntmps166;go_wp2_with fail
 obtain ⟨a,i⟩:∃a:World,(((w.alloc (.cells #[.int .i64 m.id,.int .i64 m.time,.string (bs m.frm),v,.string (bs m.body)] 45)).setCell ⟨b,2,none⟩ (.int .i64 m.id)).setCell ⟨b,1,none⟩ (.int .i64 m.time))=a:=⟨_,rfl⟩;rw [i];obtain ⟨j,f⟩:∃j:World,w.alloc (.cells #[.int .i64 m.id,.int .i64 m.time,.string (bs m.frm),v,.string (bs m.body)] 45)=j:=⟨_,rfl⟩;have A:Below w.heap.size w j:=by rw [←f];exact (Below.refl _ _).alloc (Nat.le_refl _) _
 have D:bh d j b k q z S:=E.out.keep A;have L:j.heap[w.heap.size]? =some (.cells #[.int .i64 m.id,.int .i64 m.time,.string (bs m.frm),v,.string (bs m.body)] 45 (0,0)):=by rw [←f];exact heap_alloc_new w _
 have C:aL b j a:=by rw [←i,f];exact ((aL.refl b j).setCell _).setCell _
 have J:a.heap[b]? =some (.cells #[z,.int .i64 m.time,.int .i64 ((S.items.length:Int)+1),.map (some k)] 117 (0,0)):=by
  rw [←i,f];have:=heap_setCell_same _ b 1 _ _ (.int .i64 m.time) (heap_setCell_same j b 2 _ _ (.int .i64 m.id) D.bag);refine Eq.trans this ?_;rw [u.out];rfl
 have r:a.heap[w.heap.size]? =some (.cells #[.int .i64 m.id,.int .i64 m.time,.string (bs m.frm),v,.string (bs m.body)] 45 (0,0)):=aP C L (by rw [H.out];exact fun e=>K e.symm);have d3:a.drew.cell? ⟨b,3,none⟩=some (.map (some k)):=by show a.cell? _=_;rw [Lib.cell_of_heap J];rfl
 have e0:a.drew.cell? ⟨w.heap.size,0,none⟩=some (.int .i64 m.id):=by show a.cell? _=_;rw [Lib.cell_of_heap r];rfl
 have e1:a.drew.cell? ⟨w.heap.size,1,none⟩=some (.int .i64 m.time):=by show a.cell? _=_;rw [Lib.cell_of_heap r];rfl
 have e2:a.drew.cell? ⟨w.heap.size,2,none⟩=some (.string (bs m.frm)):=by show a.cell? _=_;rw [Lib.cell_of_heap r];rfl
 have e3:a.drew.cell? ⟨w.heap.size,3,none⟩=some v:=by show a.cell? _=_;rw [Lib.cell_of_heap r];rfl
 have e4:a.drew.cell? ⟨w.heap.size,4,none⟩=some (.string (bs m.body)):=by show a.cell? _=_;rw [Lib.cell_of_heap r];rfl
 have y:bg a.drew v m.tos.length 1 (aB m.tos):=aF (aA Z.out fun g a0 e _=>aP (C.drew) (ae A e) (fun e'=>by rw [e',E.out.bag] at e;simp at e));have G:=Lib.hid (rN m v a.drew y HZ.out);have p:=Lib.hid (show a.drew.heap[b]? =_ from J);have n:=Lib.hid C.drew;have l:=Lib.hid D;have I:=Lib.hid (show a.drew.heap[w.heap.size]? =_ from r);have F:=Lib.hid (A.mono E.out.le);clear c1 c2 c3 f1 f2 i f J C D r L A y
 go_region_law (first
  | (go_simp;go_at_call 220;refine G.out.mono ?_;rintro e V ⟨Q,g,rfl,M,N,O,t⟩;have a1:V.cell? ⟨b,3,none⟩=some (.map (some k)):=(by rw [Lib.cell_of_heap (ae t p.out)];rfl);have a2:V.cell? ⟨w.heap.size,0,none⟩=some (.int .i64 m.id):=(by rw [Lib.cell_of_heap (ae t I.out)];rfl);have a3:=D7 (Q:=Q) l.out n.out p.out t u.out hn;have Y:=Lib.hid (l.out.added n.out p.out t N M O ht);have W:=Lib.hid (zV l.out n.out t);clear M N O t))
 all_goals
  refine bodyPost_end (results_none rfl _ _ _) rfl ?_;exact ⟨rfl,_,Y.out,(F.out).trans (W.out _)⟩
theorem j8 (d z l:Nat) (q:Nat→Nat) (H n:Value) (S:aa) (a:Nat) (m:List Nat) (w:World) (h:bh d w z l q H S) (C:S.Ok) (D:bg w n m.length 1 (aZ m)) (K:a≤4294967295) (I:1≤m.length) (E:m.length≤255) (Q:S.items.length≤4294967295):
  Calls Tryz.prog 168 #[.pointer (some ⟨z,0,none⟩),.agg #[.int .i64 a,n]] w fun e L=>e= .returned (.bool (bt S a m))∧Below w.heap.size w L:=by
 rw [db I];obtain ⟨b,f⟩:∃b:World,w.alloc (.cells #[.int .i64 a,n] 193)=b:=⟨_,rfl⟩;have p:Below w.heap.size w b:=by rw [←f];exact (Below.refl _ _).alloc (Nat.le_refl _) _
 have o:bh d b z l q H S:=h.keep p;have y:b.heap[w.heap.size]? =some (.cells #[.int .i64 a,n] 193 (0,0)):=by rw [←f];exact heap_alloc_new w _
 have N:b.drew.cell? ⟨z,3,none⟩=some (.map (some l)):=by show b.cell? _=_;rw [Lib.cell_of_heap o.bag];rfl
 have O:b.drew.cell? ⟨w.heap.size,0,none⟩=some (.int .i64 a):=by show b.cell? _=_;rw [Lib.cell_of_heap y];rfl
 have P:b.drew.cell? ⟨w.heap.size,1,none⟩=some n:=by show b.cell? _=_;rw [Lib.cell_of_heap y];rfl
 have c:∀i∈S.live,i < 4294967296:=fun i J=>by have:=bq J;omega
 have s:gh b.drew l q S.live S.items.length:=o.map;have r:=Lib.hid f;have j:=Lib.hid p
 by_cases k:1≤a∧a - 1∈S.live
 ·have B:(Instr.lookup 115 (.map (some l)) (.int .i64 a) true).run Tryz.prog b.drew= .ok (.tuple #[.pointer (some ⟨q (a - 1),0,none⟩),.bool true]) b.drew:=by
   have:=ig (t:=115) (e:=122) fU Tryz.underlying115 s c (a - 1) (by omega) k.2 true;rw [show ((a - 1:Nat):Int)+1=(a:Int) by omega] at this
   exact this
  rw [decide_eq_true k,Bool.true_and];obtain ⟨_,v,x,F,G⟩:=o.mail (a - 1) k.2;have A:=Lib.hid (CK d (q (a - 1)) _ _ _ v n (S.stayOf (a - 1)) m x b.drew F G (D.below p.drew) (by have:=dk C (a - 1);omega) E);clear F G o y p s c D h f;go_enter Tryz.func168,Tryz.ntmps168;go_wp2_with fail
  rw [r.out];go_region
  all_goals
   go_wp2_with fail
   refine A.out.mono ?_;rintro e M ⟨rfl,g⟩;go_wp2_with fail
   go_ret;exact ⟨rfl,j.out.trans ((show Below b.heap.size b M from ⟨g.os,g.tape,g.output,g.size,g.block⟩).mono j.out.size)⟩
 ·have u:a=0∨a - 1 ∉ S.live:=by
   by_cases e:a=0
   ·exact .inl e
   ·exact .inr fun h=>k ⟨by omega,h⟩
  have B:(Instr.lookup 115 (.map (some l)) (.int .i64 a) true).run Tryz.prog b.drew= .ok (.tuple #[.pointer none,.bool false]) b.drew:=by
   by_cases e:a=0
   ·subst e;exact wT (t:=115) (e:=122) fU Tryz.underlying115 (pk _) s c true
   ·have:=rM (t:=115) (e:=122) fU Tryz.underlying115 (pk _) s c (a - 1) (by omega) (u.resolve_left e) true;rw [show ((a - 1:Nat):Int)+1=(a:Int) by omega] at this
    exact this
  rw [decide_eq_false k,Bool.false_and];clear o y p s c D h f u k;go_enter Tryz.func168,Tryz.ntmps168;go_wp2_with fail
  rw [r.out];go_region
  all_goals
   go_wp2_with fail
   go_ret;exact ⟨rfl,j.out.drew⟩
theorem Aj {p:Nat} {w a:World} (h:sc p w.drew a):sc p w a:=⟨h.size,h.block,h.still⟩
theorem pz (d F k:Nat) (q:Nat→Nat) (U J:Value) (S:aa) (K:Nat) (m:List Nat) (w:World) (h:bh d w F k q U S) (a3:S.Ok) (hp:bg w J m.length 1 (aZ m)) (G:K∈S.live) (a4:m.length≤255) (hn:S.items.length≤4294967295):
  Calls Tryz.prog 169 #[.pointer (some ⟨F,0,none⟩),.agg #[.int .i64 ((K:Int)+1),J]] w fun e w'=>∃P,e= .returned P∧w'.ownsRow w.heap.size 9 1 P (dx (S.stayOf K) m).length (aB (dx (S.stayOf K) m))∧bh d w' F k q U (S.outs K m)∧Below d w w':=by
 have a1:=h.le;obtain ⟨f,u⟩:∃f:World,w.alloc (.cells #[.int .i64 ((K:Int)+1),J] 193)=f:=⟨_,rfl⟩;have Q:Below w.heap.size w f:=by rw [←u];exact (Below.refl _ _).alloc (Nat.le_refl _) _
 have L:bh d f F k q U S:=h.keep Q;have N:f.heap[w.heap.size]? =some (.cells #[.int .i64 ((K:Int)+1),J] 193 (0,0)):=by rw [←u];exact heap_alloc_new w _
 have c3:f.drew.cell? ⟨F,3,none⟩=some (.map (some k)):=by show f.cell? _=_;rw [Lib.cell_of_heap L.bag];rfl
 have e0:f.drew.cell? ⟨w.heap.size,0,none⟩=some (.int .i64 ((K:Int)+1)):=by show f.cell? _=_;rw [Lib.cell_of_heap N];rfl
 have e1:f.drew.cell? ⟨w.heap.size,1,none⟩=some J:=by show f.cell? _=_;rw [Lib.cell_of_heap N];rfl
 have p:∀i∈S.live,i < 4294967296:=fun i hi=>by have:=bq hi;omega
 have hM:gh f.drew k q S.live S.items.length:=L.map;have a9:=bq G
 have b0:(Instr.lookup 115 (.map (some k)) (.int .i64 ((K:Int)+1)) false).run Tryz.prog f.drew= .ok (.pointer (some ⟨q K,0,none⟩)) f.drew:=
  ig (t:=115) (e:=122) fU Tryz.underlying115 hM p K (by omega) G false
 obtain ⟨O,v,x,H,hr⟩:=L.mail K G;have W:=Lib.hid (oA d (q K) _ _ _ v J (S.stayOf K) m x f.drew H O hr (hp.below Q.drew) (by have:=dk a3 K;omega) a4);have l:=Lib.hid L;have C:=Lib.hid Q;have Y:=Lib.hid u;have Z:=Lib.hid N;have V:=Lib.hid H;have HL:=Lib.hid p;have a2:q K≠w.heap.size:=fun e=>by unfold dL at H;rw [e,N] at H;simp at H
 clear H hr L N Q hM p hp h u;go_enter Tryz.func169,Tryz.ntmps169;go_wp2_with fail
 rw [Y.out];go_region
 all_goals
  go_wp2_with fail
  refine W.out.mono ?_;rintro e j ⟨P,vs,rfl,z,y,A,n⟩
  obtain ⟨gs,cs,es⟩:∃a c,vs= .slice a (bM (S.stayOf K) m).length c:=by
   rcases A.2 with ⟨e,h0⟩ | ⟨g,a7,a0,e,_⟩
   ·exact ⟨_,_,by rw [h0];exact e⟩
   ·exact ⟨_,_,e⟩
  subst es;have b:sc (q K) f j:=Aj n;have f2:j.cell? ⟨q K,2,none⟩=some (.slice gs (bM (S.stayOf K) m).length cs):=by rw [Lib.cell_of_heap y];rfl
  have D:Hid (Below d w j):=Lib.hid ((C.out.mono a1).trans (b.below O l.out.le))
  by_cases R:bM (S.stayOf K) m=[]
  ·obtain ⟨T,s⟩:=l.out.emptied G b R;have r:(bM (S.stayOf K) m).length=0:=by rw [R];rfl
   have o:∀I:TypeId,(Builtin.delete_ #[115,3] I #[.map (some k),.int .i64 ((K:Int)+1)]).run Tryz.prog j.drew= .ok (.tuple #[]) (ChangeMaps.setBlock j.drew k (.map (cO q (S.live.filter fun i=>decide (i≠K))) S.items.length)):=fun I=>
    Bg (t:=115) (e:=122) fU Tryz.underlying115 (w:=j.drew) (c:=S.items.length) T HL.out (gJ S) K (by omega) G
   have A3:Hid (bh d (ChangeMaps.setBlock j.drew k (.map (cO q (S.live.filter fun i=>decide (i≠K))) S.items.length)) F k q U (S.outs K m)):=Lib.hid ⟨s.bag,s.map,s.pbb,s.mbb,s.one,s.mail⟩;have S3:=gd (w:=j.drew) T (.map (cO q (S.live.filter fun i=>decide (i≠K))) S.items.length);have B:=Lib.hid (aA (w:=j.drew) z.drew fun g a0 e _=>aP S3 e fun e'=>by rw [e'] at e;rw [show j.drew.heap[k]? =_ from T] at e;simp at e);have M:=Lib.hid (D.out.drew.trans (S3.below l.out.mbb));obtain ⟨w3,E⟩:∃w3,ChangeMaps.setBlock j.drew k (.map (cO q (S.live.filter fun i=>decide (i≠K))) S.items.length)=w3:=⟨_,rfl⟩;rw [E] at A3 B M;have a5:∀I:TypeId,(Builtin.delete_ #[115,3] I #[.map (some k),.int .i64 ((K:Int)+1)]).run Tryz.prog j.drew= .ok (.tuple #[]) w3:=fun I=>by rw [o I,E]
   have a6:j.drew.cell? ⟨F,3,none⟩=some (.map (some k)):=by
    show j.cell? _=_;rw [Lib.cell_of_heap (gN b l.out.bag (fun e=>by have:=V.out;unfold dL at this;rw [←e,l.out.bag] at this;simp at this))];rfl
   have a8:j.drew.cell? ⟨w.heap.size,0,none⟩=some (.int .i64 ((K:Int)+1)):=by
    show j.cell? _=_;rw [Lib.cell_of_heap (gN b Z.out (fun e=>a2 e.symm))];rfl
   rw [r] at f2;clear n b y A z s T S3 D r E o;go_wp2_with fail
   go_region
   all_goals
    go_wp2_with fail
    go_ret;exact ⟨P,rfl,B.out.mono (by have:=C.out.size;exact this),A3.out,M.out⟩
  ·have s:=Lib.hid (l.out.left G b y A R)
   have r:(((bM (S.stayOf K) m).length:Int) == 0)=false:=by
    rw [beq_eq_false_iff_ne];intro e;exact R (List.eq_nil_of_length_eq_zero (by omega))
   have X:=Lib.hid z;clear n b y A z;go_wp2_with fail
   go_ret;exact ⟨P,rfl,X.out.mono (by have:=C.out.size;exact this),s.out,D.out⟩
def fH.pot (x:fH):Nat:=(stay x.m.tos x.out).length * (if x.m.frm=[] then 1 else 2)
def aa.pot (S:aa):Nat:=(S.items.map fH.pot).sum
theorem vJ (f:fH→fH) (g:fH→Nat):∀(l:List fH) (k:Nat) (h:k < l.length),((l.modify k f).map g).sum+g l[k]=(l.map g).sum+g (f l[k])
 | [],_,h=>by simp at h
 | x::l,0,_=>by simp [List.modify];omega
 | x::l,k+1,h=>by
  have:=vJ f g l k (by simpa using h);simp only [List.modify_succ_cons,List.map_cons,List.sum_cons,List.getElem_cons_succ];omega
theorem Ip (S:aa) (m:aX):(S.plus m).pot=S.pot+m.tos.length * (if m.frm=[] then 1 else 2):=by
 unfold aa.pot aa.plus;rw [List.map_append,List.sum_append];simp only [List.map_cons,List.map_nil,List.sum_cons,List.sum_nil,Nat.add_zero,fH.pot];rw [nH,List.length_map,List.length_range]
theorem IA {l:List (Nat×List UInt8)} {a:List Nat} {x:Nat} (d:x∈a) (h:(l.any fun r=>decide (r.1=x))=true):(bM l a).length+1≤l.length:=by
 obtain ⟨r,c,e⟩:=List.any_eq_true.1 h;have e:r.1=x:=by simpa using e
 unfold bM;refine Nat.lt_of_le_of_ne (List.length_filter_le _ _) (fun b=>?_);have:=(List.length_filter_eq_length_iff.1 b) r c;rw [e] at this;simp at this;exact this d
theorem Bu {S:aa} {a:Nat} {b:List Nat} (g:1≤b.length) (f:bt S a b=true):(S.outs (a - 1) b).pot+(if (S.mailOf (a - 1)).frm=[] then 1 else 2)≤S.pot:=by
 rw [db g,Bool.and_eq_true,decide_eq_true_eq] at f;obtain ⟨⟨_,m⟩,k⟩:=f;have c:=bq m
 obtain ⟨x,h⟩:∃x,x∈b:=by
  cases b with
  | nil=>simp at g
  | cons x l=>exact ⟨x,by simp⟩
 have n:=IA h (List.all_eq_true.1 k x h);have d:=vJ (fun x=>⟨x.m,jV x.out b⟩) fH.pot S.items (a - 1) c
 have i:fH.pot ⟨S.items[a - 1].m,jV S.items[a - 1].out b⟩=(bM (S.stayOf (a - 1)) b).length * (if (S.mailOf (a - 1)).frm=[] then 1 else 2):=by
  unfold fH.pot;rw [cd c,gT c];unfold bM;rw [←rV]
 have j:fH.pot S.items[a - 1]=(S.stayOf (a - 1)).length * (if (S.mailOf (a - 1)).frm=[] then 1 else 2):=by
  unfold fH.pot;rw [cd c,gT c]
 rw [i,j] at d;show ((S.items.modify (a - 1) _).map fH.pot).sum+_≤(S.items.map fH.pot).sum
 split at d
 ·rename_i e;rw [if_pos e];omega
 ·rename_i e;rw [if_neg e];omega
theorem ya {S d:aa} {T b:Nat} {c:List Nat} (j:1≤c.length) (a:S.takesF T b c=some d):d.pot+1≤S.pot∧d.items.length+d.pot≤S.items.length+S.pot∧d.time=T:=by
 unfold aa.takesF at a
 split at a
 ·rename_i g
  rw [Bool.and_eq_true] at g;have f:=Bu j g.1;have i:=bL S (b - 1) c;injection a with a;unfold aa.failed at a
  split at a
  ·rename_i e
   rw [if_pos e] at f;subst a;have k:(aa.mk (S.outs (b - 1) c).items T).pot=(S.outs (b - 1) c).pot:=rfl;have l:(aa.mk (S.outs (b - 1) c).items T).items.length=S.items.length:=i;exact ⟨by omega,by omega,rfl⟩
  ·rename_i e
   rw [if_neg e] at f;subst a;refine ⟨?_,?_,rfl⟩
   all_goals
    simp only [aa.pot,List.map_append,List.sum_append,List.map_cons,List.map_nil,List.sum_cons,List.sum_nil,List.length_append,List.length_cons,List.length_nil];have h:fH.pot ⟨⟨(S.outs (b - 1) c).items.length+1,T,[],[(S.mailOf (b - 1)).frm],Ai (S.mailOf (b - 1)).tos c⟩,[false]⟩=1:=rfl;rw [h];unfold aa.pot at f;omega
 ·cases a
def zP (S:aa) (recs:List UInt8):Prop:=∃M,M≤1000000∧M≤recs.length∧S.items.length+S.pot≤M∧recs.length+200 * S.pot≤201 * M
theorem zP.items {S:aa} {a:List UInt8} (h:zP S a):S.items.length≤1000000:=by
 obtain ⟨M,b,c,d,e⟩:=h;omega
theorem zP.len {S:aa} {a:List UInt8} (h:zP S a):a.length≤201000000:=by
 obtain ⟨M,b,c,d,e⟩:=h;omega
theorem zP.nil (T:Nat):zP ⟨[],T⟩ []:=⟨0,by omega,by simp,by simp [aa.pot],by simp [aa.pot]⟩
theorem zP.plus {S:aa} {a l:List UInt8} {m:aX} (h:zP S a) (k:m.tos.length≤10) (i:21+m.tos.length≤l.length) (j:a.length+l.length≤1000000):zP (S.plus m) (a++l):=by
 obtain ⟨M,c,d,f,g⟩:=h;have e:=Ip S m;have b:m.tos.length * (if m.frm=[] then 1 else 2)≤m.tos.length * 2:=Nat.mul_le_mul_left _ (by split <;> omega)
 refine ⟨M+l.length,by omega,by rw [List.length_append];omega,by rw [dv];omega,?_⟩
 rw [List.length_append];omega
theorem zP.less {S b:aa} {a l:List UInt8} (h:zP S a) (g:b.pot+1≤S.pot) (i:b.items.length+b.pot≤S.items.length+S.pot) (j:l.length≤200):zP b (a++l):=by
 obtain ⟨M,c,d,e,f⟩:=h;exact ⟨M,c,by rw [List.length_append];omega,by omega,by rw [List.length_append];omega⟩
theorem F4 (l:List (List UInt8)):l.length≤(eE l).length:=by
 induction l with
 | nil=>simp
 | cons t l ih=>
  show (t::l).length≤(jC t++eE l).length;rw [List.length_append,yi,List.length_cons];omega
theorem GL (m:aX):21+m.tos.length≤(bJ (cA m)).length:=by
 have:=F4 m.tos;unfold bJ cA;simp only [List.length_append,List.length_cons,bf,yi];omega
theorem pM {id T:Nat} {a:List Nat} (h:a.length≤100):(bJ (71::aM id a)).length≤200∧(bJ (70::(az 4 T++aM id a))).length≤200:=by
 unfold bJ aM;simp only [List.length_append,List.length_cons,bf,jd];omega
end Go.Proofs.YtofpegbpgkkgkaaGreatDoor
