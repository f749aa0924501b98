import Derived.Test.YtofpegbpgkkgkaaGreatDoorS21
namespace Go.Proofs.YtofpegbpgkkgkaaGreatDoor
set_option maxHeartbeats 8000000
set_option maxRecDepth 1000000
open Go.RowKit
theorem FO {w:World} {b n d:Nat} {a:Array Value} {t:TypeId} {z:Nat×Nat} (h:w.heap[b]? =some (.cells a t z)) (e:a.size=n * d):bg w (.slice (some ⟨b,0,none⟩) n n) n d a.toList:=by
 refine ⟨by simpa using e,.inr ⟨b,0,n,rfl,Nat.le_refl _,fun j f=>?_⟩⟩
 rw [Nat.zero_add,Lib.cell_of_heap h,Array.getElem?_toList]
theorem wM (w:World):Calls Tryz.prog 31 #[] w fun e a=>∃v,e= .returned v∧bg a v 32 1 (aB kA)∧Below w.heap.size w a:=by
 go_enter Tryz.func31,Tryz.ntmps31;go_wp2_with fail
 go_ret;refine ⟨_,rfl,?_,(Below.refl _ _).alloc (Nat.le_refl _) _⟩;exact FO (heap_alloc_new w _) rfl
theorem Au (c:UInt8):∀l:List UInt8,(cz c l).1.length+(cz c l).2.1.length≤l.length
 | []=>Nat.le_refl _
 | b::r=>by
  have:=Au c r
  by_cases a:b=c
  ·simp [cz,a]
  ·simp only [cz,a,if_false,List.length_cons];omega
theorem Cf (l:List UInt8):(fq l).1.length+(fq l).2.1.length≤l.length:=by
 unfold fq
 split
 ·have:=Au 64 l;simpa [Lib.toLowerA] using this
 ·simp
theorem pR (l:List UInt8) (m:Int) (w:World) (A:10≤l.length) (B:l.length≤1000) (k:w.cell? ⟨0,0,none⟩=some (.int .i64 m)):
  Calls Tryz.prog 56 #[.string (bs l)] w fun e u=>e= .returned (.string (bs (fV l)))∧Below w.heap.size w u:=by
 have F:=aG l;obtain ⟨t,b⟩:∃t,(l.take (l.length - 1)).drop 9=t:=⟨_,rfl⟩;have D:(bs l).extract 9 (l.length - 1)=bs t:=by rw [fW,b]
 have d:=zW (bs t) m w (by rw [aG,←b,List.length_drop,List.length_take];omega) k;rw [aI] at d;have n:=Lib.hid d;have q:Hid (fV l=(fq t).1++[64]++(fq t).2.1):=Lib.hid (by unfold fV;rw [b]);have C:IntKind.i64.wrap ((l.length:Int) - 1)=((l.length - 1:Nat):Int):=by rw [IntKind.wrap_i64];omega
 have v:(9:Int)≤((l.length - 1:Nat):Int):=by omega
 have z:((l.length - 1:Nat):Int)≤(l.length:Int):=by omega
 have i:Hid (t.length≤1000):=Lib.hid (by rw [←b,List.length_drop,List.length_take];omega);clear b d k;go_enter Tryz.func56,Tryz.ntmps56;go_wp2_with fail
 refine n.out.mono ?_;rintro e G ⟨x,y,f,rfl,h,j⟩;have a:=Cf t;rw [h] at a;have r:x.size≤1000:=by have e:x.data.toList.length=x.size:=fE x;have:=i.out;simp only at a;omega
 have s:y.size≤1000:=by have e:y.data.toList.length=y.size:=fE y;have:=i.out;simp only at a;omega
 have p:=Lib.hid h;have o:=Lib.hid j;clear h j a;go_wp2_with fail
 go_ret;refine ⟨?_,o.out⟩;rw [q.out,p.out,←cE,←cE];rfl
section
variable {E own:Nat→Prop} {pp gb:Nat} {c:bX} {w:World} {vS vM:Value} {sl:List (ca×Value)} {ml:List (aX×Value)} {g:GS}
theorem iz (h:gX E own pp gb c w vS vM sl ml g) (n:Int) (N: -9223372036854775808≤n) (O:n≤9223372036854775807) (T:sl.length≤100):
  Calls Tryz.prog 30 #[.pointer (some ⟨gb,0,none⟩),.int .i64 n] w fun e l=>∃r:Int,e= .returned (.int .i64 r)∧(r= -1∨∃k:Nat,r=k∧∃v:k < sl.length,sl[k].1.closed=false)∧Below w.heap.size w l:=by
 have F:gb < w.heap.size:=(h.off gb (.inl rfl)).1;have f:=h.cells.2.1;obtain ⟨a,o,D⟩:=aE (aF h.srow);rw [D] at f
 have M:Hid (∀k (v:k < sl.length),∃sb,a=some ⟨sb,0,none⟩∧sb < w.heap.size∧w.cell? ⟨sb,k * 5+3,none⟩=some (.bool sl[k].1.closed)):=Lib.hid fun k v=>by
  obtain ⟨sb,I,e,P,_⟩:=h.seat v;have J:=D;rw [e] at J;injection J with e1 _ _;exact ⟨sb,e1.symm,(kD h.srow (by rw [e];rfl)).2,P 3 (by decide)⟩
 have x:=Lib.hid f;clear h f D;go_enter Tryz.func30,Tryz.ntmps30;go_wp2_with fail
 go_loopw [5] (fun i l=>∃k:Nat,k≤sl.length∧i= .int .i64 k∧Hid (Below w.heap.size w l)) (fun i _=>sl.length - (intOf i).toNat)
 case atStart=>exact ⟨0,Nat.zero_le _,rfl,Lib.hid (Below.refl _ _)⟩
 case round=>
  obtain ⟨k,v,rfl,m⟩:=hrel;have B:wr.cell? ⟨gb,10,none⟩=some (.slice a sl.length o):=(m.out.cell F).trans x.out
  by_cases q:k < sl.length
  ·have s:(k:Int) < (sl.length:Int):=by omega
   obtain ⟨p,C⟩:∃p,cM n (sl.length:Int)=p:=⟨_,rfl⟩;have H:=dt n (n:=(sl.length:Int)) (by omega);rw [C] at H;have z:Hid (∀W:World,Calls Tryz.prog 20 #[.int .i64 n,.int .i64 (sl.length:Int)] W fun e l=>e= .returned (.int .i64 p)∧W=l):=Lib.hid (fun W=>by have:=bZ n (sl.length:Int) W N O (by omega) (by omega);rw [C] at this;exact this)
   obtain ⟨d,K⟩:∃d:Nat,(p+(k:Int)).tmod (sl.length:Int)=(d:Int):=⟨((p+(k:Int)) % (sl.length:Int)).toNat,by
    rw [Int.tmod_eq_emod_of_nonneg (by omega)];have:=Int.emod_nonneg (p+(k:Int)) (show (sl.length:Int)≠0 by omega)
    omega⟩
   have t:d < sl.length:=by
    have:=Int.emod_lt_of_pos (p+(k:Int)) (show (0:Int) < sl.length by omega);rw [Int.tmod_eq_emod_of_nonneg (by omega)] at K;omega
   have U:IntKind.i64.wrap (p+(k:Int))=p+(k:Int):=by rw [IntKind.wrap_i64];omega
   have Q:¬(sl.length:Int)=0:=by omega
   have R:(d:Int) < (sl.length:Int):=by omega
   have L:¬sl=[]:=fun e=>by rw [e] at q;cases q
   have X:IntKind.i64.wrap ((p+(k:Int)).tmod (sl.length:Int))=(d:Int):=by rw [K,IntKind.wrap_i64];omega
   have Y:IntKind.i64.wrap (d:Int)=(d:Int):=by rw [IntKind.wrap_i64];omega
   obtain ⟨sb,rfl,G,b⟩:=M.out d t;obtain ⟨u,j⟩:∃u,sl[d].1.closed=u:=⟨_,rfl⟩;rw [j] at b;have S:wr.cell? ⟨sb,d * 5+3,none⟩=some (.bool u):=(m.out.cell G).trans b;have y:=Lib.hid j;have A:=Lib.hid t;clear C H b j;go_wp2_with fail
   go_region_held3 (fun l=>l.cell? ⟨gb,10,none⟩=some (.slice (some ⟨sb,0,none⟩) sl.length o)) (exact B)
    (first | (go_at_call 20;refine (z.out _).mono ?_;rintro e V ⟨rfl,rfl⟩))
   cases u with
   | false=>
    go_wp2_with fail
    go_ret;exact ⟨d,rfl,.inr ⟨d,rfl,A.out,y.out⟩,m.out.drew⟩
   | true=>
    go_wp2_with fail
    exact ⟨⟨k+1,by omega,by go_num,Lib.hid m.out.drew⟩,by simp [intOf];omega⟩
  ·have s:¬(k:Int) < (sl.length:Int):=by omega
   go_wp2_with fail
   go_ret;exact ⟨-1,rfl,.inl rfl,m.out⟩
theorem pT (h:gX E own pp gb c w vS vM sl ml g) {k:Nat} (hk:k < sl.length) {x:ca} {v:Value} (hx:sl[k]=(x,v)) (ha:0≤x.addr∧x.addr < 1000) {ml0:List (aX×Value)} {m:aX} {u:Value} (hm:ml=ml0++[(m,u)]) (b6:ml.length≤1048576) (hz:m.tos.length≤255) (a6:∀t∈m.tos,t.length≤255) (H:∀t∈m.tos,uK x t=true) (_:sl.length≤100):
  Calls Tryz.prog 54 #[.pointer (some ⟨gb,0,none⟩),.int .i64 (k:Int)] w fun e w'=>e= .returned (.tuple #[])∧Below w.heap.size w w':=by
 have z:=h.cells.2.1;have B:=h.cells.2.2.1;obtain ⟨sb,b8,ev,O,_⟩:=h.seat hk;rw [hx] at O;rw [ev] at z;have s0:w.cell? ⟨sb,k * 5,none⟩=some (.int .i64 x.addr):=O 0 (by decide);have s1:w.cell? ⟨sb,k * 5+1,none⟩=some (.bool x.known):=O 1 (by decide);have s2:w.cell? ⟨sb,k * 5+2,none⟩=some (.bool x.inside):=O 2 (by decide);have s3:w.cell? ⟨sb,k * 5+3,none⟩=some (.bool x.closed):=O 3 (by decide);have s4:w.cell? ⟨sb,k * 5+4,none⟩=some v:=O 4 (by decide);obtain ⟨av,cv,C⟩:=aE (h.stos (x,v) (by rw [←hx];exact List.getElem_mem hk)).row;have C:v= .slice av x.tos.length cv:=C;rw [C] at s4;have I:ml.length=ml0.length+1:=by rw [hm,List.length_append];rfl
 obtain ⟨s,K,q,em,a3,F⟩:∃s K q,vM= .slice (some ⟨s,0,none⟩) ml.length K∧w.heap[s]? =some (.cells q 45 (0,0))∧q.toList.take (ml.length * 5)=fJ ml:=by
  rcases h.mrow.2 with ⟨_,h0⟩ | ⟨g',cp,q,e,_,hg,_,_,_,F⟩
  ·omega
  ·exact ⟨g',cp,q,e,hg,F⟩
 have R:∀i,i < 5→w.cell? ⟨s,ml0.length * 5+i,none⟩=(aY m u)[i]? :=fun i hi=>by
  rw [Lib.cell_of_heap a3,←Array.getElem?_toList,←List.getElem?_take_of_lt (show ml0.length * 5+i < ml.length * 5 by omega),F,lU _ _ _ (by omega) hi];have e:ml[ml0.length]'(by omega)=(m,u):=by simp [hm]
  rw [e]
 rw [em] at B;have ht:=(h.mtos (m,u) (by rw [hm];simp)).row;obtain ⟨p,ct,eu,J⟩:=ht.one;have m0:w.cell? ⟨s,ml0.length * 5,none⟩=some (.int .i64 m.id):=R 0 (by decide);have m1:w.cell? ⟨s,ml0.length * 5+1,none⟩=some (.int .i64 m.time):=R 1 (by decide);have m2:w.cell? ⟨s,ml0.length * 5+2,none⟩=some (.string (bs m.frm)):=R 2 (by decide);have m3:w.cell? ⟨s,ml0.length * 5+3,none⟩=some (.slice p m.tos.length ct):=by rw [R 3 (by decide)];exact congrArg some eu
 have m4:w.cell? ⟨s,ml0.length * 5+4,none⟩=some (.string (bs m.body)):=R 4 (by decide)
 have a9:Hid (∀j (hj:j < m.tos.length),∃b o,p=some ⟨b,o,none⟩∧b < w.heap.size∧w.cell? ⟨b,o+j,none⟩=some (.string (bs m.tos[j]))):=Lib.hid fun j hj=>by
  obtain ⟨b,o,e,hb,b3⟩:=J j hj;exact ⟨b,o,e,hb,by rw [b3,eh _ _ hj]⟩
 have HA:=Lib.hid H;have b0:=Lib.hid a6;have S:=Lib.hid ha;have b4:(k:Int) < (sl.length:Int):=by omega
 have a7:IntKind.i64.wrap ((ml.length:Int) - 1)=(ml0.length:Int):=by rw [I,IntKind.wrap_i64];omega
 have a4:(ml0.length:Int) < (ml.length:Int):=by omega
 obtain ⟨n0,Y⟩:∃n,ml0.length=n:=⟨_,rfl⟩;obtain ⟨n1,Z⟩:∃n,ml.length=n:=⟨_,rfl⟩;obtain ⟨n2,a0⟩:∃n,sl.length=n:=⟨_,rfl⟩;rw [Y] at m0 m1 m2 m3 m4 a7 a4;rw [Z] at B a7 a4;rw [a0] at z b4;have b7:sb < w.heap.size:=aC s0;have f:s < w.heap.size:=aC m0;have a1:gb < w.heap.size:=aC z;clear C h O hx hm b6 I F a3 R ht eu J H a6 ha Y Z a0 hk ev em;obtain ⟨A,eA⟩:∃A,x.addr.tdiv 256=A:=⟨_,rfl⟩;have hA:A=x.addr / 256:=by rw [←eA];exact Int.tdiv_eq_ediv_of_nonneg S.out.1
 have b2:0≤A∧A < 1000:=by have:=S.out;omega
 have wA:IntKind.i64.wrap A=A:=by rw [IntKind.wrap_i64];omega
 have a8:=Lib.hid hA;clear hA b2;go_enter Tryz.func54,Tryz.ntmps54;go_wp2_with fail
 obtain ⟨M,r⟩:∃W:World,w.alloc (.cells #[.int .i64 x.addr,.bool x.known,.bool x.inside,.bool x.closed,.slice av x.tos.length cv] 51)=W:=⟨_,rfl⟩;have Q:M.heap[w.heap.size]? =some (.cells #[.int .i64 x.addr,.bool x.known,.bool x.inside,.bool x.closed,.slice av x.tos.length cv] 51 (0,0)):=by rw [←r];exact heap_alloc_new w _
 have G:Below w.heap.size w M:=by rw [←r];exact (Below.refl _ _).alloc (Nat.le_refl _) _
 have z0:M.heap.size=w.heap.size+1:=by rw [←r];simp
 rw [r];have b1:=(G.cell a1).trans B;have e0:=(G.cell f).trans m0;have e1:=(G.cell f).trans m1;have e2:=(G.cell f).trans m2;have e3:=(G.cell f).trans m3;have e4:=(G.cell f).trans m4;have L:=Lib.hid G;have V:=Lib.hid Q;clear r G Q z B s0 s1 s2 s3 s4 m0 m1 m2 m3 m4;go_region
 obtain ⟨N,D⟩:∃W:World,(M.alloc (.cells #[.int .i64 m.id,.int .i64 m.time,.string (bs m.frm),.slice p m.tos.length ct,.string (bs m.body)] 45)).drew=W:=⟨_,rfl⟩;have X1:N.heap[w.heap.size+1]? =some (.cells #[.int .i64 m.id,.int .i64 m.time,.string (bs m.frm),.slice p m.tos.length ct,.string (bs m.body)] 45 (0,0)):=by rw [←D,←z0];exact heap_alloc_new M _
 have B1:Below M.heap.size M N:=by rw [←D];exact ((Below.refl _ _).alloc (Nat.le_refl _) _).drew
 rw [D];have Q:=ae B1 V.out;have f3:N.cell? ⟨w.heap.size+1,3,none⟩=some (.slice p m.tos.length ct):=by rw [Lib.cell_of_heap X1];rfl
 have f0:N.cell? ⟨w.heap.size,0,none⟩=some (.int .i64 x.addr):=by rw [Lib.cell_of_heap Q];rfl
 have f1:N.cell? ⟨w.heap.size,1,none⟩=some (.bool x.known):=by rw [Lib.cell_of_heap Q];rfl
 have T:=Lib.hid (L.out.trans (B1.mono L.out.size));clear D Q X1 B1 V L b1 e0 e1 e2 e3 e4;go_wp2_with fail
 go_loop [6] (fun i=>∃j:Nat,j≤m.tos.length∧i= .int .i64 j) (fun i=>m.tos.length - (intOf i).toNat)
 case atStart=>exact ⟨0,Nat.zero_le _,rfl⟩
 case round=>
  obtain ⟨j,hj,rfl⟩:=hrel
  by_cases P:j < m.tos.length
  ·have a2:(j:Int) < (m.tos.length:Int):=by omega
   obtain ⟨b,o,rfl,hb,l⟩:=a9.out j P;have l:N.cell? ⟨b,o+j,none⟩=some (.string (bs m.tos[j])):=(T.out.cell hb).trans l;have a:=HA.out m.tos[j] (List.getElem_mem P);have a5:=b0.out m.tos[j] (List.getElem_mem P)
   generalize m.tos[j]=t at l a a5
   have HD:=uv (bs t) N (by rw [aG];omega);rw [aI] at HD;unfold uK xJ at a;obtain ⟨d,ed⟩:∃d,ET t=d:=⟨_,rfl⟩;rw [ed] at HD a;have y:=Lib.hid HD;obtain ⟨kn,X⟩:∃kn,x.known=kn:=⟨_,rfl⟩;rw [X] at a f1;rw [←a8.out] at a;have U:=Lib.hid a;clear HD a ed a5 X
   by_cases d1:d=[97,46,111,114,103]
   ·subst d1;go_wp2_with fail
    refine y.out.mono ?_;rintro e w2 ⟨rfl,rfl⟩;go_wp2_with fail
    exact ⟨⟨j+1,by omega,by go_num⟩,by simp [intOf];omega⟩
   ·by_cases d2:d=[98,46,110,101,116]
    ·subst d2;go_wp2_with fail
     refine y.out.mono ?_;rintro e w2 ⟨rfl,rfl⟩;go_wp2_with fail
     exact ⟨⟨j+1,by omega,by go_num⟩,by simp [intOf];omega⟩
    ·by_cases d3:A=1
     ·subst d3;go_wp2_with fail
      refine y.out.mono ?_;rintro e w2 ⟨rfl,rfl⟩;go_wp2_with fail
      exact ⟨⟨j+1,by omega,by go_num⟩,by simp [intOf];omega⟩
     ·have b5:kn=true:=by
       have h:=U.out;unfold Ke Ki at h;rw [beq_eq_false_iff_ne.2 d1,beq_eq_false_iff_ne.2 d2,decide_eq_false d3] at h;simpa using h
      subst b5;go_wp2_with fail
      refine y.out.mono ?_;rintro e w2 ⟨rfl,rfl⟩;go_wp2_with fail
      exact ⟨⟨j+1,by omega,by go_num⟩,by simp [intOf];omega⟩
  ·have a2:¬(j:Int) < (m.tos.length:Int):=by omega
   go_wp2_with fail
   refine bodyPost_end (results_none rfl _ _ _) rfl ?_;exact ⟨rfl,T.out⟩
end
section
variable {E own:Nat→Prop} {pp gb:Nat} {c:bX} {w:World} {vS vM:Value} {sl:List (ca×Value)} {ml:List (aX×Value)} {g:GS} {n:Nat} {s:bG} {x:ca}
theorem Cm (C y:List UInt8):((bs C).toList == y)=(C == y):=by rw [ByteArray.toList_eq,aI]
theorem Gh.cells {l:List UInt8} {a:Nat→Prop} {e:World} {sb f:Nat} {v:Value} (m:Gh E own pp gb c w vS vM sl ml g n s l a e) (o:n < sl.length) (p:sl[n]=(x,v)) (q:vS= .slice (some ⟨sb,0,none⟩) sl.length f):(∀i,i < 5→e.cell? ⟨sb,n * 5+i,none⟩=(di x v)[i]?)∧(∀j,e.frozen? ⟨sb,j,none⟩=false)∧iE E a gb vS vM e x.tos v:=by
 obtain ⟨t,k,b,d,h⟩:=m.at_.seat o;rw [q] at b;injection b with ev1 _ _;injection ev1 with ev1;injection ev1 with ev1;subst ev1;refine ⟨fun i r=>by rw [d i r,p],h,?_⟩
 have:=m.at_.stos sl[n] (List.getElem_mem o);rw [p] at this;exact this
theorem Iu (Z:dX c) (h:gX E own pp gb c w vS vM sl ml g) (hi:hJ g) (hs:g.l[n]? =some (some s)) (hx:g.seats[n]? =some x) (B:x.inside=true):
  Calls Tryz.prog 32 #[.pointer (some ⟨gb,0,none⟩),.int .i64 (n:Int),.string (bs [46])] w fun e w'=>e= .returned (.tuple #[])∧cX E own pp gb c w vS vM (fI c g n s x [46]) w':=by
 have f:=pZ (l:=[46]) (by decide);have G:km x s:=hi.seat n x _ hx hs;obtain ⟨hn,v,hv⟩:=qx h hx;have c0:=h.cells.1;have b6:=h.cells.2.1;obtain ⟨sb,f9,ev,_,_⟩:=h.seat hn;rw [ev] at b6;have HR:=qW h hs f G;have c7:=h.post.inv hs;obtain ⟨i1,_,i3⟩:=iU Z.may (h.post.inv hs) [46] false (by decide);have X:=i3.2;have h4:=(xR (c:=c) (S:=g.S) (recs:=g.recs) (l:=[46]) G B).2 rfl;obtain ⟨q1,q2,q3⟩:=qR (S:=g.S) (recs:=g.recs) f Z.doms G;unfold po at q3
 have eG:fI c g n s x [46]={fN c g n s [46] with seats:=g.seats.set n {x with inside:=false,tos:=[]},mails:=g.mails++fL x [46] (aO c s g.S g.recs [46] false).2.2.2.flatten,bad:=false}:=by
  unfold fI fN;have e1:∀O,gH x [46] O={x with inside:=false,tos:=[]}:=fun O=>by unfold gH;rw [if_neg (fun e=>e.2 rfl),if_pos B]
  rw [e1,q2,hi.bad];rfl
 rw [eG];have j:=i1.len.items;have c8:=i1.recs;have D:=hi.more;obtain ⟨O,eO⟩:∃O,(aO c s g.S g.recs [46] false).2.2.2.flatten=O:=⟨_,rfl⟩;rw [eO] at h4 X HR q2 q3 ⊢;obtain ⟨C,eC⟩:∃C,O.take 3=C:=⟨_,rfl⟩;have g7:(bs O).extract 0 3=bs C:=by rw [fW,List.drop_zero,eC]
 have d:dd O=C:=by unfold dd;rw [if_pos h4,eC]
 have g5:=aG O;have g4:(4:Int)≤(O.length:Int):=by omega
 have g0:(3:Int)≤(O.length:Int):=by omega
 have b4:=Lib.hid HR;have f1:(n:Int) < (sl.length:Int):=by omega
 have A1:=Lib.hid (bO [46] (by decide) ⟨#[65,85,84,72]⟩ (by decide) false rfl);have A2:=Lib.hid (bO [46] (by decide) ⟨#[82,67,80,84]⟩ (by decide) false rfl);have A3:=Lib.hid (bO [46] (by decide) ⟨#[81,85,73,84]⟩ (by decide) false rfl);have A4:=Lib.hid (bO [46] (by decide) ⟨#[82,83,69,84]⟩ (by decide) false rfl);have A5:=Lib.hid (bO [46] (by decide) ⟨#[77,65,73,76]⟩ (by decide) false rfl);have A6:=Lib.hid (bO [46] (by decide) ⟨#[72,69,76,79]⟩ (by decide) false rfl);have A7:=Lib.hid (bO [46] (by decide) ⟨#[69,72,76,79]⟩ (by decide) false rfl);have g6:((bs [46]).toList == [46])=true:=by rw [Cm];rfl
 have f7:(bs [46]).size=1:=rfl;obtain ⟨N,eN⟩:∃N,sl.length=N:=⟨_,rfl⟩;rw [eN] at b6 f1;have HV:=Lib.hid hv;have r:=Lib.hid ev;have HN:=Lib.hid hn;have T:=Lib.hid hi;have d1:=Lib.hid B;have b5:=Lib.hid G;have HX:=Lib.hid hx;obtain ⟨P,b8⟩:∃b,((bs C).toList == [50,53,48])=b:=⟨_,rfl⟩
 have HQ:Hid ((P=false∧fL x [46] O=[])∨(P=true∧∃t b,s.tx=some t∧x.tos=t.tos∧fL x [46] O=[⟨g.S.items.length+1,0,[],t.tos,[]⟩]∧(aO c s g.S g.recs [46] false).2.1=g.S.plus (eJ g.S t.frm t.tos b)∧kB O=g.S.items.length+1)):=Lib.hid (by
  rw [←b8,Cm]
  rcases q3 with ⟨a,_,_⟩ | ⟨t,b,a1,a2,_,a4,a5,a6,_,a8⟩
  ·left
   refine ⟨?_,a⟩;rw [beq_eq_false_iff_ne,←d];intro e;unfold fL at a;rw [if_pos ⟨B,rfl,e⟩] at a
   cases a
  ·right
   refine ⟨?_,t,b.text,a1,a4,a5,a6,a8⟩;rw [beq_iff_eq,←d]
   by_cases e:dd O=mf
   ·exact e
   ·unfold fL at a5;rw [if_neg (fun y=>e y.2.2)] at a5
    cases a5)
 have a9:=Lib.hid j;have d9:=Lib.hid c7;have e7:=Lib.hid c8;have d6:=Lib.hid D;have d7:=Lib.hid X;clear HR h hi hs hx G f hv q1 q2 q3 eG Z eN B i1 i3 eC d j c8 D X h4 ev;go_enter Tryz.func32,Tryz.ntmps32;go_wp2_with fail
 refine b4.out.mono ?_;rintro e w1 ⟨rfl,c9,hH⟩;obtain ⟨k1,k2,k3⟩:=hH.cells HN.out HV.out r.out;have d2:w1.cell? ⟨sb,n * 5+2,none⟩=some (.bool true):=by rw [k1 2 (by decide),←d1.out];rfl
 obtain ⟨J,K,c3⟩:=aE k3.row;have d4:w1.cell? ⟨sb,n * 5+4,none⟩=some (.slice J x.tos.length K):=by rw [k1 4 (by decide),←c3];rfl
 have fz:=k2;have L:=Lib.hid hH;have d3:=Lib.hid k3;have f8:=Lib.hid k1;clear hH b4 k1 k2 k3;have P1:=L.out.at_.putS (n:=n) (i:=2) (u:= .bool false) (y:=({x with inside:=false},v)) HN.out (by decide) r.out (by rw [HV.out];rfl) d3.out;have U:=Lib.hid P1;clear P1
 rcases HQ.out with ⟨rfl,hM⟩ | ⟨rfl,t,b,ht,p,hM,hS,F⟩
 ·have HM:=Lib.hid hM;clear HQ hM;go_wp2_with fail
  refine (A1.out _).mono ?_;rintro e q ⟨rfl,rfl⟩;go_wp2_with fail
  refine (A2.out _).mono ?_;rintro e q ⟨rfl,rfl⟩;go_wp2_with fail
  refine (A3.out _).mono ?_;rintro e q ⟨rfl,rfl⟩;go_wp2_with fail
  refine (A4.out _).mono ?_;rintro e q ⟨rfl,rfl⟩;go_wp2_with fail
  refine (A5.out _).mono ?_;rintro e q ⟨rfl,rfl⟩;go_wp2_with fail
  refine (A6.out _).mono ?_;rintro e q ⟨rfl,rfl⟩;go_wp2_with fail
  refine (A7.out _).mono ?_;rintro e q ⟨rfl,rfl⟩;go_wp2_with fail
  refine bodyPost_end (results_none rfl _ _ _) rfl ?_;obtain ⟨p1,p2⟩:=U.out;have H:=p1.putS (n:=n) (i:=4) (u:= .slice none 0 0) (y:=({x with inside:=false,tos:=[]},.slice none 0 0)) (by rw [List.length_set];exact HN.out) (by decide) (by rw [List.length_set];exact r.out) (by rw [List.getElem_set_self];rfl) (iE.nil _);obtain ⟨H,p4⟩:=H
  have H:=H.same (show _=({fN c g n s [46] with seats:=g.seats.set n {x with inside:=false,tos:=[]},mails:=g.mails++fL x [46] O,bad:=false}:GS) by
   show ({fN c g n s [46] with seats:=(g.seats.set n {x with inside:=false}).set n {x with inside:=false,tos:=[]}}:GS)=_;rw [List.set_set,HM.out,List.append_nil,←T.out.bad]
   rfl)
  exact ⟨rfl,cX.called L.out.ho L.out.hc (cX.turned p2 (fun k e=> .inl e) (cX.turned p4 (fun k e=> .inl e) (cX.refl H)))⟩
 ·have f3:x.tos.length≤10:=by
   have:=(d9.out.tx t ht).1.most;rw [p];exact this
  have f4:∀y∈x.tos,y.length≤255:=fun y hy=>by
   have c5:g.S.items.length < (g.S.plus (eJ g.S t.frm t.tos b)).items.length:=by rw [dv];omega
   have hz:=(e7.out);rw [hS] at hz;have hm:dQ ((g.S.plus (eJ g.S t.frm t.tos b)).mailOf g.S.items.length):=by rw [cd c5];exact (hz.sz _ (List.getElem_mem c5)).1
   rw [dN] at hm;exact hm.2.2.2.2.1 y (by rw [p] at hy;exact hy)
  have c6:ml.length+1≤1048576:=by
   have h1:=a9.out;have h2:=d6.out;have h3:=L.out.at_.mlen;rw [hS,dv] at h1;have h4:(fN c g n s [46]).mails.length=g.mails.length:=rfl;omega
  obtain ⟨I,eI⟩:∃I,g.S.items.length+1=I:=⟨_,rfl⟩
  have b1:Hid (∀W:World,Calls Tryz.prog 16 #[.string (bs O)] W fun e w'=>e= .returned (.int .i64 (I:Int))∧W=w'):=Lib.hid fun W=>by
   have:=nh (bs O) W (by rw [aG];have:=d7.out;omega) (by rw [aI,F];have h1:=a9.out;rw [hS,dv] at h1;omega);rw [aI,F,eI] at this;exact this
  rw [eI,←p] at hM;subst c3;obtain ⟨am,cm,eM⟩:=aE (aF L.out.at_.mrow);subst eM;have HM:=Lib.hid hM;have e8:=Lib.hid f3;have e9:=Lib.hid f4;have b0:=Lib.hid b5.out.may;have a7:=Lib.hid b5.out.addr;have f2:=L.out.at_.post.len
  have e6:Hid (sl.length≤100):=Lib.hid (by
   have h1:=L.out.at_.slen;have h2:(fN c g n s [46]).seats.length=g.seats.length:=rfl;have h3:=T.out.len;have h4:(fN c g n s [46]).l.length=g.l.length:=List.length_set ..
   omega)
  clear HQ hM hS F p ht f2 c7 eI;go_wp2_with fail
  refine (A1.out _).mono ?_;rintro e q ⟨rfl,rfl⟩;go_wp2_with fail
  refine (A2.out _).mono ?_;rintro e q ⟨rfl,rfl⟩;go_wp2_with fail
  refine (A3.out _).mono ?_;rintro e q ⟨rfl,rfl⟩;go_wp2_with fail
  refine (A4.out _).mono ?_;rintro e q ⟨rfl,rfl⟩;go_wp2_with fail
  refine (A5.out _).mono ?_;rintro e q ⟨rfl,rfl⟩;go_wp2_with fail
  refine (A6.out _).mono ?_;rintro e q ⟨rfl,rfl⟩;go_wp2_with fail
  refine (A7.out _).mono ?_;rintro e q ⟨rfl,rfl⟩;go_wp2_with fail
  obtain ⟨A,M⟩:∃W:World,w1.setCell ⟨sb,n * 5+2,none⟩ (.bool false)=W:=⟨_,rfl⟩;rw [M];obtain ⟨p1,p2⟩:=U.out;rw [M] at p1 p2;have a3:=p1.below ((Below.refl _ A).drew);have tt:iE E c9 gb vS (Value.slice am ml.length cm) A.drew x.tos (.slice J x.tos.length K):=a3.stos ({x with inside:=false},.slice J x.tos.length K) (List.mem_set hn _);obtain ⟨gm,R,W3,r1,r2,r3,r4,r5,r6⟩:=a3.appM (m:=⟨I,0,[],x.tos,[]⟩) (v:= .slice J x.tos.length K) rfl tt (by omega);have e3:Hid ((Builtin.append_ #[35,35] 35 #[.slice am ml.length cm,.slice (some ⟨A.heap.size,0,none⟩) 1 1]).run Tryz.prog (A.alloc (.cells #[.int .i64 (I:Int),.int .i64 0,.string ⟨#[]⟩,.slice J x.tos.length K,.string ⟨#[]⟩] 45)).drew= .ok (.slice (some ⟨gm,0,none⟩) (ml.length+1) R) W3):=Lib.hid r1;have V:A.cell? ⟨gb,11,none⟩=some (.slice am ml.length cm):=p1.cells.2.2.1
  have e4:A.cell? ⟨sb,n * 5+4,none⟩=some (.slice J x.tos.length K):=by
   rw [←M,World.cell?_setCell_other _ _ _ _ (by intro h;injection h with _ h;omega)];exact d4
  have b7:∀o:Obj,(A.alloc o).cell? ⟨gb,11,none⟩=some (.slice am ml.length cm):=fun o=>(((Below.refl _ A).alloc (Nat.le_refl _) o).cell (aC V)).trans V;have f0:∀o:Obj,(A.alloc o).cell? ⟨sb,n * 5+4,none⟩=some (.slice J x.tos.length K):=fun o=>(((Below.refl _ A).alloc (Nat.le_refl _) o).cell (aC e4)).trans e4;have d8:=Lib.hid p2;have b2:=Lib.hid r4;have b3:=Lib.hid r5;have e5:=Lib.hid r6;clear p1 p2 a3 tt r1 r4 r5 r6 d2 d4 M U
  go_region_law (first
   | (refine gD rfl _ _ 35 35 rfl _ _ _ W3 rfl rfl e3.out ?_)
   | (go_simp;go_at_call 16;refine (b1.out _).mono ?_;rintro e q ⟨rfl,rfl⟩;dsimp only))
  all_goals
   go_wp2_with fail
   obtain ⟨W4,c4⟩:∃W:World,W3.setCell ⟨gb,11,none⟩ (.slice (some ⟨gm,0,none⟩) (ml.length+1) R)=W:=⟨_,rfl⟩;have q4:=b2.out;have q5:=b3.out;rw [c4] at q4 q5 ⊢;have a0:n < (sl.set n ({x with inside:=false},Value.slice J x.tos.length K)).length:=by rw [List.length_set];exact hn
   refine (pT q4 (k:=n) a0 (x:={x with inside:=false}) (v:= .slice J x.tos.length K) (List.getElem_set_self ..) a7.out (ml0:=ml) (m:=⟨I,0,[],x.tos,[]⟩) rfl (by rw [List.length_append,List.length_singleton];exact c6) (by show x.tos.length≤255;have:=e8.out;omega) e9.out (fun y hy=>b0.out y hy) (by rw [List.length_set];exact e6.out)).mono ?_;rintro e w5 ⟨rfl,Y⟩;have q6:=q4.below Y;obtain ⟨g8,f5,c1,Q,f6⟩:=q6.seat a0;have c2:=r.out;rw [c2] at c1;injection c1 with ev1 _ _;injection ev1 with ev1;injection ev1 with ev1;subst ev1;have d5:w5.cell? ⟨sb,n * 5+4,none⟩=some (.slice J x.tos.length K):=by rw [Q 4 (by decide),List.getElem_set_self];rfl
   have e0:=Lib.hid q5;have e2:=Lib.hid q6;have d0:=Lib.hid Y;clear q4 q5 q6 Y Q c4 b2 b3 r2 r3 V b7 e4 f0 c2 fz;go_wp2_with fail
   refine bodyPost_end (results_none rfl _ _ _) rfl ?_;have H:=e2.out.putS (n:=n) (i:=4) (u:= .slice none 0 0) (y:=({x with inside:=false,tos:=[]},.slice none 0 0)) a0 (by decide) (by rw [List.length_set];exact r.out) (by rw [List.getElem_set_self];rfl) (iE.nil _);obtain ⟨H,p4⟩:=H
   have H:=H.same (show _=({fN c g n s [46] with seats:=g.seats.set n {x with inside:=false,tos:=[]},mails:=g.mails++fL x [46] O,bad:=false}:GS) by
    show ({fN c g n s [46] with seats:=(g.seats.set n {x with inside:=false}).set n {x with inside:=false,tos:=[]},mails:=g.mails++[⟨I,0,[],x.tos,[]⟩]}:GS)=_;rw [List.set_set,HM.out,←T.out.bad]
    rfl)
   exact ⟨rfl,cX.called L.out.ho L.out.hc (cX.turned d8.out (fun k e=> .inl e) (cX.from ((Below.refl _ A).drew) (cX.turned e0.out (fun k e=>by
    rcases e with e | e | e
    ·exact .inl (.inl e)
    ·exact .inl (.inr (.inl e))
    ·have e:gm=k:=by simpa [Value.ownBlock] using e
     rw [←e]
     exact e5.out.imp (fun z=> .inr (.inr z)) id) (cX.from d0.out (cX.turned p4 (fun k e=> .inl e) (cX.refl H))))))⟩
end
section
variable {E own:Nat→Prop} {pp gb:Nat} {c:bX} {w:World} {vS vM:Value} {sl:List (ca×Value)} {ml:List (aX×Value)} {g:GS} {n:Nat} {s:bG} {x:ca} {l:List UInt8}
theorem nV {O:List UInt8} {a:ca} (h:g.bad=false) (f:(aO c s g.S g.recs l false).2.2.2.flatten=O) (b:gH x l O=a) (d:fL x l O=[]) (e:dp x l O=false):fI c g n s x l={fN c g n s l with seats:=g.seats.set n a}:=by
 unfold fI fN;rw [f,b,d,e,List.append_nil,h];rfl
theorem IW (l:List (List UInt8)) (t:List UInt8):0 < (jF l t).length:=by
 unfold jF
 split
 ·rename_i h
  cases l with
  | nil=>cases h
  | cons y r=>simp
 ·simp
theorem It (e9:dX c) (h:gX E own pp gb c w vS vM sl ml g) (hi:hJ g) (hs:g.l[n]? =some (some s)) (hx:g.seats[n]? =some x) (hl:l∈LL) (d0:x.inside=false):
  Calls Tryz.prog 32 #[.pointer (some ⟨gb,0,none⟩),.int .i64 (n:Int),.string (bs l)] w fun e w'=>e= .returned (.tuple #[])∧cX E own pp gb c w vS vM (fI c g n s x l) w':=by
 have B:=pZ hl;have c2:km x s:=hi.seat n x _ hx hs;have J:=(uQ B.ok).1;obtain ⟨hn,v,hv⟩:=qx h hx;have c0:=h.cells.1;have e0:=h.cells.2.1;obtain ⟨sb,h0,ev,_,_⟩:=h.seat hn;rw [ev] at e0;have HR:=qW h hs B c2;have d5:=h.post.inv hs;obtain ⟨i1,_,i3⟩:=iU e9.may d5 l false J;have e6:=i3.2;have o:nJ l (aO c s g.S g.recs l false).2.2.2.flatten:=by rw [Hm c2 d0];exact Gu B
 obtain ⟨O,eO⟩:∃O,(aO c s g.S g.recs l false).2.2.2.flatten=O:=⟨_,rfl⟩;rw [eO] at e6 HR o;obtain ⟨h4,o⟩:=o;obtain ⟨C,eC⟩:∃C,O.take 3=C:=⟨_,rfl⟩;have i0:(bs O).extract 0 3=bs C:=by rw [fW,List.drop_zero,eC]
 have W:dd O=C:=by unfold dd;rw [if_pos h4,eC]
 have r:=Lib.hid W;rw [W] at o;have h9:=aG O;have h8:(4:Int)≤(O.length:Int):=by omega
 have h7:(3:Int)≤(O.length:Int):=by omega
 have d9:=Lib.hid HR;have g7:(n:Int) < (sl.length:Int):=by omega
 have hz:=aG l;obtain ⟨D,I,P,V,e1,e2,e3,e4,e5⟩:=uX l;rw [e5] at o;obtain ⟨au,b7⟩:∃b,bu l mg=b:=⟨_,rfl⟩;obtain ⟨rc,c1⟩:∃b,bu l gZ=b:=⟨_,rfl⟩;obtain ⟨qu,b8⟩:∃b,bu l fT=b:=⟨_,rfl⟩;rw [b7,c1,b8] at o;have X:=Lib.hid (bO l J ⟨#[65,85,84,72]⟩ (by decide) au b7);have Y:=Lib.hid (bO l J ⟨#[82,67,80,84]⟩ (by decide) rc c1);have Z:=Lib.hid (bO l J ⟨#[81,85,73,84]⟩ (by decide) qu b8);have A4:=Lib.hid (bO l J ⟨#[82,83,69,84]⟩ (by decide) D e1);have A5:=Lib.hid (bO l J ⟨#[77,65,73,76]⟩ (by decide) I e2);have A6:=Lib.hid (bO l J ⟨#[72,69,76,79]⟩ (by decide) P e3);have A7:=Lib.hid (bO l J ⟨#[69,72,76,79]⟩ (by decide) V e4);obtain ⟨N,eN⟩:∃N,sl.length=N:=⟨_,rfl⟩;rw [eN] at e0 g7;have HV:=Lib.hid hv;have b0:=Lib.hid ev;have a6:=Lib.hid hi;have Q:=Lib.hid d0;have HX:=Lib.hid hx;have f6:=Lib.hid d5;have d8:=Lib.hid B;have f7:=Lib.hid c2;have a9:=Lib.hid e5;have f3:=Lib.hid b7;have a8:=Lib.hid c1;have a7:=Lib.hid b8;have b6:=Lib.hid eO;have f5:=Lib.hid J;have qc:∀y,((bs C).toList == y)=(C == y):=Cm C;have d:=Lib.hid qc;have R:=Lib.hid o;clear HR h hi hs hx c2 B hv e9 e1 e2 e3 e4 e5 b7 c1 b8 eN d0 i1 i3 eC W e6 h4 ev d5 eO qc o;go_enter Tryz.func32,Tryz.ntmps32;go_wp2_with fail
 refine d9.out.mono ?_;rintro e M ⟨rfl,c5,hH⟩;obtain ⟨k1,k2,k3⟩:=hH.cells hn HV.out b0.out;have d1:M.cell? ⟨sb,n * 5+1,none⟩=some (.bool x.known):=k1 1 (by decide);have d2:M.cell? ⟨sb,n * 5+2,none⟩=some (.bool false):=by rw [k1 2 (by decide),←Q.out];rfl
 have d3:M.cell? ⟨sb,n * 5+3,none⟩=some (.bool x.closed):=k1 3 (by decide);obtain ⟨av,cv,g4⟩:=aE k3.row;subst g4;have d4:M.cell? ⟨sb,n * 5+4,none⟩=some (.slice av x.tos.length cv):=k1 4 (by decide);have h2:M.cell? ⟨gb,13,none⟩=some (.bool false):=by rw [hH.at_.cells.2.2.2.2.1,←a6.out.bad];rfl
 have h5:=hH.at_.cells.2.2.2.2.2 13;have fz:=k2;have g6:¬sb=gb:=((hH.at_.tag).1 sb (by rw [b0.out];rfl)).1;have g8:¬gb=sb:=fun e=>g6 e.symm;have U:=Lib.hid hH;have b4:=Lib.hid k3;clear hH d9 k1 k2 k3
 have p:Hid (gH x l O=x→fL x l O=[]→dp x l O=false→cX E own pp gb c w vS vM (fI c g n s x l) M):=Lib.hid fun j A f=>by
  rw [nV a6.out.bad b6.out j A f,BI HX.out];exact cX.called U.out.ho U.out.hc (cX.refl U.out.at_)
 have F:Hid (∀(i:Nat) (u:Value) (y:ca×Value),i < 5→gH x l O=y.1→fL x l O=[]→dp x l O=false→di y.1 y.2=(di x (Value.slice av x.tos.length cv)).set i u→iE E c5 gb vS vM M y.1.tos y.2→cX E own pp gb c w vS vM (fI c g n s x l) (M.setCell ⟨sb,n * 5+i,none⟩ u)):=Lib.hid fun i u y g5 j A f a4 a5=>by
  rw [nV a6.out.bad b6.out j A f];obtain ⟨p1,p2⟩:=U.out.at_.putS (n:=n) (i:=i) (u:=u) (y:=y) hn g5 b0.out (by rw [HV.out];exact a4) a5;exact cX.called U.out.ho U.out.hc (cX.turned p2 (fun k e=> .inl e) (cX.refl p1))
 rcases R.out with ⟨m,L⟩ | ⟨m,ha,L⟩ | ⟨m,hr,L⟩ | ⟨m,hq,L⟩ | ⟨m,hr,hq,L⟩ | ⟨m,hr,hq,L⟩ | ⟨c7,c8,c9,hq⟩
 ·obtain ⟨rfl,rfl,rfl,rfl⟩:D=false∧I=false∧P=false∧V=false:=by revert L;cases D <;> cases I <;> cases P <;> cases V <;> simp
  obtain ⟨j,A,f⟩:=BF (x:=x) (l:=l) (out:=O) Q.out (r.out.trans m);have H:((bs C).toList == [51,53,52])=true:=by rw [d.out,m];rfl
  have G:=Lib.hid (F.out 2 (.bool true) ({x with inside:=true},.slice av x.tos.length cv) (by decide) j A f rfl b4.out);clear R p F j A f m L;go_wp2_with fail
  refine (X.out _).mono ?_;rintro e a ⟨rfl,rfl⟩;go_wp2_with fail
  refine (Y.out _).mono ?_;rintro e a ⟨rfl,rfl⟩;go_wp2_with fail
  refine (Z.out _).mono ?_;rintro e a ⟨rfl,rfl⟩;go_wp2_with fail
  refine (A4.out _).mono ?_;rintro e a ⟨rfl,rfl⟩;go_wp2_with fail
  refine (A5.out _).mono ?_;rintro e a ⟨rfl,rfl⟩;go_wp2_with fail
  refine (A6.out _).mono ?_;rintro e a ⟨rfl,rfl⟩;go_wp2_with fail
  refine (A7.out _).mono ?_;rintro e a ⟨rfl,rfl⟩;go_wp2_with fail
  refine bodyPost_end (results_none rfl _ _ _) rfl ?_;exact ⟨rfl,G.out⟩
 ·obtain ⟨rfl,rfl,rfl,rfl⟩:D=false∧I=false∧P=false∧V=false:=by revert L;cases D <;> cases I <;> cases P <;> cases V <;> simp
  subst ha;obtain ⟨j,A,f⟩:=BC (x:=x) (l:=l) (out:=O) Q.out (r.out.trans m) f3.out;have H:((bs C).toList == [51,53,52])=false:=by rw [d.out,m];rfl
  have S:((bs C).toList == [50,51,53])=true:=by rw [d.out,m];rfl
  have G:=Lib.hid (F.out 1 (.bool true) ({x with known:=true},.slice av x.tos.length cv) (by decide) j A f rfl b4.out);clear R p F j A f m L;go_wp2_with fail
  refine (X.out _).mono ?_;rintro e a ⟨rfl,rfl⟩;go_wp2_with fail
  refine (Y.out _).mono ?_;rintro e a ⟨rfl,rfl⟩;go_wp2_with fail
  refine (Z.out _).mono ?_;rintro e a ⟨rfl,rfl⟩;go_wp2_with fail
  refine (A4.out _).mono ?_;rintro e a ⟨rfl,rfl⟩;go_wp2_with fail
  refine (A5.out _).mono ?_;rintro e a ⟨rfl,rfl⟩;go_wp2_with fail
  refine (A6.out _).mono ?_;rintro e a ⟨rfl,rfl⟩;go_wp2_with fail
  refine (A7.out _).mono ?_;rintro e a ⟨rfl,rfl⟩;go_wp2_with fail
  refine bodyPost_end (results_none rfl _ _ _) rfl ?_;exact ⟨rfl,G.out⟩
 ·obtain ⟨rfl,rfl,rfl,rfl⟩:D=false∧I=false∧P=false∧V=false:=by revert L;cases D <;> cases I <;> cases P <;> cases V <;> simp
  subst hr;obtain ⟨j,A,f⟩:=iP (x:=x) (l:=l) (out:=O) Q.out (r.out.trans m);rw [a8.out,if_pos rfl] at j f;have c4:(bn l false).verb=10:=by have:=d8.out.rcpt;rw [a8.out] at this;exact beq_iff_eq.1 this.symm
  have c3:=(d8.out.addr c4).1;obtain ⟨mx,f0⟩:=U.out.at_.post.glo.len;have d7:=Lib.hid (pR l mx M.drew c3 (by have:=f5.out;omega) f0)
  have f1:x.tos.length≤10:=by
   have h1:=f7.out.tos;rw [h1];unfold IL
   cases ht:s.tx with
   | none=>exact Nat.zero_le _
   | some t=>exact (f6.out.tx t ht).1.most
  have f8:=Lib.hid f1;obtain ⟨T,eT⟩:∃T,fV l=T:=⟨_,rfl⟩;rw [eT] at d7 j;have H:((bs C).toList == [51,53,52])=false:=by rw [d.out,m];rfl
  have S:((bs C).toList == [50,51,53])=false:=by rw [d.out,m];rfl
  have a0:((bs C).toList == [50,53,48])=true:=by rw [d.out,m];rfl
  have b5:sb < M.heap.size:=aC d4
  have G:Hid (∀(w3:World) (v':Value),bg w3 v' (jF x.tos T).length 1 (aB (jF x.tos T))→Below M.heap.size M w3→(v'= .slice av x.tos.length cv∨∀k,v'.ownBlock=some k→M.heap.size≤k)→cX E own pp gb c w vS vM (fI c g n s x l) (w3.setCell ⟨sb,n * 5+4,none⟩ v')):=Lib.hid fun w3 v' b1 b2 b3=>by
   rw [nV a6.out.bad b6.out j A f];have q:=U.out.at_.below b2
   have ht:iE E c5 gb vS vM w3 (jF x.tos T) v':=⟨b1,fun k e=>by
    rcases b3 with b3 | b3
    ·rw [b3] at e;have:=b4.out.off k e;exact ⟨Nat.lt_of_lt_of_le this.1 b2.size,this.2⟩
    ·have hk:=b3 k e;refine ⟨?_,fun z=>?_,fun z=>?_,fun z=>?_⟩
     ·obtain ⟨ab,cb,eb,h1⟩:=b1.one;obtain ⟨b,i2,ea,hb,_⟩:=h1 0 (IW _ _);rw [eb,ea] at e;have e:b=k:=by simpa [Value.ownBlock] using e
      rw [←e];exact hb
     ·have:=U.out.at_.post.elt z;omega
     ·have:=U.out.at_.post.lt z;omega
     ·have:=(U.out.at_.off k z).1;omega⟩
   obtain ⟨p1,p2⟩:=q.putS (n:=n) (i:=4) (u:=v') (y:=({x with tos:=jF x.tos T},v')) hn (by decide) b0.out (by rw [HV.out];rfl) ht;exact cX.called U.out.ho U.out.hc (cX.from b2 (cX.turned p2 (fun k e=> .inl e) (cX.refl p1)))
  clear R p F j A f m L f0 f1 eT c4 c3;go_wp2_with fail
  refine (X.out _).mono ?_;rintro e a ⟨rfl,rfl⟩;go_wp2_with fail
  refine (Y.out _).mono ?_;rintro e a ⟨rfl,rfl⟩;go_wp2_with fail
  refine (Z.out _).mono ?_;rintro e a ⟨rfl,rfl⟩;go_wp2_with fail
  refine (A4.out _).mono ?_;rintro e a ⟨rfl,rfl⟩;go_wp2_with fail
  refine (A5.out _).mono ?_;rintro e a ⟨rfl,rfl⟩;go_wp2_with fail
  refine (A6.out _).mono ?_;rintro e a ⟨rfl,rfl⟩;go_wp2_with fail
  refine (A7.out _).mono ?_;rintro e a ⟨rfl,rfl⟩;go_wp2_with fail
  go_region_law (first
   | (go_simp;go_at_call 56;refine d7.out.mono ?_;rintro e a ⟨rfl,e7⟩;have K:Below M.heap.size M a:=(((Below.refl _ M).drew).trans e7);have e4:a.cell? ⟨sb,n * 5+4,none⟩=some (.slice av x.tos.length cv):=(K.cell b5).trans d4;have f9:=Lib.hid (zk x.tos T (.slice av x.tos.length cv) a (b4.out.row.below K) (by have:=f8.out;omega));have c6:=Lib.hid K;clear e7 K;dsimp only)
   | (go_simp;go_at_call 55;refine f9.out.mono ?_;rintro e w3 ⟨v',rfl,d6,e8,f2⟩;obtain ⟨a',c',g0⟩:=aE d6;subst g0;have K:Below M.heap.size M w3:=c6.out.trans (e8.mono c6.out.size);have h3:w3.cell? ⟨sb,n * 5+4,none⟩=some (.slice av x.tos.length cv):=(K.cell b5).trans d4;have h6:w3.frozen? ⟨sb,n * 5+4,none⟩=false:=(K.frozen b5).trans (fz _);have f4:=Lib.hid (G.out w3 _ d6 K (f2.imp id (fun z k e=>Nat.le_trans c6.out.size (z k e))));clear d6 e8 f2 K;dsimp only))
  all_goals
   go_wp2_with fail
   refine bodyPost_end (results_none rfl _ _ _) rfl ?_;exact ⟨rfl,f4.out⟩
 ·obtain ⟨rfl,rfl,rfl,rfl⟩:D=false∧I=false∧P=false∧V=false:=by revert L;cases D <;> cases I <;> cases P <;> cases V <;> simp
  subst hq;obtain ⟨j,A,f⟩:=qk (x:=x) (l:=l) (out:=O) Q.out (by rw [r.out,m];decide) (by rw [r.out,m];decide) (by rw [r.out,m];decide);rw [a7.out,if_pos rfl] at j f;have f:dp x l O=false:=by rw [f,r.out,m];rfl
  have H:((bs C).toList == [51,53,52])=false:=by rw [d.out,m];rfl
  have S:((bs C).toList == [50,51,53])=false:=by rw [d.out,m];rfl
  have a0:((bs C).toList == [50,53,48])=false:=by rw [d.out,m];rfl
  have g9:((bs C).toList == [50,50,49])=true:=by rw [d.out,m];rfl
  have G:Hid (cX E own pp gb c w vS vM (fI c g n s x l) ((M.setCell ⟨sb,n * 5+3,none⟩ (.bool true)).setCell ⟨gb,13,none⟩ (.bool false))):=Lib.hid (by
   rw [nV a6.out.bad b6.out j A f];obtain ⟨p1,p2⟩:=U.out.at_.putS (n:=n) (i:=3) (u:= .bool true) (y:=({x with closed:=true},.slice av x.tos.length cv)) hn (by decide) b0.out (by rw [HV.out];rfl) b4.out;obtain ⟨p3,p4⟩:=p1.putB false
   have p3:=p3.same (show _=({fN c g n s l with seats:=g.seats.set n {x with closed:=true}}:GS) by
    show ({fN c g n s l with seats:=g.seats.set n {x with closed:=true},bad:=false}:GS)=_;rw [←a6.out.bad]
    rfl)
   exact cX.called U.out.ho U.out.hc (cX.turned p2 (fun k e=> .inl e) (cX.turned p4 (fun k e=> .inl e) (cX.refl p3))))
  clear R p F j A f m L;go_wp2_with fail
  refine (X.out _).mono ?_;rintro e a ⟨rfl,rfl⟩;go_wp2_with fail
  refine (Y.out _).mono ?_;rintro e a ⟨rfl,rfl⟩;go_wp2_with fail
  refine (Z.out _).mono ?_;rintro e a ⟨rfl,rfl⟩;go_wp2_with fail
  refine (A4.out _).mono ?_;rintro e a ⟨rfl,rfl⟩;go_wp2_with fail
  refine (A5.out _).mono ?_;rintro e a ⟨rfl,rfl⟩;go_wp2_with fail
  refine (A6.out _).mono ?_;rintro e a ⟨rfl,rfl⟩;go_wp2_with fail
  refine (A7.out _).mono ?_;rintro e a ⟨rfl,rfl⟩;go_wp2_with fail
  refine bodyPost_end (results_none rfl _ _ _) rfl ?_;exact ⟨rfl,G.out⟩
 ·subst hr hq;obtain ⟨j,A,f⟩:=iP (x:=x) (l:=l) (out:=O) Q.out (r.out.trans m);rw [a8.out,a7.out,a9.out,L] at j;rw [a8.out,a7.out] at f;have j:gH x l O={x with tos:=[]}:=j;have f:dp x l O=false:=f;have H:((bs C).toList == [51,53,52])=false:=by rw [d.out,m];rfl
  have S:((bs C).toList == [50,51,53])=false:=by rw [d.out,m];rfl
  have a0:((bs C).toList == [50,53,48])=true:=by rw [d.out,m];rfl
  have G:=Lib.hid (F.out 4 (.slice none 0 0) ({x with tos:=[]},.slice none 0 0) (by decide) j A f rfl (iE.nil _));have hr:D=true∨(D=false∧I=true)∨(D=false∧I=false∧P=true)∨(D=false∧I=false∧P=false∧V=true):=by revert L;cases D <;> cases I <;> cases P <;> cases V <;> simp
  clear R p F j A f m L a9
  rcases hr with rfl | ⟨rfl,rfl⟩ | ⟨rfl,rfl,rfl⟩ | ⟨rfl,rfl,rfl,rfl⟩
  ·skip
   go_wp2_with fail
   refine (X.out _).mono ?_;rintro e a ⟨rfl,rfl⟩;go_wp2_with fail
   refine (Y.out _).mono ?_;rintro e a ⟨rfl,rfl⟩;go_wp2_with fail
   refine (Z.out _).mono ?_;rintro e a ⟨rfl,rfl⟩;go_wp2_with fail
   refine (A4.out _).mono ?_;rintro e a ⟨rfl,rfl⟩;go_wp2_with fail
   refine bodyPost_end (results_none rfl _ _ _) rfl ?_;exact ⟨rfl,G.out⟩
  ·skip
   go_wp2_with fail
   refine (X.out _).mono ?_;rintro e a ⟨rfl,rfl⟩;go_wp2_with fail
   refine (Y.out _).mono ?_;rintro e a ⟨rfl,rfl⟩;go_wp2_with fail
   refine (Z.out _).mono ?_;rintro e a ⟨rfl,rfl⟩;go_wp2_with fail
   refine (A4.out _).mono ?_;rintro e a ⟨rfl,rfl⟩;go_wp2_with fail
   refine (A5.out _).mono ?_;rintro e a ⟨rfl,rfl⟩;go_wp2_with fail
   refine bodyPost_end (results_none rfl _ _ _) rfl ?_;exact ⟨rfl,G.out⟩
  ·skip
   go_wp2_with fail
   refine (X.out _).mono ?_;rintro e a ⟨rfl,rfl⟩;go_wp2_with fail
   refine (Y.out _).mono ?_;rintro e a ⟨rfl,rfl⟩;go_wp2_with fail
   refine (Z.out _).mono ?_;rintro e a ⟨rfl,rfl⟩;go_wp2_with fail
   refine (A4.out _).mono ?_;rintro e a ⟨rfl,rfl⟩;go_wp2_with fail
   refine (A5.out _).mono ?_;rintro e a ⟨rfl,rfl⟩;go_wp2_with fail
   refine (A6.out _).mono ?_;rintro e a ⟨rfl,rfl⟩;go_wp2_with fail
   refine bodyPost_end (results_none rfl _ _ _) rfl ?_;exact ⟨rfl,G.out⟩
  ·skip
   go_wp2_with fail
   refine (X.out _).mono ?_;rintro e a ⟨rfl,rfl⟩;go_wp2_with fail
   refine (Y.out _).mono ?_;rintro e a ⟨rfl,rfl⟩;go_wp2_with fail
   refine (Z.out _).mono ?_;rintro e a ⟨rfl,rfl⟩;go_wp2_with fail
   refine (A4.out _).mono ?_;rintro e a ⟨rfl,rfl⟩;go_wp2_with fail
   refine (A5.out _).mono ?_;rintro e a ⟨rfl,rfl⟩;go_wp2_with fail
   refine (A6.out _).mono ?_;rintro e a ⟨rfl,rfl⟩;go_wp2_with fail
   refine (A7.out _).mono ?_;rintro e a ⟨rfl,rfl⟩;go_wp2_with fail
   refine bodyPost_end (results_none rfl _ _ _) rfl ?_;exact ⟨rfl,G.out⟩
 ·subst hr hq;obtain ⟨j,A,f⟩:=iP (x:=x) (l:=l) (out:=O) Q.out (r.out.trans m);rw [a8.out,a7.out,a9.out,L] at j;rw [a8.out,a7.out] at f;have j:gH x l O=x:=j;have f:dp x l O=false:=f;have H:((bs C).toList == [51,53,52])=false:=by rw [d.out,m];rfl
  have S:((bs C).toList == [50,51,53])=false:=by rw [d.out,m];rfl
  have a0:((bs C).toList == [50,53,48])=true:=by rw [d.out,m];rfl
  have G:=Lib.hid (p.out j A f);obtain ⟨rfl,rfl,rfl,rfl⟩:D=false∧I=false∧P=false∧V=false:=by revert L;cases D <;> cases I <;> cases P <;> cases V <;> simp
  clear R p F j A f m L a9;go_wp2_with fail
  refine (X.out _).mono ?_;rintro e a ⟨rfl,rfl⟩;go_wp2_with fail
  refine (Y.out _).mono ?_;rintro e a ⟨rfl,rfl⟩;go_wp2_with fail
  refine (Z.out _).mono ?_;rintro e a ⟨rfl,rfl⟩;go_wp2_with fail
  refine (A4.out _).mono ?_;rintro e a ⟨rfl,rfl⟩;go_wp2_with fail
  refine (A5.out _).mono ?_;rintro e a ⟨rfl,rfl⟩;go_wp2_with fail
  refine (A6.out _).mono ?_;rintro e a ⟨rfl,rfl⟩;go_wp2_with fail
  refine (A7.out _).mono ?_;rintro e a ⟨rfl,rfl⟩;go_wp2_with fail
  refine bodyPost_end (results_none rfl _ _ _) rfl ?_;exact ⟨rfl,G.out⟩
 ·subst hq;obtain ⟨j,A,f⟩:=qk (x:=x) (l:=l) (out:=O) Q.out (by rw [r.out];exact c7) (by rw [r.out];exact c8) (by rw [r.out];exact c9);rw [a7.out] at j f;have j:gH x l O=x:=j;have f:dp x l O=false:=f;have H:((bs C).toList == [51,53,52])=false:=by rw [d.out,beq_eq_false_iff_ne];exact c7
  have S:((bs C).toList == [50,51,53])=false:=by rw [d.out,beq_eq_false_iff_ne];exact c8
  have a0:((bs C).toList == [50,53,48])=false:=by rw [d.out,beq_eq_false_iff_ne];exact c9
  have G:=Lib.hid (p.out j A f);have hr:D=true∨(D=false∧I=true)∨(D=false∧I=false∧P=true)∨(D=false∧I=false∧P=false∧V=true)∨(D=false∧I=false∧P=false∧V=false):=by cases D <;> cases I <;> cases P <;> cases V <;> simp
  clear R p F j A f c7 c8 c9 a9
  rcases hr with rfl | ⟨rfl,rfl⟩ | ⟨rfl,rfl,rfl⟩ | ⟨rfl,rfl,rfl,rfl⟩ | ⟨rfl,rfl,rfl,rfl⟩
  ·skip
   go_wp2_with fail
   refine (X.out _).mono ?_;rintro e a ⟨rfl,rfl⟩;go_wp2_with fail
   refine (Y.out _).mono ?_;rintro e a ⟨rfl,rfl⟩;go_wp2_with fail
   refine (Z.out _).mono ?_;rintro e a ⟨rfl,rfl⟩;go_wp2_with fail
   refine (A4.out _).mono ?_;rintro e a ⟨rfl,rfl⟩;go_wp2_with fail
   refine bodyPost_end (results_none rfl _ _ _) rfl ?_;exact ⟨rfl,G.out⟩
  ·skip
   go_wp2_with fail
   refine (X.out _).mono ?_;rintro e a ⟨rfl,rfl⟩;go_wp2_with fail
   refine (Y.out _).mono ?_;rintro e a ⟨rfl,rfl⟩;go_wp2_with fail
   refine (Z.out _).mono ?_;rintro e a ⟨rfl,rfl⟩;go_wp2_with fail
   refine (A4.out _).mono ?_;rintro e a ⟨rfl,rfl⟩;go_wp2_with fail
   refine (A5.out _).mono ?_;rintro e a ⟨rfl,rfl⟩;go_wp2_with fail
   refine bodyPost_end (results_none rfl _ _ _) rfl ?_;exact ⟨rfl,G.out⟩
  ·skip
   go_wp2_with fail
   refine (X.out _).mono ?_;rintro e a ⟨rfl,rfl⟩;go_wp2_with fail
   refine (Y.out _).mono ?_;rintro e a ⟨rfl,rfl⟩;go_wp2_with fail
   refine (Z.out _).mono ?_;rintro e a ⟨rfl,rfl⟩;go_wp2_with fail
   refine (A4.out _).mono ?_;rintro e a ⟨rfl,rfl⟩;go_wp2_with fail
   refine (A5.out _).mono ?_;rintro e a ⟨rfl,rfl⟩;go_wp2_with fail
   refine (A6.out _).mono ?_;rintro e a ⟨rfl,rfl⟩;go_wp2_with fail
   refine bodyPost_end (results_none rfl _ _ _) rfl ?_;exact ⟨rfl,G.out⟩
  ·skip
   go_wp2_with fail
   refine (X.out _).mono ?_;rintro e a ⟨rfl,rfl⟩;go_wp2_with fail
   refine (Y.out _).mono ?_;rintro e a ⟨rfl,rfl⟩;go_wp2_with fail
   refine (Z.out _).mono ?_;rintro e a ⟨rfl,rfl⟩;go_wp2_with fail
   refine (A4.out _).mono ?_;rintro e a ⟨rfl,rfl⟩;go_wp2_with fail
   refine (A5.out _).mono ?_;rintro e a ⟨rfl,rfl⟩;go_wp2_with fail
   refine (A6.out _).mono ?_;rintro e a ⟨rfl,rfl⟩;go_wp2_with fail
   refine (A7.out _).mono ?_;rintro e a ⟨rfl,rfl⟩;go_wp2_with fail
   refine bodyPost_end (results_none rfl _ _ _) rfl ?_;exact ⟨rfl,G.out⟩
  ·skip
   go_wp2_with fail
   refine (X.out _).mono ?_;rintro e a ⟨rfl,rfl⟩;go_wp2_with fail
   refine (Y.out _).mono ?_;rintro e a ⟨rfl,rfl⟩;go_wp2_with fail
   refine (Z.out _).mono ?_;rintro e a ⟨rfl,rfl⟩;go_wp2_with fail
   refine (A4.out _).mono ?_;rintro e a ⟨rfl,rfl⟩;go_wp2_with fail
   refine (A5.out _).mono ?_;rintro e a ⟨rfl,rfl⟩;go_wp2_with fail
   refine (A6.out _).mono ?_;rintro e a ⟨rfl,rfl⟩;go_wp2_with fail
   refine (A7.out _).mono ?_;rintro e a ⟨rfl,rfl⟩;go_wp2_with fail
   refine bodyPost_end (results_none rfl _ _ _) rfl ?_;exact ⟨rfl,G.out⟩
end
section
variable {E own:Nat→Prop} {pp gb:Nat} {c:bX} {w:World} {vS vM:Value} {sl:List (ca×Value)} {ml:List (aX×Value)} {g g':GS}
theorem gX.step (a:dX c) (h:gX E own pp gb c w vS vM sl ml g) (d:hJ g) (f:hU c g g'):hJ g':=
 d.step a f (fun _ _ e=>h.post.inv e) ⟨fun T b=>(h.post.laters.1 T b).1,fun t e=>(h.post.laters.2 t e).1⟩
theorem pV (a:dX c) (h:gX E own pp gb c w vS vM sl ml g) (d:hJ g) {n:Nat} {s:bG} {x:ca} (f:g.l[n]? =some (some s)) (i:g.seats[n]? =some x) {l:List UInt8} (k:l∈LL):
  Calls Tryz.prog 32 #[.pointer (some ⟨gb,0,none⟩),.int .i64 (n:Int),.string (bs l)] w fun e m=>e= .returned (.tuple #[])∧cX E own pp gb c w vS vM (fI c g n s x l) m:=by
 by_cases b:x.inside=true
 ·by_cases j:l=[46]
  ·subst j;exact Iu a h d f i b
  ·exact FP a h d f i k b j
 ·exact It a h d f i k (by simpa using b)
def jG (E own:Nat→Prop) (pp gb:Nat) (c:bX) (w:World) (vS vM:Value) (g:GS) (e:Ending) (w':World):Prop:=
 e= .returned (.tuple #[])∧∃k g',k≤9∧fy c k g g'∧hJ g'∧cX E own pp gb c w vS vM g' w'
theorem qX (d:hJ g) {n:Nat} {x:ca} (f:g.seats[n]? =some x) (h:x.closed=false):∃s,g.l[n]? =some (some s):=by
 obtain ⟨i,_⟩:=List.getElem?_eq_some_iff.1 f;have a:n < g.l.length:=by rw [←d.len];exact i
 cases e:g.l[n] with
 | none=>
  have b:=d.seat n x none f (by rw [List.getElem?_eq_getElem a,e]);have b:x.closed=true:=b;rw [h] at b
  cases b
 | some s=>exact ⟨s,by rw [List.getElem?_eq_getElem a,e]⟩
theorem cX.cell {a:World} (h:cX E own pp gb c w vS vM g' a) {b:Nat} (d:b < w.heap.size) (f:¬(b=pp∨own b∨fX gb vS vM b)) (j:Nat):a.cell? ⟨b,j,none⟩=w.cell? ⟨b,j,none⟩:=by
 obtain ⟨_,_,_,_,_,_,_,e⟩:=h;exact World.cell?_of_block (e.block b d f)
theorem cX.on {b k:World} (h:cX E own pp gb c w vS vM g' b) (l:Below b.heap.size b k):cX E own pp gb c w vS vM g' k:=by
 obtain ⟨a,j,i,f,d,m,n,o⟩:=h;exact ⟨a,j,i,f,d,m.below l,n,o.trans (aH.below l:aH (fun _=>False) b k) (fun _ _ e=>e.elim)⟩
def IB:Value→Nat
 | .string b=>b.size
 | _=>0
theorem rU (a:List UInt8) (d:a.length≤200) (W:World):Calls Tryz.prog 15 #[.string (bs a)] W fun e b=>e= .returned (.tuple #[.string (bs (gf a).1),.string (bs (gf a).2)])∧Below W.heap.size W b:=by
 refine (wO (bs a) W (by rw [aG];omega)).mono ?_;rintro e b ⟨rfl,m,rfl⟩;exact ⟨rfl,bA _ _ _⟩
theorem DK {l:List UInt8} (h:(gf l).2≠[]):(gf l).2.length < l.length:=by
 unfold gf at h ⊢
 split
 ·rename_i k a
  have:=List.mem_range.1 (List.mem_of_find?_eq_some a);show (l.drop (k+2)).length < _;rw [List.length_drop];omega
 ·rename_i a
  rw [a] at h;exact absurd rfl h
theorem Fl {p:Nat} (b:p < 32):∃h:p < kA.length,mh 9 kA[p]=true∧kA[p].length≤200∧(kA[p]=[]→p=26):=by
 have d:kA.length=32:=rfl;have h:p < kA.length:=by rw [d];exact b
 refine ⟨h,List.all_eq_true.1 Hn _ (List.getElem_mem h),by have:=List.all_eq_true.1 AZ _ (List.getElem_mem h);simpa using this,fun e=>?_⟩
 have a:(List.range 32).all (fun p=> !(kA.getD p []).isEmpty || decide (p=26))=true:=by kernel_rfl
 have:=List.all_eq_true.1 a p (List.mem_range.2 b);rw [List.getD_eq_getElem?_getD,List.getElem?_eq_getElem h] at this;simp only [Option.getD_some,e,List.isEmpty_nil,Bool.not_true,Bool.false_or,decide_eq_true_eq] at this;exact this
end
section
variable {E own:Nat→Prop} {pp gb:Nat} {c:bX} {w:World} {vS vM:Value} {sl:List (ca×Value)} {ml:List (aX×Value)} {g g':GS}
theorem Di (c4:dX c) (h:gX E own pp gb c w vS vM sl ml g) (hi:hJ g) (P nn z:Int) (h1: -9223372036854775808≤P∧P≤9223372036854775807) (h2: -9223372036854775808≤nn∧nn≤9223372036854775807) (h3: -9223372036854775808≤z∧z≤9223372036854775807) (hk:cM P 12≤5):
  Calls Tryz.prog 9 #[.pointer (some ⟨gb,0,none⟩),.agg #[.int .i64 P,.int .i64 nn,.int .i64 z]] w (jG E own pp gb c w vS vM g):=by
 obtain ⟨H,X⟩:∃W:World,w.alloc (.cells #[.int .i64 P,.int .i64 nn,.int .i64 z] 34)=W:=⟨_,rfl⟩;have X0:H.heap[w.heap.size]? =some (.cells #[.int .i64 P,.int .i64 nn,.int .i64 z] 34 (0,0)):=by rw [←X];exact heap_alloc_new w _
 have B0:Below w.heap.size w H:=by rw [←X];exact (Below.refl _ _).alloc (Nat.le_refl _) _
 have a2:¬(w.heap.size=pp∨own w.heap.size∨fX gb vS vM w.heap.size):=fun e=>by
  rcases e with e | e | e
  ·have:=h.post.elt h.post.epp;omega
  ·have:=h.post.lt e;omega
  ·have:=(h.off _ e).1;omega
 have G0:=h.below B0;have c8:sl.length≤100:=by rw [h.slen,hi.len];exact h.post.len
 obtain ⟨K,eK⟩:∃K,cM P 12=K:=⟨_,rfl⟩;have bK:=dt P (n:=12) (by decide);rw [eK] at bK hk;have d8:Hid (∀W:World,Calls Tryz.prog 20 #[.int .i64 P,.int .i64 12] W fun e w'=>e= .returned (.int .i64 K)∧W=w'):=Lib.hid (fun W=>by have:=bZ P 12 W h1.1 h1.2 (by decide) (by decide);rw [eK] at this;exact this);obtain ⟨p,ep⟩:∃p:Nat,cM z 32=(p:Int):=⟨(cM z 32).toNat,by have:=dt z (n:=32) (by decide);omega⟩
 have bp:p < 32:=by have:=dt z (n:=32) (by decide);omega
 have b7:Hid (∀W:World,Calls Tryz.prog 20 #[.int .i64 z,.int .i64 32] W fun e w'=>e= .returned (.int .i64 (p:Int))∧W=w'):=Lib.hid (fun W=>by have:=bZ z 32 W h3.1 h3.2 (by decide) (by decide);rw [ep] at this;exact this);have d7:=Lib.hid (iz G0 nn h2.1 h2.2 c8);obtain ⟨e6,a6,c9,a3⟩:=Fl bp;have a7:=Lib.hid G0;have b3:=Lib.hid hi;have C:=Lib.hid B0;have e8:=Lib.hid X0;have e0:=Lib.hid X;have d0:=Lib.hid a2;have R:=Lib.hid c4;have z0:w.heap.size < H.heap.size:=ah X0;have o0:H.cell? ⟨w.heap.size,0,none⟩=some (.int .i64 P):=by rw [Lib.cell_of_heap X0];rfl
 have o1:H.cell? ⟨w.heap.size,1,none⟩=some (.int .i64 nn):=by rw [Lib.cell_of_heap X0];rfl
 have o2:H.cell? ⟨w.heap.size,2,none⟩=some (.int .i64 z):=by rw [Lib.cell_of_heap X0];rfl
 have b6:=Lib.hid o2;have f2:(p:Int) < 32:=by omega
 have e2:K=0∨K=1∨K=2∨K=3∨K=4∨K=5:=by omega
 have a1:=Lib.hid a6;have c0:=Lib.hid c9;have a0:=Lib.hid a3;clear h hi c4 h1 h2 h3 X0 B0 X G0 a2 eK bK hk ep a6 c9 a3 c8;go_enter Tryz.func9,Tryz.ntmps9;go_wp2_with fail
 rw [e0.out];refine (d8.out _).mono ?_;rintro e w1 ⟨rfl,rfl⟩
 rcases e2 with rfl | rfl | rfl | rfl | rfl | rfl
 all_goals
  go_wp2_with fail
  refine d7.out.mono ?_;rintro e w2 ⟨r,rfl,hr,c2⟩;have HR:=Lib.hid hr;have b1:=Lib.hid c2;clear hr c2;go_wp2_with fail
  refine (wM w2).mono ?_;rintro e w3 ⟨v,rfl,a5,c3⟩;obtain ⟨al,cl,rfl,a4⟩:=a5.one;obtain ⟨lb,lo,rfl,_,t⟩:=a4 p bp;rw [eh _ _ e6] at t;have B3:=b1.out.trans (c3.mono b1.out.size);have p2:w3.cell? ⟨w.heap.size,2,none⟩=some (.int .i64 z):=(B3.cell z0).trans b6.out;have b2:=Lib.hid B3;clear a5 a4 c3 B3;go_wp2_with fail
  refine (b7.out _).mono ?_;rintro e w4 ⟨rfl,rfl⟩;obtain ⟨T,eT⟩:∃T,kA[p]=T:=⟨_,rfl⟩;rw [eT] at t a1 c0 a0;clear eT;go_wp2_with fail
  rcases HR.out with rfl | ⟨n,rfl,hn,e4⟩
  ·go_loopw [7] (fun s wr=>s= .string (bs T)∧Hid (Below H.heap.size H wr)) (fun _ _=>0)
   case atStart=>exact ⟨rfl,b2⟩
   case round=>
    obtain ⟨rfl,d1⟩:=hrel;go_wp2_with fail
    refine bodyPost_end (results_none rfl _ _ _) rfl ?_;exact ⟨rfl,0,g,by omega,.nil g,b3.out,cX.from C.out (cX.below a7.out d1.out)⟩
  ·have c7:n < g.seats.length:=by rw [←a7.out.slen];exact hn
   have d6:=Lib.hid c7;have f1:(0:Int)≤(n:Int):=by omega
   clear e4 c7 t p2;go_loopw [7] (fun s wr=>∃(l:List UInt8) (k:Nat) (g':GS),s= .string (bs l)∧k≤8∧l.length≤200∧Hid (mh (9 - k) l=true)∧Hid (l=[]→p=26)∧Hid (fy c k g g')∧Hid (hJ g')∧Hid (n < g'.seats.length)∧Hid (cX E own pp gb c H vS vM g' wr)) (fun s _=>IB s)
   case atStart=>exact ⟨T,0,g,rfl,by omega,c0.out,a1,a0,Lib.hid (.nil g),b3,d6,Lib.hid (cX.below a7.out b2.out)⟩
   case round=>
    obtain ⟨l,k,g',rfl,f0,e3,b8,d2,G,b,a8,U⟩:=hrel;have o2:wr.cell? ⟨w.heap.size,2,none⟩=some (.int .i64 z):=(U.out.cell z0 d0.out 2).trans b6.out;obtain ⟨e7,f5,f4,Z,f3,hA,hO,hC⟩:=U.out;have HA:=Lib.hid hA;have HO:=Lib.hid hO;have HC:=Lib.hid hC;clear hA hO hC;obtain ⟨j,ej⟩:∃j,9 - k=j+1:=⟨8 - k,by omega⟩
    have d:=b8.out;rw [ej] at d;unfold mh at d;rw [Bool.and_eq_true,List.contains_iff_mem,Bool.or_eq_true,decide_eq_true_eq] at d;have a9:=Lib.hid (rU l e3);have u:(gf l).2≠[]→(gf l).2.length < l.length:=DK;obtain ⟨L1,c1⟩:∃L,(gf l).1=L:=⟨_,rfl⟩;obtain ⟨Q,V⟩:∃L,(gf l).2=L:=⟨_,rfl⟩;rw [c1,V] at d a9;rw [V] at u;have m:=Lib.hid d;have d5:=Lib.hid u;have EJ:=Lib.hid ej;have b4:Hid (l=[]→Q=[]):=Lib.hid (fun e=>by rw [←V,e];rfl);have hz:=aG l;clear d u c1 V b8 ej
    have e5:((bs l).toList.isEmpty=true∧Q=[]∧p=26)∨(bs l).toList.isEmpty=false:=by
     rw [ByteArray.toList_eq,aI]
     cases l with
     | nil=>exact .inl ⟨rfl,b4.out rfl,d2.out rfl⟩
     | cons a r=>exact .inr rfl
    rcases e5 with ⟨he,rfl,rfl⟩ | he
    ·go_wp2_with fail
     refine (b7.out _).mono ?_;rintro e w4 ⟨rfl,rfl⟩;go_wp2_with fail
     refine (a9.out _).mono ?_;rintro e w5 ⟨rfl,q⟩;have A:=HA.out.below q;obtain ⟨x,hx⟩:∃x,g'.seats[n]? =some x:=⟨_,List.getElem?_eq_getElem a8.out⟩;obtain ⟨O,v,hv⟩:=qx A hx;have I:=A.cells.2.1;obtain ⟨sb,e1,ev,d,_⟩:=A.seat O;rw [ev] at I;have d3:w5.cell? ⟨sb,n * 5+3,none⟩=some (.bool x.closed):=by rw [d 3 (by decide),hv];rfl
     have b0:(n:Int) < (Z.length:Int):=by omega
     obtain ⟨N1,J⟩:∃N,Z.length=N:=⟨_,rfl⟩;rw [J] at I b0;have B:=Lib.hid A;have D:=Lib.hid q;have HX:=Lib.hid hx;clear A q d hv ev J O hx
     cases i:x.closed with
     | true=>
      rw [i] at d3;go_wp2_with fail
      refine bodyPost_ret (v:= .tuple #[]) (by simp [results,Tryz.results9,go_sem]) rfl ?_;exact ⟨rfl,k,g',by omega,G.out,b.out,cX.from C.out (U.out.on D.out)⟩
     | false=>
      rw [i] at d3;obtain ⟨s,hs⟩:=qX b.out HX.out i;have F:=Lib.hid (pV R.out B.out b.out hs HX.out m.out.1);have f:Hid (hU c g' (fI c g' n s x L1)):=Lib.hid (.line g' n s x L1 m.out.1 hs HX.out);have y:=Lib.hid (B.out.step R.out b.out f.out);clear i hs;go_wp2_with fail
      refine F.out.mono ?_;rintro e w6 ⟨rfl,M⟩;have S:Hid (cX E own pp gb c H vS vM (fI c g' n s x L1) w6):=Lib.hid (cX.then HO.out (HC.out.trans (aH.below D.out:aH (fun _=>False) wr w5) (fun _ _ e=>e.elim)) M);clear M F;have c5:(bs ([]:List UInt8)).toList.isEmpty=true:=by rw [ByteArray.toList_eq,aI];rfl
      go_wp2_with fail
      refine bodyPost_ret (v:= .tuple #[]) (by simp [results,Tryz.results9,go_sem]) rfl ?_;exact ⟨rfl,k+1,_,by omega,.snoc G.out f.out,y.out,cX.from C.out S.out⟩
    ·go_wp2_with fail
     refine (a9.out _).mono ?_;rintro e w5 ⟨rfl,q⟩;have A:=HA.out.below q;obtain ⟨x,hx⟩:∃x,g'.seats[n]? =some x:=⟨_,List.getElem?_eq_getElem a8.out⟩;obtain ⟨O,v,hv⟩:=qx A hx;have I:=A.cells.2.1;obtain ⟨sb,e1,ev,d,_⟩:=A.seat O;rw [ev] at I;have d3:w5.cell? ⟨sb,n * 5+3,none⟩=some (.bool x.closed):=by rw [d 3 (by decide),hv];rfl
     have b0:(n:Int) < (Z.length:Int):=by omega
     obtain ⟨N1,J⟩:∃N,Z.length=N:=⟨_,rfl⟩;rw [J] at I b0;have B:=Lib.hid A;have D:=Lib.hid q;have HX:=Lib.hid hx;clear A q d hv ev J O hx
     cases i:x.closed with
     | true=>
      rw [i] at d3;go_wp2_with fail
      refine bodyPost_ret (v:= .tuple #[]) (by simp [results,Tryz.results9,go_sem]) rfl ?_;exact ⟨rfl,k,g',by omega,G.out,b.out,cX.from C.out (U.out.on D.out)⟩
     | false=>
      rw [i] at d3;obtain ⟨s,hs⟩:=qX b.out HX.out i;have F:=Lib.hid (pV R.out B.out b.out hs HX.out m.out.1);have f:Hid (hU c g' (fI c g' n s x L1)):=Lib.hid (.line g' n s x L1 m.out.1 hs HX.out);have y:=Lib.hid (B.out.step R.out b.out f.out);clear i hs;go_wp2_with fail
      refine F.out.mono ?_;rintro e w6 ⟨rfl,M⟩;have S:Hid (cX E own pp gb c H vS vM (fI c g' n s x L1) w6):=Lib.hid (cX.then HO.out (HC.out.trans (aH.below D.out:aH (fun _=>False) wr w5) (fun _ _ e=>e.elim)) M);clear M F
      by_cases o:Q=[]
      ·have c5:(bs Q).toList.isEmpty=true:=by rw [ByteArray.toList_eq,aI,o];rfl
       clear o;go_wp2_with fail
       refine bodyPost_ret (v:= .tuple #[]) (by simp [results,Tryz.results9,go_sem]) rfl ?_;exact ⟨rfl,k+1,_,by omega,.snoc G.out f.out,y.out,cX.from C.out S.out⟩
      ·have c5:(bs Q).toList.isEmpty=false:=by
        rw [ByteArray.toList_eq,aI]
        cases Q with
        | nil=>exact absurd rfl o
        | cons a r=>rfl
       have Y:mh j Q=true:=m.out.2.resolve_left o
       have hj:1≤j:=by
        cases j with
        | zero=>unfold mh at Y;cases Y
        | succ j=>omega
       have c6:=d5.out o;have d4:=Lib.hid o;have d9:=Lib.hid Y;have b5:=Lib.hid c6;clear o Y c6;go_wp2_with fail
       have e9:=EJ.out;go_roundw
       case rel=>exact ⟨Q,k+1,_,rfl,by omega,by have:=b5.out;omega,Lib.hid (by rw [show 9 - (k+1)=j by omega];exact d9.out),Lib.hid (fun e=>absurd e d4.out),Lib.hid (.snoc G.out f.out),y,Lib.hid (by show n < (g'.seats.set ..).length;rw [List.length_set];exact a8.out),S⟩
       case measure=>have h1:=b5.out;have h2:=aG Q;have h3:=aG l;show (bs Q).size < (bs l).size;omega
end
def iA (l:List (Int×Int×Int)):List Value:=l.flatMap fun x=>[.int .i64 x.1,.int .i64 x.2.1,.int .i64 x.2.2]
theorem qd (l:List (Int×Int×Int)) (k i:Nat) (h:k < l.length) (a:i < 3):(iA l)[k * 3+i]? =[Value.int .i64 l[k].1,.int .i64 l[k].2.1,.int .i64 l[k].2.2][i]? :=by
 induction l generalizing k with
 | nil=>simp at h
 | cons x l ih=>
  show ([Value.int .i64 x.1,.int .i64 x.2.1,.int .i64 x.2.2]++iA l)[k * 3+i]? =_
  cases k with
  | zero=>
   rw [List.getElem?_append_left (by simp;omega)];simp
  | succ k=>
   rw [List.getElem?_append_right (by simp;omega),show (k+1) * 3+i - [Value.int .i64 x.1,.int .i64 x.2.1,.int .i64 x.2.2].length=k * 3+i by simp;omega]
   exact ih k (by simpa using h)
def kN (n:Int):Prop:= -9223372036854775808≤n∧n≤9223372036854775807
def yu (l:List (Int×Int×Int)):Prop:=l.length≤9223372036854775806∧∀x∈l,kN x.1∧kN x.2.1∧kN x.2.2
def GW (base:Nat) (E:Nat→Prop) (pp gb:Nat) (c:bX) (g:GS) (w:World):Prop:=∃own vS vM sl ml,gX E own pp gb c w vS vM sl ml g∧∀k,k=pp∨own k∨fX gb vS vM k→base≤k
theorem GW.to {a:Nat} {E own:Nat→Prop} {i f:Nat} {c:bX} {o:GS} {w n:World} {q p:Value} (d:∀k,k=i∨own k∨fX f q p k→a≤k) (u:a≤w.heap.size) (h:cX E own i f c w q p o n):GW a E i f c o n∧Below a w n:=by
 obtain ⟨b,m,l,j,g,r,s,t⟩:=h;refine ⟨⟨b,m,l,j,g,r,fun k e=>?_⟩,t.toBelow (fun k e=>d k e) u⟩
 rcases e with e | e
 ·exact d k (.inl e)
 ·rcases s k e with x | x | x
  ·exact d k (.inr (.inl x))
  ·exact d k (.inr (.inr x))
  ·omega
theorem GW.below {base:Nat} {E:Nat→Prop} {b a:Nat} {c:bX} {g:GS} {w d:World} (h:GW base E b a c g w) (i:Below w.heap.size w d):GW base E b a c g d:=by
 obtain ⟨own,m,l,k,j,e,f⟩:=h;exact ⟨own,m,l,k,j,e.below i,f⟩
theorem De {w:World} {v:Value} {l:List (Int×Int×Int)} (h:bg w v l.length 3 (iA l)):∃a d,v= .slice a l.length d∧∀k (n:k < l.length),∃b o,a=some ⟨b,o,none⟩∧b < w.heap.size∧w.cell? ⟨b,o+k * 3,none⟩=some (.int .i64 l[k].1)∧w.cell? ⟨b,o+k * 3+1,none⟩=some (.int .i64 l[k].2.1)∧w.cell? ⟨b,o+k * 3+2,none⟩=some (.int .i64 l[k].2.2):=by
 obtain ⟨a,d,e,s⟩:=h.shape;refine ⟨a,d,e,fun k n=>?_⟩
 have c:∀i,i < 3→∃b o,a=some ⟨b,o,none⟩∧b < w.heap.size∧w.cell? ⟨b,o+k * 3+i,none⟩=[Value.int .i64 l[k].1,.int .i64 l[k].2.1,.int .i64 l[k].2.2][i]? :=fun i g=>by
  obtain ⟨b,p,e,m,h⟩:=s k i n g;exact ⟨b,p,e,m,by rw [Nat.add_assoc,h,qd l k i n g]⟩
 obtain ⟨b,o,q,m,u⟩:=c 0 (by omega)
 have j:∀i,i < 3→w.cell? ⟨b,o+k * 3+i,none⟩=[Value.int .i64 l[k].1,.int .i64 l[k].2.1,.int .i64 l[k].2.2][i]? :=fun i g=>by
  obtain ⟨t,r,f,_,h⟩:=c i g;rw [q] at f;injection f with e;injection e with e1 e2;subst e1 e2;exact h
 exact ⟨b,o,q,m,j 0 (by omega),j 1 (by omega),j 2 (by omega)⟩
end Go.Proofs.YtofpegbpgkkgkaaGreatDoor
