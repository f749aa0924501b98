import Derived.Test.YtponhohdpophlaaGreatDoorS05
import Derived.Lib.ItoaNum
namespace Go.Proofs.YtponhohdpophlaaGreatDoor
set_option maxHeartbeats 8000000
set_option maxRecDepth 1000000
open Go renaming heap_alloc_new->Q0,bodyPost_end->RN,results_none->RP,heap_setCell_same->Ro,leaves_cons->SJ,run_underlying->TB,heap_setCell_other->TP,Calls->Y8,TypeId->Za
open Go.Ending renaming returned->YX
open Go.IntKind renaming i64->J,wrap_i64->QY
open Go.Lib renaming cell_of_heap->Q3,frozen_of_heap->RJ
open Go.Obj renaming cells->YU
open Go.Proofs.Tryz renaming ntmps171->UB,func165->Vd,ntmps165->Ve,func106->WM,ntmps106->Wd,func171->Xb,prog->Ys
open Go.RowKit renaming Hid->H,Below->Y6,intOf->Y9
open Go.RowKit.Below renaming refl->QQ
open Go.Value renaming int->I,slice->L,string->T,pointer->YV,bool->YW,tuple->YY,agg->YZ
open _root_.Array renaming getElem?_eq_some_iff->SK,getElem?_eq_getElem->Si,getElem?_setIfInBounds_ne->TH,getElem?_setIfInBounds_self_of_lt->TM,getElem?_push->VV
open _root_.Bool renaming false->F,true->YT
open _root_.Int renaming toNat_natCast->St
open _root_.List renaming length_append->RI,length_nil->RR,mem_cons->Rf,mem_map->Rl,mem_append->Rx,mem_singleton->Ry
open _root_.Nat renaming le_refl->QR
open _root_.Option renaming none->N,some->S
def gA(k:Nat)(o:Option QF):Nat×Option QF:=(be (ij (o.bind (bj k))),(o.bind (bj k)).map (·.2))
def kY(k:Nat)(o:Option QF):QF×Option QF:=(ij (o.bind (Al k)),(o.bind (Al k)).map (·.2))
def jJ:Nat->Option QF->List QF×Option QF
 | 0,o=>([],o)
 | n+1,o=>((jJ n o).1++[(kY 1 (jJ n o).2).1],(kY 1 (jJ n o).2).2)
def jm:Nat->Option QF->List Nat×Option QF
 | 0,o=>([],o)
 | n+1,o=>((jm n o).1++[(gA 1 (jm n o).2).1],(gA 1 (jm n o).2).2)
def ob{α:Type}(x:α×Option QF):Option (α×QF):=x.2.map λr=>(x.1,r)
theorem lx(k:Nat):gA k N=(0,N):=rfl
theorem tj(k:Nat):kY k N=([],N):=rfl
theorem qI:∀n,(jJ n N).2=N
 | 0=>rfl
 | n+1=>by rw [jJ,qI n];rfl
theorem nH:∀n,(jm n N).2=N
 | 0=>rfl
 | n+1=>by rw [jm,nH n];rfl
theorem kl(k:Nat)(l:QF):gK k l=ob (gA k (S l)):=by
 unfold gA ob gK;show _=((bj k l).map (·.2)).map _;unfold bj
 by_cases h:k<=l.length
 .rw [if_pos h,if_pos h];show _=S (be (ij ((S l).bind λl=>if k<=l.length then S (l.take k,l.drop k) else N)),l.drop k);rw [sb,if_pos h];rfl
 rw [if_neg h,if_neg h];rfl
theorem Af(k:Nat)(l:QF):Al k l=ob (kY k (S l)):=by
 unfold kY ob;show _=((Al k l).map (·.2)).map λr=>(ij (Al k l),r)
 cases Al k l with
 | none=>rfl
 | some x=>rfl
theorem Ag:∀(n:Nat) (o:Option QF),jJ (n+1) o=((kY 1 o).1::(jJ n (kY 1 o).2).1,(jJ n (kY 1 o).2).2)
 | 0,o=>rfl
 | n+1,o=>by
  rw [jJ,Ag n o];rw [jJ];rfl
theorem wZ:∀(n:Nat) (o:Option QF),jm (n+1) o=((gA 1 o).1::(jm n (gA 1 o).2).1,(jm n (gA 1 o).2).2)
 | 0,o=>rfl
 | n+1,o=>by
  rw [jm,wZ n o];rw [jm];rfl
theorem Ct:∀(n:Nat) (l:QF),Bo n l=ob (jJ n (S l))
 | 0,l=>rfl
 | n+1,l=>by
  rw [Bo,Af,Ag]
  cases h:(kY 1 (S l)).2 with
  | none=>
   have e:ob (kY 1 (S l))=N:=by unfold ob;rw [h];rfl
   rw [e];unfold ob;rw [qI];rfl
  | some r=>
   have e:ob (kY 1 (S l))=S ((kY 1 (S l)).1,r):=by unfold ob;rw [h];rfl
   rw [e,sb,Ct n r];unfold ob
   cases (jJ n (S r)).2 <;> rfl
theorem zp:∀(n:Nat) (l:QF),pU n l=ob (jm n (S l))
 | 0,l=>rfl
 | n+1,l=>by
  rw [pU,kl,wZ]
  cases h:(gA 1 (S l)).2 with
  | none=>
   have e:ob (gA 1 (S l))=N:=by unfold ob;rw [h];rfl
   rw [e];unfold ob;rw [nH];rfl
  | some r=>
   have e:ob (gA 1 (S l))=S ((gA 1 (S l)).1,r):=by unfold ob;rw [h];rfl
   rw [e,sb,zp n r];unfold ob
   cases (jm n (S r)).2 <;> rfl
theorem Iz(r:QF){p n q o s m:Option QF}{a c b:Nat}{f B:QF}{t:List QF}(v:gA 4 (S r)=(a,p))(k:gA 4 p=(c,n))(l:kY 1 n=(f,q))(d:gA 1 q=(b,o))(u:jJ b o=(t,s))(g:kY 2 s=(B,m)):oO r=if m=S [] then S ⟨a,c,f,t,B⟩ else N:=by
 have i:o=N->m=N:=λe=>by
  subst e;have:=qI b;rw [u] at this;simp only at this;subst this;rw [tj] at g;injection g with _ g;exact g.symm
 have j:n=N->m=N:=λe=>by
  subst e;rw [tj] at l;injection l with _ l;subst l;rw [lx] at d;injection d with _ d;exact i d.symm
 unfold oO;rw [kl,v]
 cases p with
 | none=>
  rw [lx] at k;injection k with _ k;rw [j k.symm];rfl
 | some r1=>
  show ((gK 4 r1).bind _)=_;rw [kl,k]
  cases n with
  | none=>rw [j rfl];rfl
  | some r2=>
   show ((Al 1 r2).bind _)=_;rw [Af,l]
   cases q with
   | none=>
    rw [lx] at d;injection d with _ d;rw [i d.symm];rfl
   | some r3=>
    show ((gK 1 r3).bind _)=_;rw [kl,d]
    cases o with
    | none=>rw [i rfl];rfl
    | some r4=>
     show ((Bo b r4).bind _)=_;rw [Ct,u]
     cases s with
     | none=>
      rw [tj] at g;injection g with _ g;rw [<-g];rfl
     | some r5=>
      show ((Al 2 r5).bind _)=_;rw [Af,g]
      cases m with
      | none=>rfl
      | some r6=>
       show (if r6=[] then _ else _)=_
       by_cases h:r6=[]
       .rw [if_pos h,if_pos (by rw [h])]
       rw [if_neg h,if_neg (by intro e;injection e with e;exact h e)]
theorem Iu(r:QF){i f g:Option QF}{a b:Nat}{j:List Nat}(l:gA 4 (S r)=(a,i))(d:gA 1 i=(b,f))(k:jm b f=(j,g)):tK r=if g=S [] then S (a,j) else N:=by
 have c:f=N->g=N:=λe=>by
  subst e;have:=nH b;rw [k] at this;exact this
 unfold tK;rw [kl,l]
 cases i with
 | none=>
  rw [lx] at d;injection d with _ d;rw [c d.symm];rfl
 | some r1=>
  show ((gK 1 r1).bind _)=_;rw [kl,d]
  cases f with
  | none=>rw [c rfl];rfl
  | some r2=>
   show ((pU b r2).bind _)=_;rw [zp,k]
   cases g with
   | none=>rfl
   | some r3=>
    show (if r3=[] then _ else _)=_
    by_cases h:r3=[]
    .rw [if_pos h,if_pos (by rw [h])]
    rw [if_neg h,if_neg (by intro e;injection e with e;exact h e)]
theorem nG(k:Nat)(o:Option QF):(gA k o).1 < 256 ^ k:=by
 unfold gA
 cases e:o.bind (bj k) with
 | none=>exact Nat.pow_pos (by decide)
 | some x=>
  obtain ⟨l,_,a⟩:=cd e;obtain ⟨y,r⟩:=x;have:=(kg a).2.2.2;have h:=Bs y;rw [this] at h;exact h
theorem vj(k:Nat)(o:Option QF):(kY k o).1.length < 256 ^ k:=by
 unfold kY
 cases e:o.bind (Al k) with
 | none=>exact Nat.pow_pos (by decide)
 | some x=>
  obtain ⟨l,_,a⟩:=cd e;obtain ⟨y,r⟩:=x;exact (vh a).2.2.2
theorem Cu:∀(n:Nat) (o:Option QF),(jJ n o).1.length=n
 | 0,_=>rfl
 | n+1,o=>by rw [jJ,RI,Cu n];rfl
theorem GF:∀(n:Nat) (o:Option QF),∀t∈(jJ n o).1,t.length < 256
 | 0,_,t,h=>by cases h
 | n+1,o,t,h=>by
  rw [jJ] at h
  rcases Rx.1 h with h | h
  .exact GF n o t h
  simp only [Ry] at h;subst h;exact vj 1 _
theorem BZ:∀(n:Nat) (o:Option QF),(jm n o).1.length=n
 | 0,_=>rfl
 | n+1,o=>by rw [jm,RI,BZ n];rfl
theorem Fv:∀(n:Nat) (o:Option QF),∀x∈(jm n o).1,x < 256
 | 0,_,t,h=>by cases h
 | n+1,o,t,h=>by
  rw [jm] at h
  rcases Rx.1 h with h | h
  .exact Fv n o t h
  simp only [Ry] at h;subst h;exact nG 1 _
open Go.RowKit
theorem aB{w j:QI}{a i n:Nat}{e:Za}{v:QJ}{k:List QJ}(h:w.ownsRow a e i v n k)(p:∀g b,w.heap[g]? =S (YU b e (0,0))->a<=g->j.heap[g]? =S (YU b e (0,0))):j.ownsRow a e i v n k:=by
 obtain ⟨o,d⟩:=h;refine ⟨o,?_⟩
 rcases d with d | ⟨g,c,b,l,f,m,r⟩
 .exact .inl d
 exact .inr ⟨g,c,b,l,f,p g b m f,r⟩
theorem aq{w:QI}{k:Nat}{o:Obj}(h:w.heap[k]? =S o):k < w.heap.size:=(SK.1 h).1
theorem ae{w a:QI}(b:Y6 w.heap.size w a){k:Nat}{o:Obj}(h:w.heap[k]? =S o):a.heap[k]? =S o:=(b.block k (aq h)).trans h
theorem bm{p:Nat}{w b:QI}(c:aA p w b){k:Nat}{o:Obj}(h:w.heap[k]? =S o)(a:k≠p):b.heap[k]? =S o:=(c.2 k a).trans h
structure aC(A:Nat->Prop)(w w':QI):Prop where
 size:w.heap.size<=w'.heap.size
 block:∀k,k < w.heap.size->¬A k->w'.heap[k]? =w.heap[k]?
 still:df w w'
theorem aC.refl(A:Nat->Prop)(w:QI):aC A w w:=⟨QR _,λ_ _ _=>rfl,df.refl w⟩
theorem aC.trans{A A1:Nat->Prop}{a b c:QI}(h:aC A a b)(d:aC A1 b c)(i:∀k,k < a.heap.size->A1 k->A k):aC A a c:=
 ⟨Nat.le_trans h.size d.size,λk f g=>(d.block k (Nat.lt_of_lt_of_le f h.size) (λe=>g (i k f e))).trans (h.block k f g),h.still.trans d.still⟩
theorem aC.mono{A B:Nat->Prop}{a b:QI}(h:aC A a b)(f:∀k,k < a.heap.size->A k->B k):aC B a b:=⟨h.size,λk c d=>h.block k c (λe=>d (f k c e)),h.still⟩
theorem aC.below{A:Nat->Prop}{a b:QI}(h:Y6 a.heap.size a b):aC A a b:=⟨h.size,λk c _=>h.block k c,df.xF h⟩
theorem aC.same{p:Nat}{a b:QI}(h:aA p a b):aC (λk=>k=p) a b:=⟨by rw [h.1];exact QR _,λk _ c=>h.2 k c,h.3⟩
theorem aC.grown{a b:QI}{c:Option Nat}(h:a.grownBy b c):aC (λk=>c=S k) a b:=⟨h.size,λk d f=>h.block k d (λe=>f e.symm),⟨h.os,h.tape,h.output⟩⟩
theorem aC.some_{A:Nat->Prop}{a b:QI}(h:aC A a b){k:Nat}{o:Obj}(e:a.heap[k]? =S o)(c:¬A k):b.heap[k]? =S o:=(h.block k (aq e) c).trans e
theorem DL{P:Program}(w:QI)(s D E d:Za)(r g c h:Nat)(a:Addr)(b n:Nat)(e:Array QJ)(t:Za)(f:List QJ)
  (C:P.underlying s=S (.slice d)) (x:(P.info? d).map (·.size)=S r)
  (z:w.heap[g]? =S (YU e t (0,0))) (o:b<=c) (B:f.length=b * r)
  (m:∀j v,f[j]? =S v->w.cell? (a.add j)=S v) (k:f.length<=e.size) (y:∀v∈f,v.oneCell'=YT):
  (Builtin.copy_ #[s,D] E #[L (S ⟨g,0,N⟩) c h,L (S a) b n]).run P w=
   .ok (goInt b) (w.setRow g (f++e.toList.drop f.length).toArray):=by
 have u:=run_loadCells_list (P:=P) w a f m;have q:=run_storeCells_at P g 0 t f 0 e w z (by simpa using k) y;have l:Nat.min b c=b:=Nat.min_eq_left o
 cases p:P.info? d with
 | none=>simp [p] at x
 | some i=>
  have A:i.size=r:=by simpa [p] using x
  rw [B] at u;simp [Builtin.copy_,TB C,Builtin.lenOf,Builtin.firstCells,sizeOf,typeInfo,p,A,l,u,q]
theorem Bg{P:Program}(w:QI)(h p q b:Za)(n g d c:Nat)(a:QK)(e:Nat)
  (m:P.underlying h=S (.slice b)) (l:(P.info? b).map (·.size)=S n):
  (Builtin.copy_ #[h,p] q #[L (S ⟨g,0,N⟩) d c,L a 0 e]).run P w= .ok (goInt 0) w:=by
 cases f:P.info? b with
 | none=>simp [f] at l
 | some i=>
  have r:i.size=n:=by simpa [f] using l
  cases a with
  | none=>simp [Builtin.copy_,TB m,Builtin.lenOf,Builtin.firstCells,sizeOf,typeInfo,f,storeCells]
  | some a=>
   have k:=run_loadCells_list (P:=P) w a [] (λj v o=>by simp at o);simp only [RR] at k;simp [Builtin.copy_,TB m,Builtin.lenOf,Builtin.firstCells,sizeOf,typeInfo,f,k,storeCells]
theorem MV{P:Program}(t e:Za)(i:TypeInfo)(z:QJ)(d a n:Nat)(j:P.underlying t=S (.slice e))(h:P.info? e=S i)(k:i.zero=S z)(c:i.size=d)(b:i.bytes=a)(g:a * (n+8)<=281474976710656)(l:n<=140737488351232):∃C:Array QJ,C.size=(n+8) * d/\∀w:QI,(Instr.makeSlice t (I J ((n:Int)+8)) (I J ((n:Int)+8))).run P w= .ok (L (S ⟨w.heap.size,0,N⟩) (n+8) (n+8)) (w.alloc (YU C e)):=by
 refine ⟨madeCells z.cells ((n+8) * i.size),?_,λw=>?_⟩
 .rw [<-c];simp [madeCells]
 have:=run_make (P:=P) w t e i z j h k J J ((n:Int)+8) ((n:Int)+8) (by omega) (Int.le_refl _) (by
  have f:((a:Int) * ((n:Int)+8))=((a * (n+8):Nat):Int):=by rw [Int.natCast_mul,Int.natCast_add];rfl
  rw [b,f]
  generalize a * (n+8)=q at g
  omega) (by omega)
 rw [show ((n:Int)+8).toNat=n+8 by omega] at this
 exact this
theorem JG{P:Program}{c E:Za}{z:QJ}{g d:Nat}(G:P.underlying c=S (.slice E))(r:(P.info? E).map (λi=>(i.zero,i.size,i.bytes))=S (S z,g,d))(n:Nat)(hb:d * (n+8)<=281474976710656)(hn:n<=140737488351232):∃C:Array QJ,(∀w:QI,(Instr.makeSlice c (I J ((n:Int)+8)) (I J ((n:Int)+8))).run P w= .ok (L (S ⟨w.heap.size,0,N⟩) (n+8) (n+8)) (w.alloc (YU C E)))/\
   ∀(W:QI) (v:QJ) (m:List QJ),bg W v n g m->(∀u∈m,u.oneCell'=YT)->∃(y:QI) (D:Array QJ),(∀x,(Builtin.copy_ #[c,c] x #[L (S ⟨W.heap.size,0,N⟩) (n+8) (n+8),v]).run P (W.alloc (YU C E))= .ok (goInt n) y)/\Y6 W.heap.size W y/\y.heap.size=W.heap.size+1/\y.heap[W.heap.size]? =S (YU D E (0,0))/\D.size=(n+8) * g/\∀j:Nat,j < n * g->D[j]? =m[j]? :=by
 obtain ⟨i,V,hz,Y,M⟩:=info_parts r;obtain ⟨C,U,R⟩:=MV c E i z g d n G V hz Y M hb hn;have t:(P.info? E).map (·.size)=S g:=by rw [V];simp [Y]
 refine ⟨C,R,λW v m h Z=>?_⟩
 have o:(W.alloc (YU C E)).heap[W.heap.size]? =S (YU C E (0,0)):=by
  show (W.heap.push (YU C E))[W.heap.size]? =_;simp
 obtain ⟨X,⟨rfl,a,l,rfl⟩ | ⟨b,f,l,rfl,a0,hc⟩⟩:=h
 .refine ⟨W.alloc (YU C E),C,λx=>Bg _ c c x E g _ _ _ a l G t,(QQ _ _).alloc (QR _) _,by simp,o,U,λj A=>by omega⟩
 have q:m.length<=C.size:=by rw [X,U];exact Nat.mul_le_mul_right _ (by omega)
 have s:=λx=>DL (W.alloc (YU C E)) c c x E g W.heap.size (n+8) (n+8) ⟨b,f,N⟩ n l C E m G t o (by omega) X (λj u A=>by
  have O:j < n * g:=by
   have:=(List.getElem?_eq_some_iff.1 A).1;omega
  have B:=hc j O;rw [A] at B;have Q:=au B;have e:Addr.add ⟨b,f,N⟩ j=⟨b,f+j,N⟩:=by unfold Addr.add;simp
  rw [e,((QQ W.heap.size W).alloc (QR _) _).cell (p:=⟨b,f+j,N⟩) Q,B]) q Z
 refine ⟨_,_,s,?_,?_,setRow_heap _ _ C _ E _ o,?_,?_⟩
 .exact ⟨rfl,rfl,rfl,by simp,λk hk=>(setRow_other _ _ k _ (by omega)).trans (Below.heap_alloc _ _ _ hk)⟩
 .simp
 .simp;omega
 intro j A;have:j < m.length:=by omega
 simp [List.getElem?_append,this]
open Go.Proofs.Tryz
def qK(c:bF):Prop:=16 * c.xf.length<=140737488351232/\16 * c.xe.length<=140737488351232/\32 * c.x9.length<=140737488351232/\8 * c.waits.length<=140737488351232
def fK(w:QI)(B:Nat)(D N U V:Array QJ):Prop:=
 w.heap[B+3]? =S (YU D 9 (0,0))/\w.heap[B+4]? =S (YU N 96 (0,0))/\w.heap[B+5]? =S (YU U 68 (0,0))/\w.heap[B+6]? =S (YU V 3 (0,0))
theorem lL:(prog.info? 9).map (λi=>(i.zero,i.size,i.bytes))=S (S (T ⟨#[]⟩),1,16):=by kernel_rfl
theorem wE:(prog.info? 96).map (λi=>(i.zero,i.size,i.bytes))=S (S (YZ #[I J 0,I J 0]),2,16):=by kernel_rfl
theorem sS:(prog.info? 68).map (λi=>(i.zero,i.size,i.bytes))=S (S (YZ #[T ⟨#[]⟩,T ⟨#[]⟩]),2,32):=by kernel_rfl
theorem wD:(prog.info? 3).map (λi=>(i.zero,i.size,i.bytes))=S (S (I J 0),1,8):=by kernel_rfl
theorem zu(l:List QL):∀u∈bA l,u.oneCell'=YT:=by
 intro u a;obtain ⟨x,_,rfl⟩:=Rl.1 a;rfl
theorem zq(l:List Int):∀u∈dG l,u.oneCell'=YT:=by
 intro u a;obtain ⟨x,_,rfl⟩:=Rl.1 a;rfl
theorem zt(l:List (Int×Int)):∀u∈cZ l,u.oneCell'=YT:=by
 intro u a;obtain ⟨x,_,h⟩:=List.mem_flatMap.1 a
 rcases Rf.1 h with rfl | h
 .rfl
 rcases Rf.1 h with rfl | h
 .rfl
 cases h
theorem sW(l:List (QL×QL)):∀u∈bI l,u.oneCell'=YT:=by
 intro u a;obtain ⟨x,_,h⟩:=List.mem_flatMap.1 a
 rcases Rf.1 h with rfl | h
 .rfl
 rcases Rf.1 h with rfl | h
 .rfl
 cases h
def uv(n sz k:Nat)(cs pat:List QJ)(A:Array QJ):Prop:=
 A.size=(n+8) * sz/\(∀j:Nat,j < n * sz->A[j]? =cs[j]?)/\∀j i:Nat,j < k->i < sz->A[(n+j) * sz+i]? =pat[i]?
theorem EO{n k:Nat}{b:List QJ}{p:QJ}{A:Array QJ}(h:uv n 1 k b [p] A)(m:k < 8):uv n 1 (k+1) b [p] (A.setIfInBounds (n+k) p):=by
 obtain ⟨d,f,g⟩:=h;refine ⟨by simpa using d,λj c=>?_,λj i c l=>?_⟩
 .rw [TH (by omega)];exact f j c
 have a:i=0:=by omega
 subst a
 by_cases e:j=k
 .subst e;rw [show (n+j) * 1+0=n+j by omega,TM (by omega)];rfl
 rw [TH (by omega)];exact g j 0 (by omega) (by omega)
theorem EP{n k:Nat}{b:List QJ}{p q:QJ}{A:Array QJ}(h:uv n 2 k b [p,q] A)(m:k < 8):uv n 2 (k+1) b [p,q] ((A.setIfInBounds ((n+k) * 2) p).setIfInBounds ((n+k) * 2+1) q):=by
 obtain ⟨d,f,g⟩:=h;refine ⟨by simpa using d,λj c=>?_,λj i c l=>?_⟩
 .rw [TH (by omega),TH (by omega)];exact f j c
 have a:i=0\/i=1:=by omega
 by_cases e:j=k
 .subst e
  rcases a with rfl | rfl
  .rw [TH (by omega),Nat.add_zero,TM (by omega)];rfl
  rw [TM (by simp;omega)];rfl
 rw [TH (by omega),TH (by omega)];exact g j i (by omega) l
theorem fK.yR{w:QI}{B:Nat}{D a U V:Array QJ}(h:fK w B D a U V)(i:Nat)(v:QJ):fK (w.setCell ⟨B+3,i,N⟩ v) B (D.setIfInBounds i v) a U V:=
 ⟨Ro w (B+3) i D _ v h.1,(TP w ⟨B+3,i,N⟩ (B+4) v (by show B+4≠B+3;omega)).trans h.2.1,(TP w ⟨B+3,i,N⟩ (B+5) v (by show B+5≠B+3;omega)).trans h.2.2.1,(TP w ⟨B+3,i,N⟩ (B+6) v (by show B+6≠B+3;omega)).trans h.2.2.2⟩
theorem fK.yi{w:QI}{B:Nat}{D a U V:Array QJ}(h:fK w B D a U V)(i:Nat)(v:QJ):fK (w.setCell ⟨B+4,i,N⟩ v) B D (a.setIfInBounds i v) U V:=
 ⟨(TP w ⟨B+4,i,N⟩ (B+3) v (by show B+3≠B+4;omega)).trans h.1,Ro w (B+4) i a _ v h.2.1,(TP w ⟨B+4,i,N⟩ (B+5) v (by show B+5≠B+4;omega)).trans h.2.2.1,(TP w ⟨B+4,i,N⟩ (B+6) v (by show B+6≠B+4;omega)).trans h.2.2.2⟩
theorem fK.yj{w:QI}{B:Nat}{D a U V:Array QJ}(h:fK w B D a U V)(i:Nat)(v:QJ):fK (w.setCell ⟨B+5,i,N⟩ v) B D a (U.setIfInBounds i v) V:=
 ⟨(TP w ⟨B+5,i,N⟩ (B+3) v (by show B+3≠B+5;omega)).trans h.1,(TP w ⟨B+5,i,N⟩ (B+4) v (by show B+4≠B+5;omega)).trans h.2.1,Ro w (B+5) i U _ v h.2.2.1,(TP w ⟨B+5,i,N⟩ (B+6) v (by show B+6≠B+5;omega)).trans h.2.2.2⟩
theorem fK.yS{w:QI}{B:Nat}{D a U V:Array QJ}(h:fK w B D a U V)(i:Nat)(v:QJ):fK (w.setCell ⟨B+6,i,N⟩ v) B D a U (V.setIfInBounds i v):=
 ⟨(TP w ⟨B+6,i,N⟩ (B+3) v (by show B+3≠B+6;omega)).trans h.1,(TP w ⟨B+6,i,N⟩ (B+4) v (by show B+4≠B+6;omega)).trans h.2.1,(TP w ⟨B+6,i,N⟩ (B+5) v (by show B+5≠B+6;omega)).trans h.2.2.1,Ro w (B+6) i V _ v h.2.2.2⟩
theorem iw{w:QI}{b j:Nat}{A:Array QJ}{t:Za}(h:w.heap[b]? =S (YU A t (0,0)))(a:j < A.size):(∃v,w.cell? ⟨b,j,N⟩=S v)/\w.frozen? ⟨b,j,N⟩=F:=
 ⟨⟨A[j],by rw [Q3 h,Si a]⟩,RJ h j⟩
theorem si(w:QI)(a b c:Obj):(((w.alloc a).alloc b).alloc c).heap[w.heap.size+1]? =S b/\(((w.alloc a).alloc b).alloc c).heap[w.heap.size+1+1]? =S c:=by
 constructor
 .show (((w.heap.push a).push b).push c)[w.heap.size+1]? =S b;rw [VV,if_neg (by simp),VV,if_pos (by simp)]
 show (((w.heap.push a).push b).push c)[w.heap.size+1+1]? =S c;rw [VV,if_pos (by simp)]
theorem fK.low{w:QI}{B:Nat}{D a U V:Array QJ}(h:fK w B D a U V){p:Addr}(b:p.block < B+3)(v:QJ):fK (w.setCell p v) B D a U V:=
 ⟨(TP w p (B+3) v (by omega)).trans h.1,(TP w p (B+4) v (by omega)).trans h.2.1,(TP w p (B+5) v (by omega)).trans h.2.2.1,(TP w p (B+6) v (by omega)).trans h.2.2.2⟩
def CO:QJ:=T ⟨#[98,101,121,111,110,100]⟩
def kL(c:bF)(B:Nat)(w:QI):Prop:=
 ∃D N U V:Array QJ,fK w B D N U V/\uv c.xf.length 1 8 (bA c.xf) [CO] D/\uv c.xe.length 2 8 (cZ c.xe) [I J 0,I J (-77)] N/\uv c.x9.length 2 8 (bI c.x9) [CO,T ⟨#[]⟩] U/\uv c.waits.length 1 8 (dG c.waits) [I J (-77)] V
def nB(c:bF)(B:Nat):QJ:=
 YZ #[T c.host,L (S ⟨B+1+1+1,0,N⟩) c.xf.length (c.xf.length+8),L (S ⟨B+1+1+1+1,0,N⟩) c.xe.length (c.xe.length+8),L (S ⟨B+1+1+1+1+1,0,N⟩) c.x9.length (c.x9.length+8),I J c.most,I J c.size,L (S ⟨B+1+1+1+1+1+1,0,N⟩) c.waits.length (c.waits.length+8),I J c.xm,I J c.room]
theorem Ff(c:bF)(vD vN vU vW:QJ)(w:QI)(h:dD w c vD vN vU vW)(hr:qK c):Y8 Ys 25 #[YZ #[.string c.host,vD,vN,vU,I J c.most,I J c.size,vW,I J c.xm,I J c.room]] w λe w'=>e=YX (nB c w.heap.size)/\kL c w.heap.size w'/\Y6 w.heap.size w w':=by
 obtain ⟨d,q,n,m,f,l,b,B,g⟩:=c;obtain ⟨r1,r2,r3,r4⟩:=hr;simp only at r1 r2 r3 r4;obtain ⟨z,A,eD⟩:=az h.1;obtain ⟨r,u,eN⟩:=az h.2.1;obtain ⟨s,x,eU⟩:=az h.2.2.1;obtain ⟨t,y,eW⟩:=az h.2.2.2;simp only at eD eN eU eW;subst eD eN eU eW;obtain ⟨CD,k9,c9⟩:=JG (P:=Ys) underlying30 lL q.length (by omega) (by omega);obtain ⟨CN,l0,d0⟩:=JG (P:=Ys) underlying31 wE n.length (by omega) (by omega);obtain ⟨CU,l1,d1⟩:=JG (P:=Ys) underlying32 sS m.length (by omega) (by omega);obtain ⟨CW,l2,d2⟩:=JG (P:=Ys) underlying33 wD b.length (by omega) (by omega);have bD:(q.length:Int)<=17592186044416:=by omega
 have bN:(n.length:Int)<=17592186044416:=by omega
 have bU:(m.length:Int)<=17592186044416:=by omega
 have bW:(b.length:Int)<=17592186044416:=by omega
 have HA:=K h;have SD:=K c9;have SN:=K d0;have SU:=K d1;have SW:=K d2;clear h c9 d0 d1 d2;have g6:∃W0:QI,W0=(((w.alloc (YU #[.string d,L z q.length A,L r n.length u,L s m.length x,I J f,I J l,L t b.length y,I J B,I J g] 35)).alloc (YU #[.string ⟨#[]⟩,L N 0 0,L N 0 0,L N 0 0,I J 0,I J 0,L N 0 0,I J 0,I J 0] 35)).alloc (YU #[.string d,L z q.length A,L r n.length u,L s m.length x,I J f,I J l,L t b.length y,I J B,I J g] 35)):=⟨_,rfl⟩;have a0:Y6 w.heap.size w (((w.alloc (YU #[.string d,L z q.length A,L r n.length u,L s m.length x,I J f,I J l,L t b.length y,I J B,I J g] 35)).alloc (YU #[.string ⟨#[]⟩,L N 0 0,L N 0 0,L N 0 0,I J 0,I J 0,L N 0 0,I J 0,I J 0] 35)).alloc (YU #[.string d,L z q.length A,L r n.length u,L s m.length x,I J f,I J l,L t b.length y,I J B,I J g] 35)):=(((QQ _ _).alloc (QR _) _).alloc (by simp) _).alloc (by simp;omega) _;have a3:((((w.alloc (YU #[.string d,L z q.length A,L r n.length u,L s m.length x,I J f,I J l,L t b.length y,I J B,I J g] 35)).alloc (YU #[.string ⟨#[]⟩,L N 0 0,L N 0 0,L N 0 0,I J 0,I J 0,L N 0 0,I J 0,I J 0] 35)).alloc (YU #[.string d,L z q.length A,L r n.length u,L s m.length x,I J f,I J l,L t b.length y,I J B,I J g] 35))).heap.size=w.heap.size+1+1+1:=by simp
 obtain ⟨W1,D,f9,a9,a4,b0,d3,c4⟩:=SD.out (((w.alloc (YU #[.string d,L z q.length A,L r n.length u,L s m.length x,I J f,I J l,L t b.length y,I J B,I J g] 35)).alloc (YU #[.string ⟨#[]⟩,L N 0 0,L N 0 0,L N 0 0,I J 0,I J 0,L N 0 0,I J 0,I J 0] 35)).alloc (YU #[.string d,L z q.length A,L r n.length u,L s m.length x,I J f,I J l,L t b.length y,I J B,I J g] 35)) _ _ (HA.out.1.below a0) (zu q);rw [a3] at f9 a4 b0;have a6:Y6 w.heap.size w W1:=a0.trans (a9.mono (by rw [a3];omega));obtain ⟨W2,a,g0,a1,Z,b4,d4,c5⟩:=SN.out W1 _ _ (HA.out.2.1.below a6) (zt n);have a7:Y6 w.heap.size w W2:=a6.trans (a1.mono (by omega));obtain ⟨W3,U,g4,M,E,b5,d5,c6⟩:=SU.out W2 _ _ (HA.out.2.2.1.below a7) (sW m);have a8:Y6 w.heap.size w W3:=a7.trans (M.mono (by omega));obtain ⟨W4,V,g5,C,g9,b7,d6,c7⟩:=SW.out W3 _ _ (HA.out.2.2.2.below a8) (zq b);have c8:Y6 w.heap.size w W4:=a8.trans (C.mono (by omega));rw [a4] at Z b4 g0;rw [Z] at E b5 g4;rw [E] at g9 b7 g5
 have g8:H (fK W4 w.heap.size D a U V):=by
  refine ⟨?_,?_,?_,?_⟩
  .rw [C.block _ (by rw [E];omega),M.block _ (by rw [Z];omega),a1.block _ (by rw [a4];omega)];exact b0
  .rw [C.block _ (by rw [E];omega),M.block _ (by rw [Z];omega)];exact b4
  .rw [C.block _ (by rw [E];omega)];exact b5
  exact b7
 have G:∀(W:QI),Y6 (w.heap.size+3) (((w.alloc (YU #[.string d,L z q.length A,L r n.length u,L s m.length x,I J f,I J l,L t b.length y,I J B,I J g] 35)).alloc (YU #[.string ⟨#[]⟩,L N 0 0,L N 0 0,L N 0 0,I J 0,I J 0,L N 0 0,I J 0,I J 0] 35)).alloc (YU #[.string d,L z q.length A,L r n.length u,L s m.length x,I J f,I J l,L t b.length y,I J B,I J g] 35)) W->∀j:Nat,W.cell? ⟨w.heap.size,j,N⟩=(#[.string d,L z q.length A,L r n.length u,L s m.length x,I J f,I J l,L t b.length y,I J B,I J g]:Array QJ)[j]? :=λW hW j=>by
  rw [hW.cell (p:=⟨w.heap.size,j,N⟩) (by show w.heap.size < w.heap.size+3;omega)];rw [((QQ (w.heap.size+2) _).alloc (by simp) _).cell (p:=⟨w.heap.size,j,N⟩) (by show w.heap.size < w.heap.size+2;omega)];rw [((QQ (w.heap.size+1) _).alloc (by simp) _).cell (p:=⟨w.heap.size,j,N⟩) (by show w.heap.size < w.heap.size+1;omega)];exact World.cell?_alloc_mark w _ 35 (0,0) j
 have e7:H (∀(W:QI),Y6 (w.heap.size+3) (((w.alloc (YU #[.string d,L z q.length A,L r n.length u,L s m.length x,I J f,I J l,L t b.length y,I J B,I J g] 35)).alloc (YU #[.string ⟨#[]⟩,L N 0 0,L N 0 0,L N 0 0,I J 0,I J 0,L N 0 0,I J 0,I J 0] 35)).alloc (YU #[.string d,L z q.length A,L r n.length u,L s m.length x,I J f,I J l,L t b.length y,I J B,I J g] 35)) W->∀j:Nat,W.cell? ⟨w.heap.size+1+1,j,N⟩=(#[.string d,L z q.length A,L r n.length u,L s m.length x,I J f,I J l,L t b.length y,I J B,I J g]:Array QJ)[j]?):=λW hW j=>by
  rw [hW.cell (p:=⟨w.heap.size+1+1,j,N⟩) (by show w.heap.size+1+1 < w.heap.size+3;omega)];have:=World.cell?_alloc_mark ((w.alloc (YU #[.string d,L z q.length A,L r n.length u,L s m.length x,I J f,I J l,L t b.length y,I J B,I J g] 35)).alloc (YU #[.string ⟨#[]⟩,L N 0 0,L N 0 0,L N 0 0,I J 0,I J 0,L N 0 0,I J 0,I J 0] 35)) #[.string d,L z q.length A,L r n.length u,L s m.length x,I J f,I J l,L t b.length y,I J B,I J g] 35 (0,0) j;simpa using this
 have e8:H (∀(W:QI),Y6 (w.heap.size+3) (((w.alloc (YU #[.string d,L z q.length A,L r n.length u,L s m.length x,I J f,I J l,L t b.length y,I J B,I J g] 35)).alloc (YU #[.string ⟨#[]⟩,L N 0 0,L N 0 0,L N 0 0,I J 0,I J 0,L N 0 0,I J 0,I J 0] 35)).alloc (YU #[.string d,L z q.length A,L r n.length u,L s m.length x,I J f,I J l,L t b.length y,I J B,I J g] 35)) W->∀j:Nat,W.cell? ⟨w.heap.size+1,j,N⟩=(#[.string ⟨#[]⟩,L N 0 0,L N 0 0,L N 0 0,I J 0,I J 0,L N 0 0,I J 0,I J 0]:Array QJ)[j]?):=λW hW j=>by
  rw [hW.cell (p:=⟨w.heap.size+1,j,N⟩) (by show w.heap.size+1 < w.heap.size+3;omega)];rw [((QQ (w.heap.size+2) _).alloc (by simp) _).cell (p:=⟨w.heap.size+1,j,N⟩) (by show w.heap.size+1 < w.heap.size+2;omega)];simp
 have e5:H (∀(W:QI),Y6 (w.heap.size+3) (((w.alloc (YU #[.string d,L z q.length A,L r n.length u,L s m.length x,I J f,I J l,L t b.length y,I J B,I J g] 35)).alloc (YU #[.string ⟨#[]⟩,L N 0 0,L N 0 0,L N 0 0,I J 0,I J 0,L N 0 0,I J 0,I J 0] 35)).alloc (YU #[.string d,L z q.length A,L r n.length u,L s m.length x,I J f,I J l,L t b.length y,I J B,I J g] 35)) W->∀j:Nat,W.frozen? ⟨w.heap.size+1+1,j,N⟩=F):=λW hW j=>by
  refine RJ (cs:=#[.string d,L z q.length A,L r n.length u,L s m.length x,I J f,I J l,L t b.length y,I J B,I J g]) (T:=35) ?_ j;rw [hW.block _ (by omega)];exact (si w _ _ _).2
 have e6:H (∀(W:QI),Y6 (w.heap.size+3) (((w.alloc (YU #[.string d,L z q.length A,L r n.length u,L s m.length x,I J f,I J l,L t b.length y,I J B,I J g] 35)).alloc (YU #[.string ⟨#[]⟩,L N 0 0,L N 0 0,L N 0 0,I J 0,I J 0,L N 0 0,I J 0,I J 0] 35)).alloc (YU #[.string d,L z q.length A,L r n.length u,L s m.length x,I J f,I J l,L t b.length y,I J B,I J g] 35)) W->∀j:Nat,W.frozen? ⟨w.heap.size+1,j,N⟩=F):=λW hW j=>by
  refine RJ (cs:=#[.string ⟨#[]⟩,L N 0 0,L N 0 0,L N 0 0,I J 0,I J 0,L N 0 0,I J 0,I J 0]) (T:=35) ?_ j;rw [hW.block _ (by omega)];exact (si w _ _ _).1
 have e1:=a9;rw [a3] at e1;have O:Y6 (w.heap.size+3) (((w.alloc (YU #[.string d,L z q.length A,L r n.length u,L s m.length x,I J f,I J l,L t b.length y,I J B,I J g] 35)).alloc (YU #[.string ⟨#[]⟩,L N 0 0,L N 0 0,L N 0 0,I J 0,I J 0,L N 0 0,I J 0,I J 0] 35)).alloc (YU #[.string d,L z q.length A,L r n.length u,L s m.length x,I J f,I J l,L t b.length y,I J B,I J g] 35)) W1:=e1;have Q:Y6 (w.heap.size+3) (((w.alloc (YU #[.string d,L z q.length A,L r n.length u,L s m.length x,I J f,I J l,L t b.length y,I J B,I J g] 35)).alloc (YU #[.string ⟨#[]⟩,L N 0 0,L N 0 0,L N 0 0,I J 0,I J 0,L N 0 0,I J 0,I J 0] 35)).alloc (YU #[.string d,L z q.length A,L r n.length u,L s m.length x,I J f,I J l,L t b.length y,I J B,I J g] 35)) W2:=O.trans (a1.mono (by omega));have R:Y6 (w.heap.size+3) (((w.alloc (YU #[.string d,L z q.length A,L r n.length u,L s m.length x,I J f,I J l,L t b.length y,I J B,I J g] 35)).alloc (YU #[.string ⟨#[]⟩,L N 0 0,L N 0 0,L N 0 0,I J 0,I J 0,L N 0 0,I J 0,I J 0] 35)).alloc (YU #[.string d,L z q.length A,L r n.length u,L s m.length x,I J f,I J l,L t b.length y,I J B,I J g] 35)) W3:=Q.trans (M.mono (by omega));have a5:Y6 (w.heap.size+3) (((w.alloc (YU #[.string d,L z q.length A,L r n.length u,L s m.length x,I J f,I J l,L t b.length y,I J B,I J g] 35)).alloc (YU #[.string ⟨#[]⟩,L N 0 0,L N 0 0,L N 0 0,I J 0,I J 0,L N 0 0,I J 0,I J 0] 35)).alloc (YU #[.string d,L z q.length A,L r n.length u,L s m.length x,I J f,I J l,L t b.length y,I J B,I J g] 35)) W4:=R.trans (C.mono (by omega));have n1:W1.cell? ⟨w.heap.size,2,N⟩=S (L r n.length u):=G W1 O 2;have n2:W2.cell? ⟨w.heap.size,3,N⟩=S (L s m.length x):=G W2 Q 3;have n3:W3.cell? ⟨w.heap.size,6,N⟩=S (L t b.length y):=G W3 R 6
 have h6:∀o:Obj,(W1.alloc o).cell? ⟨w.heap.size,2,N⟩=S (L r n.length u):=λo=>by
  rw [((QQ W1.heap.size W1).alloc (QR _) o).cell (by rw [a4];show w.heap.size < _;omega)];exact n1
 have h7:∀o:Obj,(W2.alloc o).cell? ⟨w.heap.size,3,N⟩=S (L s m.length x):=λo=>by
  rw [((QQ W2.heap.size W2).alloc (QR _) o).cell (by rw [Z];show w.heap.size < _;omega)];exact n2
 have h8:∀o:Obj,(W3.alloc o).cell? ⟨w.heap.size,6,N⟩=S (L t b.length y):=λo=>by
  rw [((QQ W3.heap.size W3).alloc (QR _) o).cell (by rw [E];show w.heap.size < _;omega)];exact n3
 have e3:=K a5;have e2:=K a0;have h5:=K c8;have e4:=K G;have e9:=K c4;have f0:=K c5;have f1:=K c6;have f2:=K c7;have f3:=K d3;have f4:=K d4;have f5:=K d5;have f6:=K d6;clear g6 a0 a3 a9 a1 M C b0 b4 b5 b7 a6 a7 a8 c8 e1 O Q R a5 G c4 c5 c6 c7 d3 d4 d5 d6 SD SN SU SW;go_enter func25,ntmps25;go_wp2_with fail
 go_loopw [8] (λi w'=>∃(k:Nat) (D' N' U' V':Array QJ),k<=8/\i=I J k/\fK w' w.heap.size D' N' U' V'/\uv q.length 1 k (bA q) [CO] D'/\uv n.length 2 k (cZ n) [I J 0,I J (-77)] N'/\uv m.length 2 k (bI m) [CO,.string ⟨#[]⟩] U'/\uv b.length 1 k (dG b) [I J (-77)] V'/\Y6 (w.heap.size+3) (((w.alloc (YU #[.string d,L z q.length A,L r n.length u,L s m.length x,I J f,I J l,L t b.length y,I J B,I J g] 35)).alloc (YU #[.string ⟨#[]⟩,L N 0 0,L N 0 0,L N 0 0,I J 0,I J 0,L N 0 0,I J 0,I J 0] 35)).alloc (YU #[.string d,L z q.length A,L r n.length u,L s m.length x,I J f,I J l,L t b.length y,I J B,I J g] 35)) w') (λi _=>8 - (Y9 i).toNat)
 case atStart=>exact ⟨0,D,a,U,V,by omega,rfl,g8.out,⟨f3.out,e9.out,λj i hj=>by omega⟩,⟨f4.out,f0.out,λj i hj=>by omega⟩,⟨f5.out,f1.out,λj i hj=>by omega⟩,⟨f6.out,f2.out,λj i hj=>by omega⟩,e3.out⟩
 case round=>
  obtain ⟨k,D',N',U',V',hk,rfl,hR,fD,fN,fU,fV,hb⟩:=hrel;have bx:=e4.out _ hb;have b1:wr.cell? ⟨w.heap.size,1,N⟩=S (L z q.length A):=bx 1;have b2:wr.cell? ⟨w.heap.size,2,N⟩=S (L r n.length u):=bx 2;have b3:wr.cell? ⟨w.heap.size,3,N⟩=S (L s m.length x):=bx 3;have b6:wr.cell? ⟨w.heap.size,6,N⟩=S (L t b.length y):=bx 6;have HR:=K hR;have c0:=K fD;have c1:=K fN;have c2:=K fU;have c3:=K fV;have HB:=K hb
  by_cases a2:k < 8
  .obtain ⟨⟨vD,f7⟩,h9⟩:=iw (j:=q.length+k) hR.1 (by rw [fD.1];omega);obtain ⟨⟨l3,d7⟩,h0⟩:=iw (j:=(n.length+k) * 2) hR.2.1 (by rw [fN.1];omega);obtain ⟨⟨l4,d8⟩,h1⟩:=iw (j:=(n.length+k) * 2+1) hR.2.1 (by rw [fN.1];omega);obtain ⟨⟨l5,d9⟩,h2⟩:=iw (j:=(m.length+k) * 2) hR.2.2.1 (by rw [fU.1];omega);obtain ⟨⟨l6,e0⟩,h3⟩:=iw (j:=(m.length+k) * 2+1) hR.2.2.1 (by rw [fU.1];omega);obtain ⟨⟨vV,f8⟩,i0⟩:=iw (j:=b.length+k) hR.2.2.2 (by rw [fV.1];omega);have k8:decide ((k:Int) < 8)=YT:=by simp;omega
   have h4:(k:Int) < 8:=by omega
   clear hR fD fN fU fV hb bx;go_wp2_with fail
   refine ⟨⟨k+1,_,_,_,_,by omega,by go_num,((((((HR.out.yR _ _).yi _ _).yi _ _).yj _ _).yj _ _).yS _ _),EO c0.out a2,EP c1.out a2,EP c2.out a2,EO c3.out a2,?_⟩,?_⟩
   .refine (((((HB.out.setCell ?_ _).setCell ?_ _).setCell ?_ _).setCell ?_ _).setCell ?_ _).setCell ?_ _ <;> (dsimp only;omega)
   simp [Y9];omega
  have g7:k=8:=by omega
  subst g7;have X:=e7.out _ hb;have Y:=e8.out _ hb;have fX:=e5.out _ hb;have fY:=e6.out _ hb;have x0:=X 0;have y0:=Y 0;have i1:=fX 0;have j2:=fY 0;have x1:=X 1;have y1:=Y 1;have i2:=fX 1;have k0:=fY 1;have x2:=X 2;have y2:=Y 2;have i3:=fX 2;have k1:=fY 2;have x3:=X 3;have y3:=Y 3;have i4:=fX 3;have k2:=fY 3;have x4:=X 4;have y4:=Y 4;have i5:=fX 4;have k3:=fY 4;have x5:=X 5;have y5:=Y 5;have i6:=fX 5;have k4:=fY 5;have x6:=X 6;have y6:=Y 6;have i8:=fX 6;have k5:=fY 6;have x7:=X 7;have y7:=Y 7;have i9:=fX 7;have k6:=fY 7;have x8:=X 8;have y8:=Y 8;have j1:=fX 8;have k7:=fY 8;simp only [List.getElem?_toArray,List.getElem?_cons_zero,List.getElem?_cons_succ] at x0 x1 x2 x3 x4 x5 x6 x7 x8 y0 y1 y2 y3 y4 y5 y6 y7 y8;clear X Y fX fY hR fD fN fU fV hb bx;go_wp2_with fail
  refine bodyPost_ret (v:=nB ⟨d,q,n,m,f,l,b,B,g⟩ w.heap.size) (by simp [results,results25,go_sem,nB, *]) rfl ⟨rfl,⟨D',N',U',V',?_,c0.out,c1.out,c2.out,c3.out⟩,?_⟩
  .refine ((((((((((((HR.out.low ?_ _).low ?_ _).low ?_ _).low ?_ _).low ?_ _).low ?_ _).low ?_ _).low ?_ _).low ?_ _).low ?_ _).low ?_ _).low ?_ _).low ?_ _ <;> (dsimp only;omega)
  refine (((((((((((((e2.out.trans (HB.out.mono (by omega))).setCell ?_ _).setCell ?_ _).setCell ?_ _).setCell ?_ _).setCell ?_ _).setCell ?_ _).setCell ?_ _).setCell ?_ _).setCell ?_ _).setCell ?_ _).setCell ?_ _).setCell ?_ _).setCell ?_ _ <;> (dsimp only;omega)
def Og(wa:QI)(B s:Nat)(X C:Array QJ)(w:QI):Prop:=
 Y6 B wa w/\(∀j:Nat,w.cell? ⟨s,j,N⟩=X[j]?)/\∀j:Nat,w.cell? ⟨s+1,j,N⟩=C[j]?
theorem Og.setCell{a w:QI}{B s:Nat}{X C:Array QJ}(h:Og a B s X C w){b i:Nat}(c:B<=b)(d:b < s)(v:QJ):Og a B s X C (w.setCell ⟨b,i,N⟩ v):=by
 refine ⟨h.1.setCell c v,λj=>?_,λj=>?_⟩
 .have e:=TP w ⟨b,i,N⟩ s v (by show s≠b;omega);rw [<-h.2.1 j];simp only [World.cell?,e]
 have e:=TP w ⟨b,i,N⟩ (s+1) v (by show s+1≠b;omega);rw [<-h.2.2 j];simp only [World.cell?,e]
theorem Og.drewN{a w:QI}{B s:Nat}{X C:Array QJ}(h:Og a B s X C w)(n:Nat):Og a B s X C (w.drewN n):=
 ⟨h.1.trans (an _ _ _),λj=>by simpa using h.2.1 j,λj=>by simpa using h.2.2 j⟩
theorem fK.drewN{w:QI}{B:Nat}{D a U V:Array QJ}(h:fK w B D a U V)(n:Nat):fK (w.drewN n) B D a U V:=by
 simpa [fK] using h
def An(m k:Nat)(A A':Array QJ):Prop:=A'.size=m/\∀j:Nat,k<=j->A'[j]? =A[j]?
theorem An.set{m k:Nat}{A a:Array QJ}(h:An m k A a)(v:QJ):An m (k+1) A (a.setIfInBounds k v):=
 ⟨by simpa using h.1,λj b=>by rw [TH (by omega)];exact h.2 j (by omega)⟩
theorem An.yC{m k:Nat}{A a:Array QJ}(h:An m (k * 2) A a)(v b:QJ):An m ((k+1) * 2) A ((a.setIfInBounds (k * 2) v).setIfInBounds (k * 2+1) b):=
 ⟨by simpa using h.1,λj c=>by rw [TH (by omega),TH (by omega)];exact h.2 j (by omega)⟩
theorem Og.start{a w:QI}{B:Nat}{X C:Array QJ}(b:Y6 B a w)(c:B<=w.heap.size):Og a B w.heap.size X C ((w.alloc (YU X 35)).alloc (YU C 35)):=by
 refine ⟨(b.alloc c _).alloc (by simp;omega) _,λj=>?_,λj=>?_⟩
 .rw [((QQ (w.heap.size+1) _).alloc (by simp) _).cell (p:=⟨w.heap.size,j,N⟩) (by show w.heap.size < w.heap.size+1;omega)];exact World.cell?_alloc_mark w _ 35 (0,0) j
 simp
theorem fK.alloc{w:QI}{B:Nat}{D a U V:Array QJ}(h:fK w B D a U V)(c:B+7<=w.heap.size)(o:Obj):fK (w.alloc o) B D a U V:=by
 have b:=(QQ w.heap.size w).alloc (QR _) o;exact ⟨(b.block _ (by omega)).trans h.1,(b.block _ (by omega)).trans h.2.1,(b.block _ (by omega)).trans h.2.2.1,(b.block _ (by omega)).trans h.2.2.2⟩
theorem bg.yG{w:QI}{a:QK}{n m f:Nat}{g:List QJ}(h:bg w (L a n f) m 2 g)(k:Nat)(l:k < m):∃b c,a=S ⟨b,c,N⟩/\b < w.heap.size/\w.cell? ⟨b,c+k * 2,N⟩=g[k * 2]? /\w.cell? ⟨b,c+k * 2+1,N⟩=g[k * 2+1]? :=by
 obtain ⟨t,i,s,j⟩:=h.shape;injection s with ha _ _;subst ha;obtain ⟨b,c,e,r,p⟩:=j k 0 l (by decide);obtain ⟨u,o,d,_,q⟩:=j k 1 l (by decide);rw [e] at d;injection d with d;injection d with e1 e2;subst e1 e2;exact ⟨b,c,e,r,by simpa using p,by simpa [Nat.add_assoc] using q⟩
def qL(wa:QI)(B:Nat)(w0:QI)(X C:Array QJ)(w:QI):Prop:=
 (Y6 B wa w/\∀k,B+7<=k->k < w0.heap.size->w.heap[k]? =w0.heap[k]?)/\(∀j:Nat,w.cell? ⟨w0.heap.size,j,N⟩=X[j]?)/\∀j:Nat,w.cell? ⟨w0.heap.size+1,j,N⟩=C[j]?
theorem qL.setCell{d a w:QI}{B:Nat}{X C:Array QJ}(h:qL d B a X C w){b i:Nat}(f:B<=b)(l:b < a.heap.size)(v:QJ)(m:b < B+7:=by omega):qL d B a X C (w.setCell ⟨b,i,N⟩ v):=by
 refine ⟨⟨h.1.1.setCell f v,λk g c=>(TP w ⟨b,i,N⟩ k v (by show k≠b;omega)).trans (h.1.2 k g c)⟩,λj=>?_,λj=>?_⟩
 .have e:=TP w ⟨b,i,N⟩ a.heap.size v (by show a.heap.size≠b;omega);rw [<-h.2.1 j];simp only [World.cell?,e]
 have e:=TP w ⟨b,i,N⟩ (a.heap.size+1) v (by show a.heap.size+1≠b;omega);rw [<-h.2.2 j];simp only [World.cell?,e]
theorem qL.drewN{c b w:QI}{B:Nat}{X C:Array QJ}(h:qL c B b X C w)(n:Nat):qL c B b X C (w.drewN n):=
 ⟨⟨h.1.1.trans (an _ _ _),λk d a=>by simpa using h.1.2 k d a⟩,λj=>by simpa using h.2.1 j,λj=>by simpa using h.2.2 j⟩
theorem qL.start{a w:QI}{B:Nat}{X C:Array QJ}(b:Y6 B a w)(d:B<=w.heap.size):qL a B w X C ((w.alloc (YU X 35)).alloc (YU C 35)):=by
 have h:=Og.start (X:=X) (C:=C) b d;exact ⟨⟨h.1,λk _ c=>(((QQ w.heap.size w).alloc (QR _) _).alloc (by simp) _).block k c⟩,h.2⟩
theorem BP(c:bF)(vD vN vU vW:QJ)(B:Nat)(wa w:QI)(h:dD wa c vD vN vU vW)(hB:wa.heap.size=B)(hb:Y6 B wa w)(hr:qK c)(hs:B+7<=w.heap.size)(hl:kL c B w):Y8 Ys 26 #[nB c B,YZ #[T c.host,vD,vN,vU,I J c.most,I J c.size,vW,I J c.xm,I J c.room]] w λe z=>e=YX (YW YT)/\Y6 B wa z/\∀k,B+7<=k->k < w.heap.size->z.heap[k]? =w.heap[k]? :=by
 obtain ⟨a0,p,l,g,a1,a3,d,xm,a2⟩:=c;obtain ⟨r1,r2,r3,r4⟩:=hr;simp only at r1 r2 r3 r4;obtain ⟨aD,cD,eD⟩:=az h.1;obtain ⟨aN,cN,eN⟩:=az h.2.1;obtain ⟨aU,cU,eU⟩:=az h.2.2.1;obtain ⟨aW,cW,eW⟩:=az h.2.2.2;simp only at eD eN eU eW;subst eD eN eU eW;have bD:(p.length:Int)<=17592186044416:=by omega
 have bN:(l.length:Int)<=17592186044416:=by omega
 have bU:(g.length:Int)<=17592186044416:=by omega
 have bW:(d.length:Int)<=17592186044416:=by omega
 obtain ⟨D,a,U,V,m,fD,fN,fU,fV⟩:=hl;simp only at fD fN fU fV;have HA:=K h;have Z:=K hB;have a4:=K fD;have E:=K fN;have G:=K fU;have a5:=K fV;have A:=K hs;unfold nB;simp only;obtain ⟨X,hX⟩:∃X:Array QJ,X=#[T a0,L (S ⟨B+1+1+1,0,N⟩) p.length (p.length+8),L (S ⟨B+1+1+1+1,0,N⟩) l.length (l.length+8),L (S ⟨B+1+1+1+1+1,0,N⟩) g.length (g.length+8),I J a1,I J a3,L (S ⟨B+1+1+1+1+1+1,0,N⟩) d.length (d.length+8),I J xm,I J a2]:=⟨_,rfl⟩;obtain ⟨C,hC⟩:∃C:Array QJ,C=#[T a0,L aD p.length cD,L aN l.length cN,L aU g.length cU,I J a1,I J a3,L aW d.length cW,I J xm,I J a2]:=⟨_,rfl⟩;have K0:H (qL wa B w X C ((w.alloc (YU X 35)).alloc (YU C 35))):=K (qL.start hb (by omega));have R1:H (fK ((w.alloc (YU X 35)).alloc (YU C 35)) B D a U V):=K ((m.alloc hs _).alloc (by simp;omega) _);clear h hB hb hs m fD fN fU fV;have x1:X[1]? =S (L (S ⟨B+1+1+1,0,N⟩) p.length (p.length+8)):=by rw [hX];rfl
 have x2:X[2]? =S (L (S ⟨B+1+1+1+1,0,N⟩) l.length (l.length+8)):=by rw [hX];rfl
 have x3:X[3]? =S (L (S ⟨B+1+1+1+1+1,0,N⟩) g.length (g.length+8)):=by rw [hX];rfl
 have x6:X[6]? =S (L (S ⟨B+1+1+1+1+1+1,0,N⟩) d.length (d.length+8)):=by rw [hX];rfl
 have c1:C[1]? =S (L aD p.length cD):=by rw [hC];rfl
 have c2:C[2]? =S (L aN l.length cN):=by rw [hC];rfl
 have c3:C[3]? =S (L aU g.length cU):=by rw [hC];rfl
 have c6:C[6]? =S (L aW d.length cW):=by rw [hC];rfl
 have c7:=K x1;have b6:=K x2;have b7:=K x3;have c4:=K x6;have b5:=K c1;have a9:=K c2;have b0:=K c3;have b4:=K c6;clear x1 x2 x3 x6 c1 c2 c3 c6;go_enter func26,ntmps26;go_wp2_with fail
 go_loopw [5,7] (λok i z=>ok=YW YT/\∃(k:Nat) (D':Array QJ),k<=p.length+8/\i=I J k/\fK z B D' a U V/\An (p.length+8) k D D'/\qL wa B w X C z) (λ_ i _=>p.length+8 - (Y9 i).toNat)
 case atStart=>subst hX hC;exact ⟨rfl,0,D,by omega,rfl,R1.out,⟨by have:=a4.out.1;omega,λj _=>rfl⟩,K0.out⟩
 case round=>
  clear K0 R1 hX hC;obtain ⟨rfl,k,D',hk,rfl,m,o,n⟩:=hrel;have b1:wr.cell? ⟨w.heap.size+1,1,N⟩=S (L aD p.length cD):=(n.2.2 1).trans b5.out;have u:=K m;have v:=K o;have s:=K n
  by_cases x:k < p.length+8
  .have Y:(k:Int) < (p.length:Int)+8:=by omega
   obtain ⟨_,a6⟩:=iw (j:=k) m.1 (by rw [o.1];omega)
   have M:wr.cell? ⟨B+1+1+1,k,N⟩=D[k]? :=by
    rw [<-o.2 (k) (by omega)];exact Q3 m.1 _
   by_cases f:k < p.length
   .have y:decide ((k:Int) < (p.length:Int))=YT:=by simp;omega
    obtain ⟨b,t,rfl,a7,P⟩:=(HA.out.1.below (by rw [Z.out];exact n.1.1)).elem k f;have q:D[k]? =S (T p[k]):=by rw [a4.out.2.1 k (by omega)];simp [bA,f]
    have d0:wr.cell? ⟨b,t+k,N⟩=S (T p[k]):=P.trans (by simp [bA,f]);clear P;rw [q] at M;clear m o n q;go_wp2_with fail
    go_quiet (fail)
    go_wp2_with fail
    exact ⟨⟨rfl,k+1,_,by omega,by go_num,(u.out.drewN nq).yR _ _,v.out.set _,(s.out.drewN nq).setCell (by omega) (by have:=A.out;omega) _⟩,by simp [Y9];omega⟩
   have y:decide ((k:Int) < (p.length:Int))=F:=by simp;omega
   have a8:decide ((p.length:Int)<=(k:Int))=YT:=by simp;omega
   have R:¬((k:Int) < (p.length:Int)):=by omega
   have W:(p.length:Int)<=(k:Int):=by omega
   have q:D[k]? =S (T ⟨#[98,101,121,111,110,100]⟩):=by
    have:=a4.out.2.2 (k - p.length) 0 (by omega) (by omega);rw [show (p.length+(k - p.length)) * 1+0=k by omega] at this
    exact this
   rw [q] at M;clear m o n q;go_wp2_with fail
   go_quiet (fail)
   go_wp2_with fail
   exact ⟨⟨rfl,k+1,_,by omega,by go_num,(u.out.drewN nq).yR _ _,v.out.set _,(s.out.drewN nq).setCell (by omega) (by have:=A.out;omega) _⟩,by simp [Y9];omega⟩
  have r:(k:Int)=(p.length:Int)+8:=by omega
  rw [r];have b2:wr.cell? ⟨w.heap.size,2,N⟩=S (L (S ⟨B+1+1+1+1,0,N⟩) l.length (l.length+8)):=(n.2.1 2).trans b6.out;have b3:wr.cell? ⟨w.heap.size+1,2,N⟩=S (L aN l.length cN):=(n.2.2 2).trans a9.out;clear m o n x v r hk;go_wp2_with fail
  go_loopw [5,9] (λok i z=>ok=YW YT/\∃(k:Nat) (N':Array QJ),k<=l.length+8/\i=I J k/\fK z B D' N' U V/\An ((l.length+8) * 2) (k * 2) a N'/\qL wa B w X C z) (λ_ i _=>l.length+8 - (Y9 i).toNat)
  case atStart=>exact ⟨rfl,0,a,by omega,rfl,u.out,⟨E.out.1,λj _=>rfl⟩,s.out⟩
  case round=>
   clear u s b1 b2 b3;obtain ⟨rfl,k,N',hk,rfl,m,o,n⟩:=hrel;have b1:wr.cell? ⟨w.heap.size+1,2,N⟩=S (L aN l.length cN):=(n.2.2 2).trans a9.out;have u:=K m;have v:=K o;have s:=K n
   by_cases x:k < l.length+8
   .have Y:(k:Int) < (l.length:Int)+8:=by omega
    obtain ⟨_,a6⟩:=iw (j:=k * 2) m.2.1 (by rw [o.1];omega)
    have M:wr.cell? ⟨B+1+1+1+1,k * 2,N⟩=a[k * 2]? :=by
     rw [<-o.2 (k * 2) (by omega)];exact Q3 m.2.1 _
    obtain ⟨_,c5⟩:=iw (j:=k * 2+1) m.2.1 (by rw [o.1];omega)
    have c1:wr.cell? ⟨B+1+1+1+1,k * 2+1,N⟩=a[k * 2+1]? :=by
     rw [<-o.2 (k * 2+1) (by omega)];exact Q3 m.2.1 _
    by_cases f:k < l.length
    .have y:decide ((k:Int) < (l.length:Int))=YT:=by simp;omega
     obtain ⟨b,t,rfl,a7,P,Q⟩:=(HA.out.2.1.below (by rw [Z.out];exact n.1.1)).yG k f;have q:a[k * 2]? =S (I J l[k].1):=by rw [E.out.2.1 (k * 2) (by omega)];exact qy l k f
     have d0:wr.cell? ⟨b,t+k * 2,N⟩=S (I J l[k].1):=P.trans (qy l k f);have O:a[k * 2+1]? =S (I J l[k].2):=by rw [E.out.2.1 (k * 2+1) (by omega)];exact nF l k f
     have d1:wr.cell? ⟨b,t+k * 2+1,N⟩=S (I J l[k].2):=Q.trans (nF l k f);clear P Q;rw [q] at M;rw [O] at c1;clear m o n q O;go_wp2_with fail
     go_quiet (fail)
     go_wp2_with fail
     exact ⟨⟨rfl,k+1,_,by omega,by go_num,((u.out.drewN nq).yi _ _).yi _ _,v.out.yC _ _,((s.out.drewN nq).setCell (by omega) (by have:=A.out;omega) _).setCell (by omega) (by have:=A.out;omega) _⟩,by simp [Y9];omega⟩
    have y:decide ((k:Int) < (l.length:Int))=F:=by simp;omega
    have a8:decide ((l.length:Int)<=(k:Int))=YT:=by simp;omega
    have R:¬((k:Int) < (l.length:Int)):=by omega
    have W:(l.length:Int)<=(k:Int):=by omega
    have q:a[k * 2]? =S (I J 0):=by
     have:=E.out.2.2 (k - l.length) 0 (by omega) (by omega);rw [show (l.length+(k - l.length)) * 2+0=k * 2 by omega] at this
     exact this
    have O:a[k * 2+1]? =S (I J (-77)):=by
     have:=E.out.2.2 (k - l.length) 1 (by omega) (by omega);rw [show (l.length+(k - l.length)) * 2+1=k * 2+1 by omega] at this
     exact this
    rw [q] at M;rw [O] at c1;clear m o n q O;go_wp2_with fail
    go_quiet (fail)
    go_wp2_with fail
    exact ⟨⟨rfl,k+1,_,by omega,by go_num,((u.out.drewN nq).yi _ _).yi _ _,v.out.yC _ _,((s.out.drewN nq).setCell (by omega) (by have:=A.out;omega) _).setCell (by omega) (by have:=A.out;omega) _⟩,by simp [Y9];omega⟩
   have r:(k:Int)=(l.length:Int)+8:=by omega
   rw [r];have b2:wr.cell? ⟨w.heap.size,3,N⟩=S (L (S ⟨B+1+1+1+1+1,0,N⟩) g.length (g.length+8)):=(n.2.1 3).trans b7.out;have b3:wr.cell? ⟨w.heap.size+1,3,N⟩=S (L aU g.length cU):=(n.2.2 3).trans b0.out;clear m o n x v r hk;go_wp2_with fail
   go_loopw [5,11] (λok i z=>ok=YW YT/\∃(k:Nat) (U':Array QJ),k<=g.length+8/\i=I J k/\fK z B D' N' U' V/\An ((g.length+8) * 2) (k * 2) U U'/\qL wa B w X C z) (λ_ i _=>g.length+8 - (Y9 i).toNat)
   case atStart=>exact ⟨rfl,0,U,by omega,rfl,u.out,⟨G.out.1,λj _=>rfl⟩,s.out⟩
   case round=>
    clear u s b1 b2 b3;obtain ⟨rfl,k,U',hk,rfl,m,o,n⟩:=hrel;have b1:wr.cell? ⟨w.heap.size+1,3,N⟩=S (L aU g.length cU):=(n.2.2 3).trans b0.out;have u:=K m;have v:=K o;have s:=K n
    by_cases x:k < g.length+8
    .have Y:(k:Int) < (g.length:Int)+8:=by omega
     obtain ⟨_,a6⟩:=iw (j:=k * 2) m.2.2.1 (by rw [o.1];omega)
     have M:wr.cell? ⟨B+1+1+1+1+1,k * 2,N⟩=U[k * 2]? :=by
      rw [<-o.2 (k * 2) (by omega)];exact Q3 m.2.2.1 _
     obtain ⟨_,c5⟩:=iw (j:=k * 2+1) m.2.2.1 (by rw [o.1];omega)
     have c1:wr.cell? ⟨B+1+1+1+1+1,k * 2+1,N⟩=U[k * 2+1]? :=by
      rw [<-o.2 (k * 2+1) (by omega)];exact Q3 m.2.2.1 _
     by_cases f:k < g.length
     .have y:decide ((k:Int) < (g.length:Int))=YT:=by simp;omega
      obtain ⟨b,t,rfl,a7,P,Q⟩:=(HA.out.2.2.1.below (by rw [Z.out];exact n.1.1)).yG k f;have q:U[k * 2]? =S (T g[k].1):=by rw [G.out.2.1 (k * 2) (by omega)];exact jt g k f
      have d0:wr.cell? ⟨b,t+k * 2,N⟩=S (T g[k].1):=P.trans (jt g k f);have O:U[k * 2+1]? =S (T g[k].2):=by rw [G.out.2.1 (k * 2+1) (by omega)];exact j7 g k f
      have d1:wr.cell? ⟨b,t+k * 2+1,N⟩=S (T g[k].2):=Q.trans (j7 g k f);clear P Q;rw [q] at M;rw [O] at c1;clear m o n q O;go_wp2_with fail
      go_quiet (fail)
      go_wp2_with fail
      exact ⟨⟨rfl,k+1,_,by omega,by go_num,((u.out.drewN nq).yj _ _).yj _ _,v.out.yC _ _,((s.out.drewN nq).setCell (by omega) (by have:=A.out;omega) _).setCell (by omega) (by have:=A.out;omega) _⟩,by simp [Y9];omega⟩
     have y:decide ((k:Int) < (g.length:Int))=F:=by simp;omega
     have a8:decide ((g.length:Int)<=(k:Int))=YT:=by simp;omega
     have R:¬((k:Int) < (g.length:Int)):=by omega
     have W:(g.length:Int)<=(k:Int):=by omega
     have q:U[k * 2]? =S (T ⟨#[98,101,121,111,110,100]⟩):=by
      have:=G.out.2.2 (k - g.length) 0 (by omega) (by omega);rw [show (g.length+(k - g.length)) * 2+0=k * 2 by omega] at this
      exact this
     have O:U[k * 2+1]? =S (T ⟨#[]⟩):=by
      have:=G.out.2.2 (k - g.length) 1 (by omega) (by omega);rw [show (g.length+(k - g.length)) * 2+1=k * 2+1 by omega] at this
      exact this
     rw [q] at M;rw [O] at c1;clear m o n q O;go_wp2_with fail
     go_quiet (fail)
     go_wp2_with fail
     exact ⟨⟨rfl,k+1,_,by omega,by go_num,((u.out.drewN nq).yj _ _).yj _ _,v.out.yC _ _,((s.out.drewN nq).setCell (by omega) (by have:=A.out;omega) _).setCell (by omega) (by have:=A.out;omega) _⟩,by simp [Y9];omega⟩
    have r:(k:Int)=(g.length:Int)+8:=by omega
    rw [r];have b2:wr.cell? ⟨w.heap.size,6,N⟩=S (L (S ⟨B+1+1+1+1+1+1,0,N⟩) d.length (d.length+8)):=(n.2.1 6).trans c4.out;have b3:wr.cell? ⟨w.heap.size+1,6,N⟩=S (L aW d.length cW):=(n.2.2 6).trans b4.out;clear m o n x v r hk;go_wp2_with fail
    go_loopw [5,13] (λok i z=>ok=YW YT/\∃(k:Nat) (V':Array QJ),k<=d.length+8/\i=I J k/\fK z B D' N' U' V'/\An (d.length+8) k V V'/\qL wa B w X C z) (λ_ i _=>d.length+8 - (Y9 i).toNat)
    case atStart=>exact ⟨rfl,0,V,by omega,rfl,u.out,⟨by have:=a5.out.1;omega,λj _=>rfl⟩,s.out⟩
    case round=>
     clear u s b1 b2 b3;obtain ⟨rfl,k,V',hk,rfl,m,o,n⟩:=hrel;have b1:wr.cell? ⟨w.heap.size+1,6,N⟩=S (L aW d.length cW):=(n.2.2 6).trans b4.out;have u:=K m;have v:=K o;have s:=K n
     by_cases x:k < d.length+8
     .have Y:(k:Int) < (d.length:Int)+8:=by omega
      obtain ⟨_,a6⟩:=iw (j:=k) m.2.2.2 (by rw [o.1];omega)
      have M:wr.cell? ⟨B+1+1+1+1+1+1,k,N⟩=V[k]? :=by
       rw [<-o.2 (k) (by omega)];exact Q3 m.2.2.2 _
      by_cases f:k < d.length
      .have y:decide ((k:Int) < (d.length:Int))=YT:=by simp;omega
       obtain ⟨b,t,rfl,a7,P⟩:=(HA.out.2.2.2.below (by rw [Z.out];exact n.1.1)).elem k f;have q:V[k]? =S (I J d[k]):=by rw [a5.out.2.1 k (by omega)];simp [dG,f]
       have d0:wr.cell? ⟨b,t+k,N⟩=S (I J d[k]):=P.trans (by simp [dG,f]);clear P;rw [q] at M;clear m o n q;go_wp2_with fail
       go_quiet (fail)
       go_wp2_with fail
       exact ⟨⟨rfl,k+1,_,by omega,by go_num,(u.out.drewN nq).yS _ _,v.out.set _,(s.out.drewN nq).setCell (by omega) (by have:=A.out;omega) _⟩,by simp [Y9];omega⟩
      have y:decide ((k:Int) < (d.length:Int))=F:=by simp;omega
      have a8:decide ((d.length:Int)<=(k:Int))=YT:=by simp;omega
      have R:¬((k:Int) < (d.length:Int)):=by omega
      have W:(d.length:Int)<=(k:Int):=by omega
      have q:V[k]? =S (I J (-77)):=by
       have:=a5.out.2.2 (k - d.length) 0 (by omega) (by omega);rw [show (d.length+(k - d.length)) * 1+0=k by omega] at this
       exact this
      rw [q] at M;clear m o n q;go_wp2_with fail
      go_quiet (fail)
      go_wp2_with fail
      exact ⟨⟨rfl,k+1,_,by omega,by go_num,(u.out.drewN nq).yS _ _,v.out.set _,(s.out.drewN nq).setCell (by omega) (by have:=A.out;omega) _⟩,by simp [Y9];omega⟩
     have r:(k:Int)=(d.length:Int)+8:=by omega
     rw [r];clear m o n x v r hk;go_wp2_with fail
     go_ret;exact ⟨rfl,s.out.1.1,s.out.1.2⟩
theorem NM(sb:Nat)(a:QJ)(u:FrameMode)(w:QI)(h:w.cell? ⟨sb,7,N⟩=S a)(f:w.frozen? ⟨sb,7,N⟩=F):CallsD Ys 230 #[YV (S ⟨sb,0,N⟩)] u w λe u' b=>u'=u/\(e=YX (YY #[])/\b=w.setCell ⟨sb,7,N⟩ (YW YT)):=by
 go_enter_d func230,ntmps230
 go_wp2_with fail
 go_end0
 exact ⟨rfl,rfl⟩
theorem pC(sb:Nat)(a:QJ)(u:FrameMode)(w:QI)(h:w.cell? ⟨sb,8,N⟩=S a)(f:w.frozen? ⟨sb,8,N⟩=F):CallsD Ys 225 #[YV (S ⟨sb,0,N⟩)] u w λe u' b=>u'=u/\(e=YX (YY #[])/\b=w.setCell ⟨sb,8,N⟩ (YV N)):=by
 go_enter_d func225,ntmps225
 go_wp2_with fail
 go_end0
 exact ⟨rfl,rfl⟩
structure bQ(w:QI)(sb ch:Nat)(C:Array QJ)(ls:List QF):Prop where
 xp:w.heap[sb]? =S (YU C 112 (0,0))
 size:C.size=9
 told:C[3]? =S (.chan (S ch))
 chan:∃s r,w.heap[ch]? =S (.chan 3 (ls.map λl=>T (bs l)).toArray F s r F)
theorem bQ.cell{w:QI}{sb a:Nat}{C:Array QJ}{b:List QF}(h:bQ w sb a C b)(j:Nat):w.cell? ⟨sb,j,N⟩=C[j]? :=by rw [Q3 h.xp]
theorem bQ.frozen{w:QI}{sb a:Nat}{C:Array QJ}{b:List QF}(h:bQ w sb a C b)(j:Nat):w.frozen? ⟨sb,j,N⟩=F:=RJ h.xp j
theorem bQ.ne{w:QI}{sb a:Nat}{C:Array QJ}{c:List QF}(h:bQ w sb a C c):sb≠a:=λe=>by
 obtain ⟨s,r,b⟩:=h.chan;have:=h.xp;rw [e,b] at this;simp at this
theorem bQ.set{w:QI}{sb a:Nat}{C:Array QJ}{b:List QF}(h:bQ w sb a C b)(j:Nat)(e:j≠3)(v:QJ):bQ (w.setCell ⟨sb,j,N⟩ v) sb a (C.setIfInBounds j v) b:=by
 obtain ⟨s,r,d⟩:=h.chan;have c:aA sb w (w.setCell ⟨sb,j,N⟩ v):=(aA.refl _ _).setCell _;exact ⟨Ro w sb j _ _ v h.xp,by simp [h.size],by rw [TH e];exact h.told,s,r,(c.2 a (Ne.symm h.ne)).trans d⟩
theorem bQ.tell{w:QI}{sb a:Nat}{C:Array QJ}{b:List QF}(h:bQ w sb a C b)(j:b.length < 3)(l:QF)(m:l.length<=1048576):Y8 Ys 57 #[YV (S ⟨sb,0,N⟩),T (bs l)] w λe d=>e=YX (YY #[])/\bQ d sb a C (b++[l++[13,10]])/\aA a w d:=by
 obtain ⟨s,r,g⟩:=h.chan;refine (N0 sb a s r F _ l w ((h.cell 3).trans h.told) g (by simpa using j) m).mono ?_;rintro e d ⟨rfl,rfl⟩;have c:a < w.heap.size:=(SK.1 g).1;have f:aA a w (w.setChan a 3 ((b.map λl=>T (bs l)).toArray.push (T (bs (l++[13,10])))) F (s+1) r F):=⟨by simp [World.setChan],λk i=>by simp [World.setChan,TH (Ne.symm i)],⟨rfl,rfl,rfl⟩⟩
 exact ⟨rfl,⟨(f.2 sb h.ne).trans h.xp,h.size,h.told,s+1,r,by rw [Conc.heap_setChan w a 3 _ F (s+1) r F c];simp⟩,f⟩
theorem Nx(sb a:Nat)(C:Array QJ)(w:QI)(h:bQ w sb a C []):Y8 Ys 166 #[YV (S ⟨sb,0,N⟩)] w λe g=>e=YX (YY #[])/\bQ g sb a (C.setIfInBounds 7 (YW YT)) [[50,50,49,32,98,121,101,13,10]]/\aC (λk=>k=sb\/k=a) w g:=by
 have HT:=K (h.tell (by simp) [50,50,49,32,98,121,101] (by decide));have l:=h.size;clear h;go_enter_defers func166,ntmps166
 go_wp2_with fail
 refine HT.out.mono ?_;rintro e m ⟨rfl,b,c⟩;obtain ⟨d,i⟩:∃d,C[7]? =S d:=⟨_,Si (by omega)⟩;go_wp2_with fail
 refine SJ (f:=230) (args:=#[YV (S ⟨sb,0,N⟩)]) (by simp) (by simp [go_sem]) ?_;refine (NM sb d .returning _ ((b.cell 7).trans i) (b.frozen 7)).mono ?_;rintro e u' j ⟨rfl,rfl,rfl⟩;exact ⟨_,RP rfl _ _ _,rfl,b.set 7 (by decide) _,((aC.same c).mono (λ_ _ e=> .inr e)).trans (aC.same ((aA.refl _ _).setCell _)) (λ_ _ e=> .inl e)⟩
theorem aA.cell{b:Nat}{w d:QI}(h:aA b w d){a:Addr}(c:a.block≠b):d.cell? a=w.cell? a:=World.cell?_of_block (h.2 a.block c)
theorem Lt(sb i:Nat)(C:Array QJ)(w:QI)(h:bQ w sb i C []):Y8 Ys 167 #[YV (S ⟨sb,0,N⟩)] w λe d=>e=YX (YY #[])/\bQ d sb i (C.setIfInBounds 8 (YV N)) [[50,53,48,32,111,107,13,10]]/\(∀k,k≠sb->k≠i->d.heap[k]? =w.heap[k]?)/\df w d/\d.heap.size=w.heap.size:=by
 have HT:=K (h.tell (by simp) [50,53,48,32,111,107] (by decide));have p:=h.size;clear h;go_enter_defers func167,ntmps167
 go_wp2_with fail
 refine HT.out.mono ?_;rintro e m ⟨rfl,j,c⟩;obtain ⟨l,n⟩:∃l,C[8]? =S l:=⟨_,Si (by omega)⟩;have g:aA sb m (m.setCell ⟨sb,8,N⟩ (YV N)):=(aA.refl _ _).setCell _;go_wp2_with fail
 refine SJ (f:=225) (args:=#[YV (S ⟨sb,0,N⟩)]) (by simp) (by simp [go_sem]) ?_;refine (pC sb l .returning _ ((j.cell 8).trans n) (j.frozen 8)).mono ?_;rintro e u' o ⟨rfl,rfl,rfl⟩;exact ⟨_,RP rfl _ _ _,rfl,j.set 8 (by decide) _,λk a b=>(g.2 k a).trans (c.2 k b),c.3.trans g.3,g.1.trans c.1⟩
theorem Kr(sb o l:Nat)(C:Array QJ)(c:QF)(w:QI)(h:bQ w sb o C [])(v:C[0]? =S (YV (S ⟨l,0,N⟩)))(x:w.cell? ⟨l,0,N⟩=S (T (bs c)))(q:l≠sb)(M:c.length<=255):Y8 Ys 168 #[YV (S ⟨sb,0,N⟩)] w λe m=>e=YX (YY #[])/\bQ m sb o ((C.setIfInBounds 5 (YW YT)).setIfInBounds 8 (YV N)) [[50,53,48,32]++c++[13,10]]/\(∀k,k≠sb->k≠o->m.heap[k]? =w.heap[k]?)/\df w m/\m.heap.size=w.heap.size:=by
 have O:=h.size;obtain ⟨P,r⟩:∃i,C[5]? =S i:=⟨_,Si (by omega)⟩;have E:=(h.cell 5).trans r;have G:=h.frozen 5;have D:=(h.cell 0).trans v;have j:aA sb w (w.setCell ⟨sb,5,N⟩ (YW YT)):=(aA.refl _ _).setCell _;have y:(w.setCell ⟨sb,5,N⟩ (YW YT)).cell? ⟨l,0,N⟩=S (T (bs c)):=(j.cell q).trans x;have s:=h.set 5 (by decide) (YW YT);have HT:=K (s.tell (by simp) ([50,53,48,32]++c) (by rw [RI];simp;omega));have d:(⟨#[50,53,48,32]⟩:QL)++bs c=bs ([50,53,48,32]++c):=aQ [50,53,48,32] c;have u:=K d;have z:=aj c;clear h s d;go_enter_defers func168,ntmps168
 go_wp2_with fail
 rw [u.out];refine HT.out.mono ?_;rintro e t ⟨rfl,p,g⟩;obtain ⟨i,A⟩:∃i,(C.setIfInBounds 5 (YW YT))[8]? =S i:=⟨_,Si (by simp;omega)⟩;have n:aA sb t (t.setCell ⟨sb,8,N⟩ (YV N)):=(aA.refl _ _).setCell _;go_wp2_with fail
 refine SJ (f:=225) (args:=#[YV (S ⟨sb,0,N⟩)]) (by simp) (by simp [go_sem]) ?_;refine (pC sb i .returning _ ((p.cell 8).trans A) (p.frozen 8)).mono ?_;rintro e u' B ⟨rfl,rfl,rfl⟩;exact ⟨_,RP rfl _ _ _,rfl,p.set 8 (by decide) _,λk a b=>(n.2 k a).trans ((g.2 k b).trans (j.2 k a)),(j.3.trans g.3).trans n.3,n.1.trans (g.1.trans j.1)⟩
theorem qo(w:QI):Y8 Ys 229 #[YV N] w λe a=>e=YX (YW F)/\w=a:=by
 go_enter func229,ntmps229;go_wp2_with fail
 go_ret;exact ⟨rfl,rfl⟩
theorem rj(b n c:Nat)(a:QK)(w:QI)(h:w.cell? ⟨b,1,N⟩=S (L a n c)):Y8 Ys 229 #[YV (S ⟨b,0,N⟩)] w λe d=>e=YX (YW (decide (0 < n)))/\w=d:=by
 go_enter func229,ntmps229;go_wp2_with fail
 go_ret;exact ⟨rfl,rfl⟩
theorem Dh(w:QI):Y8 Ys 106 #[YV N] w λe a=>e=YX (YW F)/\w=a:=by
 go_enter WM,ntmps106;go_wp2_with fail
 go_ret;exact ⟨rfl,rfl⟩
theorem Hv(a:Nat)(w:QI)(h:w.cell? ⟨a,2,N⟩=S (YV N)):Y8 Ys 106 #[YV (S ⟨a,0,N⟩)] w λe b=>e=YX (YW F)/\w=b:=by
 go_enter WM,ntmps106;go_wp2_with fail
 go_ret;exact ⟨rfl,rfl⟩
theorem E0(a b:Nat)(w:QI)(h:w.cell? ⟨a,2,N⟩=S (YV (S ⟨b,0,N⟩))):Y8 Ys 106 #[YV (S ⟨a,0,N⟩)] w λe c=>e=YX (YW YT)/\w=c:=by
 go_enter WM,ntmps106;go_wp2_with fail
 go_ret;exact ⟨rfl,rfl⟩
theorem bQ.below{w e:QI}{sb a:Nat}{C:Array QJ}{d:List QF}(h:bQ w sb a C d)(b:Y6 w.heap.size w e):bQ e sb a C d:=by
 obtain ⟨s,r,c⟩:=h.chan;exact ⟨(b.block sb (SK.1 h.xp).1).trans h.xp,h.size,h.told,s,r,(b.block a (SK.1 c).1).trans c⟩
theorem bQ.same{w e:QI}{sb a b:Nat}{C:Array QJ}{d:List QF}(h:bQ w sb a C d)(c:aA b w e)(f:sb≠b)(g:a≠b):bQ e sb a C d:=by
 obtain ⟨s,r,i⟩:=h.chan;exact ⟨(c.2 sb f).trans h.xp,h.size,h.told,s,r,(c.2 a g).trans i⟩
theorem Au(sb m a:Nat)(C:Array QJ)(E G R:QJ)(w:QI)(h:bQ w sb m C [])(X:C[8]? =S (YV (S ⟨a,0,N⟩)))(i:w.heap[a]? =S (YU #[E,G,R] 242 (0,0))):Y8 Ys 173 #[YV (S ⟨sb,0,N⟩)] w λe l=>e=YX (YY #[])/\bQ l sb m C [[51,53,52,32,103,111,13,10]]/\l.heap[a]? =S (YU #[E,G,YV (S ⟨w.heap.size,0,N⟩)] 242 (0,0))/\l.heap[w.heap.size]? =S (YU #[L N 0 0,YW F,YW F] 273 (0,0))/\(∀k,k < w.heap.size->k≠a->k≠m->l.heap[k]? =w.heap[k]?)/\df w l/\w.heap.size<=l.heap.size:=by
 have c8:=(h.cell 8).trans X;have B:a < w.heap.size:=(SK.1 i).1;have Z:∀o:Obj,(w.alloc o).cell? ⟨a,2,N⟩=S R:=λo=>by rw [Q3 ((((QQ w.heap.size w).alloc (QR _) o).block a B).trans i)];rfl
 have g2:∀o:Obj,(w.alloc o).frozen? ⟨a,2,N⟩=F:=λo=>RJ ((((QQ w.heap.size w).alloc (QR _) o).block a B).trans i) 2;have D:sb≠a:=λe=>by have:=h.xp;rw [e,i] at this;simp at this
 have n:m≠a:=λe=>by obtain ⟨s,r,q⟩:=h.chan;rw [e,i] at q;simp at q
 have j:aA a w (w.setCell ⟨a,2,N⟩ (YV (S ⟨w.heap.size,0,N⟩))):=(aA.refl _ _).setCell _;have A:=Ro w a 2 _ _ (YV (S ⟨w.heap.size,0,N⟩)) i;obtain ⟨y,g⟩:=QE (w.setCell ⟨a,2,N⟩ (YV (S ⟨w.heap.size,0,N⟩)));rw [g] at j A;obtain ⟨O,d⟩:=QE (y.alloc (YU #[L N 0 0,YW F,YW F] 273));have p:=QG d;have P:O.heap[w.heap.size]? =S (YU #[L N 0 0,YW F,YW F] 273 (0,0)):=by rw [<-d, <-j.1];exact Q0 y _
 have Q:O.heap[a]? =S (YU #[E,G,YV (S ⟨w.heap.size,0,N⟩)] 242 (0,0)):=(p.block a (by rw [j.1];exact B)).trans A;have M:=(h.same j D n).below p;have HT:=K (M.tell (by simp) [51,53,52,32,103,111] (by decide));have z:m≠w.heap.size:=by obtain ⟨s,r,q⟩:=h.chan;have:=(SK.1 q).1;omega
 have f:=K j;have b:=K p;have t:=K Q;have x:=K P;have u:=K g;have v:=K d;clear h M A p P g d j Q i;go_enter func173,ntmps173;go_wp2_with fail
 rw [u.out,v.out];refine HT.out.mono ?_;rintro e w3 ⟨rfl,V,c⟩;go_wp2_with fail
 refine RN (RP rfl _ _ _) rfl ?_;have Y:y.heap.size=w.heap.size:=f.out.1;refine ⟨rfl,V,(c.2 a (Ne.symm n)).trans t.out,(c.2 _ (Ne.symm z)).trans x.out,λk h1 U W=>(c.2 k W).trans ((b.out.block k (by omega)).trans (f.out.2 k U)),(f.out.3.trans ⟨b.out.1,b.out.2,b.out.3⟩).trans c.3,?_⟩;rw [c.1];have:=b.out.size;omega
theorem CJ(sb b i:Nat)(C:Array QJ)(j:QF)(a:Int)(w:QI)(h:bQ w sb b C [])(g:C[8]? =S (YV (S ⟨i,0,N⟩))):Y8 Ys 171 #[YV (S ⟨sb,0,N⟩),T (bs j),I J a] w λe d=>e=YX (YY #[])/\bQ d sb b C [[53,48,51,32,102,105,114,115,116,13,10]]/\aA b w d:=by
 have HT:=K (h.tell (by simp) [53,48,51,32,102,105,114,115,116] (by decide));have k:=(h.cell 8).trans g;clear h;go_enter Xb,ntmps171;go_wp2_with fail
 refine HT.out.mono ?_;rintro e l ⟨rfl,f,c⟩;go_wp2_with fail
 refine RN (RP rfl _ _ _) rfl ?_;exact ⟨rfl,f,c⟩
theorem CK(sb c f:Nat)(C:Array QJ)(m:QF)(b a:Int)(w:QI)(h:bQ w sb c C [])(k:C[8]? =S (YV N))(i:C[0]? =S (YV (S ⟨f,0,N⟩)))(p:w.cell? ⟨f,5,N⟩=S (I J a))(l:a < b):Y8 Ys 171 #[YV (S ⟨sb,0,N⟩),T (bs m),I J b] w λe g=>e=YX (YY #[])/\bQ g sb c C [[53,53,50,32,115,105,122,101,13,10]]/\aA c w g:=by
 have HT:=K (h.tell (by simp) [53,53,50,32,115,105,122,101] (by decide));have o:=(h.cell 8).trans k;have n:=(h.cell 0).trans i;clear h;go_enter Xb,ntmps171;go_wp2_with fail
 refine HT.out.mono ?_;rintro e q ⟨rfl,j,d⟩;go_wp2_with fail
 refine RN (RP rfl _ _ _) rfl ?_;exact ⟨rfl,j,d⟩
theorem Et(sb m D:Nat)(C:Array QJ)(n:QF)(f a:Int)(w:QI)(h:bQ w sb m C [])(B:C[8]? =S (YV N))(G:C[0]? =S (YV (S ⟨D,0,N⟩)))(hp:w.cell? ⟨D,5,N⟩=S (I J a))(R:¬a < f):Y8 Ys 171 #[YV (S ⟨sb,0,N⟩),T (bs n),I J f] w λe j=>e=YX (YY #[])/\bQ j sb m (C.setIfInBounds 8 (YV (S ⟨w.heap.size,0,N⟩))) [[50,53,48,32,111,107,13,10]]/\j.heap[w.heap.size]? =S (YU #[T (bs n),L N 0 0,YV N] 242 (0,0))/\(∀k,k < w.heap.size->k≠sb->k≠m->j.heap[k]? =w.heap[k]?)/\df w j/\w.heap.size<=j.heap.size:=by
 have X:=(h.cell 8).trans B;have W:=(h.cell 0).trans G;have A:sb < w.heap.size:=(SK.1 h.xp).1;have V:∀o:Obj,(w.alloc o).cell? ⟨sb,8,N⟩=S (YV N):=λo=>by rw [Q3 ((((QQ w.heap.size w).alloc (QR _) o).block sb A).trans h.xp)];exact B
 have Y:∀o:Obj,(w.alloc o).frozen? ⟨sb,8,N⟩=F:=λo=>RJ ((((QQ w.heap.size w).alloc (QR _) o).block sb A).trans h.xp) 8;have l:aA sb w (w.setCell ⟨sb,8,N⟩ (YV (S ⟨w.heap.size,0,N⟩))):=(aA.refl _ _).setCell _;have q:=h.set 8 (by decide) (YV (S ⟨w.heap.size,0,N⟩));obtain ⟨x,i⟩:=QE (w.setCell ⟨sb,8,N⟩ (YV (S ⟨w.heap.size,0,N⟩)));rw [i] at l q;obtain ⟨E,d⟩:=QE (x.alloc (YU #[T (bs n),L N 0 0,YV N] 242));have p:=QG d;have z:E.heap[w.heap.size]? =S (YU #[T (bs n),L N 0 0,YV N] 242 (0,0)):=by rw [<-d, <-l.1];exact Q0 x _
 have HT:=K ((q.below p).tell (by simp) [50,53,48,32,111,107] (by decide));have y:m≠w.heap.size:=by obtain ⟨s,r,Q⟩:=h.chan;have:=(SK.1 Q).1;omega
 have g:=K l;have b:=K p;have v:=K z;have t:=K i;have u:=K d;clear h q p z i d l;go_enter Xb,ntmps171;go_wp2_with fail
 rw [t.out,u.out];refine HT.out.mono ?_;rintro e w3 ⟨rfl,O,c⟩;go_wp2_with fail
 refine RN (RP rfl _ _ _) rfl ?_;have U:x.heap.size=w.heap.size:=g.out.1;refine ⟨rfl,O,(c.2 _ (Ne.symm y)).trans v.out,λk Z M P=>(c.2 k P).trans ((b.out.block k (by omega)).trans (g.out.2 k M)),(g.out.3.trans ⟨b.out.1,b.out.2,b.out.3⟩).trans c.3,?_⟩;rw [c.1];have:=b.out.size;omega
def gV(verb:Int)(xj:Bool)(tx:Option Nat):Bool:=
 if verb=5 then (match tx with | none=>F | some n=>decide (0 < n)) && xj
 else if verb=10 then tx.isSome && xj
 else if verb=8\/verb=9 then xj else YT
theorem IQ(sb k:Nat)(C:Array QJ)(o:List QF)(a:Int)(g:Bool)(w:QI)(h:bQ w sb k C o)(l:C[5]? =S (YW g))(m:C[8]? =S (YV N)):Y8 Ys 165 #[YV (S ⟨sb,0,N⟩),I J a] w λe i=>e=YX (YW (gV a g N))/\w=i:=by
 have q:=(h.cell 5).trans l;have r:=(h.cell 8).trans m;have j:=K (qo w);clear h
 by_cases c:a=5
 .subst c;go_enter func165,ntmps165;go_wp2_with fail
  refine j.out.mono ?_;rintro e i ⟨rfl,rfl⟩;go_wp2_with fail
  go_ret;exact ⟨rfl,rfl⟩
 by_cases b:a=10
 .subst b;go_enter func165,ntmps165;go_wp2_with fail
  go_ret;exact ⟨rfl,rfl⟩
 by_cases d:a=8
 .subst d;go_enter func165,ntmps165;go_wp2_with fail
  go_ret;exact ⟨rfl,rfl⟩
 by_cases f:a=9
 .subst f;go_enter func165,ntmps165;go_wp2_with fail
  go_ret;exact ⟨rfl,rfl⟩
 have s:(a == 5)=F:=by rw [beq_eq_false_iff_ne];exact c
 have p:(a == 10)=F:=by rw [beq_eq_false_iff_ne];exact b
 have t:(a == 8)=F:=by rw [beq_eq_false_iff_ne];exact d
 have u:(a == 9)=F:=by rw [beq_eq_false_iff_ne];exact f
 have n:gV a g N=YT:=by unfold gV;rw [if_neg c,if_neg b,if_neg (by omega)]
 rw [n];go_enter func165,ntmps165;go_wp2_with fail
 go_ret;exact ⟨rfl,rfl⟩
theorem IT(sb r k n c:Nat)(a:QK)(C:Array QJ)(u:List QF)(b:Int)(g:Bool)(w:QI)(h:bQ w sb r C u)(s:C[5]? =S (YW g))(t:C[8]? =S (YV (S ⟨k,0,N⟩)))(q:w.cell? ⟨k,1,N⟩=S (L a n c)):Y8 Ys 165 #[YV (S ⟨sb,0,N⟩),I J b] w λe l=>e=YX (YW (gV b g (S n)))/\w=l:=by
 have x:=(h.cell 5).trans s;have y:=(h.cell 8).trans t;have i:=K (rj k n c a w q);clear h q
 by_cases j:b=5
 .subst j;have f:gV 5 g (S n)=(decide (0 < n) && g):=rfl;rw [f]
  by_cases p:0 < n
  .rw [decide_eq_true p] at i ⊢;go_enter func165,ntmps165;go_wp2_with fail
   refine i.out.mono ?_;rintro e l ⟨rfl,rfl⟩;go_wp2_with fail
   go_ret;exact ⟨by simp,rfl⟩
  rw [decide_eq_false p] at i ⊢;go_enter func165,ntmps165;go_wp2_with fail
  refine i.out.mono ?_;rintro e l ⟨rfl,rfl⟩;go_wp2_with fail
  go_ret;exact ⟨by simp,rfl⟩
 by_cases d:b=10
 .subst d;have f:gV 10 g (S n)=g:=by cases g <;> rfl
  rw [f];go_enter func165,ntmps165;go_wp2_with fail
  go_ret;exact ⟨rfl,rfl⟩
 by_cases m:b=8
 .subst m;go_enter func165,ntmps165;go_wp2_with fail
  go_ret;exact ⟨rfl,rfl⟩
 by_cases o:b=9
 .subst o;go_enter func165,ntmps165;go_wp2_with fail
  go_ret;exact ⟨rfl,rfl⟩
 have z:(b == 5)=F:=by rw [beq_eq_false_iff_ne];exact j
 have v:(b == 10)=F:=by rw [beq_eq_false_iff_ne];exact d
 have A:(b == 8)=F:=by rw [beq_eq_false_iff_ne];exact m
 have B:(b == 9)=F:=by rw [beq_eq_false_iff_ne];exact o
 have f:gV b g (S n)=YT:=by unfold gV;rw [if_neg j,if_neg d,if_neg (by omega)]
 rw [f];go_enter func165,ntmps165;go_wp2_with fail
 go_ret;exact ⟨rfl,rfl⟩
theorem rG(W:QI)(g:Nat)(z:Nat)(a:z < 256)(h:W.cell? ⟨g,0,N⟩=S (I .u8 (z:Int))):(convert 100 9 (L (S ⟨g,0,N⟩) 1 1)).run Ys W= .ok (T (bs [UInt8.ofNat z])) W:=by
 refine ib W g 1 1 [UInt8.ofNat z] rfl (λj b=>?_);have:j=0:=by omega
 subst this;rw [h];simp [UInt8.toNat_ofNat',Nat.mod_eq_of_lt a]
theorem Ij{n:Nat}(h:n < 10):Lib.itoa (n:Int)=[UInt8.ofNat (48+n)]:=by
 unfold Lib.itoa;rw [if_neg (by omega),St,Lib.decDigits,dif_pos h]
theorem Ii{n:Nat}(h:¬n < 10):Lib.itoa (n:Int)=Lib.itoa ((n / 10:Nat):Int)++[UInt8.ofNat (48+n % 10)]:=by
 unfold Lib.itoa;rw [if_neg (by omega),if_neg (by omega),St,St];conv=>lhs;rw [Lib.decDigits,dif_neg h]
theorem BO:∀(k n:Nat),n < 10 ^ (k+1)->(Lib.decDigits n).length<=k+1
 | 0,n,h=>by rw [Lib.decDigits,dif_pos (by omega)];simp
 | k+1,n,h=>by
  by_cases a:n < 10
  .rw [Lib.decDigits,dif_pos a];simp
  rw [Lib.decDigits,dif_neg a,RI];have:=BO k (n / 10) (by rw [Nat.pow_succ] at h;omega);simp only [List.length_cons,RR];omega
theorem zM:∀(n:Nat) (w:QI),n<=1099511627776->
  Y8 Ys 195 #[I J (n:Int)] w λe h=>e=YX (T (bs (Lib.itoa (n:Int))))/\Y6 w.heap.size w h:=by
 intro n
 induction n using Nat.strongRecOn with
 | _ n ih=>
  intro w V
  by_cases f:n < 10
  .have E:¬(9:Int) < (n:Int):=by omega
   have g:=rG (w.alloc (YU #[I .u8 (48+(n:Int))] 5)) w.heap.size (48+n) (by omega) (by rw [Q3 (Q0 w _)];rw [Int.natCast_add];rfl);rw [<-Ij f] at g;obtain ⟨B,j⟩:=QE (bs (Lib.itoa (n:Int)));rw [j] at g ⊢;clear ih j;go_enter func195,ntmps195;go_wp2_with fail
   go_ret;exact ⟨rfl,(QQ _ _).alloc (QR _) _⟩
  have E:(9:Int) < (n:Int):=by omega
  have i:=K (Ii f);obtain ⟨q,m⟩:=QE (n / 10);obtain ⟨r,o⟩:=QE (n % 10);have G:(n:Int) / 10=(q:Int):=by omega
  have M:(n:Int).tmod 10=(r:Int):=by rw [Int.tmod_eq_emod_of_nonneg (by omega)];omega
  have p:r < 10:=by omega
  have Q:IntKind.i64.wrap (q:Int)=(q:Int):=by rw [QY];omega
  obtain ⟨z,s⟩:=QE (48+r);have R:IntKind.i64.wrap (48+(r:Int))=(z:Int):=by rw [QY];omega
  have U:IntKind.u8.wrap (z:Int)=(z:Int):=by rw [IntKind.wrap_u8];omega
  have a:z < 256:=by omega
  have x:∀W:QI,(convert 100 9 (L (S ⟨W.heap.size,0,N⟩) 1 1)).run Ys (W.alloc (YU #[I .u8 (z:Int)] 5))= .ok (T (bs [UInt8.ofNat z])) (W.alloc (YU #[I .u8 (z:Int)] 5)):=λW=>rG _ _ z a (Q3 (Q0 W _) _);have y:(convert 100 9 (L (S ⟨w.heap.size,0,N⟩) 1 1)).run Ys (w.alloc (YU #[I .u8 (z:Int)] 5)).drew= .ok (T (bs [UInt8.ofNat z])) (w.alloc (YU #[I .u8 (z:Int)] 5)).drew:=rG _ _ z a (by show (w.alloc _).cell? _=_;rw [Q3 (Q0 w _)];rfl);have d:∀W:QI,Y8 Ys 195 #[I J (q:Int)] W λe h=>e=YX (T (bs (Lib.itoa (q:Int))))/\Y6 W.heap.size W h:=λW=>ih q (by omega) W (by omega);have u:=K (d w.drew);have v:=K (d (w.alloc (YU #[I .u8 (z:Int)] 5)).drew);have C:H ((w.alloc (YU #[I .u8 (z:Int)] 5)).drew.heap[w.heap.size]? =S (YU #[I .u8 (z:Int)] 5 (0,0))):=K (Q0 w _);rw [m,o,s] at i
  have k:(Lib.itoa (q:Int)).length<=13:=by
   unfold Lib.itoa;rw [if_neg (by omega),St];exact BO 12 q (by omega)
  have P:=aj (Lib.itoa (q:Int));have O:(bs [UInt8.ofNat z]).size=1:=rfl;have l:¬9223372036854775807 < (Lib.itoa (q:Int)).length+1:=by omega
  have D:=K a;clear ih m o d s a;go_enter func195,ntmps195;go_wp2_with fail
  go_region_law (first
   | (go_simp;go_at_call 195;refine u.out.mono ?_;rintro e t ⟨rfl,b⟩;have c:=K b;clear b;dsimp only)
   | (go_simp;go_at_call 195;refine v.out.mono ?_;rintro e t ⟨rfl,b⟩;have A:=rG t w.heap.size z D.out (Q3 (ae b C.out) _);have c:=K b;clear b;dsimp only))
  all_goals
   go_wp2_with fail
   go_ret;refine ⟨by rw [i.out,aQ];rfl,?_⟩
   first
    | exact (((QQ _ w).drew).trans (c.out.mono (QR _))).alloc c.out.size _
    | exact (((QQ _ w).alloc (QR _) _).drew).trans (c.out.mono (by simp))

end Go.Proofs.YtponhohdpophlaaGreatDoor
