import Derived.Test.YtponhohdpophlaaGreatDoorS17
import Derived.Test.YtponhohdpophlaaGreatDoorS14
import Derived.Test.YtponhohdpophlaaGreatDoorS15
namespace Go.Proofs.YtponhohdpophlaaGreatDoor
set_option maxHeartbeats 8000000
set_option maxRecDepth 1000000
open Go renaming TypeId->Za
open Go.IntKind renaming i64->J
open Go.Lib renaming cell_of_heap->Q3
open Go.RowKit renaming Hid->H,Below->Y6
open Go.Value renaming int->I,slice->L,string->T,pointer->YV
open _root_.List renaming getElem_mem->QU,length_map->RU,getElem_map->RV,map_map->Rg,mem_map->Rl,mem_append->Rx,mem_singleton->Ry,map_append->Sh
open _root_.Nat renaming le_refl->QR,le_trans->Rn
open _root_.Option renaming none->N,some->S
open Go.Proofs.Tryz
open Go.RowKit
def aa.toldOf(S:aa)(i:Nat):aX:=⟨i+1,(S.xr i).time,(S.xr i).xk,gm (S.xq i),(S.xr i).body⟩
theorem Nh{a:aa}(b:a.Ok){i:Nat}(h:i < a.items.length):a.items[i].now=a.toldOf i:=by
 unfold fZ.now aa.toldOf;rw [fQ h,ky h,b.id i h]
 congr 1
 unfold gm mV;rw [Rg];rfl
theorem tX{a:aa}(b:a.Ok):iM a.items=a.live.map a.toldOf:=by
 have c:a.items.map fZ.now=(List.range a.items.length).map a.toldOf:=by
  apply List.ext_getElem (by simp);intro i d e;rw [RV,RV,List.getElem_range];exact Nh b (by simpa using d)
 unfold iM aa.live;rw [c,List.filter_map]
 congr 1
 apply List.filter_congr;intro i f;show (!(a.toldOf i).xd.isEmpty)=_;unfold aa.toldOf gm;simp
def iP(x:aX×Nat):aX×QJ:=(x.1,L (S ⟨x.2,0,N⟩) x.1.xd.length x.1.xd.length)
structure dK(s:Nat)(w:QI)(v:QJ)(rows:List (aX×Nat)):Prop where
 row:w.ownsRow s 91 5 v rows.length (gC (rows.map iP))
 xd:∀x∈rows,w.ownsRow s 9 1 (iP x).2 x.1.xd.length (ah x.1.xd)
 apart:(rows.map (·.2)).Nodup
theorem dK.xo{s:Nat}{w c:QI}{v:QJ}{a:List (aX×Nat)}(h:dK s w v a)(b:Y6 w.heap.size w c):dK s c v a:=
 ⟨aB h.row λ_g _cur e _=>ae b e,λx d=>aB (h.xd x d) λ_g _cur e _=>ae b e,h.apart⟩
theorem dK.yZ{s:Nat}{w:QI}{v:QJ}{a:List (aX×Nat)}(h:dK s w v a):dz s w v (a.map iP):=
 ⟨by rw [RU];exact h.row,λx b=>by
  obtain ⟨y,c,rfl⟩:=Rl.1 b
  exact h.xd y c⟩
theorem dK.plus{s g:Nat}{r l e:QI}{v q:QJ}{d:List (aX×Nat)}{m:aX}{o:Obj}(h:dK s l v d)(w:∀x∈d,x.2 < g)(u:l.ownsRow s 9 1 (iP (m,g)).2 m.xd.length (ah m.xd))(t:Y6 s r l)(A:s<=l.heap.size)
  (j:e.ownsRow s 91 5 q (d.length+1) (gC (d.map iP)++(bh m (iP (m,g)).2).toList)) (i:(l.alloc o).grownBy e v.ownBlock):dK s e q (d++[(m,g)])/\Y6 s r e:=by
 obtain ⟨⟨a,b⟩,c⟩:=sY (rows:=d.map iP) (m:=m) (vt:=(iP (m,g)).2) (λx k=>by
  obtain ⟨y,n,rfl⟩:=Rl.1 k
  exact h.xd y n) (by rw [RU];exact h.row) u t A (by rw [RU];exact j) i
 refine ⟨⟨?_,λx k=>?_,?_⟩,c⟩
 .rw [Sh];have:e.ownsRow s 91 5 q (d.length+1) (gC (d.map iP++[(m,(iP (m,g)).2)])):=by simpa using a
  rw [List.length_append];exact this
 .rcases Rx.1 k with f | f
  .exact b (iP x) (Rx.2 (.inl (Rl.2 ⟨x,f,rfl⟩)))
  simp only [Ry] at f;subst f;exact b (iP (m,g)) (Rx.2 (.inr (by simp;rfl)))
 rw [Sh,List.nodup_append];refine ⟨h.apart,by simp,λx k y n=>?_⟩
 obtain ⟨z,p,rfl⟩:=Rl.1 k;simp only [List.map_cons,List.map_nil,Ry] at n;have:=w z p;omega
theorem rI{l c:QI}{s n m t k:Nat}{e r:Za}{u v:QJ}{w B:List QJ}{o:Obj}(h:l.ownsRow s e t u n w)(A:l.ownsRow s r k v m B)(a:(l.alloc o).grownBy c v.ownBlock)(j:e≠r):c.ownsRow s e t u n w:=by
 refine (h.alloc o).kept a ?_
 rcases h.2 with ⟨d,_⟩ | ⟨g,x,y,d,_,z,_⟩
 .subst d;exact .inl rfl
 refine .inr λb=>?_
 rcases A.2 with ⟨f,_⟩ | ⟨C,p,q,f,_,i,_⟩
 .rw [f,d] at b;cases b
 rw [f,d] at b;injection b with b;exact dN z i j b
theorem OV{P:Program}{k e t d:Za}{w:QI}{b c:Nat}{q:Nat->Nat}{l:List Nat}(a:P.underlying t=S (.map k e))(h:iu w b q l c):(Builtin.len_ #[t] d #[.map (S b)]).run P w= .ok (I J l.length) w:=by
 simp [Builtin.len_,run_underlying a,MapKept.run_getObj_map h,dY,Result.andThen,goInt]
theorem CI(A pb M:Nat)(q:Nat->Nat)(vr:QJ)(d:aa)(w:QI)(h:bt A w pb M q vr d)(R:d.Ok)(hn:d.items.length<=1048576):Calls prog 67 #[YV (S ⟨pb,0,N⟩)] w λe V=>∃v f,e= .returned v/\dK w.heap.size V v f/\f.map (·.1)=iM d.items/\Y6 w.heap.size w V:=by
 have c3:w.cell? ⟨pb,3,N⟩=S (.map (S M)):=Q3 h.xx _;have b5:=Fi d;have d3:∀ty,(Builtin.len_ #[99] ty #[.map (S M)]).run prog w= .ok (I J d.live.length) w:=λty=>OV underlying99 h.map;obtain ⟨im,b1,C,E,G⟩:=info_parts pv;have HH:=K h;have HQ:=K (tX R);have a2:=K R;have d8:=h.yb;clear h R;go_enter func67,ntmps67
 go_wp2_with (first
  | (at_make;refine wpList_make_own _ rfl _ _ 43 rfl w.heap.size 91 im _ 5 underlying43 b1 C E J J _ d.live.length rfl rfl rfl ?b2 ?b3 (QR _) ?_;rotate_left 2;intro W y p;have X:=K ((Below.refl w.heap.size w).grown p (QR _) (λj hj=>by cases hj));have A1:=HH.out.xo X.out;have c9:W.cell? ⟨pb,3,N⟩=S (.map (S M)):=(Q3 A1.xx _);have Y:=K A1;have a3:=K y;clear A1 y p)
  | fail)
 case b2=>rw [G];omega
 case b3=>unfold maxLen;omega
 refine (MI (S M) W).mono ?_;rintro e w2 ⟨rfl,c6⟩;have a6:=K c6;clear c6 c9 d3 c3;go_wp2_with fail
 rw [a6.out];refine (zW W M d.items.length q d.live Y.out.map (λi hi=>dR hi) (AG d) hn b5).mono ?_;rintro e w3 ⟨vk,rfl,Q,a8⟩;have B3:H (Y6 W.heap.size W w3):=K (((Below.refl _ W).alloc (QR _) _).trans (a8.mono (by omega)));have a4:H (dK w.heap.size w3 (L (S ⟨w.heap.size,0,N⟩) 0 d.live.length) []):=K ⟨aB a3.out λg a7 e _=>ae B3.out e,λx U=>by simp at U,by simp⟩
 have a1:H (w3.ownsRow w.heap.size 3 1 vk d.live.length ((oJ d.live).map λ(i:Int)=>I J i)):=K (Q.mono (by have:=X.out.size;omega));have Z:H (Y6 w.heap.size w w3):=K (X.out.trans (B3.out.mono X.out.size))
 obtain ⟨ak,ck,rfl⟩:∃a c,vk=L a d.live.length c:=by
  rcases Q.2 with ⟨e,h0⟩ | ⟨g,e0,a7,e,_⟩
  .exact ⟨_,_,by rw [h0];exact e⟩
  exact ⟨_,_,e⟩
 clear Q a8 a6 Y X B3 a3;go_wp2_with fail
 go_loopw [3,5,19] (λv _ i V=>∃(k:Nat) (f:List (aX×Nat)),k<=d.live.length/\i=I J k/\f.length=k/\H (f.map (·.1)=(d.live.take k).map d.toldOf)/\H (dK w.heap.size V v f)/\H (V.ownsRow w.heap.size 3 1 (L ak d.live.length ck) d.live.length ((oJ d.live).map λ(i:Int)=>I J i))/\H (Y6 w.heap.size w V)) (λ_ _ i _=>d.live.length - (intOf i).toNat)
 case atStart=>exact ⟨0,[],Nat.zero_le _,rfl,rfl,K rfl,a4,a1,Z⟩
 case round=>
  clear a4 a1 Z;obtain ⟨k,f,hk,rfl,d4,HE,HR,HK,HB⟩:=hrel
  by_cases z:k < d.live.length
  .have d7:(k:Int) < (d.live.length:Int):=by omega
   obtain ⟨a',d6,ea,hc⟩:=(bq HK.out).one;injection ea with ea1 _ ea3;subst ea1 ea3;obtain ⟨b,e4,rfl,e1,l⟩:=hc k z;have b0:((oJ d.live).map λ(i:Int)=>I J i)[k]? =S (I J ((d.live[k]:Int)+1)):=by simp [oJ,z]
   rw [b0] at l;have r:d.live[k]∈d.live:=QU z;have a0:H ((d.live.take (k+1)).map d.toldOf=f.map (·.1)++[d.toldOf d.live[k]]):=K (by rw [List.take_succ_eq_append_getElem z,Sh,HE.out];rfl)
   generalize d.live[k]=i at l r a0
   have b4:=dR r;have Ar:=HH.out.xo HB.out;have d0:wr.cell? ⟨pb,3,N⟩=S (.map (S M)):=Q3 Ar.xx _
   have d2:(Instr.lookup 99 (.map (S M)) (I J ((i:Int)+1)) false).run prog wr= .ok (YV (S ⟨q i,0,N⟩)) wr:=
    rA (t:=99) (e:=181) ml underlying99 Ar.map (λj hj=>by have:=dR hj;omega) i (by omega) r false
   obtain ⟨_,v0,x0,a9,b7⟩:=Ar.xu i r;have hz:dJ (d.xr i):=by rw [fQ b4];exact (a2.out.sz _ (QU b4)).1
   have d5:=lz a2.out i
   have a5:=K (N3 A (q i) (i+1) _ _ _ v0 (d.xq i) x0 wr a9 b7 (by omega) hz.2.2.1 hz.2.2.2.2.2 (λx U=>by
    unfold aa.xq mV at U;obtain ⟨j,_,rfl⟩:=Rl.1 U
    exact Dg hz.2.2.2.2.1 j))
   have P:(gm (d.xq i)).length=(d.xq i).length:=by simp [gm]
   have d9:H (d.toldOf i=⟨i+1,(d.xr i).time,(d.xr i).xk,gm (d.xq i),(d.xr i).body⟩):=K rfl;obtain ⟨n,en⟩:=QE ((d.xq i).length);rw [en] at a5 d5 P;have c0:w.heap.size<=wr.heap.size:=HB.out.size;clear Ar a9 b7 hc b0 HE en;go_wp2_with fail
   refine a5.out.mono ?_;rintro e w4 ⟨g,rfl,e2,b6,s⟩;have R4:=HR.out.xo s;have K4:=K (aB HK.out λg a7 e _=>ae s e);have B4:=K (HB.out.trans (s.mono c0))
   have HG:H (∀x∈f,x.2 < g):=K (λx U=>by
    have:=(HR.out.xd x U).lt x.2 rfl
    omega)
   have O4:=K (b6.mono c0);have e3:wr.heap.size<=w4.heap.size:=s.size;have O:=R4.row;have c7:=K R4;simp only [bh];clear s b6 R4 d2 d0 l
   go_wp2_with (first
    | (at_builtin;refine wpList_append_own _ rfl _ _ 43 rfl w.heap.size 91 im _ 5 72 underlying43 b1 C E G rfl (by decide) _ _ _ rfl (O.alloc _) ⟨w4.heap.size,0,N⟩ 1 1 [I J ((i+1:Nat):Int),I J (d.xr i).time,T (bs (d.xr i).xk),L (S ⟨g,0,N⟩) n n,T (bs (d.xr i).body)] rfl rfl ?c1 ?c2 ?c3 ?c4 ?c5 ?_)
    | fail)
   case c1=>exact World.news_of_block (cs:=#[I J ((i+1:Nat):Int),I J (d.xr i).time,T (bs (d.xr i).xk),L (S ⟨g,0,N⟩) n n,T (bs (d.xr i).body)]) (t:=91) (fr:=(0,0)) (heap_alloc_new w4 _)
   case c2=>intro u hu;simp at hu;rcases hu with rfl | rfl | rfl | rfl | rfl <;> rfl
   case c3=>unfold maxLen;omega
   case c4=>omega
   case c5=>simp;omega
   intro v' e5 B o _
   have eV:(iP (d.toldOf i,g)).2=L (S ⟨g,0,N⟩) n n:=by
    show L (S ⟨g,0,N⟩) (gm (d.xq i)).length (gm (d.xq i)).length=_;rw [P]
   have c8:=K (rI K4.out O o (by decide));have D:=K (c7.out.plus (m:=d.toldOf i) (g:=g) HG.out (by rw [eV];show w4.ownsRow _ _ _ _ (gm (d.xq i)).length _;rw [P];exact O4.out) B4.out (by omega) (by rw [eV,d4];exact B) o);clear B o O;go_wp2_with fail
   exact ⟨⟨k+1,f++[(d.toldOf i,g)],by omega,by go_num,by simp;omega,K (by rw [a0.out];simp),K D.out.1,c8,K D.out.2⟩,by simp [intOf];omega⟩
  have d1:k=d.live.length:=by omega
  subst d1;rw [List.take_length, <-HQ.out] at HE;go_wp2_with fail
  go_ret;exact ⟨_,f,rfl,HR.out,HE.out,HB.out⟩
structure Qt(lo bb:Nat)(kv vM vO vT vS:QJ)(ts:List TE)(ms:List ME)(rows:List (aX×Nat)):Prop where
 b:lo<=bb
 k:∀g,kv.ownBlock=S g->lo<=g
 m:∀g,vM.ownBlock=S g->lo<=g
 o:∀g,vO.ownBlock=S g->lo<=g
 t:∀g,vT.ownBlock=S g->lo<=g
 s:∀g,vS.ownBlock=S g->lo<=g
 ts:∀x∈ts,lo<=x.g
 r:∀r∈rows,lo<=r.2
structure Oe(lo:Nat)(w:QI)(bb B N came:Nat)(kv wv vM vO vT vS:QJ)(ts:List TE)(ms:List ME)(s:Nat)(rows:List (aX×Nat)):Prop where
 bk:ft w bb N came kv wv ts (ts.map TE.s) ms (ms.map ME.k) vM vO vT vS
 kept:dK s w kv rows
 yw:∃s' rowsW,dz s' w wv rowsW/\rowsW.map (·.1)=rows.map (·.1)
 f1:∀x∈ts,∀r∈rows,x.g≠r.2
 f2:∀r∈rows,vS.ownBlock≠S r.2
 f3:∀x∈ms,∀g,x.v.ownBlock=S g->kv.ownBlock≠S g
 z1:rows.length<=131072
 z2:∀r∈rows,1<=r.1.xd.length/\r.1.xd.length<=255
 n1:N<=B
 n2:came<=B
 n3:ts.length<=B
 n4:ms.length<=B
 low:Qt lo bb kv vM vO vT vS ts ms rows
def Bk(lo:Nat)(w:QI)(bb B:Nat):Prop:=∃N came kv wv vM vO vT vS ts ms s rows,Oe lo w bb B N came kv wv vM vO vT vS ts ms s rows
theorem Oe.xo{n:Nat}{w u:QI}{l B c d s:Nat}{m v p q t r:QJ}{ts:List TE}{o:List ME}{f:List (aX×Nat)}(h:Oe n w l B c d m v p q t r ts o s f)(j:Y6 w.heap.size w u):Oe n u l B c d m v p q t r ts o s f:=
 ⟨h.bk.xo j,h.kept.xo j,by
  obtain ⟨z,i,a,b⟩:=h.yw
  exact ⟨z,i,⟨aB a.1 λg k e _=>ae j e,λx y=>aB (a.2 x y) λg k e _=>ae j e⟩,b⟩,h.f1,h.f2,h.f3,h.z1,h.z2,h.n1,h.n2,h.n3,h.n4,h.low⟩
theorem dK.at{s:Nat}{w:QI}{v:QJ}{a:List (aX×Nat)}(h:dK s w v a):fW w v (a.map (·.1)):=by
 have:=h.yZ.at;rw [Rg] at this;exact this
theorem dK.xt{A:Nat->Prop}{s:Nat}{w i:QI}{v:QJ}{b:List (aX×Nat)}(h:dK s w v b)(f:aC A w i)(d:∀k,A k->k < s):dK s i v b:=
 ⟨aB h.row λg c e j=>f.some_ e (λa=>by have:=d g a;omega),λx l=>aB (h.xd x l) λg c e j=>f.some_ e (λa=>by have:=d g a;omega),h.apart⟩
theorem dz.xt{A:Nat->Prop}{s:Nat}{w i:QI}{v:QJ}{b:List (aX×QJ)}(h:dz s w v b)(f:aC A w i)(d:∀k,A k->k < s):dz s i v b:=
 ⟨aB h.1 λg c e j=>f.some_ e (λa=>by have:=d g a;omega),λx l=>aB (h.2 x l) λg c e j=>f.some_ e (λa=>by have:=d g a;omega)⟩
theorem dK.ge{s:Nat}{w:QI}{v:QJ}{a:List (aX×Nat)}(h:dK s w v a){x:aX×Nat}(b:x∈a):s<=x.2/\x.2 < w.heap.size:=(h.xd x b).lt x.2 rfl
theorem Oe.yd{k:Nat}{w:QI}{i B c e s:Nat}{j g n o q p:QJ}{m:List TE}{l:List ME}{d:List (aX×Nat)}(h:Oe k w i B c e j g n o q p m l s d):fW w g (d.map (·.1)):=by
 obtain ⟨r,f,a,b⟩:=h.yw;rw [<-b];exact a.at
theorem Eu(j c B:Nat)(w:QI)(h:Bk j w c B)(z:B<=549755813888):Calls prog 17 #[YV (S ⟨c,0,N⟩)] w λe t=>e= .returned (.bool true)/\Y6 w.heap.size w t:=by
 obtain ⟨a,b,i,u,n,o,q,p,l,k,s,d,h⟩:=h;have x:=h.n3;have y:=h.n4;have v:=h.z1
 exact LD c a b i u n o q p l k _ w h.bk h.kept.at h.yd ⟨by rw [RU];omega,λm f=>by
  obtain ⟨r,g,rfl⟩:=Rl.1 f
  exact (h.z2 r g).2⟩ (by omega) (by omega)
theorem Lj{c:aa}(d:c.Ok):(iM c.items).length<=c.items.length/\∀m∈iM c.items,1<=m.xd.length/\m.xd.length<=255:=by
 rw [tX d];refine ⟨by rw [RU];exact Fi c,λm j=>?_⟩
 obtain ⟨i,g,rfl⟩:=Rl.1 j;have e:=(rD.1 g).2;have k:=lz d i;have f:(c.toldOf i).xd.length=(c.xq i).length:=by simp [aa.toldOf,gm]
 rw [f];refine ⟨?_,by omega⟩
 cases h:c.xq i with
 | nil=>exact absurd h e
 | cons a b=>simp
def aP(kind p n:Int)(xy:Bool)(S:QF)(c:bF)(vD vN vU vW:QJ):Array QJ:=#[I J kind,I J p,I J n,.bool xy,T (bs S),T c.host,vD,vN,vU,I J c.most,I J c.size,vW,I J c.xm,I J c.room]
end Go.Proofs.YtponhohdpophlaaGreatDoor
