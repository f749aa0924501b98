import Derived.Test.YtponhohdpophlaaGreatDoorS23
import Derived.Test.YtponhohdpophlaaGreatDoorS22
namespace Go.Proofs.YtponhohdpophlaaGreatDoor
set_option maxHeartbeats 8000000
set_option maxRecDepth 1000000
open Go renaming heap_alloc_new->Q0,bodyPost_ret->Ru,Calls->Y8,Ending->Zb
open Go.Ending renaming returned->YX
open Go.IntKind renaming i64->J,wrap_i64->QY
open Go.Lib renaming cell_of_heap->Q3,frozen_of_heap->RJ
open Go.Obj renaming cells->YU
open Go.Proofs.Tryz renaming func9->R9,ntmps9->Sa,results9->Sb,func34->We,ntmps34->Wg,ntmps14->XH,ntmps37->Yj,ntmps72->Yn,prog->Ys
open Go.RowKit renaming Hid->H,Below->Y6,intOf->Y9
open Go.RowKit.Below renaming refl->QQ
open Go.Value renaming int->I,slice->L,string->T,pointer->YV,bool->YW,tuple->YY,agg->YZ
open _root_.Bool renaming false->F,true->YT
open _root_.Int renaming toNat_natCast->St
open _root_.List renaming length_set->Q4,take_succ_eq_append_getElem->QV,take_length->QZ,getElem?_set_ne->R6,map_cons->RE,length_append->RI,length_cons->RQ,length_nil->RR,getElem?_eq_some_iff->RT,length_map->RU,ext_getElem?->RY,getElem?_set_self->RZ,getElem?_eq_getElem->Re,drop_zero->SY,getElem?_append_left->Sc,getElem?_append_right->Se,getElem?_eq_none->Sg,length_take->Sm,append_assoc->Sq,length_replicate->TQ,headD_cons->Th
open _root_.Nat renaming le_refl->QR,zero_le->QS,le_trans->Rn,lt_of_lt_of_le->SA,sub_self->Te,le_of_ble_eq_true->Tg,le_add_right->Wl
open _root_.Option renaming none->N,some->S
open _root_.Or renaming inl->Y4,inr->Y5
open Go.Proofs.Tryz
open Go.RowKit
section
variable {E B:Nat->Prop} {pp pb mb:Nat} {c:bF} {w w':QI} {q:Nat->Nat} {vr:QJ} {S:aa} {xb:QF} {vs:QJ} {l:List (Option gz)} {x:gz}
theorem eh.clt(_:eh E pp pb mb c w q vr S xb vs l){n:Nat}(d:l[n]? =some (some x)):n < (l.map fh).length/\∃a:n < (l.map fh).length,(l.map fh)[n]=YV (some ⟨x.sb,0,N⟩):=by
 obtain ⟨b,e⟩:=RT.1 d;have a:n < (l.map fh).length:=by rw [RU];exact b
 exact ⟨a,a,by rw [List.getElem_map,e];rfl⟩
theorem eh.drop(h:eh E pp pb mb c w q vr S xb vs l){g d n:Nat}(j:vs= .slice (some ⟨g,0,N⟩) (l.map fh).length d)(u:n < (l.map fh).length):eh E pp pb mb c (w.setCell ⟨g,n,N⟩ (YV N)) q vr S xb vs (l.set n N)/\(∀k,ie (w.setCell ⟨g,n,N⟩ (YV N)) pb mb q vr S vs (l.set n N) k->ie w pb mb q vr S vs l k)/\aC (ie w pb mb q vr S vs l) w (w.setCell ⟨g,n,N⟩ (YV N)):=by
 obtain ⟨A,p,r⟩:=h.post.put (x:=YV N) j u;have b:vs.ownBlock=some g:=by rw [j];rfl
 have a:∀{m:Nat} {y:gz},(l.set n N)[m]? =some (some y)->m≠n/\l[m]? =some (some y):=λe=>by
  rcases tc e with ⟨_,e⟩ | e
  .cases e
  exact e
 refine ⟨⟨by rw [JD];exact A,λm y i=>?_,λv z C D f s t=>h.apart v z C D f (a s).2 (a t).2,by rw [Q4];exact h.len,h.xo⟩,λk e=>?_,r.mono (λk _ e=>Y5 (Y4 (by rw [e];exact b)))⟩
 .have o:=h.ok m y (a i).2;exact o.xt r (λk e x=>o.fs k e (by rw [x];exact b)) p
 rcases e with e | e | ⟨m,y,i,e⟩
 .exact Y4 (p k e)
 .exact Y5 (Y4 e)
 exact Y5 (Y5 ⟨m,y,(a i).2,e⟩)
theorem CR(h:eh E pp pb mb c w q vr S xb vs l)(n:Int)(b:kW l n=N):Y8 Ys 37 #[YV (some ⟨pp,0,N⟩),I J n] w λe w'=>e=YX (I J 4)/\w=w':=by
 have a:=E8 h n;rw [b] at a;have a:=K a;clear h;go_enter func37,Yj;go_wp2_with fail
 refine a.out.mono ?_;rintro e w' ⟨rfl,rfl⟩;go_wp2_with fail
 go_ret;exact ⟨rfl,rfl⟩
theorem CS(h:eh E pp pb mb c w q vr S xb vs l)(n:Nat)(y:l[n]? =some (some x)):Y8 Ys 37 #[YV (some ⟨pp,0,N⟩),I J (n:Int)] w λe w'=>e=YX (I J 0)/\eh E pp pb mb c w' q vr S xb vs (l.set n N)/\(∀k,ie w' pb mb q vr S vs (l.set n N) k->ie w pb mb q vr S vs l k)/\aC (ie w pb mb q vr S vs l) w w':=by
 obtain ⟨d,_,j⟩:=h.clt y;have p:(l.map fh).length<=100:=by rw [RU];exact h.len
 have s:=K (nu h.post n d p _ j);have b:=h.post.xJ;obtain ⟨g,t,u,f,i,a⟩:=h.post.at d;have z:w.cell? ⟨g,n,N⟩=some (YV (some ⟨x.sb,0,N⟩)):=by rw [Q3 i,a,j]
 have A:=RJ i n;have v:(n:Int) < ((l.map fh).length:Int):=by omega
 have r:=K (h.drop f d);rw [f] at b;obtain ⟨m,o⟩:=QE ((l.map fh).length);rw [o] at b v p;clear h j f i a o d;go_enter func37,Yj;go_wp2_with fail
 refine s.out.mono ?_;rintro e w' ⟨rfl,rfl⟩;go_wp2_with fail
 go_ret;exact ⟨rfl,r.out⟩
theorem Ez(w:QI)(n:Int):Y8 Ys 37 #[YV N,I J n] w λe w'=>e=YX (I J 1)/\w=w':=by
 go_enter func37,Yj;go_wp2_with fail
 go_ret;exact ⟨rfl,rfl⟩
theorem zG(h:eh E pp pb mb c w q vr S xb vs l)(n:Int)(d:kW l n=N)(a:QL):Y8 Ys 10 #[YV (some ⟨pp,0,N⟩),I J n,T a] w λe w'=>e=YX (YY #[T ⟨#[]⟩,I J 4])/\w=w':=by
 have b:=E8 h n;rw [d] at b;have b:=K b;clear h;go_enter_defers func10,ntmps10
 go_wp2_with fail
 refine b.out.mono ?_;rintro e w' ⟨rfl,rfl⟩;go_wp2_with fail
 exact ⟨YY #[T ⟨#[]⟩,I J 4],by simp [results,results10,go_sem],rfl,rfl⟩
theorem AR(w:QI)(n:Int)(a:QL):Y8 Ys 10 #[YV N,I J n,T a] w λe w'=>e=YX (YY #[T ⟨#[]⟩,I J 1])/\w=w':=by
 go_enter_defers func10,ntmps10
 go_wp2_with fail
 exact ⟨YY #[T ⟨#[]⟩,I J 1],by simp [results,results10,go_sem],rfl,rfl⟩
def Qu(E:Nat->Prop)(pp pb mb:Nat)(c:bF)(w:QI)(q:Nat->Nat)(vr:QJ)(S:aa)(vs:QJ)(l:List (Option gz))(n sb ch:Nat)(s':cj)(S':aa)(recs':QF)(w':QI):Prop:=
 ∃q' vr' A' vw',eh E pp pb mb c w' q' vr' S' recs' vs (l.set n (if s'.over then N else some ⟨sb,ch,A',vw',s'⟩))/\(∀k,ie w' pb mb q' vr' S' vs (l.set n (if s'.over then N else some ⟨sb,ch,A',vw',s'⟩)) k->ie w pb mb q vr S vs l k\/w.heap.size<=k)/\aC (ie w pb mb q vr S vs l) w w'
theorem Ck(h:eh E pp pb mb c w q vr S xb vs l)(n:Nat)(g:l[n]? =some (some x))(f:dk c=YT)(a:QF)(p:a.length<=1048576):Y8 Ys 10 #[YV (some ⟨pp,0,N⟩),I J (n:Int),T (bs a)] w λe w'=>e=YX (YY #[T (bs (dx c (x.s,S,xb,[]) a).2.2.2),I J 0])/\Qu E pp pb mb c w q vr S vs l n x.sb x.ch (dx c (x.s,S,xb,[]) a).1 (dx c (x.s,S,xb,[]) a).2.1 (dx c (x.s,S,xb,[]) a).2.2.1 w':=by
 obtain ⟨o,_,v⟩:=h.clt g;have D:(l.map fh).length<=100:=by rw [RU];exact h.len
 have t:=(h.ok n x g).inv;have d:=(sQ f a (x.s,S,xb,[]) t).1;refine (FK (h.one g) t n o D v a p).mono ?_;rintro e G ⟨rfl,m,A,k,b,j,r,z⟩;obtain ⟨y,C⟩:=QE (dx c (x.s,S,xb,[]) a);rw [C] at j r d ⊢;refine ⟨rfl,A,k,m,b,?_⟩
 cases u:y.1.over
 case true=>
  rw [u] at j;exact h.heard g d (Y5 rfl) j r z
 rw [u] at j;refine h.heard g d (Y4 rfl) ?_ r z
 have e:(l.map fh).set n (fh (some ⟨x.sb,x.ch,m,b,y.1⟩))=l.map fh:=by
  apply RY;intro i
  by_cases s:n=i
  .subst s;rw [RZ o,Re o,v];rfl
  rw [R6 s]
 show iC E pp pb mb c G A k y.2.1 y.2.2.1 vs ((l.map fh).set n (fh (some ⟨x.sb,x.ch,m,b,y.1⟩))) x.sb x.ch m b y.1;rw [e];exact j
theorem CV(h:eh E pp pb mb c w q vr S xb vs l)(b:Int)(k:¬(0<=b/\b<=4294967295/\l.length < 100)):Y8 Ys 9 #[YV (some ⟨pp,0,N⟩),I J b] w λe w'=>e=YX (YY #[I J 0,T ⟨#[]⟩,I J 3])/\w=w':=by
 have d:=h.post.xJ;obtain ⟨a,j,g⟩:=az (bq h.post.row);have f:(l.map fh).length=l.length:=RU ..;have m:=h.len;rw [g,f] at d;clear h g
 by_cases n:b < 0
 .go_enter func9,ntmps9;go_wp2_with fail
  refine Ru (v:=YY #[I J 0,T ⟨#[]⟩,I J 3]) (by simp [results,results9,go_sem]) rfl ?_;exact ⟨rfl,rfl⟩
 by_cases o:(4294967295:Int) < b
 .go_enter func9,ntmps9;go_wp2_with fail
  refine Ru (v:=YY #[I J 0,T ⟨#[]⟩,I J 3]) (by simp [results,results9,go_sem]) rfl ?_;exact ⟨rfl,rfl⟩
 have i:l.length=100:=by omega
 rw [i] at d;clear k i m f;go_enter func9,ntmps9;go_wp2_with fail
 refine Ru (v:=YY #[I J 0,T ⟨#[]⟩,I J 3]) (by simp [results,results9,go_sem]) rfl ?_;exact ⟨rfl,rfl⟩
theorem Ax(w:QI)(a:Int):Y8 Ys 9 #[YV N,I J a] w λe w'=>e=YX (YY #[I J 0,T ⟨#[]⟩,I J 1])/\w=w':=by
 go_enter func9,ntmps9;go_wp2_with fail
 refine Ru (v:=YY #[I J 0,T ⟨#[]⟩,I J 1]) (by simp [results,results9,go_sem]) rfl ?_;exact ⟨rfl,rfl⟩
theorem oX{l:List (Option gz)}{v:Option gz}{n:Nat}{y:gz}(h:(l++[v])[n]? =some (some y)):(n=l.length/\v=some y)\/(n < l.length/\l[n]? =some (some y)):=by
 by_cases a:n < l.length
 .rw [Sc a] at h;exact Y5 ⟨a,h⟩
 rw [Se (by omega)] at h
 by_cases e:n - l.length=0
 .rw [e] at h;exact Y4 ⟨by omega,by injection h⟩
 rw [Sg (by simp;omega)] at h
 cases h
def Qs(E:Nat->Prop)(pp pb mb:Nat)(c:bF)(w:QI)(q:Nat->Nat)(vr:QJ)(S:aa)(xb:QF)(vs:QJ)(l:List (Option gz))(addr:Int)(w':QI):Prop:=
 ∃vs' sb ch A,eh E pp pb mb c w' q vr S xb vs' (l++[some ⟨sb,ch,A,L N 0 0,kV c addr⟩])/\(∀k,ie w' pb mb q vr S vs' (l++[some ⟨sb,ch,A,L N 0 0,kV c addr⟩]) k->ie w pb mb q vr S vs l k\/w.heap.size<=k)/\aC (λk=>k=pp\/ie w pb mb q vr S vs l k) w w'
theorem Bz(h:eh E pp pb mb c w q vr S xb vs l)(a:Int)(V:0<=a)(W:a<=4294967295)(X:l.length < 100):Y8 Ys 9 #[YV (some ⟨pp,0,N⟩),I J a] w λe w'=>e=YX (YY #[I J (l.length:Int),T (bs (lK c)),I J 0])/\Qs E pp pb mb c w q vr S xb vs l a w':=by
 have j:(l.map fh).length=l.length:=RU ..;refine (EE h.post a V W (by rw [j];exact X)).mono ?_;rintro e w1 ⟨rfl,sb,r,C,g,Y,Z,G,M,O⟩;rw [j];refine ⟨rfl,C,sb,r,λk=>k=sb\/k=r,?_⟩
 have A:∀(m:Nat) (y:gz),l[m]? =some (some y)->∀k,y.own k->¬(k=pp\/vs.ownBlock=some k):=λm y d k e x=>by
  have o:=h.ok m y d
  rcases x with x | x
  .exact o.fe k e (by rw [x];exact h.post.xI)
  exact o.fs k e x
 have b:∀k,(gz.mk sb r (λk=>k=sb\/k=r) (L N 0 0) (kV c a)).own k->w.heap.size<=k:=λk e=>by
  rcases e with (e | e) | e
  .rw [e];exact Y
  .rw [e];exact Z
  cases e
 have ki:iG c (kV c a) S xb:=⟨(λt e=>by cases e),h.xo.1,h.xo.2.1,h.xo.2.2,by show ([]:QF).length<=102;decide⟩
 refine ⟨⟨by rw [List.map_append];exact g.post,λm y d=>?_,λP Q R U n g1 g2 k s u=>?_,by rw [RI];simp only [RQ,RR];omega,h.xo⟩,λk e=>?_,O.mono (λk _ e=>e.imp id (λe=>Y5 (Y4 e)))⟩
 .rcases oX d with ⟨_,e⟩ | ⟨_,d⟩
  .injection e with e;subst e;exact ⟨g.xA,g.ym,ki,λk e y=>e.elim (λe=>g.ea k y e) (λe=>(g.wd k e).1 y),λk e y=>e.elim (λe=>g.ab k e y) (λe=>(g.wd k e).2.2 y),λk e y=>e.elim (λe=>(g.sa k y).1 e) (λe=>(g.sa k y).2 e),λk e=>(g.wd k e).2.1⟩
  have o:=h.ok m y d;have i:=o.xt O (A m y d) M;exact ⟨i.xA,i.row,i.inv,i.fe,i.fb,λk e x=>(G k x).elim (o.fs k e) (λx=>by have:=o.lt e;omega),i.fw⟩
 .rcases oX g1 with ⟨D,v⟩ | ⟨D,g1⟩
  .rcases oX g2 with ⟨p,_⟩ | ⟨p,g2⟩
   .exact n (D.trans p.symm)
   injection v with v;subst v;have:=(h.ok Q U g2).lt u;have:=b k s;omega
  rcases oX g2 with ⟨p,z⟩ | ⟨p,g2⟩
  .injection z with z;subst z;have:=(h.ok P R g1).lt s;have:=b k u;omega
  exact h.apart P Q R U n g1 g2 k s u
 rcases e with e | e | ⟨m,y,d,e⟩
 .exact Y4 (Y4 (M k e))
 .exact (G k e).imp (λe=>Y5 (Y4 e)) id
 rcases oX d with ⟨_,f⟩ | ⟨_,d⟩
 .injection f with f;subst f;exact Y5 (b k e)
 exact Y4 (Y5 (Y5 ⟨m,y,d,e⟩))
end
def mB(E:Nat->Prop)(p:Nat)(c:bF)(T:Nat)(vC vDu vFa vH:QJ)(l:List ix)(due xh:List Nat)(w:QI)(all' out:QF)(e:Zb)(w':QI):Prop:=
 e=YX (.string (bs out))/\∃vDu' vFa' k,dP E w' p c all' T vC vDu' vFa' vH l (due++List.replicate k T) (xh++List.replicate k 0)/\H (due.length+k=(bn all').1.items.length)/\(∀k,fo p vC vDu' vFa' l k->fo p vC vDu vFa l k\/w.heap.size<=k)/\aC (λk=>k=p\/vDu.ownBlock=S k\/vFa.ownBlock=S k) w w'
theorem mB.still{E:Nat->Prop}{p:Nat}{c:bF}{a:Nat}{m f g n:QJ}{l:List ix}{d q:List Nat}{w o:QI}{b i:QF}{e:Zb}(h:dP E w p c b a m f g n l d q)(j:d.length=(bn b).1.items.length)(k:Y6 w.heap.size w o)(r:e=YX (T (bs i))):mB E p c a m f g n l d q w b i e o:=
 ⟨r,f,g,0,by simpa using h.below k,K j,λ_ e=>Y4 e,aC.below k⟩
theorem FN(E:Nat->Prop)(w:QI)(p:Nat)(c:bF)(s:QF)(i:Nat)(vC c0 c1 vH:QJ)(l:List ix)(O xh:List Nat)(n:Nat)(x:ix)(h:dP E w p c s i vC c0 c1 vH l O xh)(hx:l[n]? =S x)(hl:s.length<=1048576)(hT:i<=1000000000)(U:O.length=(bn s).1.items.length)(hf:xh.length=O.length)(hv:jq x.r.lines<=35184372088832)(a6:x.r.xk.length<=255)(i2:x.r.xd.length<=10)(a8:∀t∈x.r.xd,t.length<=255):Y8 Ys 121 #[YV (S ⟨p,0,N⟩),YV (S ⟨x.cb,0,N⟩)] w (mB E p c i vC c0 c1 vH l O xh w (hY c i s x.r).1 (hY c i s x.r).2):=by
 have hC:=h.ok n x hx;obtain ⟨cb,vT,vL,r⟩:=x;simp only at hC hv a6 i2 a8 ⊢;obtain ⟨aL,cL,eL,hL⟩:=(bq hC.lines).one;have c9:w.cell? ⟨cb,9,N⟩=S vL:=hC.cell 9;rw [eL] at c9;have HH:=K h;have HC:=K hC;have HL:=K hL;have HX:=K hx
 have k3:r.lines.length<=17592186044416:=by
  have:2 * r.lines.length<=jq r.lines:=by
   generalize r.lines=ls
   induction ls with
   | nil=>simp
   | cons a t ih=>
    unfold jq at ih ⊢;simp only [RE,List.sum_cons,RQ];omega
  omega
 clear h hC hL eL hx;go_enter func121,ntmps121;go_wp2_with fail
 go_loopw [5,6] (λbv iv Y=>∃k:Nat,k<=r.lines.length/\iv=I J (k:Int)/\bv=T (bs (gw (r.lines.take k)).1)/\H (Y6 w.heap.size w Y)) (λ_ iv _=>r.lines.length - (Y9 iv).toNat)
 case atStart=>exact ⟨0,QS _,rfl,rfl,K (QQ _ _)⟩
 case round=>
  obtain ⟨k,hk,rfl,rfl,HB⟩:=hrel;have b3:=HC.out.below HB.out;have d9:wr.cell? ⟨cb,9,N⟩=S (L aL r.lines.length cL):=(b3.cell 9).trans ((HC.out.cell 9).symm.trans c9);have c5:=K b3;clear b3;have b6:=KI (r.lines.take k);have k0:=Cx r.lines k
  by_cases a4:k < r.lines.length
  .have a7:(k:Int) < (r.lines.length:Int):=by omega
   obtain ⟨b,i5,rfl,h3,e4⟩:=HL.out k a4;obtain ⟨t,et⟩:=QE (r.lines[k])
   have i9:wr.cell? ⟨b,i5+k,N⟩=S (T (bs t)):=by
    refine (HB.out.cell (by exact h3)).trans ?_;rw [e4, <-et];simp [ah,a4]
   have HJ:H (gw (r.lines.take (k+1))=((if (gw (r.lines.take k)).2 then (gw (r.lines.take k)).1++[13,10] else (gw (r.lines.take k)).1)++t,YT)):=K (by rw [QV a4,et,lM])
   have k6:jq (r.lines.take k)+(t.length+2)<=jq r.lines:=by
    have h1:=Cx r.lines (k+1);rw [QV a4,et,tn] at h1;exact h1
   have hh:=KH (r.lines.take k);obtain ⟨f,eJ⟩:=QE (gw (r.lines.take k));rw [eJ] at HJ b6 hh ⊢;have k7:=aj f.1;have k8:=aj t;have l0:(ByteArray.mk #[13,10]).size=2:=rfl;have d0:=K hh;clear eJ et e4 hh
   by_cases k1:0 < k
   .have e8:(0:Int) < (k:Int):=by omega
    have b2:H (f.2=YT):=K (by
     rw [d0.out]
     cases hq:r.lines.take k with
     | nil=>
      have:=congrArg List.length hq;rw [Sm,RR] at this;omega
     | cons _ _=>rfl)
    have k2:¬9223372036854775807 < f.1.length+2:=by omega
    have h6:¬9223372036854775807 < f.1.length+2+t.length:=by omega
    go_wp2_with fail
    refine ⟨⟨k+1,by omega,by go_num,?_,HB⟩,by simp [Y9];omega⟩
    rw [HJ.out,b2.out, <-aQ];simp only [if_true];rw [<-aQ];rfl
   have e8:¬(0:Int) < (k:Int):=by omega
   have b2:H (f.2=F):=K (by
    rw [d0.out,show k=0 by omega]
    rfl)
   have h6:¬9223372036854775807 < f.1.length+t.length:=by omega
   go_wp2_with fail
   refine ⟨⟨k+1,by omega,by go_num,?_,HB⟩,by simp [Y9];omega⟩
   rw [HJ.out,b2.out, <-aQ];rfl
  have a7:¬(k:Int) < (r.lines.length:Int):=by omega
  have h5:k=r.lines.length:=by omega
  subst h5;rw [QZ] at b6 ⊢;obtain ⟨f,eJ⟩:=QE ((gw r.lines).1);rw [eJ] at b6 ⊢;have b5:=HH.out.below HB.out;obtain ⟨vD,vN,vU,vW,R,_,_⟩:=b5.set;have k9:wr.cell? ⟨p,9,N⟩=S (T (bs s)):=Q3 R _;have d4:=K (mg s wr hl);have Z:=K eJ;have c7:=K b5;have c4:=K R;have i1:=kr s;clear b5 R eJ a7 HL;go_wp2_with fail
  refine d4.out.mono ?_;rintro e y ⟨q,rfl,f0,Q⟩;obtain ⟨aS,i8,q0,_,_⟩:=f0.head;have B2:=HB.out.trans (Q.mono HB.out.size);have A:=c5.out.below Q;have K2:=ae Q c4.out;have e6:y.cell? ⟨cb,6,N⟩=S (T (bs r.xk)):=A.cell 6;have e7:y.cell? ⟨cb,7,N⟩=S vT:=A.cell 7;have h0:y.cell? ⟨cb,10,N⟩=S (YW r.bad):=A.cell 10;have f1:y.cell? ⟨p,10,N⟩=S (I J (i:Int)):=Q3 K2 _;have m9:y.cell? ⟨p,9,N⟩=S (T (bs s)):=Q3 K2 _;have m5:y.cell? ⟨p,5,N⟩=S (I J c.size):=Q3 K2 _;have m8:y.cell? ⟨p,8,N⟩=S (I J c.room):=Q3 K2 _;have c6:=K A;have a9:=K B2;have c8:=K (c7.out.below Q);have d1:=K K2;obtain ⟨g,eN⟩:=QE ((bn s).1.items.length);rw [eN] at q0 i1;have HN:=K eN;have j2:IntKind.i64.wrap ((g:Int)+1)=(g:Int)+1:=by rw [QY];omega
  obtain ⟨aT,cT,eT⟩:=az (bq A.xd);rw [eT] at e7;have f6:=K eT;have up:∀(o:Obj) (b j:Nat) (v:QJ),y.cell? ⟨b,j,N⟩=S v->(y.alloc o).cell? ⟨b,j,N⟩=S v:=λo b j v h=>(((QQ y.heap.size y).alloc (QR _) o).cell (au h)).trans h;have u0:=λo=>up o _ _ _ q0;have u10:=λo=>up o _ _ _ f1;have u6:=λo=>up o _ _ _ e6;have u7:=λo=>up o _ _ _ e7;clear f0 Q B2 A K2 d4 k9 d9 eN eT up;go_wp2_with fail
  go_region
  obtain ⟨u,a3⟩:∃u:QI,(y.alloc (YU #[I J ((g:Int)+1),I J (i:Int),T (bs r.xk),L aT r.xd.length cT,T (bs f)] 91)).drew=u:=⟨_,rfl⟩;obtain ⟨C,B⟩:=QE y.heap.size;have B3:Y6 y.heap.size y u:=by rw [<-a3];exact ((QQ _ _).alloc (QR _) _).drew
  have M3:u.heap[C]? =S (YU #[I J ((g:Int)+1),I J (i:Int),T (bs r.xk),L aT r.xd.length cT,T (bs f)] 91 (0,0)):=by rw [<-a3, <-B];exact Q0 y _
  rw [a3,B];have b4:=c6.out.below B3;have d7:=c8.out.below B3;have K3:=ae B3 d1.out;have i6:u.cell? ⟨cb,10,N⟩=S (YW r.bad):=b4.cell 10;have y9:u.cell? ⟨p,9,N⟩=S (T (bs s)):=Q3 K3 _;have y5:u.cell? ⟨p,5,N⟩=S (I J c.size):=Q3 K3 _;have y8:u.cell? ⟨p,8,N⟩=S (I J c.room):=Q3 K3 _;obtain ⟨z0,z1,z2,z3,z4⟩:=QO M3;have z:=K (a9.out.trans (B3.mono a9.out.size));have f5:=K d7;have f4:=K b4;have a5:=K M3;have f7:=K K3;have k5:=aj f;have l3:=aj s;clear a3 B B3 M3 b4 d7 K3 u0 u10 u6 u7 f1 m9 m5 m8 e6 e7 h0 q0 a9 c8 c6 d1 c7 c5 c4 HB HC c9;obtain ⟨g8,P⟩:=QE r.bad;rw [P] at i6;have b1:=K P;clear P
  cases g8
  case true=>
   have HR:H (hY c i s r=(s,I2)):=K (by unfold hY;rw [b1.out];rfl);go_wp2_with fail
   go_ret;rw [HR.out];exact mB.still HH.out U z.out rfl
  by_cases X:c.size < (f.length:Int)
  .have HR:H (hY c i s r=(s,NL)):=K (by unfold hY;rw [b1.out,Z.out,if_neg (by decide),if_pos X]);go_wp2_with fail
   go_ret;rw [HR.out];exact mB.still HH.out U z.out rfl
  have k4:=gH HH.out.may;have d8:bg u vT r.xd.length 1 (ah r.xd):=bq f4.out.xd;obtain ⟨m,em⟩:=QE (uC i s r)
  have d5:bh m vT=#[I J ((g:Int)+1),I J (i:Int),T (bs r.xk),L aT r.xd.length cT,T (bs f)]:=by
   rw [<-em,f6.out];unfold uC bh;simp only [HN.out,Z.out];rfl
  have b7:dJ m:=by
   rw [<-em];unfold uC;refine ⟨?_,?_,a6,by simp only;omega,a8,?_⟩
   .simp only [HN.out];omega
   .simp only;omega
   simp only [Z.out];omega
  have d6:m.xd=r.xd:=by rw [<-em];rfl
  have a1:H (∀W:QI,Y6 u.heap.size u W->Y8 Ys 185 #[YZ #[I J ((g:Int)+1),I J (i:Int),T (bs r.xk),L aT r.xd.length cT,T (bs f)]] W λe Y=>e=YX (T (bs (bT m)))/\Y6 W.heap.size W Y):=K (λW hb=>by
   have:=p9 m vT W (by rw [d6];exact d8.below hb) b7;rw [d5] at this
   exact this)
  have h7:=pw b7;have e5:((m.id:Nat):Int)=(g:Int)+1:=by rw [<-em];unfold uC;simp only [HN.out];rfl
  have HR:H (hY c i s r=if c.room < ((s.length+(8+(bT m).length):Nat):Int) then (s,NJ) else (s++bJ (bT m),[50,53,48,32,107,101,112,116,32]++Lib.itoa ((g:Int)+1))):=K (by
   unfold hY
   rw [b1.out,Z.out,if_neg (by decide),if_neg X,em,e5])
  obtain ⟨M,eM⟩:=QE (bT m);rw [eM] at a1 h7 HR;have l2:=aj M
  have G:H (∀W:QI,Y6 u.heap.size u W->W.cell? ⟨p,9,N⟩=S (T (bs s))/\W.cell? ⟨p,8,N⟩=S (I J c.room)/\W.cell? ⟨C,0,N⟩=S (I J ((g:Int)+1))/\W.cell? ⟨C,1,N⟩=S (I J (i:Int))/\W.cell? ⟨C,2,N⟩=S (T (bs r.xk))/\W.cell? ⟨C,3,N⟩=S (L aT r.xd.length cT)/\W.cell? ⟨C,4,N⟩=S (T (bs f))):=K (λW hb=>by
   have K4:=ae hb f7.out;have M4:=ae hb a5.out
   exact ⟨Q3 K4 _,Q3 K4 _,Q3 M4 _,Q3 M4 _,Q3 M4 _,Q3 M4 _,Q3 M4 _⟩)
  have d2:=K (a1.out u.drew ((QQ _ _).drew));have C0:H (Y6 u.heap.size u u):=K (QQ _ _);have C1:H (Y6 u.heap.size u u.drew):=K ((QQ _ _).drew);obtain ⟨s0,s1,s2,s3,s4,s5,s6⟩:=G.out u (QQ _ _);clear em d5 b7 d6 d8 eM e5 z0 z1 z2 z3 z4 y9 y8;go_wp2_with fail
  go_region_held3 (λY=>Y.cell? ⟨p,9,N⟩=S (T (bs s))/\Y.cell? ⟨p,8,N⟩=S (I J c.room)/\Y.cell? ⟨C,0,N⟩=S (I J ((g:Int)+1))/\Y.cell? ⟨C,1,N⟩=S (I J (i:Int))/\Y.cell? ⟨C,2,N⟩=S (T (bs r.xk))/\Y.cell? ⟨C,3,N⟩=S (L aT r.xd.length cT)/\Y.cell? ⟨C,4,N⟩=S (T (bs f)))
   (first | exact G.out _ B4.out | exact G.out _ C1.out | exact G.out _ C0.out)
   (first
    | (go_at_call 185;refine d2.out.mono ?_;rintro e w4 ⟨rfl,e0⟩;have B4:H (Y6 u.heap.size u w4):=K (C1.out.trans (e0.mono (QR _)));clear e0))
  have j1:=gH HH.out.may;have i3:IntKind.i64.wrap ((s.length:Int)+8)=(s.length:Int)+8:=by rw [QY];omega
  have i4:IntKind.i64.wrap ((s.length:Int)+8+(M.length:Int))=(s.length:Int)+8+(M.length:Int):=by rw [QY];omega
  simp only [i3,i4]
  by_cases V:c.room < ((s.length+(8+M.length):Nat):Int)
  .have i0:c.room < (s.length:Int)+8+(M.length:Int):=by omega
   have a2:H (hY c i s r=(s,NJ)):=K (by rw [HR.out,if_pos V]);go_wp2_with fail
   go_ret;rw [a2.out];exact mB.still HH.out U (z.out.trans (B4.out.mono z.out.size)) rfl
  have i0:¬c.room < (s.length:Int)+8+(M.length:Int):=by omega
  have a2:H (hY c i s r=(s++bJ M,[50,53,48,32,107,101,112,116,32]++Lib.itoa ((g:Int)+1))):=K (by rw [HR.out,if_neg V]);obtain ⟨t0,t1,t2,t3,t4,t5,t6⟩:=G.out w4 B4.out;have d3:=K (a1.out w4 B4.out);have f8:=K (a1.out w4.drew (B4.out.trans ((QQ _ _).drew)));clear s0 s1 s2 s3 s4 s5 s6 d2 C0 C1;go_wp2_with fail
  refine d3.out.mono ?_;rintro e w5 ⟨rfl,e2⟩;have B5:Y6 u.heap.size u w5:=B4.out.trans (e2.mono B4.out.size);have D5:=f5.out.below B5;have M5:=ae B5 a5.out;have g7:=K (Bc E w5 p c s M i vC c0 c1 vH l O xh D5 (by omega) (by rw [U,HN.out];omega) hf);have c2:=K (z.out.trans (B5.mono z.out.size));have a0:=K M5;have b0:=K D5;clear e2 B5 D5 M5 t0 t1 t2 t3 t4 t5 t6 d3 f8;go_wp2_with fail
  refine g7.out.mono ?_;rintro e w6 ⟨rfl,f2,f3,k,q1,q2,q3,q4⟩
  have B:w6.heap[C]? =S (YU #[I J ((g:Int)+1),I J (i:Int),T (bs r.xk),L aT r.xd.length cT,T (bs f)] 91 (0,0)):=q4.some_ a0.out (λe=>by
   obtain ⟨Ap,h2,_⟩:=b0.out.post
   rcases e with e | e | e
   .exact dN a0.out h2 (by decide) e
   .obtain ⟨g9,e1⟩:=br b0.out.yyV e;exact dN a0.out e1 (by decide) rfl
   obtain ⟨g9,e1⟩:=br b0.out.xH e
   exact dN a0.out e1 (by decide) rfl)
  have v0:w6.cell? ⟨C,0,N⟩=S (I J ((g:Int)+1)):=Q3 B _;have e9:((g:Int)+1)=((g+1:Nat):Int):=by omega
  have D:=zM (g+1) w6 (by omega);rw [<-e9] at D;have D:=K D;have h4:=mQ (n:=(g:Int)+1) (by omega) (by omega);obtain ⟨d,eI⟩:=QE (Lib.itoa ((g:Int)+1));rw [eI] at D h4 a2;have l1:=aj d;have g0:=K q1;have g4:=K q2;have g5:=K q3;have g6:=K q4;have f9:H ((bn s).1.items.length<=(bn (s++bJ M)).1.items.length):=K (IM _ _);clear q1 q2 q3 q4 B eI e9;go_wp2_with fail
  refine D.out.mono ?_;rintro e w7 ⟨rfl,e3⟩;have c3:=K e3;clear e3;go_wp2_with fail
  go_ret;rw [a2.out];refine ⟨?_,f2,f3,k,g0.out.below c3.out,K ?_,λj e=>(g5.out j e).imp id (λe=>by have:=c2.out.size;omega),((aC.below c2.out).trans g6.out (λ_ _ e=>e)).trans (aC.below c3.out:aC (λ_=>False) _ _) (λ_ _ e=>e.elim)⟩
  .rw [<-aQ];rfl
  have h8:=g4.out.out;have h9:=f9.out;rw [h8,U];show _=(bn (s++bJ M)).1.items.length;omega
def fA(E:Nat->Prop)(p:Nat)(c:bF)(T:Nat)(vC vDu vFa vH:QJ)(l:List ix)(n cb:Nat)(due xh:List Nat)(w:QI)(r':bf)(all':QF)(w':QI):Prop:=
 ∃vT' vL' vDu' vFa' k,dP E w' p c all' T vC vDu' vFa' vH (l.set n ⟨cb,vT',vL',r'⟩) (due++List.replicate k T) (xh++List.replicate k 0)/\H (due.length+k=(bn all').1.items.length)/\(∀k,fo p vC vDu' vFa' (l.set n ⟨cb,vT',vL',r'⟩) k->fo p vC vDu vFa l k\/w.heap.size<=k)/\aC (fo p vC vDu vFa l) w w'
structure Qg(r:bf):Prop where
 addr:0<=r.addr
 xk:r.xk.length<=255
 xd:r.xd.length<=10
 each:∀t∈r.xd,t.length<=255
 yU:jq r.lines<=1099511627776
section
variable {E:Nat->Prop} {p n:Nat} {c:bF} {T:Nat} {vC vDu vFa vH vT vL:QJ} {l:List ix} {due xh:List Nat} {w w':QI} {all out:QF} {x:ix} {r':bf}
theorem Gk{l:List ix}{n:Nat}{x:ix}(a:l[n]? =S x):l.set n ⟨x.cb,x.vT,x.vL,x.r⟩=l:=by
 apply RY;intro i
 by_cases e:n=i
 .subst e;obtain ⟨b,_⟩:=RT.1 a;rw [RZ b,a]
 rw [R6 e]
theorem fA.still(h:dP E w p c all T vC vDu vFa vH l due xh)(a:due.length=(bn all).1.items.length)(d:l[n]? =S x)(b:Y6 w.heap.size w w'):fA E p c T vC vDu vFa vH l n x.cb due xh w x.r all w':=
 ⟨x.vT,x.vL,vDu,vFa,0,by rw [Gk d];simpa using h.below b,K a,λk e=>Y4 (by rw [Gk d] at e;exact e),aC.below b⟩
theorem fA.turn{b a:QJ}(h:dP E w p c all T vC vDu vFa vH l due xh)(d:due.length=(bn all).1.items.length)(j:l[n]? =S x)(e:bB w' x.cb b a r')(i:∀g,b.ownBlock=S g\/a.ownBlock=S g->x.vT.ownBlock=S g\/x.vL.ownBlock=S g\/w.heap.size<=g)(f:aC x.own w w'):fA E p c T vC vDu vFa vH l n x.cb due xh w r' all w':=by
 obtain ⟨k,m,o⟩:=h.turn j e i f;exact ⟨b,a,vDu,vFa,0,by simpa using k,K d,m,o⟩
end
theorem qX{c:bF}(b:dk c=YT)(r:bf)(W arg:QF)(a:Bool):(aR c r W arg a).2.length<=1000:=by
 have h:=oG b;have j:=gH b;have i:=mQ (n:=c.size) (by omega) (by omega)
 have d:∀arg,(gu c r arg).2.length<=1000:=λarg=>by
  unfold gu
  split
  .exact Tg rfl
  split
  .exact Tg rfl
  split
  .exact Tg rfl
  split <;> exact Tg rfl
 have e:∀arg,(hZ c r arg).2.length<=1000:=λarg=>by
  unfold hZ
  split
  .exact Tg rfl
  split
  .exact Tg rfl
  split
  .exact Tg rfl
  split <;> exact Tg rfl
 have f:∀arg,(gQ c r arg).2.length<=1000:=λarg=>by
  unfold gQ
  split
  .exact Tg rfl
  split
  .exact Tg rfl
  split
  .exact Tg rfl
  split
  .exact Tg rfl
  split
  .exact Tg rfl
  split <;> exact Tg rfl
 have g:(pN c).length<=1000:=by
  unfold pN;simp only [RI,RQ,RR];omega
 unfold aR
 split
 .split <;> exact Tg rfl
 split
 .split <;> exact Tg rfl
 split
 .split <;> exact Tg rfl
 split
 .split
  .exact Tg rfl
  split <;> exact Tg rfl
 split
 .split
  .simp only [RI,RQ,RR];omega
  exact Tg rfl
 split
 .split
  .exact g
  exact Tg rfl
 split
 .exact d _
 split
 .exact e _
 split
 .exact f _
 exact Tg rfl
theorem Gd(E:Nat->Prop)(w:QI)(p:Nat)(c:bF)(all:QF)(T:Nat)(vC vDu vFa vH:QJ)(l:List ix)(due xh:List Nat)(n:Nat)(x:ix)(s:QF)(h:dP E w p c all T vC vDu vFa vH l due xh)(D:due.length=(bn all).1.items.length)(hx:l[n]? =S x)(ho:Qg x.r)(hl:s.length<=35184372088832)(G:x.r.inside=F):Y8 Ys 72 #[YV (S ⟨p,0,N⟩),YV (S ⟨x.cb,0,N⟩),.string (bs s)] w λe w'=>e=YX (.string (bs (cV c T all x.r s).2.2))/\fA E p c T vC vDu vFa vH l n x.cb due xh w (cV c T all x.r s).1 (cV c T all x.r s).2.1 w':=by
 have hC:=h.ok n x hx;have c8:w.cell? ⟨x.cb,8,N⟩=S (YW x.r.inside):=hC.cell 8;rw [G] at c8;have u:=K (qC s w (by omega))
 have Y:H (cV c T all x.r s=if (bu s).2 then (x.r,all,I2++[13,10]) else ((aR c x.r (Lib.toUpperA (aJ 32 s).1) (aJ 32 s).2.1 (aJ 32 s).2.2).1,all,(aR c x.r (Lib.toUpperA (aJ 32 s).1) (aJ 32 s).2.1 (aJ 32 s).2.2).2++[13,10])):=K (by
  unfold cV;rw [G]
  rfl)
 have M:(bu s).2=F->s.length<=100:=λe=>by
  unfold bu at e
  split at e
  .cases e
  rename_i hn
  simp at hn;omega
 have P:=K h;have HX:=K hx;have HC:=K hC;have HO:=K ho;have y:=K D;obtain ⟨Z,q⟩:∃b,(bu s).2=b:=⟨_,rfl⟩;rw [q] at u Y M;clear q h hx hC ho D;have hz:=aj s;go_enter func72,Yn;go_wp2_with fail
 refine u.out.mono ?_;rintro e w' ⟨rfl,rfl⟩
 cases Z
 case true=>
  go_wp2_with fail
  go_ret;rw [Y.out];exact ⟨rfl,fA.still P.out y.out HX.out (QQ _ _)⟩
 have hs:=M rfl;have v:=K (l9 (bs s) 32 32 (K rfl) w (by rw [aj];unfold maxLen;omega));go_wp2_with fail
 refine v.out.mono ?_;rintro e w1 ⟨a,b,f,rfl,d,n1,rfl⟩;rw [ao] at d;obtain ⟨m,rfl⟩:∃m,a=bs m:=⟨a.data.toList,rfl⟩;obtain ⟨arg,rfl⟩:∃arg,b=bs arg:=⟨b.data.toList,rfl⟩;rw [ao,ao] at d;have a1:=nj 32 s m arg f d;have i:H (Y6 w.heap.size w (w.drewN n1)):=K (an n1 w _);obtain ⟨W1,A⟩:∃W:QI,w.drewN n1=W:=⟨_,rfl⟩;rw [A] at i ⊢;have z:H (cV c T all x.r s=((aR c x.r (Lib.toUpperA m) arg f).1,all,(aR c x.r (Lib.toUpperA m) arg f).2++[13,10])):=K (by rw [Y.out,d];rfl);have o:=K (kM (bs m) W1 (by rw [aj];unfold maxLen;omega));clear A d;go_wp2_with fail
 refine o.out.mono ?_;rintro e w2 ⟨rfl,B⟩;have O:Y6 w.heap.size w w2:=i.out.trans (B.mono i.out.size);have t:=K O;have Q:=P.out.below O;obtain ⟨vD,vN,vU,vW,r⟩:=Q.setAt;have j:=IV p x.cb c vD vN vU vW x.vT x.vL x.r (Lib.toUpperA m) arg f w2 r (HC.out.below O) (by omega) HO.out.addr HO.out.xd;have C:=qX P.out.may x.r (Lib.toUpperA m) arg f;have a0:=K Q;obtain ⟨R,eR⟩:=QE (aR c x.r (Lib.toUpperA m) arg f);rw [eR] at j C z;have j:=K j;clear B O Q r eR i o;go_wp2_with fail
 refine j.out.mono ?_;rintro e w3 ⟨rfl,a4,a3,k1,k2,k3⟩;have U:=K k1;have V:=K k2;have X:=K k3;have a2:=aj R.2;clear k1 k2 k3;go_wp2_with fail
 go_ret;rw [z.out];refine ⟨?_,fA.turn P.out y.out HX.out U.out (λg e=>(V.out g e).imp id (λe=>e.imp id (λe=>by have:=t.out.size;omega))) ((aC.below t.out).trans X.out (λk _ e=>e))⟩;rw [<-aQ];rfl
theorem Bt(c:bF)(a:Nat)(b:QF)(r:bf)(f:b.length<=1048576):(hY c a b r).2.length<=1000:=by
 have d:=kr b;have e:=mQ (n:=(((uC a b r).id:Nat):Int)) (by omega) (by unfold uC;simp only;omega);unfold hY
 split
 .exact Tg rfl
 split
 .exact Tg rfl
 split
 .exact Tg rfl
 simp only [RI,RQ,RR];omega
theorem KR(b:List QF):2 * b.length<=jq b:=by
 induction b with
 | nil=>exact QS _
 | cons a t ih=>
  unfold jq at ih ⊢;simp only [RE,List.sum_cons,RQ];omega
theorem DH(E:Nat->Prop)(w:QI)(p:Nat)(c:bF)(b:QF)(a:Nat)(vC q r vH:QJ)(l:List ix)(f M:List Nat)(n:Nat)(x:ix)(h:dP E w p c b a vC q r vH l f M)(Z:f.length=(bn b).1.items.length)(hf:M.length=f.length)(G:l[n]? =S x)(A:Qg x.r)(y:b.length<=1048576)(hT:a<=1000000000)(z:x.r.inside=YT):Y8 Ys 72 #[YV (S ⟨p,0,N⟩),YV (S ⟨x.cb,0,N⟩),T ⟨#[46]⟩] w λe w'=>e=YX (T (bs (cV c a b x.r [46]).2.2))/\fA E p c a vC q r vH l n x.cb f M w (cV c a b x.r [46]).1 (cV c a b x.r [46]).2.1 w':=by
 have o:=h.ok n x G;have c8:w.cell? ⟨x.cb,8,N⟩=S (YW x.r.inside):=o.cell 8;have c5:w.cell? ⟨x.cb,5,N⟩=S (YW x.r.begun):=o.cell 5;have f8:=o.frozen 8;have f5:=o.frozen 5;rw [z] at c8;have i:=qC [46] w (by decide);have t:bs [46]=⟨#[46]⟩:=rfl;have u:(bu [46]).2=F:=rfl;rw [t,u] at i;have i:=K i
 have HL:H (cV c a b x.r [46]=({x.r with inside:=F,begun:=F},(hY c a b x.r).1,(hY c a b x.r).2++[13,10])):=K (by
  unfold cV
  rw [if_pos z,if_pos rfl])
 obtain ⟨X,m⟩:=QE ((w.setCell ⟨x.cb,8,N⟩ (YW F)).setCell ⟨x.cb,5,N⟩ (YW F));have W:aA x.cb w X:=by rw [<-m];exact ((aA.refl _ _).setCell _).setCell _
 have C1:bB X x.cb x.vT x.vL {x.r with inside:=F,begun:=F}:=by
  refine o.turn W ?_ rfl rfl;rw [<-m];have z8:=cP (j:=8) (v:=YW F) o.xp (A':=bC {x.r with inside:=F} x.vT x.vL) rfl;exact cP (j:=5) (v:=YW F) z8 rfl
 obtain ⟨d1,d2,d3⟩:=h.turn G C1 (λg e=>e.elim Y4 (λe=>Y5 (Y4 e))) ((aC.same W).mono (λ_ _ e=>Y4 e));have B:(l.set n ⟨x.cb,x.vT,x.vL,{x.r with inside:=F,begun:=F}⟩)[n]? =S ⟨x.cb,x.vT,x.vL,{x.r with inside:=F,begun:=F}⟩:=RZ (RT.1 G).1;have d:=FN E X p c b a vC q r vH _ f M n ⟨x.cb,x.vT,x.vL,{x.r with inside:=F,begun:=F}⟩ d1 B y hT Z hf (by have:=A.yU;show jq x.r.lines<=_;omega) A.xk A.xd A.each;have eB:hY c a b {x.r with inside:=F,begun:=F}=hY c a b x.r:=rfl;simp only [eB] at d;have Y:=Bt c a b x.r y;obtain ⟨R,eR⟩:=QE (hY c a b x.r);rw [eR] at d Y HL;have d:=K d;have V:=K m;have O:=K d2;have s:=K d3;have a0:=aj R.2
 have g5:(w.setCell ⟨x.cb,8,N⟩ (YW F)).cell? ⟨x.cb,5,N⟩=S (YW x.r.begun):=by
  rw [Q3 (cP (j:=8) (v:=YW F) o.xp (A':=bC {x.r with inside:=F} x.vT x.vL) rfl)];rfl
 clear h G o A d1 d2 d3 C1 W B eR eB m t u;go_enter func72,Yn;go_wp2_with fail
 refine i.out.mono ?_;rintro e w' ⟨rfl,rfl⟩;go_wp2_with fail
 rw [V.out];refine d.out.mono ?_;rintro e w3 ⟨rfl,C,D,k,q1,q2,q3,q4⟩;have P:=K q1;have Q:=K q3;have U:=K q4;clear q1 q3 q4;go_wp2_with fail
 go_ret;rw [HL.out];refine ⟨by rw [<-aQ];rfl,x.vT,x.vL,C,D,k,P.out,q2,λj e=>?_,?_⟩
 .rcases Q.out j e with e | e
  .exact O.out j e
  exact Y5 (Rn s.out.size e)
 refine s.out.trans U.out (λj hj e=>?_)
 rcases e with e | e | e
 .exact Y4 e
 .exact Y5 (Y5 (Y4 e))
 exact Y5 (Y5 (Y5 (Y4 e)))
theorem Gb(E:Nat->Prop)(w:QI)(p:Nat)(c:bF)(m:QF)(d:Nat)(vC Y Z vH:QJ)(l:List ix)(M xh:List Nat)(n:Nat)(x:ix)(s:QF)(h:dP E w p c m d vC Y Z vH l M xh)(d4:M.length=(bn m).1.items.length)(hx:l[n]? =S x)(ho:Qg x.r)(hl:s.length<=1099511627776)(b1:x.r.inside=YT)(hs:s≠[46]):Y8 Ys 72 #[YV (S ⟨p,0,N⟩),YV (S ⟨x.cb,0,N⟩),T (bs s)] w λe w'=>e=YX (T (bs (cV c d m x.r s).2.2))/\fA E p c d vC Y Z vH l n x.cb M xh w (cV c d m x.r s).1 (cV c d m x.r s).2.1 w':=by
 have hC:=h.ok n x hx;have d5:=KR x.r.lines;have c9:=ho.yU
 have HL:H (cV c d m x.r s=({x.r with bad:=x.r.bad || (bu s).2,lines:=x.r.lines++[dC s]},m,[])):=K (by
  unfold cV
  rw [if_pos b1,if_neg hs])
 have D:H (∀(w':QI) (b5:QJ),bB w' x.cb x.vT b5 {x.r with bad:=x.r.bad || (bu s).2,lines:=x.r.lines++[dC s]}->(∀g,b5.ownBlock=S g->x.vL.ownBlock=S g\/w.heap.size<=g)->aC x.own w w'->fA E p c d vC Y Z vH l n x.cb M xh w {x.r with bad:=x.r.bad || (bu s).2,lines:=x.r.lines++[dC s]} m w'):=K (λw' b5 a1 a2 a3=>fA.turn h d4 hx a1 (λg e=>e.elim Y4 (λe=>Y5 (a2 g e))) a3);have hz:=aj s;obtain ⟨z,vT,vL,r⟩:=x;simp only at hC d5 c9 HL D b1 ⊢;have c8:w.cell? ⟨z,8,N⟩=S (YW r.inside):=hC.cell 8;have d3:w.cell? ⟨z,10,N⟩=S (YW r.bad):=hC.cell 10;have d9:=hC.frozen 10;rw [b1] at c8;have U:=qC s w (by omega);obtain ⟨f,a0⟩:∃b,(bu s).2=b:=⟨_,rfl⟩;rw [a0] at U HL D;have U:=K U;obtain ⟨R,X⟩:=QE (w.setCell ⟨z,10,N⟩ (YW (r.bad || f)));have S1:aA z w R:=by rw [<-X];exact (aA.refl _ _).setCell _
 have B:bB R z vT vL {r with bad:=r.bad || f}:=by
  refine hC.turn S1 ?_ rfl rfl;rw [<-X];exact cP (j:=10) (v:=YW (r.bad || f)) hC.xp rfl
 have a7:=K (AV s R (by omega))
 have e0:((bs s).toList == [46])=F:=by
  rw [Lib.toList_data,ao,beq_eq_false_iff_ne];exact hs
 have d7:=K B;have d8:=K S1;have c0:=K X;have k9:R.cell? ⟨z,9,N⟩=S vL:=B.cell 9;obtain ⟨aL,cL,eL⟩:=az (bq B.lines);obtain ⟨t,et⟩:=QE (dC s);obtain ⟨i,hi,d0,b4,d1⟩:=info_parts lL;have Q:R.ownsRow 0 9 1 vL r.lines.length (ah r.lines):=B.lines;obtain ⟨g,q,W,b3,b2,K6,O6⟩:=pg (P:=Ys) underlying30 hi d0 b4 d1 rfl R (R.alloc (YU #[T (bs t)] 9)) vL (T (bs t)) r.lines.length (ah r.lines) Q rfl ((QQ _ _).alloc (QR _) _) (Q0 R _) (by unfold maxLen;omega) (by omega)
 have a5:¬vL.ownBlock=S z:=λe=>by
  obtain ⟨c1,h1⟩:=br Q e;rw [B.xp] at h1;simp at h1
 have b6:=K6.some_ B.xp a5;have e9:W.cell? ⟨z,9,N⟩=S vL:=Q3 b6 _;have f9:=RJ b6 9;have e1:r.lines.length=r.lines.length:=rfl
 have y:H (fA E p c d vC Y Z vH l n z M xh w {r with bad:=r.bad || f,lines:=r.lines++[t]} m (W.setCell ⟨z,9,N⟩ (L (S ⟨g,0,N⟩) (r.lines.length+1) q))):=K (by
  rw [et] at D;have c6:(r.lines++[t]).length=r.lines.length+1:=by simp
  have b0:aA z W (W.setCell ⟨z,9,N⟩ (L (S ⟨g,0,N⟩) (r.lines.length+1) q)):=(aA.refl _ _).setCell _;have b7:=cP (j:=9) (v:=L (S ⟨g,0,N⟩) (r.lines.length+1) q) b6 (A':=bC {r with bad:=r.bad || f,lines:=r.lines++[t]} vT (L (S ⟨g,0,N⟩) (r.lines.length+1) q)) rfl
  have c5:g≠z:=λe=>by
   obtain ⟨c1,h1⟩:=br b2 (g:=g) rfl;rw [e,b6] at h1;simp at h1
  have c4:∀k,vT.ownBlock=S k->¬vL.ownBlock=S k:=λk e e2=>by
   rcases B.apart with a | a
   .rw [a] at e;cases e
   exact a (by rw [e,e2])
  have b4:w.heap.size=R.heap.size:=S1.1.symm;refine D.out _ _ ⟨b7,?_,?_,?_⟩ (λk e=>?_) ?_
  .refine bG (bG B.xd K6 (λk e e2=>c4 k e e2)) (aC.same b0) (λk e e2=>?_);obtain ⟨c1,h1⟩:=br B.xd e;rw [e2,B.xp] at h1;simp at h1
  .show (W.setCell _ _).ownsRow 0 9 1 _ (r.lines++[t]).length (ah (r.lines++[t]));rw [c6,show ah (r.lines++[t])=ah r.lines++[T (bs t)] by simp [ah]]
   exact bG b2 (aC.same b0) (λk e e2=>c5 (by injection e with e;rw [<-e2];exact e))
  .cases hv:vT.ownBlock with
   | none=>exact Y4 rfl
   | some k=>
    refine Y5 (λe=>?_);have e:S k=S g:=e;injection e with e;subst e
    rcases O6 with o | o
    .exact c4 k hv o
    have:=(iL B.xd hv).2;omega
  .have e:S g=S k:=e;injection e with e;rw [<-e];exact O6.imp id (λo=>by omega)
  refine (((aC.same S1).mono (λ_ _ e=>Y4 e)).trans (A1:=λk=>vL.ownBlock=S k) K6 (λk _ e=>Y5 (Y5 e))).trans (aC.same b0) (λ_ _ e=>Y4 e))
 rw [eL] at k9 e9 b3;have V:=K b3;have d2:=K et
 have a4:(s.headD 0 == 46)=YT->(bs s).extract 1 s.length=bs t:=λe=>by
  rw [bR,QZ, <-et]
  cases s with
  | nil=>simp at e
  | cons b u=>
   simp only [Th,beq_iff_eq] at e;subst e;rfl
 have c7:(s.headD 0 == 46)=F->s=t:=λe=>by
  rw [<-et]
  cases s with
  | nil=>rfl
  | cons b u=>
   simp only [Th,beq_eq_false_iff_ne] at e;show b::u=if b=46 then u else b::u;rw [if_neg e]
 have a6:(s.headD 0 == 46)=YT->(1:Int)<=(s.length:Int):=λe=>by
  cases s with
  | nil=>simp at e
  | cons b u=>simp only [RQ];omega
 have C:=K a4;have a8:=K c7;have G:=K a6;obtain ⟨dt,c2⟩:∃b,(s.headD 0 == 46)=b:=⟨_,rfl⟩;rw [c2] at a7 C a8 G;rw [d2.out] at HL;clear hC hi d0 b4 d1 Q b3 b2 K6 O6 a5 b6 B S1 X et eL D a0 a4 c7 a6 h hx ho c2;go_enter func72,Yn;go_wp2_with fail
 refine U.out.mono ?_;rintro e w' ⟨rfl,rfl⟩;obtain ⟨rb,c3⟩:∃b,r.bad=b:=⟨_,rfl⟩;rw [c3] at c0 d3;clear c3;have A:∀v:Bool,(rb || f)=v->H (w.setCell ⟨z,10,N⟩ (YW v)=R):=λv e=>by rw [<-e];exact c0
 cases rb
 case true=>
  have a9:=A YT rfl;clear A;go_wp2_with fail
  rw [a9.out];refine a7.out.mono ?_;rintro e w2 ⟨rfl,rfl⟩
  cases dt
  case true=>
   have d6:=G.out rfl;have O:=C.out rfl
   go_wp2_with (first
    | (at_builtin;refine bp rfl _ _ 30 rfl _ _ (L (S ⟨g,0,N⟩) (r.lines.length+1) q) W rfl rfl V.out ?_)
    | fail)
   go_ret;rw [HL.out];exact ⟨rfl,y.out⟩
  have O:=a8.out rfl;subst O
  go_wp2_with (first
   | (at_builtin;refine bp rfl _ _ 30 rfl _ _ (L (S ⟨g,0,N⟩) (r.lines.length+1) q) W rfl rfl V.out ?_)
   | fail)
  go_ret;rw [HL.out];exact ⟨rfl,y.out⟩
 have a9:=A f rfl;clear A;go_wp2_with fail
 rw [a9.out];refine a7.out.mono ?_;rintro e w2 ⟨rfl,rfl⟩
 cases dt
 case true=>
  have d6:=G.out rfl;have O:=C.out rfl
  go_wp2_with (first
   | (at_builtin;refine bp rfl _ _ 30 rfl _ _ (L (S ⟨g,0,N⟩) (r.lines.length+1) q) W rfl rfl V.out ?_)
   | fail)
  go_ret;rw [HL.out];exact ⟨rfl,y.out⟩
 have O:=a8.out rfl;subst O
 go_wp2_with (first
  | (at_builtin;refine bp rfl _ _ 30 rfl _ _ (L (S ⟨g,0,N⟩) (r.lines.length+1) q) W rfl rfl V.out ?_)
  | fail)
 go_ret;rw [HL.out];exact ⟨rfl,y.out⟩
section
variable {E:Nat->Prop} {p n cb:Nat} {c:bF} {T:Nat} {vC vDu vFa vH:QJ} {l:List ix} {due xh:List Nat} {w w1 w2:QI} {r1 r2:bf} {all1 all2:QF}
theorem rX{l:List ix}{n:Nat}(a:n < l.length)(y:ix):(l.set n y)[n]? =S y:=RZ a
theorem fA.then{f d a b:QJ}{g:Nat}(_:dP E w1 p c all1 T vC a b vH (l.set n ⟨cb,f,d,r1⟩) (due++List.replicate g T) (xh++List.replicate g 0))(r:∀k,fo p vC a b (l.set n ⟨cb,f,d,r1⟩) k->fo p vC vDu vFa l k\/w.heap.size<=k)(q:aC (fo p vC vDu vFa l) w w1)(v:fA E p c T vC a b vH (l.set n ⟨cb,f,d,r1⟩) n cb (due++List.replicate g T) (xh++List.replicate g 0) w1 r2 all2 w2):fA E p c T vC vDu vFa vH l n cb due xh w r2 all2 w2:=by
 obtain ⟨m,j,h,i,x,o,u,s,t⟩:=v;rw [List.set_set] at o s;refine ⟨m,j,h,i,g+x,?_,K ?_,λk e=>?_,q.trans t (λk y e=>(r k e).elim id (λe=>by omega))⟩
 .rw [<-List.replicate_append_replicate, <-Sq, <-List.replicate_append_replicate, <-Sq];exact o
 .have:=u.out;rw [RI,TQ] at this;omega
 rcases s k e with e | e
 .exact r k e
 exact Y5 (Rn q.size e)
end
theorem Gc(E:Nat->Prop)(w:QI)(p:Nat)(c:bF)(a:QF)(T:Nat)(vC vDu vFa vH:QJ)(l:List ix)(due xh:List Nat)(n:Nat)(x:ix)(s:QF)(h:dP E w p c a T vC vDu vFa vH l due xh)(b:due.length=(bn a).1.items.length)(m:xh.length=due.length)(i:l[n]? =S x)(g:Qg x.r)(f:a.length<=1048576)(k:T<=1000000000)(o:s.length<=1099511627776):Y8 Ys 72 #[YV (S ⟨p,0,N⟩),YV (S ⟨x.cb,0,N⟩),.string (bs s)] w λe q=>e=YX (.string (bs (cV c T a x.r s).2.2))/\fA E p c T vC vDu vFa vH l n x.cb due xh w (cV c T a x.r s).1 (cV c T a x.r s).2.1 q:=by
 cases d:x.r.inside
 case false=>exact Gd E w p c a T vC vDu vFa vH l due xh n x s h b i g (by omega) d
 by_cases j:s=[46]
 .subst j;exact DH E w p c a T vC vDu vFa vH l due xh n x h b m i g f k d
 exact Gb E w p c a T vC vDu vFa vH l due xh n x s h b i g o d j
theorem KO{c:bF}(b:dk c=YT)(T:Nat)(a:QF)(d:a.length<=1048576)(r:bf)(s:QF):(cV c T a r s).2.2.length<=1002:=by
 have e:=Bt c T a r d;have f:=qX b r (Lib.toUpperA (aJ 32 s).1) (aJ 32 s).2.1 (aJ 32 s).2.2;unfold cV
 split
 .split
  .simp only [RI,RQ,RR];omega
  exact QS _
 split
 .exact Tg rfl
 simp only [RI,RQ,RR];omega
def pn(w:QI)(cb:Nat):Nat:=
 match w.cell? ⟨cb,1,N⟩ with
 | some (.string s)=>s.size
 | _=>0
theorem fA.came{E:Nat->Prop}{p:Nat}{c:bF}{T:Nat}{vC vDu vFa vH:QJ}{l:List ix}{n cb:Nat}{due xh:List Nat}{w f:QI}{r:bf}{a:QF}(h:fA E p c T vC vDu vFa vH l n cb due xh w r a f)(i:n < l.length):pn f cb=r.came.length:=by
 obtain ⟨k,j,d,e,m,g,_⟩:=h;have b:=(g.ok n _ (rX i _)).cell 1;unfold pn;simp only at b;rw [b];exact aj _
structure Ol(E:Nat->Prop)(p:Nat)(c:bF)(T:Nat)(vC vDu vFa vH:QJ)(l:List ix)(n cb:Nat)(due xh:List Nat)(w:QI)(R0:bf×QF×QF)(V k:Nat)(r:bf)(all out:QF)(w':QI):Prop where
 post:fA E p c T vC vDu vFa vH l n cb due xh w r all w'
 fold:jk c T ({r with came:=r.came.take (k+1)},all,out) (r.came.drop (k+1))=R0
 rb:RB r
 yU:jq r.lines+r.came.length<=V
 len:all.length<=1048576
 out:out.length+1002 * r.came.length<=1002 * V
 hk:k<=r.came.length
def Pp(E:Nat->Prop)(p:Nat)(c:bF)(T:Nat)(vC vDu vFa vH:QJ)(l:List ix)(n cb:Nat)(due xh:List Nat)(w:QI)(R0:bf×QF×QF)(V:Nat)(w':QI):Prop:=
 fA E p c T vC vDu vFa vH l n cb due xh w R0.1 R0.2.1 w'/\RB R0.1/\jq R0.1.lines+R0.1.came.length<=V/\R0.2.1.length<=1048576
theorem zO(E:Nat->Prop)(w:QI)(p:Nat)(c:bF)(B:QF)(T:Nat)(vC vDu vFa vH:QJ)(l:List ix)(due xh:List Nat)(n:Nat)(x:ix)(b:QF)(V:Nat)(h:dP E w p c B T vC vDu vFa vH l due xh)(e4:due.length=(bn B).1.items.length)(hf:xh.length=due.length)(hx:l[n]? =S x)(hc:x.r.closed=F)(hl:l.length<=100)(ho:RB x.r)(hV:jq x.r.lines+x.r.came.length+b.length<=V)(f6:V<=1099511627776)(e3:B.length<=1048576)(hT:T<=1000000000):Y8 Ys 36 #[YV (S ⟨p,0,N⟩),I J (n:Int),.string (bs b)] w λe w'=>e=YX (YY #[.string (bs (rR c T B x.r b).2.2),I J 0])/\Pp E p c T vC vDu vFa vH l n x.cb due xh w (rR c T B x.r b) V w':=by
 obtain ⟨A,c2⟩:=h.ye;have a8:=mf w p A vC l (n:Int) c2 hl
 have c6:jX l (n:Int)=S x:=by
  unfold jX;rw [if_pos (by omega),St,hx];simp only;rw [hc];rfl
 rw [c6] at a8;have c5:n < l.length:=(RT.1 hx).1;have hC:=h.ok n x hx;have c1:w.cell? ⟨x.cb,1,N⟩=S (.string (bs x.r.came)):=hC.cell 1;have f1:=hC.frozen 1;have b3:H (Y8 Ys 71 #[YV (S ⟨p,0,N⟩),I J (n:Int)] w λe w'=>e=YX (YY #[YV (S ⟨x.cb,0,N⟩),I J 0])/\w=w'):=K a8;obtain ⟨R0,a0⟩:=QE (rR c T B x.r b);have e6:=aj x.r.came;have g6:=aj b;obtain ⟨cb,vT,vL,r⟩:=x;simp only at hC c1 f1 b3 a0 ho hV e6 ⊢
 have d9:H (Ol E p c T vC vDu vFa vH l n cb due xh w R0 V 0 {r with came:=r.came++b} B [] (w.setCell ⟨cb,1,N⟩ (.string (bs (r.came++b))))):=K (by
  have S1:aA cb w (w.setCell ⟨cb,1,N⟩ (.string (bs (r.came++b)))):=(aA.refl _ _).setCell _;refine ⟨fA.turn h e4 hx (hC.turn S1 (cP (j:=1) (v:= .string (bs (r.came++b))) hC.xp rfl) rfl rfl) (λg e=>e.elim Y4 (λe=>Y5 (Y4 e))) ((aC.same S1).mono (λ_ _ e=>Y4 e)),?_,⟨ho.addr,ho.xk,ho.xd,ho.each⟩,?_,e3,?_,QS _⟩
  .rw [<-a0,FL]
  .show jq r.lines+(r.came++b).length<=V;rw [RI];omega
  show ([]:QF).length+1002 * (r.came++b).length<=_
  rw [RI,RR];omega)
 have d0:H (bs r.came++bs b=bs (r.came++b)):=K (aQ _ _);have a3:=K h.may;have HF:=K hf;have HN:=K c5;rw [a0];have f2:¬9223372036854775807 < r.came.length+b.length:=by omega
 clear h c2 a8 hC hx c6 hc ho a0 c5 hf hV;go_enter func36,ntmps36;go_wp2_with fail
 refine b3.out.mono ?_;rintro e w' ⟨rfl,rfl⟩;go_wp2_with fail
 rw [d0.out];go_loopw [10,11] (λov iv w'=>∃(k:Nat) (d:bf) (f a:QF),iv=I J (k:Int)/\ov= .string (bs a)/\H (Ol E p c T vC vDu vFa vH l n cb due xh w R0 V k d f a w')) (λ_ iv w'=>2 * pn w' cb - (Y9 iv).toNat)
 case atStart=>exact ⟨0,_,_,_,rfl,rfl,d9⟩
 case round=>
  obtain ⟨k,d,f,a,rfl,rfl,m⟩:=hrel;have hp:=m.out.post;obtain ⟨G,D,Y,Z,k1,d1,d2,d3,d4⟩:=hp;have Q:bB wr cb G D d:=d1.ok n _ (rX HN.out _);have e1:wr.cell? ⟨cb,1,N⟩=S (.string (bs d.came)):=Q.cell 1;have e2:wr.cell? ⟨cb,2,N⟩=S (YW d.closed):=Q.cell 2;have g1:=Q.frozen 1;have f8:=m.out.hk;have f5:=m.out.yU;have f4:=m.out.out;have e7:=aj d.came;have g7:=aj a;have a6:H (pn wr cb=d.came.length):=K (by unfold pn;rw [e1];exact e7);have b2:=K Q;have d5:=K d1;have d6:=K d2.out;have b4:=K d3;have b5:=K d4;obtain ⟨cl,a7⟩:∃b,d.closed=b:=⟨_,rfl⟩;rw [a7] at e2;have M:=K a7;clear Q d1 d2 d3 d4 a7
  have a2:H (R0=(d,f,a)->Pp E p c T vC vDu vFa vH l n cb due xh w R0 V wr):=K (λe=>by
   rw [e]
   exact ⟨m.out.post,m.out.rb,m.out.yU,m.out.len⟩)
  by_cases e5:d.came.length<=k+1
  .have c4:¬(k:Int)+1 < (d.came.length:Int):=by omega
   have HE:H (R0=(d,f,a)):=K (by rw [<-m.out.fold];exact Ko d f a e5);go_wp2_with fail
   go_ret2
   refine ⟨by rw [HE.out];rfl,?_⟩
   exact a2.out HE.out
  have c4:(k:Int)+1 < (d.came.length:Int):=by omega
  cases cl
  case true=>
   have HE:H (R0=(d,f,a)):=K (by rw [<-m.out.fold];exact Hp d f a k M.out);go_wp2_with fail
   go_ret2
   refine ⟨by rw [HE.out];rfl,?_⟩
   exact a2.out HE.out
  have a5:k+1 < d.came.length:=by omega
  have f7:k < (bs d.came).size:=by omega
  have f0:k+1 < (bs d.came).size:=by omega
  have a9:(bs d.came)[k]=d.came[k]:=ot d.came k (by omega);have b0:(bs d.came)[k+1]=d.came[k+1]:=ot d.came (k+1) (by omega);have b7:H (¬(d.came[k]=13/\d.came[k+1]=10)->Ol E p c T vC vDu vFa vH l n cb due xh w R0 V (k+1) d f a wr):=K (λe=>⟨m.out.post,by rw [<-Hq d f a a5 M.out e];exact m.out.fold,m.out.rb,m.out.yU,m.out.len,m.out.out,by omega⟩)
  by_cases o:d.came[k]=13
  .by_cases s:d.came[k+1]=10
   .rw [o] at a9;rw [s] at b0;obtain ⟨i,u⟩:∃x,d.came.drop (k+2)=x:=⟨_,rfl⟩;obtain ⟨q,t⟩:∃x,d.came.take k=x:=⟨_,rfl⟩;have g4:(bs d.came).extract 0 k=bs q:=by rw [bR,SY,t]
    have g5:(bs d.came).extract (k+2) d.came.length=bs i:=by rw [bR,QZ,u]
    have b1:i.length=d.came.length - (k+2):=by rw [<-u,List.length_drop]
    have f9:q.length=k:=by rw [<-t,Sm];omega
    obtain ⟨W2,a1⟩:=QE (wr.setCell ⟨cb,1,N⟩ (.string (bs i)));have S2:aA cb wr W2:=by rw [<-a1];exact (aA.refl _ _).setCell _
    have C2:bB W2 cb G D {d with came:=i}:=b2.out.turn S2 (by rw [<-a1];exact cP (j:=1) (v:= .string (bs i)) b2.out.xp rfl) rfl rfl;have c8:=rX HN.out (⟨cb,G,D,d⟩:ix);obtain ⟨t1,t2,t3⟩:=d5.out.turn c8 C2 (λg e=>e.elim Y4 (λe=>Y5 (Y4 e))) ((aC.same S2).mono (λ_ _ e=>Y4 e));simp only [List.set_set] at t1 t2;have o2:∀j,fo p vC Y Z (l.set n ⟨cb,G,D,{d with came:=i}⟩) j->fo p vC vDu vFa l j\/w.heap.size<=j:=λj e=>(t2 j e).elim (b4.out j) (λe=>Y5 (Rn b5.out.size e));have c0:aC (fo p vC vDu vFa l) w W2:=b5.out.trans t3 (λj hj e=>(b4.out j e).elim id (λe=>by omega))
    have a4:(due++List.replicate k1 T).length=(bn f).1.items.length:=by
     rw [RI,TQ];exact d6.out
    have c3:(xh++List.replicate k1 0).length=(due++List.replicate k1 T).length:=by
     rw [RI,RI,TQ,TQ,HF.out]
    have c7:Qg {d with came:=i}:=⟨m.out.rb.addr,m.out.rb.xk,m.out.rb.xd,m.out.rb.each,by show jq d.lines<=_;omega⟩
    have R:=m.out.len;have O:=Gc E W2 p c f T vC Y Z vH _ _ _ n ⟨cb,G,D,{d with came:=i}⟩ q t1 a4 c3 (rX HN.out _) c7 R hT (by omega);simp only at O;obtain ⟨z,ez⟩:=QE (cV c T f {d with came:=i} q);have c9:=KO a3.out T f R {d with came:=i} q;have X:=MN (T:=T) a3.out (r:={d with came:=i}) ⟨m.out.rb.addr,m.out.rb.xk,m.out.rb.xd,m.out.rb.each⟩ R q;have W:=oL c T f {d with came:=i} q;rw [ez] at O c9 X W;have C:=Ho (c:=c) (T:=T) d f a a5 M.out o s z (by rw [u,t];exact ez);rw [m.out.fold] at C
    have d7:H (∀w3,fA E p c T vC Y Z vH (l.set n ⟨cb,G,D,{d with came:=i}⟩) n cb (due++List.replicate k1 T) (xh++List.replicate k1 0) W2 z.1 z.2.1 w3->Ol E p c T vC vDu vFa vH l n cb due xh w R0 V 0 z.1 z.2.1 (a++z.2.2) w3/\pn w3 cb=d.came.length - (k+2)):=K (λw3 h3=>by
     have h4:=fA.then t1 o2 c0 h3;have U:z.1.came=i:=W;refine ⟨⟨h4,C.symm,X.1,?_,X.2.2,?_,QS _⟩,?_⟩
     .have:=X.2.1;simp only at this;rw [U];omega
     .rw [U,RI];omega
     rw [h4.came HN.out,U]
     exact b1)
    have O:=K O;have e0:=K a1;have g8:=aj z.2.2;have g0:¬9223372036854775807 < a.length+z.2.2.length:=by omega
    have d8:H (bs a++bs z.2.2=bs (a++z.2.2)):=K (aQ _ _);have f3:=b1;clear t1 t2 t3 o2 c0 a4 c3 c7 C X W ez C2 S2 c8 a1 u t c9 b1 o s;go_wp2_with fail
    rw [e0.out];refine O.out.mono ?_;rintro e w3 ⟨rfl,h3⟩;have b6:=K (d7.out w3 h3);clear h3;go_wp2_with fail
    rw [d8.out];exact ⟨⟨0,z.1,z.2.1,a++z.2.2,rfl,rfl,K b6.out.1⟩,by rw [a6.out,b6.out.2];simp [Y9];omega⟩
   have e8:¬((d.came[k+1].toNat:Int)=10):=λe=>s (UInt8.toNat_inj.1 (by show _=10;omega));rw [o] at a9;have P:=K (b7.out (λe=>s e.2));obtain ⟨y,ey⟩:=QE (d.came[k+1]);rw [ey] at b0 e8;clear ey s o;go_wp2_with fail
   exact ⟨⟨k+1,d,f,a,by go_num,rfl,P⟩,by rw [a6.out];simp [Y9];omega⟩
  have e9:¬((d.came[k].toNat:Int)=13):=λe=>o (UInt8.toNat_inj.1 (by show _=13;omega));have P:=K (b7.out (λe=>o e.1));obtain ⟨y,ey⟩:=QE (d.came[k]);rw [ey] at a9 e9;clear ey o b0;go_wp2_with fail
  exact ⟨⟨k+1,d,f,a,by go_num,rfl,P⟩,by rw [a6.out];simp [Y9];omega⟩
def Ef(w:QI)(e:Zb)(w':QI):Prop:=∃vx vw own,e=YX (YY #[YZ #[vx,vw],YW YT])/\fB 0 w' vx vw own/\(∀k,own k->w.heap.size<=k)/\Y6 w.heap.size w w'
theorem Ld(c:bF)(u x y z:QJ)(l:QF)(m:Int)(w:QI)(h:dD w c u x y z)(hz:lB c)(hr:qK c)(hl:l.length<=1048576)(hm:w.cell? ⟨0,0,N⟩=S (I J m))(r:dk c=F):Y8 Ys 11 #[YZ #[T c.host,u,x,y,I J c.most,I J c.size,z,I J c.xm,I J c.room],T (bs l)] w (Ef w):=by
 obtain ⟨b,d⟩:=QE ((w.alloc (YU #[T c.host,u,x,y,I J c.most,I J c.size,z,I J c.xm,I J c.room] 35)).alloc (YU #[YV N,YV N] 52));have W:Y6 w.heap.size w b:=by rw [<-d];exact ((QQ _ _).alloc (QR _) _).alloc (by simp) _
 have z0:b.heap.size=w.heap.size+2:=by rw [<-d];simp
 have X0:b.heap[w.heap.size]? =S (YU #[T c.host,u,x,y,I J c.most,I J c.size,z,I J c.xm,I J c.room] 35 (0,0)):=by rw [<-d];exact ae ((QQ _ _).alloc (QR _) _) (Q0 w _)
 have Y0:b.heap[w.heap.size+1]? =S (YU #[YV N,YV N] 52 (0,0)):=by
  rw [<-d];have:=Q0 (w.alloc (YU #[T c.host,u,x,y,I J c.most,I J c.size,z,I J c.xm,I J c.room] 35)) (YU #[YV N,YV N] 52);simpa using this
 have a9:=au hm;have V:=h.below W;have a1:=K (Ff c u x y z b V hr);have n:=K V;have B:=K W;have D:=K X0;have a7:=K Y0;have a5:=K d;have HM:=K hm;obtain ⟨aD,cD,eD⟩:=az h.1;obtain ⟨aN,cN,eN⟩:=az h.2.1;obtain ⟨aU,cU,eU⟩:=az h.2.2.1;obtain ⟨aW,cW,eW⟩:=az h.2.2.2;subst eD eN eU eW;have a:=K z0;clear h V W X0 Y0 d hm z0;go_enter func11,ntmps11;go_wp2_with fail
 rw [a5.out];refine a1.out.mono ?_;rintro e w1 ⟨rfl,o,O⟩;have a0:=K o;have C:=K O;have b1:=K o.size;obtain ⟨U,f⟩:=QE (w1.alloc (YU #[T c.host,L (S ⟨b.heap.size+1+1+1,0,N⟩) c.xf.length (c.xf.length+8),L (S ⟨b.heap.size+1+1+1+1,0,N⟩) c.xe.length (c.xe.length+8),L (S ⟨b.heap.size+1+1+1+1+1,0,N⟩) c.x9.length (c.x9.length+8),I J c.most,I J c.size,L (S ⟨b.heap.size+1+1+1+1+1+1,0,N⟩) c.waits.length (c.waits.length+8),I J c.xm,I J c.room] 35));have X:=QG f;have X1:=K (QH f);have b2:H (U.heap.size=w1.heap.size+1):=K (by rw [<-f];simp);have k:H (Y6 b.heap.size b U):=K (C.out.trans (X.mono C.out.size));have E:=K (a0.out.below X);have m1:U.cell? ⟨0,0,N⟩=S (I J m):=((B.out.trans (k.out.mono (by have:=a.out;omega))).cell (by exact a9)).trans HM.out;have a2:=K (Np c _ _ _ _ l m U (JB n.out E.out) hz hl m1);have a6:=K f;simp only [nB];clear o O f X m1;go_wp2_with fail
 rw [a6.out];refine a2.out.mono ?_;intro e w2 s;obtain ⟨P,g⟩:=s;have A:=K (k.out.trans (g.mono k.out.size));have G:=K (E.out.below g);have Z:=K (BP c _ _ _ _ b.heap.size b w2 n.out rfl A.out hr G.out.size G.out);obtain ⟨x0,x1,x2,x3,x4,x5,x6,x7,x8⟩:=J1 ((A.out.block _ (by have:=a.out;omega)).trans D.out);obtain ⟨y0,y1,y2,y3,y4,y5,y6,y7,y8⟩:=J1 (ae g X1.out);have b0:=K g;clear g
 have Q:dk c=F/\e=YX (YY #[YV N,I J 2]):=by
  rcases P with t | ⟨pp,t,_⟩
  .exact t
  rw [r] at t;cases t
 obtain ⟨j,rfl⟩:=Q;clear P;have a3:=K (λw9 t=>IX c (L aD c.xf.length cD) (L aN c.xe.length cN) (L aU c.x9.length cU) (L aW c.waits.length cW) l w9 t hz j);clear j;go_wp2_with fail
 refine Z.out.mono ?_;rintro e w3 ⟨rfl,p,a8⟩;clear x0 x1 x2 x3 x4 x5 x6 x7 x8 y0 y1 y2 y3 y4 y5 y6 y7 y8;obtain ⟨x0,x1,x2,x3,x4,x5,x6,x7,x8⟩:=J1 ((p.block _ (by have:=a.out;omega)).trans D.out);have i:=K p;clear p a8;go_wp2_with fail
 refine (a3.out w3 (n.out.below i.out)).mono ?_;rintro e w4 ⟨rfl,q⟩;have R:w4.heap[w.heap.size+1]? =S (YU #[YV N,YV N] 52 (0,0)):=ae q ((i.out.block _ (by have:=a.out;omega)).trans a7.out);obtain ⟨r0,r1⟩:=QM R;have f0:=RJ R 0;have f1:=RJ R 1;have Y:=K (q);have a4:=K R;clear x0 x1 x2 x3 x4 x5 x6 x7 x8 R q;go_wp2_with fail
 obtain ⟨W5,M⟩:=QE ((w4.setCell ⟨w.heap.size+1,0,N⟩ (YV N)).setCell ⟨w.heap.size+1,1,N⟩ (YV N));rw [M];obtain ⟨c0,c1,S5⟩:=oZ a4.out M;refine Ru (v:=YY #[YZ #[YV N,YV N],YW YT]) (by simp [results,results11,go_sem,c0,c1]) rfl ?_;refine ⟨_,_,λ_=>False,rfl,Y4 ⟨rfl,rfl,λ_ e=>e⟩,(λ_ e=>e.elim),?_⟩;exact ((B.out.trans (i.out.mono (by have:=a.out;omega))).trans (Y.out.mono (by have:=a.out;have:=i.out.size;omega))).trans (S5.below (by omega))
theorem IE(c:bF)(Z vN vU vW:QJ)(l:QF)(m:Int)(w:QI)(h:dD w c Z vN vU vW)(hz:lB c)(hr:qK c)(hl:l.length<=1048576)(hm:w.cell? ⟨0,0,N⟩=S (I J m))(s:gh w)(t:dk c=YT):Y8 Ys 11 #[YZ #[T c.host,Z,vN,vU,I J c.most,I J c.size,vW,I J c.xm,I J c.room],T (bs l)] w (Ef w):=by
 obtain ⟨a,j⟩:=QE ((w.alloc (YU #[T c.host,Z,vN,vU,I J c.most,I J c.size,vW,I J c.xm,I J c.room] 35)).alloc (YU #[YV N,YV N] 52));have B0:Y6 w.heap.size w a:=by rw [<-j];exact ((QQ _ _).alloc (QR _) _).alloc (by simp) _
 have z0:a.heap.size=w.heap.size+2:=by rw [<-j];simp
 have X0:a.heap[w.heap.size]? =S (YU #[T c.host,Z,vN,vU,I J c.most,I J c.size,vW,I J c.xm,I J c.room] 35 (0,0)):=by rw [<-j];exact ae ((QQ _ _).alloc (QR _) _) (Q0 w _)
 have Y0:a.heap[w.heap.size+1]? =S (YU #[YV N,YV N] 52 (0,0)):=by
  rw [<-j];have:=Q0 (w.alloc (YU #[T c.host,Z,vN,vU,I J c.most,I J c.size,vW,I J c.xm,I J c.room] 35)) (YU #[YV N,YV N] 52);simpa using this
 have e5:=au hm;have A0:=h.below B0;have d6:=K (Ff c Z vN vU vW a A0 hr);have V:=K A0;have B:=K B0;have a9:=K X0;have e4:=K Y0;have e1:=K j;have HM:=K hm;obtain ⟨aD,cD,eD⟩:=az h.1;obtain ⟨aN,cN,eN⟩:=az h.2.1;obtain ⟨aU,cU,eU⟩:=az h.2.2.1;obtain ⟨aW,cW,eW⟩:=az h.2.2.2;subst eD eN eU eW;have b:=K z0;clear h A0 B0 X0 Y0 j hm z0;go_enter func11,ntmps11;go_wp2_with fail
 rw [e1.out];refine d6.out.mono ?_;rintro e w1 ⟨rfl,W,c7⟩;have d4:=K W;have a0:=K c7;have G:=K W.size;obtain ⟨z,o⟩:=QE (w1.alloc (YU #[T c.host,L (S ⟨a.heap.size+1+1+1,0,N⟩) c.xf.length (c.xf.length+8),L (S ⟨a.heap.size+1+1+1+1,0,N⟩) c.xe.length (c.xe.length+8),L (S ⟨a.heap.size+1+1+1+1+1,0,N⟩) c.x9.length (c.x9.length+8),I J c.most,I J c.size,L (S ⟨a.heap.size+1+1+1+1+1+1,0,N⟩) c.waits.length (c.waits.length+8),I J c.xm,I J c.room] 35));have B1:=QG o;have X1:=K (QH o);have M:H (z.heap.size=w1.heap.size+1):=K (by rw [<-o];simp);have A:H (Y6 a.heap.size a z):=K (a0.out.trans (B1.mono a0.out.size));have b0:=K (d4.out.below B1);have m1:z.cell? ⟨0,0,N⟩=S (I J m):=((B.out.trans (A.out.mono (by have:=b.out;omega))).cell (by exact e5)).trans HM.out;have G1:gh z:=s.below (B.out.trans (A.out.mono (by have:=b.out;omega)));have d7:=K (Lc c _ _ _ _ l z (JB V.out b0.out) hz t G1 hl);have e3:=K o;simp only [nB];clear W c7 o B1 m1;go_wp2_with fail
 rw [e3.out];refine d7.out.mono ?_;intro e Q Y;obtain ⟨E,pp,pb,mb,q,vr,rfl,c5,c9,b6,c2,r⟩:=Y;have a6:=K c9;have i:=K (A.out.trans (r.mono A.out.size));have b1:=K (b0.out.below r);have d3:=K (BP c _ _ _ _ a.heap.size a Q V.out rfl i.out hr b1.out.size b1.out);obtain ⟨x0,x1,x2,x3,x4,x5,x6,x7,x8⟩:=J1 ((i.out.block _ (by have:=b.out;omega)).trans a9.out);obtain ⟨y0,y1,y2,y3,y4,y5,y6,y7,y8⟩:=J1 (ae r X1.out);have a1:=K r;clear r;have a8:=K c5;have a4:=K b6;have a5:=K c2;have d9:=K (λw9 h9=>Gf c (L aD c.xf.length cD) (L aN c.xe.length cN) (L aU c.x9.length cU) (L aW c.waits.length cW) l w9 h9 hz hr hl t);clear c5 b6 c2;go_wp2_with fail
 refine d3.out.mono ?_;rintro e w3 ⟨rfl,d,X⟩;clear x0 x1 x2 x3 x4 x5 x6 x7 x8 y0 y1 y2 y3 y4 y5 y6 y7 y8;obtain ⟨x0,x1,x2,x3,x4,x5,x6,x7,x8⟩:=J1 ((d.block _ (by have:=b.out;omega)).trans a9.out);have C:=K d
 have f2:w1.heap.size < Q.heap.size:=by
  have:=M.out;have:=a1.out.size;omega
 have C3:aC (λk=>a.heap.size<=k/\k < z.heap.size) Q w3:=by
  refine ⟨?_,λk hk hn=>?_,⟨d.os.trans i.out.os.symm,d.tape.trans i.out.tape.symm,d.output.trans i.out.output.symm⟩⟩
  .have h8:=X (Q.heap.size - 1) (by have:=G.out;omega) (by omega);rw [Array.getElem?_eq_getElem (show Q.heap.size - 1 < Q.heap.size by omega)] at h8;have:=aq h8;omega
  by_cases c8:k < a.heap.size
  .rw [d.block k c8,i.out.block k c8]
  exact X k (by have:=G.out;have:=M.out;omega) hk
 obtain ⟨c3,b2⟩:=a8.out.xt C3 (λk e y=>by
  rcases a4.out k e with e | e
  .have:=s.lt e;have:=B.out.size;omega
  omega) (λk e y=>by have:=a5.out k e;omega) (λk e=>by cases e)
 have a7:=K c3;have d0:=K b2;have d1:=K C3.size;clear c3 b2 C3;clear d X;go_wp2_with fail
 refine (d9.out w3 (V.out.below C.out)).mono ?_;rintro e w4 ⟨Ed,p,e8,e9,rfl,b5,U,b7,O⟩;have d2:=K b5;have f:=K U;have D:=K b7;have t4:w4.heap[w.heap.size+1]? =S (YU #[YV N,YV N] 52 (0,0)):=ae O ((C.out.block _ (by have:=b.out;omega)).trans e4.out);obtain ⟨r0,r1⟩:=QM t4;have f0:=RJ t4 0;have f1:=RJ t4 1;have a2:=K (O);have e0:=K t4;obtain ⟨c4,b3⟩:=a7.out.below O;have d8:=K c4;have a3:=K b3;clear x0 x1 x2 x3 x4 x5 x6 x7 x8 t4 O b5 U b7 c4 b3;go_wp2_with fail
 obtain ⟨W5,c6⟩:=QE ((w4.setCell ⟨w.heap.size+1,0,N⟩ (YV (S ⟨pp,0,N⟩))).setCell ⟨w.heap.size+1,1,N⟩ (YV (S ⟨p,0,N⟩)));rw [c6];obtain ⟨c0,c1,S5⟩:=oZ e0.out c6;refine Ru (v:=YY #[YZ #[YV (S ⟨pp,0,N⟩),YV (S ⟨p,0,N⟩)],YW YT]) (by simp [results,results11,go_sem,c0,c1]) rfl ?_;have b4:aC (λk=>k=w.heap.size+1) w4 W5:=aC.same S5;have z5:w4.heap.size=W5.heap.size:=S5.1.symm;have f3:w3.heap.size<=w4.heap.size:=a2.out.size;have f4:a.heap.size=w.heap.size+2:=b.out;have f5:a.heap.size+7<=Q.heap.size:=by have:=G.out;have:=M.out;have:=a1.out.size;omega
 have o:a.heap.size < z.heap.size:=by have:=G.out;have:=M.out;omega
 have R:∀k,E k->mM k\/z.heap.size<=k:=a4.out;have gl:∀k,mM k->k < w.heap.size:=λk e=>s.lt e
 have eO:∀k,E k->k≠w.heap.size+1:=λk e x=>by
  rcases R k e with e | e
  .have:=gl k e;omega
  omega
 have bO:∀k,aH w4 pb mb q vr (bn l).1 k->z.heap.size<=k/\k < Q.heap.size:=λk e=>by
  have e2:=d0.out k (a3.out k e);exact ⟨a5.out k e2,aH.lt a8.out.xx e2⟩
 obtain ⟨p5,q5⟩:=d8.out.xt b4 eO (λk e x=>by have:=(bO k e).1;omega) (λk e=>by cases e);have f6:=d1.out;have d5:=d2.out.xt b4 (λk e x=>by have:=f.out k e;omega) (λk e x=>by have:=D.out k e;omega);have e7:=kr l;have P:=zE l;have hM:eh E pp pb mb c W5 q vr (bn l).1 (l.take (bn l).2) (L N 0 0) []:=⟨p5,λn x e=>by simp at e,λn m x y _ e=>by simp at e,QS _,e7.2.2,by rw [Sm];omega,by rw [Sm];omega⟩
 have u:∀k,ie W5 pb mb q vr (bn l).1 (L N 0 0) [] k->z.heap.size<=k/\k < Q.heap.size:=λk e=>by
  rcases e with e | e | ⟨n,x,e,_⟩
  .exact bO k (q5 k e)
  .cases e
  simp at e
 have e6:KS (bn l).1 (bn l).1.time (l.take (bn l).2):=⟨by rw [P],rfl,by rw [P];exact QR _,by rw [P,Sm];omega⟩
 refine ⟨_,_,λk=>(E k/\¬mM k)\/ie W5 pb mb q vr (bn l).1 (L N 0 0) [] k\/Ed k\/fo p (L N 0 0) e8 e9 [] k,rfl,Ej.zb ⟨hM,d5,e6,a6.out,⟨rfl,λn x e=>by simp at e,λn x e=>by simp at e⟩,by rw [TQ,P],by rw [TQ,TQ],λk e=>(Classical.em (mM k)).imp id (λn=>Y4 ⟨e,n⟩),λk e=>Y5 (Y4 e),λk e=>Y5 (Y5 (Y4 e)),λk e=>Y5 (Y5 (Y5 e)),λk e=>?_,λk e g=>?_,λk e y=>?_⟩,λk e=>?_,?_⟩
 .rcases e with e | e | e | e
  .exact p5.lt k e.1
  .exact hM.ya e
  .exact d5.lt k e
  exact d5.yW e
 .have:=gl k g
  rcases e with e | e | e | e
  .exact e.2 g
  .have:=(u k e).1;omega
  .have:=f.out k e;omega
  have:=D.out k e;omega
 .have h1:k < w3.heap.size:=by
   rcases e with e | e
   .exact a7.out.lt k e
   have:=(u k e).2;omega
  rcases y with y | y
  .have:=f.out k y;omega
  have:=D.out k y;omega
 .rcases e with e | e | e | e
  .rcases R k e.1 with g | g
   .exact (e.2 g).elim
   omega
  .have:=(u k e).1;omega
  .have:=f.out k e;omega
  have:=D.out k e;omega
 exact ((B.out.trans (C.out.mono (by have:=b.out;omega))).trans (a2.out.mono (by have:=b.out;have:=C.out.size;omega))).trans (S5.below (by omega))
theorem zv(c:bF)(d e f g:QJ)(l:QF)(m:Int)(w:QI)(h:dD w c d e f g)(n:lB c)(k:qK c)(i:l.length<=1048576)(j:w.cell? ⟨0,0,N⟩=S (I J m))(b:gh w):Y8 Ys 11 #[YZ #[T c.host,d,e,f,I J c.most,I J c.size,g,I J c.xm,I J c.room],T (bs l)] w (Ef w):=by
 cases a:dk c
 case false=>exact Ld c d e f g l m w h n k i j a
 exact IE c d e f g l m w h n k i j b a
theorem IY(V:Nat)(own:Nat->Prop)(vx Q:QJ)(g p n:Int)(xy:Bool)(b:QF)(c:bF)(W X Y Z:QJ)(m:Int)(w:QI)(h:fB V w vx Q own)(U:dD w c W X Y Z)(hz:lB c)(hr:qK c)(hl:b.length<=1048576)(hm:w.cell? ⟨0,0,N⟩=S (I J m))(hn: -9223372036854775808<=n/\n<=9223372036854775807)(z:gh w):Y8 Ys 16 #[YZ #[vx,Q],YZ (aP g p n xy b c W X Y Z)] w (Ef w):=by
 obtain ⟨R,r⟩:=QE (((w.alloc (YU #[vx,Q] 52)).alloc (YU (aP g p n xy b c W X Y Z) 49)).alloc (YU #[YV N,YV N] 52));have B0:Y6 w.heap.size w R:=by rw [<-r];exact (((QQ _ _).alloc (QR _) _).alloc (by simp) _).alloc (by simp;omega) _
 have X0:R.heap[w.heap.size]? =S (YU #[vx,Q] 52 (0,0)):=by rw [<-r];exact ae ((QQ _ _).alloc (QR _) _) (ae ((QQ _ _).alloc (QR _) _) (Q0 w _))
 have Y0:R.heap[w.heap.size+1]? =S (YU (aP g p n xy b c W X Y Z) 49 (0,0)):=by
  rw [<-r];refine ae ((QQ _ _).alloc (QR _) _) ?_;have:=Q0 (w.alloc (YU #[vx,Q] 52)) (YU (aP g p n xy b c W X Y Z) 49);simpa using this
 have Z0:R.heap[w.heap.size+2]? =S (YU #[YV N,YV N] 52 (0,0)):=by
  rw [<-r];have:=Q0 ((w.alloc (YU #[vx,Q] 52)).alloc (YU (aP g p n xy b c W X Y Z) 49)) (YU #[YV N,YV N] 52);simpa using this
 have a1:R.cell? ⟨w.heap.size,1,N⟩=S Q:=Q3 X0 _;have b2:=K (h.below B0);have a0:=K (U.below B0);have t:=K B0;have a5:=K Y0;have a6:=K Z0;have a4:=K r;have m0:R.cell? ⟨0,0,N⟩=S (I J m):=(B0.cell (by exact au hm)).trans hm;have C:=K m0;obtain ⟨aD,cD,eD⟩:=az U.1;obtain ⟨aN,cN,eN⟩:=az U.2.1;obtain ⟨aU,cU,eU⟩:=az U.2.2.1;obtain ⟨aW,cW,eW⟩:=az U.2.2.2;subst eD eN eU eW;clear h U B0 X0 Y0 Z0 r hm m0;go_enter func16,ntmps16;simp only [aP];simp only [aP] at a4;go_wp2_with fail
 rw [a4.out];have a2:=K (z.below t.out)
 rcases b2.out with ⟨rfl,rfl,_⟩ | ⟨Ep,Ed,pp,pb,mb,q,c',qq,vr,S',xb,vs,ls,d,vC,c5,c6,vH,lr,b6,xh,rfl,rfl,P⟩
 .refine (nZ _).mono ?_;rintro e D ⟨rfl,f⟩;obtain ⟨o0,o1,o2,o3,o4,o5,o6,o7,o8,o9,a7,a8,a9,b0⟩:=jn (ae f a5.out);have M:=K (zv c _ _ _ _ b m D (a0.out.below f) hz hr hl ((f.cell (by exact au C.out)).trans C.out) (a2.out.below f));have u:=K (ae f a6.out);have j:=K (t.out.trans (f.mono t.out.size));clear f;go_wp2_with fail
  refine M.out.mono ?_;rintro e E ⟨b5,b4,B,rfl,l,A,o⟩;obtain ⟨x2,y2,rfl,rfl⟩:=l.ptr;have s:=ae o u.out;have r0:E.cell? ⟨w.heap.size+2,0,N⟩=S (YV N):=Q3 s _;have r1:E.cell? ⟨w.heap.size+2,1,N⟩=S (YV N):=Q3 s _;have f0:=RJ s 0;have f1:=RJ s 1;have i:=K A;have O:=K l;have H2:=K s;have G:=K (j.out.trans (o.mono j.out.size));clear l s o o0 o1 o2 o3 o4 o5 o6 o7 o8 o9 a7 a8 a9 b0;go_wp2_with fail
  obtain ⟨W5,y⟩:=QE ((E.setCell ⟨w.heap.size+2,0,N⟩ (YV x2)).setCell ⟨w.heap.size+2,1,N⟩ (YV y2));rw [y];obtain ⟨c0,c1,S5⟩:=oZ H2.out y;refine Ru (v:=YY #[YZ #[YV x2,YV y2],YW YT]) (by simp [results,results16,go_sem,c0,c1]) rfl ?_;exact ⟨_,_,B,rfl,O.out.xt (aC.same S5) (λk e x=>by have:=i.out k e;have:=aq u.out;omega) (λk e x=>by have:=z.lt e;omega),λk e=>by have:=i.out k e;have:=j.out.size;omega,G.out.trans (S5.below (by omega))⟩
 have HP:=K P;have c3:=P.post.xo.2.2;clear P;refine (nY q _ _ HP.out.doc.has).mono ?_;rintro e D ⟨rfl,f⟩;obtain ⟨a,eK⟩:=QE xb;rw [eK];have b7:a.length<=1048576:=by rw [<-eK];omega
 have sK:=aj a;have b3:=rK n (show 0 < a.length+1 by omega);have a3:=K (oU n (a.length+1) D.drew hn (by omega) (by omega));obtain ⟨k,ek⟩:=QE (oT n (a.length+1));rw [ek] at a3 b3;have c2:k<=a.length:=by omega
 have b1:H ((bs a).extract 0 k=bs (a.take k)):=K (by rw [bR,SY]);have c4:IntKind.i64.wrap ((a.length:Int)+1)=(a.length:Int)+1:=by rw [QY];omega
 have Y1:D.drew.heap[w.heap.size+1]? =S (YU (aP g p n xy b c (L aD c.xf.length cD) (L aN c.xe.length cN) (L aU c.x9.length cU) (L aW c.waits.length cW)) 49 (0,0)):=ae f a5.out;obtain ⟨o0,o1,o2,o3,o4,o5,o6,o7,o8,o9,a7,a8,a9,b0⟩:=jn Y1;have M:=K (zv c _ _ _ _ (a.take k) m D.drew ((a0.out.below f).below ((QQ _ _).drew)) hz hr (by rw [Sm];omega) (show D.cell? _=_ from (f.cell (by exact au C.out)).trans C.out) ((a2.out.below f).below ((QQ _ _).drew)));have u:H (D.drew.heap[w.heap.size+2]? =S (YU #[YV N,YV N] 52 (0,0))):=K (ae f a6.out);have j:H (Y6 w.heap.size w D.drew):=K ((t.out.trans (f.mono t.out.size)).drew);clear f Y1 ek eK;go_wp2_with fail
 go_region_law (first
  | (go_simp;go_at_call 12;refine a3.out.mono ?_;rintro e E ⟨rfl,rfl⟩)
  | (go_simp;go_at_call 11;rw [b1.out];refine M.out.mono ?_;rintro e E ⟨b5,b4,B,rfl,l,A,o⟩;obtain ⟨x2,y2,rfl,rfl⟩:=l.ptr;have s:=ae o u.out;have r0:E.cell? ⟨w.heap.size+2,0,N⟩=S (YV N):=(Q3 s _);have r1:E.cell? ⟨w.heap.size+2,1,N⟩=S (YV N):=(Q3 s _);have f0:=RJ s 0;have f1:=RJ s 1;have i:=K A;have O:=K l;have H2:=K s;have G:=K (j.out.trans (o.mono j.out.size));clear l s o))
 all_goals
  go_wp2_with fail
  obtain ⟨W5,y⟩:=QE ((E.setCell ⟨w.heap.size+2,0,N⟩ (YV x2)).setCell ⟨w.heap.size+2,1,N⟩ (YV y2));rw [y];obtain ⟨c0,c1,S5⟩:=oZ H2.out y;refine Ru (v:=YY #[YZ #[YV x2,YV y2],YW YT]) (by simp [results,results16,go_sem,c0,c1]) rfl ?_;exact ⟨_,_,B,rfl,O.out.xt (aC.same S5) (λk e x=>by have:=i.out k e;have:=aq u.out;omega) (λk e x=>by have:=z.lt e;omega),λk e=>by have:=i.out k e;have:=j.out.size;omega,G.out.trans (S5.below (by omega))⟩
theorem qz(V:Nat)(vx vw:QJ)(own:Nat->Prop)(f p n:Int)(v:Bool)(b:QF)(c:bF)(C D E G:QJ)(w:QI)(h:fB V w vx vw own)(hn: -9223372036854775808<=n/\n<=9223372036854775807)(Z:f=5\/f=6\/f=7):Y8 Ys 34 #[YZ #[vx,vw],YZ (aP f p n v b c C D E G)] w λe k=>∃m:Int,e=YX (I J m)/\Y6 w.heap.size w k:=by
 obtain ⟨o,j⟩:=QE ((w.alloc (YU #[vx,vw] 52)).alloc (YU (aP f p n v b c C D E G) 49));have M:Y6 w.heap.size w o:=by rw [<-j];exact ((QQ _ _).alloc (QR _) _).alloc (by simp) _
 have P:o.heap[w.heap.size]? =S (YU #[vx,vw] 52 (0,0)):=by rw [<-j];exact ae ((QQ _ _).alloc (QR _) _) (Q0 w _)
 have B:o.heap[w.heap.size+1]? =S (YU (aP f p n v b c C D E G) 49 (0,0)):=by
  rw [<-j];have:=Q0 (w.alloc (YU #[vx,vw] 52)) (YU (aP f p n v b c C D E G) 49);simpa using this
 have Q:o.cell? ⟨w.heap.size,1,N⟩=S vw:=Q3 P _;have o0:o.cell? ⟨w.heap.size+1,0,N⟩=S (I J f):=Q3 B _;have X:o.cell? ⟨w.heap.size+1,2,N⟩=S (I J n):=Q3 B _;have o3:o.cell? ⟨w.heap.size+1,3,N⟩=S (YW v):=Q3 B _;have O:=K (h.below M);have i:=K M;have g:=K j;simp only [aP] at g;clear h M P B j
 cases v
 case true=>
  go_enter func34,ntmps34;simp only [aP];go_wp2_with fail
  rw [g.out];go_wp2_with fail
  go_ret;exact ⟨n,rfl,i.out⟩
 rcases O.out with ⟨rfl,rfl,_⟩ | ⟨Ep,Ed,pp,pb,mb,q,c',qq,vr,S',xb,vs,l,d,vC,a3,a4,vH,u,Y,xh,rfl,rfl,z⟩
 .go_enter func34,ntmps34;simp only [aP];go_wp2_with fail
  rw [g.out];go_wp2_with fail
  go_ret;exact ⟨n,rfl,i.out⟩
 obtain ⟨A,U,r,_⟩:=z.doc.post;have t:o.cell? ⟨q,11,N⟩=S vC:=by rw [Q3 U];exact r
 obtain ⟨a,x,R⟩:=az (bq z.doc.row);rw [R] at t;have a0:u.length<=100:=by rw [<-z.xU.len];exact z.post.len
 have s:=K (λW=>oU n (u.length+1) W hn (by omega) (by omega));obtain ⟨pk,y⟩:=QE (oT n (u.length+1));rw [y] at s;have a2:IntKind.i64.wrap ((u.length:Int)+1)=(u.length:Int)+1:=by rw [QY];omega
 clear z U r R y
 rcases Z with rfl | rfl | rfl
 .go_enter func34,ntmps34;simp only [aP];go_wp2_with fail
  rw [g.out];go_wp2_with fail
  go_ret;exact ⟨n,rfl,i.out⟩
 .go_enter func34,ntmps34;simp only [aP];go_wp2_with fail
  rw [g.out];go_wp2_with fail
  go_region_held3 (λk=>k.cell? ⟨w.heap.size,1,N⟩=S (YV (S ⟨q,0,N⟩))/\k.cell? ⟨w.heap.size+1,2,N⟩=S (I J n)/\k.cell? ⟨q,11,N⟩=S (L a u.length x))
   (exact ⟨Q,X,t⟩)
   (first | (go_at_call 12;refine (s.out _).mono ?_;rintro e w2 ⟨rfl,rfl⟩))
  go_wp2_with fail
  go_ret;exact ⟨_,rfl,i.out.drew⟩
 go_enter func34,ntmps34;simp only [aP];go_wp2_with fail
 rw [g.out];go_wp2_with fail
 go_region_held3 (λk=>k.cell? ⟨w.heap.size,1,N⟩=S (YV (S ⟨q,0,N⟩))/\k.cell? ⟨w.heap.size+1,2,N⟩=S (I J n)/\k.cell? ⟨q,11,N⟩=S (L a u.length x))
  (exact ⟨Q,X,t⟩)
  (first | (go_at_call 12;refine (s.out _).mono ?_;rintro e w2 ⟨rfl,rfl⟩))
 go_wp2_with fail
 go_ret;exact ⟨_,rfl,i.out.drew⟩
def fm(V:Nat)(vx vw:QJ)(own:Nat->Prop)(w:QI)(e:Zb)(w':QI):Prop:=
 e=YX (YW YT)/\∃own',fB V w' vx vw own'/\(∀k,own' k->own k\/w.heap.size<=k)/\aC own w w'
section
variable {V V':Nat} {vx vw:QJ} {own:Nat->Prop} {w w0 w1 w2:QI} {e:Zb}
theorem fm.still(h:fB V w vx vw own)(b:V<=V')(a:Y6 w.heap.size w w1)(c:e=YX (YW YT)):fm V' vx vw own w e w1:=
 ⟨c,own,(h.mono b).below a,λ_ e=>Y4 e,aC.below a⟩
theorem fm.made{a:Nat->Prop}(c:Y6 w.heap.size w w0)(h:fB V w1 vx vw a)(g:∀k,a k->own k\/w0.heap.size<=k)(d:aC own w0 w1)(b:Y6 w1.heap.size w1 w2)(f:e=YX (YW YT)):fm V vx vw own w e w2:=
 ⟨f,a,h.below b,λk e=>(g k e).imp id (Rn c.size),((aC.below c).trans d (λ_ _ e=>e)).trans (aC.below b:aC (λ_=>False) w1 w2) (λ_ _ e=>e.elim)⟩
end
theorem Bl(V:Nat)(vx vw:QJ)(own:Nat->Prop)(p n:Int)(X:Bool)(a:QF)(c:bF)(Q R U W:QJ)(w:QI)(h:fB V w vx vw own)(hn: -9223372036854775808<=n/\n<=9223372036854775807):Y8 Ys 14 #[YZ #[vx,vw],YZ (aP 5 p n X a c Q R U W)] w (fm V vx vw own w):=by
 obtain ⟨Y,g⟩:=QE ((w.alloc (YU #[vx,vw] 52)).alloc (YU (aP 5 p n X a c Q R U W) 49));have B0:Y6 w.heap.size w Y:=by rw [<-g];exact ((QQ _ _).alloc (QR _) _).alloc (by simp) _
 have X0:Y.heap[w.heap.size]? =S (YU #[vx,vw] 52 (0,0)):=by rw [<-g];exact ae ((QQ _ _).alloc (QR _) _) (Q0 w _)
 have Y0:Y.heap[w.heap.size+1]? =S (YU (aP 5 p n X a c Q R U W) 49 (0,0)):=by
  rw [<-g];have:=Q0 (w.alloc (YU #[vx,vw] 52)) (YU (aP 5 p n X a c Q R U W) 49);simpa using this
 obtain ⟨o0,o1,o2,o3,o4,o5,o6,o7,o8,o9,b5,b6,b7,c0⟩:=jn Y0;obtain ⟨a0,a1⟩:=QM X0;have HT:=K h;have z:=K (qz V vx vw own 5 p n X a c Q R U W Y (h.below B0) hn (Y4 rfl));have D:=K B0;have G:=K X0;have M:=K Y0;have E:=K g;simp only [aP] at E z;clear h B0 X0 Y0 g;go_enter func14,XH;simp only [aP];go_wp2_with fail
 rw [E.out];go_wp2_with fail
 refine z.out.mono ?_;rintro e w1 ⟨m,rfl,s⟩;have B1:=D.out.trans (s.mono D.out.size);have Z:=ae s G.out;have Y1:=ae s M.out;have u0:w1.cell? ⟨w.heap.size+1,0,N⟩=S (I J 5):=Q3 Y1 _;have u4:w1.cell? ⟨w.heap.size+1,4,N⟩=S (T (bs a)):=Q3 Y1 _;have x0:w1.cell? ⟨w.heap.size,0,N⟩=S vx:=Q3 Z _;have x1:w1.cell? ⟨w.heap.size,1,N⟩=S vw:=Q3 Z _;have a9:=K (HT.out.below B1);have v:=K B1;have b0:=K Z;have c3:=K Y1;have a5:H (∀k,own k->k < w.heap.size):=K HT.out.lt;clear s B1 Z Y1 z o0 o1 o2 o3 o4 o5 o6 o7 o8 o9 b5 b6 b7 c0 a0 a1 G M
 rcases a9.out with ⟨rfl,rfl,_⟩ | ⟨Ep,Ed,pp,pb,mb,p',C,q,vr,S',xb,vs,l,b,vC,c1,c2,vH,lr,b3,xh,rfl,rfl,hT⟩
 .go_wp2_with fail
  refine (Ax w1 m).mono ?_;rintro e w2 ⟨rfl,rfl⟩;go_wp2_with fail
  refine (zL w1 m).mono ?_;rintro e w3 ⟨rfl,rfl⟩;have t1:(({data:=#[]}:QL).toList == ({data:=#[]}:QL).toList)=YT:=by simp
  go_wp2_with fail
  go_ret;exact fm.still HT.out (QR _) v.out rfl
 have d:=K hT;clear hT
 by_cases r:0<=m/\m<=4294967295/\l.length < 100
 .have o:=K (Bz d.out.post m r.1 r.2.1 r.2.2);go_wp2_with fail
  refine o.out.mono ?_;rintro e w2 ⟨rfl,c5,sb,ch,A,k1,k2,k3⟩;have D2:=d.out.half k3;have u:∀k,(k=pp\/ie w1 pb mb q vr S' vs l k)->own k:=λk e=>e.elim (λe=>by rw [e];exact (d.out.m1 pp d.out.post.post.xI).elim (λe=>(d.out.post.post.yx e).elim) id) (d.out.m2 k);have X2:=k3.some_ b0.out (λe=>by have:=a5.out _ (u _ e);omega);have x2:w2.cell? ⟨w.heap.size,1,N⟩=S (YV (S ⟨p',0,N⟩)):=Q3 X2 _;have i:=d.out.xU.len;have f:=zK Ed w2 p' C xb b vC c1 c2 vH lr b3 xh m D2 r.1 r.2.1 (by omega);rw [<-i] at f;have f:=K f;have a2:=K k1;have a3:=K k2;have a4:=K k3;have y:=K i;clear k1 k2 k3 D2 u X2 i o;go_wp2_with fail
  refine f.out.mono ?_;rintro e w3 ⟨rfl,cb,c4,r1,r2,r3⟩;have a6:=K r1;have a7:=K r2;have a8:=K r3;clear r1 r2 r3;have t1:((bs (lK C)).toList == (bs (lK C)).toList)=YT:=by simp
  go_wp2_with fail
  go_ret
  have P:mo C V (l++[S ⟨sb,ch,A,L N 0 0,kV C m⟩]) (lr++[⟨cb,L N 0 0,L N 0 0,AL m⟩]):=by
   refine ⟨by rw [RI,RI,y.out];rfl,λj x B=>?_,λj x B=>?_⟩
   .rcases nN B with ⟨O,rfl⟩ | ⟨O,B⟩
    .refine Y5 ⟨rfl,⟨sb,ch,A,L N 0 0,kV C m⟩,?_,⟨rfl,rfl,rfl,rfl,⟨rfl,rfl⟩⟩,rfl,Fu⟩;rw [O, <-y.out,Se (QR _),Te];rfl
    have b4:j < l.length:=by rw [y.out];exact O
    rw [Sc b4];exact d.out.xU.one j x B
   rcases nN B with ⟨O,rfl⟩ | ⟨O,B⟩
   .exact ⟨⟨r.1,QS _,QS _,(λt ht=>by cases ht)⟩,QS _⟩
   exact d.out.xU.rb j x B
  obtain ⟨b1,b2⟩:=d.out.both a2.out a3.out a4.out a6.out a7.out a8.out d.out.ks d.out.ok P d.out.dl d.out.fl;exact fm.made v.out b1 (λk e=>e.imp id (λe=>e.1)) b2 (QQ _ _) rfl
 have o:=K (CV d.out.post m r);have f:=K (AY d.out.doc (by rw [<-d.out.xU.len];exact d.out.post.len) m (by rw [<-d.out.xU.len];exact r));clear r;go_wp2_with fail
 refine o.out.mono ?_;rintro e w2 ⟨rfl,rfl⟩;go_wp2_with fail
 refine f.out.mono ?_;rintro e w3 ⟨rfl,rfl⟩;have t1:(({data:=#[]}:QL).toList == ({data:=#[]}:QL).toList)=YT:=by simp
 go_wp2_with fail
 go_ret;exact fm.still HT.out (QR _) v.out rfl
theorem mo.open{c:bF}{V:Nat}{l:List (Option gz)}{b:List ix}(h:mo c V l b)(m:Int):(∃(k:Nat) (x:ix) (y:gz),m=(k:Int)/\b[k]? =S x/\x.r.closed=F/\l[k]? =S (S y)/\lX c y.s x.r/\y.s.wait=fF x.r.came/\wW x.r.came)\/(kW l m=N/\jX b m=N):=by
 by_cases a:0<=m
 .obtain ⟨k,rfl⟩:∃k:Nat,m=(k:Int):=⟨m.toNat,by omega⟩
  by_cases f:k < b.length
  .obtain ⟨x,e⟩:∃x,b[k]? =S x:=⟨_,Re f⟩
   rcases h.one k x e with ⟨d,g⟩ | ⟨d,y,i,r⟩
   .refine Y5 ⟨?_,?_⟩
    .unfold kW;rw [if_pos a,St,g];rfl
    unfold jX;rw [if_pos a,St,e];simp only;rw [d];rfl
   exact Y4 ⟨k,x,y,rfl,e,d,i,r⟩
  refine Y5 ⟨?_,?_⟩
  .unfold kW;rw [if_pos a,St,Sg (by rw [h.len];omega)];rfl
  unfold jX;rw [if_pos a,St,Sg (by omega)]
 refine Y5 ⟨?_,?_⟩
 .unfold kW;rw [if_neg a]
 unfold jX;rw [if_neg a]
theorem Gz(V:Nat)(u t:QJ)(own:Nat->Prop)(p n:Int)(Y:Bool)(a:QF)(c:bF)(R U W X:QJ)(w:QI)(h:fB V w u t own)(hn: -9223372036854775808<=n/\n<=9223372036854775807):Y8 Ys 14 #[YZ #[u,t],YZ (aP 7 p n Y a c R U W X)] w (fm V u t own w):=by
 obtain ⟨Z,f⟩:=QE ((w.alloc (YU #[u,t] 52)).alloc (YU (aP 7 p n Y a c R U W X) 49));have B0:Y6 w.heap.size w Z:=by rw [<-f];exact ((QQ _ _).alloc (QR _) _).alloc (by simp) _
 have X0:Z.heap[w.heap.size]? =S (YU #[u,t] 52 (0,0)):=by rw [<-f];exact ae ((QQ _ _).alloc (QR _) _) (Q0 w _)
 have Y0:Z.heap[w.heap.size+1]? =S (YU (aP 7 p n Y a c R U W X) 49 (0,0)):=by
  rw [<-f];have:=Q0 (w.alloc (YU #[u,t] 52)) (YU (aP 7 p n Y a c R U W X) 49);simpa using this
 obtain ⟨o0,o1,o2,o3,o4,o5,o6,o7,o8,o9,b6,b7,c0,c1⟩:=jn Y0;obtain ⟨a0,a1⟩:=QM X0;have HT:=K h;have B:=K (qz V u t own 7 p n Y a c R U W X Z (h.below B0) hn (Y5 (Y5 rfl)));have D:=K B0;have G:=K X0;have M:=K Y0;have E:=K f;simp only [aP] at E B;clear h B0 X0 Y0 f;go_enter func14,XH;simp only [aP];go_wp2_with fail
 rw [E.out];go_wp2_with fail
 refine B.out.mono ?_;rintro e r ⟨m,rfl,i⟩;have B1:=D.out.trans (i.mono D.out.size);have X1:=ae i G.out;have Y1:=ae i M.out;have u0:r.cell? ⟨w.heap.size+1,0,N⟩=S (I J 7):=Q3 Y1 _;have u4:r.cell? ⟨w.heap.size+1,4,N⟩=S (T (bs a)):=Q3 Y1 _;have x0:r.cell? ⟨w.heap.size,0,N⟩=S u:=Q3 X1 _;have x1:r.cell? ⟨w.heap.size,1,N⟩=S t:=Q3 X1 _;have a9:=K (HT.out.below B1);have v:=K B1;have b0:=K X1;have c2:=K Y1;have a5:H (∀k,own k->k < w.heap.size):=K HT.out.lt;clear i B1 X1 Y1 B o0 o1 o2 o3 o4 o5 o6 o7 o8 o9 b6 b7 c0 c1 a0 a1 G M
 rcases a9.out with ⟨rfl,rfl,_⟩ | ⟨Ep,Ed,pp,pb,mb,p',c',q,vr,S',xb,vs,l,b,vC,c4,c5,vH,lr,c3,xh,rfl,rfl,hT⟩
 .go_wp2_with fail
  refine (Ez r m).mono ?_;rintro e w2 ⟨rfl,rfl⟩;go_wp2_with fail
  refine (DF r m).mono ?_;rintro e w3 ⟨rfl,rfl⟩;go_wp2_with fail
  go_ret;exact fm.still HT.out (QR _) v.out rfl
 have d:=K hT;clear hT
 rcases d.out.xU.open m with ⟨k,x,y,rfl,hx,P,hy,hrel⟩ | ⟨h1,h2⟩
 .have g:=K (CS d.out.post k hy);go_wp2_with fail
  refine g.out.mono ?_;rintro e w2 ⟨rfl,k1,k2,k3⟩;have o:aC (λk=>k=pp\/ie r pb mb q vr S' vs l k) r w2:=k3.mono (λ_ _ e=>Y5 e);have D2:=d.out.half o;have s:∀k,(k=pp\/ie r pb mb q vr S' vs l k)->own k:=λk e=>e.elim (λe=>by rw [e];exact (d.out.m1 pp d.out.post.post.xI).elim (λe=>(d.out.post.post.yx e).elim) id) (d.out.m2 k);have X2:=o.some_ b0.out (λe=>by have:=a5.out _ (s _ e);omega);have x2:w2.cell? ⟨w.heap.size,1,N⟩=S (YV (S ⟨p',0,N⟩)):=Q3 X2 _;have A:=K (DG D2 (by rw [<-d.out.xU.len];exact d.out.post.len) k x hx P);have a2:=K k1;have a3:=K k2;have a4:=K o;have b3:=K hx;have b4:=K hy;clear k1 k2 k3 o D2 s X2 g hx hy P hrel;go_wp2_with fail
  refine A.out.mono ?_;rintro e w3 ⟨rfl,r1,r2,r3⟩;have a6:=K r1;have a7:=K r2;have a8:=K r3;clear r1 r2 r3;go_wp2_with fail
  go_ret;have b5:k < l.length:=(RT.1 b4.out).1
  have Q:mo c' V (l.set k N) (lr.set k ⟨x.cb,x.vT,x.vL,{x.r with closed:=YT}⟩):=by
   refine ⟨by rw [Q4,Q4];exact d.out.xU.len,λj z C=>?_,λj z C=>?_⟩
   .rcases lp C with ⟨O,rfl⟩ | ⟨O,C⟩
    .exact Y4 ⟨rfl,by rw [O];exact RZ b5⟩
    rw [R6 (Ne.symm O)];exact d.out.xU.one j z C
   rcases lp C with ⟨O,rfl⟩ | ⟨O,C⟩
   .have:=d.out.xU.rb k x b3.out;exact ⟨⟨this.1.addr,this.1.xk,this.1.xd,this.1.each⟩,this.2⟩
   exact d.out.xU.rb j z C
  obtain ⟨b1,b2⟩:=d.out.both a2.out (λj e=>Y4 (a3.out j e)) a4.out a6.out a7.out a8.out d.out.ks d.out.ok Q d.out.dl d.out.fl;exact fm.made v.out b1 (λk e=>e.imp id (λe=>e.1)) b2 (QQ _ _) rfl
 have g:=K (CR d.out.post m h1);have A:=K (FO d.out.doc (by rw [<-d.out.xU.len];exact d.out.post.len) m h2);clear h1 h2;go_wp2_with fail
 refine g.out.mono ?_;rintro e w2 ⟨rfl,rfl⟩;go_wp2_with fail
 refine A.out.mono ?_;rintro e w3 ⟨rfl,rfl⟩;go_wp2_with fail
 go_ret;exact fm.still HT.out (QR _) v.out rfl
theorem Bm(V:Nat)(M G:QJ)(own:Nat->Prop)(p n:Int)(xy:Bool)(a:QF)(c:bF)(vD vN vU vW:QJ)(w:QI)(h:fB V w M G own)(hn: -9223372036854775808<=n/\n<=9223372036854775807)(hS:a.length<=1048576)(hV:V+1048576<=1099511627776):Y8 Ys 14 #[YZ #[M,G],YZ (aP 6 p n xy a c vD vN vU vW)] w (fm (V+1048576) M G own w):=by
 obtain ⟨W0,s⟩:=QE ((w.alloc (YU #[M,G] 52)).alloc (YU (aP 6 p n xy a c vD vN vU vW) 49));have B0:Y6 w.heap.size w W0:=by rw [<-s];exact ((QQ _ _).alloc (QR _) _).alloc (by simp) _
 have X0:W0.heap[w.heap.size]? =S (YU #[M,G] 52 (0,0)):=by rw [<-s];exact ae ((QQ _ _).alloc (QR _) _) (Q0 w _)
 have Y0:W0.heap[w.heap.size+1]? =S (YU (aP 6 p n xy a c vD vN vU vW) 49 (0,0)):=by
  rw [<-s];have:=Q0 (w.alloc (YU #[M,G] 52)) (YU (aP 6 p n xy a c vD vN vU vW) 49);simpa using this
 obtain ⟨o0,o1,o2,o3,o4,o5,o6,o7,o8,o9,e1,e2,e3,e4⟩:=jn Y0;obtain ⟨a0,a1⟩:=QM X0;have HT:=K h;have Q:=K (qz V M G own 6 p n xy a c vD vN vU vW W0 (h.below B0) hn (Y5 (Y4 rfl)));have a2:=K B0;have a5:=K X0;have a6:=K Y0;have a4:=K s;simp only [aP] at a4 Q;clear h B0 X0 Y0 s;go_enter func14,XH;simp only [aP];go_wp2_with fail
 rw [a4.out];go_wp2_with fail
 refine Q.out.mono ?_;rintro e E ⟨m,rfl,D⟩;have B1:=a2.out.trans (D.mono a2.out.size);have X1:=ae D a5.out;have Y1:=ae D a6.out;have u0:E.cell? ⟨w.heap.size+1,0,N⟩=S (I J 6):=Q3 Y1 _;have u4:E.cell? ⟨w.heap.size+1,4,N⟩=S (T (bs a)):=Q3 Y1 _;have x0:E.cell? ⟨w.heap.size,0,N⟩=S M:=Q3 X1 _;have x1:E.cell? ⟨w.heap.size,1,N⟩=S G:=Q3 X1 _;have c7:=K (HT.out.below B1);have P:=K B1;have c8:=K X1;have c9:=K Y1;have a3:H (∀k,own k->k < w.heap.size):=K HT.out.lt;clear D B1 X1 Y1 Q o0 o1 o2 o3 o4 o5 o6 o7 o8 o9 e1 e2 e3 e4 a0 a1 a5 a6
 rcases c7.out with ⟨rfl,rfl,_⟩ | ⟨Ep,Ed,pp,pb,mb,p',c',q,vr,S',Z,vs,l,b,vC,e7,e8,vH,lr,d5,xh,rfl,rfl,hT⟩
 .go_wp2_with fail
  refine (AR E m (bs a)).mono ?_;rintro e X ⟨rfl,rfl⟩;go_wp2_with fail
  refine (zP E m (bs a)).mono ?_;rintro e w3 ⟨rfl,rfl⟩;have t1:(({data:=#[]}:QL).toList == ({data:=#[]}:QL).toList)=YT:=by simp
  go_wp2_with fail
  go_ret;exact fm.still HT.out (Wl _ _) P.out rfl
 have d:=K hT;clear hT
 rcases d.out.xU.open m with ⟨k,x,y,rfl,hx,R,hy,hrel,b4,b0⟩ | ⟨h1,h2⟩
 .have u:=d.out.may;have i:=Ck d.out.post k hy u a hS;have t:=(d.out.post.ok k y hy).inv;have A:na c' b (y.s,S',Z,[]) (x.r,Z,[]):=⟨hrel,λ_=>⟨b4,b0⟩,rfl,rfl,d.out.ks,t⟩;have f:=Lq u A R a;have U:=E2 u a (y.s,S',Z,[]) t d.out.ok;obtain ⟨Y,eY⟩:=QE (dx c' (y.s,S',Z,[]) a);rw [eY] at i f U;have i:=K i;have e0:=d.out.xU.rb k x hx;have d6:b<=1000000000:=by have:=d.out.post.xo.1;rw [d.out.ks.time] at this;exact this
  go_wp2_with fail
  refine i.out.mono ?_;rintro e X ⟨rfl,q',f5,A',b6,k1,k2,k3⟩;have C:aC (λk=>k=pp\/ie E pb mb q vr S' vs l k) E X:=k3.mono (λ_ _ e=>Y5 e);have D2:=d.out.half C;have B:∀k,(k=pp\/ie E pb mb q vr S' vs l k)->own k:=λk e=>e.elim (λe=>by rw [e];exact (d.out.m1 pp d.out.post.post.xI).elim (λe=>(d.out.post.post.yx e).elim) id) (d.out.m2 k);have X2:=C.some_ c8.out (λe=>by have:=a3.out _ (B _ e);omega);have Y2:=C.some_ c9.out (λe=>by have:=a3.out _ (B _ e);omega);have x2:X.cell? ⟨w.heap.size,1,N⟩=S (YV (S ⟨p',0,N⟩)):=Q3 X2 _;have y2:X.cell? ⟨w.heap.size+1,4,N⟩=S (T (bs a)):=Q3 Y2 _;have g:=zO Ed X p' c' Z b vC e7 e8 vH lr d5 xh k x a (V+1048576) D2 d.out.dl d.out.fl hx R (by rw [<-d.out.xU.len];exact d.out.post.len) e0.1 (by omega) hV d.out.post.xo.2.2 d6;obtain ⟨R0,a7⟩:=QE (rR c' b Z x.r a);rw [a7] at g f;have g:=K g;have c3:=K k1;have c4:=K k2;have c5:=K C;have f3:=K hx;have d0:=K hy;have r:=K f;have c6:=K U;have v:=f.said;clear k1 k2 k3 C D2 B X2 Y2 i hx hy R hrel b4 b0 t A U eY a7 f;obtain ⟨O,eO⟩:=QE R0.2.2;rw [v,eO];rw [eO] at g;have t1:((bs O).toList == (bs O).toList)=YT:=by simp
  clear eO v;go_wp2_with fail
  refine g.out.mono ?_;rintro e w3 ⟨rfl,⟨f0,e9,f1,f2,kk,d1,d2,d3,d4⟩,e5,e6,f4⟩;have b7:=K d1;have c0:=K d2.out;have c1:=K d3;have c2:=K d4;clear d1 d2 d3 d4;go_wp2_with fail
  go_ret;have d7:k < l.length:=(RT.1 d0.out).1;have d8:Y.1.over=R0.1.closed:=r.out.rel.over
  have a9:mo c' (V+1048576) (l.set k (if Y.1.over then N else S ⟨y.sb,y.ch,A',b6,Y.1⟩)) (lr.set k ⟨x.cb,f0,e9,R0.1⟩):=by
   refine ⟨by rw [Q4,Q4];exact d.out.xU.len,λj z W=>?_,λj z W=>?_⟩
   .rcases lp W with ⟨ej,rfl⟩ | ⟨ej,W⟩
    .rw [ej,RZ d7,d8]
     cases a8:R0.1.closed
     case true=>exact Y4 ⟨rfl,rfl⟩
     have b3:=r.out.wait a8;exact Y5 ⟨rfl,⟨y.sb,y.ch,A',b6,Y.1⟩,rfl,r.out.rel,b3.1,b3.2⟩
    rw [R6 (Ne.symm ej)];exact d.out.xU.one j z W
   rcases lp W with ⟨ej,rfl⟩ | ⟨ej,W⟩
   .exact ⟨e5,e6⟩
   have:=d.out.xU.rb j z W;exact ⟨this.1,by omega⟩
  have o:=r.out.xb;have D9:=b7.out;rw [<-o] at D9;have d9:=c0.out;rw [<-o] at d9;have b5:=r.out.ks;rw [<-o] at b5;obtain ⟨b1,b2⟩:=d.out.both c3.out c4.out c5.out D9 c1.out c2.out b5 c6.out a9 (by rw [RI,TQ];exact d9) (by rw [RI,RI,TQ,TQ,d.out.fl]);exact fm.made P.out b1 (λk e=>e.imp id (λe=>e.1)) b2 (QQ _ _) rfl
 have i:=K (zG d.out.post m h1 (bs a));have g:=K (uK d.out.doc (by rw [<-d.out.xU.len];exact d.out.post.len) m h2 (bs a));clear h1 h2;go_wp2_with fail
 refine i.out.mono ?_;rintro e X ⟨rfl,rfl⟩;go_wp2_with fail
 refine g.out.mono ?_;rintro e w3 ⟨rfl,rfl⟩;have t1:(({data:=#[]}:QL).toList == ({data:=#[]}:QL).toList)=YT:=by simp
 go_wp2_with fail
 go_ret;exact fm.still HT.out (Wl _ _) P.out rfl
structure HT(w w':QI)(bb B V:Nat)(v:QJ)(tw:List (QJ×QJ))(own:Nat->Nat->Prop)(L:Nat->Prop):Prop where
 all:w'.ownsRow w.heap.size 52 2 v tw.length (jc tw)
 yc:∀(j:Nat) (hj:j < tw.length),fB V w' tw[j].1 tw[j].2 (own j)
 lo:∀j,j < tw.length->∀k,own j k->w.heap.size<=k
 ap:∀i j,i < tw.length->j < tw.length->i≠j->∀k,own i k->¬own j k
 av:∀j,j < tw.length->∀k,own j k->v.ownBlock≠S k
 al:∀j,j < tw.length->∀k,own j k->¬L k
 vl:∀k,v.ownBlock=S k->¬L k
 bk:su L w' bb B
 ll:∀k,L k->w.heap.size<=k/\k < w'.heap.size
 below:Y6 w.heap.size w w'
 gl:gh w
def HQ(w w':QI)(bb B V:Nat)(v:QJ)(tw:List (QJ×QJ)):Prop:=∃own L,HT w w' bb B V v tw own L
section
variable {w w1 w2:QI} {bb B B' V V':Nat} {v v':QJ} {tw:List (QJ×QJ)}
theorem HT.yf{own:Nat->Nat->Prop}{a:Nat->Prop}(h:HT w w1 bb B V v tw own a){k:Nat}(e:mM k):k < w.heap.size:=h.gl.lt e
theorem iW{A:Nat->Prop}(b:Y6 w.heap.size w w1)(a:aC A w1 w2)(c:∀k,A k->w.heap.size<=k):Y6 w.heap.size w w2:=
 b.trans ⟨a.still.1,a.still.2.1,a.still.2.2,a.size,λk d=>a.block k (by have:=b.size;omega) (λe=>by have:=c k e;omega)⟩
theorem HQ.all(h:HQ w w1 bb B V v tw):w1.ownsRow w.heap.size 52 2 v tw.length (jc tw):=by
 obtain ⟨own,a,h⟩:=h;exact h.all
theorem HQ.below(h:HQ w w1 bb B V v tw):Y6 w.heap.size w w1:=by
 obtain ⟨own,a,h⟩:=h;exact h.below
theorem HQ.gl(h:HQ w w1 bb B V v tw):gh w:=by
 obtain ⟨own,a,h⟩:=h;exact h.gl
theorem HT.xo{own:Nat->Nat->Prop}{a:Nat->Prop}(h:HT w w1 bb B V v tw own a)(b:Y6 w1.heap.size w1 w2):HT w w2 bb B V v tw own a:=
 ⟨aB h.all λ_ _ e _=>ae b e,λj c=>(h.yc j c).below b,h.lo,h.ap,h.av,h.al,h.vl,h.bk.xo b,λk e=>⟨(h.ll k e).1,SA (h.ll k e).2 b.size⟩,h.below.trans (b.mono h.below.size),h.gl⟩
theorem HQ.xo(h:HQ w w1 bb B V v tw)(b:Y6 w1.heap.size w1 w2):HQ w w2 bb B V v tw:=by
 obtain ⟨own,a,h⟩:=h;exact ⟨own,a,h.xo b⟩
theorem HQ.mono(h:HQ w w1 bb B V v tw)(b:B<=B')(c:V<=V'):HQ w w1 bb B' V' v tw:=by
 obtain ⟨own,a,h⟩:=h;exact ⟨own,a,h.all,λj d=>(h.yc j d).mono c,h.lo,h.ap,h.av,h.al,h.vl,h.bk.mono (λ_ e=>e) b,h.ll,h.below,h.gl⟩
theorem HQ.still(h:HQ w w1 bb B V v tw)(b:B<=549755813888):Y8 Ys 17 #[YV (S ⟨bb,0,N⟩)] w1 λe c=>e=YX (YW YT)/\Y6 w1.heap.size w1 c:=by
 obtain ⟨own,a,h⟩:=h;exact CP h.bk b
theorem HQ.get(h:HQ w w1 bb B V v tw){j:Nat}(d:j < tw.length):∃own,fB V w1 tw[j].1 tw[j].2 own/\∀(w2:QI) (V':Nat) (b:Nat->Prop),V<=V'->fB V' w2 tw[j].1 tw[j].2 b->(∀k,b k->own k\/w1.heap.size<=k)->aC own w1 w2->HQ w w2 bb B V' v tw:=by
 obtain ⟨own,a,h⟩:=h;refine ⟨own j,h.yc j d,λw2 V' b z u p m=>⟨λi=>if i=j then b else own i,a,?_⟩⟩;have r:∀k,v.ownBlock=S k->k < w1.heap.size:=λk e=>lU h.all e;have A:∀i,i < tw.length->∀k,own i k->k < w1.heap.size:=λi c k e=>(h.yc i c).lt k e;have o:∀i,i < tw.length->i≠j->∀k,own i k->¬b k:=λi c f k e y=>(p k y).elim (h.ap i j c d f k e) (λy=>by have:=A i c k e;omega);refine ⟨aI h.all m (λg _ _ e y=>h.av j d g y e),λi c=>?_,λi c k e=>?_,λi q c n f k e y=>?_,λi c k e y=>?_,λi c k e y=>?_,h.vl,h.bk.xt m (λk e y=>h.al j d k y e),λk e=>⟨(h.ll k e).1,SA (h.ll k e).2 m.size⟩,iW h.below m (h.lo j d),h.gl⟩
 .by_cases e:i=j
  .subst e;simp only [if_true];exact u
  simp only [e,if_false];exact ((h.yc i c).xt m (λk s t=>h.ap i j c d e k s t) (λk g y=>by have:=h.yf g;have:=h.lo j d k y;omega)).mono z
 .by_cases x:i=j
  .simp only [x,if_true] at e
   rcases p k e with e | e
   .exact h.lo j d k e
   have:=h.below.size;omega
  simp only [x,if_false] at e;exact h.lo i c k e
 .by_cases x:i=j
  .by_cases l:q=j
   .exact f (x.trans l.symm)
   simp only [x,if_true] at e;simp only [l,if_false] at y;exact o q n l k y e
  simp only [x,if_false] at e
  by_cases l:q=j
  .simp only [l,if_true] at y;exact o i c x k e y
  simp only [l,if_false] at y;exact h.ap i q c n f k e y
 .by_cases x:i=j
  .simp only [x,if_true] at e
   rcases p k e with e | e
   .exact h.av j d k e y
   have:=r k y;omega
  simp only [x,if_false] at e;exact h.av i c k e y
 by_cases x:i=j
 .simp only [x,if_true] at e
  rcases p k e with e | e
  .exact h.al j d k e y
  have:=(h.ll k y).2;omega
 simp only [x,if_false] at e;exact h.al i c k e y
theorem HQ.yF(h:HQ w w1 bb B V v tw):∃a,su a w1 bb B/\(∀k,a k->k < w1.heap.size)/\∀(w2:QI) (e:Zb),pJ a bb B w1 e w2->HQ w w2 bb (B+2097152) V v tw:=by
 obtain ⟨own,a,h⟩:=h;refine ⟨a,h.bk,λk e=>(h.ll k e).2,λw2 e f=>⟨own,λk=>(a k\/w1.heap.size<=k)/\k < w2.heap.size,?_⟩⟩;obtain ⟨_,j,c⟩:=f;have d:∀k,v.ownBlock=S k->k < w1.heap.size:=λk e=>lU h.all e;have l:∀i,i < tw.length->∀k,own i k->k < w1.heap.size:=λi b k e=>(h.yc i b).lt k e;exact ⟨aI h.all c (λg _ _ e y=>h.vl g e y),λi b=>(h.yc i b).xt c (λk e y=>h.al i b k e y) (λk g y=>by have:=h.yf g;have:=(h.ll k y).1;omega),h.lo,h.ap,h.av,λi b k e y=>y.1.elim (h.al i b k e) (λy=>by have:=l i b k e;omega),λk e y=>y.1.elim (h.vl k e) (λy=>by have:=d k e;omega),j,λk e=>⟨e.1.elim (λe=>(h.ll k e).1) (λe=>by have:=h.below.size;omega),e.2⟩,iW h.below c (λk e=>(h.ll k e).1),h.gl⟩
def LR(z:Nat)(w w':QI)(bb B V:Nat)(v:QJ)(tw:List (QJ×QJ)):Prop:=∃own L,HT w w' bb B V v tw own L/\(∀j,j < tw.length->∀k,own j k->k < z)/\(∀k,v.ownBlock=S k->k < z)/\(∀k,L k->k < z)/\w.heap.size<=z/\z<=w'.heap.size
theorem HQ.bound(h:HQ w w1 bb B V v tw):LR w1.heap.size w w1 bb B V v tw:=by
 obtain ⟨own,a,h⟩:=h;exact ⟨own,a,h,λj b k e=>(h.yc j b).lt k e,λk e=>lU h.all e,λk e=>(h.ll k e).2,h.below.size,QR _⟩
theorem LR.toQ{z:Nat}(h:LR z w w1 bb B V v tw):HQ w w1 bb B V v tw:=by
 obtain ⟨own,a,h,_⟩:=h;exact ⟨own,a,h⟩
theorem LR.xo{z:Nat}(h:LR z w w1 bb B V v tw)(b:Y6 w1.heap.size w1 w2):LR z w w2 bb B V v tw:=by
 obtain ⟨own,a,h,c,d,e,f,g⟩:=h;exact ⟨own,a,h.xo b,c,d,e,f,Rn g b.size⟩
theorem LR.boxed{x z:Nat}(h:LR z w w1 bb B V v tw)(o:z<=x)(m:aA x w1 w2):LR z w w2 bb B V v tw:=by
 obtain ⟨own,a,h,n,d,c,f,j⟩:=h;have b:aC (λk=>k=x) w1 w2:=aC.same m;exact ⟨own,a,⟨aI h.all b (λg _ _ e y=>by have:=d g e;omega),λi l=>(h.yc i l).xt b (λk e y=>by have:=n i l k e;omega) (λk g y=>by have:=h.yf g;omega),h.lo,h.ap,h.av,h.al,h.vl,h.bk.xt b (λk e y=>by have:=c k e;omega),λk e=>⟨(h.ll k e).1,SA (h.ll k e).2 b.size⟩,iW h.below b (λk e=>by omega),h.gl⟩,n,d,c,f,by rw [m.1];exact j⟩
theorem LR.more{t:QJ×QJ}{own9:Nat->Prop}{z:Nat}{o:Obj}{g c:Nat}(h:LR z w w1 bb B V v tw)(O:fB V w1 t.1 t.2 own9)(b:∀k,own9 k->z<=k)(n:w2.ownsRow w.heap.size 52 2 (L (S ⟨g,0,N⟩) (tw.length+1) c) (tw.length+1) (jc tw++[t.1,t.2]))(l:(v.ownBlock=S g/\(w1.alloc o).grownBy w2 (S g))\/(g=w1.heap.size+1/\(w1.alloc o).grownBy w2 N)):HQ w w2 bb B V (L (S ⟨g,0,N⟩) (tw.length+1) c) (tw++[t]):=by
 obtain ⟨own,a,h,M,p,D,U,W⟩:=h;have d:∀k,v.ownBlock=S k->w.heap.size<=k:=λk e=>(h.all.lt k e).1;have P:Y6 w1.heap.size w1 (w1.alloc o):=(QQ _ _).alloc (QR _) o
 have j:aC (λk=>v.ownBlock=S k) w1 w2:=by
  refine (aC.below P).trans (A1:=λk=>v.ownBlock=S k) ?_ (λ_ _ e=>e)
  rcases l with ⟨e,u⟩ | ⟨_,u⟩
  .exact (aC.grown u).mono (λk _ s=>by rw [e];exact s)
  exact (aC.grown u).mono (λk _ s=>by cases s)
 have Q:v.ownBlock=S g\/w1.heap.size<=g:=l.imp (λe=>e.1) (λe=>by rw [e.1];omega)
 have G:∀k,(L (S ⟨g,0,N⟩) (tw.length+1) c).ownBlock=S k->v.ownBlock=S k\/w1.heap.size<=k:=λk e=>by
  have e:S g=S k:=e;injection e with e;rw [<-e];exact Q
 have E:∀k,own9 k->k < w1.heap.size:=O.lt;have m:(tw++[t]).length=tw.length+1:=by simp
 refine ⟨λi=>if i < tw.length then own i else own9,a,⟨by rw [m,sj];exact n,λi q=>?_,λi q k e=>?_,λi r q R C k e y=>?_,λi q k e y=>?_,λi q k e y=>?_,λk e y=>?_,h.bk.xt j (λk e y=>h.vl k y e),λk e=>⟨(h.ll k e).1,SA (h.ll k e).2 j.size⟩,iW h.below j d,h.gl⟩⟩
 .by_cases x:i < tw.length
  .simp only [x,if_true];rw [List.getElem_append_left x];exact (h.yc i x).xt j (λk e y=>h.av i x k e y) (λk g y=>by have:=h.yf g;have:=d k y;omega)
  simp only [x,if_false];have A:i=tw.length:=by omega
  subst A;simp only [List.getElem_append_right (QR _),Te,List.getElem_cons_zero];exact O.xt j (λk e y=>by have:=b k e;have:=p k y;omega) (λk g y=>by have:=h.yf g;have:=d k y;omega)
 .by_cases x:i < tw.length
  .simp only [x,if_true] at e;exact h.lo i x k e
  simp only [x,if_false] at e;have:=b k e;omega
 .by_cases x:i < tw.length
  .simp only [x,if_true] at e
   by_cases f:r < tw.length
   .simp only [f,if_true] at y;exact h.ap i r x f C k e y
   simp only [f,if_false] at y;have:=b k y;have:=M i x k e;omega
  simp only [x,if_false] at e
  by_cases f:r < tw.length
  .simp only [f,if_true] at y;have:=b k e;have:=M r f k y;omega
  omega
 .by_cases x:i < tw.length
  .simp only [x,if_true] at e
   rcases G k y with y | y
   .exact h.av i x k e y
   have:=M i x k e;omega
  simp only [x,if_false] at e
  rcases G k y with y | y
  .have:=p k y;have:=b k e;omega
  have:=E k e;omega
 .by_cases x:i < tw.length
  .simp only [x,if_true] at e;exact h.al i x k e y
  simp only [x,if_false] at e;have:=b k e;have:=D k y;omega
 rcases G k e with e | e
 .exact h.vl k e y
 have:=(h.ll k y).2;omega
end
def kc(l:List mA)(asl:QK)(csl:Nat)(w:QI)(c15 c16:QJ)(k:Nat)(v:QJ)(a:Act):Prop:=∃u4 u8 u9 u10 u11 u12 u13 u14 u17 u18 u19 u20 u21 u22 u23 u24 u25 u26 u27 u28 u29 u30 u31 u32 u33 u34 u35 u36 u37 u38 u39 u40 u41 u42 u43 u44 u45 u46 u47 u48 u49 u50 u51 u52 u53 u54 u55 u56 u57 u58 u59 u60 u61 u62 u63 u64 u65 u66 u67 u68 u69 u70 u71 u72 u73 u74 u75 u76 u77 u78 u79 u80 u81 u82 u83 u84 u85 u86 u87 u88 u89 u90 u91 u92 u93 u94 u95 u96 u97 u98 u99 u100 u101 u102 u103 u104 u105 u106 u107 u108 u109 u110 u111 u112 u113 u114 u115 u116 u117 u118 u119 u120 u121 u122 u123 u124 u125 u126 u127 u128 u129 u130 u131 u132 u133 u134 u135 u136 u137 u138 u139 u140 u141 u142 u143 u144 u145 u146 u147 u148 u149 u150 u151 u152 u153 i:QJ,i=I J (k:Int)/\a=⟨#[L asl l.length csl,I J 7,undef,undef,u4,v,YV (S ⟨w.heap.size,0,N⟩),i,u8,u9,u10,u11,u12,u13,u14,c15,c16,u17,u18,u19,u20,u21,u22,u23,u24,u25,u26,u27,u28,u29,u30,u31,u32,u33,u34,u35,u36,u37,u38,u39,u40,u41,u42,u43,u44,u45,u46,u47,u48,u49,u50,u51,u52,u53,u54,u55,u56,u57,u58,u59,u60,u61,u62,u63,u64,u65,u66,u67,u68,u69,u70,u71,u72,u73,u74,u75,u76,u77,u78,u79,u80,u81,u82,u83,u84,u85,u86,u87,u88,u89,u90,u91,u92,u93,u94,u95,u96,u97,u98,u99,u100,u101,u102,u103,u104,u105,u106,u107,u108,u109,u110,u111,u112,u113,u114,u115,u116,u117,u118,u119,u120,u121,u122,u123,u124,u125,u126,u127,u128,u129,u130,u131,u132,u133,u134,u135,u136,u137,u138,u139,u140,u141,u142,u143,u144,u145,u146,u147,u148,u149,u150,u151,u152,u153],[]⟩
structure Am(l:List mA)(w wr:QI)(b off csl k:Nat)(v:QJ)(tw:List (QJ×QJ))(m:Int)(c15 c16:QJ)(kind p n:Int)(xy:Bool)(S:QF)(c:bF)(aD aN aU aW:QK)(cD cN cU cW:Nat)(K:Act->QI->Prop):Prop where
 st:HQ w wr w.heap.size (k * 2097152) (k * 1048576) v tw
 tk:tw.length<=k
 lt:k < l.length
 ll:l.length<=65536
 ok:mA.Ok w ⟨kind,p,n,xy,S,c,L aD c.xf.length cD,L aN c.xe.length cN,L aU c.x9.length cU,L aW c.waits.length cW⟩
 cell:∀i u,i < 14->(aP kind p n xy S c (L aD c.xf.length cD) (L aN c.xe.length cN) (L aU c.x9.length cU) (L aW c.waits.length cW))[i]? =some u->w.cell? ⟨b,off+k * 14+i,N⟩=some u
 mm:w.cell? ⟨0,0,N⟩=some (I J m)
 next:∀(a':Act) (w':QI) (v':QJ) (tw':List (QJ×QJ)),kc l (some ⟨b,off,N⟩) csl w c15 c16 (k+1) v' a'->tw'.length<=k+1->HQ w w' w.heap.size ((k+1) * 2097152) ((k+1) * 1048576) v' tw'->K a' w'
end Go.Proofs.YtponhohdpophlaaGreatDoor
