import Derived.Test.YtponhohdpophlaaGreatDoorS07
import Derived.Test.YtponhohdpophlaaGreatDoorS18
import Derived.Test.YtponhohdpophlaaGreatDoorS16
namespace Go.Proofs.YtponhohdpophlaaGreatDoor
set_option maxHeartbeats 8000000
set_option maxRecDepth 1000000
open Go renaming heap_alloc_new->Q0,bodyPost_end->RN,results_none->RP,heap_setCell_same->Ro,info_parts->Rr,wpList_append_own->Uo,Calls->Y8,TypeId->Za,Ending->Zb
open Go.DataW renaming trod_int->VI,trod_struct->VL
open Go.Ending renaming returned->YX
open Go.IntKind renaming i64->J,wrap_i64->QY
open Go.Lib renaming cell_of_heap->Q3,frozen_of_heap->RJ
open Go.Obj renaming cells->YU
open Go.Proofs.Tryz renaming underlying30->Rt,underlying33->Sn,underlying43->Sp,underlying3->TF,func124->VR,ntmps124->VS,underlying22->VX,underlying49->YP,prog->Ys
open Go.RowKit renaming Hid->H,Below->Y6,intOf->Y9
open Go.RowKit.Below renaming refl->QQ
open Go.Value renaming int->I,slice->L,string->T,pointer->YV,bool->YW,tuple->YY
open _root_.Array renaming getElem?_eq_getElem->Si,getElem?_toList->Sl,getElem?_eq_none->TG,getElem?_setIfInBounds_ne->TH,getElem?_setIfInBounds->Uz
open _root_.Bool renaming false->F,and_eq_true->Rk,true->YT
open _root_.List renaming mem_range->Q8,getElem_mem->QU,map_nil->RF,length_append->RI,length_cons->RQ,length_nil->RR,length_map->RU,getElem_map->RV,ext_getElem?->RY,mem_cons->Rf,mem_map->Rl,mem_append->Rx,mem_singleton->Ry,drop_zero->SY,getElem?_append_left->Sc,getElem?_append_right->Se,getElem?_eq_none->Sg,map_append->Sh,getElem?_take_of_lt->Sk,length_take->Sm,append_assoc->Sq,length_eq_zero_iff->TC,length_replicate->TQ,eq_nil_or_concat->U0,concat_eq_append->U2,replicate_succ'->UJ,all_append->Ug
open _root_.Nat renaming le_refl->QR,zero_le->QS,add_zero->QT,le_trans->Rn,lt_of_lt_of_le->SA
open _root_.Option renaming none->N,some->S
open _root_.Or renaming inl->Y4,inr->Y5
open Go.Proofs.Tryz
open Go.RowKit
def mq(w:QI)(p:Nat)(l:QF):Prop:=∃A:Array QJ,w.heap[p]? =S (YU A 133 (0,0))/\A[9]? =S (T (bs l))
theorem mq.below{w b:QI}{p:Nat}{l:QF}(h:mq w p l)(d:Y6 w.heap.size w b):mq b p l:=by
 obtain ⟨A,a,c⟩:=h;exact ⟨A,(d.block p (dq a)).trans a,c⟩
theorem nY(p:Nat)(l:QF)(w:QI)(h:mq w p l):Y8 Ys 29 #[YV (S ⟨p,0,N⟩)] w λe c=>e=YX (YY #[T (bs l),I J 0])/\Y6 w.heap.size w c:=by
 obtain ⟨A,a,b⟩:=h;have d:w.cell? ⟨p,9,N⟩=S (T (bs l)):=by rw [Q3 a];exact b
 clear a b;go_enter func29,ntmps29;go_wp2_with fail
 go_ret2
 exact ⟨rfl,QQ _ _⟩
theorem nZ(w:QI):Y8 Ys 29 #[YV N] w λe a=>e=YX (YY #[T (bs []),I J 1])/\Y6 w.heap.size w a:=by
 go_enter func29,ntmps29;go_wp2_with fail
 go_ret2
 exact ⟨rfl,QQ _ _⟩
theorem sZ(p:Nat)(l:QF)(w:QI)(h:mq w p l)(m:l.length<=1048576):Y8 Ys 31 #[YV (S ⟨p,0,N⟩)] w λe g=>∃v,e=YX (YY #[v,I J 0])/\fW g v (iM (bn l).1.items)/\Y6 w.heap.size w g:=by
 obtain ⟨A,b,d⟩:=h;have o:w.cell? ⟨p,9,N⟩=S (T (bs l)):=by rw [Q3 b];exact d
 have f:=DI l w m;clear b d;go_enter func31,ntmps31;go_wp2_with fail
 refine f.mono ?_;rintro e r ⟨v,rfl,b,d⟩;have i:=K b;have j:=K d
 obtain ⟨a,c,rfl⟩:∃a c,v= .slice a (iM (bn l).1.items).length c:=by
  obtain ⟨q,e,n,_⟩:=b;obtain ⟨a,c,k⟩:=az n;exact ⟨a,c,by rw [<-e,RU];exact k⟩
 clear b d f;go_wp2_with fail
 go_ret2
 exact ⟨_,rfl,i.out,j.out⟩
theorem ta(w:QI):Y8 Ys 31 #[YV N] w λe a=>e=YX (YY #[L N 0 0,I J 1])/\Y6 w.heap.size w a:=by
 go_enter func31,ntmps31;go_wp2_with fail
 go_ret2
 exact ⟨rfl,QQ _ _⟩
def dd(w:QI)(v v':QJ):Prop:=v'.ownBlock=v.ownBlock\/∃k,v'.ownBlock=S k/\w.heap.size<=k
theorem dd.refl(w:QI)(v:QJ):dd w v v:=Y4 rfl
theorem dd.trans{w f:QI}{a b c:QJ}(h:dd w a b)(d:dd f b c)(g:w.heap.size<=f.heap.size):dd w a c:=by
 rcases d with d | ⟨k,d,e⟩
 .rcases h with h | ⟨k,h,e⟩
  .exact Y4 (d.trans h)
  exact Y5 ⟨k,d.trans h,e⟩
 exact Y5 ⟨k,d,Rn g e⟩
theorem uR{w c:QI}{o:Obj}{v v':QJ}{g:Nat}(b:v'.ownBlock=S g)(a:(v.ownBlock=S g/\(w.alloc o).grownBy c (S g))\/(g=(w.alloc o).heap.size/\(w.alloc o).grownBy c N)):dd w v v':=by
 rcases mE a with h | h
 .exact Y4 (b.trans h.symm)
 exact Y5 ⟨g,b,Nat.le_of_lt h⟩
theorem KE:(prog.info? 30).map (λi=>(i.zero,i.size,i.bytes))=S (S (L N 0 0),1,24):=by kernel_rfl
theorem Pb{D:Array QJ}{k n:Nat}{x:QJ}(a:D.size=n)(c:k < n)(h:∀j,j < k->D[j]? =S x):∀j,j < k+1->(D.setIfInBounds k x)[j]? =S x:=λj b=>by
 rw [Uz]
 by_cases e:k=j
 .subst e;rw [if_pos rfl,if_pos (by omega)]
 rw [if_neg e];exact h j (by omega)
theorem Mw{w:QI}{g n:Nat}{D:Array QJ}{x:QJ}(d:D.size=n)(c:n<=maxLen)(h:∀j,j < n->D[j]? =S x)(b:w.heap[g]? =S (YU D 9 (0,0))):w.ownsRow 0 9 1 (L (S ⟨g,0,N⟩) n n) n (List.replicate n x):=by
 refine ⟨by simp,Y5 ⟨g,n,D,rfl,QS _,b,QR _,c,by omega,?_⟩⟩
 apply RY;intro j;rw [List.getElem?_take,List.getElem?_replicate]
 by_cases a:j < n
 .rw [if_pos (by omega),if_pos a,Sl,h j a]
 rw [if_neg (by omega),if_neg a]
theorem Gj{w:QI}{g n c:Nat}{s:QF}(h:w.ownsRow 0 9 1 (L (S ⟨g,0,N⟩) n c) n (List.replicate n (T (bs s))))(m:Nat)(p:m<=n)(b:m<=1048576)(d:Nat):oh w ⟨g,m,d,s⟩:=by
 rcases h.2 with ⟨e,_⟩ | ⟨o,f,a,e,_,i,_,_,_,l⟩
 .cases e
 injection e with e1 _ _;injection e1 with e1;injection e1 with e1 _;subst e1;refine ⟨b,a,i,λj k=>?_⟩;simp only at k;rw [<-Sl, <-Sk (show j < n * 1 by omega),l,List.getElem?_replicate,if_pos (by omega)]
theorem ft.opL{w l:QI}{t a c:Nat}{B R O P Q z:QJ}{y:List TE}{G:List QF}{C:List ME}{D:List Nat}{o:Obj}(h:ft w t a c B R y G C D O P Q z){m b u s U:Nat}{M:QF}(X:w.ownsRow 0 9 1 (L (S ⟨b,0,N⟩) m u) m (List.replicate m (T (bs M))))(q:l.ownsRow 0 9 1 (L (S ⟨s,0,N⟩) (m+1) U) (m+1) (List.replicate (m+1) (T (bs M))))
  (p:((L (S ⟨b,0,N⟩) m u).ownBlock=S s/\(w.alloc o).grownBy l (S s))\/(s=(w.alloc o).heap.size/\(w.alloc o).grownBy l N)) (Z:∀x∈y,x.g≠b\/(x.s=M/\x.n<=m+1)) (Y:z.ownBlock≠S b):ft l t a c B R y G C D O P Q z/\aC (λk=>k=b) w l:=by
 have d:aC (λk=>k=b) w l:=(kC p).mono (λk _ e=>by injection e with e;exact e.symm);obtain ⟨V,n⟩:=ik X (show (L (S ⟨b,0,N⟩) m u).ownBlock=S b from rfl);have W:¬t=b:=λe=>by rw [<-e,h.xp] at n;simp at n
 refine ⟨⟨d.some_ h.xp W,aI h.rT d λk g e _ i=>by rw [i,n] at e;simp at e,aI h.rS d λk g e r i=>Y (by rw [<-i];exact r),aI h.rM d λk g e _ i=>by rw [i,n] at e;simp at e,aI h.rO d λk g e _ i=>by rw [i,n] at e;simp at e,λx j=>⟨?_,(h.mt x j).2⟩,λx j=>?_⟩,d⟩
 .by_cases e:x.g=b
  .obtain ⟨E,r2⟩:=(Z x j).resolve_left (λf=>f e)
   rcases p with ⟨g1,g2⟩ | ⟨g1,g2⟩
   .injection g1 with g1;simp only at g1;subst g1;have:=Gj q x.n r2 (h.mt x j).1.1 x.c;obtain ⟨xg,xn,xc,xs⟩:=x;simp only at e E this;subst e E;exact this
   have v:aC (λ_=>False) w l:=(aC.below (A:=λ_=>False) ((QQ _ _).alloc (QR _) o)).trans (aC.grown g2) (λk _ e=>by cases e);exact (h.mt x j).1.xt v id
  exact (h.mt x j).1.xt d e
 exact (h.mm x j).xt d λg9 c9 r _ e=>by rw [e,n] at r;simp at r
theorem LH(o a r g n:Nat)(kv wv vM vO Y X:QJ)(W:List TE)(ss:List QF)(ms:List ME)(os:List Nat)(w:QI)(O:Array QJ)(h:ft w o a r kv wv W ss ms os vM vO Y X)(hg:w.heap[g]? =S (YU O 9 (0,0)))(hn:O.size=n)(h1:∀x∈W,x.g≠g)(hS:X.ownBlock≠S g)(k6:n<=255)(hN:a<=1099511627776)(k8:W.length<=1099511627776)(k7:ss.length<=1099511627776):Y8 Ys 119 #[YV (S ⟨o,0,N⟩),L (S ⟨g,0,N⟩) n n] w λe w'=>e=YX (YY #[])/\∃b v q,ft w' o (a+1) r kv wv (W++b) (ss++b.map TE.s) ms os vM vO v q/\b.length=4/\(∀x∈b,x.g=g\/w.heap.size<=x.g)/\dd w Y v/\dd w X q/\aC (λk=>k=o\/k=g\/Y.ownBlock=S k\/X.ownBlock=S k) w w':=by
 have c0:w.cell? ⟨o,0,N⟩=S (I J a):=Q3 h.xp _;have f0:=RJ h.xp 0;have k9:IntKind.i64.wrap ((a:Int)+1)=(a:Int)+1:=by rw [QY];omega
 have g6:g≠o:=λe=>by rw [e,h.xp] at hg;simp at hg
 obtain ⟨W1,a2⟩:=QE (w.setCell ⟨o,0,N⟩ (I J ((a:Int)+1)));have S1:aA o w W1:=by rw [<-a2];exact (aA.refl _ _).setCell _
 have A1:ft W1 o (a+1) r kv wv W ss ms os vM vO Y X:=h.yg S1 (by rw [<-a2];exact Ro w o 0 _ _ _ h.xp);have e5:=K A1;have e8:H (W1.heap[g]? =S (YU O 9 (0,0))):=K (bm S1 hg g6);have f2:=K (MY (a+1) W1 (by unfold maxLen;omega));have e6:=K (aC.same S1);have f8:=K a2;have d0:=K h1;have f4:=K hS;clear S1 A1 h hg a2 h1 hS;go_enter func119,ntmps119;go_wp2_with fail
 rw [f8.out];refine f2.out.mono ?_;rintro e W2 ⟨rfl,a3⟩;obtain ⟨M,eM⟩:=QE (Fo (a+1));rw [eM];have G:=K (e5.out.xo a3);have E:H (W2.heap[g]? =S (YU O 9 (0,0))):=K (ae a3 e8.out);have e7:H (aC (λk=>k=o) w W2):=K (e6.out.trans (aC.below (A:=λ_=>False) a3) (λ_ _ f=>f.elim));clear a3 c0 f0 eM f2 e5 e8 e6;go_wp2_with fail
 go_loopw [5] (λi w'=>∃(k:Nat) (D:Array QJ),k<=n/\i=I J k/\D.size=n/\H (∀j,j < k->D[j]? =S (T (bs M)))/\H (w'.heap[g]? =S (YU D 9 (0,0)))/\H (aA g W2 w')) (λi _=>n - (Y9 i).toNat)
 case atStart=>exact ⟨0,O,QS _,rfl,hn,K (λj hj=>by omega),E,K (aA.refl _ _)⟩
 case round=>
  obtain ⟨k,D,hk,rfl,hD,HD,HG,HS⟩:=hrel
  by_cases i9:k < n
  .have k3:(k:Int) < (n:Int):=by omega
   have x0:∃u,wr.cell? ⟨g,k,N⟩=S u:=by rw [Q3 HG.out];exact ⟨_,Si (by omega)⟩
   obtain ⟨u0,x0⟩:=x0;have y0:=RJ HG.out k;have HN:=K (Pb (x:=T (bs M)) hD i9 HD.out);go_wp2_with fail
   exact ⟨⟨k+1,_,by omega,by go_num,by simp [hD],HN,K (Ro wr g k _ _ (T (bs M)) HG.out),K (HS.out.setCell _)⟩,by simp [Y9];omega⟩
  have d8:k=n:=by omega
  subst d8
  have A3:H (ft wr o (a+1) r kv wv W ss ms os vM vO Y X):=K (G.out.xt (aC.same HS.out) (λe=>g6 e.symm) (λx e C=>by rw [C] at e;exact cA G.out.rT E.out (by decide) e) (λx e C=>f4.out (by rw [<-C];exact e)) (λx e C=>by rw [C] at e;exact cA G.out.rM E.out (by decide) e) (λx e C=>by rw [C] at e;exact cA G.out.rO E.out (by decide) e) (λx m=>d0.out x m) (λx m g9 c9 c _ C=>by
   rw [C,E.out] at c;simp at c))
  have O3:H (wr.ownsRow 0 9 1 (L (S ⟨g,0,N⟩) k k) k (List.replicate k (T (bs M)))):=K (Mw hD (by unfold maxLen;omega) HD.out HG.out);have C3:H (aC (λk=>k=o\/k=g\/Y.ownBlock=S k\/X.ownBlock=S k) w wr):=K ((e7.out.mono (λ_ _ e=>Y4 e)).trans (aC.same HS.out) (λ_ _ e=>Y5 (Y4 e)));obtain ⟨iT,i6,h4,h5,h6⟩:=Rr KE;obtain ⟨is,g8,a9,b0,b1⟩:=Rr kj;have k0:=d0;clear HD HG HS G E e7 f8;go_wp2_with fail
  go_loopw [1,6] (λl i w'=>∃(j:Nat) (b:List TE) (p B:Nat) (v q:QJ),j<=4/\i=I J j/\l=L (S ⟨p,0,N⟩) (k+j) B/\b.length=j/\H (ft w' o (a+1) r kv wv (W++b) (ss++b.map TE.s) ms os vM vO v q)/\H (w'.ownsRow 0 9 1 (L (S ⟨p,0,N⟩) (k+j) B) (k+j) (List.replicate (k+j) (T (bs M))))/\H (q.ownBlock≠S p)/\H (p=g\/w.heap.size<=p)/\H (∀x∈b,x.s=M/\(x.g=g\/w.heap.size<=x.g)/\x.n<=k+j)/\H (∀x∈W,x.g≠p)/\H (dd w Y v)/\H (dd w X q)/\H (aC (λk=>k=o\/k=g\/Y.ownBlock=S k\/X.ownBlock=S k) w w')) (λ_ i _=>4 - (Y9 i).toNat)
  case atStart=>exact ⟨0,[],g,k,Y,X,by omega,rfl,rfl,rfl,by simpa using A3,O3,f4,K (Y4 rfl),K (λx m=>by simp at m),d0,K (dd.refl _ _),K (dd.refl _ _),C3⟩
  case round=>
   clear A3 O3 C3;obtain ⟨j,b,p,B,v,q,hj,rfl,rfl,h0,Z,HO,c7,b7,c8,f5,c6,c5,HC⟩:=hrel
   by_cases k5:j < 4
   .have k2:(j:Int) < 4:=by omega
    have e0:(W++b).length<=1099511627780:=by rw [RI];omega
    have d9:(ss++b.map TE.s).length<=1099511627780:=by rw [RI,RU];omega
    obtain ⟨TT,d6⟩:=QE (W++b);obtain ⟨SS,d5⟩:=QE (ss++b.map TE.s);rw [d6] at Z e0;rw [d5] at Z d9;have q7:wr.cell? ⟨o,7,N⟩=S v:=Q3 Z.out.xp _;have rT:=Z.out.rT;obtain ⟨aT,nT,cT,eT⟩:=fu rT;subst eT;have a1:=K (And.intro d6 d5);clear d6 d5
    go_wp2_with (first
     | (at_builtin;refine cB _ rfl _ _ 45 rfl 0 30 iT _ 1 24 underlying45 i6 h4 h5 h6 rfl (by decide) _ _ _ rfl (rT.alloc _) ⟨wr.heap.size,0,N⟩ 1 1 [L (S ⟨p,0,N⟩) (k+j) B] rfl rfl ?c1 ?c2 (by decide) ?c3 ?c4 (QS _) ?_)
     | fail)
    case c1=>exact World.news_of_block (cs:=#[L (S ⟨p,0,N⟩) (k+j) B]) (t:=30) (fr:=(0,0)) (Q0 wr _)
    case c2=>intro u hu;simp at hu;subst hu;rfl
    case c3=>unfold maxLen;omega
    case c4=>omega
    intro gT a5 w2 V a8;have a4:((L aT nT cT).ownBlock=S gT/\(wr.alloc (YU #[L (S ⟨p,0,N⟩) (k+j) B] 30)).grownBy w2 (S gT))\/(gT=(wr.alloc (YU #[L (S ⟨p,0,N⟩) (k+j) B] 30)).heap.size/\(wr.alloc (YU #[L (S ⟨p,0,N⟩) (k+j) B] 30)).grownBy w2 N):=a8.imp id (λh=>⟨by simpa using h.1,h.2⟩);have g4:=kC a4;have b2:=g4.some_ Z.out.xp (cA rT Z.out.xp (by decide));have j1:w2.cell? ⟨o,7,N⟩=S (L aT nT cT):=Q3 b2 _;have i4:=RJ b2 7;obtain ⟨A3,C3⟩:=Z.out.opT (x:=⟨p,k+j,B,M⟩) (Gj HO.out (k+j) (QR _) (by omega) B) c7.out V a4
    have O3:=aI HO.out C3 λy g0 e C=>by
     rintro (c | c)
     .rw [c,Z.out.xp] at e;simp at e
     exact cA rT e (by decide) c
    obtain ⟨w3,h2⟩:=QE (w2.setCell ⟨o,7,N⟩ (L (S ⟨gT,0,N⟩) (TT.length+1) a5));rw [h2] at A3 C3 O3;have i2:=K (c6.out.trans (uR (v':=L (S ⟨gT,0,N⟩) (TT.length+1) a5) rfl a4) HC.out.size);have q8:w3.cell? ⟨o,8,N⟩=S q:=Q3 A3.xp _;have rS:=A3.rS;obtain ⟨aS,nS,cS,eS⟩:=fu rS;subst eS;have a0:=K A3;have b5:=K C3;have f3:=K O3;clear A3 C3 O3 a4 a8 V g4 b2 rT q7
    go_wp2_with (first
     | (at_builtin;refine cB _ rfl _ _ 30 rfl 0 9 is _ 1 16 underlying30 g8 a9 b0 b1 rfl (by decide) _ _ _ rfl (rS.alloc _) ⟨w3.heap.size,0,N⟩ 1 1 [T (bs M)] rfl rfl ?d1 ?d2 (by decide) ?d3 ?d4 (QS _) ?_)
     | fail)
    case d1=>exact World.news_of_block (cs:=#[T (bs M)]) (t:=9) (fr:=(0,0)) (Q0 w3 _)
    case d2=>intro u hu;simp at hu;subst hu;rfl
    case d3=>unfold maxLen;omega
    case d4=>omega
    intro gS s w4 U a7;have Q:((L aS nS cS).ownBlock=S gS/\(w3.alloc (YU #[T (bs M)] 9)).grownBy w4 (S gS))\/(gS=(w3.alloc (YU #[T (bs M)] 9)).heap.size/\(w3.alloc (YU #[T (bs M)] 9)).grownBy w4 N):=a7.imp id (λh=>⟨by simpa using h.1,h.2⟩);have g5:=kC Q;have b4:=g5.some_ a0.out.xp (cA rS a0.out.xp (by decide));have j2:w4.cell? ⟨o,8,N⟩=S (L aS nS cS):=Q3 b4 _;have i5:=RJ b4 8;obtain ⟨A5,C5⟩:=a0.out.opS (t:=M) (v':=L (S ⟨gS,0,N⟩) (SS.length+1) s) rfl U Q
    have O5:=aI f3.out C5 λy g0 e C=>by
     rintro (c | c)
     .rw [c,a0.out.xp] at e;simp at e
     injection C with C;rw [<-C] at c;exact c7.out c
    have g7:p < w3.heap.size:=by
     obtain ⟨c9,c⟩:=ik f3.out (show (L (S ⟨p,0,N⟩) (k+j) B).ownBlock=S p from rfl);exact aq c
    have f9:H ((L (S ⟨gS,0,N⟩) (SS.length+1) s).ownBlock≠S p):=K (λe=>by
     injection e with e;simp only at e
     rcases mE Q with d | d
     .exact c7.out (by rw [d,e])
     omega)
    obtain ⟨w5,h3⟩:=QE (w4.setCell ⟨o,8,N⟩ (L (S ⟨gS,0,N⟩) (SS.length+1) s));rw [h3] at A5 C5 O5;have i1:=K (c5.out.trans (uR (v':=L (S ⟨gS,0,N⟩) (SS.length+1) s) rfl Q) (Rn HC.out.size b5.out.size));have b3:=K A5;have b6:=K C5;have k4:=K O5;clear A5 C5 Q a7 U g5 b4 rS q8 h2 j1 i4
    go_wp2_with (first
     | (at_builtin;refine cB _ rfl _ _ 30 rfl 0 9 is _ 1 16 underlying30 g8 a9 b0 b1 rfl (by decide) _ _ _ rfl (O5.alloc _) ⟨w5.heap.size,0,N⟩ 1 1 [T (bs M)] rfl rfl ?e1 ?e2 (by decide) ?e3 ?e4 (QS _) ?_)
     | fail)
    case e1=>exact World.news_of_block (cs:=#[T (bs M)]) (t:=9) (fr:=(0,0)) (Q0 w5 _)
    case e2=>intro u hu;simp at hu;subst hu;rfl
    case e3=>unfold maxLen;omega
    case e4=>omega
    intro P mH w6 R a6;have d7:((L (S ⟨p,0,N⟩) (k+j) B).ownBlock=S P/\(w5.alloc (YU #[T (bs M)] 9)).grownBy w6 (S P))\/(P=(w5.alloc (YU #[T (bs M)] 9)).heap.size/\(w5.alloc (YU #[T (bs M)] 9)).grownBy w6 N):=a6.imp id (λh=>⟨by simpa using h.1,h.2⟩)
    have z:w6.ownsRow 0 9 1 (L (S ⟨P,0,N⟩) (k+j+1) mH) (k+j+1) (List.replicate (k+j+1) (T (bs M))):=by
     rw [UJ];exact R
    obtain ⟨A6,C6⟩:=b3.out.opL O5 z d7 (λx m=>by
     rcases Rx.1 m with m | m
     .rw [<-a1.out.1] at m
      rcases Rx.1 m with m | m
      .exact Y4 (f5.out x m)
      obtain ⟨r1,_,r3⟩:=c8.out x m;exact Y5 ⟨r1,by omega⟩
     simp only [Ry] at m;subst m
     exact Y5 ⟨rfl,by simp⟩) f9.out
    have k1:p < w5.heap.size:=SA g7 b6.out.size
    have wL:P=p\/w5.heap.size < P:=by
     rcases mE d7 with d | d
     .injection d with d;exact Y4 d.symm
     exact Y5 d
    have l0:w.heap.size<=w5.heap.size:=Rn (Rn HC.out.size b5.out.size) b6.out.size;have h7:=K A6;have i0:=K z
    have f6:H (∀x∈W,x.g≠P):=K (λx m=>by
     rcases wL with d | d
     .rw [d];exact f5.out x m
     obtain ⟨_,c9,c,_⟩:=(b3.out.mt x (by rw [<-a1.out.1];simp [m])).1;have:=aq c
     omega)
    have i3:H ((L (S ⟨gS,0,N⟩) (SS.length+1) s).ownBlock≠S P):=K (by
     rcases wL with d | d
     .rw [d];exact f9.out
     intro e;obtain ⟨c9,c⟩:=ik b3.out.rS e;have:=aq c
     omega)
    have f1:H (P=g\/w.heap.size<=P):=K (by
     rcases wL with d | d
     .rw [d];exact b7.out
     right;omega)
    have h8:H (aC (λk=>k=o\/k=g\/Y.ownBlock=S k\/X.ownBlock=S k) w w6):=K (by
     refine ((HC.out.trans b5.out ?_).trans b6.out ?_).trans C6 ?_
     .rintro y hy (c | c)
      .exact Y4 c
      rcases c6.out with d | ⟨y',d,d8⟩
      .exact Y5 (Y5 (Y4 (by rw [<-d];exact c)))
      rw [d] at c;injection c with c;omega
     .rintro y hy (c | c)
      .exact Y4 c
      rcases c5.out with d | ⟨y',d,d8⟩
      .exact Y5 (Y5 (Y5 (by rw [<-d];exact c)))
      rw [d] at c;injection c with c;omega
     intro y hy c
     rcases b7.out with d | d
     .exact Y5 (Y4 (by rw [c,d]))
     omega)
    have f7:H (∀x∈b++[(⟨p,k+j,B,M⟩:TE)],x.s=M/\(x.g=g\/w.heap.size<=x.g)/\x.n<=k+(j+1)):=K (λx m=>by
     rcases Rx.1 m with m | m
     .obtain ⟨r1,r2,r3⟩:=c8.out x m;exact ⟨r1,r2,by omega⟩
     simp only [Ry] at m;subst m
     exact ⟨rfl,b7.out,by show k+j<=_;omega⟩)
    clear A6 C6 d7 a6 R z O5 h3 j2 i5 wL;go_wp2_with fail
    refine ⟨⟨j+1,b++[⟨p,k+j,B,M⟩],P,mH,_,_,by omega,by go_num,rfl,by simp;omega,?_,i0,i3,f1,f7,f6,i2,i1,h8⟩,by simp [Y9];omega⟩
    rw [<-Sq,a1.out.1,Sh, <-Sq,a1.out.2];exact h7
   have i8:j=4:=by omega
   subst i8;go_wp2_with fail
   refine RN (RP rfl _ _ _) rfl ?_;exact ⟨rfl,b,v,q,Z.out,h0,λx m=>(c8.out x m).2.1,c6.out,c5.out,HC.out⟩
theorem Ei{s:Nat}{w:QI}{v:QJ}{b:List (aX×Nat)}(h:dK s w v b){x:aX×Nat}(i:x∈b):∃a,w.heap[x.2]? =S (YU a 9 (0,0))/\a.size=x.1.xd.length:=by
 rcases (h.xd x i).2 with ⟨e,_⟩ | ⟨g,c,a,e,_,d,_,_,f,_⟩
 .cases e
 injection e with e1 _ e3;injection e1 with e1;injection e1 with e1 _;subst e1;exact ⟨a,d,by rw [f, <-e3];omega⟩
theorem P5{s:Nat}{w:QI}{v:QJ}{a:List (aX×Nat)}(h:w.ownsRow s 91 5 v a.length (gC (a.map iP))){k:Nat}(f:k < a.length):∃g b,v=L (S ⟨g,0,N⟩) a.length b/\w.cell? ⟨g,k * 5+3,N⟩=S (iP a[k]).2:=by
 rcases h.2 with ⟨_,j⟩ | ⟨g,b,c,e,_,d,_,_,l,i⟩
 .omega
 refine ⟨g,b,e,?_⟩;rw [Q3 d, <-Sl, <-Sk (show k * 5+3 < a.length * 5 by omega),i,wT _ k 3 (by rw [RU];exact f) (by omega),RV];rfl
structure M1(w:QI)(w':QI)(s bb N came:Nat)(kv wv v vM vO vT vS:QJ)(rows:List (aX×Nat))(ts:List TE)(ss:List QF)(ms:List ME)(os:List Nat)(k:Nat)(ts':List TE)(vT' vS':QJ):Prop where
 bk:ft w' bb (N+k) came kv wv (ts++ts') (ss++ts'.map TE.s) ms os vM vO vT' vS'
 len:ts'.length=4 * k
 row:w'.ownsRow s 91 5 v rows.length (gC (rows.map iP))
 xd:∀j (h:j < rows.length),k<=j->∃cur,w'.heap[rows[j].2]? =S (YU cur 9 (0,0))/\cur.size=rows[j].1.xd.length
 far:∀x∈ts++ts',∀j (h:j < rows.length),k<=j->x.g≠rows[j].2
 yM:∀j (h:j < rows.length),k<=j->vS'.ownBlock≠S rows[j].2
 news:∀x∈ts',(∃r∈rows,x.g=r.2)\/w.heap.size<=x.g
 nT:dd w vT vT'
 nS:dd w vS vS'
 xt:aC (λk=>k=bb\/(∃r∈rows,k=r.2)\/vT.ownBlock=S k\/vS.ownBlock=S k) w w'
theorem M1.step{w wr w':QI}{s z a m k:Nat}{M W v U V vT Z q p u t:QJ}{b:List (aX×Nat)}{R o n:List TE}{Q:List QF}{O:List ME}{P:List Nat}(h:M1 w wr s z a m M W v U V vT Z b R Q O P k o q p)(C:k < b.length)(E:(b.map (·.2)).Nodup)
  (hB:ft w' z (a+k+1) m M W (R++o++n) (Q++o.map TE.s++n.map TE.s) O P U V u t) (hl:n.length=4) (Y:∀x∈n,x.g=b[k].2\/wr.heap.size<=x.g) (hT:dd wr q u) (X:dd wr p t) (D:aC (λj=>j=z\/j=b[k].2\/q.ownBlock=S j\/p.ownBlock=S j) wr w'):
  M1 w w' s z a m M W v U V vT Z b R Q O P (k+1) (o++n) u t:=by
 have A:∀j (i:j < b.length),k+1<=j->b[j].2≠b[k].2:=λj i l e=>by
  have:=List.pairwise_iff_getElem.1 E k j (by simpa using C) (by simpa using i) (by omega);simp only [RV] at this;exact this e.symm
 obtain ⟨ck,ek,_⟩:=h.xd k C (QR _)
 have nA:∀j (i:j < b.length),k+1<=j->∀f,wr.heap[b[j].2]? =S (YU f 9 (0,0))->¬(b[j].2=z\/b[j].2=b[k].2\/q.ownBlock=S b[j].2\/p.ownBlock=S b[j].2):=λj i l f e=>by
  rintro (c | c | c | c)
  .rw [c,h.bk.xp] at e;simp at e
  .exact A j i l c
  .exact cA h.bk.rT e (by decide) c
  exact h.yM j i (by omega) c
 have B:=h.xt.size;refine ⟨by rw [<-Sq,Sh, <-Sq];exact hB,by rw [RI,h.len,hl];omega,?_,λj i l=>?_,λx d j i l=>?_,λj i l=>?_,λx d=>?_,h.nT.trans hT B,h.nS.trans X B,?_⟩
 .refine aI h.row D λg f e _=>?_;rintro (c | c | c | c)
  .rw [c,h.bk.xp] at e;simp at e
  .rw [c,ek] at e;simp at e
  .exact cA h.bk.rT e (by decide) c
  exact cA h.bk.rS e (by decide) c
 .obtain ⟨f,e,hz⟩:=h.xd j i (by omega);exact ⟨f,D.some_ e (nA j i l f e),hz⟩
 .rw [<-Sq] at d
  rcases Rx.1 d with d | d
  .exact h.far x d j i (by omega)
  obtain ⟨f,e,_⟩:=h.xd j i (by omega);have:=aq e
  rcases Y x d with c | c
  .rw [c];exact λe=>A j i l e.symm
  omega
 .obtain ⟨f,e,_⟩:=h.xd j i (by omega);have:=aq e
  rcases X with c | ⟨y,c,hy⟩
  .rw [c];exact h.yM j i (by omega)
  rw [c];intro e;injection e with e;omega
 .rcases Rx.1 d with d | d
  .exact h.news x d
  rcases Y x d with c | c
  .exact Y4 ⟨b[k],QU C,c⟩
  right;omega
 refine h.xt.trans D λy hy=>?_;rintro (c | c | c | c)
 .exact Y4 c
 .exact Y5 (Y4 ⟨b[k],QU C,c⟩)
 .rcases h.nT with r | ⟨y',r,G⟩
  .exact Y5 (Y5 (Y4 (by rw [<-r];exact c)))
  rw [r] at c;injection c with c;omega
 rcases h.nS with r | ⟨y',r,G⟩
 .exact Y5 (Y5 (Y5 (by rw [<-r];exact c)))
 rw [r] at c;injection c with c;omega
def mL(n k:Nat):List QJ:=(List.replicate n (pR k)).flatten
theorem lu(n k:Nat):(mL n k).length=n * 5:=by
 unfold mL
 induction n with
 | zero=>rfl
 | succ n ih=>rw [List.replicate_succ,List.flatten_cons,RI,ih];simp [pR];omega
theorem wu(n k:Nat):mL (n+1) k=mL n k++pR k:=by
 unfold mL;rw [UJ,List.flatten_append];simp
theorem ET(n k j i:Nat)(b:j < n)(a:i < 5):(mL n k)[j * 5+i]? =(pR k)[i]? :=by
 induction n with
 | zero=>omega
 | succ n ih=>
  rw [wu]
  by_cases h:j < n
  .rw [Sc (by rw [lu];omega)];exact ih h
  obtain rfl:j=n:=by omega
  rw [Se (by rw [lu];omega),lu]
  congr 1;omega
theorem Cl{w:QI}{g n c k:Nat}(h:w.ownsRow 0 91 5 (L (S ⟨g,0,N⟩) n c) n (mL n k)){x:ME}{d:Nat}(l:x.v=L (S ⟨g,0,N⟩) x.n d)(u:x.n<=n)(p:x.k=k)(r:x.n<=2097152/\x.k<=1099511627776):kR w x:=by
 rcases h.2 with ⟨e,_⟩ | ⟨s,m,b,e,_,f,_,_,_,q⟩
 .cases e
 injection e with e1 _ _;injection e1 with e1;injection e1 with e1 _;subst e1;refine ⟨r,λy a=>by rw [l] at a;injection a with a;simp only at a;rw [<-a];exact aq f,_,d,l,Y5 ⟨g,b,rfl,f,λj i t o=>?_⟩⟩
 rw [<-Sl, <-Sk (show j * 5+i < n * 5 by omega),q,ET n k j i (by omega) o,p]
theorem Mt{D:Array QJ}{k a:Nat}{a0 a1 a2 a3 a4:QJ}(c:D.size=a * 5)(f:k < a)(h:∀j i,j < k->i < 5->D[j * 5+i]? =[a0,a1,a2,a3,a4][i]?):∀j i,j < k+1->i < 5->(((((D.setIfInBounds (k * 5) a0).setIfInBounds (k * 5+1) a1).setIfInBounds (k * 5+2) a2).setIfInBounds (k * 5+3) a3).setIfInBounds (k * 5+4) a4)[j * 5+i]? =[a0,a1,a2,a3,a4][i]? :=by
 intro j i d b
 by_cases e:j=k
 .subst e;have:i=0\/i=1\/i=2\/i=3\/i=4:=by omega
  rcases this with rfl | rfl | rfl | rfl | rfl
  .rw [TH (by omega),TH (by omega),TH (by omega),TH (by omega),Uz,if_pos (by omega),if_pos (by omega)];rfl
  .rw [TH (by omega),TH (by omega),TH (by omega),Uz,if_pos (by omega),if_pos (by simp;omega)];rfl
  .rw [TH (by omega),TH (by omega),Uz,if_pos (by omega),if_pos (by simp;omega)];rfl
  .rw [TH (by omega),Uz,if_pos (by omega),if_pos (by simp;omega)];rfl
  rw [Uz,if_pos (by omega),if_pos (by simp;omega)];rfl
 rw [TH (by omega),TH (by omega),TH (by omega),TH (by omega),TH (by omega)];exact h j i (by omega) b
theorem ft.zi{w q:QI}{M b n:Nat}{R wv X Y vT Z:QJ}{W:List TE}{V:List QF}{G:List ME}{U:List Nat}{o:Obj}(h:ft w M b n R wv W V G U X Y vT Z){v:QJ}{m p cL k:Nat}(hO:w.ownsRow 0 91 5 v m (mL m k))(u:q.ownsRow 0 91 5 (L (S ⟨p,0,N⟩) (m+1) cL) (m+1) (mL (m+1) k))
  (t:(v.ownBlock=S p/\(w.alloc o).grownBy q (S p))\/(p=(w.alloc o).heap.size/\(w.alloc o).grownBy q N)) (E:∀x∈G,(∀g,x.v.ownBlock=S g->v.ownBlock≠S g)\/(x.k=k/\x.n<=m+1)):ft q M b n R wv W V G U X Y vT Z/\aC (λk=>v.ownBlock=S k) w q:=by
 have i:=kC t;have f:∀{g:Nat} {d:Array QJ} {e:Za},91≠e->w.heap[g]? =S (YU d e (0,0))->¬v.ownBlock=S g:=λhe e B=>cA hO e he B;refine ⟨⟨i.some_ h.xp (f (by decide) h.xp),aI h.rT i λg d e _=>f (by decide) e,aI h.rS i λg d e _=>f (by decide) e,aI h.rM i λg d e _=>f (by decide) e,aI h.rO i λg d e _=>f (by decide) e,λx l=>⟨?_,(h.mt x l).2⟩,λx l=>?_⟩,i⟩
 .obtain ⟨_,d,e,_⟩:=id (h.mt x l).1;exact (h.mt x l).1.xt i (f (by decide) e)
 rcases E x l with E | ⟨r1,r2⟩
 .exact (h.mm x l).xt i λg d e B=>E g B
 rcases t with ⟨g1,g2⟩ | ⟨g1,g2⟩
 .obtain ⟨Q,D,a,c,e,r⟩:=id (h.mm x l)
  rcases r with r | ⟨g,d,P,eg,r⟩
  .exact ⟨Q,λy ey=>SA (D y ey) i.size,a,c,e,Y4 r⟩
  by_cases O:g=p
  .subst O;exact Cl u (by rw [e,P]) r2 r1 Q
  refine (h.mm x l).xt (aC.trans (A:=λj=>j=p) (aC.below ((QQ _ _).alloc (QR _) o)) (aC.grown g2) (λj _ z=>by injection z with z;exact z.symm)) λg8 c8 z s e6=>?_;rw [e,P] at s;injection s with s;simp only at s;exact O (s.trans e6)
 have C:aC (λ_=>False) w q:=(aC.below (A:=λ_=>False) ((QQ _ _).alloc (QR _) o)).trans (aC.grown g2) (λk _ e=>by cases e);exact (h.mm x l).xt C λ_ _ _ _=>id
structure qM(w w':QI)(bb N came:Nat)(kv wv v vM vO vT vS:QJ)(rows:List (aX×Nat))(ts:List TE)(ss:List QF)(ms:List ME)(os:List Nat)(ts':List TE)(ms':List ME)(vM' vO' vT' vS':QJ):Prop where
 bk:ft w' bb (N+rows.length+1) came kv wv (ts++ts') (ss++ts'.map TE.s) (ms++ms') (os++ms'.map ME.k) vM' vO' vT' vS'
 yO:ts'.length=4 * rows.length
 yN:ms'.length=4
 yP:∀x∈ts',(∃r∈rows,x.g=r.2)\/w.heap.size<=x.g
 xz:∀x∈ms',∀g,x.v.ownBlock=S g->v.ownBlock=S g\/w.heap.size<=g
 nT:dd w vT vT'
 nS:dd w vS vS'
 nM:dd w vM vM'
 nO:dd w vO vO'
 xt:aC (λk=>k=bb\/(∃r∈rows,k=r.2)\/v.ownBlock=S k\/vT.ownBlock=S k\/vS.ownBlock=S k\/vM.ownBlock=S k\/vO.ownBlock=S k) w w'
theorem Kp{w:QI}{a:QK}{n c k:Nat}(h:w.ownsRow 0 91 5 (L a n c) n (mL n k))(d:n<=2097152/\k<=1099511627776):kR w ⟨L a n c,n,k⟩:=by
 rcases h.2 with ⟨e,j⟩ | ⟨g,f,i,e,_⟩
 .exact ⟨d,λy b=>(by rw [show (⟨L a n c,n,k⟩:ME).v=_ from e] at b;cases b),a,c,rfl,Y4 j⟩
 injection e with e1 _ e3;subst e1 e3;exact Cl h rfl (QR _) rfl d
theorem PY{w a:QI}{o:Obj}{v:QJ}{g:Nat}(h:(v.ownBlock=S g/\(w.alloc o).drew.grownBy a (S g))\/(g=(w.alloc o).drew.heap.size/\(w.alloc o).drew.grownBy a N)):(v.ownBlock=S g/\(w.alloc o).grownBy a (S g))\/(g=(w.alloc o).heap.size/\(w.alloc o).grownBy a N):=
 h.imp (λh=>⟨h.1,⟨h.2.os,h.2.tape,h.2.output,h.2.size,h.2.block⟩⟩) (λh=>⟨h.1,⟨h.2.os,h.2.tape,h.2.output,h.2.size,h.2.block⟩⟩)
theorem Ie:(prog.info? 43).map (λi=>(i.zero,i.size,i.bytes))=S (S (L N 0 0),1,24):=by kernel_rfl
theorem BU(s C b E:Nat)(kv wv v vM vO vT vS:QJ)(d:List (aX×Nat))(ts:List TE)(ss:List QF)(ms:List ME)(os:List Nat)(w:QI)(h:ft w C b E kv wv ts ss ms os vM vO vT vS)(hr:dK s w v d)(i5:∀x∈ts,∀r∈d,x.g≠r.2)(i6:∀r∈d,vS.ownBlock≠S r.2)(i8:∀x∈ms,∀g,x.v.ownBlock=S g->v.ownBlock≠S g)
  (hz:∀r∈d,r.1.xd.length<=255) (p5:d.length<=1048576) (hN:b<=549755813888) (p7:ts.length<=549755813888) (p6:ss.length<=549755813888) (p2:ms.length<=549755813888) (p4:os.length<=549755813888):
  Y8 Ys 70 #[YV (S ⟨C,0,N⟩),v] w λe w'=>e=YX (YY #[])/\∃o4 B X a6 o6 o5,qM w w' C b E kv wv v vM vO vT vS d ts ss ms os o4 B X a6 o6 o5:=by
 have M0:M1 w w s C b E kv wv v vM vO vT vS d ts ss ms os 0 [] vT vS:=
  ⟨by simpa using h,rfl,hr.row,λj hj _=>Ei hr (QU hj),λx n j hj _=>i5 x (by simpa using n) _ (QU hj),λj hj _=>i6 _ (QU hj),λx n=>by simp at n,dd.refl _ _,dd.refl _ _,aC.refl _ _⟩
 obtain ⟨av,cv,ev⟩:∃a c,v=L a d.length c:=by
  rcases hr.row.2 with ⟨e,h0⟩ | ⟨g,z,R,e,_⟩
  .exact ⟨_,_,by rw [h0];exact e⟩
  exact ⟨_,_,e⟩
 have g7:=K M0;have l7:=K hr.apart;have g0:=K i8;have HZ:=K hz;have a5:=K ev;rw [ev];clear M0 h hr i5 i6 i8 hz ev;go_enter func70,ntmps70;go_wp2_with fail
 go_loopw [4] (λi w'=>∃(k:Nat) (G:List TE) (Z Y:QJ),k<=d.length/\i=I J k/\H (M1 w w' s C b E kv wv v vM vO vT vS d ts ss ms os k G Z Y)) (λi _=>d.length - (Y9 i).toNat)
 case atStart=>exact ⟨0,[],vT,vS,QS _,rfl,g7⟩
 case round=>
  clear g7;obtain ⟨k,G,Z,Y,hk,rfl,O⟩:=hrel
  by_cases V:k < d.length
  .have j2:(k:Int) < (d.length:Int):=by omega
   obtain ⟨g,z,eg,cg⟩:=P5 O.out.row V;rw [a5.out] at eg;injection eg with eg1 _ eg3;subst eg1 eg3;obtain ⟨R,ec,h8⟩:=O.out.xd k V (QR _);have k6:=HZ.out d[k] (QU V);have p1:=O.out.len;have m8:=K (LH C (b+k) E d[k].2 d[k].1.xd.length kv wv vM vO Z Y (ts++G) (ss++G.map TE.s) ms os wr R O.out.bk ec h8 (λx n=>O.out.far x n k V (QR _)) (O.out.yM k V (QR _)) k6 (by omega) (by rw [RI];omega) (by rw [RI,RU];omega));have o9:wr.cell? ⟨g,k * 5+3,N⟩=S (.slice (S ⟨d[k].2,0,N⟩) d[k].1.xd.length d[k].1.xd.length):=cg;clear cg ec h8 k6;go_wp2_with fail
   refine m8.out.mono ?_;rintro e w2 ⟨rfl,q2,q4,q3,hB,j1,k5,h6,h5,h4⟩;have m2:=K (O.out.step V l7.out hB j1 k5 h6 h5 h4);clear hB j1 k5 h6 h5 h4;go_wp2_with fail
   exact ⟨⟨k+1,_,_,_,by omega,by go_num,m2⟩,by simp [Y9];omega⟩
  have a9:k=d.length:=by omega
  subst a9;have c0:wr.cell? ⟨C,0,N⟩=S (I J ((b+d.length:Nat):Int)):=Q3 O.out.bk.xp _;have f0:=RJ O.out.bk.xp 0;have o0:IntKind.i64.wrap ((b:Int)+(d.length:Int)+1)=(b:Int)+(d.length:Int)+1:=by rw [QY];omega
  obtain ⟨q,h3⟩:=QE (b+d.length+1);have n5:(b:Int)+(d.length:Int)+1=(q:Int):=by omega
  rw [n5] at o0;have p3:IntKind.i64.wrap (-(q:Int))= -(q:Int):=by rw [QY];omega
  obtain ⟨P,f4⟩:=QE (wr.setCell ⟨C,0,N⟩ (I J (q:Int)));obtain ⟨W2,c8⟩:=QE (P.alloc (YU #[I J (-(q:Int)),I J 0,T ⟨#[]⟩,L N 0 0,T ⟨#[]⟩] 91));have S1:aA C wr P:=by rw [<-f4];exact (aA.refl _ _).setCell _
  have A1:ft P C q E kv wv (ts++G) (ss++G.map TE.s) ms os vM vO Z Y:=O.out.bk.yg S1 (by rw [<-f4];exact Ro wr C 0 _ _ _ O.out.bk.xp);have B2:=QG c8;have Q:=K (A1.xo B2);have k1:=QH c8;have b6:P.heap.size=wr.heap.size:=S1.1;have R2:H (W2.ownsRow s 91 5 v d.length (gC (d.map iP))):=K (aB (aI O.out.row (aC.same S1) λg R e _ U=>by rw [U,O.out.bk.xp] at e;simp at e) λg R e _=>ae B2 e);have C2:H (aC (λk=>k=C\/(∃r∈d,k=r.2)\/vT.ownBlock=S k\/vS.ownBlock=S k) w W2):=K ((O.out.xt.trans (aC.same S1) (λ_ _ e=>Y4 e)).trans (aC.below (A:=λ_=>False) B2) (λ_ _ f=>f.elim));have d9:=K k1;have q0:P.cell? ⟨C,0,N⟩=S (I J (q:Int)):=Q3 A1.xp _;have m5:=K O.out.news;have m1:=K O.out.len;have m4:=K O.out.nT;have m3:=K O.out.nS;have o8:w.heap.size<=P.heap.size:=by rw [b6];exact O.out.xt.size
  have f1:H (∀g,v.ownBlock=S g->g < P.heap.size):=K (λg e=>by
   obtain ⟨c9,m⟩:=ik O.out.row e;rw [b6]
   exact aq m)
  have g4:=K h3;have g8:=K c8;clear S1 A1 B2 k1 b6 O h3 c8;go_wp2_with fail
  rw [g8.out];clear q0 c0 f0 f4;go_loopw [6] (λi w'=>∃k:Nat,k<=d.length/\i=I J k/\H (aC (λk=>v.ownBlock=S k) W2 w')/\H ((d.length=0/\w'=W2)\/∃g z D,v=L (S ⟨g,0,N⟩) d.length z/\w'.heap[g]? =S (YU D 91 (0,0))/\d.length<=z/\z<=maxLen/\D.size=z * 5/\∀j i,j < k->i < 5->D[j * 5+i]? =(pR q)[i]?)) (λi _=>d.length - (Y9 i).toNat)
  case atStart=>
   refine ⟨0,QS _,rfl,K (aC.refl _ _),K ?_⟩
   rcases R2.out.2 with ⟨_,h0⟩ | ⟨g,z,D,e,_,hg,b0,a8,hs,_⟩
   .exact Y4 ⟨h0,rfl⟩
   exact Y5 ⟨g,z,D,e,hg,b0,a8,hs,λj i hj=>by omega⟩
  case round=>
   obtain ⟨k,hk,rfl,HC,HD⟩:=hrel
   by_cases V:k < d.length
   .have j2:(k:Int) < (d.length:Int):=by omega
    obtain ⟨g,z,D,eg,hg,b0,a8,c7,c6⟩:=HD.out.resolve_left (by omega);have i9:=a5.out;rw [eg] at i9;injection i9 with hev1 _ hev3;subst hev1 hev3;have mi:wr.heap[P.heap.size]? =S (YU #[I J (-(q:Int)),I J 0,T ⟨#[]⟩,L N 0 0,T ⟨#[]⟩] 91 (0,0)):=HC.out.some_ d9.out (λe=>by have:=f1.out _ e;omega);obtain ⟨i0,i1,i2,i3,i4⟩:=QO mi;have ex:∀y,y < 5->∃u,wr.cell? ⟨g,k * 5+y,N⟩=S u:=λy hy=>by rw [Q3 hg];exact ⟨_,Si (by omega)⟩
    obtain ⟨u0,x0⟩:=ex 0 (by omega);rw [QT] at x0;obtain ⟨u1,x1⟩:=ex 1 (by omega);obtain ⟨u2,x2⟩:=ex 2 (by omega);obtain ⟨u3,x3⟩:=ex 3 (by omega);obtain ⟨u4,x4⟩:=ex 4 (by omega);have y0:=RJ hg (k * 5);have y1:=RJ hg (k * 5+1);have y2:=RJ hg (k * 5+2);have y3:=RJ hg (k * 5+3);have y4:=RJ hg (k * 5+4);have HG:=K hg;have HF:=K (Mt (a0:=I J (-(q:Int))) (a1:=I J 0) (a2:=T (bs [])) (a3:=L N 0 0) (a4:=T (bs [])) c7 (by omega:k < z) c6);have m9:H (v.ownBlock=S g):=K (by rw [eg];rfl);have m0:=K eg;clear ex mi hg c6 eg;go_wp2_with fail
    refine ⟨⟨k+1,by omega,by go_num,K (HC.out.trans (aC.same (p:=g) ?_) (λy _ e=>by rw [e];exact m9.out)),K (Y5 ⟨g,z,_,m0.out,Ro _ g (k * 5+4) _ _ _ (Ro _ g (k * 5+3) _ _ _ (Ro _ g (k * 5+2) _ _ _ (Ro _ g (k * 5+1) _ _ _ (Ro _ g (k * 5) _ _ _ HG.out)))),b0,a8,by simp [c7],HF.out⟩)⟩,by simp [Y9];omega⟩
    exact (((((aA.refl _ _).setCell _).setCell _).setCell _).setCell _).setCell _
   have a9:k=d.length:=by omega
   subst a9
   have A3:H (ft wr C q E kv wv (ts++G) (ss++G.map TE.s) (ms++[]) (os++([]:List ME).map ME.k) vM vO Z Y):=K (by
    simp only [RF,List.append_nil];refine Q.out.xt HC.out (cA R2.out Q.out.xp (by decide)) (λg e U=>?_) (λg e U=>?_) (λg e U=>?_) (λg e U=>?_) (λx n U=>?_) (λx n g R e e1 U=>g0.out x n g e1 U)
    .obtain ⟨c9,m⟩:=ik Q.out.rT e;exact cA R2.out m (by decide) U
    .obtain ⟨c9,m⟩:=ik Q.out.rS e;exact cA R2.out m (by decide) U
    .obtain ⟨c9,m⟩:=ik Q.out.rM e;exact cA R2.out m (by decide) U
    .obtain ⟨c9,m⟩:=ik Q.out.rO e;exact cA R2.out m (by decide) U
    obtain ⟨_,c9,m,_⟩:=(Q.out.mt x n).1
    exact cA R2.out m (by decide) U)
   have O3:H (wr.ownsRow 0 91 5 v d.length (mL d.length q)):=K (by
    rcases HD.out with ⟨h0,rfl⟩ | ⟨g,z,D,eg,hg,b0,a8,c7,c6⟩
    .have:=(R2.out.mono (QS _)).2;refine ⟨by rw [lu],?_⟩
     rcases this with r | ⟨g,z,R,e1,e2,e3,e4,e5,e6,e7⟩
     .exact Y4 r
     exact Y5 ⟨g,z,R,e1,e2,e3,e4,e5,e6,by rw [h0];rfl⟩
    refine ⟨by rw [lu],Y5 ⟨g,z,D,eg,QS _,hg,b0,a8,c7,?_⟩⟩
    apply RY;intro y
    by_cases hy:y < d.length * 5
    .rw [Sk hy,Sl];have e1:=c6 (y / 5) (y % 5) (by omega) (by omega);have e2:=ET d.length q (y / 5) (y % 5) (by omega) (by omega);rw [show y / 5 * 5+y % 5=y by omega] at e1 e2
     rw [e1,e2]
    rw [Sg (by rw [Sm];omega),Sg (by rw [lu];omega)])
   have I3:H (wr.heap[P.heap.size]? =S (YU #[I J (-(q:Int)),I J 0,T ⟨#[]⟩,L N 0 0,T ⟨#[]⟩] 91 (0,0))):=K (HC.out.some_ d9.out (λe=>by have:=f1.out _ e;omega))
   have C3:H (aC (λk=>k=C\/(∃r∈d,k=r.2)\/v.ownBlock=S k\/vT.ownBlock=S k\/vS.ownBlock=S k\/vM.ownBlock=S k\/vO.ownBlock=S k) w wr):=K ((C2.out.mono (λy _ e=>by
    rcases e with e | e | e | e
    .exact Y4 e
    .exact Y5 (Y4 e)
    .exact Y5 (Y5 (Y5 (Y4 e)))
    exact Y5 (Y5 (Y5 (Y5 (Y4 e)))))).trans HC.out (λy _ e=>Y5 (Y5 (Y4 e))))
   obtain ⟨im,n8,l3,l4,l5⟩:=Rr Ie;obtain ⟨ii,n6,k7,k8,k9⟩:=Rr mO;obtain ⟨il,n7,l0,l1,l2⟩:=Rr pv;clear HD HC Q R2 C2 d9 g8;go_wp2_with fail
   go_loopw [1,7] (λl i w'=>∃(j:Nat) (B:List ME) (a:QK) (c:Nat) (X a6:QJ),j<=4/\i=I J j/\l=L a (d.length+j) c/\B.length=j/\H (ft w' C q E kv wv (ts++G) (ss++G.map TE.s) (ms++B) (os++B.map ME.k) X a6 Z Y)/\H (w'.ownsRow 0 91 5 (L a (d.length+j) c) (d.length+j) (mL (d.length+j) q))/\H (∀x∈B,x.k=q/\x.n<=d.length+j/\∀g,x.v.ownBlock=S g->v.ownBlock=S g\/w.heap.size<=g)/\H (∀x∈ms,∀g,x.v.ownBlock=S g->(L a (d.length+j) c).ownBlock≠S g)/\H (∀g,(L a (d.length+j) c).ownBlock=S g->v.ownBlock=S g\/P.heap.size < g)/\H (w'.heap[P.heap.size]? =S (YU #[I J (-(q:Int)),I J 0,T ⟨#[]⟩,L N 0 0,T ⟨#[]⟩] 91 (0,0)))/\H (dd w vM X)/\H (dd w vO a6)/\H (aC (λk=>k=C\/(∃r∈d,k=r.2)\/v.ownBlock=S k\/vT.ownBlock=S k\/vS.ownBlock=S k\/vM.ownBlock=S k\/vO.ownBlock=S k) w w')) (λ_ i _=>4 - (Y9 i).toNat)
   case atStart=>exact ⟨0,[],av,cv,vM,vO,by omega,rfl,rfl,rfl,A3,K (by rw [QT, <-a5.out];exact O3.out),K (λx n=>by simp at n),K (by rw [QT, <-a5.out];exact g0.out),K (by rw [QT, <-a5.out];exact λg e=>Y4 e),I3,K (dd.refl _ _),K (dd.refl _ _),C3⟩
   case round=>
    clear A3 O3 I3 C3;obtain ⟨j,B,a,c,X,a6,hj,rfl,rfl,k2,HA,HO,HX,g9,c5,HI,e0,e8,HC⟩:=hrel
    by_cases p0:j < 4
    .have o7:(j:Int) < 4:=by omega
     have f6:(ms++B).length<=549755813892:=by rw [RI];omega
     have f7:(os++B.map ME.k).length<=549755813892:=by rw [RI,RU];omega
     obtain ⟨MM,f2⟩:=QE (ms++B);obtain ⟨OO,f3⟩:=QE (os++B.map ME.k);rw [f2] at HA f6;rw [f3] at HA f7;have q5:wr.cell? ⟨C,5,N⟩=S X:=Q3 HA.out.xp _;have rM:=HA.out.rM;obtain ⟨aM,nM,cM,eM⟩:=fu rM;subst eM;have b7:=K (And.intro f2 f3);clear f2 f3
     go_wp2_with (first
      | (at_builtin;refine cB _ rfl _ _ 44 rfl 0 43 im _ 1 24 underlying44 n8 l3 l4 l5 rfl (by decide) _ _ _ rfl (rM.alloc _) ⟨wr.heap.size,0,N⟩ 1 1 [L a (d.length+j) c] rfl rfl ?c1 ?c2 (by decide) ?c3 ?c4 (QS _) ?_)
      | fail)
     case c1=>exact World.news_of_block (cs:=#[L a (d.length+j) c]) (t:=43) (fr:=(0,0)) (Q0 wr _)
     case c2=>intro u hu;simp at hu;subst hu;rfl
     case c3=>unfold maxLen;omega
     case c4=>omega
     intro gM d2 w2 b3 d5;have d0:((L aM nM cM).ownBlock=S gM/\(wr.alloc (YU #[L a (d.length+j) c] 43)).grownBy w2 (S gM))\/(gM=(wr.alloc (YU #[L a (d.length+j) c] 43)).heap.size/\(wr.alloc (YU #[L a (d.length+j) c] 43)).grownBy w2 N):=d5.imp id (λh=>⟨by simpa using h.1,h.2⟩);have h7:=kC d0;have b2:=h7.some_ HA.out.xp (cA rM HA.out.xp (by decide));have o1:w2.cell? ⟨C,5,N⟩=S (L aM nM cM):=Q3 b2 _;have n3:=RJ b2 5;obtain ⟨A3,C3⟩:=HA.out.opM (x:=⟨L a (d.length+j) c,d.length+j,q⟩) (Kp HO.out ⟨by omega,by have:=g4.out;omega⟩) b3 d0
     have O3:=aI HO.out C3 λy h2 e U=>by
      rintro (m | m)
      .rw [m,HA.out.xp] at e;simp at e
      exact cA rM e (by decide) m
     have I3:=C3.some_ HI.out (by
      rintro (m | m)
      .have:=HI.out;rw [m,HA.out.xp] at this;simp at this
      exact cA rM HI.out (by decide) m)
     obtain ⟨w3,k3⟩:=QE (w2.setCell ⟨C,5,N⟩ (L (S ⟨gM,0,N⟩) (MM.length+1) d2));rw [k3] at A3 C3 O3 I3;have n1:=K (e0.out.trans (uR (v':=L (S ⟨gM,0,N⟩) (MM.length+1) d2) rfl d0) HC.out.size);have rO:=A3.rO;obtain ⟨aO,nO,cO,eO⟩:=fu rO;subst eO;have q6:w3.drew.cell? ⟨C,6,N⟩=S (L aO nO cO):=by show w3.cell? _=_;rw [Q3 A3.xp];rfl
     have q0:w3.drew.cell? ⟨C,0,N⟩=S (I J (q:Int)):=by show w3.cell? _=_;rw [Q3 A3.xp];rfl
     have o3:∀o:Obj,(w3.alloc o).cell? ⟨C,6,N⟩=S (L aO nO cO):=λo=>by rw [Q3 (ae ((QQ _ w3).alloc (QR _) o) A3.xp)];rfl
     have a7:=K A3;have f9:=K C3;have m6:=K O3;have d8:=K I3;clear A3 C3 O3 I3 d0 d5 b3 h7 b2 rM q5;go_wp2_with fail
     go_region_law (first
      | (refine r8 _ (by rfl) _ _ _ (by rfl) 0 3 ii _ 1 8 underlying33 n6 k7 k8 k9 rfl (by decide) (L aO nO cO) OO.length (bc OO) (by rfl) ((rO.alloc _).drew) ⟨w3.heap.size,0,N⟩ 1 1 [I J (q:Int)] (by rfl) (by rfl) (World.news_of_block (cs:=#[I J (q:Int)]) (t:=3) (fr:=(0,0)) (Q0 w3 _)) (by simp [Value.oneCell']) (by decide) (by unfold maxLen;omega) (by omega) (QS _) ?_;intro gO d3 w4 b5 d6;have d1:=PY d6;have b4:=(kC d1).some_ a7.out.xp (cA rO a7.out.xp (by decide));have o2:w4.cell? ⟨C,6,N⟩=S (L aO nO cO):=(Q3 b4 _);have n4:=RJ b4 6;obtain ⟨A5,C5⟩:=a7.out.opO (k0:=q) b5 d1;obtain ⟨w5,k4⟩:=QE (w4.setCell ⟨C,6,N⟩ (L (S ⟨gO,0,N⟩) (OO.length+1) d3));rw [k4] at A5 C5;have f8:=K A5;have d7:=K C5;have n2:=K (e8.out.trans (uR (v':=L (S ⟨gO,0,N⟩) (OO.length+1) d3) rfl d1) (Rn HC.out.size f9.out.size));clear A5 C5 d1 d6 b5 b4))
     all_goals
      have O5:=aI m6.out d7.out λy h2 e U=>by
       rintro (m | m)
       .rw [m,a7.out.xp] at e;simp at e
       exact cA rO e (by decide) m
      have I5:=d7.out.some_ d8.out (by
       rintro (m | m)
       .have:=d8.out;rw [m,a7.out.xp] at this;simp at this
       exact cA rO d8.out (by decide) m)
      have i0:w5.cell? ⟨P.heap.size,0,N⟩=S (I J (-(q:Int))):=Q3 I5 _;have i1:w5.cell? ⟨P.heap.size,1,N⟩=S (I J 0):=Q3 I5 _;have i2:w5.cell? ⟨P.heap.size,2,N⟩=S (T ⟨#[]⟩):=Q3 I5 _;have i3:w5.cell? ⟨P.heap.size,3,N⟩=S (L N 0 0):=Q3 I5 _;have i4:w5.cell? ⟨P.heap.size,4,N⟩=S (T ⟨#[]⟩):=Q3 I5 _;have g5:=K I5;clear I5 rO q6 q0 o3 k3 k4 o1 n3 o2 n4
      go_wp2_with (first
       | (at_builtin;refine cB _ rfl _ _ 43 rfl 0 91 il _ 5 72 underlying43 n7 l0 l1 l2 rfl (by decide) _ _ _ rfl (O5.alloc _) ⟨w5.heap.size,0,N⟩ 1 1 [I J (-(q:Int)),I J 0,T ⟨#[]⟩,L N 0 0,T ⟨#[]⟩] rfl rfl ?e1 ?e2 (by decide) ?e3 ?e4 (QS _) ?_)
       | fail)
      case e1=>exact World.news_of_block (cs:=#[I J (-(q:Int)),I J 0,T ⟨#[]⟩,L N 0 0,T ⟨#[]⟩]) (t:=91) (fr:=(0,0)) (Q0 w5 _)
      case e2=>intro u hu;simp at hu;rcases hu with rfl | rfl | rfl | rfl | rfl <;> rfl
      case e3=>unfold maxLen;omega
      case e4=>omega
      intro gL mH w6 b1 d4;have f5:((L a (d.length+j) c).ownBlock=S gL/\(w5.alloc (YU #[I J (-(q:Int)),I J 0,T ⟨#[]⟩,L N 0 0,T ⟨#[]⟩] 91)).grownBy w6 (S gL))\/(gL=(w5.alloc (YU #[I J (-(q:Int)),I J 0,T ⟨#[]⟩,L N 0 0,T ⟨#[]⟩] 91)).heap.size/\(w5.alloc (YU #[I J (-(q:Int)),I J 0,T ⟨#[]⟩,L N 0 0,T ⟨#[]⟩] 91)).grownBy w6 N):=d4.imp id (λh=>⟨by simpa using h.1,h.2⟩)
      have W:w6.ownsRow 0 91 5 (L (S ⟨gL,0,N⟩) (d.length+j+1) mH) (d.length+j+1) (mL (d.length+j+1) q):=by
       rw [wu];exact b1
      obtain ⟨A6,C6⟩:=f8.out.zi O5 W f5 (λx n=>by
       rcases Rx.1 n with n | n
       .rw [<-b7.out.1] at n
        rcases Rx.1 n with n | n
        .exact Y4 (g9.out x n)
        obtain ⟨r1,r2,_⟩:=HX.out x n;exact Y5 ⟨r1,by omega⟩
       simp only [Ry] at n;subst n
       exact Y5 ⟨rfl,by simp⟩)
      have wL:=mE f5;have q1:P.heap.size < w5.heap.size:=aq g5.out;have l6:=K A6;have m7:=K W
      have I6:=K (C6.some_ g5.out (λe=>by
       rcases c5.out _ e with M | M
       .have:=f1.out _ M;omega
       omega))
      have h1:H (∀x∈ms,∀g,x.v.ownBlock=S g->(L (S ⟨gL,0,N⟩) (d.length+j+1) mH).ownBlock≠S g):=K (λx n g e m=>by
       injection m with m;simp only at m;subst m
       rcases wL with M | M
       .exact g9.out x n _ e M
       have:=(f8.out.mm x (by rw [<-b7.out.1];simp [n])).2.1 _ e
       omega)
      have g6:H (∀g,(L (S ⟨gL,0,N⟩) (d.length+j+1) mH).ownBlock=S g->v.ownBlock=S g\/P.heap.size < g):=K (λg m=>by
       injection m with m;simp only at m;subst m
       rcases wL with M | M
       .exact c5.out _ M
       right;omega)
      have n0:H (∀x∈B++[(⟨L a (d.length+j) c,d.length+j,q⟩:ME)],x.k=q/\x.n<=d.length+(j+1)/\∀g,x.v.ownBlock=S g->v.ownBlock=S g\/w.heap.size<=g):=K (λx n=>by
       rcases Rx.1 n with n | n
       .obtain ⟨r1,r2,r3⟩:=HX.out x n;exact ⟨r1,by omega,r3⟩
       simp only [Ry] at n;subst n;refine ⟨rfl,by show d.length+j<=_;omega,λg e=>?_⟩
       rcases c5.out g e with M | M
       .exact Y4 M
       right;omega)
      have l8:H (aC (λk=>k=C\/(∃r∈d,k=r.2)\/v.ownBlock=S k\/vT.ownBlock=S k\/vS.ownBlock=S k\/vM.ownBlock=S k\/vO.ownBlock=S k) w w6):=K (by
       refine ((HC.out.trans f9.out ?_).trans d7.out ?_).trans C6 ?_
       .rintro y hy (m | m)
        .exact Y4 m
        rcases e0.out with M | ⟨y',M,a9⟩
        .exact Y5 (Y5 (Y5 (Y5 (Y5 (Y4 (by rw [<-M];exact m))))))
        rw [M] at m;injection m with m;omega
       .rintro y hy (m | m)
        .exact Y4 m
        rcases e8.out with M | ⟨y',M,a9⟩
        .exact Y5 (Y5 (Y5 (Y5 (Y5 (Y5 (by rw [<-M];exact m))))))
        rw [M] at m;injection m with m;omega
       intro y hy m
       rcases c5.out _ m with M | M
       .exact Y5 (Y5 (Y4 M))
       omega)
      clear A6 C6 f5 d4 b1 W O5 wL i0 i1 i2 i3 i4;go_wp2_with fail
      refine ⟨⟨j+1,B++[⟨L a (d.length+j) c,d.length+j,q⟩],S ⟨gL,0,N⟩,mH,_,_,by omega,by go_num,rfl,by simp;omega,?_,m7,n0,h1,g6,I6,n1,n2,l8⟩,by simp [Y9];omega⟩
      rw [<-Sq,b7.out.1,Sh, <-Sq,b7.out.2];exact l6
    have n9:j=4:=by omega
    subst n9;go_wp2_with fail
    refine RN (RP rfl _ _ _) rfl ?_;rw [<-a5.out];refine ⟨rfl,G,B,X,a6,Z,Y,⟨?_,m1.out,k2,m5.out,λx n=>(HX.out x n).2.2,m4.out,m3.out,e0.out,e8.out,HC.out⟩⟩;rw [g4.out];exact HA.out
def Pq(ms:List aX):Prop:=∀m∈ms,1<=m.xd.length/\m.xd.length<=255
theorem lU{w:QI}{a c n g:Nat}{e:Za}{v:QJ}{d:List QJ}(h:w.ownsRow a e c v n d)(b:v.ownBlock=S g):g < w.heap.size:=(h.lt g b).2
theorem Hc(z:List aX)(v:QJ)(w:QI)(h:fW w v z)(hl:z.length<=1048576)(hz:Pq z):Y8 Ys 69 #[v] w λe w'=>∃v' q,e=YX v'/\dz w.heap.size w' v' q/\q.map (·.1)=z/\Y6 w.heap.size w w':=by
 obtain ⟨ax,nx,cx,rfl⟩:∃a n c,v=L a n c:=by obtain ⟨l,_,hr,_⟩:=h;obtain ⟨a,c,e,_⟩:=hr.shape;exact ⟨_,_,_,e⟩
 obtain ⟨ex,px⟩:=h.cells;subst ex;have c7:=K px;have HZ:=K hz;obtain ⟨im,c8,b1,b4,b5⟩:=Rr pv;obtain ⟨is,c9,b6,b7,c0⟩:=Rr kj;clear h px hz;go_enter func69,ntmps69;go_wp2_with fail
 go_loopw [3,4] (λo i w'=>∃(k:Nat) (q:List (aX×QJ)),k<=z.length/\i=I J k/\q.length=k/\H (q.map (·.1)=z.take k)/\H (dz w.heap.size w' o q)/\H (Y6 w.heap.size w w')) (λ_ i _=>z.length - (Y9 i).toNat)
 case atStart=>exact ⟨0,[],QS _,rfl,rfl,K rfl,K ⟨World.ownsRow_nil _ _ _ _,λx hx=>by simp at hx⟩,K (QQ _ _)⟩
 case round=>
  obtain ⟨k,q,hk,rfl,d1,HE,HM,HB⟩:=hrel
  by_cases V:k < z.length
  .have d3:(k:Int) < (z.length:Int):=by omega
   obtain ⟨b,d7,d4,ct,rfl,hb,p0,p1,p2,p3,p4,pt⟩:=c7.out k V;have b0:=HZ.out z[k] (QU V);have a6:H (∀M,z[k]=M->z.take (k+1)=q.map (·.1)++[M]):=K (λM e=>by rw [List.take_succ_eq_append_getElem V,HE.out,e]);have a7:=K (a6.out _ rfl)
   generalize z[k]=M at p0 p1 p2 p3 p4 pt b0 a7
   obtain ⟨f,g,d,G,R⟩:=M;simp only at p0 p1 p2 p3 p4 pt b0;have Q:∀(c o:Nat) (u:QJ),w.cell? ⟨c,o,N⟩=S u->wr.cell? ⟨c,o,N⟩=S u:=λc o u h=>(HB.out.cell (p:=⟨c,o,N⟩) (by exact au h)).trans h;have q0:=Q _ _ _ p0;have q1:=Q _ _ _ p1;have q2:=Q _ _ _ p2;have q3:=Q _ _ _ p3;have q4:=Q _ _ _ p4;obtain ⟨c,o,rfl,d6,_⟩:=pt 0 (by omega)
   have Y:H (∀(W:QI),Y6 wr.heap.size wr W->∀j u,(ah G)[j]? =S u->W.cell? ((⟨c,o,N⟩:Addr).add j)=S u):=K (λW hW j u hj=>by
    have a8:j < G.length:=by have:=(List.getElem?_eq_some_iff.1 hj).1;simpa [ah] using this
    obtain ⟨c',o',O,d5,B⟩:=pt j a8;injection O with O;injection O with e1 e2;subst e1 e2;rw [gn _ _ a8] at hj
    rw [show (⟨c,o,N⟩:Addr).add j=⟨c,o+j,N⟩ by simp [Addr.add],hW.cell (p:=⟨c,o+j,N⟩) (by exact au (Q _ _ _ B)),Q _ _ _ B, <-hj])
   have a9:w.heap.size<=wr.heap.size:=HB.out.size;have M1:=HM.out.1;have c6:=K HM.out.2;clear p0 p1 p2 p3 p4 pt Q HE a6
   go_wp2_with (first
    | (at_builtin;refine Uo _ rfl _ _ 30 rfl w.heap.size 9 is _ 1 16 underlying30 c9 b6 b7 c0 rfl (by decide) _ _ _ rfl (World.ownsRow_nil _ _ _ _) ⟨c,o,N⟩ G.length ct (ah G) rfl ?a0 ?a1 ?a2 ?a3 ?a4 ?a5 ?_)
    | fail)
   case a0=>simp [ah]
   case a1=>exact Y.out _ ((QQ _ _).alloc (QR _) _)
   case a2=>intro u hu;simp only [ah,Rl] at hu;obtain ⟨t,_,rfl⟩:=hu;rfl
   case a3=>unfold maxLen;omega
   case a4=>omega
   case a5=>simp;omega
   intro v2 Z s r _;have U:Y6 (wr.heap.size+1) (wr.alloc (YU #[I J f,I J g,T (bs d),L (S ⟨c,o,N⟩) G.length ct,T (bs R)] 91)) Z:=⟨r.os,r.tape,r.output,r.size,λy hy=>r.block y (by simp;exact hy) (by intro e;cases e)⟩;have b2:Z.heap[wr.heap.size]? =S (YU #[I J f,I J g,T (bs d),L (S ⟨c,o,N⟩) G.length ct,T (bs R)] 91 (0,0)):=(U.block _ (by omega)).trans (Q0 wr _);have E:Y6 wr.heap.size wr Z:=((QQ _ wr).alloc (QR _) _).trans (U.mono (by omega));obtain ⟨a2,n2,c2,e2⟩:=fu s;subst e2;obtain ⟨w3,X⟩:=QE (Z.setCell ⟨wr.heap.size,3,N⟩ (L a2 n2 c2));have S3:aA wr.heap.size Z w3:=by rw [<-X];exact (aA.refl _ _).setCell _
   have b3:w3.heap[wr.heap.size]? =S (YU #[I J f,I J g,T (bs d),L a2 n2 c2,T (bs R)] 91 (0,0)):=by rw [<-X];exact Ro Z _ 3 _ _ _ b2
   have r3:Z.cell? ⟨wr.heap.size,3,N⟩=S (L (S ⟨c,o,N⟩) G.length ct):=Q3 b2 _;have f3:=RJ b2 3;obtain ⟨s0,s1,s2,s3,s4⟩:=QO b3;have V3:=K (aB s λy A e _=>bm S3 e (λO=>by rw [O,b2] at e;simp at e))
   have M3:w3.ownsRow w.heap.size 91 5 u3 q.length (gC q):=by
    have m2:=aB M1 λy A e _=>ae E e;refine aI m2 (aC.same S3) λy A e O e9=>?_;have:=lU M1 O;omega
   have T3:=K (λx hx=>aB (c6.out x hx) λy A e _=>bm S3 (ae E e) (λO=>by have:=aq e;omega));have B3:=K ((HB.out.trans (E.mono a9)).trans (S3.below a9));have d2:w.heap.size<=w3.heap.size:=by have:=B3.out.size;omega
   clear s r U b2 E S3 b3 M1 q0 q1 q2 q3 q4
   go_wp2_with (first
    | (at_builtin;refine Uo _ rfl _ _ 43 rfl w.heap.size 91 im _ 5 72 underlying43 c8 b1 b4 b5 rfl (by decide) _ _ _ rfl (M3.alloc _) ⟨w3.heap.size,0,N⟩ 1 1 [I J f,I J g,T (bs d),L a2 n2 c2,T (bs R)] rfl rfl ?c1 ?c2 ?c3 ?c4 ?c5 ?_)
    | fail)
   case c1=>exact World.news_of_block (cs:=#[I J f,I J g,T (bs d),L a2 n2 c2,T (bs R)]) (t:=91) (fr:=(0,0)) (Q0 w3 _)
   case c2=>intro u hu;simp at hu;rcases hu with rfl | rfl | rfl | rfl | rfl <;> rfl
   case c3=>unfold maxLen;omega
   case c4=>omega
   case c5=>simp;omega
   intro v' d8 P C _;have D:=K (sY (m:=⟨f,g,d,G,R⟩) (vt:=L a2 n2 c2) T3.out M3 V3.out B3.out d2 (by rw [d1];exact P) C);clear P C M3 s0 s1 s2 s3 s4 r3 f3 X;go_wp2_with fail
   exact ⟨⟨k+1,q++[(⟨f,g,d,G,R⟩,L a2 n2 c2)],by omega,by go_num,by simp;omega,K (by rw [a7.out];simp),K D.out.1,K D.out.2⟩,by simp [Y9];omega⟩
  have d0:k=z.length:=by omega
  subst d0;rw [List.take_length] at HE;go_wp2_with fail
  go_ret;exact ⟨_,q,rfl,HM.out,HE.out,HB.out⟩
def ke(w:QI)(vx vw:QJ):Prop:=
 (vx=YV N/\vw=YV N)\/∃base pp p l,vx=YV (S ⟨pp,0,N⟩)/\vw=YV (S ⟨p,0,N⟩)/\kd base w pp l/\mq w p (l.take (bn l).2)/\l.length<=1048576
structure QA(z bb:Nat)(kv vM vO vT vS:QJ)(ts:List TE)(ms:List ME)(rows:List (aX×Nat)):Prop where
 b:bb < z
 k:∀g,kv.ownBlock=S g->g < z
 m:∀g,vM.ownBlock=S g->g < z
 o:∀g,vO.ownBlock=S g->g < z
 t:∀g,vT.ownBlock=S g->g < z
 s:∀g,vS.ownBlock=S g->g < z
 ts:∀x∈ts,x.g < z
 ms:∀x∈ms,∀g,x.v.ownBlock=S g->g < z
 r:∀r∈rows,r.2 < z
theorem Oe.old{t:Nat}{w:QI}{f B a c s:Nat}{i u l m o n:QJ}{k:List TE}{j:List ME}{b:List (aX×Nat)}(h:Oe t w f B a c i u l m o n k j s b):QA w.heap.size f i l m o n k j b:=
 ⟨h.bk.lt,λg e=>lU h.kept.row e,λg e=>lU h.bk.rM e,λg e=>lU h.bk.rO e,λg e=>lU h.bk.rT e,λg e=>lU h.bk.rS e,λx d=>by
  obtain ⟨_,p,e,_⟩:=(h.bk.mt x d).1
  exact aq e,λx d=>(h.bk.mm x d).2.1,λr q=>(h.kept.ge q).2⟩
theorem jn{w:QI}{b:Nat}{e p n:Int}{k:Bool}{a:QF}{c:bF}{f g i j:QJ}{d:Za}{z:Nat×Nat}(h:w.heap[b]? =S (YU (aP e p n k a c f g i j) d z)):w.cell? ⟨b,0,N⟩=S (I J e)/\w.cell? ⟨b,1,N⟩=S (I J p)/\w.cell? ⟨b,2,N⟩=S (I J n)/\w.cell? ⟨b,3,N⟩=S (YW k)/\w.cell? ⟨b,4,N⟩=S (T (bs a))/\w.cell? ⟨b,5,N⟩=S (T c.host)/\w.cell? ⟨b,6,N⟩=S f/\w.cell? ⟨b,7,N⟩=S g/\w.cell? ⟨b,8,N⟩=S i/\w.cell? ⟨b,9,N⟩=S (I J c.most)/\w.cell? ⟨b,10,N⟩=S (I J c.size)/\w.cell? ⟨b,11,N⟩=S j/\w.cell? ⟨b,12,N⟩=S (I J c.xm)/\w.cell? ⟨b,13,N⟩=S (I J c.room):=by
 refine ⟨?_,?_,?_,?_,?_,?_,?_,?_,?_,?_,?_,?_,?_,?_⟩ <;> (rw [Q3 h];rfl)
structure mA where
 kind:Int
 p:Int
 n:Int
 xy:Bool
 S:QF
 c:bF
 vD:QJ
 vN:QJ
 vU:QJ
 vW:QJ
def mA.cells(o:mA):Array QJ:=aP o.kind o.p o.n o.xy o.S o.c o.vD o.vN o.vU o.vW
def OD(n:Int):Prop:= -9223372036854775808<=n/\n<=9223372036854775807
structure mA.Ok(w:QI)(o:mA):Prop where
 cfg:dD w o.c o.vD o.vN o.vU o.vW
 sz:lB o.c
 rm:qK o.c
 len:o.S.length<=1048576
 k:OD o.kind
 p:OD o.p
 n:OD o.n
def jH(l:List mA):List QJ:=l.flatMap λo=>o.cells.toList
def lD(w:QI)(v:QJ)(l:List mA):Prop:=bg w v l.length 14 (jH l)/\∀o∈l,mA.Ok w o
theorem Cm(l:List mA)(k i:Nat)(h:k < l.length)(b:i < 14):(jH l)[k * 14+i]? =l[k].cells[i]? :=by
 induction l generalizing k with
 | nil=>simp at h
 | cons x l ih=>
  show (x.cells.toList++jH l)[k * 14+i]? =_;have a:x.cells.toList.length=14:=rfl
  cases k with
  | zero=>
   rw [Sc (by rw [a];omega),Sl];simp
  | succ k=>
   rw [Se (by rw [a];omega),a,show (k+1) * 14+i - 14=k * 14+i by omega]
   exact ih k (by simpa using h)
def jc(l:List (QJ×QJ)):List QJ:=l.flatMap λt=>[t.1,t.2]
theorem sj(l:List (QJ×QJ))(x:QJ×QJ):jc (l++[x])=jc l++[x.1,x.2]:=by simp [jc]
theorem Ae(l:List (QJ×QJ))(k:Nat)(h:k < l.length):(jc l)[k * 2]? =S l[k].1/\(jc l)[k * 2+1]? =S l[k].2:=by
 induction l generalizing k with
 | nil=>simp at h
 | cons x l ih=>
  show ([x.1,x.2]++jc l)[k * 2]? =_/\([x.1,x.2]++jc l)[k * 2+1]? =_
  cases k with
  | zero=>exact ⟨rfl,rfl⟩
  | succ k=>
   have:=ih k (by simpa using h);rw [Se (by simp only [RQ,RR];omega),Se (by simp only [RQ,RR];omega)];simp only [RQ,RR];rw [show (k+1) * 2 - (0+1+1)=k * 2 by omega,show (k+1) * 2+1 - (0+1+1)=k * 2+1 by omega]
   exact this
theorem sR:(prog.info? 52).map (λi=>(i.zero,i.size,i.bytes))=S (S (.agg #[YV N,YV N]),2,16):=by kernel_rfl
structure Jo(w w':QI)(bb B:Nat)(v:QJ)(tw:List (QJ×QJ)):Prop where
 all:w'.ownsRow w.heap.size 52 2 v tw.length (jc tw)
 yc:∀t∈tw,ke w' t.1 t.2
 bk:Bk w.heap.size w' bb B
 below:Y6 w.heap.size w w'
theorem DN{w:QI}{v:QJ}{l:List mA}(h:lD w v l):∃a f,v=L a l.length f/\∀(k:Nat) (g:k < l.length),∃b d,a=S ⟨b,d,N⟩/\∀i,i < 14->w.cell? ⟨b,d+k * 14+i,N⟩=l[k].cells[i]? :=by
 obtain ⟨a,f,e,m⟩:=h.1.shape;refine ⟨a,f,e,λk g=>?_⟩;obtain ⟨b,d,j,_,_⟩:=m k 0 g (by omega);refine ⟨b,d,j,λi n=>?_⟩;obtain ⟨q,o,c,_,p⟩:=m k i g n;rw [j] at c;injection c with c;injection c with e1 e2;subst e1 e2;rw [Nat.add_assoc,p,Cm l k i g n]
theorem mA.Ok.below{w a:QI}{o:mA}(h:mA.Ok w o)(b:Y6 w.heap.size w a):mA.Ok a o:=⟨h.cfg.below b,h.sz,h.rm,h.len,h.k,h.p,h.n⟩
theorem Dw{W:QI}{b X:Nat}{d p n:Int}{k:Bool}{a:QF}{c:bF}{e f g j:QJ}(h:∀i u,i < 14->(aP d p n k a c e f g j)[i]? =S u->W.cell? ⟨b,X+i,N⟩=S u):W.cell? ⟨b,X,N⟩=S (I J d)/\W.cell? ⟨b,X+1,N⟩=S (I J p)/\W.cell? ⟨b,X+2,N⟩=S (I J n)/\W.cell? ⟨b,X+3,N⟩=S (YW k)/\W.cell? ⟨b,X+4,N⟩=S (T (bs a))/\W.cell? ⟨b,X+5,N⟩=S (T c.host)/\W.cell? ⟨b,X+6,N⟩=S e/\W.cell? ⟨b,X+7,N⟩=S f/\W.cell? ⟨b,X+8,N⟩=S g/\W.cell? ⟨b,X+9,N⟩=S (I J c.most)/\W.cell? ⟨b,X+10,N⟩=S (I J c.size)/\W.cell? ⟨b,X+11,N⟩=S j/\W.cell? ⟨b,X+12,N⟩=S (I J c.xm)/\W.cell? ⟨b,X+13,N⟩=S (I J c.room):=
 ⟨h 0 _ (by omega) rfl,h 1 _ (by omega) rfl,h 2 _ (by omega) rfl,h 3 _ (by omega) rfl,h 4 _ (by omega) rfl,h 5 _ (by omega) rfl,h 6 _ (by omega) rfl,h 7 _ (by omega) rfl,h 8 _ (by omega) rfl,h 9 _ (by omega) rfl,h 10 _ (by omega) rfl,h 11 _ (by omega) rfl,h 12 _ (by omega) rfl,h 13 _ (by omega) rfl⟩
theorem mc{w:QI}{b j n:Nat}{e:Za}{v:QJ}{k:List QJ}(h:w.ownsRow b e j v n k):∃a c,v=L a n c:=by
 rcases h.2 with ⟨e,i⟩ | ⟨g,d,f,e,_⟩
 .exact ⟨_,_,by rw [i];exact e⟩
 exact ⟨_,_,e⟩
theorem DX{c:Nat}{w:QI}{v:QJ}{a:List (QJ×QJ)}(h:w.ownsRow c 52 2 v a.length (jc a)){j:Nat}(f:j < a.length):∃g b,v=L (S ⟨g,0,N⟩) a.length b/\w.cell? ⟨g,j * 2,N⟩=S a[j].1/\w.cell? ⟨g,j * 2+1,N⟩=S a[j].2:=by
 rcases h.2 with ⟨_,l⟩ | ⟨g,b,k,e,_,d,_,_,m,i⟩
 .omega
 refine ⟨g,b,e,?_,?_⟩
 .rw [Q3 d, <-Sl, <-Sk (show j * 2 < a.length * 2 by omega),i];exact (Ae a j f).1
 rw [Q3 d, <-Sl, <-Sk (show j * 2+1 < a.length * 2 by omega),i];exact (Ae a j f).2
def dF(cb:Nat)(vT vL:QJ)(w:QI)(r':bf)(out:QF)(e:Zb)(w':QI):Prop:=
 e=YX (T (bs out))/\∃vT' vL',bB w' cb vT' vL' r'/\(∀g,vT'.ownBlock=S g\/vL'.ownBlock=S g->vT.ownBlock=S g\/vL.ownBlock=S g\/w.heap.size<=g)/\aC (λk=>k=cb\/vT.ownBlock=S k\/vL.ownBlock=S k) w w'
theorem cJ.line{c:Nat}{d b:QJ}{w i m:QI}{l:bf}{a:QF}{e:Zb}(j:Y6 w.heap.size w i)(h:cJ c d b i l a e m):dF c d b w l a e m:=by
 obtain ⟨q,f,n,o,p⟩:=h;refine ⟨q,f,b,n,λg e=>?_,(aC.below j:aC (λk=>k=c\/d.ownBlock=S k\/b.ownBlock=S k) w i).trans p (λk _ e=>e.imp id Y4)⟩
 rcases e with e | e
 .exact (o g e).imp id (λe=>Y5 (Rn j.size e))
 exact Y5 (Y4 e)
theorem dF.turn{a:Nat}{d c:QJ}{w g i:QI}{r f:bf}{b:QF}{e:Zb}(l:Y6 w.heap.size w g)(h:bB g a d c r)(j:aA a g i)(n:i.heap[a]? =S (YU (bC f d c) 139 (0,0)))(o:f.lines=r.lines)(p:f.xd=r.xd)(m:e=YX (T (bs b))):dF a d c w f b e i:=
 ⟨m,d,c,h.turn j n o p,λ_ e=>e.elim Y4 (λe=>Y5 (Y4 e)),(aC.below l:aC (λk=>k=a\/d.ownBlock=S k\/c.ownBlock=S k) w g).trans (aC.same j) (λ_ _ e=>Y4 e)⟩
theorem dF.still{b:Nat}{d c:QJ}{w f:QI}{r:bf}{a:QF}{e:Zb}(h:bB w b d c r)(g:Y6 w.heap.size w f)(i:e=YX (T (bs a))):dF b d c w r a e f:=(cJ.still h g i).line (QQ _ _)
def I2:QF:=[53,48,48,32,119,104,97,116]
def P7:QF:=[50,50,49,32,98,121,101]
def NH:QF:=[51,53,52,32,103,111]
def pN(c:bF):QF:=[50,53,48,45]++cX c++[13,10,50,53,48,45,83,73,90,69,32]++Lib.itoa c.size++[13,10,50,53,48,32,65,85,84,72,32,80,76,65,73,78]
def aR(c:bF)(r:bf)(word arg:QF)(more:Bool):bf×QF:=
 if word=[81,85,73,84] then (if more then (r,gX) else ({r with closed:=YT},P7))
 else if word=[82,83,69,84] then (if more then (r,gX) else ({r with begun:=F},oW))
 else if word=[78,79,79,80] then (if more then (r,gX) else (r,oW))
 else if word=[68,65,84,65] then (if more then (r,gX) else if (r.xj && r.begun && !r.xd.isEmpty)=F then (r,od) else ({r with inside:=YT,lines:=[],bad:=F},NH))
 else if word=[72,69,76,79] then (if fI arg then ({r with xj:=YT,begun:=F},[50,53,48,32]++cX c) else (r,gX))
 else if word=[69,72,76,79] then (if fI arg then ({r with xj:=YT,begun:=F},pN c) else (r,gX))
 else if word=[65,85,84,72] then gu c r arg
 else if word=[77,65,73,76] then hZ c r arg
 else if word=[82,67,80,84] then gQ c r arg
 else (r,I2)
theorem FX(p f:Nat)(c:bF)(m l:QJ)(r:bf)(arg:QF)(a:Bool)(w:QI)(o:bB w f m l r)(s:arg.length<=1048576):Y8 Ys 124 #[YV (S ⟨p,0,N⟩),YV (S ⟨f,0,N⟩),T ⟨#[81,85,73,84]⟩,T (bs arg),YW a] w (dF f m l w (aR c r [81,85,73,84] arg a).1 (aR c r [81,85,73,84] arg a).2):=by
 have q:=K (bS (bs arg) w (by rw [aj];unfold maxLen;omega));have n:=K o;clear o;go_enter func124,ntmps124;go_wp2_with fail
 refine q.out.mono ?_;rintro e x ⟨rfl,k,rfl⟩;have b:H (Y6 w.heap.size w (w.drewN k)):=K (an k w _);obtain ⟨i,g⟩:∃W:QI,w.drewN k=W:=⟨_,rfl⟩;rw [g] at b ⊢;clear g;have d:=K (n.out.below b.out)
 cases a
 case true=>
  have h:H (aR c r [81,85,73,84] arg YT=(r,gX)):=K rfl;go_wp2_with fail
  go_ret;rw [h.out];exact dF.still n.out b.out rfl
 have t:i.cell? ⟨f,2,N⟩=S (YW r.closed):=d.out.cell 2;have u:∀j:Nat,i.frozen? ⟨f,j,N⟩=F:=λj=>d.out.frozen j;have h:H (aR c r [81,85,73,84] arg F=({r with closed:=YT},P7)):=K rfl;go_wp2_with fail
 go_ret;rw [h.out];exact dF.turn b.out d.out ((aA.refl f i).setCell _) (cP (j:=2) (v:=YW YT) d.out.xp (A':=bC {r with closed:=YT} m l) rfl) rfl rfl rfl
theorem FZ(p f:Nat)(c:bF)(m l:QJ)(r:bf)(arg:QF)(a:Bool)(w:QI)(o:bB w f m l r)(s:arg.length<=1048576):Y8 Ys 124 #[YV (S ⟨p,0,N⟩),YV (S ⟨f,0,N⟩),T ⟨#[82,83,69,84]⟩,T (bs arg),YW a] w (dF f m l w (aR c r [82,83,69,84] arg a).1 (aR c r [82,83,69,84] arg a).2):=by
 have q:=K (bS (bs arg) w (by rw [aj];unfold maxLen;omega));have n:=K o;clear o;go_enter func124,ntmps124;go_wp2_with fail
 refine q.out.mono ?_;rintro e x ⟨rfl,k,rfl⟩;have b:H (Y6 w.heap.size w (w.drewN k)):=K (an k w _);obtain ⟨i,g⟩:∃W:QI,w.drewN k=W:=⟨_,rfl⟩;rw [g] at b ⊢;clear g;have d:=K (n.out.below b.out)
 cases a
 case true=>
  have h:H (aR c r [82,83,69,84] arg YT=(r,gX)):=K rfl;go_wp2_with fail
  go_ret;rw [h.out];exact dF.still n.out b.out rfl
 have t:i.cell? ⟨f,5,N⟩=S (YW r.begun):=d.out.cell 5;have u:∀j:Nat,i.frozen? ⟨f,j,N⟩=F:=λj=>d.out.frozen j;have h:H (aR c r [82,83,69,84] arg F=({r with begun:=F},oW)):=K rfl;go_wp2_with fail
 go_ret;rw [h.out];exact dF.turn b.out d.out ((aA.refl f i).setCell _) (cP (j:=5) (v:=YW F) d.out.xp (A':=bC {r with begun:=F} m l) rfl) rfl rfl rfl
theorem FW(p h:Nat)(c:bF)(l k:QJ)(r:bf)(arg:QF)(a:Bool)(w:QI)(j:bB w h l k r)(q:arg.length<=1048576):Y8 Ys 124 #[YV (S ⟨p,0,N⟩),YV (S ⟨h,0,N⟩),T ⟨#[78,79,79,80]⟩,T (bs arg),YW a] w (dF h l k w (aR c r [78,79,79,80] arg a).1 (aR c r [78,79,79,80] arg a).2):=by
 have n:=K (bS (bs arg) w (by rw [aj];unfold maxLen;omega));have f:=K j;clear j;go_enter func124,ntmps124;go_wp2_with fail
 refine n.out.mono ?_;rintro e s ⟨rfl,i,rfl⟩;have b:H (Y6 w.heap.size w (w.drewN i)):=K (an i w _);obtain ⟨o,d⟩:∃W:QI,w.drewN i=W:=⟨_,rfl⟩;rw [d] at b ⊢;clear d;have m:=K (f.out.below b.out)
 cases a
 case true=>
  have g:H (aR c r [78,79,79,80] arg YT=(r,gX)):=K rfl;go_wp2_with fail
  go_ret;rw [g.out];exact dF.still f.out b.out rfl
 have g:H (aR c r [78,79,79,80] arg F=(r,oW)):=K rfl;go_wp2_with fail
 go_ret;rw [g.out];exact dF.still f.out b.out rfl
theorem bB.opened{w d:QI}{a:Nat}{c p:QJ}{r b:bf}(h:bB w a c p r)(l:aA a w d)(m:d.heap[a]? =S (YU (bC b c (L N 0 0)) 139 (0,0)))(n:b.lines=[])(o:b.xd=r.xd):bB d a c (L N 0 0) b:=by
 refine ⟨m,?_,by rw [n];exact World.ownsRow_nil _ _ _ _,?_⟩
 .rw [o];refine bG h.xd (aC.same l) (λk e j=>?_);obtain ⟨i,f⟩:=br h.xd e;rw [j,h.xp] at f;simp at f
 cases q:c.ownBlock with
 | none=>exact Y4 rfl
 | some g=>exact Y5 (λe=>by cases e)
theorem dF.opened{a:Nat}{c g:QJ}{w f i:QI}{r d:bf}{b:QF}{e:Zb}(l:Y6 w.heap.size w f)(h:bB f a c g r)(j:aA a f i)(n:i.heap[a]? =S (YU (bC d c (L N 0 0)) 139 (0,0)))(o:d.lines=[])(p:d.xd=r.xd)(m:e=YX (T (bs b))):dF a c g w d b e i:=
 ⟨m,c,_,h.opened j n o p,λ_ e=>e.elim Y4 (λe=>by cases e),(aC.below l:aC (λk=>k=a\/c.ownBlock=S k\/g.ownBlock=S k) w f).trans (aC.same j) (λ_ _ e=>Y4 e)⟩
theorem FQ(p h:Nat)(c:bF)(o z:QJ)(r:bf)(arg:QF)(f:Bool)(w:QI)(E:bB w h o z r)(hl:arg.length<=1048576):Y8 Ys 124 #[YV (S ⟨p,0,N⟩),YV (S ⟨h,0,N⟩),T ⟨#[68,65,84,65]⟩,T (bs arg),YW f] w (dF h o z w (aR c r [68,65,84,65] arg f).1 (aR c r [68,65,84,65] arg f).2):=by
 have G:=K (bS (bs arg) w (by rw [aj];unfold maxLen;omega));have q:=K E;clear E;go_enter func124,ntmps124;go_wp2_with fail
 refine G.out.mono ?_;rintro e w1 ⟨rfl,C,rfl⟩;have d:H (Y6 w.heap.size w (w.drewN C)):=K (an C w _);obtain ⟨l,s⟩:∃W:QI,w.drewN C=W:=⟨_,rfl⟩;rw [s] at d ⊢;clear s;have a:=K (q.out.below d.out)
 cases f
 case true=>
  have i:H (aR c r [68,65,84,65] arg YT=(r,gX)):=K rfl;go_wp2_with fail
  go_ret;rw [i.out];exact dF.still q.out d.out rfl
 have k:H (aR c r [68,65,84,65] arg F=if (r.xj && r.begun && !r.xd.isEmpty)=F then (r,od) else ({r with inside:=YT,lines:=[],bad:=F},NH)):=K rfl;have Q:l.cell? ⟨h,3,N⟩=S (YW r.xj):=a.out.cell 3;have R:l.cell? ⟨h,5,N⟩=S (YW r.begun):=a.out.cell 5;have U:l.cell? ⟨h,7,N⟩=S o:=a.out.cell 7;have k8:l.cell? ⟨h,8,N⟩=S (YW r.inside):=a.out.cell 8;have k9:l.cell? ⟨h,9,N⟩=S z:=a.out.cell 9;have P:l.cell? ⟨h,10,N⟩=S (YW r.bad):=a.out.cell 10;have kf:∀j:Nat,l.frozen? ⟨h,j,N⟩=F:=λj=>a.out.frozen j;obtain ⟨Y,Z,D⟩:=az (bq a.out.xd);rw [D] at U;clear D;obtain ⟨M,B⟩:∃g,r.xj=g:=⟨_,rfl⟩;obtain ⟨be,m⟩:∃b,r.begun=b:=⟨_,rfl⟩;rw [B] at Q;rw [m] at R;have u:=K B;have A:=K m;clear B m
 cases M
 case false=>
  have i:H (aR c r [68,65,84,65] arg F=(r,od)):=K (by rw [k.out,if_pos (by rw [u.out];rfl)]);go_wp2_with fail
  go_ret;rw [i.out];exact dF.still q.out d.out rfl
 cases be
 case false=>
  have i:H (aR c r [68,65,84,65] arg F=(r,od)):=K (by rw [k.out,if_pos (by rw [u.out,A.out];rfl)]);go_wp2_with fail
  go_ret;rw [i.out];exact dF.still q.out d.out rfl
 by_cases n:r.xd.length=0
 .have i:H (aR c r [68,65,84,65] arg F=(r,od)):=K (by rw [k.out,if_pos (by rw [u.out,A.out,TC.1 n];rfl)]);have t:(r.xd.length:Int)=0:=by omega
  go_wp2_with fail
  go_ret;rw [i.out];exact dF.still q.out d.out rfl
 have i:H (aR c r [68,65,84,65] arg F=({r with inside:=YT,lines:=[],bad:=F},NH)):=K (by
  rw [k.out,if_neg];rw [u.out,A.out]
  cases O:r.xd with
  | nil=>rw [O] at n;exact absurd rfl n
  | cons x y=>simp)
 have t:¬(r.xd.length:Int)=0:=by omega
 go_wp2_with fail
 go_ret;rw [i.out];have V:=cP (j:=8) (v:=YW YT) a.out.xp (A':=bC {r with inside:=YT} o z) rfl;have X:=cP (j:=9) (v:=L N 0 0) V (A':=bC {r with inside:=YT,lines:=[]} o (L N 0 0)) rfl;exact dF.opened d.out a.out ((((aA.refl h l).setCell _).setCell _).setCell _) (cP (j:=10) (v:=YW F) X (A':=bC {r with inside:=YT,lines:=[],bad:=F} o (L N 0 0)) rfl) rfl rfl rfl
theorem FP(p f:Nat)(c:bF)(s t u v:QJ)(k j:QJ)(r:bf)(arg:QF)(a:Bool)(w:QI)(h:je w p c s t u v)(q:bB w f k j r)(D:arg.length<=1048576):Y8 Ys 124 #[YV (S ⟨p,0,N⟩),YV (S ⟨f,0,N⟩),T ⟨#[65,85,84,72]⟩,T (bs arg),YW a] w (dF f k j w (aR c r [65,85,84,72] arg a).1 (aR c r [65,85,84,72] arg a).2):=by
 have z:=K (bS (bs arg) w (by rw [aj];unfold maxLen;omega));have y:=K q;have A:=K h;clear h;clear q;go_enter func124,ntmps124;go_wp2_with fail
 refine z.out.mono ?_;rintro e E ⟨rfl,i,rfl⟩;have b:H (Y6 w.heap.size w (w.drewN i)):=K (an i w _);obtain ⟨C,d⟩:∃W:QI,w.drewN i=W:=⟨_,rfl⟩;rw [d] at b ⊢;clear d;have g:=K (y.out.below b.out);have l:H (aR c r [65,85,84,72] arg a=gu c r arg):=K rfl;have m:=K (FM p f c s t u v k j r arg C (A.out.below b.out) g.out D);obtain ⟨x,n⟩:=QE (gu c r arg);rw [n] at m l;clear n;go_wp2_with fail
 refine m.out.mono ?_;rintro e G ⟨rfl,o⟩;have B:=K o;clear o;go_wp2_with fail
 go_ret;rw [l.out];exact cJ.line b.out ⟨rfl,B.out⟩
theorem FV(p f:Nat)(c:bF)(s t u v:QJ)(k j:QJ)(r:bf)(arg:QF)(a:Bool)(w:QI)(h:je w p c s t u v)(q:bB w f k j r)(D:arg.length<=1048576):Y8 Ys 124 #[YV (S ⟨p,0,N⟩),YV (S ⟨f,0,N⟩),T ⟨#[77,65,73,76]⟩,T (bs arg),YW a] w (dF f k j w (aR c r [77,65,73,76] arg a).1 (aR c r [77,65,73,76] arg a).2):=by
 have z:=K (bS (bs arg) w (by rw [aj];unfold maxLen;omega));have y:=K q;have A:=K h;clear h;clear q;go_enter func124,ntmps124;go_wp2_with fail
 refine z.out.mono ?_;rintro e E ⟨rfl,i,rfl⟩;have b:H (Y6 w.heap.size w (w.drewN i)):=K (an i w _);obtain ⟨C,d⟩:∃W:QI,w.drewN i=W:=⟨_,rfl⟩;rw [d] at b ⊢;clear d;have g:=K (y.out.below b.out);have l:H (aR c r [77,65,73,76] arg a=hZ c r arg):=K rfl;have m:=K (Ge p f c s t u v k j r arg C (A.out.below b.out) g.out (by omega));obtain ⟨x,n⟩:=QE (hZ c r arg);rw [n] at m l;clear n;go_wp2_with fail
 refine m.out.mono ?_;rintro e G ⟨rfl,o⟩;have B:=K o;clear o;go_wp2_with fail
 go_ret;rw [l.out];exact cJ.line b.out ⟨rfl,B.out⟩
theorem FY(p f:Nat)(c:bF)(s t u v:QJ)(k j:QJ)(r:bf)(arg:QF)(a:Bool)(w:QI)(h:je w p c s t u v)(q:bB w f k j r)(G:arg.length<=1048576)(D:0<=r.addr)(E:r.xd.length<=10):Y8 Ys 124 #[YV (S ⟨p,0,N⟩),YV (S ⟨f,0,N⟩),T ⟨#[82,67,80,84]⟩,T (bs arg),YW a] w (dF f k j w (aR c r [82,67,80,84] arg a).1 (aR c r [82,67,80,84] arg a).2):=by
 have z:=K (bS (bs arg) w (by rw [aj];unfold maxLen;omega));have y:=K q;have A:=K h;clear h;clear q;go_enter func124,ntmps124;go_wp2_with fail
 refine z.out.mono ?_;rintro e M ⟨rfl,i,rfl⟩;have b:H (Y6 w.heap.size w (w.drewN i)):=K (an i w _);obtain ⟨C,d⟩:∃W:QI,w.drewN i=W:=⟨_,rfl⟩;rw [d] at b ⊢;clear d;have g:=K (y.out.below b.out);have l:H (aR c r [82,67,80,84] arg a=gQ c r arg):=K rfl;have m:=K (Gg p f c s t u v k j r arg C (A.out.below b.out) g.out D (by omega) E);obtain ⟨x,n⟩:=QE (gQ c r arg);rw [n] at m l;clear n;go_wp2_with fail
 refine m.out.mono ?_;rintro e O ⟨rfl,o⟩;have B:=K o;clear o;go_wp2_with fail
 go_ret;rw [l.out];exact cJ.line b.out ⟨rfl,B.out⟩
theorem pE.xt{p:Nat}{w a:QI}(h:pE p w a):aC (λk=>k=p) w a:=⟨h.size,λk b c=>h.block k b c,h.still⟩
def LW(c:bF)(all:QF)(w:QI)(e:Zb)(w':QI):Prop:=
 ∃E p vDu vFa,e=YX (YY #[YV (S ⟨p,0,N⟩),I J 0])/\dP E w' p c (all.take (bn all).2) (bn all).1.time (L N 0 0) vDu vFa (YV N) [] (List.replicate (bn all).1.items.length (bn all).1.time) (List.replicate (bn all).1.items.length 0)/\(∀k,E k->w.heap.size<=k)/\(∀k,fo p (L N 0 0) vDu vFa [] k->w.heap.size<=k)/\Y6 w.heap.size w w'
theorem rp{a:QI}{b h g i n m p j:Nat}{e:Za}{l:List QJ}{A:Array QJ}{v:QJ}(f:a.ownsRow b e m (L (S ⟨g,0,N⟩) n i) n l)(u:a.heap[p]? =S (YU A 133 (0,0)))(s:h<=b)(t:e≠133):bg (a.setCell ⟨p,j,N⟩ v) (L (S ⟨g,0,N⟩) n i) n m l/\h<=g/\g≠p/\g < (a.setCell ⟨p,j,N⟩ v).heap.size:=by
 obtain ⟨o,q⟩:=br f (g:=g) rfl;have d:g≠p:=λx=>dN q u t x;refine ⟨bg.xt (bq f) (aC.same ((aA.refl p a).setCell _)) (λk c r=>d ?_),Rn s (iL f rfl).1,d,by have:=(iL f (k:=g) rfl).2;simpa using this⟩
 have c:S g=S k:=c;injection c with c;rw [c];exact r
theorem Ox{c:bF}{d:QF}{w b E:QI}{D p u v z A W X Y Z k M:Nat}{A7 V:Array QJ}{a:aa}{j l:QJ}{e:Zb}
  (a0:A7=fH c (L (S ⟨u,0,N⟩) c.xf.length W) (L (S ⟨v,0,N⟩) c.xe.length X) (L (S ⟨z,0,N⟩) c.x9.length Y) (L (S ⟨A,0,N⟩) c.waits.length Z) (d.take M) a.time (L N 0 0) (L N 0 0) (L N 0 0) (YV N))
  (a5:(bg b (L (S ⟨u,0,N⟩) c.xf.length W) c.xf.length 1 (bA c.xf)/\D<=u/\u≠p/\u < b.heap.size)/\(bg b (L (S ⟨v,0,N⟩) c.xe.length X) c.xe.length 2 (cZ c.xe)/\D<=v/\v≠p/\v < b.heap.size)/\(bg b (L (S ⟨z,0,N⟩) c.x9.length Y) c.x9.length 2 (bI c.x9)/\D<=z/\z≠p/\z < b.heap.size)/\(bg b (L (S ⟨A,0,N⟩) c.waits.length Z) c.waits.length 1 (dG c.waits)/\D<=A/\A≠p/\A < b.heap.size))
  (h:jO D E p V j l ([]++List.replicate k a.time) ([]++List.replicate k 0)) (a2:∀i,i≠12->i≠13->V[i]? =A7[i]?) (a3:k=(bn (d.take M)).1.items.length - ([]:List Nat).length)
  (a4:aC (λk=>k=p\/(L N 0 0).ownBlock=S k\/(L N 0 0).ownBlock=S k) b E) (P:∀g,j.ownBlock=S g\/l.ownBlock=S g->(L N 0 0).ownBlock=S g\/(L N 0 0).ownBlock=S g\/b.heap.size<=g) (hb:Y6 w.heap.size w E) (hm:dk c=YT) (f:(bn d).1=a/\(bn d).2=M) (a6:w.heap.size=D) (he:e=YX (YY #[YV (S ⟨p,0,N⟩),I J 0])):LW c d w e E:=by
 obtain ⟨⟨r4,l4,n4,z4⟩,⟨r5,l5,n5,z5⟩,⟨r6,l6,n6,z6⟩,⟨r7,l7,n7,z7⟩⟩:=a5
 have O:aC (λk=>k=p) b E:=a4.mono (λk _ e=>by
  rcases e with e | e | e
  .exact e
  .cases e
  cases e)
 have hk:k=(bn d).1.items.length:=by
  rw [a3, <-f.2,zE];simp
 have a1:V=fH c (L (S ⟨u,0,N⟩) c.xf.length W) (L (S ⟨v,0,N⟩) c.xe.length X) (L (S ⟨z,0,N⟩) c.x9.length Y) (L (S ⟨A,0,N⟩) c.waits.length Z) (d.take M) a.time (L N 0 0) j l (YV N):=by
  apply Array.ext_getElem?;intro i
  by_cases Q:i=12
  .subst Q;exact h.xQ
  by_cases R:i=13
  .subst R;exact h.xM
  rw [a2 i Q R,a0];have U:i=0\/i=1\/i=2\/i=3\/i=4\/i=5\/i=6\/i=7\/i=8\/i=9\/i=10\/i=11\/i=14\/15<=i:=by omega
  rcases U with rfl | rfl | rfl | rfl | rfl | rfl | rfl | rfl | rfl | rfl | rfl | rfl | rfl | U
  all_goals first
   | rfl
   | (rw [TG (by simpa [fH] using U),TG (by simpa [fH] using U)])
 have B:=h.block;rw [a1] at B
 have o:∀{g n cp:Nat} {sz:Nat} {cs:List QJ},bg b (L (S ⟨g,0,N⟩) n cp) n sz cs->g≠p->bg E (L (S ⟨g,0,N⟩) n cp) n sz cs:=λr hn=>r.xt O (λk G e3=>hn (by
  have G:_=S k:=G;injection G with G;rw [<-e3]
  exact G))
 have q:=h.due;have s:=h.xh;rw [List.nil_append,hk] at q s
 have C:∀k,(k=u\/k=v\/k=z\/k=A)->w.heap.size<=k/\k < b.heap.size/\k≠p:=λk e=>by
  rcases e with rfl | rfl | rfl | rfl
  .exact ⟨by omega,z4,n4⟩
  .exact ⟨by omega,z5,n5⟩
  .exact ⟨by omega,z6,n6⟩
  exact ⟨by omega,z7,n7⟩
 have t:∀k,fo p (L N 0 0) j l [] k->w.heap.size<=k/\(k=p\/b.heap.size<=k):=λk e=>by
  have hp:=h.low;have a7:w.heap.size<=b.heap.size:=by omega
  rcases e with e | e | e | e | ⟨n,x,h1,_⟩
  .exact ⟨by omega,Y4 e⟩
  .cases e
  .rcases P k (Y4 e) with e | e | e
   .cases e
   .cases e
   exact ⟨by omega,Y5 e⟩
  .rcases P k (Y5 e) with e | e | e
   .cases e
   .cases e
   exact ⟨by omega,Y5 e⟩
  simp at h1
 refine ⟨λk=>k=u\/k=v\/k=z\/k=A,p,j,l,he,⟨⟨_,_,_,_,by rw [f.2,f.1];exact B,⟨o r4 n4,o r5 n5,o r6 n6,o r7 n7⟩,λk e=>?_⟩,hm,World.ownsRow_nil _ _ _ _,λn x hx=>by simp at hx,?_,?_,h.apart,λn m x y _ hx=>by simp at hx,λk e=>SA (C k e).2.1 O.size,λk e y=>?_⟩,λk e=>(C k e).1,λk e=>(t k e).1,hb⟩
 .rcases e with e | e | e | e
  .injection e with e;exact Y4 e.symm
  .injection e with e;exact Y5 (Y4 e.symm)
  .injection e with e;exact Y5 (Y5 (Y4 e.symm))
  injection e with e;exact Y5 (Y5 (Y5 e.symm))
 .rw [f.1,TQ];rw [TQ] at q;rw [f.1] at q;exact q.mono (QS _)
 .rw [f.1,TQ];rw [TQ] at s;rw [f.1] at s;exact s.mono (QS _)
 have h1:=C k e
 rcases (t k y).2 with h2 | h2
 .exact h1.2.2 h2
 omega
theorem Gf(c:bF)(vD vN vU vW:QJ)(D:QF)(w:QI)(h:dD w c vD vN vU vW)(hz:lB c)(hr:qK c)(hl:D.length<=1048576)(hm:dk c=YT):Y8 Ys 27 #[.agg #[T c.host,vD,vN,vU,I J c.most,I J c.size,vW,I J c.xm,I J c.room],T (bs D)] w (LW c D w):=by
 obtain ⟨O,n,t,x,Q,U,b,xm,R⟩:=c;have c4:=λw' h'=>rU ⟨O,n,t,x,Q,U,b,xm,R⟩ vD vN vU vW w' h' hz;rw [hm] at c4;have e1:=λw'=>mg D w' hl;have o7:=kr D;obtain ⟨a,eS⟩:=QE ((bn D).1);obtain ⟨M,eM⟩:=QE ((bn D).2);rw [eS,eM] at e1 o7;obtain ⟨aD,cD,eD⟩:=az h.1;obtain ⟨aN,cN,eN⟩:=az h.2.1;obtain ⟨aU,cU,eU⟩:=az h.2.2.1;obtain ⟨aW,cW,eW⟩:=az h.2.2.2;simp only at eD eN eU eW c4 ⊢;subst eD eN eU eW;have HA:=K h;have e9:=K c4;have g4:=K e1;have sA:=aj D;have f1:=K hm;have o0:=K (And.intro eS eM);clear h c4 e1 eS eM hm;go_enter func27,ntmps27;go_wp2_with fail
 obtain ⟨z,c0⟩:=QE w.heap.size;obtain ⟨W0,b3⟩:=QE (w.alloc (YU #[T O,L aD n.length cD,L aN t.length cN,L aU x.length cU,I J Q,I J U,L aW b.length cW,I J xm,I J R] 35));have B0:Y6 z w W0:=by rw [<-b3];exact (QQ _ _).alloc (by omega) _
 have z0:W0.heap.size=z+1:=by rw [<-b3, <-c0];simp
 have K0:W0.heap[z]? =S (YU #[T O,L aD n.length cD,L aN t.length cN,L aU x.length cU,I J Q,I J U,L aW b.length cW,I J xm,I J R] 35 (0,0)):=by rw [<-b3, <-c0];exact Q0 w _
 have A0:dD W0 ⟨O,n,t,x,Q,U,b,xm,R⟩ (L aD n.length cD) (L aN t.length cN) (L aU x.length cU) (L aW b.length cW):=HA.out.below (by rw [c0];exact B0);rw [b3];refine (e9.out W0 A0).mono ?_;rintro e w1 ⟨rfl,c1⟩;have B1:Y6 z w w1:=B0.trans (c1.mono (by omega));have K1:w1.heap[z]? =S (YU #[T O,L aD n.length cD,L aN t.length cN,L aU x.length cU,I J Q,I J U,L aW b.length cW,I J xm,I J R] 35 (0,0)):=by rw [c1.block z (by omega)];exact K0
 have Z1:z+1<=w1.heap.size:=by have:=c1.size;omega
 have e8:=K B1;have f0:=K K1;have d9:=K (g4.out w1);have a5:=K c0;have er:EN YT=0:=rfl;clear c1 B0 K0 A0 z0 b3 e9 g4 B1 K1;rw [er];go_wp2_with fail
 refine d9.out.mono ?_;rintro e w2 ⟨q,rfl,m2,c2⟩;obtain ⟨aL,mH,_,qt,o6⟩:=m2.head;have B2:Y6 z w w2:=e8.out.trans (c2.mono (by omega));have K2:w2.heap[z]? =S (YU #[T O,L aD n.length cD,L aN t.length cN,L aU x.length cU,I J Q,I J U,L aW b.length cW,I J xm,I J R] 35 (0,0)):=by rw [c2.block z (by omega)];exact f0.out
 have Z2:z+1<=w2.heap.size:=by have:=c2.size;omega
 obtain ⟨k0,k1,k2,k3,k4,k5,k6,k7,k8⟩:=QP K2;have q0:(M:Int)<=(D.length:Int):=by omega
 have a7:=K B2;have b5:=K K2;clear m2 c2 B2 K2 d9 e8 f0;go_wp2_with fail
 go_region
 obtain ⟨p,hp⟩:=QE w2.heap.size;obtain ⟨A3,Y⟩:∃A3:Array QJ,A3=#[T O,L aD n.length cD,L aN t.length cN,L aU x.length cU,I J Q,I J U,L aW b.length cW,I J xm,I J R,T ((bs D).extract 0 M),I J a.time,L N 0 0,L N 0 0,L N 0 0,YV N]:=⟨_,rfl⟩;rw [<-Y];obtain ⟨W3,b7⟩:=QE ((w2.alloc (YU A3 133)).drew);have i3:W3.heap[p]? =S (YU A3 133 (0,0)):=by rw [<-b7, <-hp];exact Q0 w2 _
 have i2:pE p w2 W3:=by rw [<-b7];exact ⟨by simp,λk hk _=>((QQ w2.heap.size w2).alloc (QR _) _).block k hk,⟨rfl,rfl,rfl⟩⟩
 rw [b7];obtain ⟨r1,r2,r3,r4⟩:=hr;simp only at r1 r2 r3 r4;have s3:A3.size=15:=by rw [Y];rfl
 have g9:A3[9]? =S (T ((bs D).extract 0 M)):=by rw [Y];rfl
 have h9:A3[10]? =S (I J a.time):=by rw [Y];rfl
 have i0:A3[12]? =S (L N 0 0):=by rw [Y];rfl
 have i1:A3[13]? =S (L N 0 0):=by rw [Y];rfl
 rw [hp];have n8:=K i3;have m9:=K Y;have b6:=K i2;have V:=K hp;clear i3 i2 b7 k0 k1 k2 k3 k4 k5 k6 k7 k8 Y hp qt o6;have c3:¬z=p:=by have:=V.out;omega
 have q1:¬p=z:=by have:=V.out;omega
 have g6:Y6 w.heap.size w W3:=(by rw [a5.out];exact a7.out.trans (b6.out.below (by have:=V.out;omega) (by omega)));have h4:=HA.out.below g6
 have e3:W3.cell? ⟨z,1,N⟩=S (L aD n.length cD):=by
  rw [World.cell?_of_block (b6.out.block z (by omega) c3),Q3 b5.out];rfl
 have m4:(W3.alloc (YU #[] 9)).heap[W3.heap.size]? =S (YU #[] 9 (0,0)):=Q0 W3 _;obtain ⟨d,y,C,l7,k9,i6,_⟩:=iH (P:=Ys) (W3.alloc (YU #[] 9)) 30 30 9 (T ⟨#[]⟩) 1 16 underlying30 lL rfl (by decide) (W3.heap.size) m4 (L aD n.length cD) n.length (bA n) (h4.1.below ((QQ _ _).alloc (QR _) _)) (zu n) (by unfold maxLen;omega) (by omega);obtain ⟨a1,l3,j2⟩:=pz (j:=1) (v:=(L (S ⟨d,0,N⟩) n.length y)) n8.out i6;have o8:(W3.alloc (YU #[] 9)).cell? ⟨z,1,N⟩=S (L aD n.length cD):=(((QQ W3.heap.size W3).alloc (QR _) _).cell (au e3)).trans e3
 have c6:∃u,C.cell? ⟨p,1,N⟩=S u:=by
  rw [Q3 a1];exact ⟨_,Si (by first | omega | (simp;omega))⟩
 obtain ⟨u4,p2⟩:=c6;have o1:=RJ a1 1;have f3:=K l3;have a8:=K (b6.out.trans j2);have f7:=K l7;have s:H (bg (C.setCell ⟨p,1,N⟩ (L (S ⟨d,0,N⟩) n.length y)) (L (S ⟨d,0,N⟩) n.length y) n.length 1 (bA n)/\z<=d/\d≠p/\d < (C.setCell ⟨p,1,N⟩ (L (S ⟨d,0,N⟩) n.length y)).heap.size):=K (rp k9 a1 (by have h1:=V.out;have h2:=b6.out.size;omega) (by decide));clear l3 j2 l7 k9 i6 a1 g6 h4 m4;have g7:Y6 w.heap.size w (C.setCell ⟨p,1,N⟩ (L (S ⟨d,0,N⟩) n.length y)):=(by rw [a5.out];exact a7.out.trans (a8.out.below (by have:=V.out;omega) (by omega)));have h5:=HA.out.below g7
 have e4:(C.setCell ⟨p,1,N⟩ (L (S ⟨d,0,N⟩) n.length y)).cell? ⟨z,2,N⟩=S (L aN t.length cN):=by
  rw [World.cell?_of_block (a8.out.block z (by omega) c3),Q3 b5.out];rfl
 have d0:(C.setCell ⟨p,1,N⟩ (L (S ⟨d,0,N⟩) n.length y)).heap.size=C.heap.size:=by simp
 have m5:((C.setCell ⟨p,1,N⟩ (L (S ⟨d,0,N⟩) n.length y)).alloc (YU #[] 96)).heap[C.heap.size]? =S (YU #[] 96 (0,0)):=by
  have h:=Q0 (C.setCell ⟨p,1,N⟩ (L (S ⟨d,0,N⟩) n.length y)) (YU #[] 96)
  rwa [d0] at h
 obtain ⟨f,r,A,l8,l0,i8,_⟩:=iH (P:=Ys) ((C.setCell ⟨p,1,N⟩ (L (S ⟨d,0,N⟩) n.length y)).alloc (YU #[] 96)) 31 31 96 (.agg #[I J 0,I J 0]) 2 16 underlying31 wE rfl (by decide) (C.heap.size) m5 (L aN t.length cN) t.length (cZ t) (h5.2.1.below ((QQ _ _).alloc (QR _) _)) (zt t) (by unfold maxLen;omega) (by omega);obtain ⟨a2,l4,c5⟩:=pz (j:=2) (v:=(L (S ⟨f,0,N⟩) t.length r)) f3.out (by rw [d0];exact i8);have o9:((C.setCell ⟨p,1,N⟩ (L (S ⟨d,0,N⟩) n.length y)).alloc (YU #[] 96)).cell? ⟨z,2,N⟩=S (L aN t.length cN):=(((QQ (C.setCell ⟨p,1,N⟩ (L (S ⟨d,0,N⟩) n.length y)).heap.size (C.setCell ⟨p,1,N⟩ (L (S ⟨d,0,N⟩) n.length y))).alloc (QR _) _).cell (au e4)).trans e4
 have c7:∃u,A.cell? ⟨p,2,N⟩=S u:=by
  rw [Q3 a2];exact ⟨_,Si (by first | omega | (simp;omega))⟩
 obtain ⟨u5,p3⟩:=c7;have o2:=RJ a2 2;have f4:=K l4;have a9:=K (a8.out.trans c5);have f8:=K l8;have G:H (bg (A.setCell ⟨p,2,N⟩ (L (S ⟨f,0,N⟩) t.length r)) (L (S ⟨f,0,N⟩) t.length r) t.length 2 (cZ t)/\z<=f/\f≠p/\f < (A.setCell ⟨p,2,N⟩ (L (S ⟨f,0,N⟩) t.length r)).heap.size):=K (rp l0 a2 (by have h1:=V.out;have h2:=a8.out.size;rw [d0] at h2;omega) (by decide));have s:H (bg (A.setCell ⟨p,2,N⟩ (L (S ⟨f,0,N⟩) t.length r)) (L (S ⟨d,0,N⟩) n.length y) n.length 1 (bA n)/\z<=d/\d≠p/\d < (A.setCell ⟨p,2,N⟩ (L (S ⟨f,0,N⟩) t.length r)).heap.size):=K ⟨bg.xt s.out.1 (pE.xt c5) (λg e e2=>s.out.2.2.1 (by injection e with e;exact Eq.trans e e2)),s.out.2.1,s.out.2.2.1,SA s.out.2.2.2 c5.size⟩;clear l4 c5 l8 l0 i8 a2 g7 h5 m5 d0;have g8:Y6 w.heap.size w (A.setCell ⟨p,2,N⟩ (L (S ⟨f,0,N⟩) t.length r)):=(by rw [a5.out];exact a7.out.trans (a9.out.below (by have:=V.out;omega) (by omega)));have h7:=HA.out.below g8
 have e5:(A.setCell ⟨p,2,N⟩ (L (S ⟨f,0,N⟩) t.length r)).cell? ⟨z,3,N⟩=S (L aU x.length cU):=by
  rw [World.cell?_of_block (a9.out.block z (by omega) c3),Q3 b5.out];rfl
 have d7:(A.setCell ⟨p,2,N⟩ (L (S ⟨f,0,N⟩) t.length r)).heap.size=A.heap.size:=by simp
 have m6:((A.setCell ⟨p,2,N⟩ (L (S ⟨f,0,N⟩) t.length r)).alloc (YU #[] 68)).heap[A.heap.size]? =S (YU #[] 68 (0,0)):=by
  have h:=Q0 (A.setCell ⟨p,2,N⟩ (L (S ⟨f,0,N⟩) t.length r)) (YU #[] 68)
  rwa [d7] at h
 obtain ⟨l,m,o,m0,l1,i9,_⟩:=iH (P:=Ys) ((A.setCell ⟨p,2,N⟩ (L (S ⟨f,0,N⟩) t.length r)).alloc (YU #[] 68)) 32 32 68 (.agg #[T ⟨#[]⟩,T ⟨#[]⟩]) 2 32 underlying32 sS rfl (by decide) (A.heap.size) m6 (L aU x.length cU) x.length (bI x) (h7.2.2.1.below ((QQ _ _).alloc (QR _) _)) (sW x) (by unfold maxLen;omega) (by omega);obtain ⟨a3,l5,a6⟩:=pz (j:=3) (v:=(L (S ⟨l,0,N⟩) x.length m)) f4.out (by rw [d7];exact i9);have p0:((A.setCell ⟨p,2,N⟩ (L (S ⟨f,0,N⟩) t.length r)).alloc (YU #[] 68)).cell? ⟨z,3,N⟩=S (L aU x.length cU):=(((QQ (A.setCell ⟨p,2,N⟩ (L (S ⟨f,0,N⟩) t.length r)).heap.size (A.setCell ⟨p,2,N⟩ (L (S ⟨f,0,N⟩) t.length r))).alloc (QR _) _).cell (au e5)).trans e5
 have c8:∃u,o.cell? ⟨p,3,N⟩=S u:=by
  rw [Q3 a3];exact ⟨_,Si (by first | omega | (simp;omega))⟩
 obtain ⟨u6,p4⟩:=c8;have o3:=RJ a3 3;have f5:=K l5;have b1:=K (a9.out.trans a6);have f9:=K m0;have a0:H (bg (o.setCell ⟨p,3,N⟩ (L (S ⟨l,0,N⟩) x.length m)) (L (S ⟨l,0,N⟩) x.length m) x.length 2 (bI x)/\z<=l/\l≠p/\l < (o.setCell ⟨p,3,N⟩ (L (S ⟨l,0,N⟩) x.length m)).heap.size):=K (rp l1 a3 (by have h1:=V.out;have h2:=a9.out.size;rw [d7] at h2;omega) (by decide));have s:H (bg (o.setCell ⟨p,3,N⟩ (L (S ⟨l,0,N⟩) x.length m)) (L (S ⟨d,0,N⟩) n.length y) n.length 1 (bA n)/\z<=d/\d≠p/\d < (o.setCell ⟨p,3,N⟩ (L (S ⟨l,0,N⟩) x.length m)).heap.size):=K ⟨bg.xt s.out.1 (pE.xt a6) (λg e e2=>s.out.2.2.1 (by injection e with e;exact Eq.trans e e2)),s.out.2.1,s.out.2.2.1,SA s.out.2.2.2 a6.size⟩;have G:H (bg (o.setCell ⟨p,3,N⟩ (L (S ⟨l,0,N⟩) x.length m)) (L (S ⟨f,0,N⟩) t.length r) t.length 2 (cZ t)/\z<=f/\f≠p/\f < (o.setCell ⟨p,3,N⟩ (L (S ⟨l,0,N⟩) x.length m)).heap.size):=K ⟨bg.xt G.out.1 (pE.xt a6) (λg e e2=>G.out.2.2.1 (by injection e with e;exact Eq.trans e e2)),G.out.2.1,G.out.2.2.1,SA G.out.2.2.2 a6.size⟩;clear l5 a6 m0 l1 i9 a3 g8 h7 m6 d7;have h0:Y6 w.heap.size w (o.setCell ⟨p,3,N⟩ (L (S ⟨l,0,N⟩) x.length m)):=(by rw [a5.out];exact a7.out.trans (b1.out.below (by have:=V.out;omega) (by omega)));have h8:=HA.out.below h0
 have e6:(o.setCell ⟨p,3,N⟩ (L (S ⟨l,0,N⟩) x.length m)).cell? ⟨z,6,N⟩=S (L aW b.length cW):=by
  rw [World.cell?_of_block (b1.out.block z (by omega) c3),Q3 b5.out];rfl
 have d8:(o.setCell ⟨p,3,N⟩ (L (S ⟨l,0,N⟩) x.length m)).heap.size=o.heap.size:=by simp
 have m7:((o.setCell ⟨p,3,N⟩ (L (S ⟨l,0,N⟩) x.length m)).alloc (YU #[] 3)).heap[o.heap.size]? =S (YU #[] 3 (0,0)):=by
  have h:=Q0 (o.setCell ⟨p,3,N⟩ (L (S ⟨l,0,N⟩) x.length m)) (YU #[] 3)
  rwa [d8] at h
 obtain ⟨B,E,W,m1,l2,j1,_⟩:=iH (P:=Ys) ((o.setCell ⟨p,3,N⟩ (L (S ⟨l,0,N⟩) x.length m)).alloc (YU #[] 3)) 33 33 3 (I J 0) 1 8 underlying33 wD rfl (by decide) (o.heap.size) m7 (L aW b.length cW) b.length (dG b) (h8.2.2.2.below ((QQ _ _).alloc (QR _) _)) (zq b) (by unfold maxLen;omega) (by omega);obtain ⟨a4,l6,Z⟩:=pz (j:=6) (v:=(L (S ⟨B,0,N⟩) b.length E)) f5.out (by rw [d8];exact j1);have p1:((o.setCell ⟨p,3,N⟩ (L (S ⟨l,0,N⟩) x.length m)).alloc (YU #[] 3)).cell? ⟨z,6,N⟩=S (L aW b.length cW):=(((QQ (o.setCell ⟨p,3,N⟩ (L (S ⟨l,0,N⟩) x.length m)).heap.size (o.setCell ⟨p,3,N⟩ (L (S ⟨l,0,N⟩) x.length m))).alloc (QR _) _).cell (au e6)).trans e6
 have c9:∃u,W.cell? ⟨p,6,N⟩=S u:=by
  rw [Q3 a4];exact ⟨_,Si (by first | omega | (simp;omega))⟩
 obtain ⟨u7,p5⟩:=c9;have o4:=RJ a4 6;have f6:=K l6;have f2:=K (b1.out.trans Z);have g0:=K m1;have m8:H (bg (W.setCell ⟨p,6,N⟩ (L (S ⟨B,0,N⟩) b.length E)) (L (S ⟨B,0,N⟩) b.length E) b.length 1 (dG b)/\z<=B/\B≠p/\B < (W.setCell ⟨p,6,N⟩ (L (S ⟨B,0,N⟩) b.length E)).heap.size):=K (rp l2 a4 (by have h1:=V.out;have h2:=b1.out.size;rw [d8] at h2;omega) (by decide));have s:H (bg (W.setCell ⟨p,6,N⟩ (L (S ⟨B,0,N⟩) b.length E)) (L (S ⟨d,0,N⟩) n.length y) n.length 1 (bA n)/\z<=d/\d≠p/\d < (W.setCell ⟨p,6,N⟩ (L (S ⟨B,0,N⟩) b.length E)).heap.size):=K ⟨bg.xt s.out.1 (pE.xt Z) (λg e e2=>s.out.2.2.1 (by injection e with e;exact Eq.trans e e2)),s.out.2.1,s.out.2.2.1,SA s.out.2.2.2 Z.size⟩;have G:H (bg (W.setCell ⟨p,6,N⟩ (L (S ⟨B,0,N⟩) b.length E)) (L (S ⟨f,0,N⟩) t.length r) t.length 2 (cZ t)/\z<=f/\f≠p/\f < (W.setCell ⟨p,6,N⟩ (L (S ⟨B,0,N⟩) b.length E)).heap.size):=K ⟨bg.xt G.out.1 (pE.xt Z) (λg e e2=>G.out.2.2.1 (by injection e with e;exact Eq.trans e e2)),G.out.2.1,G.out.2.2.1,SA G.out.2.2.2 Z.size⟩;have a0:H (bg (W.setCell ⟨p,6,N⟩ (L (S ⟨B,0,N⟩) b.length E)) (L (S ⟨l,0,N⟩) x.length m) x.length 2 (bI x)/\z<=l/\l≠p/\l < (W.setCell ⟨p,6,N⟩ (L (S ⟨B,0,N⟩) b.length E)).heap.size):=K ⟨bg.xt a0.out.1 (pE.xt Z) (λg e e2=>a0.out.2.2.1 (by injection e with e;exact Eq.trans e e2)),a0.out.2.1,a0.out.2.2.1,SA a0.out.2.2.2 Z.size⟩;clear l6 Z m1 l2 j1 a4 h0 h8 m7 d8
 go_wp2_with (first
  | (at_builtin;refine bp rfl _ _ 30 rfl _ _ (L (S ⟨d,0,N⟩) n.length y) C rfl rfl f7.out ?_)
  | (at_builtin;refine bp rfl _ _ 31 rfl _ _ (L (S ⟨f,0,N⟩) t.length r) A rfl rfl f8.out ?_)
  | (at_builtin;refine bp rfl _ _ 32 rfl _ _ (L (S ⟨l,0,N⟩) x.length m) o rfl rfl f9.out ?_)
  | (at_builtin;refine bp rfl _ _ 33 rfl _ _ (L (S ⟨B,0,N⟩) b.length E) W rfl rfl g0.out ?_)
  | fail)
 have hP:=f6.out;have g5:=And.intro s.out (And.intro G.out (And.intro a0.out m8.out));clear s G a0 m8;have hN:=f2.out;obtain ⟨W7,e0⟩:=QE (W.setCell ⟨p,6,N⟩ (L (S ⟨B,0,N⟩) b.length E));rw [e0] at hP hN g5;rw [e0];obtain ⟨A7,b2⟩:=QE (((((A3.setIfInBounds 1 (L (S ⟨d,0,N⟩) n.length y)).setIfInBounds 2 (L (S ⟨f,0,N⟩) t.length r)).setIfInBounds 3 (L (S ⟨l,0,N⟩) x.length m)).setIfInBounds 6 (L (S ⟨B,0,N⟩) b.length E)));rw [b2] at hP
 have X:∀i,i≠1->i≠2->i≠3->i≠6->A7[i]? =A3[i]? :=λi h1 h2 h3 h6=>by
  rw [<-b2,TH (Ne.symm h6),TH (Ne.symm h3),TH (Ne.symm h2),TH (Ne.symm h1)]
 have m3:A7.size=15:=by rw [<-b2];simp [s3]
 have o5:A7=fH ⟨O,n,t,x,Q,U,b,xm,R⟩ (L (S ⟨d,0,N⟩) n.length y) (L (S ⟨f,0,N⟩) t.length r) (L (S ⟨l,0,N⟩) x.length m) (L (S ⟨B,0,N⟩) b.length E) (D.take M) a.time (L N 0 0) (L N 0 0) (L N 0 0) (YV N):=by
  rw [<-b2,m9.out];unfold fH;rw [bR,SY];rfl
 have n0:=K o5;have n9:=K g5;have i4:Y6 z w W7:=a7.out.trans (hN.below (by have:=V.out;omega) (by omega));have b4:jO z W7 p A7 (L N 0 0) (L N 0 0) [] []:=⟨by have:=V.out;omega,hP,m3,by rw [X 12 (by decide) (by decide) (by decide) (by decide)];exact i0,by rw [X 13 (by decide) (by decide) (by decide) (by decide)];exact i1,World.ownsRow_nil _ _ _ _,World.ownsRow_nil _ _ _ _,Y4 rfl⟩
 have q9:A7[9]? =S (T (bs (D.take M))):=by
  rw [X 9 (by decide) (by decide) (by decide) (by decide),g9,bR,SY]
 have e7:A7[10]? =S (I J a.time):=by
  rw [X 10 (by decide) (by decide) (by decide) (by decide),h9]
 have i5:=uc z p a.time A7 (D.take M) _ _ [] [] W7 b4 q9 e7 (by rw [Sm];omega) (by simp) rfl;have n1:=K i4;have p7:=K q9;have p6:=K e7;clear hP hN e0 b2 X m3 i4 b4 q9 e7 f3 f4 f5 f6 a8 a9 b1 f2 f7 f8 f9 g0 e3 e4 e5 e6 o8 o9 p0 p1 p2 p3 p4 p5 o1 o2 o3 o4 g9 h9 i0 i1;refine i5.mono ?_;rintro e w8 ⟨A',q2,q3,k,rfl,d1,d2,d3,d4,d5,d6⟩;have n4:=K d3.out;have n6:=K d5;have n7:=K d6;have n2:=K d1;have n3:=K d2;have n5:=K (n1.out.trans d4);clear d1 d2 d4 d5 d6 i5;go_wp2_with fail
 go_ret2
 exact Ox n0.out n9.out n2.out n3.out n4.out n6.out n7.out (by rw [a5.out];exact n5.out) f1.out o0.out a5.out rfl
def gw(l:List QF):QF×Bool:=l.foldl (λs a=>((if s.2 then s.1++[13,10] else s.1)++a,YT)) ([],F)
theorem lM(l:List QF)(a:QF):gw (l++[a])=((if (gw l).2 then (gw l).1++[13,10] else (gw l).1)++a,YT):=by
 unfold gw;rw [List.foldl_append];rfl
theorem KH(l:List QF):(gw l).2= !l.isEmpty:=by
 rcases U0 l with rfl | ⟨r,a,rfl⟩
 .rfl
 rw [U2,lM];simp
def jq(l:List QF):Nat:=(l.map λa=>a.length+2).sum
theorem tn(l:List QF)(a:QF):jq (l++[a])=jq l+(a.length+2):=by
 unfold jq;rw [Sh,List.sum_append];simp
theorem KI(l:List QF):(gw l).1.length<=jq l:=by
 have b:∀n (l:List QF),l.length=n->(gw l).1.length<=jq l:=by
  intro n
  induction n with
  | zero=>
   intro l h;have e:l=[]:=TC.1 h;subst e;exact QS _
  | succ n ih=>
   intro l h
   rcases U0 l with rfl | ⟨r,a,rfl⟩
   .simp at h
   rw [U2] at h ⊢;have c:=ih r (by simpa using h);rw [lM,tn];simp only
   split
   .simp;omega
   simp;omega
 exact b _ l rfl
theorem Cx(l:List QF)(k:Nat):jq (l.take k)<=jq l:=by
 have h:=List.take_append_drop k l
 have:jq l=jq (l.take k)+jq (l.drop k):=by
  conv=>lhs;rw [<-h]
  unfold jq;rw [Sh,List.sum_append]
 omega
def NJ:QF:=[52,53,50,32,114,111,111,109]
def uC(T:Nat)(all:QF)(r:bf):aX:=⟨(bn all).1.items.length+1,T,r.xk,r.xd,(gw r.lines).1⟩
def hY(c:bF)(T:Nat)(all:QF)(r:bf):QF×QF:=
 if r.bad then (all,I2)
 else if c.size < ((gw r.lines).1.length:Int) then (all,NL)
 else if c.room < ((all.length+(8+(bT (uC T all r)).length):Nat):Int) then (all,NJ)
 else (all++bJ (bT (uC T all r)),[50,53,48,32,107,101,112,116,32]++Lib.itoa (((uC T all r).id:Nat):Int))
def cV(c:bF)(T:Nat)(all:QF)(r:bf)(s:QF):bf×QF×QF:=
 if r.inside then
  if s=[46] then ({r with inside:=F,begun:=F},(hY c T all r).1,(hY c T all r).2++[13,10])
  else ({r with bad:=r.bad || (bu s).2,lines:=r.lines++[dC s]},all,[])
 else if (bu s).2 then (r,all,I2++[13,10])
 else ((aR c r (Lib.toUpperA (aJ 32 s).1) (aJ 32 s).2.1 (aJ 32 s).2.2).1,all,(aR c r (Lib.toUpperA (aJ 32 s).1) (aJ 32 s).2.1 (aJ 32 s).2.2).2++[13,10])
structure Ee(L:Nat->Prop)(bb:Nat)(kv wv vM vO vT vS:QJ)(ts:List TE)(ms:List ME)(rows:List (aX×Nat))(rowsW:List (aX×QJ)):Prop where
 b:L bb
 k:∀g,kv.ownBlock=S g->L g
 m:∀g,vM.ownBlock=S g->L g
 o:∀g,vO.ownBlock=S g->L g
 t:∀g,vT.ownBlock=S g->L g
 s:∀g,vS.ownBlock=S g->L g
 ts:∀x∈ts,L x.g
 ms:∀x∈ms,∀g,x.v.ownBlock=S g->L g
 r:∀r∈rows,L r.2
 w:∀g,wv.ownBlock=S g->L g
 rw:∀r∈rowsW,∀g,r.2.ownBlock=S g->L g
theorem PV{bb:Nat}{b e f h g:QJ}{d:List TE}{c:List ME}{a:List (aX×Nat)}:Qt 0 bb b e f h g d c a:=
 ⟨QS _,λ_ _=>QS _,λ_ _=>QS _,λ_ _=>QS _,λ_ _=>QS _,λ_ _=>QS _,λ_ _=>QS _,λ_ _=>QS _⟩
theorem Ee.mono{L L':Nat->Prop}{bb:Nat}{i p l m o n:QJ}{ts:List TE}{j:List ME}{c:List (aX×Nat)}{b:List (aX×QJ)}(h:Ee L bb i p l m o n ts j c b)(a:∀k,L k->L' k):Ee L' bb i p l m o n ts j c b:=
 ⟨a _ h.b,λg e=>a g (h.k g e),λg e=>a g (h.m g e),λg e=>a g (h.o g e),λg e=>a g (h.t g e),λg e=>a g (h.s g e),λx f=>a _ (h.ts x f),λx f g e=>a g (h.ms x f g e),λr d=>a _ (h.r r d),λg e=>a g (h.w g e),λr d g e=>a g (h.rw r d g e)⟩
def su(L:Nat->Prop)(w:QI)(bb B:Nat):Prop:=∃N came kv wv vM vO vT vS ts ms s rows s' rowsW,Oe 0 w bb B N came kv wv vM vO vT vS ts ms s rows/\(dz s' w wv rowsW/\rowsW.map (·.1)=rows.map (·.1))/\Ee L bb kv wv vM vO vT vS ts ms rows rowsW
section
variable {L L' A:Nat->Prop} {w w':QI} {bb B B':Nat}
theorem su.mono(h:su L w bb B)(f:∀k,L k->L' k)(e:B<=B'):su L' w bb B':=by
 obtain ⟨a,c,j,r,n,o,q,p,ts,l,s,d,m,b,h,i,g⟩:=h;exact ⟨a,c,j,r,n,o,q,p,ts,l,s,d,m,b,⟨h.bk,h.kept,h.yw,h.f1,h.f2,h.f3,h.z1,h.z2,Rn h.n1 e,Rn h.n2 e,Rn h.n3 e,Rn h.n4 e,h.low⟩,i,g.mono f⟩
theorem dz.off{s:Nat}{v:QJ}{a:List (aX×QJ)}(h:dz s w v a)(b:aC A w w')(d:∀g,v.ownBlock=S g->¬A g)(f:∀r∈a,∀g,r.2.ownBlock=S g->¬A g):dz s w' v a:=
 ⟨aI h.1 b λg _ _ e=>d g e,λx c=>aI (h.2 x c) b λg _ _ e=>f x c g e⟩
theorem dK.off{s:Nat}{v:QJ}{a:List (aX×Nat)}(h:dK s w v a)(b:aC A w w')(d:∀g,v.ownBlock=S g->¬A g)(f:∀r∈a,¬A r.2):dK s w' v a:=
 ⟨aI h.row b λg _ _ e=>d g e,λx c=>aI (h.xd x c) b λg _ _ e=>by
  have e:S x.2=S g:=e;injection e with e;rw [<-e]
  exact f x c,h.apart⟩
theorem su.xt(h:su L w bb B)(j:aC A w w')(d:∀k,L k->¬A k):su L w' bb B:=by
 obtain ⟨a,f,t,q,y,z,D,C,v,u,s,i,o,b,h,m,c⟩:=h;have p:dz o w' q b:=m.1.off j (λg e=>d g (c.w g e)) (λr l g e=>d g (c.rw r l g e));exact ⟨a,f,t,q,y,z,D,C,v,u,s,i,o,b,⟨h.bk.xt j (d _ c.b) (λg e=>d g (c.t g e)) (λg e=>d g (c.s g e)) (λg e=>d g (c.m g e)) (λg e=>d g (c.o g e)) (λx n=>d _ (c.ts x n)) (λx n g _ _ e=>d g (c.ms x n g e)),h.kept.off j (λg e=>d g (c.k g e)) (λr l=>d _ (c.r r l)),⟨o,b,p,m.2⟩,h.f1,h.f2,h.f3,h.z1,h.z2,h.n1,h.n2,h.n3,h.n4,h.low⟩,⟨p,m.2⟩,c⟩
theorem su.xo(h:su L w bb B)(a:Y6 w.heap.size w w'):su L w' bb B:=h.xt (aC.below a:aC (λ_=>False) w w') (λ_ _ e=>e)
theorem su.bound(h:su L w bb B):su (λk=>L k/\k < w.heap.size) w bb B:=by
 obtain ⟨a,d,m,z,t,u,y,v,q,n,s,j,p,c,h,l,b⟩:=h;have o:=h.old;exact ⟨a,d,m,z,t,u,y,v,q,n,s,j,p,c,h,l,⟨⟨b.b,o.b⟩,λg e=>⟨b.k g e,o.k g e⟩,λg e=>⟨b.m g e,o.m g e⟩,λg e=>⟨b.o g e,o.o g e⟩,λg e=>⟨b.t g e,o.t g e⟩,λg e=>⟨b.s g e,o.s g e⟩,λx i=>⟨b.ts x i,o.ts x i⟩,λx i g e=>⟨b.ms x i g e,o.ms x i g e⟩,λr f=>⟨b.r r f,o.r r f⟩,λg e=>⟨b.w g e,lU l.1.1 e⟩,λr f g e=>⟨b.rw r f g e,lU (l.1.2 r f) e⟩⟩⟩
theorem CP(h:su L w bb B)(f:B<=549755813888):Y8 Ys 17 #[YV (S ⟨bb,0,N⟩)] w λe w'=>e=YX (YW YT)/\Y6 w.heap.size w w':=by
 obtain ⟨a,b,g,o,k,l,n,m,j,i,s,c,r,d,h,q,p⟩:=h;exact Eu 0 bb B w ⟨a,b,g,o,k,l,n,m,j,i,s,c,h⟩ f
theorem su.nil(h:w.heap[bb]? =S (YU #[I J 0,I J 0,YW F,.slice N 0 0,.slice N 0 0,.slice N 0 0,.slice N 0 0,.slice N 0 0,.slice N 0 0] 47 (0,0))):su (λk=>k=bb) w bb 0:=
 ⟨0,0,_,_,_,_,_,_,[],[],0,[],0,[],⟨⟨h,World.ownsRow_nil _ _ _ _,World.ownsRow_nil _ _ _ _,World.ownsRow_nil _ _ _ _,World.ownsRow_nil _ _ _ _,λx a=>by simp at a,λx a=>by simp at a⟩,⟨World.ownsRow_nil _ _ _ _,λx a=>by simp at a,by simp⟩,⟨0,[],⟨World.ownsRow_nil _ _ _ _,λx a=>by simp at a⟩,rfl⟩,λx a=>by simp at a,λx a=>by simp at a,λx a=>by simp at a,by simp,λx a=>by simp at a,QR _,QR _,by simp,by simp,PV⟩,⟨⟨World.ownsRow_nil _ _ _ _,λx a=>by simp at a⟩,rfl⟩,⟨rfl,λg e=>(by cases e),λg e=>(by cases e),λg e=>(by cases e),λg e=>(by cases e),λg e=>(by cases e),λx a=>by simp at a,λx a=>by simp at a,λx a=>by simp at a,λg e=>(by cases e),λx a=>by simp at a⟩⟩
end
theorem dd.yH{L:Nat->Prop}{w:QI}{v a:QJ}(h:dd w v a)(c:∀k,w.heap.size<=k->L k)(b:∀g,v.ownBlock=S g->L g):∀g,a.ownBlock=S g->L g:=λg e=>by
 rcases h with h | ⟨k,h,d⟩
 .exact b g (by rw [<-h];exact e)
 rw [h] at e;injection e with e;exact c g (by omega)
theorem qM.yH{L:Nat->Prop}{w w':QI}{bb a i:Nat}{P V v v2 y w2v z C E D m n p o:QJ}{d rows2:List (aX×Nat)}{R rW2:List (aX×QJ)}{u l:List TE}{U:List QF}{t j:List ME}{Q:List Nat}(h:qM w w' bb a i P V v z C E D d u U t Q l j m n p o)(c:Ee L bb v y z C E D u t d R)(f:∀k,w.heap.size<=k->L k)(G:∀g,v2.ownBlock=S g->L g)(q:∀r∈rows2,L r.2)(O:∀g,w2v.ownBlock=S g->L g)(s:∀r∈rW2,∀g,r.2.ownBlock=S g->L g):Ee L bb v2 w2v m n p o (u++l) (t++j) rows2 rW2:=
 ⟨c.b,G,h.nM.yH f c.m,h.nO.yH f c.o,h.nT.yH f c.t,h.nS.yH f c.s,λx b=>by
  rcases Rx.1 b with b | b
  .exact c.ts x b
  .rcases h.yP x b with ⟨r,M,e⟩ | e
   .rw [e];exact c.r r M
   exact f _ e,λx b g e=>by
  rcases Rx.1 b with b | b
  .exact c.ms x b g e
  exact (h.xz x b g e).elim (c.k g) (f g),q,O,s⟩
theorem qM.yV{L:Nat->Prop}{w w':QI}{bb b e:Nat}{y E v n q s u t i j m l:QJ}{c:List (aX×Nat)}{C:List (aX×QJ)}{p g:List TE}{D:List QF}{o f:List ME}{z:List Nat}(h:qM w w' bb b e y E v q s u t c p D o z g f i j m l)(d:Ee L bb v n q s u t p o c C):aC L w w':=
 h.xt.mono (λk _ a=>by
  rcases a with rfl | ⟨r,x,rfl⟩ | a | a | a | a | a
  .exact d.b
  .exact d.r r x
  .exact d.k k a
  .exact d.t k a
  .exact d.s k a
  .exact d.m k a
  exact d.o k a)
theorem qR(L:Nat->Prop)(bb B:Nat)(P w:QI)(v:QJ)(i:List (aX×Nat))(h:su L P bb B)(hb:Y6 P.heap.size P w)(j:dK P.heap.size w v i)(z1:i.length<=131072)(z2:∀r∈i,1<=r.1.xd.length/\r.1.xd.length<=255)(hB:B<=274877906944):Y8 Ys 33 #[YV (S ⟨bb,0,N⟩),v] w λe w'=>e=YX (YY #[])/\su (λk=>(L k\/P.heap.size<=k)/\k < w'.heap.size) w' bb (B+2097152)/\aC (λk=>L k\/P.heap.size<=k) w w':=by
 obtain ⟨U,hU⟩:∃U:Nat->Prop,(λk=>L k\/P.heap.size<=k)=U:=⟨_,rfl⟩;have UL:∀k,L k->U k:=λk e=>by rw [<-hU];exact Y4 e
 have UZ:∀k,P.heap.size<=k->U k:=λk e=>by rw [<-hU];exact Y5 e
 have HU:=K hU;clear hU;obtain ⟨b,o,kv,wv,vM,vO,vT,vS,ts,ms,s,q,s9,d4,h0,e7,d0⟩:=h;have d:=K h0.old;have G:=K (d0.mono UL);have g0:=K UL;have C:=K UZ;clear UL UZ d0 e7;have h1:=h0.xo hb;obtain ⟨n1,n2,n3,n4,zr⟩:=And.intro h1.n1 (And.intro h1.n2 (And.intro h1.n3 (And.intro h1.n4 h1.z1)));have g6:P.heap.size<=w.heap.size:=hb.size
 have b2:Pq (i.map (·.1)):=λm hm=>by
  obtain ⟨r,V,rfl⟩:=Rl.1 hm;exact z2 r V
 have c2:H (uQ (i.map (·.1))):=K ⟨by rw [RU];omega,λm hm=>(b2 m hm).2⟩
 have c1:H (uQ (q.map (·.1))):=K ⟨by rw [RU];omega,λm hm=>by
  obtain ⟨r,V,rfl⟩:=Rl.1 hm
  exact (h1.z2 r V).2⟩
 have b5:=K (Hc (i.map (·.1)) v w j.at (by rw [RU];omega) b2);have HH:=K h1;have HR:=K j;have c6:=K z2;clear h0 h1 j b2 hb z2;go_enter func33,ntmps33;go_wp2_with fail
 refine b5.out.mono ?_;rintro e w1 ⟨vw,E,rfl,hW,c9,a8⟩;have Q:=K (HH.out.xo a8);have c0:=K (HR.out.xo a8);have c5:=K hW;have b1:=K c9;have a7:=K a8;have c3:w1.drew.cell? ⟨bb,3,N⟩=S kv:=by show w1.cell? _=_;rw [Q3 Q.out.bk.xp];rfl
 have c4:w1.drew.cell? ⟨bb,4,N⟩=S wv:=by show w1.cell? _=_;rw [Q3 Q.out.bk.xp];rfl
 obtain ⟨ax,nx,cx,ek⟩:=fu Q.out.kept.row;obtain ⟨ay,ny,cy,ew⟩:∃a n c,wv= .slice a n c:=by obtain ⟨l,_,j,_⟩:=Q.out.yd;obtain ⟨a,c,e,_⟩:=j.shape;exact ⟨_,_,_,e⟩
 obtain ⟨av,nv,cv,ev⟩:=fu c0.out.row;subst ek ew ev;have e0:=K (mU _ _ _ w1.drew Q.out.kept.at Q.out.yd c1.out);clear hW c9 a8 b5 HH HR;go_wp2_with fail
 go_region_law (first
  | (go_simp;go_at_call 32;refine e0.out.mono ?_;rintro e w2 ⟨rfl,a0⟩;have B2:=K (show Y6 w1.heap.size w1 w2 from ⟨a0.os,a0.tape,a0.output,a0.size,a0.block⟩);clear a0))
 all_goals
  have R:=K (Q.out.xo B2.out);have z:=K (c0.out.xo B2.out);have e1:=K (show dz w.heap.size w2 vw E from ⟨aB c5.out.1 λg e3 e _=>ae B2.out e,λx p=>aB (c5.out.2 x p) λg e3 e _=>ae B2.out e⟩);have d3:w2.cell? ⟨bb,3,N⟩=S (.slice ax nx cx):=Q3 R.out.bk.xp _;have b6:=K (BU s bb b o _ _ _ vM vO vT vS q ts _ ms _ w2 R.out.bk R.out.kept R.out.f1 R.out.f2 R.out.f3 (λr j=>(R.out.z2 r j).2) (by omega) (by omega) (by omega) (by rw [RU];omega) (by omega) (by rw [RU];omega));clear c3 c4;go_wp2_with fail
  refine b6.out.mono ?_;rintro e w3 ⟨rfl,u,t,a2,a3,a5,a4,hP⟩
  have hA:∀k,(k=bb\/(∃r∈q,k=r.2)\/(Value.slice ax nx cx).ownBlock=S k\/vT.ownBlock=S k\/vS.ownBlock=S k\/vM.ownBlock=S k\/vO.ownBlock=S k)->k < P.heap.size:=λk D=>by
   rcases D with rfl | ⟨r,j,rfl⟩ | D | D | D | D | D
   .exact d.out.b
   .exact d.out.r r j
   .exact d.out.k k D
   .exact d.out.t k D
   .exact d.out.s k D
   .exact d.out.m k D
   exact d.out.o k D
  have L3:=z.out.xt hP.xt hA;have W3:=e1.out.xt hP.xt (λk D=>by have:=hA k D;omega);have d5:H (aC U w2 w3):=K (hP.yV G.out);have X:=K hP;have c8:fW w3 vw (i.map (·.1)):=by rw [<-b1.out];exact W3.at
  have a9:=K (mU _ _ _ w3 L3.at c8 c2.out);have d9:=K L3;have e2:=K W3;obtain ⟨aw,nw,cw,e4⟩:=fu W3.1;subst e4;clear hP L3 W3 c8 hA d3 b6;go_wp2_with fail
  refine a9.out.mono ?_;rintro e W ⟨rfl,a1⟩
  have A4:ft W bb (b+q.length+1) o (.slice ax nx cx) (.slice ay ny cy) (ts++u) ((ts++u).map TE.s) (ms++t) ((ms++t).map ME.k) a2 a3 a5 a4:=by
   have:=X.out.bk.xo a1;rw [<-Sh, <-Sh] at this;exact this
  have L4:=K (d9.out.xo a1);have W4:H (dz w.heap.size W (.slice aw nw cw) E):=K (e2.out.xt (aC.below (A:=λ_=>False) a1) (λ_ f=>f.elim));have b4:H (aC U w W):=K ((((aC.below a7.out:aC U w w1).trans (aC.below B2.out:aC U w1 w2) (λ_ _ e=>e)).trans d5.out (λ_ _ e=>e)).trans (aC.below a1:aC U w3 W) (λ_ _ e=>e));have k1:W.cell? ⟨bb,1,N⟩=S (I J o):=Q3 A4.xp _;have k2:W.cell? ⟨bb,2,N⟩=S (YW F):=Q3 A4.xp _;have k3:W.cell? ⟨bb,3,N⟩=S (.slice ax nx cx):=Q3 A4.xp _;have k4:W.cell? ⟨bb,4,N⟩=S (.slice ay ny cy):=Q3 A4.xp _;have f1:=RJ A4.xp 1;have f2:=RJ A4.xp 2;have f3:=RJ A4.xp 3;have f4:=RJ A4.xp 4;have g5:IntKind.i64.wrap ((o:Int)+1)=(o:Int)+1:=by rw [QY];omega
  have a6:=K A4;have f7:w2.heap.size<=W.heap.size:=Rn X.out.xt.size a1.size;clear A4 a1 a9;go_wp2_with fail
  .obtain ⟨Y,O⟩:∃Y:QI,(((W.setCell ⟨bb,2,N⟩ (YW F)).setCell ⟨bb,3,N⟩ (.slice N 0 0)).setCell ⟨bb,4,N⟩ (.slice N 0 0)).setCell ⟨bb,1,N⟩ (I J ((o:Int)+1))=Y:=⟨_,rfl⟩;rw [O];have S5:aA bb W Y:=by rw [<-O];exact ((((aA.refl _ _).setCell _).setCell _).setCell _).setCell _
   have A5:ft Y bb (b+q.length+1) (o+1) (.slice N 0 0) (.slice N 0 0) (ts++u) ((ts++u).map TE.s) (ms++t) ((ms++t).map ME.k) a2 a3 a5 a4:=a6.out.yg S5 (by
    rw [<-O]
    exact Ro _ bb 1 _ _ _ (Ro _ bb 4 _ _ _ (Ro _ bb 3 _ _ _ (Ro W bb 2 _ _ _ a6.out.xp))))
   have b3:=d.out.b;have L5:=L4.out.xt (aC.same S5) (λk D=>by rw [D];exact b3);have rb:∀r∈i,P.heap.size<=r.2/\r.2 < w2.heap.size:=λr j=>z.out.ge j;have e6:=X.out.yO;have e5:=X.out.yN
   have b7:=K (BU P.heap.size bb (b+q.length+1) (o+1) _ _ (.slice av nv cv) a2 a3 a5 a4 i (ts++u) _ (ms++t) _ Y A5 L5 (λx p r j=>by
    have h9:=rb r j
    rcases Rx.1 p with p | p
    .have:=d.out.ts x p;omega
    .rcases X.out.yP x p with ⟨r',V,M⟩ | M
     .have:=d.out.r r' V;omega
     omega) (λr j e=>by
    have h9:=rb r j
    rcases X.out.nS with M | ⟨y,M,hy⟩
    .have:=d.out.s r.2 (by rw [<-M];exact e);omega
    .rw [M] at e;injection e with e;omega) (λx p g e M=>by
    have h9:=(z.out.row.lt g M).1;have h8:=(z.out.row.lt g M).2
    rcases Rx.1 p with p | p
    .have:=d.out.ms x p g e;omega
    rcases X.out.xz x p g e with e9 | e9
    .have:=d.out.k g e9;omega
    omega) (λr j=>(c6.out r j).2) (by omega) (by omega) (by rw [RI];omega) (by rw [RU,RI];omega) (by rw [RI];omega) (by rw [RU,RI];omega))
   have d6:=K (b4.out.trans (aC.same S5) (λk _ e=>by rw [e];exact G.out.b));have b0:H (Ee U bb (.slice av nv cv) (.slice N 0 0) a2 a3 a5 a4 (ts++u) (ms++t) i []):=K (X.out.yH G.out (λk e=>C.out k (by have:=a7.out.size;have:=B2.out.size;omega)) (λg e=>C.out g (z.out.row.lt g e).1) (λr j=>C.out _ (rb r j).1) (λg e=>(by cases e)) (λr j=>by simp at j));have g4:P.heap.size<=Y.heap.size:=by rw [S5.1];have:=a7.out.size;have:=B2.out.size;omega
   have f8:=K A5;have f9:=K L5;clear S5 A5 L5 O;refine b7.out.mono ?_;rintro e w6 ⟨rfl,d2,d1,e8,f0,f6,f5,Z⟩;have d7:=K (d6.out.trans (Z.yV b0.out) (λ_ _ e=>e));have c7:=K (Z.yH b0.out (λk e=>C.out k (by omega)) (v2:= .slice N 0 0) (w2v:= .slice N 0 0) (rows2:=[]) (rW2:=[]) (λg e=>(by cases e)) (λr j=>by simp at j) (λg e=>(by cases e)) (λr j=>by simp at j))
   have A6:ft w6 bb (b+q.length+1+i.length+1) (o+1) (.slice N 0 0) (.slice N 0 0) (ts++u++d2) ((ts++u++d2).map TE.s) (ms++t++d1) ((ms++t++d1).map ME.k) e8 f0 f6 f5:=by
    have:=Z.bk;rw [<-Sh, <-Sh] at this;exact this
   have l2:=Z.yO;have l3:=Z.yN;have d8:=K A6;clear Z A6;go_wp2_with fail
   refine RN (RP rfl _ _ _) rfl ?_;rw [HU.out];show _/\su (λk=>(λk=>L k\/P.heap.size<=k) k/\k < w6.heap.size) w6 bb _/\_;rw [HU.out];refine ⟨rfl,su.bound ⟨_,_,_,_,_,_,_,_,_,_,0,[],0,[],⟨d8.out,⟨World.ownsRow_nil _ _ _ _,λx p=>by simp at p,by simp⟩,⟨0,[],⟨World.ownsRow_nil _ _ _ _,λx p=>by simp at p⟩,rfl⟩,λx _ r j=>by simp at j,λr j=>by simp at j,λx _ g _ e=>(by cases e),by simp,λr j=>by simp at j,by omega,by omega,?_,?_,PV⟩,⟨⟨World.ownsRow_nil _ _ _ _,λx p=>by simp at p⟩,rfl⟩,c7.out⟩,d7.out⟩
   .rw [RI,RI];omega
   rw [RI,RI];omega
  obtain ⟨Y,O⟩:∃Y:QI,(((((W.setCell ⟨bb,2,N⟩ (YW F)).setCell ⟨bb,3,N⟩ (.slice N 0 0)).setCell ⟨bb,4,N⟩ (.slice N 0 0)).setCell ⟨bb,1,N⟩ (I J ((o:Int)+1))).setCell ⟨bb,3,N⟩ (.slice av nv cv)).setCell ⟨bb,4,N⟩ (.slice aw nw cw)=Y:=⟨_,rfl⟩;rw [O];have S5:aA bb W Y:=by rw [<-O];exact ((((((aA.refl _ _).setCell _).setCell _).setCell _).setCell _).setCell _).setCell _
  have A5:ft Y bb (b+q.length+1) (o+1) (.slice av nv cv) (.slice aw nw cw) (ts++u) ((ts++u).map TE.s) (ms++t) ((ms++t).map ME.k) a2 a3 a5 a4:=a6.out.yg S5 (by
   rw [<-O]
   exact Ro _ bb 4 _ _ _ (Ro _ bb 3 _ _ _ (Ro _ bb 1 _ _ _ (Ro _ bb 4 _ _ _ (Ro _ bb 3 _ _ _ (Ro W bb 2 _ _ _ a6.out.xp))))))
  have b3:=d.out.b;have L5:=L4.out.xt (aC.same S5) (λk D=>by rw [D];exact b3);have V5:=W4.out.xt (aC.same S5) (λk D=>by rw [D];omega);have rb:∀r∈i,P.heap.size<=r.2/\r.2 < w2.heap.size:=λr j=>z.out.ge j;have e6:=X.out.yO;have e5:=X.out.yN;refine RN (RP rfl _ _ _) rfl ?_;rw [HU.out];show _/\su (λk=>(λk=>L k\/P.heap.size<=k) k/\k < Y.heap.size) Y bb _/\_;rw [HU.out];refine ⟨rfl,su.bound ⟨_,_,_,_,_,_,_,_,_,_,P.heap.size,i,_,E,⟨A5,L5,⟨_,E,V5,b1.out⟩,λx p r j=>?_,λr j e=>?_,λx p g e M=>?_,by omega,c6.out,by omega,by omega,?_,?_,PV⟩,⟨V5,b1.out⟩,X.out.yH G.out (λk e=>C.out k (by have:=a7.out.size;have:=B2.out.size;omega)) (λg e=>C.out g (z.out.row.lt g e).1) (λr j=>C.out _ (rb r j).1) (λg e=>C.out g (by have:=(V5.1.lt g e).1;omega)) (λr j g e=>C.out g (by have:=((V5.2 r j).lt g e).1;omega))⟩,b4.out.trans (aC.same S5) (λk _ e=>by rw [e];exact G.out.b)⟩
  .have h9:=rb r j
   rcases Rx.1 p with p | p
   .have:=d.out.ts x p;omega
   rcases X.out.yP x p with ⟨r',V,M⟩ | M
   .have:=d.out.r r' V;omega
   omega
  .have h9:=rb r j
   rcases X.out.nS with M | ⟨y,M,hy⟩
   .have:=d.out.s r.2 (by rw [<-M];exact e);omega
   rw [M] at e;injection e with e;omega
  .have h9:=(z.out.row.lt g M).1;have h8:=(z.out.row.lt g M).2
   rcases Rx.1 p with p | p
   .have:=d.out.ms x p g e;omega
   rcases X.out.xz x p g e with e9 | e9
   .have:=d.out.k g e9;omega
   omega
  .rw [RI];omega
  rw [RI];omega
def kh:Code->Option Code
 | .loop c=>S c
 | .seq a b=>match kh a with
  | some c=>S c
  | none=>kh b
 | .block _ c=>kh c
 | .scope c=>kh c
 | .cond _ a b=>match kh a with
  | some c=>S c
  | none=>kh b
 | _=>N
def oE(f:Func):Code:=((f.body.bind kh).getD .skip)
def Qz(l:List mA)(asl:QK)(csl:Nat)(w:QI)(c15 c16:QJ)(k:Nat)(v:QJ)(a:Act):Prop:=∃u4 u8 u9 u10 u11 u12 u13 u14 u17 u18 u19 u20 u21 u22 u23 u24 u25 u26 u27 u28 u29 u30 u31 u32 u33 u34 u35 u36 u37 u38 u39 u40 u41 u42 u43 u44 u45 u46 u47 u48 u49 u50 u51 u52 u53 u54 u55 u56 u57 u58 u59 u60 u61 u62 u63 u64 u65 u66 u67 u68 u69 u70 u71 u72 u73 u74 u75 u76 u77 u78 u79 u80 u81 u82 u83 u84 u85 u86 u87 u88 u89 u90 u91 u92 u93 u94 u95 u96 u97 u98 u99 u100 u101 u102 u103 u104 u105 u106 u107 u108 u109 u110 u111 u112 u113 u114 u115 u116 u117 u118 u119 u120 u121 u122 u123 u124 u125 u126 u127 u128 u129 u130 u131 u132 u133 u134 u135 u136 u137 u138 u139 u140 u141 u142 u143 u144 u145 u146 u147 u148 u149 u150 u151 u152 u153 i:QJ,i=I J (k:Int)/\a=⟨#[L asl l.length csl,I J 4,undef,undef,u4,v,YV (S ⟨w.heap.size,0,N⟩),i,u8,u9,u10,u11,u12,u13,u14,c15,c16,u17,u18,u19,u20,u21,u22,u23,u24,u25,u26,u27,u28,u29,u30,u31,u32,u33,u34,u35,u36,u37,u38,u39,u40,u41,u42,u43,u44,u45,u46,u47,u48,u49,u50,u51,u52,u53,u54,u55,u56,u57,u58,u59,u60,u61,u62,u63,u64,u65,u66,u67,u68,u69,u70,u71,u72,u73,u74,u75,u76,u77,u78,u79,u80,u81,u82,u83,u84,u85,u86,u87,u88,u89,u90,u91,u92,u93,u94,u95,u96,u97,u98,u99,u100,u101,u102,u103,u104,u105,u106,u107,u108,u109,u110,u111,u112,u113,u114,u115,u116,u117,u118,u119,u120,u121,u122,u123,u124,u125,u126,u127,u128,u129,u130,u131,u132,u133,u134,u135,u136,u137,u138,u139,u140,u141,u142,u143,u144,u145,u146,u147,u148,u149,u150,u151,u152,u153],[]⟩
structure Qy(l:List mA)(w wr:QI)(b off csl k:Nat)(v:QJ)(tw:List (QJ×QJ))(m:Int)(c15 c16:QJ)(kind p n:Int)(xy:Bool)(S:QF)(c:bF)(aD aN aU aW:QK)(cD cN cU cW:Nat)(K:Act->QI->Prop):Prop where
 st:Jo w wr w.heap.size (k * 2097152) v tw
 tk:tw.length<=k
 lt:k < l.length
 ll:l.length<=65536
 ok:mA.Ok w ⟨kind,p,n,xy,S,c,L aD c.xf.length cD,L aN c.xe.length cN,L aU c.x9.length cU,L aW c.waits.length cW⟩
 cell:∀i u,i < 14->(aP kind p n xy S c (L aD c.xf.length cD) (L aN c.xe.length cN) (L aU c.x9.length cU) (L aW c.waits.length cW))[i]? =some u->w.cell? ⟨b,off+k * 14+i,N⟩=some u
 mm:w.cell? ⟨0,0,N⟩=some (I J m)
 next:∀(a':Act) (w':QI) (v':QJ) (tw':List (QJ×QJ)),Qz l (some ⟨b,off,N⟩) csl w c15 c16 (k+1) v' a'->tw'.length<=k+1->Jo w w' w.heap.size ((k+1) * 2097152) v' tw'->K a' w'
open Go.ChangeShapes Go.WideShapes Go.RowKit Go.Deep
section
variable {H:Type} {enc:TypeId×QJ->H} {w:QI} {base:Nat} {spare:Nat->Bool} {held:Bool}
theorem D6{n:Int}(h:(Lit.int .i64 n).wf=true):OD n:=by
 simp only [Lit.wf,Rk,decide_eq_true_eq] at h;exact h
theorem ou(d:DataW H):1<=Rows.uptoBulk d:=by
 cases d with
 | lit l=>cases l <;> simp [Rows.uptoBulk]
 | nil=>simp [Rows.uptoBulk]
 | ptr d=>simp [Rows.uptoBulk]
 | slice elems spare=>simp [Rows.uptoBulk]
 | agg parts=>simp [Rows.uptoBulk]
 | iface t d=>simp [Rows.uptoBulk]
 | map entries=>simp [Rows.uptoBulk]
 | held h=>simp [Rows.uptoBulk]
theorem J3{d:DataW H}{l:List (DataW H)}(h:d∈l):Rows.uptoBulk d<=Rows.uptoBulkAll l:=by
 induction l with
 | nil=>cases h
 | cons x r ih=>
  simp only [Rows.uptoBulkAll]
  cases Rf.1 h with
  | inl e=>subst e;omega
  | inr e=>have:=ih e;omega
theorem Bv{k:Nat}{l:List (DataW H)}(h:∀d∈l,k<=Rows.uptoBulk d):l.length * k<=Rows.uptoBulkAll l:=by
 induction l with
 | nil=>simp
 | cons x r ih=>
  have b:=ih λd a=>h d (List.mem_cons_of_mem _ a);have c:=h x (List.mem_cons_self ..);simp only [Rows.uptoBulkAll,RQ,Nat.add_mul,Nat.one_mul];omega
theorem J2{l:List (DataW H)}:l.length<=Rows.uptoBulkAll l:=by
 have:=Bv (k:=1) (l:=l) λd _=>ou d;omega
theorem GN{P:Program}{e:TypeId}{l:List (DataW H)}{d:DataW H}(h:(DataW.weightsAll P e l).all (·<=reachBytes)=true)(a:d∈l):(d.weights P e).all (·<=reachBytes)=true:=by
 induction l with
 | nil=>cases a
 | cons x r ih=>
  simp only [DataW.weightsAll,Ug,Rk] at h
  cases Rf.1 a with
  | inl e=>subst e;exact h.1
  | inr e=>exact ih h.2 e
theorem Ex:prog.cellsOf 49=14:=by kernel_rfl
theorem GZ:prog.cellsOf 4=1:=by kernel_rfl
theorem PU{α:Type}{l:List α}(h:l.length=14):∃a b c d e f g i j k m n o p,l=[a,b,c,d,e,f,g,i,j,k,m,n,o,p]:=by
 match l,h with
 | [a,b,c,d,e,f,g,i,j,k,m,n,o,p],_=>exact ⟨a,b,c,d,e,f,g,i,j,k,m,n,o,p,rfl⟩
theorem Qr{α:Type}{l:List α}(h:l.length=6):∃a b c d e f,l=[a,b,c,d,e,f]:=by
 match l,h with
 | [a,b,c,d,e,f],_=>exact ⟨a,b,c,d,e,f,rfl⟩
theorem Pc{z:Nat}{X:List QJ}{x:DataW H×List MemPlace}(h:DataW.trod enc Ys w base spare held z 49 X=some x)(hz:(x.1.weights Ys 49).all (·<=reachBytes)=true)(hk:Rows.uptoBulk x.1<=1048576):∃o:mA,X=o.cells.toList/\mA.Ok w o/\16<=Rows.uptoBulk x.1:=by
 obtain ⟨xs,n,_,rfl,hl,hx,u⟩:=VL YP h;rw [Ex] at hl;obtain ⟨f,g,i,k,m,p,a,b,d,q,r,e,s,t,rfl⟩:=PU hl;obtain ⟨B,C,D,E,G,A,rfl⟩:=Qr hx;have g0:DataW.trod enc Ys w base spare held n 3 (([f,g,i,k,m,p,a,b,d,q,r,e,s,t].drop 0).take (prog.cellsOf 3))=some B:=u 0 _ rfl;have g1:DataW.trod enc Ys w base spare held n 3 (([f,g,i,k,m,p,a,b,d,q,r,e,s,t].drop 1).take (prog.cellsOf 3))=some C:=u 1 _ rfl;have g2:DataW.trod enc Ys w base spare held n 3 (([f,g,i,k,m,p,a,b,d,q,r,e,s,t].drop 2).take (prog.cellsOf 3))=some D:=u 2 _ rfl;have g3:DataW.trod enc Ys w base spare held n 4 (([f,g,i,k,m,p,a,b,d,q,r,e,s,t].drop 3).take (prog.cellsOf 4))=some E:=u 3 _ rfl;have g4:DataW.trod enc Ys w base spare held n 9 (([f,g,i,k,m,p,a,b,d,q,r,e,s,t].drop 4).take (prog.cellsOf 9))=some G:=u 4 _ rfl;have O:DataW.trod enc Ys w base spare held n 35 (([f,g,i,k,m,p,a,b,d,q,r,e,s,t].drop 5).take (prog.cellsOf 35))=some A:=u 5 _ rfl;simp only [mI,GZ,mJ,Bw,SY,List.drop_succ_cons,List.take_succ_cons,List.take_zero] at g0 g1 g2 g3 g4 O;simp only [DataW.weights,YP,List.map_cons,RF] at hz;obtain ⟨n0,Y,_,w0⟩:=VI underlying3 g0;obtain ⟨n1,Z,_,w1⟩:=VI underlying3 g1;obtain ⟨n2,e2,_,w2⟩:=VI underlying3 g2;obtain ⟨n3,e3,_⟩:=DataW.trod_bool underlying4 g3;obtain ⟨v,e4,x4,_⟩:=DataW.trod_string underlying9 g4
 have Q:∃y,A.1= .agg y/\y.length=9:=by
  obtain ⟨ys,_,_,hy,_,W,_⟩:=VL underlying35 O;exact ⟨ys.map (·.1),by rw [hy],by rw [RU,W];rfl⟩
 obtain ⟨c,vD,vN,vU,vW,e5,P,U,R⟩:=Nq O (jB hz (j:=5) rfl rfl);simp only [List.cons.injEq,and_true] at Y Z e2 e3 e4 e5;obtain ⟨q0,q1,q2,q3,q4,q5,q6,q7,q8⟩:=e5;subst Y Z e2 e3 e4 q0 q1 q2 q3 q4 q5 q6 q7 q8;have M:v=bs v.data.toList:=by unfold bs;simp
 obtain ⟨y,ed,b4⟩:=Q;have b5:=J2 (l:=y);have b6:Rows.uptoBulk G.1=v.data.toList.length+1:=by rw [x4];simp [Rows.uptoBulk]
 have p0:=ou B.1;have p1:=ou C.1;have p2:=ou D.1;have p3:=ou E.1;have p5:Rows.uptoBulk A.1=Rows.uptoBulkAll y+1:=by rw [ed];simp [Rows.uptoBulk,Nat.add_comm]
 have ek:Rows.uptoBulk (DataW.agg ([B,C,D,E,G,A].map (·.1)))=Rows.uptoBulk B.1+(Rows.uptoBulk C.1+(Rows.uptoBulk D.1+(Rows.uptoBulk E.1+(Rows.uptoBulk G.1+Rows.uptoBulk A.1))))+1:=by
  simp [Rows.uptoBulk,Rows.uptoBulkAll,Nat.add_comm]
 have V:=hk;rw [ek] at V;refine ⟨⟨n0,n1,n2,n3,v.data.toList,c,a,b,d,e⟩,?_,⟨P,U,R,?_,D6 w0,D6 w1,D6 w2⟩,?_⟩
 .show _=[Value.int .i64 n0,.int .i64 n1,.int .i64 n2,.bool n3,.string (bs v.data.toList),.string c.host,a,b,d,.int .i64 c.most,.int .i64 c.size,e,.int .i64 c.xm,.int .i64 c.room];rw [<-M]
 .show v.data.toList.length<=1048576;omega
 rw [ek];omega
theorem I4(l:List mA):(jH l).length=l.length * 14:=by
 induction l with
 | nil=>rfl
 | cons x l ih=>
  show (x.cells.toList++jH l).length=_;have a:x.cells.toList.length=14:=rfl;rw [RI,a,ih,RQ];omega
theorem Mv{n j:Nat}(h:j < n * 14):∃k i,k < n/\i < 14/\j=k * 14+i:=⟨j / 14,j % 14,by omega,by omega,by omega⟩
theorem Fz{r:Nat}{E:List QJ}{x:DataW H×List MemPlace}(h:DataW.trod enc Ys w base spare held r 22 E=some x)(M:(x.1.weights Ys 22).all (·<=reachBytes)=true)(u:Rows.uptoBulk x.1<=1048576):∃(v:QJ) (l:List mA),E=[v]/\lD w v l/\l.length<=65536:=by
 rcases open_slice underlying22 h with ⟨rfl,rfl⟩ | ⟨a,c,O,m,n,D,Y,rfl,_,V,hm,B,rfl,X⟩
 .exact ⟨_,[],rfl,⟨⟨rfl,.inl ⟨rfl,_,_,rfl⟩⟩,λ_ h=>by cases h⟩,by decide⟩
 have W:c<=m:=by rw [B];split <;> omega
 simp only [DataW.weights,underlying22,List.all_cons,Ug,Rk] at M
 have U:Rows.uptoBulkAll ((List.range c).map D)<=1048575:=by
  simp only [Rows.uptoBulk] at u;omega
 have q:∀i,i < c->∃o:mA,(∀j,j < 14->w.cell? (a.add (i * 14+j))=o.cells[j]?)/\mA.Ok w o/\16<=Rows.uptoBulk (D i):=λi f=>by
  obtain ⟨P,G,Q⟩:=X i (by omega);have g:D i∈(List.range c).map D:=Rl.2 ⟨i,Q8.2 f,rfl⟩;have Z:=J3 g;obtain ⟨o,e,C,s⟩:=Pc Q (GN M.2.1 g) (by show Rows.uptoBulk (D i)<=_;omega);rw [Ex] at G;obtain ⟨_,_,p⟩:=World.cells?_some G;refine ⟨o,λj A=>?_,C,s⟩;have:=p j A;rw [add_add] at this;rw [this,e,Sl]
 haveI:Inhabited mA:=⟨⟨0,0,0,false,[],⟨⟨#[]⟩,[],[],[],0,0,[],0,0⟩,.slice none 0 0,.slice none 0 0,.slice none 0 0,.slice none 0 0⟩⟩
 obtain ⟨b,z⟩:=choose_lt q;have y:((List.range c).map b).length=c:=by simp
 have s:c * 16<=1048575:=by
  have:=Bv (k:=16) (l:=(List.range c).map D) λd R=>by
   obtain ⟨i,f,rfl⟩:=Rl.1 R;exact (z i (Q8.1 f)).2.2
  rw [RU,List.length_range] at this;omega
 refine ⟨_,(List.range c).map b,rfl,⟨?_,?_⟩,by rw [y];omega⟩
 .rw [y]
  have t:(jH ((List.range c).map b)).length=c * 14:=by
   rw [I4,y]
  refine zU (by decide) t V λj A=>?_;obtain ⟨k,i,u,f,rfl⟩:=Mv A;rw [(z k u).1 i f,Cm _ k i (by rw [y];exact u) f];simp
 intro o C;obtain ⟨i,f,rfl⟩:=Rl.1 C;exact (z i (Q8.1 f)).2.1
end
end Go.Proofs.YtponhohdpophlaaGreatDoor
