import Derived.Test.YtponhohdpophlaaGreatDoorS11
import Derived.Test.YtponhohdpophlaaGreatDoorS13
import Derived.Lib.SlBytesConst
import Derived.Conc.SmallLaws
namespace Go.Proofs.YtponhohdpophlaaGreatDoor
set_option maxHeartbeats 8000000
set_option maxRecDepth 1000000
open Go renaming heap_alloc_new->Q0,bodyPost_end->RN,results_none->RP,heap_setCell_same->Ro,info_parts->Rr,bodyPost_ret->Ru,Calls->Y8,TypeId->Za,Ending->Zb
open Go.Ending renaming returned->YX
open Go.IntKind renaming i64->J
open Go.Lib renaming cell_of_heap->Q3,frozen_of_heap->RJ
open Go.Obj renaming cells->YU
open Go.Proofs.Tryz renaming underlying30->Rt,func35->U6,ntmps35->U7,results35->U8,ntmps178->VP,results178->VQ,func286->Vh,ntmps286->Vi,func242->Vk,ntmps242->Vl,ntmps196->Vn,func71->Wo,ntmps71->Wp,ntmps198->Ww,ntmps197->Wx,ntmps233->Wy,ntmps172->Wz,func172->Xc,func178->Xd,func196->Xe,func197->Xg,func198->Xh,func233->Xk,ntmps38->Yk,prog->Ys
open Go.RowKit renaming Hid->H,Below->Y6,intOf->Y9
open Go.RowKit.Below renaming refl->QQ
open Go.Value renaming int->I,slice->L,string->T,pointer->YV,bool->YW,tuple->YY,agg->YZ
open _root_.Bool renaming false->F,eq_iff_iff->Ri,and_eq_true->Rk,not_eq_true'->Rm,and_false->SG,true_and->Sy,false_eq_true->Tm,or_eq_true->Ty,and_eq_false_iff->Uh,true_eq_false->VU,true->YT
open _root_.List renaming getD_eq_getElem?_getD->Q5,getElem_mem->QU,take_succ_eq_append_getElem->QV,take_length->QZ,getElem?_set_ne->R6,length_cons->RQ,length_nil->RR,getElem?_set_self->RZ,all_eq_true->Rb,getElem?_eq_getElem->Re,mem_cons->Rf,contains_iff_mem->Rh,length_drop->Rq,mem_append->Rx,mem_of_getElem?->SB,drop_zero->SY,getElem?_eq_none->Sg,length_take->Sm,getElem?_map->TV,mem_cons_self->Tw,mem_cons_of_mem->Tx,isSuffixOf_iff_suffix->U1,getElem?_cons_zero->UG,getElem?_cons_succ->UH,any_cons->V8,foldl_cons->Vj
open _root_.Nat renaming le_refl->QR,zero_le->QS,le_trans->Rn,lt_of_lt_of_le->SA,le_of_eq->UW,le_succ->Vm
open _root_.Option renaming none->N,some->S,isSome_some->Ua
open _root_.Or renaming inl->Y4,inr->Y5
open Go.Proofs.Tryz
open Go.RowKit
theorem pg{P:Program}{t e:Za}{i:TypeInfo}{z:QJ}{a:Nat}(G:P.underlying t=S (.slice e))(E:P.info? e=S i)(O:i.zero=S z)(f:i.size=1)(r:i.bytes=a)(s:z.cells.size=1)
  (w W:QI) (v x:QJ) (n:Nat) (o:List QJ) (l:w.ownsRow 0 e 1 v n o) (M:x.oneCell'=YT) (q:Y6 w.heap.size w W) (D:W.heap[w.heap.size]? =S (YU #[x] e (0,0))) (p:n+1<=maxLen) (c:(n+1) * a<=140737488355328):
  ∃g b m,(Builtin.append_ #[t,t] t #[v,L (S ⟨w.heap.size,0,N⟩) 1 1]).run P W= .ok (L (S ⟨g,0,N⟩) (n+1) b) m/\m.ownsRow 0 e 1 (L (S ⟨g,0,N⟩) (n+1) b) (n+1) (o++[x])/\aC (λk=>v.ownBlock=S k) w m/\(v.ownBlock=S g\/w.heap.size<=g):=by
 have d:W.ownsRow 0 e 1 v n o:=aB l λg A e _=>ae q e;obtain ⟨g,b,m,B,C,h⟩:=jb (P:=P) W t t 0 e i z 1 a G E O f r s (by decide) v n o d ⟨w.heap.size,0,N⟩ 1 1 [x] rfl (World.news_of_block (cs:=#[x]) (t:=e) (fr:=(0,0)) D) (by intro u y;simp at y;rw [y];exact M) (by decide) p c (QS _);refine ⟨g,b,m,B,C,?_,?_⟩
 .refine (aC.below q:aC (λk=>v.ownBlock=S k) w W).trans (A1:=λk=>v.ownBlock=S k) ?_ (λk _ e=>e)
  rcases h with ⟨j,h⟩ | ⟨_,h⟩
  .exact (aC.grown h).mono λk _ e=>j.trans e
  exact (aC.grown h).mono λk _ e=>by cases e
 rcases h with ⟨j,_⟩ | ⟨j,_⟩
 .exact Y4 j
 exact Y5 (by rw [j];exact q.size)
structure uw(w:QI)(tb:Nat)(vt vb:QJ)(xk:QF)(xd:List QF):Prop where
 xp:w.heap[tb]? =S (YU #[T (bs xk),vt,vb] 242 (0,0))
 row:w.ownsRow 0 9 1 vt xd.length (ah xd)
theorem uw.cell{w:QI}{a:Nat}{c b:QJ}{d:QF}{e:List QF}(h:uw w a c b d e)(j:Nat):w.cell? ⟨a,j,N⟩=(#[T (bs d),c,b]:Array QJ)[j]? :=by rw [Q3 h.xp]
theorem br{w:QI}{c j n g:Nat}{e:Za}{v:QJ}{k:List QJ}(h:w.ownsRow c e j v n k)(b:v.ownBlock=S g):∃a,w.heap[g]? =S (YU a e (0,0)):=by
 rcases h.2 with ⟨d,_⟩ | ⟨l,f,a,d,_,i,_⟩
 .rw [d] at b;cases b
 rw [d] at b;injection b with b;subst b;exact ⟨a,i⟩
theorem bG{A:Nat->Prop}{w i:QI}{a f n:Nat}{e:Za}{v:QJ}{j:List QJ}(h:w.ownsRow a e f v n j)(m:aC A w i)(o:∀g,v.ownBlock=S g->¬A g):i.ownsRow a e f v n j:=by
 refine ⟨h.1,?_⟩
 rcases h.2 with h | ⟨g,b,c,d,k,l,r⟩
 .exact Y4 h
 exact Y5 ⟨g,b,c,d,k,m.some_ l (o g (by rw [d];rfl)),r⟩
theorem uw.far{w:QI}{b:Nat}{c f:QJ}{i:QF}{g:List QF}(h:uw w b c f i g):c.ownBlock≠S b:=λe=>by
 obtain ⟨d,a⟩:=br h.row e;rw [h.xp] at a;simp at a
theorem uw.xt{A:Nat->Prop}{w e:QI}{a:Nat}{b d:QJ}{i:QF}{f:List QF}(h:uw w a b d i f)(c:aC A w e)(j:¬A a)(k:∀g,b.ownBlock=S g->¬A g):uw e a b d i f:=⟨c.some_ h.xp j,bG h.row c k⟩
theorem lE.below{w i:QI}{b:Nat}{c:bF}{d e f g:QJ}(h:lE w b c d e f g)(a:Y6 w.heap.size w i):lE i b c d e f g:=by
 obtain ⟨A,j,k⟩:=h.xp;exact ⟨⟨A,ae a j,k⟩,h.rows.below a,h.may⟩
theorem bQ.xt{A:Nat->Prop}{w d:QI}{sb a:Nat}{C:Array QJ}{c:List QF}(h:bQ w sb a C c)(b:aC A w d)(e:¬A sb)(f:¬A a):bQ d sb a C c:=by
 obtain ⟨s,r,g⟩:=h.chan;exact ⟨b.some_ h.xp e,h.size,h.told,s,r,b.some_ g f⟩
theorem AJ(sb l j:Nat)(C:Array QJ)(c:bF)(v x y z:QJ)(g b:Bool)(d:QF)(m:Int)(w:QI)(h:bQ w sb l C [])(a:lE w j c v x y z)(r:C[0]? =S (YV (S ⟨j,0,N⟩)))(s:C[4]? =S (YW g))(t:C[6]? =S (YW b))(u:d.length<=1048576)(i:w.cell? ⟨0,0,N⟩=S (I J m)):Y8 Ys 233 #[YV (S ⟨sb,0,N⟩),T (bs d)] w λe A=>e=YX (YW (g || b || iJ c d))/\Y6 w.heap.size w A:=by
 have Y:=(h.cell 0).trans r;have Z:=(h.cell 4).trans s;have c6:=(h.cell 6).trans t;obtain ⟨U,cD,n⟩:=az a.rows.1;obtain ⟨V,cN,o⟩:=az a.rows.2.1;obtain ⟨W,cU,p⟩:=az a.rows.2.2.1;obtain ⟨X,cW,q⟩:=az a.rows.2.2.2;subst n o p q;have B:=a.cell 0 (by decide);have D:=a.cell 1 (by decide);have E:=a.cell 2 (by decide);have G:=a.cell 3 (by decide);have M:=a.cell 4 (by decide);have O:=a.cell 5 (by decide);have P:=a.cell 6 (by decide);have Q:=a.cell 7 (by decide);have R:=a.cell 8 (by decide);simp only [UG,UH] at B D E G M O P Q R;have k:=K (uF c _ _ _ _ d m w a.rows a.may u i);clear h a i
 cases g
 case true=>
  go_enter Xk,ntmps233;go_wp2_with fail
  go_ret;exact ⟨rfl,QQ _ _⟩
 cases b
 case true=>
  go_enter Xk,ntmps233;go_wp2_with fail
  go_ret;exact ⟨rfl,QQ _ _⟩
 go_enter Xk,ntmps233;go_wp2_with (first | (go_at_call 275;refine k.out.mono ?_;rintro e w9 ⟨rfl,f⟩) | fail)
 go_ret;exact ⟨rfl,f⟩
def iE(xd:List QF)(most:Int)(may:Bool)(name:QF):List QF:=
 if xd.contains name then xd else if (xd.length:Int)=most then xd else if may then xd++[name] else xd
def gR(xd:List QF)(most:Int)(may:Bool)(name:QF):QF:=
 if xd.contains name then [50,53,48,32,111,107,13,10] else if (xd.length:Int)=most then [52,53,50,32,109,97,110,121,13,10] else if may then [50,53,48,32,111,107,13,10] else [53,53,48,32,110,111,13,10]
theorem Ek(sb O pp p:Nat)(C:Array QJ)(c:bF)(vD vN vU vW vt vb:QJ)(G d:Bool)(xk a:QF)(f:List QF)(m:Int)(w:QI)(h:bQ w sb O C [])(hc:lE w pp c vD vN vU vW)(X:uw w p vt vb xk f)(h0:C[0]? =S (YV (S ⟨pp,0,N⟩)))(h4:C[4]? =S (YW G))(h6:C[6]? =S (YW d))(h8:C[8]? =S (YV (S ⟨p,0,N⟩)))(hn:a.length<=1048576)(hl:f.length<=10)(hm:w.cell? ⟨0,0,N⟩=S (I J m)):Y8 Ys 172 #[YV (S ⟨sb,0,N⟩),T (bs a)] w λe w'=>e=YX (YY #[])/\bQ w' sb O C [gR f c.most (G || d || iJ c a) a]/\∃a9,uw w' p a9 vb xk (iE f c.most (G || d || iJ c a) a)/\aC (λk=>k=O\/k=p\/vt.ownBlock=S k) w w'/\∀k,a9.ownBlock=S k->vt.ownBlock=S k\/w.heap.size<=k:=by
 have c0:=(h.cell 0).trans h0;have c8:=(h.cell 8).trans h8;have t1:w.cell? ⟨p,1,N⟩=S vt:=X.cell 1;have y4:=hc.cell 4 (by decide);simp only [UG,UH] at y4;have z:=bq X.row;obtain ⟨av,cv,ev⟩:=az z;subst ev;have Y:H (∀W:QI,Y6 w.heap.size w W->Y8 Ys 233 #[YV (S ⟨sb,0,N⟩),T (bs a)] W λe w'=>e=YX (YW (G || d || iJ c a))/\Y6 W.heap.size W w'):=K (λW hb=>AJ sb O pp C c vD vN vU vW G d a m W (h.below hb) (hc.below hb) h0 h4 h6 hn ((hb.cell (au hm)).trans hm));have u:=K (nR f a _ w z (by omega));have B:O≠p:=λe=>by obtain ⟨s,r,U⟩:=h.chan;rw [e,X.xp] at U;simp at U
 have R:∀g,(L av f.length cv).ownBlock=S g->O≠g:=λg hg e=>by
  obtain ⟨s,r,U⟩:=h.chan;obtain ⟨a0,h1⟩:=br X.row hg;rw [e,h1] at U;simp at U
 have c2:=K (h.tell (by simp) [50,53,48,32,111,107] (by decide));have HH:=K h;have HT:=K X;have M:=K R
 cases j:f.contains a
 case true=>
  rw [j] at u;have HS:H (gR f c.most (G || d || iJ c a) a=[50,53,48,32,111,107,13,10]):=K (by unfold gR;rw [j];rfl);have HX:H (iE f c.most (G || d || iJ c a) a=f):=K (by unfold iE;rw [j];rfl);rw [HS.out,HX.out];clear h hc X z hm j R;go_enter Xc,ntmps172;go_wp2_with fail
  refine u.out.mono ?_;rintro e w1 ⟨rfl,rfl⟩;go_wp2_with fail
  refine c2.out.mono ?_;rintro e D ⟨rfl,E,y⟩;go_wp2_with fail
  refine RN (RP rfl _ _ _) rfl ?_;exact ⟨rfl,E,_,HT.out.xt (aC.same y) (λe=>B e.symm) (λg hg e=>M.out g hg e.symm),(aC.same y).mono (λ_ _ e=>Y4 e),λk e=>Y4 e⟩
 rw [j] at u
 by_cases n:(f.length:Int)=c.most
 .have HS:H (gR f c.most (G || d || iJ c a) a=[52,53,50,32,109,97,110,121,13,10]):=K (by unfold gR;rw [j,if_pos n];rfl);have HX:H (iE f c.most (G || d || iJ c a) a=f):=K (by unfold iE;rw [j,if_pos n];rfl);rw [HS.out,HX.out];have c6:((f.length:Int) == c.most)=YT:=by rw [beq_iff_eq];exact n
  clear h hc X z hm j R n Y;go_enter Xc,ntmps172;go_wp2_with fail
  refine u.out.mono ?_;rintro e w1 ⟨rfl,rfl⟩;go_wp2_with fail
  go_quiet (fail)
  have l:=an nq w w.heap.size;obtain ⟨w1,A⟩:=QE (w.drewN nq);rw [A] at l ⊢;have c1:=K ((HH.out.below l).tell (by simp) [52,53,50,32,109,97,110,121] (by decide));have K1:aC (λ_=>False) w w1:=aC.below l;have a3:=K K1;clear l A K1;go_wp2_with fail
  refine c1.out.mono ?_;rintro e D ⟨rfl,E,y⟩;go_wp2_with fail
  refine RN (RP rfl _ _ _) rfl ?_;exact ⟨rfl,E,_,(HT.out.xt a3.out (λe=>e) (λ_ _ e=>e)).xt (aC.same y) (λe=>B e.symm) (λg hg e=>M.out g hg e.symm),(a3.out.mono (λ_ _ e=>e.elim)).trans (aC.same y) (λ_ _ e=>Y4 e),λk e=>Y4 e⟩
 have c6:((f.length:Int) == c.most)=F:=by rw [beq_eq_false_iff_ne];exact n
 have HS:H (∀b:Bool,gR f c.most b a=if b then [50,53,48,32,111,107,13,10] else [53,53,48,32,110,111,13,10]):=K (λb=>by unfold gR;rw [j,if_neg n];rfl);have HX:H (∀b:Bool,iE f c.most b a=if b then f++[a] else f):=K (λb=>by unfold iE;rw [j,if_neg n];rfl);obtain ⟨d2,V⟩:∃b,(G || d || iJ c a)=b:=⟨_,rfl⟩;rw [V] at Y ⊢;rw [HS.out,HX.out];clear h hc X z hm j R n V HS HX;go_enter Xc,ntmps172;go_wp2_with fail
 refine u.out.mono ?_;rintro e w1 ⟨rfl,rfl⟩;go_wp2_with fail
 go_quiet (fail)
 have l:=an nq w w.heap.size;have a1:=Y.out _ l;obtain ⟨w1,A⟩:=QE (w.drewN nq);rw [A] at l a1 ⊢;have b2:=K a1;have a2:=K l;clear A l a1;go_wp2_with fail
 refine b2.out.mono ?_;rintro e D ⟨rfl,q⟩;replace q:=a2.out.trans (q.mono a2.out.size);have K2:aC (λ_=>False) w D:=aC.below q;have E:=HH.out.below q;have v:=HT.out.xt K2 (λe=>e) (λ_ _ e=>e)
 cases d2
 case false=>
  have Z:=K (E.tell (by simp) [53,53,48,32,110,111] (by decide));have b6:=K v;have b0:=K K2;clear E v q K2;go_wp2_with fail
  refine Z.out.mono ?_;rintro e w3 ⟨rfl,h3,a4⟩;go_wp2_with fail
  refine RN (RP rfl _ _ _) rfl ?_;exact ⟨rfl,h3,_,b6.out.xt (aC.same a4) (λe=>B e.symm) (λg hg e=>M.out g hg e.symm),(b0.out.mono (λ_ _ e=>e.elim)).trans (aC.same a4) (λ_ _ e=>Y4 e),λk e=>Y4 e⟩
 have d1:D.cell? ⟨p,1,N⟩=S (L av f.length cv):=v.cell 1;have e1:∀o:Obj,(D.alloc o).cell? ⟨p,1,N⟩=S (L av f.length cv):=λo=>by rw [Q3 ((((QQ D.heap.size D).alloc (QR _) o).block p (aq v.xp)).trans v.xp)];rfl
 obtain ⟨i,hi,c7,c9,d0⟩:=Rr lL;obtain ⟨g,x,W4,a7,Q,K4,c5⟩:=pg (P:=Ys) underlying30 hi c7 c9 d0 rfl D (D.alloc (YU #[T (bs a)] 9)) _ (T (bs a)) f.length (ah f) v.row rfl ((QQ _ _).alloc (QR _) _) (Q0 D _) (by unfold maxLen;omega) (by omega);have b4:=K4.some_ v.xp (v.far);have d4:W4.cell? ⟨p,1,N⟩=S (L av f.length cv):=Q3 b4 _;have f4:=RJ b4 1;have S5:aA p W4 (W4.setCell ⟨p,1,N⟩ (L (S ⟨g,0,N⟩) (f.length+1) x)):=(aA.refl _ _).setCell _;have b5:=Ro W4 p 1 _ _ (L (S ⟨g,0,N⟩) (f.length+1) x) b4;obtain ⟨W5,c4⟩:=QE (W4.setCell ⟨p,1,N⟩ (L (S ⟨g,0,N⟩) (f.length+1) x));rw [c4] at S5 b5
 have a8:p≠g:=λe=>by
  obtain ⟨a0,hq⟩:=br Q (g:=g) rfl;rw [<-e,b4] at hq;simp at hq
 have T5:uw W5 p (L (S ⟨g,0,N⟩) (f.length+1) x) vb xk (f++[a]):=⟨b5,by
  have:=bG Q (aC.same S5) (λk t e=>a8 (by injection t with t;exact e.symm.trans t.symm));rw [List.length_append]
  simpa [ah] using this⟩
 have h5:=(E.xt K4 (λe=>by
  obtain ⟨a0,hq⟩:=br v.row e;rw [E.xp] at hq
  simp at hq) (λe=>M.out O e rfl)).same S5 (λe=>by have:=E.xp;rw [e,v.xp] at this;simp at this) B
 have Z:=K (h5.tell (by simp) [50,53,48,32,111,107] (by decide));have K5:aC (λk=>k=O\/k=p\/(L av f.length cv).ownBlock=S k) w W5:=((K2.mono (λ_ _ e=>e.elim)).trans K4 (λk _ e=>Y5 (Y5 e))).trans (aC.same S5) (λk _ e=>Y5 (Y4 e))
 have a6:O≠g:=λe=>by
  obtain ⟨s,r,U⟩:=h5.chan;obtain ⟨a0,hq⟩:=br Q (g:=g) rfl;rw [e,S5.2 g (λe=>a8 e.symm),hq] at U;simp at U
 have b7:=K T5;have b1:=K K5;have b3:=K a7;have d3:w.heap.size<=D.heap.size:=q.size;clear E v q K2 b4 b5 S5 T5 h5 K5 K4 Q a7
 go_wp2_with (first
  | (at_builtin;refine bp rfl _ _ 30 rfl _ _ (L (S ⟨g,0,N⟩) (f.length+1) x) W4 rfl rfl b3.out ?_)
  | fail)
 refine Z.out.mono ?_;rintro e w6 ⟨rfl,c3,a5⟩;go_wp2_with fail
 refine RN (RP rfl _ _ _) rfl ?_;exact ⟨rfl,c3,_,b7.out.xt (aC.same a5) (λe=>B e.symm) (λk t e=>a6 (by injection t with t;exact e.symm.trans t.symm)),b1.out.trans (aC.same a5) (λ_ _ e=>Y4 e),λk t=>c5.elim (λe=>Y4 (by injection t with t;exact e.trans (congrArg S t))) (λe=>Y5 (by injection t with t;have t:g=k:=t;omega))⟩
structure qN where
 xk:QF
 xd:List QF
 body:Option dm
structure cj where
 xe:Bool
 xj:Bool
 known:Bool
 over:Bool
 wait:QF
 tx:Option qN
def tp(w:QI)(A:Nat->Prop)(vb:QJ):Option dm->Prop
 | none=>vb=YV N
 | some b=>∃bb vy,vb=YV (S ⟨bb,0,N⟩)/\A bb/\gD w bb vy b/\∀g,vy.ownBlock=S g->A g
def pG(w:QI)(A:Nat->Prop)(vx:QJ):Option qN->Prop
 | none=>vx=YV N
 | some t=>∃tb vt vb,vx=YV (S ⟨tb,0,N⟩)/\A tb/\uw w tb vt vb t.xk t.xd/\(∀g,vt.ownBlock=S g->A g)/\tp w A vb t.body
def iR(pp pb ch:Nat)(vw vx:QJ)(s:cj):Array QJ:=#[YV (S ⟨pp,0,N⟩),YV (S ⟨pb,0,N⟩),vw,.chan (S ch),YW s.xe,YW s.xj,YW s.known,YW s.over,vx]
structure cq(w:QI)(A:Nat->Prop)(pp pb sb ch:Nat)(vw:QJ)(ls:List QF)(s:cj):Prop where
 ex:∃vx,bQ w sb ch (iR pp pb ch vw vx s) ls/\pG w A vx s.tx
 xP:A sb
 xR:A ch
 lt:∀k,A k->k < w.heap.size
def DZ(t:Za):Prop:=t=242\/t=9\/t=273\/t=5
section
variable {w w':QI} {A A' B:Nat->Prop} {pp pb sb ch:Nat} {vw vx vb:QJ} {ls:List QF} {s:cj}
theorem tp.off{o:Option dm}(h:tp w A vb o)(n:aC B w w')(i:∀k C t z,A k->w.heap[k]? =S (YU C t z)->DZ t->¬B k):tp w' A vb o:=by
 cases o with
 | none=>exact h
 | some b=>
  obtain ⟨d,p,e,a,c,f⟩:=h
  exact ⟨d,p,e,a,c.xt n (i d _ _ _ a c.xp (Y5 (Y5 (Y4 rfl)))) (λg j=>by
   obtain ⟨l,z,m⟩:=gW c.row j
   exact i g _ _ _ (f g j) m (Y5 (Y5 (Y5 rfl)))),f⟩
theorem pG.off{o:Option qN}(h:pG w A vx o)(f:aC B w w')(c:∀k C t z,A k->w.heap[k]? =S (YU C t z)->DZ t->¬B k):pG w' A vx o:=by
 cases o with
 | none=>exact h
 | some t=>
  obtain ⟨j,p,vb,e,a,b,d,m⟩:=h
  exact ⟨j,p,vb,e,a,b.xt f (c j _ _ _ a b.xp (Y4 rfl)) (λg i=>by
   obtain ⟨l,n⟩:=br b.row i
   exact c g _ _ _ (d g i) n (Y5 (Y4 rfl))),d,m.off f c⟩
theorem tp.mono{o:Option dm}(h:tp w A vb o)(c:∀k,A k->A' k):tp w A' vb o:=by
 cases o with
 | none=>exact h
 | some b=>
  obtain ⟨d,l,e,a,f,i⟩:=h;exact ⟨d,l,e,c _ a,f,λg j=>c _ (i g j)⟩
theorem pG.mono{o:Option qN}(h:pG w A vx o)(b:∀k,A k->A' k):pG w A' vx o:=by
 cases o with
 | none=>exact h
 | some t=>
  obtain ⟨j,l,vb,e,a,c,d,f⟩:=h;exact ⟨j,l,vb,e,b _ a,c,λg i=>b _ (d g i),f.mono b⟩
theorem cq.xt(h:cq w A pp pb sb ch vw ls s)(c:aC B w w')(b:∀k,A k->¬B k):cq w' A pp pb sb ch vw ls s:=by
 obtain ⟨vx,d,e⟩:=h.ex;exact ⟨⟨vx,d.xt c (b _ h.xP) (b _ h.xR),e.off c (λk _ _ _ a _ _=>b k a)⟩,h.xP,h.xR,λk f=>SA (h.lt k f) c.size⟩
theorem cq.below(h:cq w A pp pb sb ch vw ls s)(a:Y6 w.heap.size w w'):cq w' A pp pb sb ch vw ls s:=h.xt (aC.below a:aC (λ_=>False) w w') (λ_ _ e=>e)
theorem ve{C:Array QJ}(h:bQ w sb ch C ls):∀k D t z,w.heap[k]? =S (YU D t z)->DZ t->¬(k=sb\/k=ch):=by
 rintro k D t z e b (rfl | rfl)
 .rw [h.xp] at e;injection e with e;injection e with _ e _;subst e
  revert b
  unfold DZ;decide
 obtain ⟨s,r,a⟩:=h.chan;rw [a] at e
 cases e
theorem cq.back(h:cq w A pp pb sb ch vw ls s){a:QJ}{b:List QF}{c:cj}(e:bQ w' sb ch (iR pp pb ch vw a c) b)(g:pG w' A' a c.tx)(d:∀k,A k->A' k)(f:∀k,A' k->k < w'.heap.size):cq w' A' pp pb sb ch vw b c:=
 ⟨⟨a,e,g⟩,d _ h.xP,d _ h.xR,f⟩
end
theorem cq.tell{w:QI}{A:Nat->Prop}{pp pb sb ch:Nat}{vw:QJ}{ls:List QF}{s:cj}(h:cq w A pp pb sb ch vw ls s)(j:ls.length < 3)(l:QF)(n:l.length<=1048576):Y8 Ys 57 #[YV (S ⟨sb,0,N⟩),T (bs l)] w λe w'=>e=YX (YY #[])/\cq w' A pp pb sb ch vw (ls++[l++[13,10]]) s/\aC A w w':=by
 obtain ⟨vx,b,d⟩:=h.ex;refine (b.tell j l n).mono ?_;rintro e w' ⟨rfl,f,g⟩;have a:aC (λk=>k=ch) w w':=aC.same g;refine ⟨rfl,⟨⟨vx,f,d.off a (λk C t z _ e m c=>ve b k C t z e m (Y5 c))⟩,h.xP,h.xR,λk i=>SA (h.lt k i) a.size⟩,a.mono (λk _ e=>by rw [e];exact h.xR)⟩
theorem bg.xt{A:Nat->Prop}{w w':QI}{v:QJ}{n o:Nat}{f:List QJ}(h:bg w v n o f)(q:aC A w w')(t:∀g,v.ownBlock=S g->¬A g):bg w' v n o f:=by
 refine ⟨h.1,?_⟩
 rcases h.2 with p | ⟨b,m,d,e,k,a⟩
 .exact Y4 p
 refine Y5 ⟨b,m,d,e,k,λj r=>?_⟩;have i:=a j r
 have l:b < w.heap.size:=by
  rcases hv:f[j]? with _ | x
  .have:=h.1;rw [List.getElem?_eq_none_iff] at hv;omega
  rw [hv] at i;exact au i
 rw [<-i];exact World.cell?_of_block (q.block b l (t b (by rw [e];rfl)))
theorem Pn{A:Nat->Prop}{w w':QI}{g h:Nat}(a:Lib.Utf8Tabs g h w)(b:aC A w w')(j:g < w.heap.size)(l:h < w.heap.size)(n:¬A g)(p:¬A h):Lib.Utf8Tabs g h w':=by
 have m:∀o,w'.cell? ⟨g,o,N⟩=w.cell? ⟨g,o,N⟩:=λo=>World.cell?_of_block (b.block _ j n);have e:∀o,w'.cell? ⟨h,o,N⟩=w.cell? ⟨h,o,N⟩:=λo=>World.cell?_of_block (b.block _ l p);exact ⟨λk f=>(m k).trans (a.1 k f),λi d=>⟨(e _).trans (a.2 i d).1,(e _).trans (a.2 i d).2⟩⟩
structure gq(E:Nat->Prop)(w:QI)(pp:Nat)(c:bF):Prop where
 set:∃vD vN vU vW,lE w pp c vD vN vU vW/\∀k,(vD.ownBlock=S k\/vN.ownBlock=S k\/vU.ownBlock=S k\/vW.ownBlock=S k)->E k
 xI:E pp
 len:∃n,w.cell? ⟨0,0,N⟩=S (I J n)
 yL:E 0
 pow:vu w
 yz:E 6
 yT:Lib.Utf8Tabs 2 3 w
 yq:E 2
 xD:E 3
 lt:∀k,E k->k < w.heap.size
section
variable {E A:Nat->Prop} {w w':QI} {pp:Nat} {c:bF}
theorem gq.xt(h:gq E w pp c)(b:aC A w w')(a:∀k,E k->¬A k):gq E w' pp c:=by
 obtain ⟨o,p,q,r,d,f⟩:=h.set;obtain ⟨D,i,j⟩:=d.xp;obtain ⟨n,m⟩:=h.len;refine ⟨⟨o,p,q,r,⟨⟨D,b.some_ i (a _ h.xI),j⟩,⟨d.rows.1.xt b (λg e=>a g (f g (Y4 e))),d.rows.2.1.xt b (λg e=>a g (f g (Y5 (Y4 e)))),d.rows.2.2.1.xt b (λg e=>a g (f g (Y5 (Y5 (Y4 e))))),d.rows.2.2.2.xt b (λg e=>a g (f g (Y5 (Y5 (Y5 e)))))⟩,d.may⟩,f⟩,h.xI,⟨n,?_⟩,h.yL,h.pow.xt b (a _ h.yz),h.yz,Pn h.yT b (h.lt _ h.yq) (h.lt _ h.xD) (a _ h.yq) (a _ h.xD),h.yq,h.xD,λk l=>SA (h.lt k l) b.size⟩;rw [<-m];exact World.cell?_of_block (b.block _ (h.lt _ h.yL) (a _ h.yL))
theorem gq.below(h:gq E w pp c)(a:Y6 w.heap.size w w'):gq E w' pp c:=h.xt (aC.below a:aC (λ_=>False) w w') (λ_ _ e=>e)
theorem gq.may(h:gq E w pp c):dk c=YT:=by
 obtain ⟨_,_,_,_,a,_⟩:=h.set;exact a.may
end
structure mX where
 verb:Nat
 name:QF
 size:Nat
 shown:QF
def Ip:QF:=[50,53,48,32,111,107,13,10]
def OI:QF:=[53,48,48,32,119,104,97,116,13,10]
def Qp:QF:=[53,48,49,32,104,111,119,13,10]
def KK:QF:=[53,48,51,32,102,105,114,115,116,13,10]
def OJ:QF:=[53,53,50,32,115,105,122,101,13,10]
def PR:QF:=[50,50,49,32,98,121,101,13,10]
def PT:QF:=[51,53,52,32,103,111,13,10]
def Qn:QF:=[50,51,53,32,111,107,13,10]
def Qq:QF:=[53,51,53,32,110,111,13,10]
def Qo:QF:=[52,53,50,32,114,111,111,109,13,10]
def cX(c:bF):QF:=c.host.data.toList
def dy(s:cj)(v:Nat):Bool:=gV v s.xj (s.tx.map λt=>t.xd.length)
def cf(c:bF)(s:cj)(k:mX):cj×List QF:=
 if dy s k.verb=F then (s,[KK]) else
 match k.verb with
 | 0=>(s,[OI])
 | 1=>(s,[Qp])
 | 2=>({s with over:=YT},[PR])
 | 3=>(s,[Ip])
 | 4=>({s with tx:=N},[Ip])
 | 5=>(match s.tx with | some t=>({s with tx:=S {t with body:=S ⟨[],F,F⟩}},[PT]) | none=>(s,[]))
 | 6=>({s with xj:=YT,tx:=N},[[50,53,48,32]++cX c++[13,10]])
 | 7=>({s with xj:=YT,tx:=N},[[50,53,48,45]++cX c++[13,10],[50,53,48,45,83,73,90,69,32]++Lib.itoa c.size++[13,10],[50,53,48,32,65,85,84,72,32,80,76,65,73,78,13,10]])
 | 8=>if s.tx.isSome || s.known then (s,[KK]) else if c.x9.any (iA (bs k.shown)) then ({s with known:=YT},[Qn]) else (s,[Qq])
 | 9=>if s.tx.isSome then (s,[KK]) else if c.size < (k.size:Int) then (s,[OJ]) else ({s with tx:=S ⟨k.name,[],N⟩},[Ip])
 | 10=>(match s.tx with | some t=>({s with tx:=S {t with xd:=iE t.xd c.most (s.xe || s.known || iJ c k.name) k.name}},[gR t.xd c.most (s.xe || s.known || iJ c k.name) k.name]) | none=>(s,[]))
 | _=>(s,[])
def cz(A:Nat->Prop)(pp pb sb ch:Nat)(vw:QJ)(w:QI)(s':cj)(ls':List QF)(e:Zb)(w':QI):Prop:=
 e=YX (YY #[])/\∃A',cq w' A' pp pb sb ch vw ls' s'/\(∀k,A k->A' k)/\(∀k,A' k->A k\/w.heap.size<=k)/\aC A w w'
theorem cz.from{A:Nat->Prop}{pp pb sb ch:Nat}{vw:QJ}{w b w':QI}{f:cj}{a:List QF}{e:Zb}(d:Y6 w.heap.size w b)(h:cz A pp pb sb ch vw b f a e w'):cz A pp pb sb ch vw w f a e w':=by
 obtain ⟨i,g,j,l,m,n⟩:=h;exact ⟨i,g,j,l,λk o=>(m k o).imp id (λe=>Rn d.size e),(aC.below d:aC A w b).trans n (λk _ e=>e)⟩
section
variable {A:Nat->Prop} {pp pb sb ch:Nat} {vw:QJ} {w:QI} {s:cj}
theorem cq.yh(h:cq w A pp pb sb ch vw [] s)(l:QF)(f:l.length<=1048576):Y8 Ys 57 #[YV (S ⟨sb,0,N⟩),T (bs l)] w (cz A pp pb sb ch vw w s [l++[13,10]]):=by
 refine (h.tell (by simp) l f).mono ?_;rintro e w' ⟨rfl,b,d⟩;exact ⟨rfl,A,b,λ_ a=>a,λ_ a=>Y4 a,d⟩
theorem kJ{w':QI}{s':cj}{b:List QF}{C:Array QJ}{vx':QJ}(h:cq w A pp pb sb ch vw [] s)(f:bQ w sb ch C [])(d:aC (λk=>k=sb\/k=ch) w w')(g:bQ w' sb ch (iR pp pb ch vw vx' s') b)(l:pG w A vx' s'.tx):cz A pp pb sb ch vw w s' b (YX (YY #[])) w':=
 ⟨rfl,A,⟨⟨vx',g,l.off d (λk C t z _ e j=>ve f k C t z e j)⟩,h.xP,h.xR,λk i=>SA (h.lt k i) d.size⟩,λ_ a=>a,λ_ a=>Y4 a,d.mono (λk _ e=>by rcases e with e | e <;> rw [e];exact h.xP;exact h.xR)⟩
theorem qW{w':QI}(b:∀k,k < w.heap.size->k≠sb->k≠ch->w'.heap[k]? =w.heap[k]?)(d:df w w')(f:w.heap.size<=w'.heap.size):aC (λk=>k=sb\/k=ch) w w':=⟨f,λk g a=>b k g (λe=>a (Y4 e)) (λe=>a (Y5 e)),d⟩
theorem cq.zj(h:cq w A pp pb sb ch vw [] s):Y8 Ys 166 #[YV (S ⟨sb,0,N⟩)] w (cz A pp pb sb ch vw w {s with over:=YT} [PR]):=by
 obtain ⟨g,a,b⟩:=h.ex;refine (Nx sb ch _ w a).mono ?_;rintro e w' ⟨rfl,d,f⟩;exact kJ h a f (s':={s with over:=YT}) d b
theorem cq.reset(h:cq w A pp pb sb ch vw [] s):Y8 Ys 167 #[YV (S ⟨sb,0,N⟩)] w (cz A pp pb sb ch vw w {s with tx:=N} [Ip]):=by
 obtain ⟨j,a,i⟩:=h.ex;refine (Lt sb ch _ w a).mono ?_;rintro e w' ⟨rfl,b,d,f,g⟩;exact kJ h a (qW (λk _=>d k) f (UW g.symm)) (s':={s with tx:=N}) (vx':=YV N) b rfl
variable {E:Nat->Prop} {c:bF}
theorem nh(c:bF):bs (cX c)=c.host:=rfl
theorem gq.host(b:gq E w pp c):w.cell? ⟨pp,0,N⟩=S (T (bs (cX c)))/\(cX c).length<=255:=by
 obtain ⟨d,f,g,h,a,_⟩:=b.set;refine ⟨(a.cell 0 (by decide)).trans rfl,?_⟩;have:=a.small.host;have e:=aj (cX c);rw [nh] at e;omega
theorem cq.yY(h:cq w A pp pb sb ch vw [] s)(a:gq E w pp c)(j:∀k,E k->¬A k):Y8 Ys 168 #[YV (S ⟨sb,0,N⟩)] w (cz A pp pb sb ch vw w {s with xj:=YT,tx:=N} [[50,53,48,32]++cX c++[13,10]]):=by
 obtain ⟨m,b,l⟩:=h.ex;refine (Kr sb ch pp _ (cX c) w b rfl a.host.1 (λe=>j pp a.xI (by rw [e];exact h.xP)) a.host.2).mono ?_;rintro e w' ⟨rfl,d,f,g,i⟩;exact kJ h b (qW (λk _=>f k) g (UW i.symm)) (s':={s with xj:=YT,tx:=N}) (vx':=YV N) d rfl
theorem gH(h:dk c=YT):(1<=c.most/\c.most<=10)/\(1<=c.size/\c.size<=1000)/\0<=c.room/\c.room<=1000000:=by
 unfold dk aZ at h;simp only [Rk,decide_eq_true_eq] at h;obtain ⟨⟨⟨⟨⟨⟨⟨⟨_,_⟩,_⟩,_⟩,a⟩,b⟩,_⟩,_⟩,d⟩:=h;exact ⟨a,b,d⟩
theorem cq.more(h:cq w A pp pb sb ch vw [] s)(a:gq E w pp c)(b:∀k,E k->¬A k):Y8 Ys 169 #[YV (S ⟨sb,0,N⟩)] w (cz A pp pb sb ch vw w {s with xj:=YT,tx:=N} [[50,53,48,45]++cX c++[13,10],[50,53,48,45,83,73,90,69,32]++Lib.itoa c.size++[13,10],[50,53,48,32,65,85,84,72,32,80,76,65,73,78,13,10]]):=by
 obtain ⟨q,d,j⟩:=h.ex;obtain ⟨m,n,o,p,i,_⟩:=a.set;have l:=gH a.may;refine (AA sb ch pp _ (cX c) c.size w d rfl a.host.1 ((i.cell 5 (by decide)).trans rfl) (λe=>b pp a.xI (by rw [e];exact h.xP)) (λe=>b pp a.xI (by rw [e];exact h.xR)) a.host.2 a.pow (λe=>b _ a.yz (by rw [<-e];exact h.xP)) (λe=>b _ a.yz (by rw [<-e];exact h.xR)) (by omega) (by omega)).mono ?_;rintro e w' ⟨rfl,f,g⟩;exact kJ h d g (s':={s with xj:=YT,tx:=N}) (vx':=YV N) f rfl
end
section
variable {A:Nat->Prop} {pp pb sb ch:Nat} {vw:QJ} {w:QI} {s:cj} {E:Nat->Prop} {c:bF}
theorem vc{a:QI}(h:aA ch w a):aC (λk=>k=sb\/k=ch) w a:=(aC.same h).mono (λ_ _ e=>Y5 e)
theorem pG.ptr{b:QJ}{o:Option qN}(h:pG w A b o)(d:o.isSome=YT):∃a,b=YV (S ⟨a,0,N⟩):=by
 cases o with
 | none=>cases d
 | some t=>obtain ⟨a,_,_,e,_⟩:=h;exact ⟨a,e⟩
theorem pG.nil{a:QJ}{o:Option qN}(h:pG w A a o)(b:o.isSome=F):a=YV N:=by
 cases o with
 | none=>exact h
 | some t=>cases b
def rq(c:bF)(s:cj)(shown:QF):cj×List QF:=if s.tx.isSome || s.known then (s,[KK]) else if c.x9.any (iA (bs shown)) then ({s with known:=YT},[Qn]) else (s,[Qq])
theorem cq.zf(h:cq w A pp pb sb ch vw [] s)(o:gq E w pp c)(a:QF):Y8 Ys 170 #[YV (S ⟨sb,0,N⟩),T (bs a)] w (cz A pp pb sb ch vw w (rq c s a).1 (rq c s a).2):=by
 obtain ⟨y,d,f⟩:=h.ex;obtain ⟨t,u,v,x,q,_⟩:=o.set;unfold rq
 cases l:s.tx.isSome
 case true=>
  obtain ⟨r,rfl⟩:=f.ptr l;refine (KJ sb ch r _ (bs a) w d rfl).mono ?_;rintro e n ⟨rfl,b,g⟩;exact kJ h d (vc g) (s':=s) b f
 have p:=f.nil l;subst p
 cases k:s.known
 case true=>
  refine (Im sb ch _ (bs a) w d rfl (by rw [<-k];rfl)).mono ?_;rintro e n ⟨rfl,b,g⟩;exact kJ h d (vc g) (s':=s) b f
 refine (MJ sb ch pp _ c t u v x (bs a) w d q rfl rfl (by rw [<-k];rfl)).mono ?_;rintro e n ⟨rfl,b,g,i,j⟩
 cases m:c.x9.any (iA (bs a))
 case true=>
  rw [m] at b;exact kJ h d (qW g i j) (s':={s with known:=YT}) b f
 rw [m] at b;exact kJ h d (qW g i j) (s':=s) b f
def nC(c:bF)(s:cj)(name:QF)(size:Int):cj×List QF:=if s.tx.isSome then (s,[KK]) else if c.size < size then (s,[OJ]) else ({s with tx:=S ⟨name,[],N⟩},[Ip])
theorem cq.xu(h:cq w A pp pb sb ch vw [] s)(x:gq E w pp c)(d:QF)(b:Int):Y8 Ys 171 #[YV (S ⟨sb,0,N⟩),T (bs d),I J b] w (cz A pp pb sb ch vw w (nC c s d b).1 (nC c s d b).2):=by
 obtain ⟨M,j,n⟩:=h.ex;obtain ⟨B,C,D,G,q,_⟩:=x.set;unfold nC
 cases r:s.tx.isSome
 case true=>
  obtain ⟨z,rfl⟩:=n.ptr r;refine (CJ sb ch z _ d b w j rfl).mono ?_;rintro e o ⟨rfl,l,m⟩;exact kJ h j (vc m) (s':=s) l n
 have y:=n.nil r;subst y
 by_cases f:c.size < b
 .simp only [f,if_true];refine (CK sb ch pp _ d b c.size w j rfl rfl ((q.cell 5 (by decide)).trans rfl) f).mono ?_;rintro e o ⟨rfl,l,m⟩;exact kJ h j (vc m) (s':=s) l n
 simp only [f,if_false];refine (Et sb ch pp _ d b c.size w j rfl rfl ((q.cell 5 (by decide)).trans rfl) f).mono ?_;rintro e o ⟨rfl,l,t,m,u,v⟩;have p:w.heap.size < o.heap.size:=aq t;refine ⟨rfl,λk=>A k\/k=w.heap.size,⟨⟨_,l,w.heap.size,L N 0 0,YV N,rfl,Y5 rfl,⟨t,rfl,Y4 ⟨rfl,rfl⟩⟩,(λg e=>by cases e),rfl⟩,Y4 h.xP,Y4 h.xR,λk i=>?_⟩,λ_ a=>Y4 a,λk i=>i.imp id (λe=>UW e.symm),(qW m u v).mono (λk _ e=>by rcases e with e | e <;> rw [e];exact h.xP;exact h.xR)⟩
 rcases i with i | i
 .have:=h.lt k i;omega
 omega
theorem cq.yQ(h:cq w A pp pb sb ch vw [] s)(v:gq E w pp c){t:qN}(U:s.tx=S t)(i:t.body=N)(b:QF)(P:b.length<=1048576)(M:t.xd.length<=10):Y8 Ys 172 #[YV (S ⟨sb,0,N⟩),T (bs b)] w (cz A pp pb sb ch vw w {s with tx:=S {t with xd:=iE t.xd c.most (s.xe || s.known || iJ c b) b}} [gR t.xd c.most (s.xe || s.known || iJ c b) b]):=by
 obtain ⟨vx,B,n⟩:=h.ex;obtain ⟨W,X,Y,Z,R,_⟩:=v.set;obtain ⟨m,O⟩:=v.len;rw [U] at n;obtain ⟨x,vt,l,rfl,u,G,r,q⟩:=n;rw [i] at q;refine (Ek sb ch pp x _ c W X Y Z vt l s.xe s.known t.xk b t.xd m w B R G rfl rfl rfl rfl P M O).mono ?_;rintro e y ⟨rfl,C,f,o,p,D⟩
 have V:∀g,f.ownBlock=S g->g < y.heap.size:=λg j=>by
  obtain ⟨z,Q⟩:=br o.row j;exact aq Q
 refine ⟨rfl,λk=>A k\/f.ownBlock=S k,⟨⟨_,C,x,f,l,rfl,Y4 u,o,λg j=>Y5 j,?_⟩,Y4 h.xP,Y4 h.xR,λk d=>?_⟩,λ_ a=>Y4 a,λk d=>?_,p.mono (λk _ e=>?_)⟩
 .show tp y _ l t.body;rw [i];exact q
 .rcases d with d | d
  .exact SA (h.lt k d) p.size
  exact V k d
 .rcases d with d | d
  .exact Y4 d
  exact (D k d).imp (r k) id
 rcases e with e | e | e
 .rw [e];exact h.xR
 .rw [e];exact u
 exact r k e
theorem cq.data(h:cq w A pp pb sb ch vw [] s){t:qN}(P:s.tx=S t):Y8 Ys 173 #[YV (S ⟨sb,0,N⟩)] w (cz A pp pb sb ch vw w {s with tx:=S {t with body:=S ⟨[],F,F⟩}} [PT]):=by
 obtain ⟨V,l,m⟩:=h.ex;rw [P] at m;obtain ⟨j,x,Q,rfl,o,d,O,R⟩:=m;refine (Au sb ch j _ _ x Q w l rfl d.xp).mono ?_;rintro e y ⟨rfl,B,C,n,D,G,M⟩;have p:aC (λk=>k=j\/k=ch) w y:=⟨M,λk b u=>D k b (λe=>u (Y4 e)) (λe=>u (Y5 e)),G⟩;have q:w.heap.size < y.heap.size:=aq n;refine ⟨rfl,λk=>A k\/k=w.heap.size,⟨⟨_,B,j,x,_,rfl,Y4 o,⟨C,bG d.row p (λg f e=>?_)⟩,λg f=>Y4 (O g f),w.heap.size,L N 0 0,rfl,Y5 rfl,⟨n,World.ownsRowF_nil _ _ _ _⟩,(λg e=>by cases e)⟩,Y4 h.xP,Y4 h.xR,λk b=>?_⟩,λ_ a=>Y4 a,λk b=>b.imp id (λe=>UW e.symm),p.mono (λk _ e=>?_)⟩
 .rcases e with e | e
  .exact d.far (by rw [<-e];exact f)
  obtain ⟨z,v⟩:=br d.row f;obtain ⟨U,r,i⟩:=l.chan;rw [e,i] at v
  cases v
 .rcases b with b | b
  .have:=h.lt k b;omega
  omega
 rcases e with e | e <;> rw [e]
 .exact o
 exact h.xR
end
def jR(k:mX):QJ:=YZ #[I J (k.verb:Int),T (bs k.name),I J (k.size:Int),T (bs k.shown)]
def dW:mX:=⟨1,[],0,[]⟩
def mT(v:Nat):mX:=⟨v,[],0,[]⟩
def jW(v:Nat)(has:Bool):mX:=if has then dW else mT v
def kU(v:Nat)(arg:QF):mX:=if fI arg then mT v else dW
theorem iK{f:QI}{k:Nat}{a b c d x y z u:QJ}{t:Za}(h:f.heap[k]? =S (YU #[a,b,c,d] t (0,0))):let W:=(((f.setCell ⟨k,0,N⟩ x).setCell ⟨k,1,N⟩ y).setCell ⟨k,2,N⟩ z).setCell ⟨k,3,N⟩ u
  W.cell? ⟨k,0,N⟩=S x/\W.cell? ⟨k,1,N⟩=S y/\W.cell? ⟨k,2,N⟩=S z/\W.cell? ⟨k,3,N⟩=S u/\aA k f W:=by
 intro W;have g:=Ro f k 0 _ _ x h;have i:=Ro _ k 1 _ _ y g;have j:=Ro _ k 2 _ _ z i;have e:=Ro _ k 3 _ _ u j;exact ⟨Q3 e _,Q3 e _,Q3 e _,Q3 e _,((((aA.refl _ _).setCell _).setCell _).setCell _).setCell _⟩
theorem ln(v:Nat)(a:Bool)(w:QI):Y8 Ys 176 #[I J (v:Int),YW a] w λe g=>e=YX (jR (jW v a))/\Y6 w.heap.size w g:=by
 cases a
 case true=>
  go_enter func176,ntmps176;go_wp2_with fail
  have X:=Q0 w (YU #[I J 1,T ⟨#[]⟩,I J 0,T ⟨#[]⟩] 197);have b:(w.alloc (YU #[I J 1,T ⟨#[]⟩,I J 0,T ⟨#[]⟩] 197)).cell? ⟨w.heap.size,0,N⟩=S (I J 1):=Q3 X _;have c:(w.alloc (YU #[I J 1,T ⟨#[]⟩,I J 0,T ⟨#[]⟩] 197)).cell? ⟨w.heap.size,1,N⟩=S (T ⟨#[]⟩):=Q3 X _;have d:(w.alloc (YU #[I J 1,T ⟨#[]⟩,I J 0,T ⟨#[]⟩] 197)).cell? ⟨w.heap.size,2,N⟩=S (I J 0):=Q3 X _;have f:(w.alloc (YU #[I J 1,T ⟨#[]⟩,I J 0,T ⟨#[]⟩] 197)).cell? ⟨w.heap.size,3,N⟩=S (T ⟨#[]⟩):=Q3 X _;refine Ru (v:=YZ #[I J 1,T ⟨#[]⟩,I J 0,T ⟨#[]⟩]) (by simp [results,results176,go_sem,b,c,d,f]) rfl ?_;exact ⟨rfl,(QQ _ _).alloc (QR _) _⟩
 go_enter func176,ntmps176;go_wp2_with fail
 have X:=Q0 w (YU #[I J (v:Int),T ⟨#[]⟩,I J 0,T ⟨#[]⟩] 197);have b:(w.alloc (YU #[I J (v:Int),T ⟨#[]⟩,I J 0,T ⟨#[]⟩] 197)).cell? ⟨w.heap.size,0,N⟩=S (I J (v:Int)):=Q3 X _;have c:(w.alloc (YU #[I J (v:Int),T ⟨#[]⟩,I J 0,T ⟨#[]⟩] 197)).cell? ⟨w.heap.size,1,N⟩=S (T ⟨#[]⟩):=Q3 X _;have d:(w.alloc (YU #[I J (v:Int),T ⟨#[]⟩,I J 0,T ⟨#[]⟩] 197)).cell? ⟨w.heap.size,2,N⟩=S (I J 0):=Q3 X _;have f:(w.alloc (YU #[I J (v:Int),T ⟨#[]⟩,I J 0,T ⟨#[]⟩] 197)).cell? ⟨w.heap.size,3,N⟩=S (T ⟨#[]⟩):=Q3 X _;refine Ru (v:=YZ #[I J (v:Int),T ⟨#[]⟩,I J 0,T ⟨#[]⟩]) (by simp [results,results176,go_sem,b,c,d,f]) rfl ?_;exact ⟨rfl,(QQ _ _).alloc (QR _) _⟩
theorem pX(v:Nat)(arg:QF)(m:Int)(w:QI)(E:arg.length<=1048576)(n:w.cell? ⟨0,0,N⟩=S (I J m)):Y8 Ys 177 #[I J (v:Int),T (bs arg)] w λe D=>e=YX (jR (kU v arg))/\Y6 w.heap.size w D:=by
 obtain ⟨C,b⟩:=QE (w.alloc (YU #[I J 0,T ⟨#[]⟩,I J 0,T ⟨#[]⟩] 197));have i:=QG b;have B:=QH b;have G:=aj arg;have A:=K (i7 (bs arg) m C (by unfold maxLen;omega) ((i.cell (au n)).trans n));have d:=K i;have k:=K B;have j:=K b;clear i B b n;go_enter func177,ntmps177;go_wp2_with fail
 rw [j.out];refine A.out.mono ?_;rintro e h ⟨rfl,c⟩;rw [ao];have a:=ae c k.out;have M:h.cell? ⟨w.heap.size,0,N⟩=S (I J 0):=Q3 a _;have O:h.cell? ⟨w.heap.size,1,N⟩=S (T ⟨#[]⟩):=Q3 a _;have P:h.cell? ⟨w.heap.size,2,N⟩=S (I J 0):=Q3 a _;have Q:h.cell? ⟨w.heap.size,3,N⟩=S (T ⟨#[]⟩):=Q3 a _;have R:=RJ a 0;have U:=RJ a 1;have V:=RJ a 2;have W:=RJ a 3;have g:=K a;have f:=K (d.out.trans (c.mono d.out.size));obtain ⟨t,l⟩:=QE (fI arg);rw [l];have HT:H (kU v arg=if t then mT v else dW):=K (by unfold kU;rw [l]);clear a c l A
 cases t
 case true=>
  go_wp2_with fail
  obtain ⟨o,p,q,r,s⟩:=iK (x:=I J (v:Int)) (y:=T ⟨#[]⟩) (z:=I J 0) (u:=T ⟨#[]⟩) g.out;refine Ru (v:=YZ #[I J (v:Int),T ⟨#[]⟩,I J 0,T ⟨#[]⟩]) (by simp [results,results177,go_sem,o,p,q,r]) rfl ?_;exact ⟨by rw [HT.out];rfl,f.out.trans (s.below (QR _))⟩
 go_wp2_with fail
 obtain ⟨o,p,q,r,s⟩:=iK (x:=I J 1) (y:=T ⟨#[]⟩) (z:=I J 0) (u:=T ⟨#[]⟩) g.out;refine Ru (v:=YZ #[I J 1,T ⟨#[]⟩,I J 0,T ⟨#[]⟩]) (by simp [results,results177,go_sem,o,p,q,r]) rfl ?_;exact ⟨by rw [HT.out];rfl,f.out.trans (s.below (QR _))⟩
def eZ(l:QF):Prop:=∀x∈l,x.toNat < 128
def dU(s p:QF):Option QF:=if s.length < p.length then N else if Lib.equalFold (s.take p.length) p then S (s.drop p.length) else N
def BD(o:Option QF):QJ:=
 match o with
 | some r=>YY #[T (bs r),YW YT]
 | none=>YY #[T ⟨#[]⟩,YW F]
theorem kD(s p:QF)(w:QI)(_:s.length<=1048576)(r:p.length<=100)(i:eZ s)(k:eZ p):Y8 Ys 239 #[T (bs s),T (bs p)] w λe f=>e=YX (BD (dU s p))/\w=f:=by
 have o:=aj s;have q:=aj p
 by_cases c:s.length < p.length
 .have a:H (dU s p=N):=K (by unfold dU;rw [if_pos c]);have m:(s.length:Int) < (p.length:Int):=by omega
  go_enter func239,ntmps239;go_wp2_with fail
  go_ret2
  exact ⟨by rw [a.out];rfl,rfl⟩
 have m:¬(s.length:Int) < (p.length:Int):=by omega
 have n:(bs s).extract 0 p.length=bs (s.take p.length):=by rw [bR,SY]
 have l:(bs s).extract p.length s.length=bs (s.drop p.length):=by rw [bR,QZ]
 have g:H (∀W:QI,Y8 Ys 283 #[T (bs (s.take p.length)),T (bs p)] W λe f=>e=YX (YW (Lib.equalFold (s.take p.length) p))/\f=W):=K (λW=>Tryz.strings_EqualFold (bs (s.take p.length)) (bs p) W (by rw [aj,Sm];omega) (λj b d=>i b (List.mem_of_mem_take (SB d))) (λj b d=>k b (SB d)));have a:H (dU s p=if Lib.equalFold (s.take p.length) p then S (s.drop p.length) else N):=K (by unfold dU;rw [if_neg c]);obtain ⟨t,h⟩:=QE (Lib.equalFold (s.take p.length) p);rw [h] at g a;clear i k h;go_enter func239,ntmps239;go_wp2_with fail
 refine (g.out w).mono ?_;rintro e u ⟨rfl,rfl⟩
 cases t
 case true=>
  go_wp2_with fail
  go_ret2
  exact ⟨by rw [a.out];rfl,rfl⟩
 go_wp2_with fail
 go_ret2
 exact ⟨by rw [a.out];rfl,rfl⟩
def pH(l:QF):Bool:=decide (1<=l.length) && decide (l.length<=9) && !(decide (1 < l.length) && (l.getD 0 0 == 48)) && l.all λc=>dX c.toNat
theorem IB{l:QF}(h:l.length < 1):pH l=F:=by unfold pH;rw [decide_eq_false (by omega)];rfl
theorem BV{l:QF}(h:9 < l.length):pH l=F:=by unfold pH;rw [decide_eq_false (p:=l.length<=9) (by omega),SG];rfl
theorem BX{l:QF}(h:1 < l.length)(a:l.getD 0 0=48):pH l=F:=by unfold pH;rw [decide_eq_true (p:=1 < l.length) h,a];simp
theorem wX{l:QF}(b:1<=l.length)(d:l.length<=9)(a:l.length=1\/l.getD 0 0≠48):pH l=l.all λc=>dX c.toNat:=by
 unfold pH;rw [decide_eq_true b,decide_eq_true d]
 have:(decide (1 < l.length) && (l.getD 0 0 == 48))=F:=by
  rcases a with a | a
  .rw [decide_eq_false (by omega)];rfl
  rw [beq_eq_false_iff_ne.2 a,SG]
 rw [this];simp
theorem Dn(s:QL)(w:QI)(y:s.size<=maxLen):Y8 Ys 286 #[T s] w λe A=>e=YX (YW (pH s.data.toList))/\A=w:=by
 unfold maxLen at y;have z:=ag s
 by_cases B:s.size < 1
 .have b:=K (IB (l:=s.data.toList) (by omega));have x:(s.size:Int) < 1:=by omega
  go_enter func286,ntmps286;go_wp2_with fail
  go_ret;exact ⟨by rw [b.out];rfl,rfl⟩
 have x:¬(s.size:Int) < 1:=by omega
 by_cases C:9 < s.size
 .have b:=K (BV (l:=s.data.toList) (by omega));have h:(9:Int) < (s.size:Int):=by omega
  go_enter func286,ntmps286;go_wp2_with fail
  go_ret;exact ⟨by rw [b.out];rfl,rfl⟩
 have h:¬(9:Int) < (s.size:Int):=by omega
 by_cases D:s.size=1
 .have b:=K (wX (l:=s.data.toList) (by omega) (by omega) (Y4 (by omega)));have t:¬(1:Int) < (s.size:Int):=by omega
  go_enter func286,ntmps286;go_wp2_with fail
  go_loop [24] (λi=>∃k:Nat,k<=s.size/\i=I J k/\H (∀j:Nat,j < k->(λc:UInt8=>dX c.toNat) (s.data.toList.getD j 0)=YT)) (λi=>s.size - (Y9 i).toNat)
  case atStart=>exact ⟨0,QS _,rfl,λj h=>by omega⟩
  case round=>
   obtain ⟨k,t,rfl,n⟩:=hrel
   by_cases a:k < s.size
   .have o:(k:Int) < (s.size:Int):=by omega
    have g:H (s.data.toList.getD k 0=s[k]):=iZ s k a
    by_cases u:(s[k].toNat:Int) < 48
    .have d:H ((λc:UInt8=>dX c.toNat) s[k]=F):=K (by simp only [dX];rw [decide_eq_false (by omega)];rfl);go_wp2_with fail
     go_ret;exact ⟨b8 (by rw [b.out];exact (qg (p:=λc:UInt8=>dX c.toNat) (by rw [ag];exact a) (by rw [g.out];exact d.out)).symm),rfl⟩
    by_cases r:(57:Int) < (s[k].toNat:Int)
    .have d:H ((λc:UInt8=>dX c.toNat) s[k]=F):=K (by simp only [dX];rw [decide_eq_false (p:=(s[k].toNat:Int)<=57) (by omega),SG]);go_wp2_with fail
     go_ret;exact ⟨b8 (by rw [b.out];exact (qg (p:=λc:UInt8=>dX c.toNat) (by rw [ag];exact a) (by rw [g.out];exact d.out)).symm),rfl⟩
    have d:H ((λc:UInt8=>dX c.toNat) s[k]=YT):=K (by simp only [dX];rw [decide_eq_true (by omega),decide_eq_true (by omega)];rfl);go_wp2_with fail
    exact ⟨⟨k+1,by omega,by go_num,K (ma (p:=λc:UInt8=>dX c.toNat) n.out g.out d.out)⟩,by simp [Y9];omega⟩
   go_wp2_with fail
   go_ret;exact ⟨b8 (by rw [b.out];exact (vz (p:=λc:UInt8=>dX c.toNat) (λj h=>n.out j (by rw [ag] at h;omega))).symm),rfl⟩
 have t:(1:Int) < (s.size:Int):=by omega
 have v:0 < s.size:=by omega
 have f:=iZ s 0 v
 by_cases m:s[0]=48
 .have b:=K (BX (l:=s.data.toList) (by omega) (by rw [f,m]));have q:((s[0].toNat:Int) == 48)=YT:=by rw [m];rfl
  clear m f;go_enter func286,ntmps286;go_wp2_with fail
  go_ret;exact ⟨by rw [b.out];rfl,rfl⟩
 have b:=K (wX (l:=s.data.toList) (by omega) (by omega) (Y5 (by rw [f];exact m)))
 have q:((s[0].toNat:Int) == 48)=F:=by
  rw [beq_eq_false_iff_ne];intro e;exact m (UInt8.toNat_inj.1 (by show s[0].toNat=48;omega))
 clear m f;go_enter func286,ntmps286;go_wp2_with fail
 go_loop [24] (λi=>∃k:Nat,k<=s.size/\i=I J k/\H (∀j:Nat,j < k->(λc:UInt8=>dX c.toNat) (s.data.toList.getD j 0)=YT)) (λi=>s.size - (Y9 i).toNat)
 case atStart=>exact ⟨0,QS _,rfl,λj h=>by omega⟩
 case round=>
  obtain ⟨k,t,rfl,n⟩:=hrel
  by_cases a:k < s.size
  .have o:(k:Int) < (s.size:Int):=by omega
   have g:H (s.data.toList.getD k 0=s[k]):=iZ s k a
   by_cases u:(s[k].toNat:Int) < 48
   .have d:H ((λc:UInt8=>dX c.toNat) s[k]=F):=K (by simp only [dX];rw [decide_eq_false (by omega)];rfl);go_wp2_with fail
    go_ret;exact ⟨b8 (by rw [b.out];exact (qg (p:=λc:UInt8=>dX c.toNat) (by rw [ag];exact a) (by rw [g.out];exact d.out)).symm),rfl⟩
   by_cases r:(57:Int) < (s[k].toNat:Int)
   .have d:H ((λc:UInt8=>dX c.toNat) s[k]=F):=K (by simp only [dX];rw [decide_eq_false (p:=(s[k].toNat:Int)<=57) (by omega),SG]);go_wp2_with fail
    go_ret;exact ⟨b8 (by rw [b.out];exact (qg (p:=λc:UInt8=>dX c.toNat) (by rw [ag];exact a) (by rw [g.out];exact d.out)).symm),rfl⟩
   have d:H ((λc:UInt8=>dX c.toNat) s[k]=YT):=K (by simp only [dX];rw [decide_eq_true (by omega),decide_eq_true (by omega)];rfl);go_wp2_with fail
   exact ⟨⟨k+1,by omega,by go_num,K (ma (p:=λc:UInt8=>dX c.toNat) n.out g.out d.out)⟩,by simp [Y9];omega⟩
  go_wp2_with fail
  go_ret;exact ⟨b8 (by rw [b.out];exact (vz (p:=λc:UInt8=>dX c.toNat) (λj h=>n.out j (by rw [ag] at h;omega))).symm),rfl⟩
def Hg(l:QF):Nat:=l.foldl (λn c=>10 * n+(c.toNat - 48)) 0
theorem oA:∀(l:QF) (a:Nat),(∀c∈l,dX c.toNat=YT)->Lib.decFrom a l=S (l.foldl (λn c=>10 * n+(c.toNat - 48)) a)
 | [],a,_=>by simp [Lib.decFrom]
 | c::l,a,h=>by
  have b:=h c (Tw ..);unfold dX at b;simp only [Rk,decide_eq_true_eq] at b;have d:Lib.digitVal c=S (c.toNat - 48):=by unfold Lib.digitVal;rw [if_pos (by omega)]
  rw [Lib.decFrom,d,Vj];show Lib.decFrom (a * 10+(c.toNat - 48)) l=_;rw [oA l _ (λx e=>h x (Tx _ e)),Nat.mul_comm]
theorem tS{l:QF}(h:pH l=YT):(1<=l.length/\l.length<=9)/\∀c∈l,dX c.toNat=YT:=by
 unfold pH at h;simp only [Rk,decide_eq_true_eq,Rb] at h;exact ⟨⟨h.1.1.1,h.1.1.2⟩,h.2⟩
theorem En{l:QF}(h:pH l=YT):Lib.atoi l=S ((Hg l:Nat):Int):=by
 obtain ⟨⟨d,_⟩,b⟩:=tS h
 cases l with
 | nil=>simp at d
 | cons c l=>
  have a:=b c (Tw ..);unfold dX at a;simp only [Rk,decide_eq_true_eq] at a;have e:(c == 45)=F:=by rw [beq_eq_false_iff_ne];rintro rfl;simp at a
  have f:(c == 43)=F:=by rw [beq_eq_false_iff_ne];rintro rfl;simp at a
  unfold Lib.atoi;simp only [e,f,Tm,if_false];unfold Lib.decNat;rw [show (c::l).isEmpty=F from rfl];simp only [Tm,if_false];rw [oA _ _ b];rfl
def jI(l:QF):Option Nat:=
 if l=[] then S 0 else match dU l [32,83,73,90,69,61] with | some d=>if pH d then S (Hg d) else N | none=>N
def NQ(o:Option Nat):QJ:=
 match o with
 | some n=>YY #[I J (n:Int),YW YT]
 | none=>YY #[I J 0,YW F]
theorem Av{W:QI}{e:Za}{x:QL}:Y6 W.heap.size W (Lib.bytesWorld W e x):=
 ⟨by simp [Lib.bytesWorld,World.freeze,World.alloc,World.drew, -World.alloc_eq, -World.drew_eq],by simp [Lib.bytesWorld,World.freeze,World.alloc,World.drew, -World.alloc_eq, -World.drew_eq],by simp [Lib.bytesWorld,World.freeze,World.alloc,World.drew, -World.alloc_eq, -World.drew_eq],by rw [Lib.bytesWorld_size];omega,λk a=>Lib.bytesWorld_at_old W e x k a⟩
theorem oz{s p r:QF}(h:dU s p=S r)(a:eZ s):eZ r/\r.length<=s.length:=by
 unfold dU at h
 split at h
 .cases h
 split at h
 .injection h with h;rw [<-h];exact ⟨λx b=>a x (List.mem_of_mem_drop b),by rw [Rq];omega⟩
 cases h
theorem DE(l:QF)(w:QI)(s:l.length<=1048576)(k:eZ l):Y8 Ys 242 #[T (bs l)] w λe v=>e=YX (NQ (jI l))/\Y6 w.heap.size w v:=by
 by_cases h:l=[]
 .subst h;have q:H (jI []=S 0):=K rfl;rw [show bs ([]:QF)=⟨#[]⟩ from rfl];go_enter func242,ntmps242;go_wp2_with fail
  go_ret2
  exact ⟨by rw [q.out];rfl,QQ _ _⟩
 have u:((bs l).toList == [])=F:=by rw [beq_eq_false_iff_ne,ByteArray.toList_eq,ao];exact h
 have a:=K (kD l [32,83,73,90,69,61] w s (by decide) k (by unfold eZ;decide));have f:H (jI l=match dU l [32,83,73,90,69,61] with | some d=>if pH d then S (Hg d) else N | none=>N):=K (by unfold jI;rw [if_neg h])
 cases c:dU l [32,83,73,90,69,61] with
 | none=>
  rw [c] at a f;have b:H (jI l=N):=K f.out;clear c f h k;simp only [BD] at a;go_enter func242,ntmps242;go_wp2_with fail
  refine a.out.mono ?_;rintro e p ⟨rfl,rfl⟩;go_wp2_with fail
  go_ret2
  exact ⟨by rw [b.out];rfl,QQ _ _⟩
 | some d=>
  rw [c] at a f;have o:=oz c k;simp only [BD] at a;have r:=aj d;have j:=K (Dn (bs d) w (by unfold maxLen;omega));rw [ao] at j
  cases g:pH d
  case false=>
   rw [g] at j;have b:H (jI l=N):=K (by rw [f.out];simp only [];rw [g];rfl);clear c f h k o g;go_enter func242,ntmps242;go_wp2_with fail
   refine a.out.mono ?_;rintro e p ⟨rfl,rfl⟩;go_wp2_with (first | (go_at_call 286;refine j.out.mono ?_;rintro e x ⟨rfl,rfl⟩) | fail)
   go_ret2
   exact ⟨by rw [b.out];rfl,QQ _ _⟩
  rw [g] at j;have b:H (jI l=S (Hg d)):=K (by rw [f.out];simp only [];rw [g];rfl);have i:=K (Tryz.strconv_Atoi (bs d) ((Hg d:Nat):Int) (by have:=(tS g).1;omega) (by rw [ao];exact En g) w);obtain ⟨n,m⟩:=QE (Hg d);rw [m] at b i;clear c f h k o g m;go_enter func242,ntmps242;go_wp2_with fail
  refine a.out.mono ?_;rintro e p ⟨rfl,rfl⟩;go_wp2_with (first | (go_at_call 286;refine j.out.mono ?_;rintro e x ⟨rfl,rfl⟩) | fail)
  refine i.out.mono ?_;rintro e y ⟨rfl,t,rfl⟩;go_wp2_with fail
  go_quiet (fail)
  go_wp2_with fail
  go_ret2
  exact ⟨by rw [b.out];rfl,Av.trans (an _ _ _)⟩
structure Qd(w:QI)(k:Nat):Prop where
 xp:w.heap[k]? =S (YU #[I J 0,T ⟨#[]⟩,I J 0,T ⟨#[]⟩] 197 (0,0))
 c0:w.cell? ⟨k,0,N⟩=S (I J 0)
 c1:w.cell? ⟨k,1,N⟩=S (T ⟨#[]⟩)
 c2:w.cell? ⟨k,2,N⟩=S (I J 0)
 c3:w.cell? ⟨k,3,N⟩=S (T ⟨#[]⟩)
 f0:w.frozen? ⟨k,0,N⟩=F
 f1:w.frozen? ⟨k,1,N⟩=F
 f2:w.frozen? ⟨k,2,N⟩=F
 f3:w.frozen? ⟨k,3,N⟩=F
theorem tr{w:QI}{k:Nat}(h:w.heap[k]? =S (YU #[I J 0,T ⟨#[]⟩,I J 0,T ⟨#[]⟩] 197 (0,0))):Qd w k:=
 ⟨h,Q3 h _,Q3 h _,Q3 h _,Q3 h _,RJ h 0,RJ h 1,RJ h 2,RJ h 3⟩
def om(arg:QF):mX:=
 match dU arg [80,76,65,73,78,32] with
 | some l=>(match fC l with | some b=>⟨8,[],0,b⟩ | none=>dW)
 | none=>dW
theorem Kf:fC []=S []:=rfl
theorem Dz(arg:QF)(w:QI)(hl:arg.length<=1048576)(t:eZ arg):Y8 Ys 178 #[T (bs arg)] w λe w'=>e=YX (jR (om arg))/\Y6 w.heap.size w w':=by
 obtain ⟨G,m⟩:=QE (w.alloc (YU #[I J 0,T ⟨#[]⟩,I J 0,T ⟨#[]⟩] 197));have M:=QG m;have O:=QH m;have c:=K (kD arg [80,76,65,73,78,32] G hl (by decide) t (by unfold eZ;decide));have n:H (om arg=match dU arg [80,76,65,73,78,32] with | some l=>(match fC l with | some b=>⟨8,[],0,b⟩ | none=>dW) | none=>dW):=K rfl;have f:=K M;have q:=K O;have p:=K m;clear M O m
 cases g:dU arg [80,76,65,73,78,32] with
 | none=>
  rw [g] at c n;simp only [BD] at c;have i:H (om arg=dW):=K n.out;have d:=K (uh ⟨#[]⟩ G (by decide));clear g n t;go_enter Xd,ntmps178;go_wp2_with fail
  rw [p.out];refine c.out.mono ?_;rintro e w1 ⟨rfl,rfl⟩;go_wp2_with fail
  refine d.out.mono ?_;intro e w2 r;rw [Kf] at r;obtain ⟨rfl,a⟩:=r;have s:=tr (ae a q.out);obtain ⟨o,P,Q,R,U,V,W,X,Y⟩:=s;have k:=K o;have j:=K (f.out.trans (a.mono f.out.size));clear o a d c;go_wp2_with fail
  obtain ⟨A,B,C,D,E⟩:=iK (x:=I J 1) (y:=T ⟨#[]⟩) (z:=I J 0) (u:=T ⟨#[]⟩) k.out;refine Ru (v:=YZ #[I J 1,T ⟨#[]⟩,I J 0,T ⟨#[]⟩]) (by simp [results,results178,go_sem,A,B,C,D]) rfl ?_;exact ⟨by rw [i.out];rfl,j.out.trans (E.below (QR _))⟩
 | some l=>
  rw [g] at c n;simp only [BD] at c;have Z:=oz g t;have a0:=aj l;have d:=K (uh (bs l) G (by omega));rw [ao] at d
  cases h:fC l with
  | none=>
   rw [h] at d;have i:H (om arg=dW):=K (by rw [n.out];simp only [];rw [h]);clear g n t Z h;go_enter Xd,ntmps178;go_wp2_with fail
   rw [p.out];refine c.out.mono ?_;rintro e w1 ⟨rfl,rfl⟩;go_wp2_with fail
   refine d.out.mono ?_;intro e w2 r;obtain ⟨rfl,a⟩:=r;have s:=tr (ae a q.out);obtain ⟨o,P,Q,R,U,V,W,X,Y⟩:=s;have k:=K o;have j:=K (f.out.trans (a.mono f.out.size));clear o a d c;go_wp2_with fail
   obtain ⟨A,B,C,D,E⟩:=iK (x:=I J 1) (y:=T ⟨#[]⟩) (z:=I J 0) (u:=T ⟨#[]⟩) k.out;refine Ru (v:=YZ #[I J 1,T ⟨#[]⟩,I J 0,T ⟨#[]⟩]) (by simp [results,results178,go_sem,A,B,C,D]) rfl ?_;exact ⟨by rw [i.out];rfl,j.out.trans (E.below (QR _))⟩
  | some b=>
   rw [h] at d;have i:H (om arg=⟨8,[],0,b⟩):=K (by rw [n.out];simp only [];rw [h]);clear g n t Z h;go_enter Xd,ntmps178;go_wp2_with fail
   rw [p.out];refine c.out.mono ?_;rintro e w1 ⟨rfl,rfl⟩;go_wp2_with fail
   refine d.out.mono ?_;intro e w2 r;obtain ⟨rfl,a⟩:=r;have s:=tr (ae a q.out);obtain ⟨o,P,Q,R,U,V,W,X,Y⟩:=s;have k:=K o;have j:=K (f.out.trans (a.mono f.out.size));clear o a d c;go_wp2_with fail
   obtain ⟨A,B,C,D,E⟩:=iK (x:=I J 8) (y:=T ⟨#[]⟩) (z:=I J 0) (u:=T ⟨b.toArray⟩) k.out;refine Ru (v:=YZ #[I J 8,T ⟨#[]⟩,I J 0,T ⟨b.toArray⟩]) (by simp [results,results178,go_sem,A,B,C,D]) rfl ?_;exact ⟨by rw [i.out];rfl,j.out.trans (E.below (QR _))⟩
def iB(o:Option QF):QF:=match o with | some r=>r | none=>[]
def PN(o:Option QF):QJ:=YY #[T (bs (iB o)),YW o.isSome]
theorem EH(o:Option QF):BD o=PN o:=by cases o <;> rfl
def pW(arg:QF):mX:=
 let o:=dU arg [84,79,58,60]
 if o.isSome && Lib.hasSuffix (iB o) [62] && (bL (Lib.trimSuffix (iB o) [62])).2 then ⟨10,b9 (Lib.trimSuffix (iB o) [62]),0,[]⟩ else dW
theorem rV{arg p:QF}(a:eZ arg):eZ (iB (dU arg p))/\(iB (dU arg p)).length<=arg.length:=by
 cases h:dU arg p with
 | none=>exact ⟨(λx b=>by cases b),QS _⟩
 | some r=>exact oz h a
theorem Bn(l p:QF):(Lib.trimSuffix l p).length<=l.length:=by
 unfold Lib.trimSuffix
 split
 .rw [Sm];omega
 exact QR _
theorem DD(arg:QF)(m:Int)(w:QI)(hl:arg.length<=1048576)(V:eZ arg)(X:w.cell? ⟨0,0,N⟩=S (I J m)):Y8 Ys 180 #[T (bs arg)] w λe w'=>e=YX (jR (pW arg))/\Y6 w.heap.size w w':=by
 obtain ⟨E,j⟩:=QE (w.alloc (YU #[I J 0,T ⟨#[]⟩,I J 0,T ⟨#[]⟩] 197));have O:=QG j;have X0:=QH j;have m0:=(O.cell (au X)).trans X;have h:=kD arg [84,79,58,60] E hl (by decide) V (by unfold eZ;decide);rw [EH] at h;have G:=rV (p:=[84,79,58,60]) V;have k:H (pW arg=if (dU arg [84,79,58,60]).isSome && Lib.hasSuffix (iB (dU arg [84,79,58,60])) [62] && (bL (Lib.trimSuffix (iB (dU arg [84,79,58,60])) [62])).2 then ⟨10,b9 (Lib.trimSuffix (iB (dU arg [84,79,58,60])) [62]),0,[]⟩ else dW):=K rfl;unfold PN at h;obtain ⟨c,e1⟩:∃b,(dU arg [84,79,58,60]).isSome=b:=⟨_,rfl⟩;obtain ⟨f,R⟩:∃r,iB (dU arg [84,79,58,60])=r:=⟨_,rfl⟩;rw [e1,R] at h k;rw [R] at G;have a0:=aj f;have i:=Tryz.strings_CutSuffix (bs f) ⟨#[62]⟩ E (by omega);rw [ao,show (⟨#[62]⟩:QL).data.toList=[62] from rfl] at i;have M:=Bn f [62];obtain ⟨a,e3⟩:∃b,Lib.hasSuffix f [62]=b:=⟨_,rfl⟩;obtain ⟨g,U⟩:∃r,Lib.trimSuffix f [62]=r:=⟨_,rfl⟩;rw [e3,U] at i k;rw [U] at M;have n:=qh g m E (by omega) m0;obtain ⟨q,e5⟩:∃b,(bL g).2=b:=⟨_,rfl⟩;obtain ⟨Y,e6⟩:∃r,b9 g=r:=⟨_,rfl⟩;rw [e5,e6] at n k;have B:=K h;have C:H (Y8 Ys 243 #[T (bs f),T ⟨#[62]⟩] E λe w'=>e=YX (YY #[T (bs g),YW a])/\w'=E):=K i;have s:=K n;have t:=K O;have Q:=K X0;have P:=K j;clear O X0 j X m0 h i n e1 R e3 U e5 e6 G M V;go_enter func180,ntmps180;go_wp2_with fail
 rw [P.out];refine B.out.mono ?_;rintro e w1 ⟨rfl,rfl⟩;go_wp2_with fail
 refine C.out.mono ?_;rintro e w2 ⟨rfl,rfl⟩;go_wp2_with fail
 refine s.out.mono ?_;rintro e w3 ⟨rfl,o⟩;obtain ⟨X1,c0,c1,c2,c3,f0,f1,f2,f3⟩:=tr (ae o Q.out);have D:=K X1;have A:=K (t.out.trans (o.mono t.out.size));clear X1 o s C B
 by_cases d:(c && a && q)=YT
 .have l:H (pW arg=⟨10,Y,0,[]⟩):=K (by rw [k.out,if_pos d]);simp only [Rk] at d;obtain ⟨⟨rfl,rfl⟩,rfl⟩:=d;clear k;go_wp2_with fail
  obtain ⟨Z,r1,r2,r3,rS⟩:=iK (x:=I J 10) (y:=T (bs Y)) (z:=I J 0) (u:=T ⟨#[]⟩) D.out;refine Ru (v:=YZ #[I J 10,T (bs Y),I J 0,T ⟨#[]⟩]) (by simp [results,results180,go_sem,Z,r1,r2,r3]) rfl ?_;exact ⟨by rw [l.out];rfl,A.out.trans (rS.below (QR _))⟩
 have l:H (pW arg=dW):=K (by rw [k.out,if_neg d])
 have W:c=F\/(c=YT/\a=F)\/(c=YT/\a=YT/\q=F):=by
  cases c <;> cases a <;> cases q <;> simp at d ⊢
 clear k d
 rcases W with rfl | ⟨rfl,rfl⟩ | ⟨rfl,rfl,rfl⟩
 all_goals
  go_wp2_with fail
  obtain ⟨Z,r1,r2,r3,rS⟩:=iK (x:=I J 1) (y:=T ⟨#[]⟩) (z:=I J 0) (u:=T ⟨#[]⟩) D.out;refine Ru (v:=YZ #[I J 1,T ⟨#[]⟩,I J 0,T ⟨#[]⟩]) (by simp [results,results180,go_sem,Z,r1,r2,r3]) rfl ?_;exact ⟨by rw [l.out];rfl,A.out.trans (rS.below (QR _))⟩
theorem NR(o:Option Nat):NQ o=YY #[I J ((o.getD 0:Nat):Int),YW o.isSome]:=by cases o <;> rfl
def pQ(arg:QF):mX:=
 let o:=dU arg [70,82,79,77,58,60]
 let x:=aJ 62 (iB o)
 if o.isSome && x.2.2 && ((bL x.1).2 || x.1.isEmpty) && (jI x.2.1).isSome then ⟨9,b9 x.1,(jI x.2.1).getD 0,[]⟩ else dW
theorem we(c:UInt8)(l x y:QF)(f:Bool)(h:aJ c l=(x,y,f)):(∀a∈x,a∈l)/\∀a∈y,a∈l:=by
 cases d:(aJ c l).2.2
 case true=>
  have:=(gj c l d).1;rw [h] at this;simp only at this;rw [this];exact ⟨λa b=>List.mem_append_left _ b,λa b=>List.mem_append_right _ (Tx _ b)⟩
 have:=(iY c l d).1;rw [h] at this;injection this with e1 e2;injection e2 with e2 _;subst e1 e2;exact ⟨λa b=>b,λa b=>by cases b⟩
theorem AQ(arg:QF)(m:Int)(w:QI)(hl:arg.length<=1048576)(ha:eZ arg)(hm:w.cell? ⟨0,0,N⟩=S (I J m)):Y8 Ys 179 #[T (bs arg)] w λe w'=>e=YX (jR (pQ arg))/\Y6 w.heap.size w w':=by
 obtain ⟨s,t⟩:=QE (w.alloc (YU #[I J 0,T ⟨#[]⟩,I J 0,T ⟨#[]⟩] 197));have B0:=QG t;have X0:=QH t;have m0:=(B0.cell (au hm)).trans hm;have k:=kD arg [70,82,79,77,58,60] s hl (by decide) ha (by unfold eZ;decide);rw [EH] at k;have O:=rV (p:=[70,82,79,77,58,60]) ha;have l:H (pQ arg=if (dU arg [70,82,79,77,58,60]).isSome && (aJ 62 (iB (dU arg [70,82,79,77,58,60]))).2.2 && ((bL (aJ 62 (iB (dU arg [70,82,79,77,58,60]))).1).2 || (aJ 62 (iB (dU arg [70,82,79,77,58,60]))).1.isEmpty) && (jI (aJ 62 (iB (dU arg [70,82,79,77,58,60]))).2.1).isSome then ⟨9,b9 (aJ 62 (iB (dU arg [70,82,79,77,58,60]))).1,(jI (aJ 62 (iB (dU arg [70,82,79,77,58,60]))).2.1).getD 0,[]⟩ else dW):=K rfl;unfold PN at k;obtain ⟨c,e1⟩:∃b,(dU arg [70,82,79,77,58,60]).isSome=b:=⟨_,rfl⟩;obtain ⟨B,e2⟩:∃r,iB (dU arg [70,82,79,77,58,60])=r:=⟨_,rfl⟩;rw [e1,e2] at k l;rw [e2] at O;have a7:=aj B;have X:=K (j5 (bs B) 62 s (by unfold maxLen;omega));have Y:=K m0;have Z:=K O;have V:=K k;have R:=K B0;have a4:=K X0;have a3:=K t;clear B0 X0 t hm m0 k e1 e2 O ha;go_enter func179,ntmps179;go_wp2_with fail
 rw [a3.out];refine V.out.mono ?_;rintro e w1 ⟨rfl,rfl⟩;go_wp2_with fail
 refine X.out.mono ?_;rintro e w2 ⟨x,y,d,rfl,P,n,rfl⟩;rw [ao] at P;obtain ⟨f,rfl⟩:∃r,x=bs r:=⟨x.data.toList,rfl⟩;obtain ⟨g,rfl⟩:∃r,y=bs r:=⟨y.data.toList,rfl⟩;rw [ao,ao] at P;rw [P] at l;simp only at l;have a5:=nj 62 _ _ _ _ P;have j:=we 62 _ _ _ _ P;have a6:=Z.out.2;have M:=qh f m (s.drewN n) (by omega) (((an n s s.heap.size).cell (au Y.out)).trans Y.out);obtain ⟨i,e5⟩:∃b,(bL f).2=b:=⟨_,rfl⟩;obtain ⟨kp,e6⟩:∃r,b9 f=r:=⟨_,rfl⟩;rw [e5,e6] at M l;have q:H (∀W:QI,Y8 Ys 242 #[T (bs g)] W λe w'=>e=YX (NQ (jI g))/\Y6 W.heap.size W w'):=K (λW=>DE g W (by omega) (λa ha=>Z.out.1 a (j.2 a ha)));rw [NR] at q;obtain ⟨A,e7⟩:∃b,(jI g).isSome=b:=⟨_,rfl⟩;obtain ⟨sz,e8⟩:∃r,(jI g).getD 0=r:=⟨_,rfl⟩;rw [e7,e8] at q l;have Q:=K M;clear P a5 j a6 M e5 e6 e7 e8 X V;go_wp2_with fail
 refine Q.out.mono ?_;rintro e w3 ⟨rfl,a1⟩;have C:=K a1;clear a1;go_wp2_with fail
 refine (q.out w3).mono ?_;rintro e w4 ⟨rfl,a2⟩;have B4:Y6 s.heap.size s w4:=(an n s s.heap.size).trans ((C.out.mono (by simp)).trans (a2.mono (by have:=C.out.size;simp at this;exact this)));obtain ⟨X1,c0,c1,c2,c3,f0,f1,f2,f3⟩:=tr (ae B4 a4.out);have a0:=K X1;have U:=K (R.out.trans (B4.mono R.out.size));obtain ⟨G,E⟩:∃b,f.isEmpty=b:=⟨_,rfl⟩
 have o:H (G=YT ↔ (bs f).toList=[]):=K (by
  rw [ByteArray.toList_eq,ao, <-E]
  cases f <;> simp)
 rw [E] at l;clear X1 a2 Q q B4 C E
 by_cases h:(c && d && (i || G) && A)=YT
 .have D:H (pQ arg=⟨9,kp,sz,[]⟩):=K (by rw [l.out,if_pos h]);simp only [Rk] at h;obtain ⟨⟨⟨rfl,rfl⟩,h3⟩,rfl⟩:=h;have j:i=YT\/(i=F/\G=YT):=by cases i <;> cases G <;> simp at h3 ⊢
  clear l h3
  rcases j with rfl | ⟨rfl,rfl⟩
  all_goals
   try (have hE:(bs f).toList=[]:=o.out.1 rfl)
   try (have hE:¬(bs f).toList=[]:=λe=>Bool.false_ne_true (o.out.2 e))
   go_wp2_with fail
   obtain ⟨r0,r1,r2,r3,rS⟩:=iK (x:=I J 9) (y:=T (bs kp)) (z:=I J (sz:Int)) (u:=T ⟨#[]⟩) a0.out;refine Ru (v:=YZ #[I J 9,T (bs kp),I J (sz:Int),T ⟨#[]⟩]) (by simp [results,results179,go_sem,r0,r1,r2,r3]) rfl ?_;exact ⟨by rw [D.out];rfl,U.out.trans (rS.below (QR _))⟩
 have D:H (pQ arg=dW):=K (by rw [l.out,if_neg h])
 have j:c=F\/(c=YT/\d=F)\/(c=YT/\d=YT/\i=F/\G=F)\/(c=YT/\d=YT/\i=YT/\A=F)\/(c=YT/\d=YT/\i=F/\G=YT/\A=F):=by
  cases c <;> cases d <;> cases i <;> cases G <;> cases A <;> simp at h ⊢
 clear l h
 rcases j with rfl | ⟨rfl,rfl⟩ | ⟨rfl,rfl,rfl,rfl⟩ | ⟨rfl,rfl,rfl,rfl⟩ | ⟨rfl,rfl,rfl,rfl,rfl⟩
 all_goals
  try (have hE:(bs f).toList=[]:=o.out.1 rfl)
  try (have hE:¬(bs f).toList=[]:=λe=>Bool.false_ne_true (o.out.2 e))
  go_wp2_with fail
  obtain ⟨r0,r1,r2,r3,rS⟩:=iK (x:=I J 1) (y:=T ⟨#[]⟩) (z:=I J 0) (u:=T ⟨#[]⟩) a0.out;refine Ru (v:=YZ #[I J 1,T ⟨#[]⟩,I J 0,T ⟨#[]⟩]) (by simp [results,results179,go_sem,r0,r1,r2,r3]) rfl ?_;exact ⟨by rw [D.out];rfl,U.out.trans (rS.below (QR _))⟩
def km(arg p:QF):Bool:=decide (p.length<=arg.length) && (Lib.toUpperA (arg.take p.length) == p)
def gX:QF:=[53,48,49,32,104,111,119]
def od:QF:=[53,48,51,32,102,105,114,115,116]
def oW:QF:=[50,53,48,32,111,107]
def NI:QF:=[52,53,50,32,109,97,110,121]
def P8:QF:=[53,53,48,32,110,111]
theorem wb(c:UInt8):∀l:QF,(aJ c l).1.length<=l.length
 | []=>QR _
 | b::r=>by
  unfold aJ
  split
  .exact QS _
  exact Nat.succ_le_succ (wb c r)
def gQ(c:bF)(r:bf)(arg:QF):bf×QF:=
 if km arg [84,79,58,60]=F then (r,gX) else
 if ((aJ 62 (arg.drop 4)).2.2 && (bL (aJ 62 (arg.drop 4)).1).2 && (aJ 62 (arg.drop 4)).2.1.isEmpty)=F then (r,gX) else
 if (r.xj && r.begun)=F then (r,od) else
 if r.xd.contains (bL (aJ 62 (arg.drop 4)).1).1 then (r,oW) else
 if c.most<=(r.xd.length:Int) then (r,NI) else
 if rC c r (dn (aJ 62 (arg.drop 4)).1).2.1=F then (r,P8) else
 ({r with xd:=r.xd++[(bL (aJ 62 (arg.drop 4)).1).1]},oW)
section
variable {w w':QI} {cb p:Nat} {vT vL vD vN vU vW:QJ} {r:bf} {c:bF} {B:Nat->Prop}
theorem bB.xt(h:bB w cb vT vL r)(a:aC B w w')(b:¬B cb)(e:∀g,vT.ownBlock=S g->¬B g)(d:∀g,vL.ownBlock=S g->¬B g):bB w' cb vT vL r:=⟨a.some_ h.xp b,bG h.xd a e,bG h.lines a d,h.apart⟩
theorem bB.below(h:bB w cb vT vL r)(a:Y6 w.heap.size w w'):bB w' cb vT vL r:=h.xt (aC.below a:aC (λ_=>False) w w') (λe=>e) (λ_ _ e=>e) (λ_ _ e=>e)
theorem je.below(h:je w p c vD vN vU vW)(a:Y6 w.heap.size w w'):je w' p c vD vN vU vW:=by
 obtain ⟨A,b,d⟩:=h.xp;exact ⟨⟨A,ae a b,d⟩,h.rows.below a,h.may⟩
end
def cJ(cb:Nat)(vT vL:QJ)(w:QI)(r':bf)(out:QF)(e:Zb)(w':QI):Prop:=
 e=YX (T (bs out))/\∃vT',bB w' cb vT' vL r'/\(∀g,vT'.ownBlock=S g->vT.ownBlock=S g\/w.heap.size<=g)/\aC (λk=>k=cb\/vT.ownBlock=S k) w w'
theorem cJ.still{cb:Nat}{vT vL:QJ}{w w':QI}{r:bf}{a:QF}{e:Zb}(h:bB w cb vT vL r)(b:Y6 w.heap.size w w')(d:e=YX (T (bs a))):cJ cb vT vL w r a e w':=⟨d,vT,h.below b,λ_ e=>Y4 e,aC.below b⟩
theorem Gg(p cb:Nat)(c:bF)(vD vN vU vW vT vL:QJ)(r:bf)(arg:QF)(w:QI)(h:je w p c vD vN vU vW)(hc:bB w cb vT vL r)(ha:0<=r.addr)(hl:arg.length<=140737488351232)(ht:r.xd.length<=10):Y8 Ys 198 #[YV (S ⟨p,0,N⟩),YV (S ⟨cb,0,N⟩),T (bs arg)] w (cJ cb vT vL w (gQ c r arg).1 (gQ c r arg).2):=by
 have hz:=aj arg;have HH:=K h;have G:=K hc
 by_cases a1:arg.length < 4
 .have z:H (gQ c r arg=(r,gX)):=K (by
   unfold gQ;rw [if_pos];unfold km;rw [decide_eq_false (by simp;omega)]
   rfl)
  have h8:(arg.length:Int) < 4:=by omega
  clear h hc;go_enter Xh,ntmps198;go_wp2_with fail
  go_ret;rw [z.out];exact cJ.still G.out (QQ _ _) rfl
 have h8:¬(arg.length:Int) < 4:=by omega
 have h4:(bs arg).extract 0 4=bs (arg.take 4):=by rw [bR,SY]
 obtain ⟨U,eU⟩:=QE (Lib.toUpperA (arg.take 4));have b4:H (Y8 Ys 125 #[T ((bs arg).extract 0 4)] w λe w'=>e=YX (T (bs U))/\Y6 w.heap.size w w'):=K (by rw [<-eU,h4];exact kM (bs (arg.take 4)) w (by rw [aj];rw [Sm];unfold maxLen;omega))
 have HP:H (km arg [84,79,58,60]=(U == [84,79,58,60])):=K (by
  unfold km;rw [decide_eq_true (show ([84,79,58,60]:QF).length<=arg.length by simp;omega),Sy, <-eU]
  rfl)
 clear eU h4 h hc
 by_cases hU:U=[84,79,58,60]
 case neg=>
  have z:H (gQ c r arg=(r,gX)):=K (by
   unfold gQ;rw [if_pos];rw [HP.out]
   simp [hU])
  have i9:((bs U).toList == [84,79,58,60])=F:=by rw [beq_eq_false_iff_ne,ByteArray.toList_eq,ao];exact hU
  go_enter Xh,ntmps198;go_wp2_with fail
  refine b4.out.mono ?_;rintro e w1 ⟨rfl,V⟩;have b0:=K V;clear V;go_wp2_with fail
  go_ret;rw [z.out];exact cJ.still G.out b0.out rfl
 case pos=>
 have i8:((bs U).toList == [84,79,58,60])=YT:=by rw [beq_iff_eq,ByteArray.toList_eq,ao];exact hU
 have e3:H (km arg [84,79,58,60]=YT):=K (by rw [HP.out,hU];rfl);have f4:(bs arg).extract 4 arg.length=bs (arg.drop 4):=by rw [bR,QZ]
 have g9:=K f4;clear hU HP f4;go_enter Xh,ntmps198;go_wp2_with fail
 refine b4.out.mono ?_;rintro e w1 ⟨rfl,V⟩;have b0:=K V;clear V;go_wp2_with fail
 rw [g9.out];refine (l9 (bs (arg.drop 4)) 62 62 (K rfl) w1 (by rw [aj,Rq];unfold maxLen;omega)).mono ?_;rintro e w2 ⟨x,y,f,rfl,j,n2,rfl⟩;have b1:H (Y6 w.heap.size w (w1.drewN n2)):=K (b0.out.trans (an n2 _ _));obtain ⟨W2,e9⟩:∃W:QI,w1.drewN n2=W:=⟨_,rfl⟩;rw [e9] at b1 ⊢;clear e9
 have a9:x.data.toList.length<=arg.length:=by
  have:=wb 62 (arg.drop 4);rw [ao] at j;rw [j] at this;have h2:(arg.drop 4).length<=arg.length:=by rw [Rq];omega
  simp only at this;omega
 obtain ⟨n,ep⟩:∃l,x.data.toList=l:=⟨_,rfl⟩;obtain ⟨q,er⟩:∃l,y.data.toList=l:=⟨_,rfl⟩;have ex:x=bs n:=by rw [<-ep];rfl
 have ey:y=bs q:=by rw [<-er];rfl
 rw [ep,er] at j;subst ex ey;rw [ao] at j;have d4:=K j;have d8:=K (kO n W2 (by rw [ao] at a9;unfold maxLen;omega));clear j ep er;go_wp2_with fail
 refine d8.out.mono ?_;rintro e w3 ⟨rfl,f1⟩;have d2:=K (b1.out.trans (f1.mono b1.out.size));have d1:=K (oV (bs n) w3 (by rw [aj];rw [ao] at a9;unfold maxLen;omega));clear f1;obtain ⟨s,c6⟩:∃t,(bL n).1=t:=⟨_,rfl⟩;obtain ⟨Q,c5⟩:∃t,(bL n).2=t:=⟨_,rfl⟩;rw [c6,c5];have e5:=K c6;have d6:=K c5;clear c6 c5;go_wp2_with fail
 refine d1.out.mono ?_;rintro e Z ⟨ax,ay,af,rfl,c9,f2⟩;have d:=K (d2.out.trans (f2.mono d2.out.size));obtain ⟨O,c4⟩:∃l,ay.data.toList=l:=⟨_,rfl⟩;have h9:ay=bs O:=by rw [<-c4];rfl
 have d5:H ((dn n).2.1=O):=K (by rw [ao] at c9;rw [c9];exact c4);subst h9;clear f2 c9 c4
 have c1:H (gQ c r arg=if (f && Q && q.isEmpty)=F then (r,gX) else
   if (r.xj && r.begun)=F then (r,od) else
   if r.xd.contains s then (r,oW) else
   if c.most<=(r.xd.length:Int) then (r,NI) else
   if rC c r O=F then (r,P8) else ({r with xd:=r.xd++[s]},oW)):=K (by
  unfold gQ;rw [if_neg (by rw [e3.out];decide)]
  simp only [d4.out,d6.out,e5.out,d5.out])
 clear e3 d4 d6 e5 d5 b4 d8 d1;have R:=G.out.below d.out;have c7:=HH.out.below d.out;have k3:Z.cell? ⟨cb,3,N⟩=S (YW r.xj):=R.cell 3;have k5:Z.cell? ⟨cb,5,N⟩=S (YW r.begun):=R.cell 5;have k7:Z.cell? ⟨cb,7,N⟩=S vT:=R.cell 7;have m4:Z.cell? ⟨p,4,N⟩=S (I J c.most):=c7.cell 4 (by decide);have b3:=K R;have h7:=K c7;clear R c7
 by_cases Y:(f && Q && q.isEmpty)=YT
 case neg=>
  have z:H (gQ c r arg=(r,gX)):=K (by rw [c1.out,if_pos (by simpa using Y)])
  cases f
  case false=>
   go_wp2_with fail
   go_ret;rw [z.out];exact cJ.still G.out d.out rfl
  cases Q
  case false=>
   go_wp2_with fail
   go_ret;rw [z.out];exact cJ.still G.out d.out rfl
  have i0:(bs q).toList.isEmpty=F:=by
   rw [ByteArray.toList_eq,ao]
   cases q with
   | nil=>exact absurd rfl Y
   | cons b r=>rfl
  clear Y;go_wp2_with fail
  go_ret;rw [z.out];exact cJ.still G.out d.out rfl
 case pos=>
 simp only [Rk] at Y;obtain ⟨⟨rfl,rfl⟩,C⟩:=Y;have i0:(bs q).toList.isEmpty=YT:=by rw [ByteArray.toList_eq,ao];exact C
 have M:=c1.out;rw [if_neg (by rw [C];decide)] at M;have c2:=K M;clear c1 M C
 by_cases v:(r.xj && r.begun)=YT
 case neg=>
  have z:H (gQ c r arg=(r,od)):=K (by rw [c2.out,if_pos (by simpa using v)]);obtain ⟨g,eg⟩:=QE r.xj;obtain ⟨b,eb⟩:=QE r.begun;rw [eg,eb] at v;rw [eg] at k3;rw [eb] at k5;clear eg eb
  cases g
  case false=>
   go_wp2_with fail
   go_ret;rw [z.out];exact cJ.still G.out d.out rfl
  cases b
  case false=>
   go_wp2_with fail
   go_ret;rw [z.out];exact cJ.still G.out d.out rfl
  exact absurd rfl v
 case pos=>
 have c3:=c2.out;rw [if_neg (by rw [v];decide)] at c3;have e4:=K c3;simp only [Rk] at v;rw [v.1] at k3;rw [v.2] at k5;clear c2 c3 v;obtain ⟨aT,cT,eT,a8⟩:=(bq b3.out.xd).one;rw [eT] at k7;have a2:=K eT;have h5:=K a8;clear eT a8;go_wp2_with fail
 go_loop [15] (λiv=>∃k:Nat,k<=r.xd.length/\iv=I J (k:Int)/\H ((r.xd.take k).contains s=F)) (λiv=>r.xd.length - (Y9 iv).toNat)
 case atStart=>exact ⟨0,QS _,rfl,K rfl⟩
 case round=>
  obtain ⟨k,hk,rfl,d9⟩:=hrel
  by_cases a5:k < r.xd.length
  .have i3:(k:Int) < (r.xd.length:Int):=by omega
   obtain ⟨b,i1,rfl,i6,f3⟩:=h5.out k a5;obtain ⟨t,et⟩:=QE (r.xd[k])
   have i2:Z.cell? ⟨b,i1+k,N⟩=S (T (bs t)):=by
    rw [f3, <-et];simp [ah,a5]
   have Qy:H (t=s->r.xd.contains s=YT):=K (λe=>by rw [<-e, <-et];exact Rh.2 (QU a5))
   have h3:H (¬t=s->(r.xd.take (k+1)).contains s=F):=K (λe=>by
    rw [Bool.eq_false_iff];intro hm;have hm:=Rh.1 hm;rw [QV a5,et,Rx,List.mem_singleton] at hm
    rcases hm with hm | hm
    .have:=Rh.2 hm;rw [d9.out] at this
     cases this
    exact e hm.symm)
   clear et f3;go_wp2_with fail
   .rename_i hx hw
    have hX:t=s:=by rw [beq_iff_eq,ByteArray.toList_eq,ByteArray.toList_eq,ao,ao] at hx;exact hx
    go_ret;rw [e4.out,if_pos (Qy.out hX)];exact cJ.still G.out d.out rfl
   rename_i hx
   have hX:¬t=s:=by rw [beq_eq_false_iff_ne,ByteArray.toList_eq,ByteArray.toList_eq,ao,ao] at hx;exact hx
   exact ⟨⟨k+1,by omega,by go_num,K (h3.out hX)⟩,by simp [Y9];omega⟩
  have i4:¬(k:Int) < (r.xd.length:Int):=by omega
  have f8:r.xd.contains s=F:=by
   have:=d9.out;rw [show k=r.xd.length by omega,QZ] at this
   exact this
  have A:=e4.out;rw [if_neg (by rw [f8];decide)] at A;have c0:=K A;clear f8 A
  by_cases X:c.most<=(r.xd.length:Int)
  .have z:H (gQ c r arg=(r,NI)):=K (by rw [c0.out,if_pos X]);go_wp2_with fail
   go_quiet (fail)
   have a0:=K (d.out.trans (an nq Z _));go_wp2_with fail
   go_ret;rw [z.out];exact cJ.still G.out a0.out rfl
  have A:=c0.out;rw [if_neg X] at A;have b5:=K A;clear A c0;go_wp2_with fail
  go_quiet (fail)
  have E:Y6 Z.heap.size Z (Z.drewN nq):=an nq Z _;obtain ⟨Wq,f0⟩:∃W:QI,Z.drewN nq=W:=⟨_,rfl⟩;rw [f0] at E ⊢;have h0:=K (IW p cb c vD vN vU vW vT vL r O Wq (h7.out.below E) (b3.out.below E) ha);have a0:=K (d.out.trans (E.mono d.out.size));have g8:=K (b3.out.below E);clear f0 E;go_wp2_with fail
  refine h0.out.mono ?_;rintro e w5 ⟨rfl,d0⟩;have b2:=K (a0.out.trans (d0.mono a0.out.size));have a4:=g8.out.below d0;have g7:w5.cell? ⟨cb,7,N⟩=S vT:=a4.cell 7;rw [a2.out] at g7;have i5:∀o:Obj,(w5.alloc o).cell? ⟨cb,7,N⟩=S (L aT r.xd.length cT):=λo=>(((QQ _ w5).alloc (QR _) o).cell (by exact aq a4.xp)).trans g7;have u:=K a4;clear d0 a4;obtain ⟨m,em⟩:=QE (rC c r O);rw [em] at b5 ⊢;clear em
  cases m
  case false=>
   have z:H (gQ c r arg=(r,P8)):=K (by rw [b5.out,if_pos rfl]);go_wp2_with fail
   go_ret;rw [z.out];exact cJ.still G.out b2.out rfl
  have z:H (gQ c r arg=({r with xd:=r.xd++[s]},oW)):=K (by rw [b5.out,if_neg (by decide)]);obtain ⟨i,hi,g4,g5,g6⟩:=Rr lL;have D:=u.out.xd;rw [a2.out] at D;obtain ⟨g,a3,W6,g0,f9,K6,O6⟩:=pg (P:=Ys) underlying30 hi g4 g5 g6 rfl w5 (w5.alloc (YU #[T (bs s)] 9)) (L aT r.xd.length cT) (T (bs s)) r.xd.length (ah r.xd) D rfl ((QQ _ _).alloc (QR _) _) (Q0 w5 _) (by unfold maxLen;omega) (by omega)
  have a7:¬(L aT r.xd.length cT).ownBlock=S cb:=λe=>by
   obtain ⟨e6,h1⟩:=br D e;rw [u.out.xp] at h1;simp at h1
  have b6:=K6.some_ u.out.xp a7;have e7:W6.cell? ⟨cb,7,N⟩=S (L aT r.xd.length cT):=by rw [Q3 b6, <-a2.out];rfl
  have f7:=RJ b6 7;have h6:=K g0;have e0:=K f9;have d7:=K K6;have e1:=K O6;have d3:=K b6;clear hi g4 g5 g6 D g0 f9 K6 O6 a7 b6
  go_wp2_with (first
   | (at_builtin;refine bp rfl _ _ 30 rfl _ _ (L (S ⟨g,0,N⟩) (r.xd.length+1) a3) W6 rfl rfl h6.out ?_)
   | fail)
  go_ret;rw [z.out];have a6:∀k,(L aT r.xd.length cT).ownBlock=S k->vT.ownBlock=S k:=λk e=>by rw [a2.out];exact e
  have f6:(r.xd++[s]).length=r.xd.length+1:=by simp
  have c8:aA cb W6 (W6.setCell ⟨cb,7,N⟩ (L (S ⟨g,0,N⟩) (r.xd.length+1) a3)):=(aA.refl _ _).setCell _;have b7:=Ro W6 cb 7 _ _ (L (S ⟨g,0,N⟩) (r.xd.length+1) a3) d3.out
  have f5:g≠cb:=λe=>by
   obtain ⟨e6,h1⟩:=br e0.out (g:=g) rfl;rw [e,d3.out] at h1;simp at h1
  have e8:∀k,vL.ownBlock=S k->¬vT.ownBlock=S k:=λk e e2=>by
   rcases u.out.apart with a | a
   .rw [a] at e2;cases e2
   exact a (by rw [e,e2])
  refine ⟨rfl,L (S ⟨g,0,N⟩) (r.xd.length+1) a3,⟨b7,?_,?_,?_⟩,λk e=>?_,?_⟩
  .show (W6.setCell _ _).ownsRow 0 9 1 _ (r.xd++[s]).length (ah (r.xd++[s]));rw [f6,show ah (r.xd++[s])=ah r.xd++[T (bs s)] by simp [ah]]
   exact bG e0.out (aC.same c8) (λk e e2=>f5 (by injection e with e;rw [<-e2];exact e))
  .refine bG (bG u.out.lines d7.out (λk e e2=>e8 k e (a6 k e2))) (aC.same c8) (λk e e2=>?_);obtain ⟨e6,h1⟩:=br u.out.lines e;rw [e2,u.out.xp] at h1;simp at h1
  .refine Y5 (λe=>?_);have e:S g=vL.ownBlock:=e
   rcases e1.out with o | o
   .exact e8 g e.symm (a6 g o)
   have:=(iL u.out.lines e.symm).2;omega
  .have e:S g=S k:=e;injection e with e;rw [<-e];exact e1.out.imp (a6 g) (λo=>Rn b2.out.size o)
  exact ((aC.below b2.out:aC (λk=>k=cb\/vT.ownBlock=S k) w w5).trans d7.out (λk _ e=>Y5 (a6 k e))).trans (aC.same c8) (λ_ _ e=>Y4 e)
def NG:QF:=[50,51,53,32,111,107]
def NK:QF:=[53,51,53,32,110,111]
def mn(a n w:QF)(x:QL×QL):Bool:=(x.1.data.toList == n) && (x.2.data.toList == w) && (a.isEmpty || (a == n))
def nz(c:bF)(b:QF):Bool:=(aJ 0 b).2.2 && (aJ 0 (aJ 0 b).2.1).2.2 && c.x9.any (mn (aJ 0 b).1 (aJ 0 (aJ 0 b).2.1).1 (aJ 0 (aJ 0 b).2.1).2.1)
def gu(c:bF)(r:bf)(arg:QF):bf×QF:=
 if km arg [80,76,65,73,78,32]=F then (r,gX) else
 if (jG (arg.drop 6)).2=F then (r,gX) else
 if (r.xj && !r.begun && !r.known)=F then (r,od) else
 if nz c (jG (arg.drop 6)).1 then ({r with known:=YT},NG) else (r,NK)
theorem BF(c:UInt8):∀l:QF,(aJ c l).2.1.length<=l.length
 | []=>QR _
 | b::r=>by
  unfold aJ
  split
  .exact Vm _
  exact Nat.le_succ_of_le (BF c r)
theorem LB(a:QF×Nat×Nat)(c:UInt8):(j3 a c).1.length<=a.1.length+1:=by
 unfold j3
 split
 .exact Vm _
 split
 .simp
 exact Vm _
theorem BJ:∀(l:QF) (a:QF×Nat×Nat),(l.foldl j3 a).1.length<=a.1.length+l.length
 | [],_=>QR _
 | b::r,a=>by
  have c:=BJ r (j3 a b);have d:=LB a b;rw [Vj,RQ];omega
theorem Lr(l:QF):(jG l).1.length<=l.length:=by
 unfold jG
 split
 .have:=BJ l ([],0,0);rw [RR,Nat.zero_add] at this;exact this
 exact QS _
theorem cP{W:QI}{b j:Nat}{A A':Array QJ}{t:Za}{v:QJ}(h:W.heap[b]? =S (YU A t (0,0)))(e:A.setIfInBounds j v=A'):(W.setCell ⟨b,j,N⟩ v).heap[b]? =S (YU A' t (0,0)):=by
 rw [<-e];exact Ro W b j _ _ v h
theorem bB.turn{w j:QI}{b:Nat}{i g:QJ}{r c:bf}(h:bB w b i g r)(l:aA b w j)(m:j.heap[b]? =S (YU (bC c i g) 139 (0,0)))(n:c.lines=r.lines)(o:c.xd=r.xd):bB j b i g c:=by
 refine ⟨m,?_,?_,h.apart⟩
 .rw [o];refine bG h.xd (aC.same l) (λk e f=>?_);obtain ⟨d,a⟩:=br h.xd e;rw [f,h.xp] at a;simp at a
 rw [n];refine bG h.lines (aC.same l) (λk e f=>?_);obtain ⟨d,a⟩:=br h.lines e;rw [f,h.xp] at a;simp at a
theorem cJ.known{w b:QI}{a:Nat}{d f:QJ}{r:bf}{c:QF}{e:Zb}(i:Y6 w.heap.size w b)(h:bB b a d f r)(l:e=YX (T (bs c))):cJ a d f w {r with known:=YT} c e (b.setCell ⟨a,4,N⟩ (YW YT)):=
 have g:aA a b (b.setCell ⟨a,4,N⟩ (YW YT)):=(aA.refl _ _).setCell _
 ⟨l,d,h.turn g (cP (j:=4) (v:=YW YT) h.xp (A':=bC {r with known:=YT} d f) rfl) rfl rfl,λ_ e=>Y4 e,(aC.below i:aC (λk=>k=a\/d.ownBlock=S k) w b).trans (aC.same g) (λ_ _ e=>Y4 e)⟩
theorem FM(p O:Nat)(c:bF)(vD vN vU vW vT vL:QJ)(r:bf)(arg:QF)(w:QI)(h:je w p c vD vN vU vW)(hc:bB w O vT vL r)(hl:arg.length<=1048576):Y8 Ys 196 #[YV (S ⟨p,0,N⟩),YV (S ⟨O,0,N⟩),T (bs arg)] w (cJ O vT vL w (gu c r arg).1 (gu c r arg).2):=by
 have hz:=aj arg;have HH:=K h;have C:=K hc
 by_cases a1:arg.length < 6
 .have v:H (gu c r arg=(r,gX)):=K (by
   unfold gu;rw [if_pos];unfold km;rw [decide_eq_false (by simp;omega)]
   rfl)
  have d1:(arg.length:Int) < 6:=by omega
  have d2:¬(6:Int)<=(arg.length:Int):=by omega
  clear h hc;go_enter Xe,ntmps196;go_wp2_with fail
  go_ret;rw [v.out];exact cJ.still C.out (QQ _ _) rfl
 have d1:¬(arg.length:Int) < 6:=by omega
 have d2:(6:Int)<=(arg.length:Int):=by omega
 have h6:(bs arg).extract 0 6=bs (arg.take 6):=by rw [bR,SY]
 obtain ⟨U,eU⟩:=QE (Lib.toUpperA (arg.take 6));have Z:H (Y8 Ys 125 #[T ((bs arg).extract 0 6)] w λe w'=>e=YX (T (bs U))/\Y6 w.heap.size w w'):=K (by rw [<-eU,h6];exact kM (bs (arg.take 6)) w (by rw [aj];rw [Sm];unfold maxLen;omega))
 have HP:H (km arg [80,76,65,73,78,32]=(U == [80,76,65,73,78,32])):=K (by
  unfold km;rw [decide_eq_true (show ([80,76,65,73,78,32]:QF).length<=arg.length by simp;omega),Sy, <-eU]
  rfl)
 clear eU h6 h hc
 by_cases hU:U=[80,76,65,73,78,32]
 case neg=>
  have v:H (gu c r arg=(r,gX)):=K (by
   unfold gu;rw [if_pos];rw [HP.out]
   simp [hU])
  have d8:((bs U).toList == [80,76,65,73,78,32])=F:=by rw [beq_eq_false_iff_ne,ByteArray.toList_eq,ao];exact hU
  go_enter Xe,ntmps196;go_wp2_with fail
  refine Z.out.mono ?_;rintro e w1 ⟨rfl,G⟩;have M:=K G;clear G;go_wp2_with fail
  go_ret;rw [v.out];exact cJ.still C.out M.out rfl
 case pos=>
 have d7:((bs U).toList == [80,76,65,73,78,32])=YT:=by rw [beq_iff_eq,ByteArray.toList_eq,ao];exact hU
 have b6:H (km arg [80,76,65,73,78,32]=YT):=K (by rw [HP.out,hU];rfl);have c7:(bs arg).extract 6 arg.length=bs (arg.drop 6):=by rw [bR,QZ]
 have d0:=K c7;clear hU HP c7;go_enter Xe,ntmps196;go_wp2_with fail
 refine Z.out.mono ?_;rintro e w1 ⟨rfl,G⟩;have M:=K G;clear G;go_wp2_with fail
 rw [d0.out];refine (AU (bs (arg.drop 6)) w1 (by rw [aj,Rq];omega)).mono ?_;rintro e w2 ⟨rfl,c5⟩;have A:=K (M.out.trans (c5.mono M.out.size));clear c5;rw [ao]
 have V:(jG (arg.drop 6)).1.length<=2097152:=by
  have:=Lr (arg.drop 6);rw [Rq] at this;omega
 obtain ⟨b,X⟩:=QE ((jG (arg.drop 6)).1);obtain ⟨ok,a5⟩:∃b,(jG (arg.drop 6)).2=b:=⟨_,rfl⟩;rw [X] at V;rw [X,a5]
 have a0:H (gu c r arg=if ok=F then (r,gX) else if (r.xj && !r.begun && !r.known)=F then (r,od) else if nz c b then ({r with known:=YT},NG) else (r,NK)):=K (by
  unfold gu
  rw [if_neg (by rw [b6.out];decide),X,a5])
 clear b6 Z X a5;have P:=C.out.below A.out;have k3:w2.cell? ⟨O,3,N⟩=S (YW r.xj):=P.cell 3;have k4:w2.cell? ⟨O,4,N⟩=S (YW r.known):=P.cell 4;have k5:w2.cell? ⟨O,5,N⟩=S (YW r.begun):=P.cell 5;clear P
 cases ok with
 | false=>
  have v:H (gu c r arg=(r,gX)):=K (by rw [a0.out,if_pos rfl]);go_wp2_with fail
  go_ret;rw [v.out];exact cJ.still C.out A.out rfl
 | true=>
 have a2:H (gu c r arg=if (r.xj && !r.begun && !r.known)=F then (r,od) else if nz c b then ({r with known:=YT},NG) else (r,NK)):=K (by rw [a0.out,if_neg (by decide)]);clear a0;obtain ⟨gr,eg⟩:∃g,r.xj=g:=⟨_,rfl⟩;obtain ⟨be,a3⟩:∃b,r.begun=b:=⟨_,rfl⟩;obtain ⟨kn,a4⟩:∃b,r.known=b:=⟨_,rfl⟩;rw [eg] at k3;rw [a3] at k5;rw [a4] at k4;have EG:=K eg;have EB:=K a3;have EK:=K a4;clear eg a3 a4
 by_cases t:(gr && !be && !kn)=YT
 case neg=>
  have v:H (gu c r arg=(r,od)):=K (by rw [a2.out,if_pos (by rw [EG.out,EB.out,EK.out];simpa using t)])
  cases gr
  case false=>
   go_wp2_with fail
   go_ret;rw [v.out];exact cJ.still C.out A.out rfl
  cases be
  case true=>
   go_wp2_with fail
   go_ret;rw [v.out];exact cJ.still C.out A.out rfl
  cases kn
  case true=>
   go_wp2_with fail
   go_ret;rw [v.out];exact cJ.still C.out A.out rfl
  exact absurd rfl t
 case pos=>
 have b7:H (gu c r arg=if nz c b then ({r with known:=YT},NG) else (r,NK)):=K (by rw [a2.out,if_neg (by rw [EG.out,EB.out,EK.out,t];decide)]);simp only [Rk,Rm] at t;obtain ⟨⟨rfl,rfl⟩,rfl⟩:=t;clear a2;have d6:=aj b;have b1:=K (l9 (bs b) 0 0 (K rfl) w2 (by rw [aj];unfold maxLen;omega));go_wp2_with fail
 refine b1.out.mono ?_;rintro e w3 ⟨x,y,a6,rfl,i,n3,rfl⟩;have a8:H (Y6 w.heap.size w (w2.drewN n3)):=K (A.out.trans (an n3 _ _));obtain ⟨W3,c2⟩:∃W:QI,w2.drewN n3=W:=⟨_,rfl⟩;rw [c2] at a8 ⊢;obtain ⟨j,ep⟩:∃l,x.data.toList=l:=⟨_,rfl⟩;obtain ⟨z,er⟩:∃l,y.data.toList=l:=⟨_,rfl⟩;have ex:x=bs j:=by rw [<-ep];rfl
 have ey:y=bs z:=by rw [<-er];rfl
 rw [ep,er,ao] at i;subst ex ey
 have d9:z.length<=2097152:=by
  have:=BF 0 b;rw [i] at this;simp only at this;omega
 have b3:=K i;have e0:=aj z;have b2:=K (l9 (bs z) 0 0 (K rfl) W3 (by rw [aj];unfold maxLen;omega));clear i ep er c2 b1;go_wp2_with fail
 refine b2.out.mono ?_;rintro e w4 ⟨x,y,a7,rfl,i,n4,rfl⟩;have Y:H (Y6 w.heap.size w (W3.drewN n4)):=K (a8.out.trans (an n4 _ _));obtain ⟨W4,c4⟩:∃W:QI,W3.drewN n4=W:=⟨_,rfl⟩;rw [c4] at Y ⊢;obtain ⟨a,ep⟩:∃l,x.data.toList=l:=⟨_,rfl⟩;obtain ⟨d,er⟩:∃l,y.data.toList=l:=⟨_,rfl⟩;have ex:x=bs a:=by rw [<-ep];rfl
 have ey:y=bs d:=by rw [<-er];rfl
 rw [ep,er,ao] at i;subst ex ey
 have b4:H (nz c b=(a6 && a7 && c.x9.any (mn j a d))):=K (by
  unfold nz;rw [b3.out];simp only
  rw [i])
 clear i ep er c4 b2 b3;have R:=HH.out.below Y.out;have c3:W4.cell? ⟨p,3,N⟩=S vU:=R.cell 3 (by decide);obtain ⟨aU,cU,eU,c1⟩:=R.rows.2.2.1.shape;rw [eU] at c3;have c0:=K c1;have e3:=(gI R.may).x9;clear R c1 eU k3 k4 k5;go_wp2_with fail
 go_loopw [16,17] (λiv _ w'=>∃k:Nat,k<=c.x9.length/\iv=I J (k:Int)/\H ((c.x9.take k).any (mn j a d)=F)/\H (Y6 w.heap.size w w')/\H (Y6 W4.heap.size W4 w')) (λiv _ _=>c.x9.length - (Y9 iv).toNat)
 case atStart=>exact ⟨0,QS _,rfl,K rfl,Y,K (QQ _ _)⟩
 case round=>
  obtain ⟨k,hk,rfl,b5,B,s⟩:=hrel;have d5:wr.cell? ⟨p,3,N⟩=S (L aU c.x9.length cU):=(s.out.cell (by exact au c3)).trans c3
  by_cases t:k < c.x9.length/\a6=YT/\a7=YT
  case neg=>
   have v:H (gu c r arg=(r,NK)):=K (by
    rw [b7.out,b4.out,if_neg];intro e;simp only [Rk] at e
    by_cases n:k < c.x9.length
    .exact t ⟨n,e.1.1,e.1.2⟩
    have:=b5.out;rw [show k=c.x9.length by omega,QZ] at this
    rw [this] at e
    cases e.2)
   by_cases n:k < c.x9.length
   .have c8:(k:Int) < (c.x9.length:Int):=by omega
    cases a6
    case false=>
     go_wp2_with fail
     go_ret;rw [v.out];exact cJ.still C.out B.out rfl
    cases a7
    case false=>
     go_wp2_with fail
     go_ret;rw [v.out];exact cJ.still C.out B.out rfl
    exact absurd ⟨n,rfl,rfl⟩ t
   have d3:¬(k:Int) < (c.x9.length:Int):=by omega
   go_wp2_with fail
   go_ret;rw [v.out];exact cJ.still C.out B.out rfl
  case pos=>
  obtain ⟨n,rfl,rfl⟩:=t;have c8:(k:Int) < (c.x9.length:Int):=by omega
  obtain ⟨ub,c9,rfl,c6,m⟩:=c0.out k 0 n (by omega);obtain ⟨ub',d4,X,_,f⟩:=c0.out k 1 n (by omega);injection X with X;injection X with e1 e2 _;subst e1 e2;rw [Nat.add_zero,jt c.x9 k n] at m;rw [j7 c.x9 k n] at f;have HT:H ((c.x9.take (k+1)).any (mn j a d)=mn j a d c.x9[k]):=K (by rw [QV n,List.any_append,b5.out];simp)
  have HA:H (mn j a d c.x9[k]=YT->gu c r arg=({r with known:=YT},NG)):=K (λe=>by
   rw [b7.out,b4.out,if_pos];rw [Rk]
   exact ⟨rfl,List.any_eq_true.2 ⟨_,QU n,e⟩⟩)
  obtain ⟨u,eu⟩:=QE (c.x9[k]);rw [eu] at m f HT HA;obtain ⟨t0,t1⟩:=u;simp only at m f;have n0:wr.cell? ⟨ub,c9+k * 2,N⟩=S (T t0):=(s.out.cell (by exact c6)).trans m;have n1:wr.cell? ⟨ub,c9+k * 2+1,N⟩=S (T t1):=(s.out.cell (by exact c6)).trans f;clear eu m f;have Q:∀o:Obj,bB (wr.alloc o) O vT vL r:=λo=>(C.out.below B.out).below ((QQ _ wr).alloc (QR _) o);have k9:∀o:Obj,(wr.alloc o).cell? ⟨O,4,N⟩=S (YW r.known):=λo=>(Q o).cell 4;have f9:∀o:Obj,(wr.alloc o).frozen? ⟨O,4,N⟩=F:=λo=>(Q o).frozen 4;have b0:=K (Q (YU #[T t0,T t1] 68));have a9:=K (B.out.alloc B.out.size (YU #[T t0,T t1] 68));obtain ⟨q0,h0⟩:∃q,(t0.toList == (bs a).toList)=q:=⟨_,rfl⟩;obtain ⟨q1,h1⟩:∃q,(t1.toList == (bs d).toList)=q:=⟨_,rfl⟩;obtain ⟨q2,h2⟩:∃q,(bs j).toList.isEmpty=q:=⟨_,rfl⟩;obtain ⟨q3,h3⟩:∃q,((bs j).toList == (bs a).toList)=q:=⟨_,rfl⟩
  have E:H (mn j a d (t0,t1)=(q0 && q1 && (q2 || q3))):=K (by
   unfold mn;simp only [ByteArray.toList_eq,ao] at h0 h1 h2 h3
   rw [h0,h1,h2,h3])
  clear Q
  cases q0
  case false=>
   have D:H ((c.x9.take (k+1)).any (mn j a d)=F):=K (by rw [HT.out,E.out];rfl);go_wp2_with fail
   exact ⟨⟨k+1,by omega,by go_num,D,K (B.out.alloc B.out.size _),K (s.out.alloc s.out.size _)⟩,by simp [Y9];omega⟩
  cases q1
  case false=>
   have D:H ((c.x9.take (k+1)).any (mn j a d)=F):=K (by rw [HT.out,E.out];rfl);go_wp2_with fail
   exact ⟨⟨k+1,by omega,by go_num,D,K (B.out.alloc B.out.size _),K (s.out.alloc s.out.size _)⟩,by simp [Y9];omega⟩
  cases q2
  case true=>
   have v:=K (HA.out (by rw [E.out];rfl));go_wp2_with fail
   go_ret;rw [v.out];exact cJ.known a9.out b0.out rfl
  cases q3
  case true=>
   have v:=K (HA.out (by rw [E.out];rfl));go_wp2_with fail
   go_ret;rw [v.out];exact cJ.known a9.out b0.out rfl
  have D:H ((c.x9.take (k+1)).any (mn j a d)=F):=K (by rw [HT.out,E.out];rfl);go_wp2_with fail
  exact ⟨⟨k+1,by omega,by go_num,D,K (B.out.alloc B.out.size _),K (s.out.alloc s.out.size _)⟩,by simp [Y9];omega⟩
def NL:QF:=[53,53,50,32,115,105,122,101]
def rz(f fine:Bool)(path rest:QF):Bool:=f && (path.isEmpty || fine) && (rest.isEmpty || (jd rest).isSome)
def hZ(c:bF)(r:bf)(arg:QF):bf×QF:=
 if km arg [70,82,79,77,58,60]=F then (r,gX) else
 if rz (aJ 62 (arg.drop 6)).2.2 (bL (aJ 62 (arg.drop 6)).1).2 (aJ 62 (arg.drop 6)).1 (aJ 62 (arg.drop 6)).2.1=F then (r,gX) else
 if (r.xj && !r.begun)=F then (r,od) else
 if c.size < (((jd (aJ 62 (arg.drop 6)).2.1).getD 0:Nat):Int) then (r,NL) else
 ({r with begun:=YT,xk:=(if (aJ 62 (arg.drop 6)).1.isEmpty then [] else (bL (aJ 62 (arg.drop 6)).1).1),xd:=[]},oW)
theorem BG(c:UInt8):∀l:QF,(aJ c l).2.1.length<=l.length
 | []=>QR _
 | b::r=>by
  unfold aJ
  split
  .exact Vm _
  exact Nat.le_succ_of_le (BG c r)
theorem bB.bare{w d:QI}{a:Nat}{o c:QJ}{r b:bf}(h:bB w a o c r)(j:aA a w d)(l:d.heap[a]? =S (YU (bC b (L N 0 0) c) 139 (0,0)))(m:b.lines=r.lines)(n:b.xd=[]):bB d a (L N 0 0) c b:=by
 refine ⟨l,by rw [n];exact World.ownsRow_nil _ _ _ _,?_,Y4 rfl⟩
 rw [m];refine bG h.lines (aC.same j) (λk e i=>?_);obtain ⟨g,f⟩:=br h.lines e;rw [i,h.xp] at f;simp at f
theorem cJ.bare{w d j:QI}{a:Nat}{i f:QJ}{r c:bf}{b:QF}{e:Zb}(m:Y6 w.heap.size w d)(h:bB d a i f r)(l:aA a d j)(o:j.heap[a]? =S (YU (bC c (L N 0 0) f) 139 (0,0)))(p:c.lines=r.lines)(q:c.xd=[])(n:e=YX (T (bs b))):cJ a i f w c b e j:=
 ⟨n,_,h.bare l o p q,(by intro g e;cases e),(aC.below m:aC (λk=>k=a\/i.ownBlock=S k) w d).trans (aC.same l) (λ_ _ e=>Y4 e)⟩
theorem ko{W:QI}{b j:Nat}{A A':Array QJ}{t:Za}{v:QJ}(h:W.heap[b]? =S (YU A t (0,0)))(e:A.setIfInBounds j v=A'):(W.setCell ⟨b,j,N⟩ v).heap[b]? =S (YU A' t (0,0)):=by
 rw [<-e];exact Ro W b j _ _ v h
theorem JT{w d:QI}{a:Nat}{c b:QJ}{r:bf}{e:Zb}(f:Y6 w.heap.size w d)(h:bB d a c b r)(g:e=YX (T (bs oW))):cJ a c b w {r with begun:=YT,xk:=[],xd:=[]} oW e (((d.setCell ⟨a,5,N⟩ (YW YT)).setCell ⟨a,6,N⟩ (T ⟨#[]⟩)).setCell ⟨a,7,N⟩ (L N 0 0)):=by
 have i:=ko (j:=5) (v:=YW YT) h.xp (A':=bC {r with begun:=YT} c b) rfl;have k:=ko (j:=6) (v:=T ⟨#[]⟩) i (A':=bC {r with begun:=YT,xk:=[]} c b) rfl;have l:=ko (j:=7) (v:=L N 0 0) k (A':=bC {r with begun:=YT,xk:=[],xd:=[]} (L N 0 0) b) rfl;exact cJ.bare f h ((((aA.refl a d).setCell _).setCell _).setCell _) l rfl rfl g
theorem JU{w f:QI}{a:Nat}{d b:QJ}{r:bf}{e:Zb}(c:QF)(g:Y6 w.heap.size w f)(h:bB f a d b r)(i:e=YX (T (bs oW))):cJ a d b w {r with begun:=YT,xk:=c,xd:=[]} oW e ((((f.setCell ⟨a,5,N⟩ (YW YT)).setCell ⟨a,6,N⟩ (T ⟨#[]⟩)).setCell ⟨a,6,N⟩ (T (bs c))).setCell ⟨a,7,N⟩ (L N 0 0)):=by
 have k:=ko (j:=5) (v:=YW YT) h.xp (A':=bC {r with begun:=YT} d b) rfl;have l:=ko (j:=6) (v:=T ⟨#[]⟩) k (A':=bC {r with begun:=YT,xk:=[]} d b) rfl;have n:=ko (j:=6) (v:=T (bs c)) l (A':=bC {r with begun:=YT,xk:=c} d b) rfl;have m:=ko (j:=7) (v:=L N 0 0) n (A':=bC {r with begun:=YT,xk:=c,xd:=[]} (L N 0 0) b) rfl;exact cJ.bare g h (((((aA.refl a f).setCell _).setCell _).setCell _).setCell _) m rfl rfl i
theorem Ge(p z:Nat)(c:bF)(vD vN vU vW vT vL:QJ)(r:bf)(arg:QF)(w:QI)(h:je w p c vD vN vU vW)(hc:bB w z vT vL r)(hl:arg.length<=140737488351232):Y8 Ys 197 #[YV (S ⟨p,0,N⟩),YV (S ⟨z,0,N⟩),T (bs arg)] w (cJ z vT vL w (hZ c r arg).1 (hZ c r arg).2):=by
 have hz:=aj arg;have HH:=K h;have D:=K hc
 by_cases a1:arg.length < 6
 .have q:H (hZ c r arg=(r,gX)):=K (by
   unfold hZ;rw [if_pos];unfold km;rw [decide_eq_false (by simp;omega)]
   rfl)
  have b3:(arg.length:Int) < 6:=by omega
  clear h hc;go_enter Xg,ntmps197;go_wp2_with fail
  go_ret;rw [q.out];exact cJ.still D.out (QQ _ _) rfl
 have b3:¬(arg.length:Int) < 6:=by omega
 have h6:(bs arg).extract 0 6=bs (arg.take 6):=by rw [bR,SY]
 obtain ⟨U,eU⟩:=QE (Lib.toUpperA (arg.take 6));have E:H (Y8 Ys 125 #[T ((bs arg).extract 0 6)] w λe w'=>e=YX (T (bs U))/\Y6 w.heap.size w w'):=K (by rw [<-eU,h6];exact kM (bs (arg.take 6)) w (by rw [aj];rw [Sm];unfold maxLen;omega))
 have HP:H (km arg [70,82,79,77,58,60]=(U == [70,82,79,77,58,60])):=K (by
  unfold km;rw [decide_eq_true (show ([70,82,79,77,58,60]:QF).length<=arg.length by simp;omega),Sy, <-eU]
  rfl)
 clear eU h6 h hc
 by_cases hU:U=[70,82,79,77,58,60]
 case neg=>
  have q:H (hZ c r arg=(r,gX)):=K (by
   unfold hZ;rw [if_pos];rw [HP.out]
   simp [hU])
  have b7:((bs U).toList == [70,82,79,77,58,60])=F:=by rw [beq_eq_false_iff_ne,ByteArray.toList_eq,ao];exact hU
  go_enter Xg,ntmps197;go_wp2_with fail
  refine E.out.mono ?_;rintro e w1 ⟨rfl,u⟩;have B:=K u;clear u;go_wp2_with fail
  go_ret;rw [q.out];exact cJ.still D.out B.out rfl
 case pos=>
 have b6:((bs U).toList == [70,82,79,77,58,60])=YT:=by rw [beq_iff_eq,ByteArray.toList_eq,ao];exact hU
 have a4:H (km arg [70,82,79,77,58,60]=YT):=K (by rw [HP.out,hU];rfl);have b0:(bs arg).extract 6 arg.length=bs (arg.drop 6):=by rw [bR,QZ]
 have b2:=K b0;clear hU HP b0;go_enter Xg,ntmps197;go_wp2_with fail
 refine E.out.mono ?_;rintro e w1 ⟨rfl,u⟩;have B:=K u;clear u;go_wp2_with fail
 rw [b2.out];refine (l9 (bs (arg.drop 6)) 62 62 (K rfl) w1 (by rw [aj,Rq];unfold maxLen;omega)).mono ?_;rintro e w2 ⟨x,y,f,rfl,i,n2,rfl⟩;have C:H (Y6 w.heap.size w (w1.drewN n2)):=K (B.out.trans (an n2 _ _));obtain ⟨W2,a7⟩:∃W:QI,w1.drewN n2=W:=⟨_,rfl⟩;rw [a7] at C ⊢;clear a7
 have b1:x.data.toList.length<=arg.length:=by
  have:=wb 62 (arg.drop 6);rw [ao] at i;rw [i] at this;have h2:(arg.drop 6).length<=arg.length:=by rw [Rq];omega
  simp only at this;omega
 obtain ⟨a,ep⟩:∃l,x.data.toList=l:=⟨_,rfl⟩;obtain ⟨d,er⟩:∃l,y.data.toList=l:=⟨_,rfl⟩;have ex:x=bs a:=by rw [<-ep];rfl
 have ey:y=bs d:=by rw [<-er];rfl
 rw [ep,er] at i;subst ex ey;rw [ao] at i;have G:=K i;have a3:=K (kO a W2 (by rw [ao] at b1;unfold maxLen;omega));clear i ep er;go_wp2_with fail
 refine a3.out.mono ?_;rintro e w3 ⟨rfl,a8⟩;have Z:=K (C.out.trans (a8.mono C.out.size))
 have b5:d.length<=arg.length:=by
  have:=BG 62 (arg.drop 6);rw [G.out] at this;have h2:(arg.drop 6).length<=arg.length:=by rw [Rq];omega
  simp only at this;omega
 have M:=K (Gh d w3 (by omega));clear a8;obtain ⟨tu,Q⟩:∃t,(bL a).1=t:=⟨_,rfl⟩;obtain ⟨A,O⟩:∃t,(bL a).2=t:=⟨_,rfl⟩;rw [Q,O];have a5:=K Q;have a2:=K O;clear Q O;obtain ⟨so,P⟩:∃o,jd d=o:=⟨_,rfl⟩;rw [P] at M
 have s:H (hZ c r arg=if (f && (a.isEmpty || A) && (d.isEmpty || so.isSome))=F then (r,gX) else
   if (r.xj && !r.begun)=F then (r,od) else
   if c.size < ((so.getD 0:Nat):Int) then (r,NL) else
   ({r with begun:=YT,xk:=(if a.isEmpty then [] else tu),xd:=[]},oW)):=K (by
  unfold hZ rz;rw [if_neg (by rw [a4.out];decide)]
  simp only [G.out,a2.out,a5.out,P])
 clear a4 G a2 a5 E a3 P;obtain ⟨pe,R⟩:∃b,a.isEmpty=b:=⟨_,rfl⟩;obtain ⟨re,V⟩:∃b,d.isEmpty=b:=⟨_,rfl⟩;rw [R,V] at s;have b4:(bs a).toList.isEmpty=pe:=by rw [ByteArray.toList_eq,ao];exact R
 have c0:(bs d).toList.isEmpty=re:=by rw [ByteArray.toList_eq,ao];exact V
 clear R V;obtain ⟨gr,eg⟩:∃g,r.xj=g:=⟨_,rfl⟩;obtain ⟨be,eb⟩:∃b,r.begun=b:=⟨_,rfl⟩;have EG:=K eg;have EB:=K eb;have HS:=K (Decidable.em (c.size < ((so.getD 0:Nat):Int)));clear eg eb
 rcases so with _ | n
 all_goals
  simp only [NN] at M;simp only [Option.getD_none,Option.getD_some,Option.isSome_none,Ua] at HS s;go_wp2_with fail
  refine M.out.mono ?_;rintro e Y ⟨rfl,a9⟩;have k:=K (Z.out.trans (a9.mono Z.out.size));clear a9
  cases f
  case' true=>cases pe <;> cases A <;> cases re
 all_goals try
  have q:H (hZ c r arg=(r,gX)):=K (by rw [s.out,if_pos (by simp)]);go_wp2_with fail
  go_ret;rw [q.out];exact cJ.still D.out k.out rfl
 all_goals
  have v:=K (s.out.trans (if_neg (by simp)));clear s;have m:=D.out.below k.out;have a6:=HH.out.below k.out;have k3:Y.cell? ⟨z,3,N⟩=S (YW r.xj):=m.cell 3;have k5:Y.cell? ⟨z,5,N⟩=S (YW r.begun):=m.cell 5;have k6:Y.cell? ⟨z,6,N⟩=S (T (bs r.xk)):=m.cell 6;have k7:Y.cell? ⟨z,7,N⟩=S vT:=m.cell 7;have m5:Y.cell? ⟨p,5,N⟩=S (I J c.size):=a6.cell 5 (by decide);have kf:∀j:Nat,Y.frozen? ⟨z,j,N⟩=F:=λj=>m.frozen j;have a0:=K m;rw [EG.out] at k3;rw [EB.out] at k5;clear m a6
  cases gr
  case false=>
   have q:H (hZ c r arg=(r,od)):=K (by rw [v.out,if_pos (by rw [EG.out];rfl)]);go_wp2_with fail
   go_ret;rw [q.out];exact cJ.still D.out k.out rfl
  cases be
  case true=>
   have q:H (hZ c r arg=(r,od)):=K (by rw [v.out,if_pos (by rw [EB.out];simp)]);go_wp2_with fail
   go_ret;rw [q.out];exact cJ.still D.out k.out rfl
  rcases HS.out with X | X
  .have q:H (hZ c r arg=(r,NL)):=K (by rw [v.out,if_neg (by rw [EG.out,EB.out];decide),if_pos X]);go_wp2_with fail
   go_ret;rw [q.out];exact cJ.still D.out k.out rfl
  have q:=K (v.out.trans ((if_neg (by rw [EG.out,EB.out];decide)).trans (if_neg (Int.not_lt.2 X))));go_wp2_with fail
  go_ret;rw [q.out]
  first
   | (have _:(bs a).toList.isEmpty=YT:=b4;exact JT k.out a0.out rfl)
   | exact JU tu k.out a0.out rfl
structure ix where
 cb:Nat
 vT:QJ
 vL:QJ
 r:bf
def vX(x:ix):QJ:=YV (S ⟨x.cb,0,N⟩)
structure CB(w:QI)(p:Nat)(A:Array QJ)(vC:QJ)(l:List ix):Prop where
 xp:w.heap[p]? =S (YU A 133 (0,0))
 zd:A[11]? =S vC
 row:w.ownsRow 0 137 1 vC l.length (l.map vX)
 ok:∀(n:Nat) (x:ix),l[n]? =S x->bB w x.cb x.vT x.vL x.r
def jX(l:List ix)(n:Int):Option ix:=if 0<=n then (match l[n.toNat]? with | some x=>if x.r.closed then N else S x | none=>N) else N
def Qj(o:Option ix):QJ:=match o with | some x=>YY #[vX x,I J 0] | none=>YY #[YV N,I J 4]
theorem mf(w:QI)(p:Nat)(A:Array QJ)(s:QJ)(l:List ix)(n:Int)(h:CB w p A s l)(_:l.length<=100):Y8 Ys 71 #[YV (S ⟨p,0,N⟩),I J n] w λe E=>e=YX (Qj (jX l n))/\w=E:=by
 have j:w.cell? ⟨p,11,N⟩=S s:=by rw [Q3 h.xp];exact h.zd
 obtain ⟨a,t,i,c⟩:=(bq h.row).one;rw [i] at j
 by_cases y:n < 0
 .have d:H (jX l n=N):=K (by unfold jX;rw [if_neg (by omega)]);clear h c i;go_enter func71,ntmps71;go_wp2_with fail
  go_ret2
  rw [d.out];exact ⟨rfl,rfl⟩
 have z:¬n < 0:=y
 by_cases G:(l.length:Int)<=n
 .have d:H (jX l n=N):=K (by unfold jX;rw [if_pos (by omega),Sg (by omega)]);clear h c i;go_enter func71,ntmps71;go_wp2_with fail
  go_ret2
  rw [d.out];exact ⟨rfl,rfl⟩
 obtain ⟨k,C⟩:∃k:Nat,n=(k:Int):=⟨n.toNat,by omega⟩
 subst C;have m:k < l.length:=by omega
 obtain ⟨x,o⟩:∃x,l[k]? =S x:=⟨_,Re m⟩;obtain ⟨b,q,rfl,B,g⟩:=c k (by omega)
 have r:w.cell? ⟨b,q+k,N⟩=S (YV (S ⟨x.cb,0,N⟩)):=by
  rw [g,TV,o];rfl
 have v:w.cell? ⟨x.cb,2,N⟩=S (YW x.r.closed):=(h.ok k x o).cell 2
 have d:H (jX l (k:Int)=if x.r.closed then N else S x):=K (by
  unfold jX
  rw [if_pos (by omega),Int.toNat_natCast,o])
 have D:(k:Int) < (l.length:Int):=by omega
 obtain ⟨u,f⟩:∃b,x.r.closed=b:=⟨_,rfl⟩;rw [f] at v d;clear h c i g f
 cases u
 case true=>
  go_enter func71,ntmps71;go_wp2_with fail
  go_ret2
  rw [d.out];exact ⟨rfl,rfl⟩
 go_enter func71,ntmps71;go_wp2_with fail
 go_ret2
 rw [d.out];exact ⟨rfl,rfl⟩
theorem ua(w:QI)(n:Int):Y8 Ys 71 #[YV N,I J n] w λe a=>e=YX (YY #[YV N,I J 1])/\w=a:=by
 go_enter func71,ntmps71;go_wp2_with fail
 go_ret2
 exact ⟨rfl,rfl⟩
def fH(c:bF)(vD vN vU vW:QJ)(all:QF)(T:Nat)(vC vDu vFa vH:QJ):Array QJ:=#[.string c.host,vD,vN,vU,I J c.most,I J c.size,vW,I J c.xm,I J c.room,.string (bs all),I J (T:Int),vC,vDu,vFa,vH]
def ix.own(x:ix)(k:Nat):Prop:=k=x.cb\/x.vT.ownBlock=S k\/x.vL.ownBlock=S k
def fo(p:Nat)(vC vDu vFa:QJ)(l:List ix)(k:Nat):Prop:=k=p\/vC.ownBlock=S k\/vDu.ownBlock=S k\/vFa.ownBlock=S k\/∃(n:Nat) (x:ix),l[n]? =S x/\x.own k
structure dP(E:Nat->Prop)(w:QI)(p:Nat)(c:bF)(all:QF)(T:Nat)(vC vDu vFa vH:QJ)(l:List ix)(due xh:List Nat):Prop where
 set:∃vD vN vU vW,w.heap[p]? =S (YU (fH c vD vN vU vW all T vC vDu vFa vH) 133 (0,0))/\dD w c vD vN vU vW/\∀k,(vD.ownBlock=S k\/vN.ownBlock=S k\/vU.ownBlock=S k\/vW.ownBlock=S k)->E k
 may:dk c=YT
 row:w.ownsRow 0 137 1 vC l.length (l.map vX)
 ok:∀(n:Nat) (x:ix),l[n]? =S x->bB w x.cb x.vT x.vL x.r
 yyV:w.ownsRow 0 3 1 vDu due.length (bc due)
 xH:w.ownsRow 0 3 1 vFa xh.length (bc xh)
 zc:vDu.ownBlock=N\/vDu.ownBlock≠vFa.ownBlock
 apart:∀(n m:Nat) (x y:ix),n≠m->l[n]? =S x->l[m]? =S y->∀k,x.own k->¬y.own k
 lt:∀k,E k->k < w.heap.size
 eo:∀k,E k->¬fo p vC vDu vFa l k
section
variable {E B:Nat->Prop} {w w':QI} {p:Nat} {c:bF} {all all':QF} {T:Nat} {vC vDu vFa vH vDu' vFa' vT' vL':QJ} {l:List ix} {due xh due' fails':List Nat} {x:ix} {r':bf}
theorem dP.post(h:dP E w p c all T vC vDu vFa vH l due xh):∃A,w.heap[p]? =S (YU A 133 (0,0))/\A[11]? =S vC/\A[9]? =S (.string (bs all))/\A[10]? =S (I J (T:Int)):=by
 obtain ⟨b,d,e,f,a,_⟩:=h.set;exact ⟨_,a,rfl,rfl,rfl⟩
theorem dP.setAt(h:dP E w p c all T vC vDu vFa vH l due xh):∃a b d e,je w p c a b d e:=by
 obtain ⟨a,b,d,e,f,g,_⟩:=h.set;exact ⟨a,b,d,e,⟨_,f,rfl,rfl⟩,g,h.may⟩
theorem dP.ye(h:dP E w p c all T vC vDu vFa vH l due xh):∃A,CB w p A vC l:=by
 obtain ⟨A,a,b,_⟩:=h.post;exact ⟨A,a,b,h.row,h.ok⟩
theorem ix.lt(h:bB w x.cb x.vT x.vL x.r){k:Nat}(a:x.own k):k < w.heap.size:=by
 rcases a with e | e | e
 .rw [e];exact aq h.xp
 .exact (iL h.xd e).2
 exact (iL h.lines e).2
theorem dP.yW(h:dP E w p c all T vC vDu vFa vH l due xh){k:Nat}(d:fo p vC vDu vFa l k):k < w.heap.size:=by
 rcases d with e | e | e | e | ⟨n,x,a,b⟩
 .obtain ⟨A,a,_⟩:=h.post;rw [e];exact aq a
 .exact (iL h.row e).2
 .exact (iL h.yyV e).2
 .exact (iL h.xH e).2
 exact ix.lt (h.ok n x a) b
theorem dP.far(h:dP E w p c all T vC vDu vFa vH l due xh){n:Nat}(q:l[n]? =S x){k:Nat}(m:x.own k):k≠p/\vC.ownBlock≠S k/\vDu.ownBlock≠S k/\vFa.ownBlock≠S k:=by
 obtain ⟨A,j,_⟩:=h.post;have o:=h.ok n x q
 have i:∃b t,w.heap[k]? =S (YU b t (0,0))/\(t=139\/t=9):=by
  rcases m with e | e | e
  .rw [e];exact ⟨_,_,o.xp,Y4 rfl⟩
  .obtain ⟨b,f⟩:=br o.xd e;exact ⟨_,_,f,Y5 rfl⟩
  obtain ⟨b,f⟩:=br o.lines e;exact ⟨_,_,f,Y5 rfl⟩
 obtain ⟨b,t,f,a⟩:=i;refine ⟨λe=>?_,λe=>?_,λe=>?_,λe=>?_⟩
 .exact dN f j (by rcases a with a | a <;> rw [a] <;> decide) e
 .obtain ⟨d,g⟩:=br h.row e;exact dN f g (by rcases a with a | a <;> rw [a] <;> decide) rfl
 .obtain ⟨d,g⟩:=br h.yyV e;exact dN f g (by rcases a with a | a <;> rw [a] <;> decide) rfl
 obtain ⟨d,g⟩:=br h.xH e;exact dN f g (by rcases a with a | a <;> rw [a] <;> decide) rfl
theorem dP.yp(h:dP E w p c all T vC vDu vFa vH l due xh){k:Nat}(i:vC.ownBlock=S k):k≠p/\vDu.ownBlock≠S k/\vFa.ownBlock≠S k:=by
 obtain ⟨A,g,_⟩:=h.post;obtain ⟨f,b⟩:=br h.row i;refine ⟨λe=>?_,λe=>?_,λe=>?_⟩
 .exact dN b g (by decide) e
 .obtain ⟨a,d⟩:=br h.yyV e;exact dN b d (by decide) rfl
 obtain ⟨a,d⟩:=br h.xH e;exact dN b d (by decide) rfl
theorem uT{d f i j:QJ}(h:dD w c d f i j)(b:aC B w w')(a:∀k,(d.ownBlock=S k\/f.ownBlock=S k\/i.ownBlock=S k\/j.ownBlock=S k)->¬B k):dD w' c d f i j:=
 ⟨h.1.xt b (λg e=>a g (Y4 e)),h.2.1.xt b (λg e=>a g (Y5 (Y4 e))),h.2.2.1.xt b (λg e=>a g (Y5 (Y5 (Y4 e)))),h.2.2.2.xt b (λg e=>a g (Y5 (Y5 (Y5 e))))⟩
theorem dP.xt(h:dP E w p c all T vC vDu vFa vH l due xh)(b:aC B w w')(m:∀k,E k->¬B k)(a:∀k,fo p vC vDu vFa l k->¬B k):dP E w' p c all T vC vDu vFa vH l due xh:=by
 obtain ⟨o,q,r,s,i,j,f⟩:=h.set;exact ⟨⟨o,q,r,s,b.some_ i (a p (Y4 rfl)),uT j b (λk e=>m k (f k e)),f⟩,h.may,bG h.row b (λk e=>a k (Y5 (Y4 e))),λn x d=>(h.ok n x d).xt b (a _ (Y5 (Y5 (Y5 (Y5 ⟨n,x,d,Y4 rfl⟩))))) (λg e=>a g (Y5 (Y5 (Y5 (Y5 ⟨n,x,d,Y5 (Y4 e)⟩))))) (λg e=>a g (Y5 (Y5 (Y5 (Y5 ⟨n,x,d,Y5 (Y5 e)⟩))))),bG h.yyV b (λk e=>a k (Y5 (Y5 (Y4 e)))),bG h.xH b (λk e=>a k (Y5 (Y5 (Y5 (Y4 e))))),h.zc,h.apart,λk e=>SA (h.lt k e) b.size,h.eo⟩
theorem dP.below(h:dP E w p c all T vC vDu vFa vH l due xh)(a:Y6 w.heap.size w w'):dP E w' p c all T vC vDu vFa vH l due xh:=h.xt (aC.below a:aC (λ_=>False) w w') (λ_ _ e=>e) (λ_ _ e=>e)
theorem lp{l:List ix}{n m:Nat}{v y:ix}(h:(l.set n v)[m]? =S y):(m=n/\v=y)\/(m≠n/\l[m]? =S y):=by
 by_cases e:n=m
 .subst e
  by_cases a:n < l.length
  .rw [RZ a] at h;exact Y4 ⟨rfl,by injection h⟩
  rw [Sg (by simp;omega)] at h
  cases h
 rw [R6 e] at h;exact Y5 ⟨Ne.symm e,h⟩
theorem MX{l:List ix}{n:Nat}(a:l[n]? =S x)(r':bf)(vT' vL':QJ):(l.set n ⟨x.cb,vT',vL',r'⟩).map vX=l.map vX:=by
 rw [List.map_set];apply List.ext_getElem?;intro i
 by_cases e:n=i
 .subst e;obtain ⟨b,d⟩:=List.getElem?_eq_some_iff.1 a;rw [RZ (by simpa using b),TV,a];rfl
 rw [R6 e]
theorem dP.turn(h:dP E w p c all T vC vDu vFa vH l due xh){n:Nat}(b:l[n]? =S x)(R:bB w' x.cb vT' vL' r')(O:∀g,vT'.ownBlock=S g\/vL'.ownBlock=S g->x.vT.ownBlock=S g\/x.vL.ownBlock=S g\/w.heap.size<=g)(d:aC x.own w w'):dP E w' p c all T vC vDu vFa vH (l.set n ⟨x.cb,vT',vL',r'⟩) due xh/\(∀k,fo p vC vDu vFa (l.set n ⟨x.cb,vT',vL',r'⟩) k->fo p vC vDu vFa l k\/w.heap.size<=k)/\aC (fo p vC vDu vFa l) w w':=by
 obtain ⟨W,X,Y,Z,P,Q,G⟩:=h.set;have j:∀k,x.own k->fo p vC vDu vFa l k:=λk e=>Y5 (Y5 (Y5 (Y5 ⟨n,x,b,e⟩)));have U:∀k,E k->¬x.own k:=λk e y=>h.eo k e (j k y)
 have a:∀k,(ix.mk x.cb vT' vL' r').own k->x.own k\/w.heap.size<=k:=λk e=>by
  rcases e with e | e | e
  .exact Y4 (Y4 e)
  .exact (O k (Y4 e)).elim (λe=>Y4 (Y5 (Y4 e))) (λe=>e.elim (λe=>Y4 (Y5 (Y5 e))) Y5)
  exact (O k (Y5 e)).elim (λe=>Y4 (Y5 (Y4 e))) (λe=>e.elim (λe=>Y4 (Y5 (Y5 e))) Y5)
 have D:∀k,fo p vC vDu vFa (l.set n ⟨x.cb,vT',vL',r'⟩) k->fo p vC vDu vFa l k\/w.heap.size<=k:=λk e=>by
  rcases e with e | e | e | e | ⟨m,y,u,M⟩
  .exact Y4 (Y4 e)
  .exact Y4 (Y5 (Y4 e))
  .exact Y4 (Y5 (Y5 (Y4 e)))
  .exact Y4 (Y5 (Y5 (Y5 (Y4 e))))
  rcases lp u with ⟨_,rfl⟩ | ⟨_,u⟩
  .exact (a k M).imp (j k) id
  exact Y4 (Y5 (Y5 (Y5 (Y5 ⟨m,y,u,M⟩))))
 refine ⟨⟨⟨W,X,Y,Z,d.some_ P (λe=>(h.far b e).1 rfl),uT Q d (λk e=>U k (G k e)),G⟩,h.may,?_,λm y r=>?_,bG h.yyV d (λk e y=>(h.far b y).2.2.1 e),bG h.xH d (λk e y=>(h.far b y).2.2.2 e),h.zc,λv z A C q g1 g2 k f i=>?_,λk e=>SA (h.lt k e) d.size,λk e y=>?_⟩,D,d.mono (λk _ e=>j k e)⟩
 .rw [List.length_set,MX b];exact bG h.row d (λk e y=>(h.far b y).2.1 e)
 .rcases lp r with ⟨_,rfl⟩ | ⟨V,r⟩
  .exact R
  have t:=h.apart m n y x V r b;exact (h.ok m y r).xt d (t _ (Y4 rfl)) (λg e=>t g (Y5 (Y4 e))) (λg e=>t g (Y5 (Y5 e)))
 .rcases lp g1 with ⟨s,rfl⟩ | ⟨s,g1⟩
  .rcases lp g2 with ⟨o,_⟩ | ⟨o,g2⟩
   .exact q (s.trans o.symm)
   rcases a k f with f | f
   .exact h.apart n z x C (Ne.symm o) b g2 k f i
   have:=ix.lt (h.ok z C g2) i;omega
  rcases lp g2 with ⟨o,rfl⟩ | ⟨o,g2⟩
  .rcases a k i with i | i
   .exact h.apart v n A x s g1 b k f i
   have:=ix.lt (h.ok v A g1) f;omega
  exact h.apart v z A C q g1 g2 k f i
 rcases D k y with y | y
 .exact h.eo k e y
 have:=h.lt k e;omega
theorem dP.wrote(h:dP E w p c all T vC vDu vFa vH l due xh)(r:aC (λk=>k=p\/vDu.ownBlock=S k\/vFa.ownBlock=S k) w w'){A:Array QJ}(Y:w'.heap[p]? =S (YU A 133 (0,0)))(hz:A.size=15)(d:∀i,i≠9->i≠12->i≠13->∀j m o q,w.heap[p]? =S (YU (fH c j m o q all T vC vDu vFa vH) 133 (0,0))->A[i]? =(fH c j m o q all T vC vDu vFa vH)[i]?)
  (X:A[9]? =S (.string (bs all'))) (C:A[12]? =S vDu') (D:A[13]? =S vFa') (hd:w'.ownsRow 0 3 1 vDu' due'.length (bc due')) (hf:w'.ownsRow 0 3 1 vFa' fails'.length (bc fails')) (ha:vDu'.ownBlock=N\/vDu'.ownBlock≠vFa'.ownBlock) (hv:∀g,vDu'.ownBlock=S g\/vFa'.ownBlock=S g->vDu.ownBlock=S g\/vFa.ownBlock=S g\/w.heap.size<=g):
  dP E w' p c all' T vC vDu' vFa' vH l due' fails'/\(∀k,fo p vC vDu' vFa' l k->fo p vC vDu vFa l k\/w.heap.size<=k)/\aC (fo p vC vDu vFa l) w w':=by
 obtain ⟨j,m,o,q,V,W,O⟩:=h.set;have b:∀k,(k=p\/vDu.ownBlock=S k\/vFa.ownBlock=S k)->fo p vC vDu vFa l k:=λk e=>e.imp id (λe=>Y5 (e.imp id Y4))
 have M:∀k,fo p vC vDu' vFa' l k->fo p vC vDu vFa l k\/w.heap.size<=k:=λk e=>by
  have Q:∀g,vDu'.ownBlock=S g\/vFa'.ownBlock=S g->fo p vC vDu vFa l g\/w.heap.size<=g:=λg e=>(hv g e).elim (λe=>Y4 (b g (Y5 (Y4 e)))) (λe=>e.elim (λe=>Y4 (b g (Y5 (Y5 e)))) Y5)
  rcases e with e | e | e | e | e
  .exact Y4 (Y4 e)
  .exact Y4 (Y5 (Y4 e))
  .exact Q k (Y4 e)
  .exact Q k (Y5 e)
  exact Y4 (Y5 (Y5 (Y5 (Y5 e))))
 have Z:∀k,E k->¬(k=p\/vDu.ownBlock=S k\/vFa.ownBlock=S k):=λk e y=>h.eo k e (b k y)
 have G:A=fH c j m o q all' T vC vDu' vFa' vH:=by
  apply Array.ext_getElem?;intro i
  by_cases P:i=9
  .subst P;exact X
  by_cases s:i=12
  .subst s;exact C
  by_cases t:i=13
  .subst t;exact D
  rw [d i P s t j m o q V];have u:i=0\/i=1\/i=2\/i=3\/i=4\/i=5\/i=6\/i=7\/i=8\/i=10\/i=11\/i=14\/15<=i:=by omega
  rcases u with rfl | rfl | rfl | rfl | rfl | rfl | rfl | rfl | rfl | rfl | rfl | rfl | u
  all_goals first
   | rfl
   | (rw [Array.getElem?_eq_none (by simpa [fH] using u),Array.getElem?_eq_none (by simpa [fH] using u)])
 subst G
 have a:∀(n:Nat) (x:ix),l[n]? =S x->∀k,x.own k->¬(k=p\/vDu.ownBlock=S k\/vFa.ownBlock=S k):=λn x f k e y=>by
  obtain ⟨v,_,z,U⟩:=h.far f e
  rcases y with y | y | y
  .exact v y
  .exact z y
  exact U y
 refine ⟨⟨⟨j,m,o,q,Y,uT W r (λk e=>Z k (O k e)),O⟩,h.may,bG h.row r (λk e y=>?_),λn x f=>(h.ok n x f).xt r (a n x f _ (Y4 rfl)) (λg e=>a n x f g (Y5 (Y4 e))) (λg e=>a n x f g (Y5 (Y5 e))),hd,hf,ha,h.apart,λk e=>SA (h.lt k e) r.size,λk e y=>?_⟩,M,r.mono (λk _ e=>b k e)⟩
 .obtain ⟨v,R,z⟩:=h.yp e
  rcases y with y | y | y
  .exact v y
  .exact R y
  exact z y
 rcases M k y with y | y
 .exact h.eo k e y
 have:=h.lt k e;omega
end
theorem Df{x y:UInt8}(a:¬(97<=y.toNat/\y.toNat<=122)):Lib.foldEq x y=(Lib.upperB x == y):=by
 unfold Lib.foldEq;rw [Ri,decide_eq_true_eq,beq_iff_eq, <-UInt8.toNat_inj]
 by_cases h:97<=(x.toNat:Int)/\(x.toNat:Int)<=122
 .have:=Cw h;omega
 rw [GG h];omega
theorem De{x y:UInt8}(d:¬(65<=y.toNat/\y.toNat<=90)):Lib.foldEq x y=(Lib.lowerB x == y):=by
 unfold Lib.foldEq;rw [Ri,decide_eq_true_eq,beq_iff_eq, <-UInt8.toNat_inj]
 rcases jD x with ⟨b,a,c⟩ | ⟨b,a⟩
 .omega
 rw [a];omega
theorem nV:∀(s p:QF),(∀y∈p,¬(97<=y.toNat/\y.toNat<=122))->Lib.equalFold s p=(Lib.toUpperA s == p)
 | [],[],_=>rfl
 | [],y::t,_=>rfl
 | x::s,[],_=>rfl
 | x::s,y::t,h=>by
  have b:=nV s t (λz a=>h z (Tx _ a));show (Lib.foldEq x y && Lib.equalFold s t)=_;rw [Df (h y (Tw ..)),b];rfl
theorem nU:∀(s p:QF),(∀y∈p,¬(65<=y.toNat/\y.toNat<=90))->Lib.equalFold s p=(Lib.toLowerA s == p)
 | [],[],_=>rfl
 | [],y::t,_=>rfl
 | x::s,[],_=>rfl
 | x::s,y::t,h=>by
  have b:=nU s t (λz a=>h z (Tx _ a));show (Lib.foldEq x y && Lib.equalFold s t)=_;rw [De (h y (Tw ..)),b];rfl
def mH(p:QF):Bool:=p.all λy=> !(decide (97<=y.toNat) && decide (y.toNat<=122))
theorem Mf{p:QF}(h:mH p=YT):∀y∈p,¬(97<=y.toNat/\y.toNat<=122):=by
 intro y a;have:=Rb.1 h y a;simp only [Rm,Uh,decide_eq_false_iff_not] at this;omega
theorem pq(arg p:QF)(h:mH p=YT):dU arg p=if km arg p then S (arg.drop p.length) else N:=by
 unfold dU km
 by_cases a:arg.length < p.length
 .rw [if_pos a,decide_eq_false (by omega)];rfl
 rw [if_neg a,decide_eq_true (by omega),Sy,nV _ _ (Mf h)]
theorem NP{l:QF}(h:l≠[]):jI l=jd l:=by
 unfold jI;rw [if_neg h,pq _ _ (by decide)];unfold jd km
 by_cases g:l.length < 7
 .have p:(decide (l.length < 7) || decide (15 < l.length) || !Lib.toUpperA (l.take 6) == [32,83,73,90,69,61] || l.getD 6 0 == 48 && decide (7 < l.length))=YT:=by rw [decide_eq_true g];rfl
  rw [if_pos p]
  split
  .rename_i d a
   split at a
   .injection a with a;have n:l.drop 6=[]:=by rw [List.drop_eq_nil_iff];omega
    have a:l.drop 6=d:=a;rw [<-a,n];rfl
   cases a
  rfl
 have a:decide (([32,83,73,90,69,61]:QF).length<=l.length)=YT:=decide_eq_true (by simp only [RQ,RR];omega);have k:(l.drop 6).length=l.length - 6:=Rq ..;have j:(l.drop 6).getD 0 0=l.getD 6 0:=by rw [Q5,List.getElem?_drop,Q5]
 rw [a,Sy];have m:l.take ([32,83,73,90,69,61]:QF).length=l.take 6:=rfl;have f:l.drop ([32,83,73,90,69,61]:QF).length=l.drop 6:=rfl;rw [m,f]
 cases q:(Lib.toUpperA (l.take 6) == ([32,83,73,90,69,61]:QF))
 case false=>rw [if_neg (by decide),if_pos (by simp)]
 show (if pH (l.drop 6)=YT then S (Hg (l.drop 6)) else N)=if (decide (l.length < 7) || decide (15 < l.length) || F || (l.getD 6 0 == 48 && decide (7 < l.length)))=YT then N else if ((l.drop 6).all λc=>dX c.toNat)=YT then S (uB (l.drop 6)) else N
 by_cases i:15 < l.length
 .rw [BV (l:=l.drop 6) (by omega),decide_eq_true i];simp
 by_cases b:l.getD 6 0=48/\7 < l.length
 .rw [BX (l:=l.drop 6) (by omega) (by rw [j];exact b.1),decide_eq_true b.2,b.1];simp
 rw [wX (l:=l.drop 6) (by omega) (by omega) (by
  rw [j]
  by_cases e:l.getD 6 0=48
  .exact Y4 (by have:¬7 < l.length:=λx=>b ⟨e,x⟩;omega)
  exact Y5 e)]
 have o:(decide (l.length < 7) || decide (15 < l.length) || F || (l.getD 6 0 == 48 && decide (7 < l.length)))=F:=by
  rw [decide_eq_false g,decide_eq_false i];simp only [Bool.false_or,Uh,beq_eq_false_iff_ne,decide_eq_false_iff_not]
  by_cases e:l.getD 6 0=48
  .exact Y5 (λx=>b ⟨e,x⟩)
  exact Y4 e
 rw [o];rfl
theorem MG:(bL []).2=F:=rfl
theorem MU(arg:QF):pQ arg=
  if km arg [70,82,79,77,58,60]=F then dW else
  if rz (aJ 62 (arg.drop 6)).2.2 (bL (aJ 62 (arg.drop 6)).1).2 (aJ 62 (arg.drop 6)).1 (aJ 62 (arg.drop 6)).2.1=F then dW else
  ⟨9,(if (aJ 62 (arg.drop 6)).1.isEmpty then [] else (bL (aJ 62 (arg.drop 6)).1).1),(jd (aJ 62 (arg.drop 6)).2.1).getD 0,[]⟩:=by
 unfold pQ;simp only;rw [pq _ _ (by decide)]
 cases l:km arg [70,82,79,77,58,60]
 case false=>rfl
 simp only [if_true,Ua,Sy,VU,if_false];show (if ((aJ 62 (arg.drop 6)).2.2 && ((bL (aJ 62 (arg.drop 6)).1).2 || (aJ 62 (arg.drop 6)).1.isEmpty) && (jI (aJ 62 (arg.drop 6)).2.1).isSome)=YT then mX.mk 9 (b9 (aJ 62 (arg.drop 6)).1) ((jI (aJ 62 (arg.drop 6)).2.1).getD 0) [] else dW)=_;obtain ⟨c,d⟩:∃x,(aJ 62 (arg.drop 6)).1=x:=⟨_,rfl⟩;obtain ⟨b,g⟩:∃x,(aJ 62 (arg.drop 6)).2.1=x:=⟨_,rfl⟩;obtain ⟨f,k⟩:∃x,(aJ 62 (arg.drop 6)).2.2=x:=⟨_,rfl⟩;rw [d,g,k]
 have j:(jI b).isSome=(b.isEmpty || (jd b).isSome)/\(jI b).getD 0=(jd b).getD 0:=by
  cases b with
  | nil=>exact ⟨rfl,rfl⟩
  | cons a t=>rw [NP (by simp)];exact ⟨rfl,rfl⟩
 rw [j.1,j.2];unfold rz;rw [Bool.or_comm (bL c).2]
 cases i:(f && (c.isEmpty || (bL c).2) && (b.isEmpty || (jd b).isSome))
 case false=>rfl
 simp only [if_true,VU,if_false]
 congr 1
 simp only [Rk,Ty] at i;unfold b9
 cases h:(bL c).2
 case true=>
  cases c with
  | nil=>rw [MG] at h;cases h
  | cons a t=>rfl
 rcases i.1.2 with e | e
 .rw [e];rfl
 rw [h] at e;cases e
theorem lH{c:UInt8}{x:QF}(d:∀a∈x,a≠c)(l:QF):aJ c (x++c::l)=(x,l,YT):=by
 induction x with
 | nil=>simp [aJ]
 | cons a x ih=>
  have e:=d a (Tw ..);have:=ih (λb f=>d b (Tx _ f));simp only [List.cons_append];unfold aJ;rw [this];simp [e]
theorem Ju(c:UInt8):∀(l:QF),∀a∈(aJ c l).1,a≠c
 | [],a,h=>by cases h
 | b::r,a,h=>by
  unfold aJ at h
  split at h
  .cases h
  rename_i d
  rcases Rf.1 h with e | e
  .rw [e];exact d
  exact Ju c r a e
theorem qe{l:QF}(h:(dn l).2.2=YT):oc (aJ 64 l).1=YT/\fI (aJ 64 l).2.1=YT/\(aJ 64 l).2.2=YT/\dn l=((aJ 64 l).1,Lib.toLowerA (aJ 64 l).2.1,YT):=by
 unfold dn at h ⊢
 split at h
 .rename_i a
  rw [if_pos a];rw [Rk] at a;refine ⟨a.1,a.2,?_,rfl⟩
  cases c:(aJ 64 l).2.2
  case true=>rfl
  have:=(iY 64 l c).1;rw [this] at a;have b:fI []=YT:=a.2
  revert b
  decide
 cases h
theorem Il{l:QF}(h:(bL l).2=YT):∀a∈l,a≠62:=by
 obtain ⟨c,d,i,_⟩:=qe (l:=l) h;have e:=(gj 64 l i).1;intro a b g;rw [e,Rx,Rf] at b;subst g
 rcases b with b | b | b
 .unfold oc at c;rw [Rk] at c;have:=Rb.1 c.2 62 b
  revert this
  decide
 .revert b;decide
 unfold fI at d;rw [Rk] at d
 rcases nD 46 _ _ b with e | ⟨p,k,j⟩
 .revert e;decide
 have f:=Rb.1 d.2 p k;unfold qp at f;rw [Rk] at f;have:=Rb.1 f.2 62 j
 revert this
 decide
theorem ui(t:QF)(b:UInt8):Lib.hasSuffix (t++[b]) [b]=YT/\Lib.trimSuffix (t++[b]) [b]=t:=by
 have h:Lib.hasSuffix (t++[b]) [b]=YT:=by
  unfold Lib.hasSuffix;rw [U1];exact List.suffix_append t [b]
 refine ⟨h,?_⟩;unfold Lib.trimSuffix;rw [h];simp
theorem LF{l:QF}{b:UInt8}(h:Lib.hasSuffix l [b]=YT):∃t,l=t++[b]:=by
 unfold Lib.hasSuffix at h;rw [U1] at h;obtain ⟨t,e⟩:=h;exact ⟨t,e.symm⟩
theorem Ny(arg:QF):pW arg=
  if km arg [84,79,58,60]=F then dW else
  if ((aJ 62 (arg.drop 4)).2.2 && (bL (aJ 62 (arg.drop 4)).1).2 && (aJ 62 (arg.drop 4)).2.1.isEmpty)=F then dW else
  ⟨10,b9 (aJ 62 (arg.drop 4)).1,0,[]⟩:=by
 unfold pW;simp only;rw [pq _ _ (by decide)]
 cases j:km arg [84,79,58,60]
 case false=>rfl
 simp only [if_true,Ua,Sy,VU,if_false];show (if (Lib.hasSuffix (arg.drop 4) [62] && (bL (Lib.trimSuffix (arg.drop 4) [62])).2)=YT then mX.mk 10 (b9 (Lib.trimSuffix (arg.drop 4) [62])) 0 [] else dW)=_;obtain ⟨X,d⟩:∃x,arg.drop 4=x:=⟨_,rfl⟩;rw [d]
 cases a:((aJ 62 X).2.2 && (bL (aJ 62 X).1).2 && (aJ 62 X).2.1.isEmpty)
 case true=>
  simp only [Rk,List.isEmpty_iff] at a;obtain ⟨⟨f,g⟩,i⟩:=a;have e:=(gj 62 X f).1;rw [i] at e;obtain ⟨c,b⟩:=ui (aJ 62 X).1 62;rw [<-e] at c b;rw [c,b,g];rfl
 simp only [if_true];rw [if_neg];intro h;rw [Rk] at h;obtain ⟨t,rfl⟩:=LF h.1;obtain ⟨_,b⟩:=ui t 62;rw [b] at h;have:=lH (Il h.2) [];rw [this] at a;simp [h.2] at a
theorem BR{l:QF}(h:(bL l).2=YT):b9 l=(bL l).1/\(dn (b9 l)).2.2=YT/\(dn (b9 l)).2.1=(dn l).2.1:=by
 obtain ⟨e,f,_,b⟩:=qe (l:=l) h;have a:b9 l=(bL l).1:=by unfold b9;rw [h];rfl
 have d:(bL l).1=(aJ 64 l).1++64::Lib.toLowerA (aJ 64 l).2.1:=by unfold bL;rw [b]
 have c:dn (b9 l)=((aJ 64 l).1,Lib.toLowerA (aJ 64 l).2.1,YT):=by
  rw [a,d];unfold dn;rw [Mj (Ju 64 l)];simp only;rw [e,kE,wj, <-kE,f,tM];rfl
 exact ⟨a,by rw [c],by rw [c,b]⟩
theorem Iw(l:QF):∀y∈Lib.toLowerA l,¬(65<=y.toNat/\y.toNat<=90):=by
 intro y a;unfold Lib.toLowerA at a;obtain ⟨x,_,rfl⟩:=List.mem_map.1 a
 rcases jD x with ⟨_,_,d⟩ | ⟨b,c⟩
 .omega
 rw [c];exact b
theorem PW{c:bF}{r:bf}{a:QF}(h:(bL a).2=YT):rC c r (dn a).2.1=(c.xe.any (gd r.addr) || r.known || iJ c (b9 a)):=by
 obtain ⟨_,b,e⟩:=BR h;obtain ⟨_,_,_,f⟩:=qe (l:=a) h;unfold rC iJ;rw [b,e,Sy]
 have:(λd:QL=>Lib.toLowerA d.data.toList == (dn a).2.1)=mP (bs (dn a).2.1):=by
  funext d
  unfold mP;rw [ao,nU];rw [f];exact Iw _
 rw [this]
 cases c.xf.any (mP (bs (dn a).2.1)) <;> cases c.xe.any (gd r.addr) <;> cases r.known <;> rfl
theorem Nc{c:bF}(h:dk c=YT):∀x∈c.x9,(∀a∈x.1.data.toList,a≠0)/\∀a∈x.2.data.toList,a≠0:=by
 unfold dk jy at h;simp only [Rk,Rb] at h;obtain ⟨⟨⟨⟨⟨⟨_,_,j⟩,_⟩,_⟩,_⟩,_⟩,_⟩:=h;intro x o;obtain ⟨k,i,rfl⟩:=List.getElem_of_mem o;have b:=j k (List.mem_range.2 i);unfold iq at b;rw [show c.x9.getD k (ByteArray.empty,ByteArray.empty)=c.x9[k] by rw [Q5,Re i];rfl] at b
 rw [Rk,Rk] at b
 have d:∀l:QF,iU l=YT->∀a∈l,a≠0:=λl g a n e=>by
  subst e;unfold iU at g;rw [Rk] at g;have f:=kG l 0;rw [g.2] at f;have m:l.contains 0=YT:=Rh.2 n;rw [m] at f
  cases f
 exact ⟨d _ b.1.1,d _ b.1.2⟩
theorem Pm{x:QL×QL}(d:∀a∈x.1.data.toList,a≠0)(_:∀a∈x.2.data.toList,a≠0)(b:QF):iA (bs b) x=((aJ 0 b).2.2 && (aJ 0 (aJ 0 b).2.1).2.2 && mn (aJ 0 b).1 (aJ 0 (aJ 0 b).2.1).1 (aJ 0 (aJ 0 b).2.1).2.1 x):=by
 have j:mW x=bs (0::(x.1.data.toList++0::x.2.data.toList)):=by
  unfold mW;have f:x.1=bs x.1.data.toList:=rfl;have l:x.2=bs x.2.data.toList:=rfl;have k:(⟨#[0]⟩:QL)=bs [0]:=rfl;conv=>lhs;rw [f,l,k]
  rw [aQ,aQ,aQ];simp
 have o:x.1++mW x=bs (x.1.data.toList++0::(x.1.data.toList++0::x.2.data.toList)):=by
  rw [j];have f:x.1=bs x.1.data.toList:=rfl;conv=>lhs;rw [f]
  rw [aQ];rfl
 unfold iA;rw [o,j,gi,gi];obtain ⟨n,s⟩:=QE x.1.data.toList;obtain ⟨w,t⟩:=QE x.2.data.toList;unfold mn;rw [s] at d ⊢;rw [t];rw [Ri];simp only [Ty,Rk,beq_iff_eq,List.isEmpty_iff]
 constructor
 .rintro (e | e)
  .have g:aJ 0 b=([],n++0::w,YT):=by rw [e];exact lH (x:=[]) (λa r=>by cases r) _
   have h:aJ 0 (n++0::w)=(n,w,YT):=lH d _;rw [g];show (YT=YT/\(aJ 0 (n++0::w)).2.2=YT)/\(n=(aJ 0 (n++0::w)).1/\w=(aJ 0 (n++0::w)).2.1)/\(([]:QF)=[]\/[]=(aJ 0 (n++0::w)).1);rw [h];exact ⟨⟨rfl,rfl⟩,⟨rfl,rfl⟩,Y4 rfl⟩
  have g:aJ 0 b=(n,n++0::w,YT):=by rw [e];exact lH d _
  have h:aJ 0 (n++0::w)=(n,w,YT):=lH d _;rw [g];show (YT=YT/\(aJ 0 (n++0::w)).2.2=YT)/\(n=(aJ 0 (n++0::w)).1/\w=(aJ 0 (n++0::w)).2.1)/\(n=[]\/n=(aJ 0 (n++0::w)).1);rw [h];exact ⟨⟨rfl,rfl⟩,⟨rfl,rfl⟩,Y5 rfl⟩
 rintro ⟨⟨p,q⟩,⟨i,m⟩,c⟩;have g1:=(gj 0 b p).1;have g2:=(gj 0 _ q).1;rw [g2, <-i, <-m] at g1
 rcases c with c | c
 .rw [c] at g1;exact Y4 g1
 rw [c, <-i] at g1;exact Y5 g1
theorem MK{c:bF}(h:dk c=YT)(b:QF):nz c b=c.x9.any (iA (bs b)):=by
 have g:=Nc h;unfold nz
 have:∀l:List (QL×QL),(∀x∈l,(∀a∈x.1.data.toList,a≠0)/\∀a∈x.2.data.toList,a≠0)->((aJ 0 b).2.2 && (aJ 0 (aJ 0 b).2.1).2.2 && l.any (mn (aJ 0 b).1 (aJ 0 (aJ 0 b).2.1).1 (aJ 0 (aJ 0 b).2.1).2.1))=l.any (iA (bs b)):=by
  intro l
  induction l with
  | nil=>intro _;simp
  | cons x t ih=>
   intro e;have d:=e x (Tw ..);rw [V8,V8, <-ih (λy f=>e y (Tx _ f)),Pm d.1 d.2]
   cases (aJ 0 b).2.2 <;> cases (aJ 0 (aJ 0 b).2.1).2.2 <;> rfl
 exact this _ g
theorem Mb(arg:QF):om arg=
  if km arg [80,76,65,73,78,32]=F then dW else
  if (jG (arg.drop 6)).2=F then dW else
  ⟨8,[],0,(jG (arg.drop 6)).1⟩:=by
 unfold om;rw [pq _ _ (by decide),NB]
 cases a:km arg [80,76,65,73,78,32]
 case false=>rfl
 show (match fC (arg.drop 6) with | some b=>mX.mk 8 [] 0 b | none=>dW)=_
 cases fC (arg.drop 6) <;> rfl
theorem AW(w:QI)(p:Nat)(A:Array QJ)(d:QJ)(l:List ix)(n:Int)(h:CB w p A d l)(f:l.length<=100)(g:jX l n=N):Y8 Ys 38 #[YV (S ⟨p,0,N⟩),I J n] w λe a=>e=YX (I J 4)/\w=a:=by
 have b:=mf w p A d l n h f;rw [g] at b;have c:H (Y8 Ys 71 #[YV (S ⟨p,0,N⟩),I J n] w λe a=>e=YX (YY #[YV N,I J 4])/\w=a):=K b;clear b h;go_enter func38,Yk;go_wp2_with fail
 refine c.out.mono ?_;rintro e a ⟨rfl,rfl⟩;go_wp2_with fail
 go_ret;exact ⟨rfl,rfl⟩
theorem AX(w:QI)(p:Nat)(A:Array QJ)(i:QJ)(l:List ix)(n:Int)(x:ix)(h:CB w p A i l)(k:l.length<=100)(m:jX l n=S x)(b:bB w x.cb x.vT x.vL x.r):Y8 Ys 38 #[YV (S ⟨p,0,N⟩),I J n] w λe a=>e=YX (I J 0)/\bB a x.cb x.vT x.vL {x.r with closed:=YT}/\aA x.cb w a:=by
 have c:=mf w p A i l n h k;rw [m] at c;have d:H (Y8 Ys 71 #[YV (S ⟨p,0,N⟩),I J n] w λe a=>e=YX (YY #[YV (S ⟨x.cb,0,N⟩),I J 0])/\w=a):=K c;have q:w.cell? ⟨x.cb,2,N⟩=S (YW x.r.closed):=b.cell 2;have o:=b.frozen 2;have f:=K b;clear c h b;go_enter func38,Yk;go_wp2_with fail
 refine d.out.mono ?_;rintro e a ⟨rfl,rfl⟩;go_wp2_with fail
 go_ret;have g:aA x.cb w (w.setCell ⟨x.cb,2,N⟩ (YW YT)):=(aA.refl _ _).setCell _;exact ⟨rfl,f.out.turn g (cP (j:=2) (v:=YW YT) f.out.xp (A':=bC {x.r with closed:=YT} x.vT x.vL) rfl) rfl rfl,g⟩
section
variable {E:Nat->Prop} {w:QI} {p:Nat} {c:bF} {all:QF} {T:Nat} {vC vDu vFa vH:QJ} {l:List ix} {due xh:List Nat}
theorem uK(h:dP E w p c all T vC vDu vFa vH l due xh)(i:l.length<=100)(n:Int)(j:jX l n=N)(b:QL):Y8 Ys 36 #[YV (S ⟨p,0,N⟩),I J n,.string b] w λe d=>e=YX (YY #[.string ⟨#[]⟩,I J 4])/\w=d:=by
 obtain ⟨A,a⟩:=h.ye;have f:=mf w p A vC l n a i;rw [j] at f;have g:H (Y8 Ys 71 #[YV (S ⟨p,0,N⟩),I J n] w λe d=>e=YX (YY #[YV N,I J 4])/\w=d):=K f;clear f a h;go_enter func36,ntmps36;go_wp2_with fail
 refine g.out.mono ?_;rintro e d ⟨rfl,rfl⟩;go_wp2_with fail
 go_ret2
 exact ⟨rfl,rfl⟩
theorem zP(w:QI)(n:Int)(b:QL):Y8 Ys 36 #[YV N,I J n,.string b] w λe a=>e=YX (YY #[.string ⟨#[]⟩,I J 1])/\w=a:=by
 have d:=K (ua w n);go_enter func36,ntmps36;go_wp2_with fail
 refine d.out.mono ?_;rintro e a ⟨rfl,rfl⟩;go_wp2_with fail
 go_ret2
 exact ⟨rfl,rfl⟩
theorem DF(w:QI)(n:Int):Y8 Ys 38 #[YV N,I J n] w λe a=>e=YX (I J 1)/\w=a:=by
 have b:=K (ua w n);go_enter func38,Yk;go_wp2_with fail
 refine b.out.mono ?_;rintro e a ⟨rfl,rfl⟩;go_wp2_with fail
 go_ret;exact ⟨rfl,rfl⟩
theorem FO(h:dP E w p c all T vC vDu vFa vH l due xh)(b:l.length<=100)(n:Int)(d:jX l n=N):Y8 Ys 38 #[YV (S ⟨p,0,N⟩),I J n] w λe f=>e=YX (I J 4)/\w=f:=by
 obtain ⟨A,a⟩:=h.ye;exact AW w p A vC l n a b d
theorem Nn{n:Nat}{x:ix}(b:l[n]? =S x)(a:x.r.closed=F):jX l (n:Int)=S x:=by
 unfold jX;rw [if_pos (by omega),Int.toNat_natCast,b];simp only;rw [a];rfl
theorem DG(h:dP E w p c all T vC vDu vFa vH l due xh)(m:l.length<=100)(n:Nat)(x:ix)(b:l[n]? =S x)(j:x.r.closed=F):Y8 Ys 38 #[YV (S ⟨p,0,N⟩),I J (n:Int)] w λe d=>e=YX (I J 0)/\dP E d p c all T vC vDu vFa vH (l.set n ⟨x.cb,x.vT,x.vL,{x.r with closed:=YT}⟩) due xh/\(∀k,fo p vC vDu vFa (l.set n ⟨x.cb,x.vT,x.vL,{x.r with closed:=YT}⟩) k->fo p vC vDu vFa l k\/w.heap.size<=k)/\aC (fo p vC vDu vFa l) w d:=by
 obtain ⟨A,a⟩:=h.ye;refine (AX w p A vC l n x a m (Nn b j) (h.ok n x b)).mono ?_;rintro e d ⟨rfl,f,i⟩;exact ⟨rfl,h.turn b f (λg e=>e.elim Y4 (λe=>Y5 (Y4 e))) ((aC.same i).mono (λ_ _ e=>Y4 e))⟩
theorem AY(h:dP E w p c all T vC vDu vFa vH l due xh)(m:l.length<=100)(b:Int)(k:¬(0<=b/\b<=4294967295/\l.length < 100)):Y8 Ys 35 #[YV (S ⟨p,0,N⟩),I J b] w λe n=>e=YX (YY #[I J 0,.string ⟨#[]⟩,I J 3])/\w=n:=by
 obtain ⟨r,s,t,u,d,_,_⟩:=h.set;have f:w.cell? ⟨p,11,N⟩=S vC:=Q3 d _;obtain ⟨a,j,g⟩:=az (bq h.row);rw [g] at f;clear h g d
 by_cases o:b < 0
 .go_enter func35,ntmps35;go_wp2_with fail
  refine Ru (v:=YY #[I J 0,.string ⟨#[]⟩,I J 3]) (by simp [results,results35,go_sem]) rfl ⟨rfl,rfl⟩
 by_cases q:(4294967295:Int) < b
 .go_enter func35,ntmps35;go_wp2_with fail
  refine Ru (v:=YY #[I J 0,.string ⟨#[]⟩,I J 3]) (by simp [results,results35,go_sem]) rfl ⟨rfl,rfl⟩
 have i:l.length=100:=by omega
 rw [i] at f;clear k i m;go_enter func35,ntmps35;go_wp2_with fail
 refine Ru (v:=YY #[I J 0,.string ⟨#[]⟩,I J 3]) (by simp [results,results35,go_sem]) rfl ⟨rfl,rfl⟩
theorem zL(w:QI)(a:Int):Y8 Ys 35 #[YV N,I J a] w λe b=>e=YX (YY #[I J 0,.string ⟨#[]⟩,I J 1])/\w=b:=by
 go_enter func35,ntmps35;go_wp2_with fail
 refine Ru (v:=YY #[I J 0,.string ⟨#[]⟩,I J 1]) (by simp [results,results35,go_sem]) rfl ⟨rfl,rfl⟩
end
end Go.Proofs.YtponhohdpophlaaGreatDoor
