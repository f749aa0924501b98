import Derived.Test.YtponhohdpophlaaGreatDoorS12
import Derived.Test.YtponhohdpophlaaGreatDoorS08
namespace Go.Proofs.YtponhohdpophlaaGreatDoor
set_option maxHeartbeats 8000000
set_option maxRecDepth 1000000
open Go renaming heap_alloc_new->Q0,heap_setCell_same->Ro,info_parts->Rr,step_append_lies->Rs,bodyPost_ret->Ru,wpList_append_own->Uo,Calls->Y8,TypeId->Za
open Go.Ending renaming returned->YX
open Go.IntKind renaming i64->J
open Go.Lib renaming cell_of_heap->Q3,frozen_of_heap->RJ,toList_data->SF
open Go.Obj renaming cells->YU
open Go.Proofs.Tryz renaming underlying30->Rt,results96->Rv,underlying33->Sn,results155->VY,ntmps217->Vt,func153->Wr,ntmps153->Ws,func217->Xi,underlying151->YE,prog->Ys
open Go.RowKit renaming Hid->H,Below->Y6,intOf->Y9
open Go.RowKit.Below renaming refl->QQ
open Go.Value renaming int->I,slice->L,string->T,pointer->YV,bool->YW,tuple->YY,agg->YZ
open _root_.Array renaming getElem?_eq_getElem->Si,getElem?_toList->Sl,getElem?_setIfInBounds_ne->TH,getElem?_setIfInBounds->Uz
open _root_.Bool renaming false->F,eq_iff_iff->Ri,and_eq_true->Rk,not_eq_true'->Rm,and_true->SC,and_false->SG,true_and->Sy,false_eq_true->Tm,true->YT
open _root_.List renaming getD_eq_getElem?_getD->Q5,filter_congr->Q7,mem_range->Q8,getElem_mem->QU,take_succ_eq_append_getElem->QV,take_length->QZ,length_append->RI,length_cons->RQ,length_nil->RR,length_map->RU,mem_filter->Ra,all_eq_true->Rb,getElem?_eq_getElem->Re,contains_iff_mem->Rh,getElem_of_mem->Rj,take_append_drop->Rp,mem_append->Rx,mem_singleton->Ry,getElem?_append_right->Se,getElem?_eq_none->Sg,map_append->Sh,append_nil->Sj,getElem?_take_of_lt->Sk,length_take->Sm,append_assoc->Sq,getElem?_map->TV,replicate_succ'->UJ,getElem?_take->UQ,range_succ->Ui,filter_append->Uk,filter_cons->Ul,length_filter_le->Un,getElem_append_left->VO,getElem?_modify->Vc
open _root_.Nat renaming le_refl->QR,zero_le->QS,le_trans->Rn,lt_or_ge->Tp
open _root_.Option renaming none->N,some->S
open _root_.Or renaming inl->Y4,inr->Y5
def jh(xd:List QF):Bool:=decide (1<=xd.length) && decide (xd.length<=10) && (List.range xd.length).all (iV xd)
def cY(m:aX):Bool:=decide (m.time<=1000000000) && (m.xk.isEmpty || cm m.xk) && jh m.xd && decide (m.body.length<=1000)
def gG(r:QF):Option (Nat×List Nat):=(tK r).bind λx=>if decide (1<=x.2.length) && cC x.2 then S x else N
def bP(l:QF):Option aX:=
 match l with
 | []=>N
 | c::r=>if c=77 then (oO r).bind λm=>if cY m then S m else N else N
def dM(l:QF):Option (Nat×List Nat):=
 match l with
 | []=>N
 | c::r=>if c=71 then gG r else N
def bX(l:QF):Option (Nat×Nat×List Nat):=
 match l with
 | []=>N
 | c::r=>if c=70 then (gK 4 r).bind λa=>(gG a.2).bind λx=>if a.1<=1000000000 then S (a.1,x.1,x.2) else N else N
def aa.xO(S:aa)(K:Nat):List Bool:=(S.items.map (·.out)).getD K []
def dw(S:aa)(id:Nat)(ps:List Nat):Bool:=decide (1<=id) && decide (id<=S.items.length) && ps.all λx=>decide (x < (S.xO (id - 1)).length) && !((S.xO (id - 1)).getD x F)
def aa.xC(S:aa)(m:aX):Option aa:=if decide (m.id=S.items.length+1) && decide (S.time<=m.time) then some ⟨S.items++[⟨m,List.replicate m.xd.length F⟩],m.time⟩ else N
def aa.xE(S:aa)(id:Nat)(ps:List Nat):Option aa:=if dw S id ps then some (S.outs (id - 1) ps) else N
def aa.xB(S:aa)(T id:Nat)(ps:List Nat):Option aa:=if dw S id ps && decide (S.time<=T) then some ((S.outs (id - 1) ps).failed (S.xr (id - 1)) ps T) else N
theorem FC(f:aa)(h:Nat)(g:List Nat):gy f h g=(decide (1<=g.length) && cC g && dw f h g):=by
 unfold gy dw aa.xO;rw [Le,Ri];simp only [Rk]
 constructor
 .rintro ⟨⟨⟨a,b⟩,c⟩,d,e⟩;exact ⟨⟨c,d⟩,⟨a,b⟩,e⟩
 rintro ⟨⟨c,d⟩,⟨a,b⟩,e⟩;exact ⟨⟨⟨a,b⟩,c⟩,d,e⟩
theorem II(n i:Nat)(m:aX):bZ n i m=(cY m && (decide (m.id=n+1) && decide (i<=m.time))):=by
 unfold bZ cY jh;rw [Ri];simp only [Rk]
 constructor
 .rintro ⟨⟨⟨⟨⟨⟨⟨a,b⟩,c⟩,d⟩,e⟩,f⟩,g⟩,h⟩;exact ⟨⟨⟨⟨c,g⟩,⟨d,e⟩,h⟩,f⟩,a,b⟩
 rintro ⟨⟨⟨⟨c,g⟩,⟨d,e⟩,h⟩,f⟩,a,b⟩;exact ⟨⟨⟨⟨⟨⟨⟨a,b⟩,c⟩,d⟩,e⟩,f⟩,g⟩,h⟩
theorem Jf(a:aa)(r:QF):a.takes (77::r)=(bP (77::r)).bind a.xC:=by
 have b:a.takes (77::r)=if bZ a.items.length a.time (gx r) && (bT (gx r) == 77::r) then S ⟨a.items++[⟨gx r,List.replicate (gx r).xd.length F⟩],(gx r).time⟩ else N:=by
  unfold aa.takes;simp only;rw [if_pos trivial]
 have c:bP (77::r)=(oO r).bind λm=>if cY m then S m else N:=by
  unfold bP;simp only;rw [if_pos trivial]
 rw [b,c,KZ,II]
 by_cases h:bT (gx r)=77::r
 .rw [if_pos h,sb,h]
  cases d:cY (gx r)
  case false=>simp
  simp only [Sy,beq_self_eq_true,SC,if_true,sb];rfl
 rw [if_neg h];have:(bT (gx r) == 77::r)=F:=by simpa using h
 rw [this,SG];rfl
theorem Je(a:aa)(r:QF):a.takes (71::r)=(dM (71::r)).bind λx=>a.xE x.1 x.2:=by
 have b:dM (71::r)=gG r:=by
  unfold dM;simp only;rw [if_pos trivial]
 rw [JI,b,gG,BS,FC];show (if decide (1<=(bw r).2.length) && cC (bw r).2 && dw a (bw r).1 (bw r).2 && (71::cG (bw r).1 (bw r).2 == 71::r) then S (a.outs ((bw r).1 - 1) (bw r).2) else N)=((if cG (bw r).1 (bw r).2=r then S (bw r) else N).bind λx=>if decide (1<=x.2.length) && cC x.2 then S x else N).bind λx=>a.xE x.1 x.2
 by_cases h:cG (bw r).1 (bw r).2=r
 .rw [if_pos h,sb,h]
  cases c:(decide (1<=(bw r).2.length) && cC (bw r).2)
  case false=>simp
  simp only [Sy,beq_self_eq_true,SC,if_true,sb];rfl
 rw [if_neg h];have:(71::cG (bw r).1 (bw r).2 == 71::r)=F:=by simpa using h
 rw [this,SG];rfl
theorem DV(b:aa)(r:QF):b.takes (70::r)=(bX (70::r)).bind λx=>b.xB x.1 x.2.1 x.2.2:=by
 have k:bX (70::r)=(gK 4 r).bind λa=>(gG a.2).bind λx=>if a.1<=1000000000 then S (a.1,x.1,x.2) else N:=by
  unfold bX;simp only;rw [if_pos trivial]
 rw [JH,k]
 by_cases i:4<=r.length
 .have f:gK 4 r=S (be (r.take 4),r.drop 4):=by unfold gK;rw [if_pos i]
  have m:aG 4 (be (r.take 4))=r.take 4:=by
   have:=vP (r.take 4)
   rwa [show (r.take 4).length=4 by rw [Sm];omega] at this
  rw [f,sb,m];obtain ⟨c,l⟩:=QE (be (r.take 4));obtain ⟨q,g⟩:=QE (r.drop 4);have j:r=r.take 4++q:=by rw [<-g,Rp]
  rw [l,g,gG,BS,FC]
  show (if decide (1<=(bw q).2.length) && cC (bw q).2 && dw b (bw q).1 (bw q).2 && decide (b.time<=c) && decide (c<=1000000000) && (70::(r.take 4++cG (bw q).1 (bw q).2) == 70::r) then S ((b.outs ((bw q).1 - 1) (bw q).2).failed (b.xr ((bw q).1 - 1)) (bw q).2 c) else N)=
   (((if cG (bw q).1 (bw q).2=q then S (bw q) else N).bind λx=>if decide (1<=x.2.length) && cC x.2 then S x else N).bind λx=>if c<=1000000000 then S (c,x.1,x.2) else N).bind λx=>b.xB x.1 x.2.1 x.2.2
  by_cases h:cG (bw q).1 (bw q).2=q
  .have n:(70::(r.take 4++cG (bw q).1 (bw q).2) == 70::r)=YT:=by rw [h, <-j];simp
   rw [if_pos h,sb,n]
   cases o:(decide (1<=(bw q).2.length) && cC (bw q).2)
   case false=>simp
   simp only [Sy,SC,if_true,sb]
   by_cases d:c<=1000000000
   .rw [if_pos d,sb,decide_eq_true d,SC];rfl
   rw [if_neg d,decide_eq_false d,SG];rfl
  rw [if_neg h]
  have:(70::(r.take 4++cG (bw q).1 (bw q).2) == 70::r)=F:=by
   rw [beq_eq_false_iff_ne];intro e;injection e with _ e;exact h (List.append_cancel_left (e.trans j))
  rw [this,SG];rfl
 have f:gK 4 r=N:=by unfold gK;rw [if_neg i]
 rw [f]
 have:(70::(aG 4 (be (r.take 4))++cG (bw (r.drop 4)).1 (bw (r.drop 4)).2) == 70::r)=F:=by
  rw [beq_eq_false_iff_ne];intro e;injection e with _ e;have:=congrArg List.length e;rw [RI,aY] at this;omega
 rw [this,SG];rfl
theorem qE(a:aa)(l:QF):a.takes l=
  match bP l with
  | some m=>a.xC m
  | none=>match dM l with
   | some x=>a.xE x.1 x.2
   | none=>match bX l with
    | some x=>a.xB x.1 x.2.1 x.2.2
    | none=>N:=by
 cases l with
 | nil=>rfl
 | cons c r=>
  by_cases b:c=77
  .subst b;rw [Jf]
   cases f:bP (77::r)
   case some m=>rfl
   rfl
  have g:bP (c::r)=N:=by unfold bP;simp only;rw [if_neg b]
  rw [g]
  by_cases d:c=71
  .subst d;rw [Je]
   cases f:dM (71::r)
   case some m=>rfl
   rfl
  have h:dM (c::r)=N:=by unfold dM;simp only;rw [if_neg d]
  simp only [h]
  by_cases e:c=70
  .subst e;rw [DV]
   cases f:bX (70::r)
   case some m=>rfl
   rfl
  have i:bX (c::r)=N:=by unfold bX;simp only;rw [if_neg e]
  simp only [i];unfold aa.takes;simp only;rw [if_neg b,if_neg d,if_neg e]
open Go.Proofs.Tryz
open Go.RowKit
theorem gn(l:List QF)(k:Nat)(h:k < l.length):(ah l)[k]? =S (T (bs l[k])):=by simp [ah,h]
theorem Dv{l:List QF}{t:QF}{k:Nat}(b:k < l.length)(h:t ∉ l.take k)(c:¬t=l[k]):t ∉ l.take (k+1):=by
 rw [QV b,Rx,Ry];rintro (a | a)
 .exact h a
 exact c a
theorem Dm(l:List QF)(t:QF)(v:QJ)(w:QI)(h:bg w v l.length 1 (ah l))(z:l.length<=255):Y8 Ys 274 #[v,T (bs t)] w λe x=>∃r:Int,e=YX (I J r)/\(-1<=r/\r<=255)/\(0<=r ↔ t∈l)/\w=x:=by
 obtain ⟨a,q,rfl,n⟩:=h.one;have p:=K n;clear n h;go_enter func274,ntmps274;go_wp2_with fail
 go_loop [8] (λi=>∃k:Nat,k<=l.length/\i=I J k/\H (t ∉ l.take k)) (λi=>l.length - (Y9 i).toNat)
 case atStart=>exact ⟨0,QS _,rfl,K (by simp)⟩
 case round=>
  obtain ⟨k,y,rfl,m⟩:=hrel
  by_cases c:k < l.length
  .have o:(k:Int) < (l.length:Int):=by omega
   obtain ⟨b,u,rfl,_,d⟩:=p.out k c;rw [gn l k c] at d
   by_cases f:t=l[k]
   .have s:((bs t).toList == (bs l[k]).toList)=YT:=by rw [gi];simpa using f
    have g:H (t∈l):=K (by rw [f];exact QU c);clear f;go_wp2_with fail
    go_ret;exact ⟨_,rfl,by omega,⟨λ_=>g.out,λ_=>by omega⟩,rfl⟩
   have s:((bs t).toList == (bs l[k]).toList)=F:=by rw [gi];simpa using f
   have g:=K (Dv c m.out f);clear f;go_wp2_with fail
   exact ⟨⟨k+1,by omega,by go_num,g⟩,by simp [Y9];omega⟩
  have j:k=l.length:=by omega
  subst j
  have g:H (t ∉ l):=K (by
   have:=m.out
   rwa [QZ] at this)
  go_wp2_with fail
  go_ret;exact ⟨_,rfl,by omega,⟨λh=>by omega,λh=>absurd h g.out⟩,rfl⟩
theorem nR(l:List QF)(t:QF)(v:QJ)(w:QI)(h:bg w v l.length 1 (ah l))(g:l.length<=255):Y8 Ys 232 #[v,T (bs t)] w λe i=>e=YX (YW (l.contains t))/\w=i:=by
 have c:=Dm l t v w h g;obtain ⟨a,f,rfl,_⟩:=h.one;clear h;go_enter func232,ntmps232;go_wp2_with fail
 refine c.mono ?_;rintro e k ⟨r,rfl,j,b,rfl⟩;have d:H (decide (0<=r)=l.contains t):=K (by rw [Ri,decide_eq_true_iff,Rh];exact b);clear b c;go_wp2_with fail
 go_ret;exact ⟨b8 d.out,rfl⟩
theorem Hr(l:List QF)(k:Nat)(h:k < l.length):sO l k= !((l.take k).contains l[k]):=by
 unfold sO;rw [Ri,Rb,Rm, <-Bool.not_eq_true,Rh];have b:l.getD k []=l[k]:=by rw [Q5,Re h];rfl
 constructor
 .intro c d;obtain ⟨j,a,e⟩:=Rj d;rw [Sm] at a;have:=c j (Q8.2 (by omega));rw [b,Q5,Re (by omega:j < l.length)] at this;rw [List.getElem_take] at e;simp [e] at this
 intro f j a;have a:=Q8.1 a;rw [b,Q5,Re (by omega:j < l.length)];simp only [Option.getD_some,Rm,beq_eq_false_iff_ne,ne_eq];intro e;exact f (by rw [<-e];exact List.mem_take_iff_getElem.2 ⟨j,by omega,rfl⟩)
theorem bg.part{w:QI}{a:QK}{n c:Nat}{l:List QF}(h:bg w (L a n c) l.length 1 (ah l))(k:Nat)(r:k<=l.length):bg w (L a k c) (l.take k).length 1 (ah (l.take k)):=by
 have f:(l.take k).length=k:=by rw [Sm];omega
 refine ⟨by simp [ah],?_⟩
 rw [f]
 rcases h.2 with ⟨p,o,d,e⟩ | ⟨b,g,d,e,m,i⟩
 .have:k=0:=by omega
  subst this;exact Y4 ⟨rfl,_,_,rfl⟩
 injection e with e1 e2 e3;subst e1 e3;refine Y5 ⟨b,g,_,rfl,by omega,λj q=>?_⟩
 rw [i j (by omega)];simp [ah,show j < k by omega]
theorem zH(l:List QF)(v:QJ)(m:Int)(w:QI)(h:bg w v l.length 1 (ah l))(hl:l.length<=255)(hs:∀t∈l,t.length<=255)(hm:w.cell? ⟨0,0,N⟩=S (I J m)):Y8 Ys 217 #[v] w λe r=>e=YX (YW (jh l))/\Y6 w.heap.size w r:=by
 obtain ⟨a,x,rfl,Z⟩:=h.one;have a0:=h.cap;have HC:=K Z;have HH:=K h;have HS:=K hs;have h0:=au hm;clear Z h hs
 by_cases X:1<=l.length
 .by_cases Y:l.length<=10
  .have s:H (jh l=(List.range l.length).all (iV l)):=K (by unfold jh;rw [decide_eq_true X,decide_eq_true Y];rfl);have y:decide ((l.length:Int) < 1)=F:=decide_eq_false (by omega);have O:decide (10 < (l.length:Int))=F:=decide_eq_false (by omega);go_enter Xi,ntmps217;go_wp2_with fail
   go_loopw [15] (λi r=>∃k:Nat,k<=l.length/\i=I J k/\H (∀j,j < k->iV l j=YT)/\H (Y6 w.heap.size w r)) (λi _=>l.length - (Y9 i).toNat)
   case atStart=>exact ⟨0,QS _,rfl,K (λj P=>by omega),K (QQ _ _)⟩
   case round=>
    obtain ⟨k,hk,rfl,V,p⟩:=hrel
    by_cases g:k < l.length
    .have a1:(k:Int) < (l.length:Int):=by omega
     obtain ⟨b,A,rfl,G,f⟩:=HC.out k g;rw [gn l k g] at f;have M:wr.cell? ⟨b,A+k,N⟩=S (T (bs l[k])):=(p.out.cell G).trans f;have R:=HS.out l[k] (QU g)
     have n:H (iV l k=(cm l[k] && !((l.take k).contains l[k]))):=K (by
      unfold iV
      rw [Hr l k g,Q5,Re g];rfl)
     obtain ⟨t,W⟩:=QE (l[k]);rw [W] at M R n;have z:wr.cell? ⟨0,0,N⟩=S (I J m):=(p.out.cell h0).trans hm;have u:=K (wH t m wr (by omega) z);have q:H (∀r,Y6 w.heap.size w r->Y8 Ys 232 #[L (S ⟨b,A,N⟩) k x,T (bs t)] r λe U=>e=YX (YW ((l.take k).contains t))/\r=U):=K (λr E=>nR (l.take k) t _ r ((HH.out.below E).part k hk) (by rw [Sm];omega));have a2:(0:Int)<=(k:Int):=by omega
     have a3:(k:Int)<=(x:Int):=by omega
     clear W f z
     cases C:cm t
     case false=>
      have o:H ((List.range l.length).all (iV l)=F):=K (eA g (by rw [n.out,C];rfl));rw [C] at u;go_wp2_with fail
      refine u.out.mono ?_;rintro e B ⟨rfl,c⟩;have d:=K (p.out.trans (c.mono p.out.size));clear c;go_wp2_with fail
      go_ret;exact ⟨b8 (by rw [s.out,o.out]),d.out⟩
     rw [C] at u n
     cases D:(l.take k).contains t
     case true=>
      have o:H ((List.range l.length).all (iV l)=F):=K (eA g (by rw [n.out,D];rfl));rw [D] at q;go_wp2_with fail
      refine u.out.mono ?_;rintro e B ⟨rfl,c⟩;have d:=K (p.out.trans (c.mono p.out.size));clear c;go_wp2_with fail
      refine (q.out B d.out).mono ?_;rintro e w2 ⟨rfl,rfl⟩;go_wp2_with fail
      go_ret;exact ⟨b8 (by rw [s.out,o.out]),d.out⟩
     rw [D] at q n;go_wp2_with fail
     refine u.out.mono ?_;rintro e B ⟨rfl,c⟩;have d:=K (p.out.trans (c.mono p.out.size));clear c;go_wp2_with fail
     refine (q.out B d.out).mono ?_;rintro e w2 ⟨rfl,rfl⟩;go_wp2_with fail
     refine ⟨⟨k+1,by omega,by go_num,K (λj P=>?_),d⟩,by simp [Y9];omega⟩
     rcases Tp j k with h | h
     .exact V.out j h
     have:j=k:=by omega
     subst this;rw [n.out];rfl
    have Q:k=l.length:=by omega
    subst Q;have o:H ((List.range l.length).all (iV l)=YT):=K (Rb.2 (λj P=>V.out j (Q8.1 P)));go_wp2_with fail
    go_ret;exact ⟨b8 (by rw [s.out,o.out]),p.out⟩
  have s:H (jh l=F):=K (by unfold jh;rw [decide_eq_false Y];simp);have y:decide ((l.length:Int) < 1)=F:=decide_eq_false (by omega);have O:decide (10 < (l.length:Int))=YT:=decide_eq_true (by omega);go_enter Xi,ntmps217;go_wp2_with fail
  go_ret;exact ⟨b8 s.out.symm,QQ _ _⟩
 have s:H (jh l=F):=K (by unfold jh;rw [decide_eq_false X];simp);have y:decide ((l.length:Int) < 1)=YT:=decide_eq_true (by omega);go_enter Xi,ntmps217;go_wp2_with fail
 go_ret;exact ⟨b8 s.out.symm,QQ _ _⟩
theorem Fk(O:aX)(v:QJ)(m:Int)(w:QI)(h:bg w v O.xd.length 1 (ah O.xd))(hz:dJ O)(hm:w.cell? ⟨0,0,N⟩=S (I J m)):Y8 Ys 153 #[YZ (bh O v)] w λe p=>e=YX (YW (cY O))/\Y6 w.heap.size w p:=by
 obtain ⟨C,c,g,j,d⟩:=O;obtain ⟨z1,z2,z3,z4,z5,z6⟩:=hz;simp only at h z1 z2 z3 z4 z5 z6;obtain ⟨a,x,rfl,_⟩:=h.one;simp only [bh];have h0:=au hm;have HH:=K h;have P:=K z5;have r:H (cY ⟨C,c,g,j,d⟩=(decide (c<=1000000000) && (g.isEmpty || cm g) && jh j && decide (d.length<=1000))):=K rfl;obtain ⟨G,y⟩:=QE (w.alloc (YU #[I J C,I J c,T (bs g),L a j.length x,T (bs d)] 91));have Q:=QG y;have V:G.heap.size=w.heap.size+1:=by rw [<-y];simp
 have hx:=QH y
 have HX:H (∀p,Y6 (w.heap.size+1) G p->Y6 w.heap.size w p/\p.cell? ⟨w.heap.size,1,N⟩=S (I J c)/\p.cell? ⟨w.heap.size,2,N⟩=S (T (bs g))/\p.cell? ⟨w.heap.size,3,N⟩=S (L a j.length x)/\p.cell? ⟨w.heap.size,4,N⟩=S (T (bs d))/\p.cell? ⟨0,0,N⟩=S (I J m)/\bg p (L a j.length x) j.length 1 (ah j)):=K (λp hb=>by
  have E:Y6 w.heap.size w p:=Q.trans (hb.mono (by omega));have X:p.heap[w.heap.size]? =_:=(hb.block w.heap.size (by omega)).trans hx
  exact ⟨E,Q3 X _,Q3 X _,Q3 X _,Q3 X _,(E.cell h0).trans hm,HH.out.below E⟩)
 obtain ⟨b0,x1,x2,x3,x4,U,_⟩:=HX.out G (QQ _ _);have sF:=aj g;have sB:=aj d;have u:=K y;have k:=K V;have q:=K b0;clear h z5 Q hx y V b0;have hd:∀b:Bool,decide ((c:Int)<=1000000000)=b->b=decide (c<=1000000000):=λb h=>by rw [<-h,Ri];simp;omega
 cases c1:decide ((c:Int)<=1000000000)
 case false=>
  have s:H (cY ⟨C,c,g,j,d⟩=F):=K (by rw [r.out,decide_eq_false (show ¬c<=1000000000 by simp at c1;omega)];rfl);clear hd;go_enter func153,ntmps153;go_wp2_with fail
  rw [u.out];go_ret;exact ⟨b8 s.out.symm,q.out⟩
 clear hd
 by_cases D:g=[]
 .have R:(bs g).toList=[]:=by rw [D,SF];rfl
  have a0:(bs g).toList.isEmpty=YT:=by rw [R];rfl
  have z:g.isEmpty=YT:=by rw [D];rfl
  have B:=K z;clear D z;have i:=K (zH j (L a j.length x) m G (HX.out G (by rw [<-k.out];exact QQ _ _)).2.2.2.2.2.2 (by omega) P.out U)
  cases o:jh j
  case false=>
   have s:H (cY ⟨C,c,g,j,d⟩=F):=K (by rw [r.out,o];simp);rw [o] at i;clear o r;go_enter func153,ntmps153;go_wp2_with fail
   rw [u.out];refine i.out.mono ?_;rintro e W ⟨rfl,f⟩;have l:=K (q.out.trans (f.mono (by rw [k.out];omega)));clear f;go_wp2_with fail
   go_ret;exact ⟨b8 s.out.symm,l.out⟩
  have s:H (cY ⟨C,c,g,j,d⟩=decide (d.length<=1000)):=K (by rw [r.out,o,decide_eq_true (show c<=1000000000 by simp at c1;omega),B.out];simp);rw [o] at i;clear o r;go_enter func153,ntmps153;go_wp2_with fail
  rw [u.out];refine i.out.mono ?_;rintro e W ⟨rfl,f⟩;have y4:W.cell? ⟨w.heap.size,4,N⟩=S (T (bs d)):=(f.cell (by show w.heap.size < _;rw [k.out];omega)).trans x4;have l:=K (q.out.trans (f.mono (by rw [k.out];omega)));clear f;go_wp2_with fail
  go_ret;refine ⟨b8 ?_,l.out⟩;rw [s.out,Ri];simp;omega
 have R:¬(bs g).toList=[]:=by rw [SF,ao];exact D
 have a0:(bs g).toList.isEmpty=F:=by rw [SF,ao];simpa using D
 have z:g.isEmpty=F:=by simpa using D
 have B:=K z;have t:=K (wH g m G (by omega) U);clear D z
 cases M:cm g
 case false=>
  have s:H (cY ⟨C,c,g,j,d⟩=F):=K (by rw [r.out,M,B.out];simp);rw [M] at t;clear M r;go_enter func153,ntmps153;go_wp2_with fail
  rw [u.out];refine t.out.mono ?_;rintro e Y ⟨rfl,n⟩;have A:=K (q.out.trans (n.mono (by rw [k.out];omega)));clear n;go_wp2_with fail
  go_ret;exact ⟨b8 s.out.symm,A.out⟩
 rw [M] at t;have Z:=K M;clear M;go_enter func153,ntmps153;go_wp2_with fail
 rw [u.out];refine t.out.mono ?_;rintro e Y ⟨rfl,n⟩;have A:=K (q.out.trans (n.mono (by rw [k.out];omega)));obtain ⟨_,y1,y2,y3,a3,a1,a2⟩:=HX.out Y (by rw [<-k.out];exact n);have a4:w.heap.size+1<=Y.heap.size:=by have:=n.size;rw [k.out] at this;exact this
 clear n x1 x2 x3 x4 t;have i:=K (zH j (L a j.length x) m Y a2 (by omega) P.out a1)
 cases o:jh j
 case false=>
  have s:H (cY ⟨C,c,g,j,d⟩=F):=K (by rw [r.out,o];simp);rw [o] at i;clear o r;go_wp2_with fail
  refine i.out.mono ?_;rintro e W ⟨rfl,f⟩;have l:=K (A.out.trans (f.mono (by omega)));clear f;go_wp2_with fail
  go_ret;exact ⟨b8 s.out.symm,l.out⟩
 have s:H (cY ⟨C,c,g,j,d⟩=decide (d.length<=1000)):=K (by rw [r.out,o,decide_eq_true (show c<=1000000000 by simp at c1;omega),B.out,Z.out];simp);rw [o] at i;clear o r;go_wp2_with fail
 refine i.out.mono ?_;rintro e W ⟨rfl,f⟩;have y4:W.cell? ⟨w.heap.size,4,N⟩=S (T (bs d)):=(f.cell (by show w.heap.size < _;omega)).trans a3;have l:=K (A.out.trans (f.mono (by omega)));clear f;go_wp2_with fail
 go_ret;refine ⟨b8 ?_,l.out⟩;rw [s.out,Ri];simp;omega
def oQ:aX:=⟨0,0,[],[],[]⟩
def CE(l:QF)(w:QI)(e:Ending)(w':QI):Prop:=
 (bP l=N/\e=YX (YY #[YZ (bh oQ (L N 0 0)),YW F])\/∃mm v,bP l=S mm/\e=YX (YY #[YZ (bh mm v),YW YT])/\w'.ownsRow w.heap.size 9 1 v mm.xd.length (ah mm.xd)/\dJ mm)/\Y6 w.heap.size w w'
structure RS(w wk:QI)(s:Nat)(o:Option QF)(I T:Nat)(f:QF)(v:QJ)(B:QF):Prop where
 fd:hJ wk (s+1) o
 res:cu wk s 0 0 [] (L N 0 0) []
 xu:cu wk (s+2) I T f v B
 below:Y6 s w wk
 size:s+3<=wk.heap.size
theorem hJ.same{w d:QI}{b s:Nat}{o:Option QF}(h:hJ w b o)(c:aA s w d)(a:b≠s):hJ d b o:=by
 cases o with
 | none=>obtain ⟨l,h⟩:=h;exact ⟨l,(c.2 b a).trans h⟩
 | some l=>exact ⟨(c.2 b a).trans h.1,h.2⟩
theorem hJ.xp{w c:QI}{b:Nat}{o:Option QF}(h:hJ w b o)(a:c.heap[b]? =w.heap[b]?):hJ c b o:=by
 cases o with
 | none=>obtain ⟨l,h⟩:=h;exact ⟨l,a.trans h⟩
 | some l=>exact ⟨a.trans h.1,h.2⟩
theorem RS.xG{w g c:QI}{s a b:Nat}{o e:Option QF}{f B:QF}{v:QJ}(h:RS w g s o a b f v B)(d:aA (s+1) g c)(i:hJ c (s+1) e):RS w c s e a b f v B:=
 ⟨i,h.res.same d (by omega),h.xu.same d (by omega),h.below.trans (d.below (by omega)),by rw [d.1];exact h.size⟩
theorem RS.xo{w e d:QI}{s a b:Nat}{o:Option QF}{f B:QF}{v:QJ}(h:RS w e s o a b f v B)(c:Y6 e.heap.size e d):RS w d s o a b f v B:=by
 have g:=h.size;refine ⟨h.fd.xp (c.block (s+1) (by omega)),?_,?_,h.below.trans (c.mono (by omega)),Rn h.size c.size⟩
 .have:=h.res;unfold cu at this ⊢;rw [c.block s (by omega)];exact this
 have:=h.xu;unfold cu at this ⊢;rw [c.block (s+2) (by omega)];exact this
theorem RS.cellAt{w c:QI}{s a b:Nat}{o:Option QF}{f B:QF}{v:QJ}(h:RS w c s o a b f v B)(j:Nat):c.cell? ⟨s+2,j,N⟩=(#[I J a,I J b,T (bs f),v,T (bs B)]:Array QJ)[j]? /\c.frozen? ⟨s+2,j,N⟩=F:=h.xu.cell j
theorem RS.set{w c:QI}{s a b I' T' j:Nat}{o:Option QF}{f B f' B':QF}{v v' u:QJ}(h:RS w c s o a b f v B)(e:(#[I J a,I J b,T (bs f),v,T (bs B)]:Array QJ).setIfInBounds j u=#[I J I',I J T',T (bs f'),v',T (bs B')]):RS w (c.setCell ⟨s+2,j,N⟩ u) s o I' T' f' v' B':=by
 have d:aA (s+2) c (c.setCell ⟨s+2,j,N⟩ u):=(aA.refl _ _).setCell _;refine ⟨h.fd.same d (by omega),h.res.same d (by omega),?_,h.below.trans (d.below (by omega)),by rw [d.1];exact h.size⟩
 have:=Ro c (s+2) j _ _ u h.xu;unfold cu;rw [this,e]
theorem RS.xY{w i q p:QI}{s a b n:Nat}{o:Option QF}{f B:QF}{v:QJ}{t:List QJ}(h:RS w i s o a b f v B)(r:i.ownsRow (s+3) 9 1 v n t)(g:Y6 i.heap.size i q)(l:q.grownBy p v.ownBlock):RS w p s o a b f v B:=by
 have x:=h.size;have c:∀j,v.ownBlock=S j->s+3<=j:=λj m=>(r.lt j m).1
 have d:∀k,k < s+3->p.heap[k]? =i.heap[k]? :=λk u=>by
  rw [l.block k (by have:=g.size;omega) (λe=>by have:=c k e.symm;omega),g.block k (by omega)]
 refine ⟨h.fd.xp (d _ (by omega)),?_,?_,?_,by have:=g.size;have:=l.size;omega⟩
 .have:=h.res;unfold cu at this ⊢;rw [d s (by omega)];exact this
 .have:=h.xu;unfold cu at this ⊢;rw [d (s+2) (by omega)];exact this
 exact (h.below.trans (g.mono (by omega))).grown l (by have:=g.size;omega) (λj m=>by have:=c j m;omega)
theorem rP(l:QF)(m:Int)(w:QI)(hl:l.length<=1048576)(hm:w.cell? ⟨0,0,N⟩=S (I J m)):Y8 Ys 96 #[T (bs l)] w (CE l w):=by
 have h0:=au hm;have sl:=aj l;obtain ⟨s,hs⟩:=QE w.heap.size;rw [hs] at h0;obtain ⟨W0,a3⟩:=QE ((w.alloc (YU #[I J 0,I J 0,T ⟨#[]⟩,L N 0 0,T ⟨#[]⟩] 91)).alloc (YU #[T (bs l),YW F] 166));have F0:hJ W0 (s+1) (S l):=⟨by rw [<-a3, <-hs];have:=Q0 (w.alloc (YU #[I J 0,I J 0,T ⟨#[]⟩,L N 0 0,T ⟨#[]⟩] 91)) (YU #[T (bs l),YW F] 166);simpa using this,by unfold maxLen;omega⟩
 have R0:cu W0 s 0 0 [] (L N 0 0) []:=by
  unfold cu;rw [<-a3, <-hs,((QQ (w.alloc (YU #[I J 0,I J 0,T ⟨#[]⟩,L N 0 0,T ⟨#[]⟩] 91)).heap.size _).alloc (QR _) _).block w.heap.size (by simp)];exact Q0 w _
 have B0:Y6 s w W0:=by rw [<-a3];exact ((QQ _ _).alloc (by omega) _).alloc (by simp;omega) _
 have Z0:W0.heap.size=s+2:=by rw [<-a3, <-hs];simp
 have a0:=K (jC (s+1) 1 (S l) W0 F0 (by decide));have d2:=K a3;have a2:=K hs;have b3:=K R0;have b1:=K B0;have g8:=K Z0;clear a3 F0 R0 B0 Z0
 by_cases a7:l.take 1=[77]
 .obtain ⟨r,hr⟩:=QE (l.drop 1);have HL:H (l=77::r):=K (by rw [<-Rp 1 l,a7,hr];rfl)
  have e1:(S l).bind (bj 1)=S ([77],r):=by
   show bj 1 l=_;rw [HL.out];rfl
  have a1:H (bP l=(oO r).bind λm=>if cY m then S m else N):=K (by
   rw [HL.out];unfold bP;simp only;rw [if_pos trivial])
  rw [e1] at a0;have m6:r.length<=1048576:=by rw [<-hr,List.length_drop];omega
  clear e1 hr a7;go_enter func96,ntmps96;go_wp2_with fail
  rw [d2.out];refine a0.out.mono ?_;rintro e w1 ⟨rfl,G,B⟩
  have m1:((bs (ij (S ([77],r)))).toList == [77])=YT:=by
   show ((bs [77]).toList == [77])=YT;rw [kT];rfl
  have F1:hJ w1 (s+1) (S r):=G;have X:=b3.out.same B (by omega);have B1:=b1.out.trans (B.below (by omega));have Z1:w1.heap.size=s+2:=B.1.trans g8.out;obtain ⟨W2,a8⟩:=QE (w1.alloc (YU #[I J 0,I J 0,T ⟨#[]⟩,L N 0 0,T ⟨#[]⟩] 91))
  have S2:RS w W2 s (S r) 0 0 [] (L N 0 0) []:=by
   have hb:=QG a8;refine ⟨F1.xp (hb.block (s+1) (by omega)),?_,?_,B1.trans (hb.mono (by omega)),by rw [<-a8];simp;omega⟩
   .unfold cu at X ⊢;rw [hb.block s (by omega)];exact X
   unfold cu;rw [<-a8, <-Z1];exact Q0 w1 _
  have c7:=K S2;have f9:=K a8;clear G B F1 X B1 a0 b3 b1 g8 d2 S2 a8;obtain ⟨d,o1,hI⟩:∃d o1,gA 4 (S r)=(d,o1):=⟨_,_,rfl⟩;have k6:d<=4294967295:=by have:=nG 4 (S r);rw [hI] at this;simp at this;omega
  have E:Y8 Ys 93 #[YV (S ⟨s+1,0,N⟩),I J 4] W2 λe A=>e=YX (I J (gA 4 (S r)).1)/\hJ A (s+1) (gA 4 (S r)).2/\aA (s+1) W2 A:=dQ (s+1) 4 (S r) W2 c7.out.fd (by decide);rw [hI] at E;have Z:=K E;have HI:=K hI;clear E hI;go_wp2_with fail
  rw [f9.out];refine Z.out.mono ?_;rintro e w3 ⟨rfl,G,B⟩;have S3:=c7.out.xG B G;obtain ⟨c0,f0⟩:=S3.cellAt 0;have d6:RS w (w3.setCell ⟨s+2,0,N⟩ (I J d)) s o1 d 0 [] (L N 0 0) []:=S3.set rfl;obtain ⟨W3,e0⟩:=QE (w3.setCell ⟨s+2,0,N⟩ (I J d));rw [e0] at d6;have c8:=K d6;have g5:=K e0;clear G B S3 d6 e0 Z c7 f9;obtain ⟨b,o2,hT⟩:∃b o2,gA 4 o1=(b,o2):=⟨_,_,rfl⟩;have k7:b<=4294967295:=by have:=nG 4 o1;rw [hT] at this;simp at this;omega
  have E:Y8 Ys 93 #[YV (S ⟨s+1,0,N⟩),I J 4] W3 λe A=>e=YX (I J (gA 4 o1).1)/\hJ A (s+1) (gA 4 o1).2/\aA (s+1) W3 A:=dQ (s+1) 4 o1 W3 c8.out.fd (by decide);rw [hT] at E;have Z:=K E;have HT:=K hT;clear E hT;go_wp2_with fail
  rw [g5.out];refine Z.out.mono ?_;rintro e w4 ⟨rfl,G,B⟩;have S4:=c8.out.xG B G;obtain ⟨c1,f1⟩:=S4.cellAt 1;have d7:RS w (w4.setCell ⟨s+2,1,N⟩ (I J b)) s o2 d b [] (L N 0 0) []:=S4.set rfl;obtain ⟨W4,e2⟩:=QE (w4.setCell ⟨s+2,1,N⟩ (I J b));rw [e2] at d7;have d0:=K d7;have g6:=K e2;clear G B S4 d7 e2 Z c8 g5 c0 f0;obtain ⟨f,o3,hf⟩:∃f o3,kY 1 o2=(f,o3):=⟨_,_,rfl⟩;have k9:f.length<=255:=by have:=vj 1 o2;rw [hf] at this;simp at this;omega
  have E:Y8 Ys 151 #[YV (S ⟨s+1,0,N⟩),I J 1] W4 λe A=>e=YX (T (bs (kY 1 o2).1))/\hJ A (s+1) (kY 1 o2).2/\aA (s+1) W4 A:=ql (s+1) 1 o2 W4 d0.out.fd (by decide);rw [hf] at E;have Z:=K E;have HF:=K hf;have sf:=aj f;clear E hf;go_wp2_with fail
  rw [g6.out];refine Z.out.mono ?_;rintro e w5 ⟨rfl,G,B⟩;have f5:=K (d0.out.xG B G);have V:=K (iX (bs f) w5 (by omega));clear G B Z d0 g6 c1 f1;go_wp2_with fail
  refine V.out.mono ?_;rintro e w6 ⟨rfl,h7⟩;have S6:=f5.out.xo h7;obtain ⟨c2,f2⟩:=S6.cellAt 2;have d8:RS w (w6.setCell ⟨s+2,2,N⟩ (T (bs f))) s o3 d b f (L N 0 0) []:=S6.set rfl;obtain ⟨W6,e3⟩:=QE (w6.setCell ⟨s+2,2,N⟩ (T (bs f)));rw [e3] at d8;have d1:=K d8;have g7:=K e3;clear h7 S6 d8 e3 V f5;obtain ⟨p,o4,hN⟩:∃p o4,gA 1 o3=(p,o4):=⟨_,_,rfl⟩;have m4:p<=255:=by have:=nG 1 o3;rw [hN] at this;simp at this;omega
  have E:Y8 Ys 93 #[YV (S ⟨s+1,0,N⟩),I J 1] W6 λe A=>e=YX (I J (gA 1 o3).1)/\hJ A (s+1) (gA 1 o3).2/\aA (s+1) W6 A:=dQ (s+1) 1 o3 W6 d1.out.fd (by decide);rw [hN] at E;have Z:=K E;have HN:=K hN;clear E hN;go_wp2_with fail
  rw [g7.out];refine Z.out.mono ?_;rintro e w7 ⟨rfl,G,B⟩;have f6:=K (d1.out.xG B G);clear G B Z d1 g7 c2 f2;go_wp2_with fail
  obtain ⟨is,l0,h9,i0,i1⟩:=Rr kj;go_loopw [19] (λi A=>∃(k:Nat) (v:QJ) (C:List QF) (o:Option QF),k<=p/\i=I J k/\H (jJ k o4=(C,o))/\H (RS w A s o d b f v [])/\H (A.ownsRow (s+3) 9 1 v k (ah C))) (λi _=>p - (Y9 i).toNat)
  case atStart=>exact ⟨0,_,[],o4,QS _,rfl,K rfl,f6,K (World.ownsRow_nil _ _ _ _)⟩
  case round=>
   clear f6;obtain ⟨k,v,C,o,hk,rfl,b5,HS,HO⟩:=hrel
   obtain ⟨M,R,P,rfl⟩:∃a n c,v=L a n c:=by
    rcases HO.out.2 with ⟨e,_⟩ | ⟨g,m0,m2,e,_⟩
    .exact ⟨_,_,_,e⟩
    exact ⟨_,_,_,e⟩
   by_cases m5:k < p
   .have l7:(k:Int) < (p:Int):=by omega
    obtain ⟨t,o',ht⟩:∃t o',kY 1 o=(t,o'):=⟨_,_,rfl⟩;have m7:t.length<=255:=by have:=vj 1 o;rw [ht] at this;simp at this;omega
    have st:=aj t;have i4:H (jJ (k+1) o4=(C++[t],o')):=K (by rw [jJ,b5.out];simp only [ht])
    have i8:H (∀A,hJ A (s+1) o->Y8 Ys 151 #[YV (S ⟨s+1,0,N⟩),I J 1] A λe Y=>e=YX (T (bs t))/\hJ Y (s+1) o'/\aA (s+1) A Y):=K (λA h'=>by
     have E:Y8 Ys 151 #[YV (S ⟨s+1,0,N⟩),I J 1] A λe Y=>e=YX (T (bs (kY 1 o).1))/\hJ Y (s+1) (kY 1 o).2/\aA (s+1) A Y:=ql (s+1) 1 o A h' (by decide);rw [ht] at E
     exact E)
    have V:H (∀A,Y8 Ys 48 #[T (bs t)] A λe Y=>e=YX (T (bs t))/\Y6 A.heap.size A Y):=K (λA=>iX (bs t) A (by omega));have Sd:H (RS w wr.drew s o d b f (L M R P) []):=K (HS.out.xo ((QQ _ _).drew));have Od:H (wr.drew.ownsRow (s+3) 9 1 (L M R P) k (ah C)):=K HO.out.drew;have c3:wr.drew.cell? ⟨s+2,3,N⟩=S (L M R P):=(Sd.out.cellAt 3).1;have l8:wr.cell? ⟨s+2,3,N⟩=S (L M R P):=(HS.out.cellAt 3).1;clear ht;go_wp2_with fail
    go_region_law (first
     | (refine Rs _ (by rfl) _ _ _ (by rfl) (s+3) 9 is _ 1 16 underlying30 l0 h9 i0 i1 rfl (by decide) (L M R P) k (ah C) (by rfl) (g9.out.alloc _) ⟨U.heap.size,0,N⟩ 1 1 [T (bs t)] (by rfl) (by rfl) (World.news_of_block (cs:=#[T (bs t)]) (t:=9) (fr:=(0,0)) (Q0 U _)) (by simp [Value.oneCell']) (by decide) (by unfold maxLen;omega) (by omega) (by simp;omega) (U.heap.size+1) (by simp) ?_;intro ga O z b7 b0 k8 l2;have q:=K (d5.out.xY g9.out ((QQ _ _).alloc (QR _) _) b0);have l3:z.cell? ⟨s+2,3,N⟩=S (L M R P):=(q.out.cellAt 3).1;have k5:=(q.out.cellAt 3).2;have l4:(z.setCell ⟨s+2,3,N⟩ (L (S ⟨ga,0,N⟩) (k+1) O)).cell? ⟨s+2,3,N⟩=S (L (S ⟨ga,0,N⟩) (k+1) O):=((q.out.set (u:=L (S ⟨ga,0,N⟩) (k+1) O) rfl).cellAt 3).1;have e9:=K b7;clear b7 b0 k8)
     | (go_simp;go_at_call 151;refine (i8.out _ Sd.out.fd).mono ?_;rintro e w9 ⟨rfl,G,B⟩;have S9:=K (Sd.out.xG B G);have O9:=K (bM Od.out B (by omega));have c9:w9.cell? ⟨s+2,3,N⟩=S (L M R P):=(S9.out.cellAt 3).1;clear G B;dsimp only)
     | (go_simp;go_at_call 48;refine (V.out _).mono ?_;rintro e U ⟨rfl,a9⟩;have d5:=K (S9.out.xo a9);have g9:=K (aV (aE.below (ts:=[]) a9) (by simp) O9.out);have h4:U.cell? ⟨s+2,3,N⟩=S (L M R P):=(d5.out.cellAt 3).1;have m8:=d5.out.size;have l6:∀o:Obj,(U.alloc o).cell? ⟨s+2,3,N⟩=S (L M R P):=(λo=>(((QQ U.heap.size U).alloc (QR _) o).cell (au h4)).trans h4);clear a9;dsimp only))
    all_goals
     have j2:=K (q.out.set (j:=3) (u:=L (S ⟨ga,0,N⟩) (k+1) O) (I':=d) (T':=b) (f':=f) (B':=[]) (v':=L (S ⟨ga,0,N⟩) (k+1) O) rfl);have j1:=K (bM e9.out (show aA (s+2) z (z.setCell ⟨s+2,3,N⟩ (L (S ⟨ga,0,N⟩) (k+1) O)) from (aA.refl _ _).setCell _) (by omega));clear l3 k5 l4 e9 q;go_wp2_with fail
     exact ⟨⟨k+1,_,C++[t],o',by omega,by go_num,i4,j2,K (by rw [show ah (C++[t])=ah C++[T (bs t)] by simp [ah]];exact j1.out)⟩,by simp [Y9];omega⟩
   have l1:k=p:=by omega
   subst l1;have h5:C.length=k:=by have:=Cu k o4;rw [b5.out] at this;exact this
   have h6:∀t∈C,t.length < 256:=by have:=GF k o4;rw [b5.out] at this;exact this
   have f8:=K h5;have i6:=K h6;obtain ⟨D,o6,hD⟩:∃D o6,kY 2 o=(D,o6):=⟨_,_,rfl⟩;have m3:D.length<=65535:=by have:=vj 2 o;rw [hD] at this;simp at this;omega
   have b2:H (oO r=if o6=S [] then S ⟨d,b,f,C,D⟩ else N):=K (Iz r HI.out HT.out HF.out HN.out b5.out hD);have E:Y8 Ys 151 #[YV (S ⟨s+1,0,N⟩),I J 2] wr λe A=>e=YX (T (bs (kY 2 o).1))/\hJ A (s+1) (kY 2 o).2/\aA (s+1) wr A:=ql (s+1) 2 o wr HS.out.fd (by decide);rw [hD] at E;have Z:=K E;have sD:=aj D;clear E hD h5 h6;go_wp2_with fail
   refine Z.out.mono ?_;rintro e w8 ⟨rfl,G,B⟩;have f7:=K (HS.out.xG B G);have e8:=K (bM HO.out B (by omega));have V:=K (iX (bs D) w8 (by omega));clear G B Z HS HO;go_wp2_with fail
   refine V.out.mono ?_;rintro e w9 ⟨rfl,e5⟩;have S9:=f7.out.xo e5;have O9:=aV (aE.below (ts:=[]) e5) (by simp) e8.out;obtain ⟨c4,f4⟩:=S9.cellAt 4;have k0:w9.cell? ⟨s+2,0,N⟩=S (I J d):=(S9.cellAt 0).1;have k1:w9.cell? ⟨s+2,1,N⟩=S (I J b):=(S9.cellAt 1).1;have k2:w9.cell? ⟨s+2,2,N⟩=S (T (bs f)):=(S9.cellAt 2).1;have k3:w9.cell? ⟨s+2,3,N⟩=S (L M R P):=(S9.cellAt 3).1;have b6:RS w (w9.setCell ⟨s+2,4,N⟩ (T (bs D))) s o6 d b f (L M R P) D:=S9.set rfl;have d4:(w9.setCell ⟨s+2,4,N⟩ (T (bs D))).ownsRow (s+3) 9 1 (L M R P) k (ah C):=bM O9 (show aA (s+2) w9 _ from (aA.refl _ _).setCell _) (by omega);obtain ⟨W9,e4⟩:=QE (w9.setCell ⟨s+2,4,N⟩ (T (bs D)));rw [e4] at b6 d4;have y:=K b6;have a5:=K d4;have d3:=K e4;have c6:=K (wm (s+1) o6 W9 b6.fd);clear e5 S9 O9 b6 d4 e4 V f7 e8;go_wp2_with fail
   rw [d3.out];refine c6.out.mono ?_;rintro e U ⟨rfl,rfl⟩
   cases hq:decide (o6=S [])
   case false=>
    have a6:H (bP l=N):=K (by rw [a1.out,b2.out,if_neg (by simpa using hq)];rfl);have r0:W9.cell? ⟨s,0,N⟩=S (I J 0):=(y.out.res.cell 0).1;have g0:=(y.out.res.cell 0).2;have r1:W9.cell? ⟨s,1,N⟩=S (I J 0):=(y.out.res.cell 1).1;have g1:=(y.out.res.cell 1).2;have r2:W9.cell? ⟨s,2,N⟩=S (T ⟨#[]⟩):=(y.out.res.cell 2).1;have g2:=(y.out.res.cell 2).2;have r3:W9.cell? ⟨s,3,N⟩=S (L N 0 0):=(y.out.res.cell 3).1;have g3:=(y.out.res.cell 3).2;have r4:W9.cell? ⟨s,4,N⟩=S (T ⟨#[]⟩):=(y.out.res.cell 4).1;have g4:=(y.out.res.cell 4).2;have i3:=K y.out.below;clear y a5 d3 c6 k0 k1 k2 k3 c4 f4 a1 b2 hq;go_wp2_with fail
    refine Ru (v:=YY #[YZ (bh oQ (L N 0 0)),YW F]) (by simp [results,results96,go_sem,oQ,bh,bs, *]) rfl ?_;refine ⟨Y4 ⟨a6.out,rfl⟩,?_⟩;rw [a2.out];exact ((((i3.out.setCell (QR _) _).setCell (QR _) _).setCell (QR _) _).setCell (QR _) _).setCell (QR _) _
   have e6:dJ ⟨d,b,f,C,D⟩:=⟨k6,k7,k9,by show C.length<=255;have:=f8.out;omega,λx hx=>by have:=i6.out x hx;omega,by show D.length<=1048576;omega⟩
   have d9:(⟨d,b,f,C,D⟩:aX).xd.length=k:=f8.out;have c5:bg W9 (L M R P) (⟨d,b,f,C,D⟩:aX).xd.length 1 (ah (⟨d,b,f,C,D⟩:aX).xd):=by rw [d9];exact iQ a5.out
   have h8:W9.cell? ⟨0,0,N⟩=S (I J m):=(y.out.below.cell (by rw [<-a2.out];exact au hm)).trans hm;have W:=K (Fk ⟨d,b,f,C,D⟩ (L M R P) m W9 c5 e6 h8);have b4:H (bP l=if cY ⟨d,b,f,C,D⟩ then S ⟨d,b,f,C,D⟩ else N):=K (by rw [a1.out,b2.out,if_pos (by simpa using hq)];rfl);have q0:W9.cell? ⟨s+2,0,N⟩=S (I J d):=(y.out.cellAt 0).1;have q1:W9.cell? ⟨s+2,1,N⟩=S (I J b):=(y.out.cellAt 1).1;have q2:W9.cell? ⟨s+2,2,N⟩=S (T (bs f)):=(y.out.cellAt 2).1;have q3:W9.cell? ⟨s+2,3,N⟩=S (L M R P):=(y.out.cellAt 3).1;have q4:W9.cell? ⟨s+2,4,N⟩=S (T (bs D)):=(y.out.cellAt 4).1;have i9:=K e6;have i5:=K d9;simp only [bh] at W;clear e6 d9 c5 h8 d3 c6 k0 k1 k2 k3 c4 f4 a1 b2 hq
   cases hM:cY ⟨d,b,f,C,D⟩
   case false=>
    have a6:H (bP l=N):=K (by rw [b4.out,hM];rfl);rw [hM] at W;clear hM b4;go_wp2_with fail
    refine W.out.mono ?_;rintro e z ⟨rfl,Q⟩;have q:=y.out.xo Q;have r0:z.cell? ⟨s,0,N⟩=S (I J 0):=(q.res.cell 0).1;have g0:=(q.res.cell 0).2;have r1:z.cell? ⟨s,1,N⟩=S (I J 0):=(q.res.cell 1).1;have g1:=(q.res.cell 1).2;have r2:z.cell? ⟨s,2,N⟩=S (T ⟨#[]⟩):=(q.res.cell 2).1;have g2:=(q.res.cell 2).2;have r3:z.cell? ⟨s,3,N⟩=S (L N 0 0):=(q.res.cell 3).1;have g3:=(q.res.cell 3).2;have r4:z.cell? ⟨s,4,N⟩=S (T ⟨#[]⟩):=(q.res.cell 4).1;have g4:=(q.res.cell 4).2;have a4:=K q.below;clear q Q y a5 W q0 q1 q2 q3 q4;go_wp2_with fail
    refine Ru (v:=YY #[YZ (bh oQ (L N 0 0)),YW F]) (by simp [results,results96,go_sem,oQ,bh,bs, *]) rfl ?_;refine ⟨Y4 ⟨a6.out,rfl⟩,?_⟩;rw [a2.out];exact ((((a4.out.setCell (QR _) _).setCell (QR _) _).setCell (QR _) _).setCell (QR _) _).setCell (QR _) _
   have a6:H (bP l=S ⟨d,b,f,C,D⟩):=K (by rw [b4.out,hM];rfl);rw [hM] at W;clear hM b4;go_wp2_with fail
   refine W.out.mono ?_;rintro e z ⟨rfl,Q⟩;have q:=y.out.xo Q;have h3:=aV (aE.below (ts:=[]) Q) (by simp) a5.out;have r0:z.cell? ⟨s,0,N⟩=S (I J 0):=(q.res.cell 0).1;have g0:=(q.res.cell 0).2;have r1:z.cell? ⟨s,1,N⟩=S (I J 0):=(q.res.cell 1).1;have g1:=(q.res.cell 1).2;have r2:z.cell? ⟨s,2,N⟩=S (T ⟨#[]⟩):=(q.res.cell 2).1;have g2:=(q.res.cell 2).2;have r3:z.cell? ⟨s,3,N⟩=S (L N 0 0):=(q.res.cell 3).1;have g3:=(q.res.cell 3).2;have r4:z.cell? ⟨s,4,N⟩=S (T ⟨#[]⟩):=(q.res.cell 4).1;have g4:=(q.res.cell 4).2;have p0:z.cell? ⟨s+2,0,N⟩=S (I J d):=(q.cellAt 0).1;have p1:z.cell? ⟨s+2,1,N⟩=S (I J b):=(q.cellAt 1).1;have p2:z.cell? ⟨s+2,2,N⟩=S (T (bs f)):=(q.cellAt 2).1;have p3:z.cell? ⟨s+2,3,N⟩=S (L M R P):=(q.cellAt 3).1;have p4:z.cell? ⟨s+2,4,N⟩=S (T (bs D)):=(q.cellAt 4).1;have a4:=K q.below;have e7:=K h3;have l5:=K q.res;clear q h3 Q y a5 W q0 q1 q2 q3 q4;go_wp2_with fail
   refine Ru (v:=YY #[YZ (bh ⟨d,b,f,C,D⟩ (L M R P)),YW YT]) (by simp [results,results96,go_sem,bh, *]) rfl ?_;refine ⟨Y5 ⟨⟨d,b,f,C,D⟩,L M R P,a6.out,rfl,?_,i9.out⟩,?_⟩
   .rw [a2.out,i5.out];refine World.ownsRow.mono (base:=s+3) ?_ (by omega);have hS:∀(u:QI) (j:Nat) (x:QJ),u.ownsRow (s+3) 9 1 (L M R P) k (ah C)->(u.setCell ⟨s,j,N⟩ x).ownsRow (s+3) 9 1 (L M R P) k (ah C):=λu j x h=>bM h (show aA s u _ from (aA.refl _ _).setCell _) (by omega);exact hS _ _ _ (hS _ _ _ (hS _ _ _ (hS _ _ _ (hS _ _ _ e7.out))))
   rw [a2.out];exact ((((a4.out.setCell (QR _) _).setCell (QR _) _).setCell (QR _) _).setCell (QR _) _).setCell (QR _) _
 have a1:H (bP l=N):=K (by
  cases l with
  | nil=>rfl
  | cons c r=>
   have E:¬c=77:=λe=>a7 (by rw [e];rfl);unfold bP;simp only
   rw [if_neg E])
 have m1:((bs (ij ((S l).bind (bj 1)))).toList == [77])=F:=by
  rw [kT]
  cases l with
  | nil=>rfl
  | cons c r=>
   have E:¬c=77:=λe=>a7 (by rw [e];rfl);show ([c] == [77])=F;simpa using E
 obtain ⟨t,et⟩:=QE (ij ((S l).bind (bj 1)));rw [et] at m1 a0;clear a7 et;go_enter func96,ntmps96;go_wp2_with fail
 rw [d2.out];refine a0.out.mono ?_;rintro e w1 ⟨rfl,G,B⟩;have X:=b3.out.same B (by omega);have k0:w1.cell? ⟨s,0,N⟩=S (I J 0):=(X.cell 0).1;have k1:w1.cell? ⟨s,1,N⟩=S (I J 0):=(X.cell 1).1;have k2:w1.cell? ⟨s,2,N⟩=S (T ⟨#[]⟩):=(X.cell 2).1;have k3:w1.cell? ⟨s,3,N⟩=S (L N 0 0):=(X.cell 3).1;have k4:w1.cell? ⟨s,4,N⟩=S (T ⟨#[]⟩):=(X.cell 4).1;have f0:=(X.cell 0).2;have f1:=(X.cell 1).2;have f2:=(X.cell 2).2;have f3:=(X.cell 3).2;have f4:=(X.cell 4).2;have i2:=K (b1.out.trans (B.below (by omega)));clear G B X a0 b3 b1;go_wp2_with fail
 refine Ru (v:=YY #[YZ (bh oQ (L N 0 0)),YW F]) (by simp [results,results96,go_sem,oQ,bh,bs, *]) rfl ?_;refine ⟨Y4 ⟨a1.out,rfl⟩,?_⟩;rw [a2.out];exact ((((i2.out.setCell (QR _) _).setCell (QR _) _).setCell (QR _) _).setCell (QR _) _).setCell (QR _) _
def fZ.now(x:fZ):aX:=⟨x.m.id,x.m.time,x.m.xk,(fL x.out x.out.length).map λi=>x.m.xd.getD i [],x.m.body⟩
def iM(l:List fZ):List aX:=(l.map fZ.now).filter λm=> !m.xd.isEmpty
theorem tY(l:List fZ)(x:fZ):iM (l++[x])=iM l++(if x.now.xd.isEmpty then [] else [x.now]):=by
 unfold iM;rw [Sh,Uk]
 cases h:x.now.xd.isEmpty <;> simp [h]
def gC(l:List (aX×QJ)):List QJ:=l.flatMap λx=>(bh x.1 x.2).toList
theorem Ds(l:List (aX×QJ))(x:aX×QJ):gC (l++[x])=gC l++(bh x.1 x.2).toList:=by
 simp [gC]
def fW(w:QI)(v:QJ)(ms:List aX):Prop:=
 ∃l:List (aX×QJ),l.map (·.1)=ms/\bg w v l.length 5 (gC l)/\∀x∈l,bg w x.2 x.1.xd.length 1 (ah x.1.xd)
def dz(base:Nat)(w:QI)(v:QJ)(l:List (aX×QJ)):Prop:=
 w.ownsRow base 91 5 v l.length (gC l)/\∀x∈l,w.ownsRow base 9 1 x.2 x.1.xd.length (ah x.1.xd)
theorem pv:(prog.info? 91).map (λi=>(i.zero,i.size,i.bytes))=S (S (YZ #[I J 0,I J 0,T ⟨#[]⟩,L N 0 0,T ⟨#[]⟩]),5,72):=by kernel_rfl
theorem bq{w:QI}{a n f:Nat}{e:Za}{v:QJ}{i:List QJ}(h:w.ownsRow a e f v n i):bg w v n f i:=by
 refine ⟨h.1,?_⟩
 rcases h.2 with ⟨b,m⟩ | ⟨g,k,l,b,_,o,c,_,_,d⟩
 .exact Y4 ⟨m,N,0,b⟩
 refine Y5 ⟨g,0,k,b,c,λj p=>?_⟩;rw [Nat.zero_add,Q3 o, <-Sl, <-Sk p,d]
theorem dz.at{a:Nat}{w:QI}{v:QJ}{l:List (aX×QJ)}(h:dz a w v l):fW w v (l.map (·.1)):=
 ⟨l,rfl,bq h.1,λx b=>bq (h.2 x b)⟩
theorem dz.touch{a:Nat}{w c:QI}{v:QJ}{l:List (aX×QJ)}{ts:List Za}(h:dz a w v l)(b:aE ts w c)(d:91 ∉ ts)(e:9 ∉ ts):dz a c v l:=
 ⟨aV b d h.1,λx f=>aV b e (h.2 x f)⟩
structure Qe(base:Nat)(w:QI)(p K n:Nat)(x:fZ)(g cL gt ct bo:Nat):Prop where
 head:w.cell? ⟨p,0,N⟩=S (L (S ⟨g,0,N⟩) n cL)
 k0:w.cell? ⟨g,K * 6,N⟩=S (I J x.m.id)
 k1:w.cell? ⟨g,K * 6+1,N⟩=S (I J x.m.time)
 k2:w.cell? ⟨g,K * 6+2,N⟩=S (T (bs x.m.xk))
 k3:w.cell? ⟨g,K * 6+3,N⟩=S (L (S ⟨gt,0,N⟩) x.m.xd.length ct)
 k4:w.cell? ⟨g,K * 6+4,N⟩=S (T (bs x.m.body))
 k5:w.cell? ⟨g,K * 6+5,N⟩=S (L (S ⟨bo,0,N⟩) x.out.length x.out.length)
 item:og base w (x,L (S ⟨gt,0,N⟩) x.m.xd.length ct,bo)
theorem bz.entry{c p a:Nat}{b:aa}{w:QI}(h:bz c w p b)(V:a < b.items.length):∃g q j f E,Qe c w p a b.items.length b.items[a] g q j f E:=by
 obtain ⟨X,l,D,W,O,n,U,t⟩:=h;have m:b.items.length=l.length:=by rw [<-D,RU]
 have d:a < l.length:=by omega
 have o:l[a].1=b.items[a]:=by
  have:(l.map (·.1))[a]'(by simpa using d)=b.items[a]:=by simp only [D]
  simpa using this
 have s:=t l[a] (QU d)
 obtain ⟨j,f,C⟩:∃j f,l[a].2.1= .slice (S ⟨j,0,N⟩) l[a].1.m.xd.length f:=by
  rcases s.1.2 with ⟨_,M⟩ | ⟨g,G,r,e,_⟩
  .have:=s.2.2.2.2.1;omega
  exact ⟨g,G,e⟩
 rcases n.2 with ⟨_,M⟩ | ⟨g,q,r,e,_,P,R,_,_,u⟩
 .omega
 subst e
 have k:∀i,i < 6->w.cell? ⟨g,a * 6+i,N⟩=(cE l[a])[i]? :=λi Q=>by
  rw [Q3 P, <-Sl, <-Sk (show a * 6+i < l.length * 6 by omega),u,mh l a i d Q]
 have v:=k 0 (by decide);have x:=k 1 (by decide);have y:=k 2 (by decide);have z:=k 3 (by decide);have A:=k 4 (by decide);have B:=k 5 (by decide);simp only [cE,List.getElem?_cons_zero,List.getElem?_cons_succ,Nat.add_zero,C,o] at v x y z A B;refine ⟨g,q,j,f,l[a].2.2,?_,v,x,y,z,A,B,?_⟩
 .rw [m,Q3 O];rfl
 have e:(b.items[a],L (S ⟨j,0,N⟩) b.items[a].m.xd.length f,l[a].2.2)=l[a]:=by
  rw [<-o, <-C]
 rw [e];exact s
structure JM(wo w11:QI)(q id time:Nat)(xk body:QF)(v vl:QJ)(n:Nat)(xs:List QJ)(k:Nat)(Ts:List QF):Prop where
 xu:cu w11 q id time xk v body
 own:w11.ownsRow (q+1) 9 1 v k (ah Ts)
 ints:w11.ownsRow (q+1) 3 1 vl n xs
 below:Y6 q wo w11
 size:q+1<=w11.heap.size
theorem IJ{M f b:QI}{q y d n k:Nat}{z c t:QF}{v p G:QJ}{O:List QJ}{l:List QF}{o:Obj}(Q:cu f q y d z v c)(B:f.ownsRow (q+1) 9 1 v k (ah l))(A:f.ownsRow (q+1) 3 1 G n O)(P:Y6 q M f)(X:q+1<=f.heap.size)
  (m:b.ownsRow (q+1) 9 1 p (k+1) (ah l++[T (bs t)])) (a:(f.alloc o).drew.grownBy b v.ownBlock):
  JM M (b.setCell ⟨q,3,N⟩ p) q y d z c p G n O (k+1) (l++[t]):=by
 have h:∀j,v.ownBlock=S j->q+1<=j:=λj w=>(B.lt j w).1;have x:q+1<=b.heap.size:=by have:=a.size;simp at this;omega
 have E:Y6 f.heap.size f (f.alloc o).drew:=((QQ _ _).alloc (QR _) o).drew
 have V:b.heap[q]? =S (YU #[I J y,I J d,T (bs z),v,T (bs c)] 91 (0,0)):=by
  rw [a.block q (by simp;omega) (λe=>by have:=h _ e.symm;omega),E.block q (by omega)];exact Q
 have r:aA q b (b.setCell ⟨q,3,N⟩ p):=(aA.refl _ _).setCell _;refine ⟨Ro b q 3 _ _ p V,?_,?_,?_,?_⟩
 .rw [show ah (l++[t])=ah l++[T (bs t)] by simp [ah]]
  exact bM m r (by omega)
 .refine bM ?_ r (by omega);refine ((A.alloc o).drew).kept a ?_
  rcases A.2 with ⟨e,_⟩ | ⟨g,R,U,e,_,W,_⟩
  .subst e;exact Y4 rfl
  refine Y5 λi=>?_
  rcases B.2 with ⟨s,_⟩ | ⟨Y,C,D,s,_,u,_⟩
  .rw [s,e] at i;cases i
  rw [s,e] at i;injection i with i;exact dN W u (by decide) i
 .exact (((P.trans (E.mono (by omega))).grown a (by simp;omega) (λj w=>by have:=h j w;omega))).trans (r.below (QR _))
 rw [r.1];exact x
theorem sY{z:Nat}{y c b:QI}{v w vt:QJ}{rows:List (aX×QJ)}{m:aX}{o:Obj}(E:∀x∈rows,c.ownsRow z 9 1 x.2 x.1.xd.length (ah x.1.xd))(r:c.ownsRow z 91 5 v rows.length (gC rows))(B:c.ownsRow z 9 1 vt m.xd.length (ah m.xd))(A:Y6 z y c)(O:z<=c.heap.size)
  (k:b.ownsRow z 91 5 w (rows.length+1) (gC rows++(bh m vt).toList)) (a:(c.alloc o).grownBy b v.ownBlock):dz z b w (rows++[(m,vt)])/\Y6 z y b:=by
 have i:∀(u:QJ) (n:Nat) (q:List QJ),c.ownsRow z 9 1 u n q->b.ownsRow z 9 1 u n q:=λu n q h=>by
  refine (h.alloc o).kept a ?_
  rcases h.2 with ⟨e,_⟩ | ⟨g,C,D,e,_,G,_⟩
  .subst e;exact Y4 rfl
  refine Y5 λd=>?_
  rcases r.2 with ⟨l,_⟩ | ⟨P,s,t,l,_,p,_⟩
  .rw [l,e] at d;cases d
  rw [l,e] at d;injection d with d;exact dN G p (by decide) d
 refine ⟨⟨?_,λx f=>?_⟩,?_⟩
 .rw [RI,Ds];exact k
 .rcases Rx.1 f with f | f
  .exact i _ _ _ (E x f)
  simp only [Ry] at f;subst f;exact i _ _ _ B
 exact (A.alloc O o).grown a (by simp;omega) (λj M=>(r.lt j M).1)
theorem DI(l:QF)(w:QI)(hl:l.length<=1048576):Y8 Ys 68 #[T (bs l)] w λe w'=>∃v,e=YX v/\fW w' v (iM (bn l).1.items)/\Y6 w.heap.size w w':=by
 obtain ⟨im,i8,f5,f6,f7⟩:=Rr pv;obtain ⟨is,i9,f9,g0,g4⟩:=Rr kj;have d1:=mg l w hl;have k1:=kr l;obtain ⟨f,eS⟩:=QE ((bn l).1);rw [eS] at d1 k1;rw [eS];clear eS;go_enter func68,ntmps68;go_wp2_with fail
 refine d1.mono ?_;rintro e w1 ⟨p,rfl,h1,h2⟩;have h7:=K h1;have d5:=K h2;clear h1 h2 d1;go_wp2_with fail
 obtain ⟨z,hz⟩:=QE w1.heap.size;have HZ:=K hz;go_loopw [5,6] (λv i w'=>∃(k:Nat) (B:List (aX×QJ)),k<=f.items.length/\i=I J k/\B.length<=k/\H (B.map (·.1)=iM (f.items.take k))/\H (dz z w' v B)/\H (Y6 z w1 w')) (λ_ i _=>f.items.length - (Y9 i).toNat)
 case atStart=>exact ⟨0,[],QS _,rfl,QR _,K (by simp [iM]),K ⟨World.ownsRow_nil _ _ _ _,λx hx=>by cases hx⟩,K (QQ _ _)⟩
 case round=>
  obtain ⟨k,B,hk,rfl,l4,HQ,HM,HB⟩:=hrel;obtain ⟨P,k3⟩:∃P:QI,P=wr:=⟨_,rfl⟩;subst k3;have e3:H (bz w.heap.size P p f):=K (h7.out.touch (aE.below (ts:=[]) (by rw [hz];exact HB.out)) (by simp) (by simp) (by simp) (by simp));have l6:z<=P.heap.size:=by have:=HB.out.size;omega
  clear hz
  by_cases f4:k < f.items.length
  .have k8:(k:Int) < (f.items.length:Int):=by omega
   obtain ⟨g,cL,gt,ct,bo,E⟩:=e3.out.entry f4;have a7:H (f.items.take (k+1)=f.items.take k++[f.items[k]]):=K (QV f4);obtain ⟨x,ex⟩:=QE (f.items[k]);rw [ex] at E a7;clear ex;obtain ⟨⟨W,y,X,C,s⟩,Z⟩:=x;obtain ⟨e0,a0,a1,a2,a3,a4,a5,hI⟩:=E;simp only at a0 a1 a2 a3 a4 a5;have HI:=K hI;have up:∀(o:Obj) (b j:Nat) (v:QJ),P.cell? ⟨b,j,N⟩=S v->(P.alloc o).cell? ⟨b,j,N⟩=S v:=λo b j v h=>(((QQ P.heap.size P).alloc (QR _) o).cell (au h)).trans h;have b0:=λo=>up o _ _ _ e0;have c0:=λo=>up o _ _ _ a0;have c1:=λo=>up o _ _ _ a1;have c2:=λo=>up o _ _ _ a2;have c3:=λo=>up o _ _ _ a3;have c4:=λo=>up o _ _ _ a4;have c5:=λo=>up o _ _ _ a5;clear hI up;obtain ⟨q,hq⟩:=QE P.heap.size;obtain ⟨W2,a8⟩:=QE (P.alloc (YU #[I J W,I J y,T (bs X),L (S ⟨gt,0,N⟩) C.length ct,T (bs s)] 91));have e9:cu W2 q W y X (L (S ⟨gt,0,N⟩) C.length ct) s:=by rw [<-a8, <-hq];exact Q0 P _
   have c7:Y6 q P W2:=by rw [<-a8];exact (QQ _ _).alloc (by omega) _
   have d0:W2.heap.size=q+1:=by rw [<-a8, <-hq];simp
   have b4:=Ga w.heap.size (⟨⟨W,y,X,C,s⟩,Z⟩,L (S ⟨gt,0,N⟩) C.length ct,bo) W2 (HI.out.touch (aE.below (ts:=[]) (by rw [hq];exact c7)) (by simp) (by simp));simp only [cE] at b4;obtain ⟨A,b2⟩:=QE (fL Z Z.length);have l1:A.length<=Z.length:=by rw [<-b2];exact qu _ _
   have i2:∀i∈A,i < C.length:=λi hi=>by
    rw [<-b2] at hi;unfold fL at hi;have h1:=Q8.1 (Ra.1 hi).1;have h2:=HI.out.2.2.2.1;simp only at h2;omega
   have l3:Z.length<=255:=by
    have h2:=HI.out.2.2.2.1;have h3:=HI.out.2.2.2.2.2.2.2.2.1;simp only at h2 h3;omega
   rw [d0,b2] at b4;have d8:=K b4;have e2:=K e9;have d6:=K c7;have Q:=K d0;have e6:=K a8;have Y:=K hq;clear b4 e9 c7 d0 a8;go_wp2_with fail
   rw [e6.out];refine d8.out.mono ?_;rintro e w3 ⟨vl,rfl,b5,O⟩;have b3:cu w3 q W y X (L (S ⟨gt,0,N⟩) C.length ct) s:=O.cells e2.out (by simp);obtain ⟨k9,l0⟩:=b3.cell 3
   have c8:Y6 q P w3:=by
    refine d6.out.trans ⟨O.still.1,O.still.2.1,O.still.2.2,O.size,λb hb=>?_⟩;have i4:b < W2.heap.size:=by have:=Q.out;omega
    have e:=Si i4;rw [e];exact O.block b _ e (by simp)
   have k4:q+1<=w3.heap.size:=by have:=O.size;have:=Q.out;omega
   have g8:=K b3;have g6:=K c8;have h5:=K b5;obtain ⟨w4,b6⟩:=QE (w3.setCell ⟨q,3,N⟩ (L N 0 0));have h4:aA q w3 w4:=by rw [<-b6];exact (aA.refl _ _).setCell _
   have M4:H (cu w4 q W y X (L N 0 0) s):=K (by rw [<-b6];exact Ro w3 q 3 _ _ (L N 0 0) b3);have B4:H (Y6 q P w4):=K (c8.trans (h4.below (QR _)));have O4:H (w4.ownsRow (q+1) 3 1 vl A.length (bc A)):=K (bM b5 h4 (by omega));have Z4:q+1<=w4.heap.size:=by rw [h4.1];exact k4
   have h9:=K b6
   obtain ⟨al,cl,rfl⟩:∃a c,vl=L a A.length c:=by
    rcases b5.2 with ⟨e,h0⟩ | ⟨g,b7,c6,e,_⟩
    .exact ⟨_,_,by rw [h0];exact e⟩
    exact ⟨_,_,e⟩
   clear b5 O b3 c8 e2 d6 Q e6 d8 b0 c0 c1 c2 c3 c4 c5 b6 h4 g6 h5 g8;clear hq;go_wp2_with fail
   rw [h9.out]
   have h6:H (p < q/\g < q/\gt < q):=K ⟨by rw [<-Y.out];exact au e0,by rw [<-Y.out];exact au a0,by
    rw [<-Y.out]
    rcases HI.out.1.2 with ⟨e,_⟩ | ⟨g',b7,c6,e,_,i5,_⟩
    .cases e
    injection e with e _ _;injection e with e;injection e with e _;subst e
    exact dq i5⟩
   have g7:=K e0;have g5:=K a3
   have h8:H (∀j (hj:j < C.length),P.cell? ⟨gt,j,N⟩=S (T (bs C[j]))):=K (λj hj=>by
    rcases HI.out.1.2 with ⟨e,_⟩ | ⟨b,cp,e8,e,_,hb,_,_,_,b1⟩
    .cases e
    injection e with e1 _ _;injection e1 with e1;injection e1 with e1 _;subst e1;rw [Q3 hb, <-Sl, <-Sk (show j < C.length * 1 by omega),b1]
    simp [ah,hj])
   have V:∀t∈C,t.length<=255:=HI.out.2.2.2.2.2.2.2.2.2.1;have e4:=K V;clear e0 a0 a1 a2 a3 a4 a5 V;go_loopw [9] (λi w'=>∃(j:Nat) (v:QJ),j<=A.length/\i=I J j/\H (cu w' q W y X v s)/\H (w'.ownsRow (q+1) 9 1 v j (ah ((A.take j).map λi=>C.getD i [])))/\H (w'.ownsRow (q+1) 3 1 (L al A.length cl) A.length (bc A))/\H (Y6 q P w')/\q+1<=w'.heap.size) (λi _=>A.length - (Y9 i).toNat)
   case atStart=>exact ⟨0,_,QS _,rfl,M4,K (World.ownsRow_nil _ _ _ _),O4,B4,Z4⟩
   case round=>
    clear M4 O4 B4 Z4;obtain ⟨j,v,hj,rfl,M4,V4,O4,B4,Z4⟩:=hrel;obtain ⟨k0,i6,f1⟩:=h6.out;have y0:wr.cell? ⟨p,0,N⟩=_:=(B4.out.cell (p:=⟨p,0,N⟩) (by show p < q;exact k0)).trans g7.out
    by_cases c9:j < A.length
    .have y3:wr.cell? ⟨g,k * 6+3,N⟩=_:=(B4.out.cell (p:=⟨g,k * 6+3,N⟩) (by show g < q;exact i6)).trans g5.out;have l2:(j:Int) < (A.length:Int):=by omega
     obtain ⟨x,ex⟩:=QE (A[j]);have d4:x < C.length:=by rw [<-ex];exact i2 _ (QU c9)
     have l5:(x:Int) < (C.length:Int):=by omega
     obtain ⟨b,rfl,yk⟩:∃b,al=S ⟨b,0,N⟩/\wr.cell? ⟨b,j,N⟩=S (I J (x:Int)):=by
      rcases O4.out.2 with ⟨_,h0⟩ | ⟨b,cp,e8,e,_,hb,_,_,_,b1⟩
      .omega
      injection e with e1 _ _;refine ⟨b,e1,?_⟩;rw [Q3 hb, <-Sl, <-Sk (show j < A.length * 1 by omega),b1];simp [bc,c9,ex]
     have yt:wr.cell? ⟨gt,x,N⟩=S (T (bs C[x])):=(B4.out.cell (p:=⟨gt,x,N⟩) (by show gt < q;exact f1)).trans (h8.out x d4);have k2:=e4.out C[x] (QU d4);obtain ⟨t,et⟩:=QE (C[x]);rw [et] at yt k2
     have e7:H ((A.take (j+1)).map (λi=>C.getD i [])=(A.take j).map (λi=>C.getD i [])++[t]):=K (by
      rw [QV c9,Sh,ex]
      simp [Q5,d4,et])
     obtain ⟨R,U⟩:∃R,(A.take j).map (λi=>C.getD i [])=R:=⟨_,rfl⟩;rw [U] at V4 e7
     obtain ⟨av,nv,cv,rfl⟩:∃a n c,v=L a n c:=by
      rcases V4.out.2 with ⟨e,_⟩ | ⟨g,b7,c6,e,_⟩
      .exact ⟨_,_,_,e⟩
      exact ⟨_,_,_,e⟩
     obtain ⟨d3,f3⟩:=M4.out.cell 3;have d2:=V4.out;have e5:=K d2;have m3:wr.cell? ⟨q,3,N⟩=S (L av nv cv):=d3;have k6:∀o:Obj,(wr.alloc o).drew.cell? ⟨q,3,N⟩=S (L av nv cv):=λo=>(((QQ wr.heap.size wr).alloc (QR _) o).cell (au m3)).trans m3;have a9:∀i,(L av nv cv).ownBlock=S i->q+1<=i:=λi hi=>(d2.lt i hi).1;have d9:H (∀(o:Obj) (G:QI),(wr.alloc o).drew.grownBy G (L av nv cv).ownBlock->G.cell? ⟨q,3,N⟩=S (L av nv cv)):=K (λo G r=>(r.cell_far ⟨q,3,N⟩ (by simp;omega) (λe=>by have:=a9 q e.symm;omega)).trans (k6 _));have d7:H (∀(o:Obj) (G:QI),(wr.alloc o).drew.grownBy G (L av nv cv).ownBlock->G.frozen? ⟨q,3,N⟩=F):=K (λo G r=>(r.frozen_far ⟨q,3,N⟩ (by simp;omega) (λe=>by have:=a9 q e.symm;omega)).trans ((((QQ wr.heap.size wr).alloc (QR _) _).frozen (by show q < _;omega)).trans f3));clear ex et U d2 a9 d3;go_wp2_with fail
     go_region_law ((refine Rs _ (by rfl) _ _ _ (by rfl) (q+1) 9 is _ 1 16 underlying30 i9 f9 g0 g4 rfl (by decide) (L av nv cv) j (ah R) (by rfl) ((e5.out.alloc _).drew) ⟨wr.heap.size,0,N⟩ 1 1 [T (bs t)] (by rfl) (by rfl) (World.news_of_block (cs:=#[T (bs t)]) (t:=9) (fr:=(0,0)) (Q0 wr _)) (by simp [Value.oneCell']) (by decide) (by unfold maxLen;omega) (by omega) (by simp;omega) (wr.heap.size+1) (by simp) ?_;intro ga k7 G M r i3 j2;have k5:=d9.out _ _ r;have i0:=d7.out _ _ r))
     all_goals
      have D:=K (IJ M4.out e5.out O4.out B4.out Z4 M r);clear M r i3 k5 i0;go_wp2_with fail
      have d:=D.out;exact ⟨⟨j+1,_,by omega,by go_num,K d.xu,K (by rw [e7.out];exact d.own),K d.ints,K d.below,d.size⟩,by simp [Y9];omega⟩
    have f2:j=A.length:=by omega
    subst f2;rw [QZ] at V4;have a6:H (fZ.now ⟨⟨W,y,X,C,s⟩,Z⟩=⟨W,y,X,A.map (λi=>C.getD i []),s⟩):=K (by unfold fZ.now;simp only [b2]);obtain ⟨R,U⟩:∃R,A.map (λi=>C.getD i [])=R:=⟨_,rfl⟩;have f0:R.length=A.length:=by rw [<-U,RU]
    rw [U] at V4 a6;have MM:H (dz z wr u5 B):=K (HM.out.touch (aE.below (ts:=[]) (by rw [Y.out];exact B4.out)) (by simp) (by simp));have BB:H (Y6 z w1 wr):=K (HB.out.trans (B4.out.mono (by have:=Y.out;omega)))
    by_cases i1:A.length=0
    .have Q:H (B.map (·.1)=iM (f.items.take (k+1))):=K (by
      rw [a7.out,tY,a6.out,HQ.out];have:R=[]:=List.length_eq_zero_iff.1 (by omega)
      simp [this])
     have hd:decide ((0:Int) < (A.length:Int))=F:=decide_eq_false (by omega);clear HQ a7 a6 U;go_wp2_with fail
     exact ⟨⟨k+1,B,by omega,by go_num,by omega,Q,MM,BB⟩,by simp [Y9];omega⟩
    have Q:H (B.map (·.1)++[⟨W,y,X,R,s⟩]=iM (f.items.take (k+1))):=K (by
     rw [a7.out,tY,a6.out,HQ.out]
     have:R.isEmpty=F:=by
      cases R with
      | nil=>simp at f0;omega
      | cons a b=>rfl
     simp [this])
    have hd:decide ((0:Int) < (A.length:Int))=YT:=decide_eq_true (by omega);have n0:wr.cell? ⟨q,0,N⟩=S (I J W):=(M4.out.cell 0).1;have n1:wr.cell? ⟨q,1,N⟩=S (I J y):=(M4.out.cell 1).1;have n2:wr.cell? ⟨q,2,N⟩=S (T (bs X)):=(M4.out.cell 2).1;have n3:wr.cell? ⟨q,3,N⟩=S v:=(M4.out.cell 3).1;have n4:wr.cell? ⟨q,4,N⟩=S (T (bs s)):=(M4.out.cell 4).1
    obtain ⟨gv,cv,rfl⟩:∃g c,v=L (S ⟨g,0,N⟩) A.length c:=by
     rcases V4.out.2 with ⟨_,h0⟩ | ⟨g,b7,c6,e,_⟩
     .omega
     exact ⟨_,_,e⟩
    have f8:z<=wr.heap.size:=by have:=BB.out.size;have:=HZ.out;omega
    obtain ⟨M5,MT⟩:=MM.out;have g9:=K MT;clear HQ a7 a6 U MT
    go_wp2_with (first
     | (at_builtin;refine Uo _ rfl _ _ 43 rfl z 91 im _ 5 72 underlying43 i8 f5 f6 f7 rfl (by decide) _ _ _ rfl (M5.alloc _) ⟨wr.heap.size,0,N⟩ 1 1 [I J W,I J y,T (bs X),L (S ⟨gv,0,N⟩) A.length cv,T (bs s)] rfl rfl ?c1 ?c2 ?c3 ?c4 ?c5 ?_)
     | fail)
    case c1=>exact World.news_of_block (cs:=#[I J W,I J y,T (bs X),L (S ⟨gv,0,N⟩) A.length cv,T (bs s)]) (t:=91) (fr:=(0,0)) (Q0 wr _)
    case c2=>intro u hu;simp at hu;rcases hu with rfl | rfl | rfl | rfl | rfl <;> rfl
    case c3=>unfold maxLen;omega
    case c4=>omega
    case c5=>simp;omega
    intro v' G M r _;have D:=K (sY (m:=⟨W,y,X,R,s⟩) g9.out M5 (by show wr.ownsRow z 9 1 _ R.length (ah R);rw [f0];exact V4.out.mono (by have:=Y.out;omega)) BB.out f8 M r);clear M r M5;go_wp2_with fail
    have d:=D.out;exact ⟨⟨k+1,B++[(⟨W,y,X,R,s⟩,L (S ⟨gv,0,N⟩) A.length cv)],by omega,by go_num,by simp;omega,K (by rw [<-Q.out];simp),K d.1,K d.2⟩,by simp [Y9];omega⟩
  have j1:k=f.items.length:=by omega
  subst j1;rw [QZ] at HQ;obtain ⟨aL,mH,i1,_,_⟩:=e3.out.head;go_wp2_with fail
  go_ret;exact ⟨_,rfl,by rw [<-HQ.out];exact HM.out.at,d5.out.trans (HB.out.mono (by have:=HZ.out;have:=d5.out.size;omega))⟩
structure jO(base:Nat)(w:QI)(p:Nat)(A:Array QJ)(vD vF:QJ)(due xh:List Nat):Prop where
 low:base<=p
 block:w.heap[p]? =S (YU A 133 (0,0))
 size:A.size=15
 xQ:A[12]? =S vD
 xM:A[13]? =S vF
 due:w.ownsRow base 3 1 vD due.length (bc due)
 xh:w.ownsRow base 3 1 vF xh.length (bc xh)
 apart:vD.ownBlock=N\/vD.ownBlock≠vF.ownBlock
def sN(w:QI)(p:Nat):Nat:=
 match w.cell? ⟨p,12,N⟩ with
 | some (L _ n _)=>n
 | _=>0
theorem jO.touch{a p:Nat}{w g:QI}{A:Array QJ}{e f:QJ}{b i:List Nat}{ts:List Za}(h:jO a w p A e f b i)(c:aE ts w g)(d:3 ∉ ts)(j:133 ∉ ts):jO a g p A e f b i:=
 ⟨h.low,c.cells h.block j,h.size,h.xQ,h.xM,aV c d h.due,aV c d h.xh,h.apart⟩
theorem jO.len{a p:Nat}{w:QI}{A:Array QJ}{i j:QJ}{b k:List Nat}(h:jO a w p A i j b k):sN w p=b.length:=by
 unfold sN;rw [Q3 h.block,h.xQ]
 rcases h.due.2 with ⟨e,f⟩ | ⟨g,c,d,e,_⟩
 .rw [e,f]
 rw [e]
theorem aE.toBelow{a b:QI}{B:Nat}(h:aE [] a b)(d:B<=a.heap.size):Y6 B a b:=
 ⟨h.still.1,h.still.2.1,h.still.2.2,h.size,λk f=>by
  have c:k < a.heap.size:=by omega
  have e:=Si c;rw [e]
  exact h.block k _ e (by simp)⟩
theorem kH(l:List Nat)(n:Nat):bc (l++[n])=bc l++[I J (n:Int)]:=by simp [bc]
theorem wz{c a g n m l k:Nat}{j i:QI}{x y:QJ}{t q u:List QJ}{p:QI}(_:j.ownsRow c 3 1 x n t)(o:j.ownsRow c 3 1 y m q)(f:x.ownBlock=N\/x.ownBlock≠y.ownBlock)(r:Y6 j.heap.size j p)(h:p.grownBy i x.ownBlock)(d:x.ownBlock=S g\/g=a)(v:j.heap.size<=a)
  (_:i.ownsRow c 3 1 (L (S ⟨g,0,N⟩) k l) k u):i.ownsRow c 3 1 y m q/\S g≠y.ownBlock:=by
 refine ⟨(aV (aE.below (ts:=[]) r) (by simp) o).kept h ?_,λe=>?_⟩
 .rcases f with f | f
  .cases s:y.ownBlock with
   | none=>exact Y4 rfl
   | some b=>exact Y5 (by rw [f];simp)
  exact Y5 (Ne.symm f)
 rcases d with d | d
 .rcases f with f | f
  .rw [f] at d;cases d
  exact f (d.trans e)
 have:=(o.lt g e.symm).2;omega
structure Eb(base:Nat)(w9 w10 w11:QI)(p j:Nat)(A:Array QJ)(v vD vF:QJ)(due xh:List Nat):Prop where
 there:∃u,w10.cell? ⟨p,j,N⟩=S u
 soft:w10.frozen? ⟨p,j,N⟩=F
 post:jO base w11 p (A.setIfInBounds j v) vD vF due xh
 touch:aE [3,133] w9 w11
 below:Y6 base w9 w11
theorem qB{b p n:Nat}{d c:QI}{A:Array QJ}{x:QJ}{o:List QJ}{i:QI}(g:d.heap[p]? =S (YU A 133 (0,0)))(m:d.ownsRow b 3 1 x n o)(h:Y6 d.heap.size d i)(a:i.grownBy c x.ownBlock):c.heap[p]? =S (YU A 133 (0,0)):=by
 have l:=dq g
 rw [a.block p (by have:=h.size;omega) (λe=>by
  rcases m.2 with ⟨f,_⟩ | ⟨_,q,j,f,_,k,_⟩
  .rw [f] at e;cases e
  rw [f] at e;injection e with e
  exact dN g k (by decide) e),h.block p l]
 exact g
theorem zy{b p j n:Nat}{d c:QI}{A:Array QJ}{x v:QJ}{y:List QJ}{i:QI}(h:b<=p)(t:d.heap[p]? =S (YU A 133 (0,0)))(r:d.ownsRow b 3 1 x n y)(f:Y6 d.heap.size d i)(a:i.grownBy c x.ownBlock):aE [3,133] d (c.setCell ⟨p,j,N⟩ v)/\Y6 b d (c.setCell ⟨p,j,N⟩ v):=by
 have q:=qB t r f a;have s:aA p c (c.setCell ⟨p,j,N⟩ v):=(aA.refl _ _).setCell _;have B:=dq t;refine ⟨?_,?_⟩
 .have o:aE [3,133] d i:=aE.below f
  have w:aE [3,133] d c:=o.grown a (λk e=>by
   rcases r.2 with ⟨m,_⟩ | ⟨g,z,l,m,_,u,_⟩
   .rw [m] at e;cases e
   rw [m] at e;injection e with e;subst e
   exact ⟨l,3,(0,0),(f.block g (dq u)).trans u,by simp⟩)
  exact w.same q (by simp) s
 have o:Y6 b d i:=f.mono (by omega);exact (o.grown a (by have:=f.size;omega) (λk e=>(r.lt k e).1)).trans (s.below h)
theorem Kj{f p g i b a:Nat}{q d:QI}{A:Array QJ}{s B:QJ}{c D:List Nat}{C:QI}(h:jO f q p A s B c D)(u:Y6 q.heap.size q C)(k:C.grownBy d s.ownBlock)(w:s.ownBlock=S g\/g=a)(R:q.heap.size<=a)
  (o:d.ownsRow f 3 1 (L (S ⟨g,0,N⟩) (c.length+1) i) (c.length+1) (bc c++[I J (b:Int)])):
  Eb f q d (d.setCell ⟨p,12,N⟩ (L (S ⟨g,0,N⟩) (c.length+1) i)) p 12 A (L (S ⟨g,0,N⟩) (c.length+1) i) (L (S ⟨g,0,N⟩) (c.length+1) i) B (c++[b]) D:=by
 have m:=qB h.block h.due u k;have U:aA p d (d.setCell ⟨p,12,N⟩ (L (S ⟨g,0,N⟩) (c.length+1) i)):=(aA.refl _ _).setCell _;obtain ⟨P,Q⟩:=wz h.due h.xh h.apart u k w R o;obtain ⟨V,W⟩:=zy (j:=12) (v:=L (S ⟨g,0,N⟩) (c.length+1) i) h.low h.block h.due u k
 have l:∀(v:QJ) (n:Nat) (x:List QJ),d.ownsRow f 3 1 v n x->(d.setCell ⟨p,12,N⟩ (L (S ⟨g,0,N⟩) (c.length+1) i)).ownsRow f 3 1 v n x:=λv n x r=>by
  refine ⟨r.1,?_⟩
  rcases r.2 with r | ⟨z,E,t,G,M,y,O⟩
  .exact Y4 r
  exact Y5 ⟨z,E,t,G,M,(U.2 z (λe=>by subst e;exact dN y m (by decide) rfl)).trans y,O⟩
 refine ⟨⟨s,by rw [Q3 m];exact h.xQ⟩,RJ m 12,⟨h.low,?_,by simp [h.size],?_,?_,?_,l _ _ _ P,Y5 Q⟩,V,W⟩
 .exact Ro d p 12 _ _ _ m
 .rw [Uz];simp [h.size]
 .rw [TH (by decide)];exact h.xM
 rw [kH,RI];exact l _ _ _ o
theorem Hl{d p g f a:Nat}{s c:QI}{A:Array QJ}{y r:QJ}{q l:List Nat}{D:QI}(h:jO d s p A y r q l)(w:Y6 s.heap.size s D)(i:D.grownBy c r.ownBlock)(x:r.ownBlock=S g\/g=a)(R:s.heap.size<=a)
  (o:c.ownsRow d 3 1 (L (S ⟨g,0,N⟩) (l.length+1) f) (l.length+1) (bc l++[I J 0])):
  Eb d s c (c.setCell ⟨p,13,N⟩ (L (S ⟨g,0,N⟩) (l.length+1) f)) p 13 A (L (S ⟨g,0,N⟩) (l.length+1) f) y (L (S ⟨g,0,N⟩) (l.length+1) f) q (l++[0]):=by
 have m:=qB h.block h.xh w i;have U:aA p c (c.setCell ⟨p,13,N⟩ (L (S ⟨g,0,N⟩) (l.length+1) f)):=(aA.refl _ _).setCell _
 obtain ⟨P,Q⟩:=wz h.xh h.due (by
  rcases h.apart with e | e
  .cases Y:r.ownBlock with
   | none=>exact Y4 rfl
   | some b=>exact Y5 (by rw [e];simp)
  exact Y5 (Ne.symm e)) w i x R o
 obtain ⟨W,X⟩:=zy (j:=13) (v:=L (S ⟨g,0,N⟩) (l.length+1) f) h.low h.block h.xh w i
 have k:∀(v:QJ) (n:Nat) (z:List QJ),c.ownsRow d 3 1 v n z->(c.setCell ⟨p,13,N⟩ (L (S ⟨g,0,N⟩) (l.length+1) f)).ownsRow d 3 1 v n z:=λv n z t=>by
  refine ⟨t.1,?_⟩
  rcases t.2 with t | ⟨C,E,u,G,M,B,O⟩
  .exact Y4 t
  exact Y5 ⟨C,E,u,G,M,(U.2 C (λe=>by subst e;exact dN B m (by decide) rfl)).trans B,O⟩
 refine ⟨⟨r,by rw [Q3 m];exact h.xM⟩,RJ m 13,⟨h.low,?_,by simp [h.size],?_,?_,k _ _ _ P,?_,?_⟩,W,X⟩
 .exact Ro c p 13 _ _ _ m
 .rw [TH (by decide)];exact h.xQ
 .rw [Uz];simp [h.size]
 .rw [kH,RI];exact k _ _ _ o
 cases V:y.ownBlock with
 | none=>exact Y4 rfl
 | some b=>exact Y5 (λe=>Q (by rw [V];exact e.symm))
theorem EM{p j:Nat}{c d b:QI}{x v:QJ}(f:Y6 c.heap.size c d)(a:d.grownBy b x.ownBlock):aC (λk=>k=p\/x.ownBlock=S k) c (b.setCell ⟨p,j,N⟩ v):=
 ((aC.below f:aC (λk=>k=p\/x.ownBlock=S k) c d).trans (aC.grown a) (λ_ _ e=>Y5 e)).trans (aC.same ((aA.refl p b).setCell _)) (λ_ _ e=>Y4 e)
theorem uc(r p l:Nat)(A:Array QJ)(z:QF)(Z vF:QJ)(x xh:List Nat)(w:QI)(h:jO r w p A Z vF x xh)(hA:A[9]? =S (T (bs z)))(hT:A[10]? =S (I J l))(hl:z.length<=1048576)(hd:x.length<=1048576)(hf:xh.length=x.length):Y8 Ys 65 #[YV (S ⟨p,0,N⟩)] w λe R=>∃A' O P k,e=YX (YY #[])/\jO r R p A' O P (x++List.replicate k l) (xh++List.replicate k 0)/\(∀i,i≠12->i≠13->A'[i]? =A[i]?)/\H (k=(bn z).1.items.length - x.length)/\Y6 r w R/\aC (λk=>k=p\/Z.ownBlock=S k\/vF.ownBlock=S k) w R/\(∀g,O.ownBlock=S g\/P.ownBlock=S g->Z.ownBlock=S g\/vF.ownBlock=S g\/w.heap.size<=g):=by
 have a8:=λR=>mg z R hl;have f2:=kr z;obtain ⟨f,eS⟩:=QE ((bn z).1);obtain ⟨M,eM⟩:=QE ((bn z).2);rw [eS,eM] at a8 f2;rw [eS];obtain ⟨ii,d2,a3,a4,a5⟩:=Rr mO;have k9:w.cell? ⟨p,9,N⟩=S (T (bs z)):=by rw [Q3 h.block];exact hA
 have g5:=dq h.block;have b6:=K (a8 w);have HP:=K h;clear eS eM a8 h;go_enter func65,ntmps65;go_wp2_with fail
 refine b6.out.mono ?_;rintro e w1 ⟨q,rfl,h1,h2⟩;have e4:=K h1;have a6:=K h2;clear h1 h2 b6 k9;go_wp2_with fail
 have e9:r<=w.heap.size:=by have:=HP.out.low;omega
 have y:H (jO r w1 p A Z vF x xh):=K (HP.out.touch (ts:=[]) (aE.below a6.out) (by simp) (by simp));go_loopw [] (λR=>∃(A':Array QJ) (O P:QJ) (k:Nat),k<=f.items.length - x.length/\H (jO r R p A' O P (x++List.replicate k l) (xh++List.replicate k 0))/\H (∀i,i≠12->i≠13->A'[i]? =A[i]?)/\H (aE [3,133] w1 R)/\H (Y6 r w R)/\H (aC (λk=>k=p\/Z.ownBlock=S k\/vF.ownBlock=S k) w R)/\H (∀g,O.ownBlock=S g\/P.ownBlock=S g->Z.ownBlock=S g\/vF.ownBlock=S g\/w.heap.size<=g)) (λR=>f.items.length - sN R p)
 case atStart=>exact ⟨A,Z,vF,0,QS _,K (by simpa using y.out),K (λ_ _ _=>rfl),K (aE.refl _ _),K (a6.out.mono e9),K (aC.below a6.out),K (λg e=>e.imp id Y4)⟩
 case round=>
  clear y;obtain ⟨A',O,P,k,hk,y,a0,b7,a1,b0,U⟩:=hrel;obtain ⟨n,ed⟩:=QE (x++List.replicate k l);obtain ⟨m,ef⟩:=QE (xh++List.replicate k 0);have c8:n.length=x.length+k:=by rw [<-ed];simp
  have c9:m.length=x.length+k:=by rw [<-ef];simp [hf]
  rw [ed,ef] at y;have e5:H (bz w.heap.size wr q f):=K (e4.out.touch b7.out (by decide) (by decide) (by decide) (by decide));obtain ⟨aL,mH,s0,_,_⟩:=e5.out.head
  obtain ⟨aD,cD,rfl⟩:∃a c,O=L a n.length c:=by
   rcases y.out.due.2 with ⟨e,h0⟩ | ⟨g,e6,e7,e,_⟩
   .exact ⟨_,_,by rw [h0];exact e⟩
   exact ⟨_,_,e⟩
  obtain ⟨aF,cF,rfl⟩:∃a c,P=L a m.length c:=by
   rcases y.out.xh.2 with ⟨e,h0⟩ | ⟨g,e6,e7,e,_⟩
   .exact ⟨_,_,by rw [h0];exact e⟩
   exact ⟨_,_,e⟩
  have c6:wr.cell? ⟨p,12,N⟩=S (L aD n.length cD):=by rw [Q3 y.out.block];exact y.out.xQ
  have e8:wr.cell? ⟨p,10,N⟩=S (I J l):=by rw [Q3 y.out.block,a0.out 10 (by decide) (by decide)];exact hT
  have d8:H (sN wr p=n.length):=K (by unfold sN;rw [c6]);have b3:=K ed;have b4:=K ef;have b1:=K c8;have f6:=K c9;have f8:n.length<=2097152:=by omega
  have g0:m.length<=2097152:=by omega
  clear ed ef c8 c9
  by_cases g4:n.length < f.items.length
  .have d3:(n.length:Int) < (f.items.length:Int):=by omega
   go_wp2_with fail
   go_quiet (fail)
   go_wp2_with fail
   obtain ⟨W,hW⟩:=QE (wr.drewN nq);have tW:aE [] wr W:=by rw [<-hW];exact (aE.refl _ _).drewN nq
   have E:=y.out.touch tW (by simp) (by simp);have f3:H (aE [3,133] w1 W):=K (b7.out.trans (tW.mono (by simp)));have cW:H (aC (λk=>k=p\/Z.ownBlock=S k\/vF.ownBlock=S k) w W):=K (by rw [<-hW];exact b0.out.trans (aC.below (an nq wr _):aC (λ_=>False) wr _) (λk _ e=>e.elim));have bW:H (Y6 r w W):=K (by rw [<-hW];exact a1.out.trans (aE.toBelow ((aE.refl [] wr).drewN nq) (by have:=a1.out.size;omega)))
   have d6:W.cell? ⟨p,12,N⟩=S (L aD n.length cD):=by rw [Q3 E.block];exact E.xQ
   have d5:W.cell? ⟨p,10,N⟩=S (I J l):=by rw [Q3 E.block,a0.out 10 (by decide) (by decide)];exact hT
   have up:∀(o:Obj) (b j:Nat) (v:QJ),W.cell? ⟨b,j,N⟩=S v->(W.alloc o).drew.cell? ⟨b,j,N⟩=S v:=λo b j v h=>(((QQ W.heap.size W).alloc (QR _) o).drew.cell (au h)).trans h;have u12:=λo=>up o _ _ _ d6;have u10:=λo=>up o _ _ _ d5;have f7:r<=W.heap.size:=by have:=dq E.block;have:=E.low;omega
   have b5:=K E;rw [hW];clear hW tW c6 e8 up E;go_region_law ((refine Rs _ (by rfl) _ _ _ (by rfl) r 3 ii _ 1 8 underlying33 d2 a3 a4 a5 rfl (by decide) (L aD n.length cD) n.length (bc n) (by rfl) ((b5.out.due.alloc _).drew) ⟨W.heap.size,0,N⟩ 1 1 [I J (l:Int)] (by rfl) (by rfl) (World.news_of_block (cs:=#[I J (l:Int)]) (t:=3) (fr:=(0,0)) (Q0 W _)) (by simp [Value.oneCell']) (by decide) (by unfold maxLen;omega) (by omega) (by simp;omega) (W.heap.size+1) (by simp) ?_;intro X Q f4 B s G f0;have D:=Kj b5.out (((QQ _ _).alloc (QR _) _).drew) s G (by omega) B;obtain ⟨uu,d4⟩:=D.there;have c7:=D.soft))
   all_goals
    obtain ⟨C,Y⟩:=QE (f4.setCell ⟨p,12,N⟩ (L (S ⟨X,0,N⟩) (n.length+1) Q));have a7:=EM (p:=p) (j:=12) (v:=L (S ⟨X,0,N⟩) (n.length+1) Q) (((QQ _ W).alloc (QR _) (YU #[I J (l:Int)] 3)).drew) s;rw [Y] at D a7;rw [Y];have d0:(L aD n.length cD).ownBlock=S X\/w.heap.size<=X:=G.imp id (λe=>by have:=cW.out.size;omega);have a2:H (aC (λk=>k=p\/Z.ownBlock=S k\/vF.ownBlock=S k) w C):=K (cW.out.trans a7 (λk hk e=>e.imp id (λe=>(U.out k (Y4 e)).imp id (λe=>e.elim id (λe=>by omega)))));have e0:H (Z.ownBlock=S X\/vF.ownBlock=S X\/w.heap.size<=X):=K (d0.elim (λe=>U.out X (Y4 e)) (λe=>Y5 (Y5 e)));obtain ⟨_,_,dp,dt,db⟩:=D;have g7:C.cell? ⟨p,13,N⟩=S (L aF m.length cF):=by rw [Q3 dp.block];exact dp.xM
    have f5:r<=C.heap.size:=by have:=dq dp.block;have:=dp.low;omega
    have b2:=K dp;have d9:=K (f3.out.trans dt);have d7:=K (bW.out.trans db);clear dp dt db B s G d4 c7 Y a7 d0 u12 u10 d6 d5
    go_wp2_with (first
     | (at_builtin;refine wpList_append_lies _ rfl _ _ 33 rfl r 3 ii (I J 0) 1 8 underlying33 d2 a3 a4 a5 rfl (by decide) (L aF m.length cF) m.length (bc m) rfl (b2.out.xh.alloc _) ⟨C.heap.size,0,N⟩ 1 1 [I J 0] rfl rfl ?c1 ?c2 (by decide) ?c3 ?c4 ?c5 (C.heap.size+1) (by simp) ?_)
     | fail)
    case c1=>exact World.news_of_block (cs:=#[I J 0]) (t:=3) (fr:=(0,0)) (Q0 C _)
    case c2=>intro u hu;simp at hu;subst hu;rfl
    case c3=>unfold maxLen;omega
    case c4=>omega
    case c5=>simp;omega
    intro gb V g6 B s G f1;have D:=Hl b2.out ((QQ _ _).alloc (QR _) _) s G (by omega) B;obtain ⟨uu,d4⟩:=D.there;have c7:=D.soft;have HD:=K D;have c0:=EM (p:=p) (j:=13) (v:=L (S ⟨gb,0,N⟩) (m.length+1) V) ((QQ _ C).alloc (QR _) (YU #[I J 0] 3)) s;have d1:(L aF m.length cF).ownBlock=S gb\/w.heap.size<=gb:=G.imp id (λe=>by have:=a2.out.size;omega);have a9:=K (a2.out.trans c0 (λk hk e=>e.imp id (λe=>(U.out k (Y5 e)).imp id (λe=>e.elim id (λe=>by omega)))));have e3:H (Z.ownBlock=S gb\/vF.ownBlock=S gb\/w.heap.size<=gb):=K (d1.elim (λe=>U.out gb (Y5 e)) (λe=>Y5 (Y5 e)));clear D B s G c0 d1;go_wp2_with fail
    have d:=HD.out;refine ⟨⟨(A'.setIfInBounds 12 (L (S ⟨X,0,N⟩) (n.length+1) Q)).setIfInBounds 13 (L (S ⟨gb,0,N⟩) (m.length+1) V),L (S ⟨X,0,N⟩) (n.length+1) Q,L (S ⟨gb,0,N⟩) (m.length+1) V,k+1,by have:=b1.out;omega,K ?_,K (λi h1 h2=>?_),K (d9.out.trans d.touch),K (d7.out.trans d.below),a9,K (λg e=>?_)⟩,?_⟩
    .have e1:x++List.replicate (k+1) l=n++[l]:=by rw [<-b3.out,Sq, <-UJ]
     have e2:xh++List.replicate (k+1) 0=m++[0]:=by rw [<-b4.out,Sq, <-UJ]
     rw [e1,e2];exact d.post
    .rw [TH (Ne.symm h2),TH (Ne.symm h1)];exact a0.out i h1 h2
    .rcases e with e | e
     .injection e with e;have e:X=g:=e;rw [<-e];exact e0.out
     injection e with e;have e:gb=g:=e;rw [<-e];exact e3.out
    rw [d8.out];have:sN _ p=_:=d.post.len;rw [this];simp;omega
  have d3:¬(n.length:Int) < (f.items.length:Int):=by omega
  go_wp2_with fail
  go_quiet (fail)
  go_wp2_with fail
  go_end0
  have f9:=b1.out;exact ⟨A',_,_,k,rfl,by rw [b3.out,b4.out];exact y.out.touch ((aE.refl [] wr).drewN nq) (by simp) (by simp),a0.out,K (by omega),a1.out.trans (aE.toBelow ((aE.refl [] wr).drewN nq) (by have:=a1.out.size;omega)),b0.out.trans (aC.below (an nq wr _):aC (λ_=>False) wr _) (λk _ e=>e.elim),U.out⟩
def pF(w:QI)(q:Nat)(I:Nat)(v:QJ):Prop:=w.heap[q]? =S (YU #[.int J I,v] 174 (0,0))
theorem pF.cell{w:QI}{q a:Nat}{v:QJ}(h:pF w q a v)(j:Nat):w.cell? ⟨q,j,N⟩=(#[I J a,v]:Array QJ)[j]? /\w.frozen? ⟨q,j,N⟩=F:=
 ⟨Q3 h j,RJ h j⟩
def jV(o:Option QF):Option (Nat×List Nat):=o.bind gG
def Ec(b:Nat)(o:Option QF)(w:QI)(e:Ending)(w':QI):Prop:=
 (jV o=N/\e=YX (YY #[YZ #[I J 0,L N 0 0],YW F])\/∃id ps v,jV o=S (id,ps)/\e=YX (YY #[YZ #[I J (id:Nat),v],YW YT])/\w'.ownsRow w.heap.size 3 1 v ps.length (bc ps)/\id<=4294967295/\1<=ps.length/\ps.length<=255/\∀x∈ps,x<=255)/\pE b w w'
theorem AE(o:Option QF){j l g:Option QF}{a b:Nat}{c:List Nat}(d:gA 4 o=(a,j))(e:gA 1 j=(b,l))(i:jm b l=(c,g)):jV o=if g=S []/\1<=c.length/\cC c=YT then S (a,c) else N:=by
 cases o with
 | none=>
  rw [lx] at d;injection d with _ d;subst d;rw [lx] at e;injection e with _ e;subst e;have:=nH b;rw [i] at this;simp only at this;rw [if_neg (by rw [this];rintro ⟨h,_⟩;cases h)];rfl
 | some r=>
  show gG r=_;unfold gG;rw [Iu r d e i]
  by_cases h:g=S []
  .rw [if_pos h,sb]
   by_cases f:1<=c.length/\cC c=YT
   .rw [if_pos (by simp only [Rk,decide_eq_true_eq];exact f),if_pos ⟨h,f⟩]
   rw [if_neg (by simp only [Rk,decide_eq_true_eq];exact f),if_neg (λk=>f k.2)]
  rw [if_neg h,if_neg (λk=>h k.1)];rfl
theorem pE.drewN{b:Nat}{w c:QI}(h:pE b w c)(n:Nat):pE b w (c.drewN n):=
 ⟨by simpa using h.size,λk d a=>by simpa using h.block k d a,h.still.trans (mj n c)⟩
theorem pE.xL{b p:Nat}{w c:QI}(h:pE b w c)(e:w.heap.size<=p){j:Nat}(v:QJ):pE b w (c.setCell ⟨p,j,N⟩ v):=
 ⟨by simpa using h.size,λk d a=>(heap_setCell_other c ⟨p,j,N⟩ k v (by show k≠p;omega)).trans (h.block k d a),h.still.trans ⟨rfl,rfl,rfl⟩⟩
structure LS(w wk:QI)(s b:Nat)(o:Option QF)(I:Nat)(v:QJ):Prop where
 fd:hJ wk b o
 res:pF wk s 0 (L N 0 0)
 lv:pF wk (s+1) I v
 but:pE b w wk
 size:s+2<=wk.heap.size
theorem LS.xG{w f c:QI}{s b a:Nat}{o e:Option QF}{v:QJ}(h:LS w f s b o a v)(j:b < s)(d:aA b f c)(g:hJ c b e):LS w c s b e a v:=
 ⟨g,(d.2 s (by omega)).trans h.res,(d.2 (s+1) (by omega)).trans h.lv,h.but.trans ⟨by rw [d.1];exact QR _,λk _ i=>d.2 k i,d.3⟩,by rw [d.1];exact h.size⟩
theorem LS.xo{w f d:QI}{s b a:Nat}{o:Option QF}{v:QJ}(h:LS w f s b o a v)(g:b < s)(c:Y6 f.heap.size f d):LS w d s b o a v:=by
 have i:=h.size;exact ⟨h.fd.xp (c.block b (by omega)),(c.block s (by omega)).trans h.res,(c.block (s+1) (by omega)).trans h.lv,h.but.trans ⟨c.size,λk e _=>c.block k e,df.xF c⟩,Rn h.size c.size⟩
theorem LS.set{w d:QI}{s b a I' j:Nat}{o:Option QF}{v v' u:QJ}(h:LS w d s b o a v)(l:w.heap.size<=s+1)(i:b < s)(e:(#[I J a,v]:Array QJ).setIfInBounds j u=#[I J I',v']):LS w (d.setCell ⟨s+1,j,N⟩ u) s b o I' v':=by
 have c:aA (s+1) d (d.setCell ⟨s+1,j,N⟩ u):=(aA.refl _ _).setCell _;refine ⟨h.fd.same c (by omega),(c.2 s (by omega)).trans h.res,?_,⟨by rw [c.1];exact h.but.size,λk g f=>(c.2 k (by omega)).trans (h.but.block k g f),h.but.still.trans c.3⟩,by rw [c.1];exact h.size⟩
 have:=Ro d (s+1) j _ _ u h.lv;unfold pF;rw [this,e]
theorem LS.xY{w i q m:QI}{s b a n:Nat}{o:Option QF}{v:QJ}{u:List QJ}(h:LS w i s b o a v)(y:w.heap.size<=s)(x:b < s)(r:i.ownsRow (s+2) 3 1 v n u)(f:Y6 i.heap.size i q)(d:q.grownBy m v.ownBlock):LS w m s b o a v:=by
 have z:=h.size;have g:∀j,v.ownBlock=S j->s+2<=j:=λj t=>(r.lt j t).1
 have c:∀k,k < s+2->m.heap[k]? =i.heap[k]? :=λk p=>by
  rw [d.block k (by have:=f.size;omega) (λe=>by have:=g k e.symm;omega),f.block k (by omega)]
 exact ⟨h.fd.xp (c _ (by omega)),(c s (by omega)).trans h.res,(c (s+1) (by omega)).trans h.lv,⟨by have:=f.size;have:=d.size;have:=h.but.size;omega,λk p l=>(c k (by omega)).trans (h.but.block k p l),h.but.still.trans ((df.xF f).trans ⟨d.os,d.tape,d.output⟩)⟩,by have:=f.size;have:=d.size;omega⟩
theorem tJ(b:Nat)(o:Option QF)(w:QI)(h:hJ w b o)(hb:b < w.heap.size):Y8 Ys 155 #[YV (S ⟨b,0,N⟩)] w (Ec b o w):=by
 obtain ⟨s,hs⟩:=QE w.heap.size;rw [hs] at hb;have HH:=K h;have l:=K hs;clear h;go_enter func155,ntmps155;go_wp2_with fail
 obtain ⟨W0,B⟩:=QE ((w.alloc (YU #[I J 0,L N 0 0] 174)).alloc (YU #[I J 0,L N 0 0] 174))
 have S0:LS w W0 s b o 0 (L N 0 0):=by
  have Y:Y6 w.heap.size w W0:=by rw [<-B];exact ((QQ _ _).alloc (QR _) _).alloc (by simp) _
  refine ⟨HH.out.xp (Y.block b (by omega)),?_,?_,⟨Y.size,λk hk _=>Y.block k hk,df.xF Y⟩,by rw [<-B];simp;omega⟩
  .unfold pF;rw [<-B, <-hs,((QQ (w.alloc (YU #[I J 0,L N 0 0] 174)).heap.size _).alloc (QR _) _).block w.heap.size (by simp)];exact Q0 w _
  unfold pF;rw [<-B, <-hs];have:=Q0 (w.alloc (YU #[I J 0,L N 0 0] 174)) (YU #[I J 0,L N 0 0] 174);simpa using this
 have a1:=K S0;rw [B];obtain ⟨d,o1,hI⟩:∃d o1,gA 4 o=(d,o1):=⟨_,_,rfl⟩;have c4:d<=4294967295:=by have:=nG 4 o;rw [hI] at this;simp at this;omega
 have R:Y8 Ys 93 #[YV (S ⟨b,0,N⟩),I J 4] W0 λe r=>e=YX (I J (gA 4 o).1)/\hJ r b (gA 4 o).2/\aA b W0 r:=dQ b 4 o W0 a1.out.fd (by decide);rw [hI] at R;have HI:=K hI;clear hI S0 B;refine R.mono ?_;rintro e w3 ⟨rfl,Z,X⟩;have S3:=a1.out.xG hb X Z;obtain ⟨c0,f0⟩:=S3.lv.cell 0;have a3:LS w (w3.setCell ⟨s+1,0,N⟩ (I J d)) s b o1 d (L N 0 0):=S3.set (by omega) hb rfl;obtain ⟨W3,a4⟩:=QE (w3.setCell ⟨s+1,0,N⟩ (I J d));rw [a4] at a3;have a2:=K a3;have a7:=K a4;clear Z X S3 a3 a4 R a1 HH;obtain ⟨f,o2,hN⟩:∃f o2,gA 1 o1=(f,o2):=⟨_,_,rfl⟩;have e0:f<=255:=by have:=nG 1 o1;rw [hN] at this;simp at this;omega
 have R:Y8 Ys 93 #[YV (S ⟨b,0,N⟩),I J 1] W3 λe r=>e=YX (I J (gA 1 o1).1)/\hJ r b (gA 1 o1).2/\aA b W3 r:=dQ b 1 o1 W3 a2.out.fd (by decide);rw [hN] at R;have HC:=K R;have HN:=K hN;clear R hN;go_wp2_with fail
 rw [a7.out];refine HC.out.mono ?_;rintro e w7 ⟨rfl,Z,X⟩;have a6:=K (a2.out.xG hb X Z);clear Z X HC a2 a7 c0 f0;go_wp2_with fail
 obtain ⟨ii,c7,b1,b2,b3⟩:=Rr mO;go_loopw [10] (λi r=>∃(k:Nat) (v:QJ) (m:List Nat) (p:Option QF),k<=f/\i=I J k/\H (jm k o2=(m,p))/\H (LS w r s b p d v)/\H (r.ownsRow (s+2) 3 1 v k (bc m))) (λi _=>f - (Y9 i).toNat)
 case atStart=>exact ⟨0,_,[],o2,QS _,rfl,K rfl,a6,K (World.ownsRow_nil _ _ _ _)⟩
 case round=>
  clear a6;obtain ⟨k,v,m,p,hk,rfl,V,Q,HO⟩:=hrel;have a8:m.length=k:=by have:=BZ k o2;rw [V.out] at this;exact this
  have D:=K a8
  obtain ⟨z,A,rfl⟩:∃a c,v=L a k c:=by
   rcases HO.out.2 with ⟨e,h0⟩ | ⟨g,d8,d9,e,_⟩
   .exact ⟨_,_,by rw [h0];exact e⟩
   exact ⟨_,_,e⟩
  clear a8
  by_cases e1:k < f
  .have d6:(k:Int) < (f:Int):=by omega
   obtain ⟨x,p',hx⟩:∃x p',gA 1 p=(x,p'):=⟨_,_,rfl⟩;have b4:H (jm (k+1) o2=(m++[x],p')):=K (by rw [jm,V.out];simp only [hx])
   have b6:H (∀r,hJ r b p->Y8 Ys 93 #[YV (S ⟨b,0,N⟩),I J 1] r λe O=>e=YX (I J (x:Int))/\hJ O b p'/\aA b r O):=K (λr h'=>by
    have R:Y8 Ys 93 #[YV (S ⟨b,0,N⟩),I J 1] r λe O=>e=YX (I J (gA 1 p).1)/\hJ O b (gA 1 p).2/\aA b r O:=dQ b 1 p r h' (by decide);rw [hx] at R
    exact R)
   have Sd:H (LS w wr.drew s b p d (L z k A)):=K (Q.out.xo hb ((QQ _ _).drew));have Od:H (wr.drew.ownsRow (s+2) 3 1 (L z k A) k (bc m)):=K HO.out.drew;have c3:wr.drew.cell? ⟨s+1,1,N⟩=S (L z k A):=(Sd.out.lv.cell 1).1;clear hx;go_wp2_with fail
   go_region_law (first
    | (refine Rs _ (by rfl) _ _ _ (by rfl) (s+2) 3 ii _ 1 8 underlying33 c7 b1 b2 b3 rfl (by decide) (L z k A) k (bc m) (by rfl) (O9.out.alloc _) ⟨w9.heap.size,0,N⟩ 1 1 [I J (x:Int)] (by rfl) (by rfl) (World.news_of_block (cs:=#[I J (x:Int)]) (t:=3) (fr:=(0,0)) (Q0 w9 _)) (by simp [Value.oneCell']) (by decide) (by unfold maxLen;omega) (by omega) (by simp;omega) (w9.heap.size+1) (by simp) ?_;intro ga E P a0 G c5 d2;have W:=K (S9.out.xY (by rw [l.out];exact QR _) hb O9.out ((QQ _ _).alloc (QR _) _) G);have d4:P.cell? ⟨s+1,1,N⟩=S (L z k A):=(W.out.lv.cell 1).1;have c2:=(W.out.lv.cell 1).2;have a5:=K a0;clear a0 G c5)
    | (go_simp;go_at_call 93;refine (b6.out _ Sd.out.fd).mono ?_;rintro e w9 ⟨rfl,Z,X⟩;have S9:=K (Sd.out.xG hb X Z);have O9:=K (bM Od.out X (by omega));have c9:w9.cell? ⟨s+1,1,N⟩=S (L z k A):=(S9.out.lv.cell 1).1;have z9:=S9.out.size;have d7:∀o:Obj,(w9.alloc o).cell? ⟨s+1,1,N⟩=S (L z k A):=(λo=>(((QQ w9.heap.size w9).alloc (QR _) o).cell (au c9)).trans c9);clear Z X;dsimp only))
   all_goals
    have c1:=K (W.out.set (j:=1) (u:=L (S ⟨ga,0,N⟩) (k+1) E) (I':=d) (v':=L (S ⟨ga,0,N⟩) (k+1) E) (by rw [l.out];omega) hb rfl);have b7:=K (bM a5.out (show aA (s+1) P (P.setCell ⟨s+1,1,N⟩ (L (S ⟨ga,0,N⟩) (k+1) E)) from (aA.refl _ _).setCell _) (by omega));clear d4 c2 a5 W;go_wp2_with fail
    exact ⟨⟨k+1,_,m++[x],p',by omega,by go_num,b4,c1,K (by rw [kH];exact b7.out)⟩,by simp [Y9];omega⟩
  have c8:k=f:=by omega
  subst c8;have q:H (jV o=if p=S []/\1<=m.length/\cC m=YT then S (d,m) else N):=K (AE o HI.out HN.out V.out);have a9:∀x∈m,x < 256:=by have:=Fv k o2;rw [V.out] at this;exact this
  have b5:=K a9;have C:=K (wm b p wr Q.out.fd);have d0:wr.cell? ⟨s+1,0,N⟩=S (I J d):=(Q.out.lv.cell 0).1;have d1:wr.cell? ⟨s+1,1,N⟩=S (L z k A):=(Q.out.lv.cell 1).1;have r0:wr.cell? ⟨s,0,N⟩=S (I J 0):=(Q.out.res.cell 0).1;have g0:=(Q.out.res.cell 0).2;have r1:wr.cell? ⟨s,1,N⟩=S (L N 0 0):=(Q.out.res.cell 1).1;have g1:=(Q.out.res.cell 1).2;have HB:=K Q.out.but;have HX:=K Q.out.lv;clear a9;go_wp2_with fail
  refine C.out.mono ?_;rintro e e2 ⟨rfl,rfl⟩
  cases hq:decide (p=S [])
  case false=>
   have y:H (jV o=N):=K (by rw [q.out,if_neg (by rintro ⟨h,_⟩;simp [h] at hq)]);clear q hq C;go_wp2_with fail
   refine Ru (v:=YY #[YZ #[I J 0,L N 0 0],YW F]) (by simp [results,results155,go_sem, *]) rfl ?_;exact ⟨Y4 ⟨y.out,rfl⟩,(HB.out.xL (by rw [l.out];exact QR _) _).xL (by rw [l.out];exact QR _) _⟩
  by_cases b0:k=0
  .have y:H (jV o=N):=K (by rw [q.out,if_neg (by rintro ⟨_,h,_⟩;have:=D.out;omega)]);have c6:((k:Int) == 0)=YT:=by rw [b0];rfl
   clear q hq C;go_wp2_with fail
   refine Ru (v:=YY #[YZ #[I J 0,L N 0 0],YW F]) (by simp [results,results155,go_sem, *]) rfl ?_;exact ⟨Y4 ⟨y.out,rfl⟩,(HB.out.xL (by rw [l.out];exact QR _) _).xL (by rw [l.out];exact QR _) _⟩
  have c6:((k:Int) == 0)=F:=by rw [beq_eq_false_iff_ne];omega
  have M:bg wr (L z k A) m.length 1 (bc m):=by rw [D.out];exact iQ HO.out
  have U:=K (Dp (L z k A) m wr M (by have:=D.out;omega));have d5:¬k=0:=b0
  cases hR:cC m
  case false=>
   have y:H (jV o=N):=K (by rw [q.out,if_neg (by rintro ⟨_,_,h⟩;rw [hR] at h;cases h)]);rw [hR] at U;clear q hq C hR M;go_wp2_with fail
   refine U.out.mono ?_;rintro e P ⟨rfl,n,rfl⟩;go_wp2_with fail
   refine Ru (v:=YY #[YZ #[I J 0,L N 0 0],YW F]) (by simp [results,results155,go_sem, *]) rfl ?_;exact ⟨Y4 ⟨y.out,rfl⟩,((HB.out.drewN n).xL (by rw [l.out];exact QR _) _).xL (by rw [l.out];exact QR _) _⟩
  have y:H (jV o=S (d,m)):=K (by rw [q.out,if_pos ⟨by simpa using hq,by have:=D.out;omega,hR⟩]);rw [hR] at U;clear q hq C hR M;go_wp2_with fail
  refine U.out.mono ?_;rintro e P ⟨rfl,n,rfl⟩;go_wp2_with fail
  refine Ru (v:=YY #[YZ #[I J d,L z k A],YW YT]) (by simp [results,results155,go_sem, *]) rfl ?_;have d3:=D.out;refine ⟨Y5 ⟨d,m,L z k A,y.out,rfl,?_,c4,by omega,by omega,λx hx=>by have:=b5.out x hx;omega⟩,((HB.out.drewN n).xL (by rw [l.out];exact QR _) _).xL (by rw [l.out];exact QR _) _⟩
  rw [l.out,d3];refine World.ownsRow.mono (base:=s+2) ?_ (by omega);have hS:∀(u:QI) (j:Nat) (x:QJ),u.ownsRow (s+2) 3 1 (L z k A) k (bc m)->(u.setCell ⟨s,j,N⟩ x).ownsRow (s+2) 3 1 (L z k A) k (bc m):=λu j x h=>bM h (show aA s u _ from (aA.refl _ _).setCell _) (by omega);exact hS _ _ _ (hS _ _ _ (aV ((aE.refl [] wr).drewN n) (by simp) HO.out))
def gf(w:QI)(q time:Nat)(xk:QF)(v:QJ)(body:QF)(x:Int×Int):Prop:=w.heap[q]? =S (YU #[I J time,T (bs xk),v,T (bs body),I J x.1,I J x.2] 183 (0,0))
def cI(l:List (Nat×QF)):List QJ:=l.flatMap λx=>[I J x.1,T (bs x.2)]
theorem wG:(prog.info? 218).map (λi=>(i.zero,i.size,i.bytes))=S (S (YZ #[I J 0,T ⟨#[]⟩]),2,24):=by kernel_rfl
theorem rZ(a:List QF):mV a (List.replicate a.length F)=(List.range a.length).map λi=>(i,a.getD i []):=by
 unfold mV fL;rw [List.length_replicate]
 congr 1
 rw [List.filter_eq_self];intro i b;have:=Q8.1 b;simp [Q5,this]
theorem pZ(l:List (Nat×QF))(x:Nat×QF):cI (l++[x])=cI l++[I J x.1,T (bs x.2)]:=by simp [cI]
theorem rQ(l:List (Nat×QF)):(cI l).length=l.length * 2:=by
 induction l with
 | nil=>rfl
 | cons x l ih=>show ([_,_]++cI l).length=_;rw [RI,ih];simp;omega
def oB(xd:List QF)(k:Nat):List (Nat×QF):=(List.range k).map λi=>(i,xd.getD i [])
theorem ER(a:List QF)(k:Nat):oB a (k+1)=oB a k++[(k,a.getD k [])]:=by simp [oB,Ui]
theorem Hn(a:List QF)(k:Nat):(oB a k).length=k:=by simp [oB]
theorem N5{D:Array QJ}{k n:Nat}{b:List QJ}{x y:QJ}(f:D.size=n * 2)(g:k < n)(e:b.length=k * 2)(h:D.toList.take (k * 2)=b):((D.setIfInBounds (k * 2) x).setIfInBounds (k * 2+1) y).toList.take ((k+1) * 2)=b++[x,y]:=by
 apply List.ext_getElem?;intro j;rw [UQ];have d:∀i,D.toList[i]? =D[i]? :=λi=>Sl
 rcases Tp j (k * 2) with c | c
 .rw [if_pos (by omega),List.getElem?_append_left (by omega),Sl,TH (by omega),TH (by omega), <-h,UQ,if_pos c,d]
 rw [Se (by omega),e]
 rcases Tp j (k * 2+2) with a | a
 .rw [if_pos (by omega),Sl];obtain rfl | rfl:j=k * 2\/j=k * 2+1:=by omega
  .rw [TH (by omega),Uz];simp;omega
  rw [Uz];rw [if_pos rfl];simp;omega
 rw [if_neg (by omega),Sg (by simp;omega)]
theorem tR(j:aX)(v:QJ)(w:QI)(h:bg w v j.xd.length 1 (ah j.xd))(hz:dJ j):Y8 Ys 218 #[YZ (bh j v)] w λe r=>∃q g,e=YX (YV (S ⟨q,0,N⟩))/\gf r q j.time j.xk (L (S ⟨g,0,N⟩) j.xd.length j.xd.length) j.body (j.time,0)/\w.heap.size<=q/\r.ownsRow w.heap.size 218 2 (L (S ⟨g,0,N⟩) j.xd.length j.xd.length) j.xd.length (cI (mV j.xd (List.replicate j.xd.length F)))/\Y6 w.heap.size w r:=by
 obtain ⟨B,d,z,f,c⟩:=j;obtain ⟨z1,z2,z3,z4,z5,z6⟩:=hz;simp only at h z1 z2 z3 z4 z5 z6;obtain ⟨a,m,rfl,hc⟩:=h.one;simp only [bh];have HC:=K hc;have a2:=λr=>Dt (P:=Ys) YE wG f.length (by omega) (by omega) r;obtain ⟨C,W⟩:=QE (madeCells (YZ #[I J 0,T ⟨#[]⟩]).cells (f.length * 2));have X:C.size=f.length * 2:=by rw [<-W];simp [madeCells]
 rw [W] at a2;obtain ⟨s,R⟩:=QE w.heap.size;obtain ⟨M,n⟩:=QE ((w.alloc (YU #[I J B,I J d,T (bs z),L a f.length m,T (bs c)] 91)).alloc (YU C 218));have O:Y6 s w (w.alloc (YU #[I J B,I J d,T (bs z),L a f.length m,T (bs c)] 91)):=(QQ _ _).alloc (by omega) _;have B0:H (Y6 s w M):=K (by rw [<-n];exact O.alloc (by simp;omega) _)
 have X0:H (cu M s B d z (L a f.length m) c):=K (by
  unfold cu;rw [<-n, <-R,((QQ (w.alloc (YU #[I J B,I J d,T (bs z),L a f.length m,T (bs c)] 91)).heap.size _).alloc (QR _) _).block w.heap.size (by simp)]
  exact Q0 w _)
 have G0:H (M.heap[s+1]? =S (YU C 218 (0,0))):=K (by
  rw [<-n, <-R];have:=Q0 (w.alloc (YU #[I J B,I J d,T (bs z),L a f.length m,T (bs c)] 91)) (YU C 218)
  simpa using this)
 have Z0:H (M.heap.size=s+2):=K (by rw [<-n, <-R];simp);have U:=K n;have o:=K R;have a5:=K z5;clear h hc z5 O n W;go_enter func218,ntmps218;go_wp2_with fail
 rw [U.out];go_loopw [13] (λi r=>∃(k:Nat) (D:Array QJ),k<=f.length/\i=I J k/\D.size=f.length * 2/\H (D.toList.take (k * 2)=cI (oB f k))/\H (r.heap[s+1]? =S (YU D 218 (0,0)))/\H (aA (s+1) M r)) (λi _=>f.length - (Y9 i).toNat)
 case atStart=>exact ⟨0,C,QS _,rfl,X,K rfl,G0,K (aA.refl _ _)⟩
 case round=>
  obtain ⟨k,D,hk,rfl,Y,HD,A,Q⟩:=hrel;have HB:H (Y6 s w wr):=K (B0.out.trans (Q.out.below (by omega)))
  by_cases p:k < f.length
  .have a4:(k:Int) < (f.length:Int):=by omega
   obtain ⟨b,a3,rfl,Z,l⟩:=HC.out k p;rw [gn f k p] at l;have a0:wr.cell? ⟨b,a3+k,N⟩=S (T (bs f[k])):=(HB.out.cell (by show b < s;rw [<-o.out];exact Z)).trans l;have E:H (oB f (k+1)=oB f k++[(k,f[k])]):=K (by rw [ER,Q5,Re p];rfl);obtain ⟨t,et⟩:=QE (f[k]);rw [et] at a0 E;have x0:∃u,wr.cell? ⟨s+1,k * 2,N⟩=S u:=by rw [Q3 A.out];exact ⟨_,Si (by omega)⟩
   have x1:∃u,wr.cell? ⟨s+1,k * 2+1,N⟩=S u:=by rw [Q3 A.out];exact ⟨_,Si (by omega)⟩
   obtain ⟨u0,x0⟩:=x0;obtain ⟨u1,x1⟩:=x1;have y0:=RJ A.out (k * 2);have y1:=RJ A.out (k * 2+1);have HN:=K (N5 (x:=I J k) (y:=T (bs t)) Y p (by rw [rQ,Hn]) HD.out);clear et l;go_wp2_with fail
   have h1:=Ro wr (s+1) (k * 2) _ _ (I J k) A.out;have h2:=Ro _ (s+1) (k * 2+1) _ _ (T (bs t)) h1;exact ⟨⟨k+1,_,by omega,by go_num,by simp [Y],K (by rw [HN.out,E.out,pZ]),K h2,K ((Q.out.setCell _).setCell _)⟩,by simp [Y9];omega⟩
  have a1:k=f.length:=by omega
  subst a1;have V:H (cu wr s B d z (L a f.length m) c):=K (X0.out.same Q.out (by omega));have k1:wr.cell? ⟨s,1,N⟩=S (I J d):=(V.out.cell 1).1;have k2:wr.cell? ⟨s,2,N⟩=S (T (bs z)):=(V.out.cell 2).1;have k4:wr.cell? ⟨s,4,N⟩=S (T (bs c)):=(V.out.cell 4).1;have z9:wr.heap.size=s+2:=Q.out.1.trans Z0.out;have G:=K z9;go_wp2_with fail
  go_ret;refine ⟨s+2,s+1,?_,?_,by rw [o.out];omega,?_,?_⟩
  .rfl
  .unfold gf;rw [<-G.out];exact Q0 wr _
  .rw [o.out];refine World.ownsRow.alloc ?_ _;refine ⟨by rw [rQ,rZ];simp,Y5 ⟨s+1,f.length,D,rfl,by omega,A.out,QR _,by unfold maxLen;omega,Y,?_⟩⟩
   rw [HD.out,rZ];rfl
  rw [o.out];exact HB.out.alloc (by rw [G.out];omega) _
theorem jF(l:List (Nat×QF))(k:Nat)(h:k < l.length):(cI l)[k * 2]? =S (I J (l[k].1:Int))/\(cI l)[k * 2+1]? =S (T (bs l[k].2)):=by
 induction l generalizing k with
 | nil=>simp at h
 | cons x l ih=>
  show ([I J (x.1:Int),T (bs x.2)]++cI l)[k * 2]? =_/\([I J (x.1:Int),T (bs x.2)]++cI l)[k * 2+1]? =_
  cases k with
  | zero=>exact ⟨rfl,rfl⟩
  | succ k=>
   have:=ih k (by simpa using h);rw [Se (by simp only [RQ,RR];omega),Se (by simp only [RQ,RR];omega)];simp only [RQ,RR];rw [show (k+1) * 2 - (0+1+1)=k * 2 by omega,show (k+1) * 2+1 - (0+1+1)=k * 2+1 by omega]
   exact this
def eH(l:List (Nat×QF))(ps:List Nat):List QF:=(l.filter λr=>ps.contains r.1).map (·.2)
def cH(l:List (Nat×QF))(ps:List Nat):List (Nat×QF):=l.filter λr=> !(ps.contains r.1)
theorem Lf(l:List (Nat×QF))(a:List Nat)(k:Nat)(h:k < l.length):(a.contains l[k].1=YT->eH (l.take (k+1)) a=eH (l.take k) a++[l[k].2]/\cH (l.take (k+1)) a=cH (l.take k) a)/\(a.contains l[k].1=F->eH (l.take (k+1)) a=eH (l.take k) a/\cH (l.take (k+1)) a=cH (l.take k) a++[l[k]]):=by
 unfold eH cH;rw [QV h,Uk,Uk]
 constructor
 .intro e;simp only [Ul,e,List.filter_nil,Bool.not_true,if_true,Tm,if_false,Sj,Sh];exact ⟨rfl,trivial⟩
 intro e;simp only [Ul,e,List.filter_nil,Bool.not_false,if_true,Tm,if_false,Sj];exact ⟨trivial,trivial⟩
theorem wx(l:List (Nat×QF))(a:List Nat):(eH l a).length<=l.length:=by unfold eH;rw [RU];exact Un _ _
theorem NU(l:List (Nat×QF))(a:List Nat):(cH l a).length<=l.length:=Un _ _
theorem Jy{i s f:QI}{a n m B d:Nat}{e j:Za}{x y:QJ}{C t:List QJ}(A:i.ownsRow a e B x n C)(r:i.ownsRow a j d y m t)(o:j≠e)(w:Y6 i.heap.size i s)(b:s.grownBy f x.ownBlock):f.ownsRow a j d y m t:=by
 refine (aV (aE.below (ts:=[]) w) (by simp) r).kept b ?_
 rcases r.2 with ⟨h,_⟩ | ⟨g,u,v,h,_,z,_⟩
 .subst h;exact Y4 rfl
 refine Y5 λc=>?_
 rcases A.2 with ⟨k,_⟩ | ⟨D,p,q,k,_,l,_⟩
 .rw [k,h] at c;cases c
 rw [k,h] at c;injection c with c;exact dN z l o c
theorem AH(C q y:Nat)(xk p:QF)(v vp:QJ)(l:List (Nat×QF))(f:List Nat)(x:Int×Int)(w:QI)(h:gf w q y xk v p x)(_:C<=q)(hv:w.ownsRow C 218 2 v l.length (cI l))(hp:bg w vp f.length 1 (bc f))(hl:l.length<=255)(c8:f.length<=255):Y8 Ys 221 #[YV (S ⟨q,0,N⟩),vp] w λe D=>∃vn vs,e=YX vn/\D.ownsRow w.heap.size 9 1 vn (eH l f).length (ah (eH l f))/\gf D q y xk vs p x/\D.ownsRow w.heap.size 218 2 vs (cH l f).length (cI (cH l f))/\pE q w D:=by
 obtain ⟨a,U,rfl,_⟩:=hp.one;have HP:=K hp;have HV:=K hv;have HH:=K h;have k2:w.cell? ⟨q,2,N⟩=S v:=Q3 h _
 obtain ⟨av,cv,rfl⟩:∃a c,v=L a l.length c:=by
  rcases hv.2 with ⟨e,h0⟩ | ⟨g,U,a1,e,_⟩
  .exact ⟨_,_,by rw [h0];exact e⟩
  exact ⟨_,_,e⟩
 obtain ⟨s,hs⟩:=QE w.heap.size;have j:=K hs;obtain ⟨is,b7,b0,b1,b2⟩:=Rr kj;obtain ⟨ir,b6,a7,a8,a9⟩:=Rr wG;have X:q < s:=by rw [<-hs];exact dq h
 clear h hv hp hs;go_enter func221,ntmps221;go_wp2_with fail
 go_loopw [5,6,14] (λvn vs i D=>∃k:Nat,k<=l.length/\i=I J k/\H (D.ownsRow s 9 1 vn (eH (l.take k) f).length (ah (eH (l.take k) f)))/\H (D.ownsRow s 218 2 vs (cH (l.take k) f).length (cI (cH (l.take k) f)))/\H (Y6 s w D)) (λ_ _ i _=>l.length - (Y9 i).toNat)
 case atStart=>exact ⟨0,QS _,rfl,K (World.ownsRow_nil _ _ _ _),K (World.ownsRow_nil _ _ _ _),K (by rw [<-j.out];exact QQ _ _)⟩
 case round=>
  obtain ⟨k,Y,rfl,HN,o,z⟩:=hrel
  by_cases W:k < l.length
  .have d3:(k:Int) < (l.length:Int):=by omega
   have n:=K (Lf l f k W);have a3:=wx (l.take k) f;have a4:=NU (l.take k) f;rw [Sm] at a3 a4;obtain ⟨G,eG⟩:=QE (eH (l.take k) f);obtain ⟨R,eR⟩:=QE (cH (l.take k) f);rw [eG] at HN a3 n;rw [eR] at o a4 n
   obtain ⟨g,rfl,c0,c1⟩:∃g,av=S ⟨g,0,N⟩/\w.cell? ⟨g,k * 2,N⟩=S (I J (l[k].1:Int))/\w.cell? ⟨g,k * 2+1,N⟩=S (T (bs l[k].2)):=by
    rcases HV.out.2 with ⟨_,h0⟩ | ⟨g,cp,a1,e,_,hg,_,_,_,a5⟩
    .omega
    injection e with e1 _ _;refine ⟨g,e1,?_,?_⟩
    .rw [Q3 hg, <-Sl, <-Sk (show k * 2 < l.length * 2 by omega),a5];exact (jF l k W).1
    rw [Q3 hg, <-Sl, <-Sk (show k * 2+1 < l.length * 2 by omega),a5];exact (jF l k W).2
   have d0:wr.cell? ⟨g,k * 2,N⟩=S (I J (l[k].1:Int)):=(z.out.cell (by show g < s;rw [<-j.out];exact au c0)).trans c0;have d1:wr.cell? ⟨g,k * 2+1,N⟩=S (T (bs l[k].2)):=(z.out.cell (by show g < s;rw [<-j.out];exact au c1)).trans c1;obtain ⟨x,ex⟩:=QE (l[k]);rw [ex] at d0 d1 n;obtain ⟨P,b⟩:=x;simp only at d0 d1;have d2:s<=wr.heap.size:=by have:=z.out.size;have:=j.out;omega
   obtain ⟨Q,B⟩:=QE (wr.alloc (YU #[I J (P:Int),T (bs b)] 218));have r:=QG B;have a2:=QH B;obtain ⟨p0,p1⟩:=QM a2;have BW:H (Y6 s w Q):=K (z.out.trans (r.mono d2));have A:=K (uA f P (L a f.length U) Q (HP.out.below (by rw [j.out];exact BW.out)) c8);have M:=aV (aE.below (ts:=[]) r) (by simp) HN.out;have O:=aV (aE.below (ts:=[]) r) (by simp) o.out;have a6:s<=Q.heap.size:=by have:=r.size;omega
   have a0:=K B;have d4:=K M;have d5:=K O;clear B r a2 ex c0 c1 eG eR HN o z
   cases Z:f.contains P
   case true=>
    obtain ⟨q1,q2⟩:=n.out.1 Z;have Q1:=K q1;have Q2:=K q2;rw [Z] at A;clear q1 q2 n Z;go_wp2_with fail
    rw [a0.out];refine A.out.mono ?_;rintro e w2 ⟨rfl,rfl⟩
    go_wp2_with (first
     | (at_builtin;refine Uo _ rfl _ _ 30 rfl s 9 is (T ⟨#[]⟩) 1 16 underlying30 b7 b0 b1 b2 rfl (by decide) _ _ _ rfl (M.alloc _) ⟨Q.heap.size,0,N⟩ 1 1 [T (bs b)] rfl rfl ?c1 ?c2 ?c3 ?c4 ?c5 ?_)
     | fail)
    case c1=>exact World.news_of_block (cs:=#[T (bs b)]) (t:=9) (fr:=(0,0)) (Q0 Q _)
    case c2=>intro u hu;simp at hu;subst hu;rfl
    case c3=>unfold maxLen;omega
    case c4=>omega
    case c5=>simp;omega
    intro v' w4 m d _;have b5:=K (Jy M O (by decide) ((QQ _ _).alloc (QR _) _) d);have V:=K ((BW.out.alloc a6 _).grown d (by simp;omega) (λk Y=>(M.lt k Y).1));have E:=K m;clear m d M O;go_wp2_with fail
    exact ⟨⟨k+1,by omega,by go_num,K (by rw [Q1.out];simpa [ah] using E.out),K (by rw [Q2.out];exact b5.out),V⟩,by simp [Y9];omega⟩
   obtain ⟨q1,q2⟩:=n.out.2 Z;have Q1:=K q1;have Q2:=K q2;rw [Z] at A;clear q1 q2 n Z;go_wp2_with fail
   rw [a0.out];refine A.out.mono ?_;rintro e w2 ⟨rfl,rfl⟩
   go_wp2_with (first
    | (at_builtin;refine Uo _ rfl _ _ 151 rfl s 218 ir _ 2 24 YE b6 a7 a8 a9 rfl (by decide) _ _ _ rfl (O.alloc _) ⟨Q.heap.size,0,N⟩ 1 1 [I J (P:Int),T (bs b)] rfl rfl ?c1 ?c2 ?c3 ?c4 ?c5 ?_)
    | fail)
   case c1=>exact World.news_of_block (cs:=#[I J (P:Int),T (bs b)]) (t:=218) (fr:=(0,0)) (Q0 Q _)
   case c2=>intro u hu;simp at hu;rcases hu with rfl | rfl <;> rfl
   case c3=>unfold maxLen;omega
   case c4=>omega
   case c5=>simp;omega
   intro v' w4 m d _;have b4:=K (Jy O M (by decide) ((QQ _ _).alloc (QR _) _) d);have V:=K ((BW.out.alloc a6 _).grown d (by simp;omega) (λk Y=>(O.lt k Y).1));have E:=K m;clear m d M O;go_wp2_with fail
   exact ⟨⟨k+1,by omega,by go_num,K (by rw [Q1.out];exact b4.out),K (by rw [Q2.out,pZ,RI];exact E.out),V⟩,by simp [Y9];omega⟩
  have c6:k=l.length:=by omega
  subst c6;rw [QZ] at HN o
  have hP:gf wr q y xk (L av l.length cv) p x:=by
   have:=HH.out;unfold gf at this ⊢;rw [z.out.block q X];exact this
  have m2:∃u,wr.cell? ⟨q,2,N⟩=S u:=⟨_,Q3 hP _⟩;obtain ⟨u2,m2⟩:=m2;have f2:=RJ hP 2;have b3:=K hP
  obtain ⟨gs,cs,e6⟩:∃a c,u6= .slice a (cH l f).length c:=by
   rcases o.out.2 with ⟨e,h0⟩ | ⟨g,U,a1,e,_⟩
   .exact ⟨_,_,by rw [h0];exact e⟩
   exact ⟨_,_,e⟩
  subst e6;clear hP;go_wp2_with fail
  go_ret;have c9:=Ro wr q 2 _ _ (.slice gs (cH l f).length cs) b3.out;have hS:aA q wr (wr.setCell ⟨q,2,N⟩ (.slice gs (cH l f).length cs)):=(aA.refl _ _).setCell _;refine ⟨u5,.slice gs (cH l f).length cs,rfl,?_,c9,?_,?_⟩
  .rw [j.out];exact bM HN.out hS X
  .rw [j.out];exact bM o.out hS X
  exact ⟨by rw [hS.1];exact z.out.size,λk Y c7=>(hS.2 k c7).trans (z.out.block k (by rw [<-j.out];exact Y)),(df.xF z.out).trans hS.3⟩
def aa.xq(S:aa)(i:Nat):List (Nat×QF):=mV (S.xr i).xd (S.xO i)
def aa.live(S:aa):List Nat:=(List.range S.items.length).filter λi=> !(S.xq i).isEmpty
def aa.plus(S:aa)(m:aX):aa:=⟨S.items++[⟨m,List.replicate m.xd.length F⟩],m.time⟩
theorem fQ{a:aa}{i:Nat}(h:i < a.items.length):a.xr i=a.items[i].m:=by
 unfold aa.xr;rw [Re h];rfl
theorem Nt{a:aa}{i:Nat}(h:i < a.items.length):a.xO i=a.items[i].out:=by
 unfold aa.xO;rw [Q5,TV,Re h];rfl
theorem ky{a:aa}{i:Nat}(h:i < a.items.length):a.xq i=mV a.items[i].m.xd a.items[i].out:=by
 unfold aa.xq;rw [fQ h,Nt h]
theorem LA{a:aa}{i:Nat}(h:a.items.length<=i):a.xq i=[]:=by
 unfold aa.xq aa.xO;rw [Q5,Sg (by rw [RU];exact h)];rfl
theorem rD{a:aa}{i:Nat}:i∈a.live ↔ i < a.items.length/\a.xq i≠[]:=by
 unfold aa.live;rw [Ra,Q8];simp
theorem wP(a:aa):a.live.Nodup:=List.Pairwise.filter _ List.nodup_range
theorem dR{a:aa}{i:Nat}(h:i∈a.live):i < a.items.length:=(rD.1 h).1
theorem j0(a:aa)(m:aX):(a.plus m).items.length=a.items.length+1:=by simp [aa.plus]
theorem FE{a:aa}{m:aX}{i:Nat}(h:i < a.items.length):(a.plus m).xr i=a.xr i:=by
 rw [fQ h,fQ (by rw [j0];omega)];simp only [aa.plus];rw [VO h]
theorem tV{a:aa}{m:aX}{i:Nat}(h:i < a.items.length):(a.plus m).xq i=a.xq i:=by
 rw [ky h,ky (by rw [j0];omega)];simp only [aa.plus];rw [VO h]
theorem uJ(a:aa)(m:aX):(a.plus m).xr a.items.length=m:=by
 rw [fQ (by rw [j0];omega)];simp [aa.plus]
theorem nW(a:aa)(m:aX):(a.plus m).xq a.items.length=mV m.xd (List.replicate m.xd.length F):=by
 rw [ky (by rw [j0];omega)];simp [aa.plus]
theorem Gr{m:aX}(h:1<=m.xd.length):mV m.xd (List.replicate m.xd.length F)≠[]:=by
 rw [rZ];intro e;have:=congrArg List.length e;simp only [RU,List.length_range,RR] at this;omega
theorem pB{a:aa}{m:aX}(h:1<=m.xd.length):(a.plus m).live=a.live++[a.items.length]:=by
 unfold aa.live;rw [j0,Ui,Uk]
 congr 1
 .apply Q7;intro i b;rw [tV (Q8.1 b)]
 rw [Ul,nW,if_pos]
 .rfl
 have:=Gr h;simpa using this
theorem dV(b:aa)(a:Nat)(c:List Nat):(b.outs a c).items.length=b.items.length:=by simp [aa.outs]
theorem kN(b:aa)(a:Nat)(c:List Nat)(i:Nat):(b.outs a c).xr i=b.xr i:=by
 unfold aa.xr aa.outs;rw [Vc]
 by_cases h:a=i
 .subst h
  cases b.items[a]? <;> simp
 simp [h]
theorem jZ{b:aa}{a i:Nat}{c:List Nat}(h:i≠a):(b.outs a c).xq i=b.xq i:=by
 unfold aa.xq;rw [kN]
 congr 1
 unfold aa.xO aa.outs;rw [Q5,Q5,TV,TV,Vc];simp [Ne.symm h]
theorem oS{b:aa}{a:Nat}{c:List Nat}(h:a < b.items.length):(b.outs a c).xq a=cH (b.xq a) c:=by
 rw [ky (by rw [dV];exact h),ky h];unfold cH;rw [<-Gt]
 have d:(b.outs a c).items[a]'(by rw [dV];exact h)=⟨b.items[a].m,fE b.items[a].out c⟩:=by
  simp [aa.outs]
 rw [d]
theorem lT{b:aa}{a:Nat}{c:List Nat}(h:a∈b.live)(d:cH (b.xq a) c≠[]):(b.outs a c).live=b.live:=by
 unfold aa.live;rw [dV];apply Q7;intro i f
 by_cases e:i=a
 .subst e;have:=(rD.1 h).2;rw [oS (dR h)];rw [Ri];simp [d,this]
 rw [jZ e]
theorem lS{b:aa}{a:Nat}{c:List Nat}(h:a∈b.live)(d:cH (b.xq a) c=[]):(b.outs a c).live=b.live.filter λi=>decide (i≠a):=by
 unfold aa.live;rw [dV,List.filter_filter];apply Q7;intro i f
 by_cases e:i=a
 .subst e;rw [oS (dR h),d];simp
 rw [jZ e];simp [e]
theorem mx{a:aa}{b:Nat}{c:List Nat}(h:1<=c.length):dw a b c=(decide (1<=b/\b - 1∈a.live) && c.all λx=>(a.xq (b - 1)).any λr=>decide (r.1=x)):=by
 unfold dw aa.xq;simp only [Gs];obtain ⟨B,f⟩:∃B,(c.all λx=>decide (x < (a.xO (b - 1)).length) && !((a.xO (b - 1)).getD x F))=B:=⟨_,rfl⟩;rw [f]
 cases B
 case false=>simp
 rw [SC,SC,Ri];simp only [Rk,decide_eq_true_eq]
 constructor
 .rintro ⟨d,g⟩;refine ⟨d,rD.2 ⟨by omega,?_⟩⟩
  obtain ⟨x,i⟩:∃x,x∈c:=by
   cases c with
   | nil=>simp at h
   | cons x l=>exact ⟨x,by simp⟩
  have:=Rb.1 f x i;rw [<-Gs (a.xr (b - 1)).xd] at this;intro e;unfold aa.xq at e;rw [e] at this;simp at this
 rintro ⟨d,g⟩;have:=dR g;exact ⟨d,by omega⟩
structure aa.Ok(S:aa):Prop where
 id:∀i (h:i < S.items.length),S.items[i].m.id=i+1
 sz:∀x∈S.items,dJ x.m/\1<=x.m.xd.length/\x.m.xd.length<=10/\x.out.length=x.m.xd.length
theorem aa.Ok.nil(a:Nat):aa.Ok ⟨[],a⟩:=⟨λi h=>by simp at h,λx h=>by simp at h⟩
theorem aa.Ok.plus{a:aa}(h:a.Ok){m:aX}(g:m.id=a.items.length+1)(j:dJ m)(d:1<=m.xd.length)(f:m.xd.length<=10):(a.plus m).Ok:=by
 refine ⟨λi c=>?_,λx b=>?_⟩
 .rw [j0] at c
  by_cases e:i < a.items.length
  .simp only [aa.plus];rw [VO e];exact h.id i e
  obtain rfl:i=a.items.length:=by omega
  simp [aa.plus,g]
 simp only [aa.plus,Rx,Ry] at b
 rcases b with b | rfl
 .exact h.sz x b
 exact ⟨j,d,f,by simp⟩
theorem aa.Ok.outs{f:aa}(h:f.Ok)(e:Nat)(l:List Nat):(f.outs e l).Ok:=by
 refine ⟨λi k=>?_,λx n=>?_⟩
 .rw [dV] at k;have j:=kN f e l i;rw [fQ (by rw [dV];exact k),fQ k] at j;rw [j];exact h.id i k
 obtain ⟨i,k,rfl⟩:=Rj n;have g:i < f.items.length:=by rwa [dV] at k
 obtain ⟨a,b,c,d⟩:=h.sz f.items[i] (QU g)
 have j:((f.outs e l).items[i]).m=f.items[i].m:=by
  have j:=kN f e l i
  rwa [fQ (by rw [dV];exact g),fQ g] at j
 have m:((f.outs e l).items[i]).out.length=f.items[i].out.length:=by
  simp only [aa.outs,List.getElem_modify]
  split
  .rw [lR]
  rfl
 rw [j,m];exact ⟨a,b,c,d⟩
theorem aa.Ok.time{a:aa}(h:a.Ok)(T:Nat):aa.Ok ⟨a.items,T⟩:=⟨h.id,h.sz⟩
theorem lz{a:aa}(h:a.Ok)(i:Nat):(a.xq i).length<=10:=by
 rcases Tp i a.items.length with b | b
 .rw [ky b];unfold mV;rw [RU];have:=qu a.items[i].out a.items[i].out.length;have:=h.sz a.items[i] (QU b);omega
 rw [LA b];simp
end Go.Proofs.YtponhohdpophlaaGreatDoor
