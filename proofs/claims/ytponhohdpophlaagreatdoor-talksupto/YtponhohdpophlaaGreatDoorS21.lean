import Derived.Test.YtponhohdpophlaaGreatDoorS16
import Derived.Test.YtponhohdpophlaaGreatDoorS20
import Derived.Test.YtponhohdpophlaaGreatDoorS18
namespace Go.Proofs.YtponhohdpophlaaGreatDoor
set_option maxHeartbeats 8000000
set_option maxRecDepth 1000000
open Go renaming heap_alloc_new->Q0,bodyPost_end->RN,results_none->RP,heap_setCell_same->Ro,info_parts->Rr,bodyPost_ret->Ru,leaves_cons->SJ,Calls->Y8,Ending->Zb
open Go.Ending renaming returned->YX
open Go.IntKind renaming i64->J
open Go.Lib renaming cell_of_heap->Q3,frozen_of_heap->RJ
open Go.Obj renaming cells->YU
open Go.Proofs.Tryz renaming underlying100->RG,func109->WI,ntmps109->WJ,results109->WK,func163->WX,ntmps163->Wk,prog->Ys
open Go.RowKit renaming Hid->H,Below->Y6,intOf->Y9
open Go.RowKit.Below renaming refl->QQ
open Go.Value renaming int->I,slice->L,string->T,pointer->YV,bool->YW,tuple->YY,agg->YZ
open _root_.Array renaming getElem?_eq_getElem->Si,getElem?_toList->Sl,getElem?_setIfInBounds_ne->TH,getElem?_setIfInBounds_self_of_lt->TM,size_setIfInBounds->Vg
open _root_.Bool renaming false->F,and_eq_true->Rk,not_eq_true'->Rm,false_eq_true->Tm,or_eq_true->Ty,true_eq_false->VU,true->YT
open _root_.List renaming length_set->Q4,getD_eq_getElem?_getD->Q5,mem_range->Q8,length_append->RI,length_cons->RQ,length_nil->RR,all_eq_true->Rb,getElem?_eq_getElem->Re,getElem?_append_left->Sc,getElem?_append_right->Se,getElem?_eq_none->Sg,getElem?_take_of_lt->Sk,length_take->Sm,getElem?_map->TV,foldl_append->UP
open _root_.Nat renaming le_refl->QR,zero_le->QS,le_trans->Rn,lt_of_lt_of_le->SA,zero_add->TD,mul_one->Vf,le_succ->Vm
open _root_.Option renaming none->N,some->S
open _root_.Or renaming inl->Y4,inr->Y5
open Go.Proofs.Tryz
open Go.RowKit
def PB(c:bF)(s:cj)(name shown:QF)(size:Nat)(z:Int)(s':cj)(ls':List QF):Prop:=
 z=0/\s'=s/\ls'=[OI]\/z=1/\s'=s/\ls'=[Qp]\/z=2/\s'={s with over:=YT}/\ls'=[PR]\/z=3/\s'=s/\ls'=[Ip]\/z=4/\s'={s with tx:=N}/\ls'=[Ip]\/(∃t,s.tx=S t/\z=5/\s'={s with tx:=S {t with body:=S ⟨[],F,F⟩}}/\ls'=[PT])\/z=6/\s'={s with xj:=YT,tx:=N}/\ls'=[[50,53,48,32]++cX c++[13,10]]\/z=7/\s'={s with xj:=YT,tx:=N}/\ls'=[[50,53,48,45]++cX c++[13,10],[50,53,48,45,83,73,90,69,32]++Lib.itoa c.size++[13,10],[50,53,48,32,65,85,84,72,32,80,76,65,73,78,13,10]]\/z=8/\s'=(rq c s shown).1/\ls'=(rq c s shown).2\/z=9/\s'=(nC c s name (size:Int)).1/\ls'=(nC c s name (size:Int)).2\/∃t,s.tx=S t/\t.body=N/\name.length<=1048576/\t.xd.length<=10/\z=10/\s'={s with tx:=S {t with xd:=iE t.xd c.most (s.xe || s.known || iJ c name) name}}/\ls'=[gR t.xd c.most (s.xe || s.known || iJ c name) name]
section
variable {A:Nat->Prop} {pp pb sb ch:Nat} {vw:QJ} {w:QI} {s:cj} {E:Nat->Prop} {c:bF} {ls:List QF}
theorem cq.ready(h:cq w A pp pb sb ch vw ls s)(b:Nat):Y8 Ys 165 #[YV (S ⟨sb,0,N⟩),I J (b:Int)] w λe n=>e=YX (YW (dy s b))/\w=n:=by
 obtain ⟨m,f,d⟩:=h.ex;unfold dy
 cases i:s.tx with
 | none=>
  rw [i] at d;have d:m=YV N:=d;subst d;exact IQ sb ch _ ls b s.xj w f rfl rfl
 | some t=>
  rw [i] at d;obtain ⟨l,u,r,rfl,q,g,p,o⟩:=d;obtain ⟨a,j,k⟩:=az (bq g.row);exact IT sb ch l t.xd.length j a _ ls b s.xj w f rfl rfl ((g.cell 1).trans (by rw [k];rfl))
theorem cz.ret{d:QI}{b:cj}{a:List QF}{e:Zb}(h:cz A pp pb sb ch vw w b a e d):e=YX (YY #[]):=h.1
theorem IC(h:cq w A pp pb sb ch vw [] s)(t:gq E w pp c)(_hd:∀k,E k->¬A k)(d b:QF)(f:Nat)(a:Nat)(p:dy s a=F):Y8 Ys 108 #[YV (S ⟨sb,0,N⟩),YZ #[I J (a:Int),T (bs d),I J (f:Int),T (bs b)]] w (cz A pp pb sb ch vw w s [KK]):=by
 obtain ⟨q,g⟩:=QE (w.alloc (YU #[I J (a:Int),T (bs d),I J (f:Int),T (bs b)] 197));have i:=QG g;have r:=QH g;obtain ⟨y,z,B,C⟩:=QN r;have m:=h.below i;have o:=t.below i;have l:H (Y8 Ys 165 #[YV (S ⟨sb,0,N⟩),I J (a:Int)] q λe x=>e=YX (YW F)/\q=x):=K (by rw [<-p];exact m.ready a);have HT:=K (m.yh [53,48,51,32,102,105,114,115,116] (by decide));have j:=K i;clear h t m o i r _hd;go_enter func108,ntmps108;go_wp2_with fail
 refine l.out.mono ?_;rintro e D ⟨rfl,rfl⟩;go_wp2_with fail
 refine HT.out.mono ?_;rintro e G n;have p:=n.ret;subst p;have u:=K n;clear n;go_wp2_with fail
 refine Ru (v:=YY #[]) (by simp [results,results108,go_sem]) rfl ?_;exact cz.from j.out u.out
theorem gN(h:cq w A pp pb sb ch vw [] s)(B:gq E w pp c)(q:∀k,E k->¬A k)(b a:QF)(d:Nat){i:Nat}{z:Int}{D:cj}{l:List QF}(C:(i:Int)=z)(u:dy s i=YT)(P:PB c s b a d z D l):Y8 Ys 108 #[YV (S ⟨sb,0,N⟩),YZ #[I J z,T (bs b),I J (d:Int),T (bs a)]] w (cz A pp pb sb ch vw w D l):=by
 obtain ⟨x,j⟩:=QE (w.alloc (YU #[I J z,T (bs b),I J (d:Int),T (bs a)] 197));have m:=QG j;have y:=QH j;obtain ⟨R,U,V,W⟩:=QN y;have f:=h.below m;have g:=B.below m;have o:H (Y8 Ys 165 #[YV (S ⟨sb,0,N⟩),I J z] x λe Q=>e=YX (YW YT)/\x=Q):=K (by rw [<-C, <-u];exact f.ready i)
 rcases P with ⟨rfl,rfl,rfl⟩ | ⟨rfl,rfl,rfl⟩ | ⟨rfl,rfl,rfl⟩ | ⟨rfl,rfl,rfl⟩ | ⟨rfl,rfl,rfl⟩ | ⟨t,v,rfl,rfl,rfl⟩ | ⟨rfl,rfl,rfl⟩ | ⟨rfl,rfl,rfl⟩ | ⟨rfl,rfl,rfl⟩ | ⟨rfl,rfl,rfl⟩ | ⟨t,v,r,O,M,rfl,rfl,rfl⟩;have HT:=K (f.yh [53,48,48,32,119,104,97,116] (by decide))
 rotate_left
 have HT:=K (f.yh [53,48,49,32,104,111,119] (by decide))
 rotate_left
 have HT:=K (f.zj)
 rotate_left
 have HT:=K (f.yh [50,53,48,32,111,107] (by decide))
 rotate_left
 have HT:=K (f.reset)
 rotate_left
 have HT:=K (f.data v)
 rotate_left
 have HT:=K (f.yY g q)
 rotate_left
 have HT:=K (f.more g q)
 rotate_left
 have HT:=K (f.zf g a)
 rotate_left
 have HT:=K (f.xu g b (d:Int))
 rotate_left
 have HT:=K (f.yQ g v r b O M)
 rotate_left
 all_goals
  have n:=K m;clear h B f g m y q C;go_enter func108,ntmps108;go_wp2_with fail
  refine o.out.mono ?_;rintro e X ⟨rfl,rfl⟩;go_wp2_with fail
  refine HT.out.mono ?_;rintro e Y p;have u:=p.ret;subst u;have G:=K p;clear p;go_wp2_with fail
  refine RN (RP rfl _ _ _) rfl ?_;exact cz.from n.out G.out
end
theorem aH.lt{w:QI}{pb mb:Nat}{q:Nat->Nat}{vr:QJ}{S:aa}{xb:QF}(h:lA w pb mb q vr S xb){k:Nat}(j:aH w pb mb q vr S k):k < w.heap.size:=by
 rcases j with (e | e | ⟨i,f,e | ⟨C,z,a,d⟩⟩) | e
 .rw [e];exact h.xN.yb
 .rw [e];exact h.xN.zg
 .obtain ⟨_,v,x,b,_⟩:=h.xN.xu i f;rw [e];exact aq b
 .obtain ⟨_,v,x,b,g⟩:=h.xN.xu i f;unfold gf at b;rw [b] at a;injection a with a;injection a with a _ _;rw [<-a] at d;exact (g.lt k d).2
 exact h.row.lt e
theorem lA.xt{B:Nat->Prop}{w l:QI}{pb mb:Nat}{q:Nat->Nat}{vr:QJ}{S:aa}{xb:QF}(h:lA w pb mb q vr S xb)(f:aC B w l)(d:∀k,aH w pb mb q vr S k->¬B k):lA l pb mb q vr S xb/\∀k,aH l pb mb q vr S k->aH w pb mb q vr S k:=by
 have p:∀i∈S.live,l.heap[q i]? =w.heap[q i]? :=λi j=>by
  obtain ⟨_,v,x,b,_⟩:=h.xN.xu i j;exact f.block _ (aq b) (d _ (Y4 (Y5 (Y5 ⟨i,j,Y4 rfl⟩))))
 refine ⟨⟨⟨f.some_ h.xN.xx (d _ (Y4 (Y4 rfl))),f.some_ h.xN.map (d _ (Y4 (Y5 (Y4 rfl)))),h.xN.yyW,h.xN.xZ,h.xN.one,λi j=>?_⟩,h.row.xt f (λg m=>d g (Y5 m))⟩,λk o=>o.imp (λe=>jf.xo p e) id⟩;obtain ⟨a,v,x,b,n⟩:=h.xN.xu i j;refine ⟨a,v,x,f.some_ b (d _ (Y4 (Y5 (Y5 ⟨i,j,Y4 rfl⟩)))),bG n f (λg m=>d g (Y4 (Y5 (Y5 ⟨i,j,Y5 ⟨_,_,b,m⟩⟩))))⟩
def gE(A:Nat->Prop)(pp pb mb sb ch:Nat)(vw:QJ)(q:Nat->Nat)(vr:QJ)(S:aa)(w:QI)(s':cj)(S':aa)(recs':QF)(ls':List QF)(w':QI):Prop:=
 ∃A' q' vr',cq w' A' pp pb sb ch vw ls' s'/\lA w' pb mb q' vr' S' recs'/\(∀k,A k->A' k)/\(∀k,A' k->A k\/w.heap.size<=k)/\(∀k,aH w' pb mb q' vr' S' k->aH w pb mb q vr S k\/w.heap.size<=k)/\(∀k,A' k->¬aH w' pb mb q' vr' S' k)/\aC (λk=>A k\/aH w pb mb q vr S k) w w'
section
variable {A:Nat->Prop} {pp pb mb sb ch:Nat} {vw:QJ} {q:Nat->Nat} {vr:QJ} {S:aa} {xb:QF} {w:QI} {s:cj} {E:Nat->Prop} {c:bF}
theorem gE.step{w':QI}{m:cj}{d:List QF}{e:Zb}(j:lA w pb mb q vr S xb)(l:∀k,A k->¬aH w pb mb q vr S k)(h:cz A pp pb sb ch vw w m d e w'):gE A pp pb mb sb ch vw q vr S w m S xb d w':=by
 obtain ⟨_,n,p,r,g,i⟩:=h;obtain ⟨o,f⟩:=j.xt i (λk b a=>l k a b);exact ⟨n,q,vr,p,o,r,g,λk b=>Y4 (f k b),λk t b=>(g k t).elim (λe=>l k e (f k b)) (λe=>by have:=aH.lt j (f k b);omega),i.mono (λ_ _ e=>Y4 e)⟩
theorem cq.xX{f:List QF}(h:cq w A pp pb sb ch vw f s)(u:FrameMode):CallsD Ys 225 #[YV (some ⟨sb,0,N⟩)] u w λe u' b=>u'=u/\e=YX (YY #[])/\cq b A pp pb sb ch vw f {s with tx:=N}/\aC A w b:=by
 obtain ⟨i,a,j⟩:=h.ex;refine (pC sb i u w (a.cell 8) (a.frozen 8)).mono ?_;rintro e u' b ⟨rfl,rfl,rfl⟩;have d:aA sb w (w.setCell ⟨sb,8,N⟩ (YV N)):=(aA.refl _ _).setCell _;exact ⟨rfl,rfl,⟨⟨YV N,a.set 8 (by decide) (YV N),rfl⟩,h.xP,h.xR,λk g=>SA (h.lt k g) (aC.same d).size⟩,(aC.same d).mono (λk _ e=>by rw [e];exact h.xP)⟩
theorem Oz(h:cq w A pp pb sb ch vw [] s){t:qN}(z:s.tx=some t){b:dm}(x:t.body=some b)(j:b.bad=YT):Y8 Ys 163 #[YV (some ⟨sb,0,N⟩)] w (cz A pp pb sb ch vw w {s with tx:=N} [OI]):=by
 obtain ⟨Q,d,k⟩:=h.ex;rw [z] at k;obtain ⟨u,P,O,rfl,G,r,D,p⟩:=k;rw [x] at p;obtain ⟨o,R,rfl,y,g,v⟩:=p;have C:w.cell? ⟨sb,8,N⟩=some (YV (some ⟨u,0,N⟩)):=d.cell 8;have M:w.cell? ⟨u,2,N⟩=some (YV (some ⟨o,0,N⟩)):=r.cell 2;have B:w.cell? ⟨o,2,N⟩=some (YW YT):=by rw [Q3 g.xp, <-j];rfl
 have HT:=K (h.tell (by simp) [53,48,48,32,119,104,97,116] (by decide));clear h d r g;go_enter_defers WX,ntmps163
 go_wp2_with fail
 refine HT.out.mono ?_;rintro e U ⟨rfl,d,i⟩;have l:=K d;have m:=K i;clear d i;go_wp2_with fail
 refine SJ (f:=225) (args:=#[YV (some ⟨sb,0,N⟩)]) (by simp) (by simp [go_sem]) ?_;refine (l.out.xX .returning).mono ?_;rintro e u' V ⟨rfl,rfl,k,n⟩;exact ⟨_,RP rfl _ _ _,rfl,A,k,λ_ a=>a,λ_ a=>Y4 a,m.out.trans n (λ_ _ e=>e)⟩
end
section
variable {A:Nat->Prop} {pp pb mb sb ch:Nat} {vw:QJ} {q:Nat->Nat} {vr:QJ} {S:aa} {xb:QF} {w:QI} {s:cj} {E:Nat->Prop} {c:bF}
theorem Mo(h:cq w A pp pb sb ch vw [] s)(y:gq E w pp c){t:qN}(U:s.tx=some t){b:dm}(Q:t.body=some b)(k:b.bad=F)(z:c.size < (b.text.length:Int)):Y8 Ys 163 #[YV (some ⟨sb,0,N⟩)] w (cz A pp pb sb ch vw w {s with tx:=N} [OJ]):=by
 obtain ⟨vx,i,m⟩:=h.ex;obtain ⟨vD,vN,vU,vW,B,_⟩:=y.set;rw [U] at m;obtain ⟨C,vt,vb,rfl,ha,x,Z,v⟩:=m;rw [Q] at v;obtain ⟨r,vy,rfl,R,d,P⟩:=v;obtain ⟨G,M,O⟩:=zS d.row;subst O;have X:w.cell? ⟨sb,0,N⟩=some (YV (some ⟨pp,0,N⟩)):=i.cell 0;have Y:w.cell? ⟨sb,8,N⟩=some (YV (some ⟨C,0,N⟩)):=i.cell 8;have t2:w.cell? ⟨C,2,N⟩=some (YV (some ⟨r,0,N⟩)):=x.cell 2;have V:w.cell? ⟨r,0,N⟩=some (L G b.text.length M):=Q3 d.xp _;have W:w.cell? ⟨r,2,N⟩=some (YW F):=by rw [Q3 d.xp, <-k];rfl
 have y5:w.cell? ⟨pp,5,N⟩=some (I J c.size):=(B.cell 5 (by decide)).trans rfl;have D:=K h;clear h i x d B y;go_enter_defers WX,ntmps163
 go_wp2_with fail
 go_quiet (fail)
 have g:=an nq w w.heap.size;obtain ⟨w0,l⟩:=QE (w.drewN nq);rw [l] at g ⊢;have HT:=K ((D.out.below g).tell (by simp) [53,53,50,32,115,105,122,101] (by decide));have n:=K g;clear g l;go_wp2_with fail
 refine HT.out.mono ?_;rintro e w1 ⟨rfl,i,j⟩;have o:=K i;have p:=K j;clear i j;go_wp2_with fail
 refine SJ (f:=225) (args:=#[YV (some ⟨sb,0,N⟩)]) (by simp) (by simp [go_sem]) ?_;refine (o.out.xX .returning).mono ?_;rintro e u' w2 ⟨rfl,rfl,m,u⟩;exact ⟨_,RP rfl _ _ _,rfl,A,m,λ_ a=>a,λ_ a=>Y4 a,((aC.below n.out:aC A _ _).trans p.out (λ_ _ e=>e)).trans u (λ_ _ e=>e)⟩
def MD(S:aa)(xb:QF)(pb mb:Nat)(q:Nat->Nat)(vr:QJ)(m:aX)(W:QI)(id:Int)(ok:Bool)(w':QI):Prop:=
 (ok=F/\Y6 W.heap.size W w')\/(ok=YT/\id=(S.items.length:Int)+1/\jM pb mb q vr S xb m W w')
theorem jM.from{m:aX}{W g:QI}(h:lA w pb mb q vr S xb)(d:Y6 w.heap.size w W)(b:jM pb mb q vr S xb m W g):jM pb mb q vr S xb m w g:=by
 obtain ⟨n,f,l,i,j⟩:=b;have a:∀k,aH W pb mb q vr S k->aH w pb mb q vr S k:=λk b=>b.imp (λe=>fp h.xN d e) id;exact ⟨n,f,l,(aC.below d:aC _ _ _).trans i (λk _ e=>a k e),λk b=>(j k b).imp (a k) (λe=>Rn d.size e)⟩
theorem MD.xt{m:aX}{a:QI}{b:Int}{d:Bool}(h:MD S xb pb mb q vr m w b d a):aC (aH w pb mb q vr S) w a:=by
 rcases h with ⟨_,h⟩ | ⟨_,_,_,_,_,h,_⟩
 .exact aC.below h
 exact h
def tH(c:bF)(xb:QF)(m:aX):Bool:= !decide (c.room < ((xb.length+(8+(bT m).length):Nat):Int))
theorem Mn(h:cq w A pp pb sb ch vw [] s)(he:gq E w pp c)(r:lA w pb mb q vr S xb){t:qN}(ht:s.tx=some t){b:dm}(hb:t.body=some b)(b3:b.bad=F)(e1:¬c.size < (b.text.length:Int))(hz:dJ (xz S t.xk t.xd b.text))(Z:xb.length<=1073741824)(b6:bP (bT (xz S t.xk t.xd b.text))=some (xz S t.xk t.xd b.text))(d:∀k,A k->¬aH w pb mb q vr S k)(X:∀k,E k->¬aH w pb mb q vr S k)(M:∀k,E k->¬A k):Y8 Ys 163 #[YV (some ⟨sb,0,N⟩)] w λe j=>e=YX (YY #[])/\
   (if tH c xb (xz S t.xk t.xd b.text) then gE A pp pb mb sb ch vw q vr S w {s with tx:=N} (S.plus (xz S t.xk t.xd b.text)) (xb++bJ (bT (xz S t.xk t.xd b.text))) [[50,53,48,32,107,101,112,116,32]++Lib.itoa ((S.items.length:Int)+1)++[13,10]] j else gE A pp pb mb sb ch vw q vr S w {s with tx:=N} S xb [Qo] j):=by
 obtain ⟨vx,h1,h2⟩:=h.ex;obtain ⟨vD,vN,vU,vW,hs,_⟩:=he.set;obtain ⟨m,hm⟩:=he.len;rw [ht] at h2;obtain ⟨u,vt,vb,rfl,ha,hT,hO,hB⟩:=h2;rw [hb] at hB;obtain ⟨Q,vy,rfl,d6,n,d4⟩:=hB;obtain ⟨ay,cy,ey⟩:=zS n.row;have a9:=eQ.zh n.row;subst ey;obtain ⟨y,ct,et⟩:=az (bq hT.row);subst et;have c0:w.cell? ⟨sb,0,N⟩=some (YV (some ⟨pp,0,N⟩)):=h1.cell 0;have c1:w.cell? ⟨sb,1,N⟩=some (YV (some ⟨pb,0,N⟩)):=h1.cell 1;have c8:w.cell? ⟨sb,8,N⟩=some (YV (some ⟨u,0,N⟩)):=h1.cell 8;have t0:w.cell? ⟨u,0,N⟩=some (T (bs t.xk)):=hT.cell 0;have t1:w.cell? ⟨u,1,N⟩=some (L y t.xd.length ct):=hT.cell 1;have t2:w.cell? ⟨u,2,N⟩=some (YV (some ⟨Q,0,N⟩)):=hT.cell 2;have b0:w.cell? ⟨Q,0,N⟩=some (L ay b.text.length cy):=Q3 n.xp _;have b2:w.cell? ⟨Q,2,N⟩=some (YW F):=by rw [Q3 n.xp, <-b3];rfl
 have y5:w.cell? ⟨pp,5,N⟩=some (I J c.size):=(hs.cell 5 (by decide)).trans rfl;have y8:w.cell? ⟨pp,8,N⟩=some (I J c.room):=(hs.cell 8 (by decide)).trans rfl;have d8:=(gH he.may).2.2.2;obtain ⟨kb,z⟩:=QE (tH c xb (xz S t.xk t.xd b.text));have e2:S.items.length+1<=4294967295:=hz.1
 have a5:H (∀W:QI,Y6 w.heap.size w W->Y8 Ys 226 #[YV (some ⟨pb,0,N⟩),T (bs t.xk),L y t.xd.length ct,T (bs b.text),I J c.room] W λe j=>∃id,e=YX (YY #[I J id,YW kb])/\MD S xb pb mb q vr (xz S t.xk t.xd b.text) w id kb j):=K (λW l=>by
  have G:lA W pb mb q vr S xb:=⟨r.xN.xo l,r.row.below l⟩;have b1:=(bq hT.row).below l
  by_cases i:c.room < ((xb.length+(8+(bT (xz S t.xk t.xd b.text)).length):Nat):Int)
  .have C:kb=F:=by rw [<-z];unfold tH;rw [decide_eq_true i];rfl
   subst C;refine (OH pb mb q vr _ S xb t.xk b.text t.xd c.room W G b1 hz Z i).mono ?_;rintro e j ⟨rfl,U⟩;exact ⟨0,rfl,Y4 ⟨rfl,l.trans (U.mono l.size)⟩⟩
  have C:kb=YT:=by rw [<-z];unfold tH;rw [decide_eq_false i];rfl
  subst C;refine (MF pb mb q vr _ S xb t.xk b.text t.xd c.room m W G b1 hz Z i d8 ((l.cell (au hm)).trans hm) b6).mono ?_;rintro e j ⟨rfl,U⟩
  exact ⟨_,rfl,Y5 ⟨rfl,rfl,jM.from r l U⟩⟩)
 have HS:H (∀W:QI,aC (aH w pb mb q vr S) w W->W.cell? ⟨sb,0,N⟩=some (YV (some ⟨pp,0,N⟩))/\W.cell? ⟨sb,1,N⟩=some (YV (some ⟨pb,0,N⟩))/\W.cell? ⟨u,0,N⟩=some (T (bs t.xk))/\W.cell? ⟨u,1,N⟩=some (L y t.xd.length ct)/\W.cell? ⟨u,2,N⟩=some (YV (some ⟨Q,0,N⟩))/\W.cell? ⟨Q,0,N⟩=some (L ay b.text.length cy)/\W.cell? ⟨pp,8,N⟩=some (I J c.room)/\(convert 100 9 (L ay b.text.length cy)).run Ys W= .ok (T (bs b.text)) W):=K (λW hK=>by
  have mv:∀{x o:Nat} {v:QJ},w.cell? ⟨x,o,N⟩=some v->¬aH w pb mb q vr S x->W.cell? ⟨x,o,N⟩=some v:=λe hn=>(World.cell?_of_block (hK.block _ (au e) hn)).trans e
  exact ⟨mv c0 (d _ h.xP),mv c1 (d _ h.xP),mv t0 (d _ ha),mv t1 (d _ ha),mv t2 (d _ ha),mv b0 (d _ d6),mv y8 (X _ he.xI),(a9.xt hK (λg hg=>d g (d4 g hg))).string⟩)
 have HH:=K h;have HE:=K he;have c4:=K r;have P:=K d;have d3:=K X;have e0:=K M;rw [z];clear h h1 hT n hs he r hz Z a9 b6 d X M hm z;go_enter_defers WX,ntmps163
 go_wp2_with fail
 go_quiet (fail)
 have p:=an nq w w.heap.size;obtain ⟨w0,b7⟩:=QE (w.drewN nq);rw [b7] at p ⊢;have a8:=a5.out _ (p.trans ((QQ w.heap.size w0).drew));have a4:=K a8;have C0:H (aC (aH w pb mb q vr S) w w0):=K (aC.below p);have C1:H (aC (aH w pb mb q vr S) w w0.drew):=K (aC.below (p.trans ((QQ w.heap.size w0).drew)));obtain ⟨s0,s1,s2,s3,s4,s5,s6,s7⟩:=HS.out _ C0.out;clear p b7 c0 c1 c8 t0 t1 t2 b0 b2 y5 y8 a8 a5;go_wp2_with fail
 go_region_held3 (λj=>j.cell? ⟨sb,0,N⟩=some (YV (some ⟨pp,0,N⟩))/\j.cell? ⟨sb,1,N⟩=some (YV (some ⟨pb,0,N⟩))/\j.cell? ⟨u,0,N⟩=some (T (bs t.xk))/\j.cell? ⟨u,1,N⟩=some (L y t.xd.length ct)/\j.cell? ⟨u,2,N⟩=some (YV (some ⟨Q,0,N⟩))/\j.cell? ⟨Q,0,N⟩=some (L ay b.text.length cy)/\j.cell? ⟨pp,8,N⟩=some (I J c.room)/\(convert 100 9 (L ay b.text.length cy)).run Ys j= .ok (T (bs b.text)) j)
  (first | exact HS.out _ C5.out | exact HS.out _ C1.out | exact HS.out _ C0.out)
  (first
   | (go_at_call 226;refine a4.out.mono ?_;rintro e w5 ⟨id,rfl,Y⟩;have C5:=K Y.xt;have O:=K Y;clear Y))
 have c6:=K (HH.out.xt C5.out P.out);have c5:=K (HE.out.xt C5.out d3.out);clear HS C0 C1 a4 s0 s1 s2 s3 s4 s5 s6 s7
 cases kb
 case false=>
  have a1:H (Y6 w.heap.size w w5):=K (by
   rcases O.out with ⟨_,h⟩ | ⟨h,_⟩
   .exact h
   cases h)
  have HT:=K ((HH.out.below a1.out).tell (by simp) [52,53,50,32,114,111,111,109] (by decide));go_wp2_with fail
  refine HT.out.mono ?_;rintro e w6 ⟨rfl,h6,a7⟩;have c7:=K h6;have d0:=K a7;clear h6 a7;go_wp2_with fail
  refine SJ (f:=225) (args:=#[YV (some ⟨sb,0,N⟩)]) (by simp) (by simp [go_sem]) ?_;refine (c7.out.xX .returning).mono ?_;rintro e u' w7 ⟨rfl,rfl,h7,B⟩;refine ⟨_,RP rfl _ _ _,rfl,?_⟩;exact gE.step (e:=YX (YY #[])) c4.out P.out ⟨rfl,A,h7,λ_ a=>a,λ_ a=>Y4 a,((aC.below a1.out:aC A _ _).trans d0.out (λ_ _ e=>e)).trans B (λ_ _ e=>e)⟩
 obtain ⟨b5,d2⟩:id=(S.items.length:Int)+1/\H (jM pb mb q vr S xb (xz S t.xk t.xd b.text) w w5):=by
  rcases O.out with ⟨h,_⟩ | ⟨_,h1,h2⟩
  .cases h
  exact ⟨h1,K h2⟩
 subst b5
 have d7:(Lib.itoa ((S.items.length:Int)+1)).length<=10:=by
  unfold Lib.itoa;rw [if_neg (by omega)];exact mu _ 9 (by omega)
 have a3:=K (E9 ((S.items.length:Int)+1) (by omega) (by omega) w5 c5.out.pow);have D:(⟨#[50,53,48,32,107,101,112,116,32]⟩:QL)++bs (Lib.itoa ((S.items.length:Int)+1))=bs ([50,53,48,32,107,101,112,116,32]++Lib.itoa ((S.items.length:Int)+1)):=aQ [50,53,48,32,107,101,112,116,32] _;have a0:=K D;have d9:=aj (Lib.itoa ((S.items.length:Int)+1));obtain ⟨it,R⟩:=QE (Lib.itoa ((S.items.length:Int)+1));rw [R] at d7 a3 a0 d9;have a2:=K R;clear D R O;go_wp2_with fail
 refine a3.out.mono ?_;rintro e w6 ⟨rfl,V⟩;have c3:=K V;have HT:=K ((c6.out.below V).tell (by simp) ([50,53,48,32,107,101,112,116,32]++it) (by rw [RI];simp;omega));clear V;go_wp2_with fail
 rw [a0.out];refine HT.out.mono ?_;rintro e w7 ⟨rfl,h7,B⟩;have c9:=K h7;have d1:=K B;clear h7 B;go_wp2_with fail
 refine SJ (f:=225) (args:=#[YV (some ⟨sb,0,N⟩)]) (by simp) (by simp [go_sem]) ?_;refine (c9.out.xX .returning).mono ?_;rintro e u' w8 ⟨rfl,rfl,h8,d5⟩;refine ⟨_,RP rfl _ _ _,rfl,?_⟩;obtain ⟨q',c2,R5,K5,O5⟩:=d2.out;have a6:aC A w5 w8:=((aC.below c3.out:aC A _ _).trans d1.out (λ_ _ e=>e)).trans d5 (λ_ _ e=>e);have b4:∀k,aH w5 pb mb q' c2 (S.plus (xz S t.xk t.xd b.text)) k->¬A k:=λk C a=>(O5 k C).elim (λe=>P.out k a e) (λe=>by have:=HH.out.lt k a;omega);obtain ⟨R8,O8⟩:=R5.xt a6 b4;rw [a2.out];exact ⟨A,q',c2,h8,R8,λ_ a=>a,λ_ a=>Y4 a,λk C=>O5 k (O8 k C),λk a C=>b4 k (O8 k C) a,(K5.mono (λ_ _ e=>Y5 e)).trans a6 (λ_ _ e=>Y4 e)⟩
end
structure Ao(t:qN):Prop where
 xk:t.xk=[]\/cm t.xk=YT
 xd:∀x∈t.xd,cm x=YT
 one:t.xd.Nodup
 most:t.xd.length<=10
 body:∀b,t.body=some b->1<=t.xd.length/\b.text.length<=1102
structure qd(S:aa)(xb:QF):Prop where
 time:S.time<=1000000000
 len:S.items.length+1<=4294967295
 xb:xb.length<=1073741824
theorem oH{l:QF}(h:cm l=YT):l.length<=61:=by
 unfold cm at h;rw [Rk,beq_iff_eq] at h;have:=pf l;rw [<-h.2];unfold bL;simp only [RI,RQ];omega
theorem Lp{a:List QF}(h:1<=a.length)(i:a.length<=10)(l:∀x∈a,cm x=YT)(m:a.Nodup):jh a=YT:=by
 unfold jh;rw [decide_eq_true h,decide_eq_true i];simp only [Bool.true_and,Rb,Q8];intro k f;have e:∀j (d:j < a.length),a.getD j []=a[j]:=λj d=>by rw [Q5,Re d];rfl
 unfold iV sO;rw [Rk];refine ⟨by rw [e k f];exact l _ (List.getElem_mem f),?_⟩
 simp only [Rb,Q8,Rm,beq_eq_false_iff_ne];intro j d;rw [e j (by omega),e k f];intro g;have:=(List.nodup_iff_pairwise_ne.1 m);rw [List.pairwise_iff_getElem] at this;exact this j k (by omega) f d g
section
variable {S:aa} {xb:QF} {t:qN} {b:dm}
theorem va(d:qd S xb)(a:Ao t)(f:t.body=some b):dJ (xz S t.xk t.xd b.text):=by
 have g:t.xk.length<=255:=by
  rcases a.xk with e | e
  .rw [e];simp
  have:=oH e;omega
 have i:=a.most;have j:=(a.body b f).2;have k:=d.time;exact ⟨d.len,by show S.time<=_;omega,g,by show t.xd.length<=_;omega,λx h=>by have:=oH (a.xd x h);omega,by show b.text.length<=_;omega⟩
theorem Ft(j:qd S xb)(a:Ao t)(i:t.body=some b)(p:b.text.length<=1000):bP (bT (xz S t.xk t.xd b.text))=some (xz S t.xk t.xd b.text):=by
 have u:=va j a i;obtain ⟨y,z,B,C,v,D⟩:=u;have g:=a.body b i;have d:vq (xz S t.xk t.xd b.text):=⟨by omega,by omega,by omega,by omega,λx r=>by have:=v x r;omega,by show b.text.length < _;omega⟩
 have f:cY (xz S t.xk t.xd b.text)=YT:=by
  unfold cY;have k:decide ((xz S t.xk t.xd b.text).time<=1000000000)=YT:=decide_eq_true j.time
  have m:((xz S t.xk t.xd b.text).xk.isEmpty || cm (xz S t.xk t.xd b.text).xk)=YT:=by
   show (t.xk.isEmpty || cm t.xk)=YT
   rcases a.xk with e | e
   .rw [e];rfl
   rw [e,Bool.or_true]
  have n:jh (xz S t.xk t.xd b.text).xd=YT:=Lp g.1 a.most a.xd a.one;have o:decide ((xz S t.xk t.xd b.text).body.length<=1000)=YT:=decide_eq_true p;rw [k,m,n,o];rfl
 obtain ⟨l,h⟩:∃l,bT (xz S t.xk t.xd b.text)=77::l:=⟨_,rfl⟩;rw [h];unfold bP;simp only [if_true];rw [BT d h];simp [f]
end
def rh(c:bF)(s:cj)(S:aa)(xb:QF)(t:qN)(b:dm):cj×aa×QF×List QF:=
 if b.bad then ({s with tx:=N},S,xb,[OI])
 else if c.size < (b.text.length:Int) then ({s with tx:=N},S,xb,[OJ])
 else if tH c xb (xz S t.xk t.xd b.text) then ({s with tx:=N},S.plus (xz S t.xk t.xd b.text),xb++bJ (bT (xz S t.xk t.xd b.text)),[[50,53,48,32,107,101,112,116,32]++Lib.itoa ((S.items.length:Int)+1)++[13,10]])
 else ({s with tx:=N},S,xb,[Qo])
def fc(c:bF)(s:cj)(S:aa)(xb:QF)(t:qN)(b:dm)(text:QF)(bad:Bool):cj×aa×QF×List QF:=
 if text=[46] then rh c s S xb t b else ({s with tx:=some {t with body:=some (b.add text bad c.size)}},S,xb,[])
section
variable {A:Nat->Prop} {pp pb mb sb ch:Nat} {vw:QJ} {q:Nat->Nat} {vr:QJ} {S:aa} {xb:QF} {w:QI} {s:cj} {E:Nat->Prop} {c:bF}
theorem Oy(h:cq w A pp pb sb ch vw [] s)(r:gq E w pp c)(g:lA w pb mb q vr S xb)(u:qd S xb){t:qN}(v:s.tx=some t)(n:Ao t){b:dm}(j:t.body=some b)(i:∀k,A k->¬aH w pb mb q vr S k)(p:∀k,E k->¬aH w pb mb q vr S k)(l:∀k,E k->¬A k):Y8 Ys 163 #[YV (some ⟨sb,0,N⟩)] w λe o=>e=YX (YY #[])/\gE A pp pb mb sb ch vw q vr S w (rh c s S xb t b).1 (rh c s S xb t b).2.1 (rh c s S xb t b).2.2.1 (rh c s S xb t b).2.2.2 o:=by
 unfold rh
 cases d:b.bad
 case true=>
  refine (Oz h v j d).mono ?_;intro e o f;exact ⟨f.1,gE.step g i f⟩
 by_cases a:c.size < (b.text.length:Int)
 .simp only [a,if_true];refine (Mo h r v j d a).mono ?_;intro e o f;exact ⟨f.1,gE.step g i f⟩
 simp only [a,if_false];have x:b.text.length<=1000:=by have:=(gH r.may).2.1;omega
 refine (Mn h r g v j d a (va u n j) u.xb (Ft u n j x) i p l).mono ?_;rintro e o ⟨rfl,f⟩;refine ⟨rfl,?_⟩
 cases m:tH c xb (xz S t.xk t.xd b.text)
 case true=>rw [m] at f;exact f
 rw [m] at f;exact f
theorem Ku(h:cq w A pp pb sb ch vw [] s)(C:gq E w pp c)(f:lA w pb mb q vr S xb)(l:qd S xb){t:qN}(O:s.tx=some t)(u:Ao t){b:dm}(M:t.body=some b)(p:∀k,A k->¬aH w pb mb q vr S k)(r:∀k,E k->¬aH w pb mb q vr S k)(g:∀k,E k->¬A k)(n:Bool):Y8 Ys 107 #[YV (some ⟨sb,0,N⟩),YZ #[T (bs [46]),YW n]] w λe Z=>e=YX (YY #[])/\gE A pp pb mb sb ch vw q vr S w (rh c s S xb t b).1 (rh c s S xb t b).2.1 (rh c s S xb t b).2.2.1 (rh c s S xb t b).2.2.2 Z:=by
 obtain ⟨y,o⟩:=QE (w.alloc (YU #[T (bs [46]),YW n] 120));have i:=QG o;have z:=QH o;have e0:y.cell? ⟨w.heap.size,0,N⟩=some (T ⟨#[46]⟩):=Q3 z _;have d:∀k,aH y pb mb q vr S k->aH w pb mb q vr S k:=λk l=>l.imp (λe=>fp f.xN i e) id;have HT:=K (Oy (h.below i) (C.below i) ⟨f.xN.xo i,f.row.below i⟩ l O u M (λk a e=>p k a (d k e)) (λk a e=>r k a (d k e)) g);have j:=K i;have m:=K d;clear h C f i z p r g d;go_enter func107,ntmps107;go_wp2_with fail
 refine HT.out.mono ?_;rintro e w1 ⟨rfl,B⟩;have G:=K B;clear B;go_wp2_with fail
 refine Ru (v:=YY #[]) (by simp [results,results107,go_sem]) rfl ?_;obtain ⟨D,Y,x,P,Q,R,U,V,W,X⟩:=G.out;exact ⟨rfl,D,Y,x,P,Q,R,λk l=>(U k l).imp id (λe=>Rn j.out.size e),λk l=>(V k l).imp (m.out k) (λe=>Rn j.out.size e),W,(aC.below j.out:aC _ _ _).trans X (λk _ e=>e.imp id (m.out k))⟩
theorem Ks(h:cq w A pp pb sb ch vw [] s)(he:gq E w pp c){t:qN}(ht:s.tx=some t)(c1:Ao t){b:dm}(hb:t.body=some b)(d:QF)(j:Bool)(b6:d≠[46])(b7:d.length<=1048576):Y8 Ys 107 #[YV (some ⟨sb,0,N⟩),YZ #[T (bs d),YW j]] w (cz A pp pb sb ch vw w {s with tx:=some {t with body:=some (b.add d j c.size)}} []):=by
 obtain ⟨vx,h1,h2⟩:=h.ex;obtain ⟨vD,vN,vU,vW,hs,_⟩:=he.set;rw [ht] at h2;obtain ⟨R,vt,vb,rfl,ha,hT,hO,hB⟩:=h2;rw [hb] at hB;obtain ⟨l,M,rfl,a4,X,a3⟩:=hB;have c3:=(c1.body b hb).2;obtain ⟨f,Y⟩:=QE (w.alloc (YU #[T (bs d),YW j] 120));have O:=QG Y;have X0:=QH Y;obtain ⟨e0,e1⟩:=QM X0;have c0:f.cell? ⟨sb,0,N⟩=some (YV (some ⟨pp,0,N⟩)):=(h1.below O).cell 0;have c8:f.cell? ⟨sb,8,N⟩=some (YV (some ⟨R,0,N⟩)):=(h1.below O).cell 8;have t2:f.cell? ⟨R,2,N⟩=some (YV (some ⟨l,0,N⟩)):=Q3 (ae O hT.xp) _;have y5:f.cell? ⟨pp,5,N⟩=some (I J c.size):=(O.cell (by exact he.lt _ he.xI)).trans ((hs.cell 5 (by decide)).trans rfl);have HH:=K h;have b5:((bs d).toList == [46])=F:=by rw [beq_eq_false_iff_ne,ByteArray.toList_eq,ao];exact b6
 have a0:H (∀W:QI,Y6 f.heap.size f W->Y8 Ys 164 #[YV (some ⟨l,0,N⟩),YZ #[T (bs d),YW j],I J c.size] W λe U=>e=YX (YY #[])/\∃B,gD U l B (b.add d j c.size)/\aC (λk=>k=l\/M.ownBlock=some k) W U/\∀k,B.ownBlock=some k->M.ownBlock=some k\/W.heap.size<=k):=K (λW b4=>Ev l M b d j c.size W (X.xt (A:=λ_=>False) (aC.below (O.trans (b4.mono O.size))) (λe=>e) (λ_ _ e=>e)) (by omega) b7);have m:=K O;have H1:=K h1;have HT:=K hT;have n:=K X;have a1:=K a3;have b1:=K X0;have b0:H (∃D:Array QJ,f.heap[pp]? =some (YU D 66 (0,0))/\True):=K (by obtain ⟨D,hD,_⟩:=hs.xp;exact ⟨D,ae O hD,trivial⟩);clear h h1 hT X hs he O X0 a3;go_enter func107,ntmps107;go_wp2_with fail
 have B1:Y6 f.heap.size f f.drew:=(QQ _ _).drew;have a8:=K (a0.out _ B1);have c2:=K B1
 have V:H (∀W:QI,aC (λk=>k=l\/M.ownBlock=some k) f W->W.cell? ⟨w.heap.size,0,N⟩=some (T (bs d))/\W.cell? ⟨w.heap.size,1,N⟩=some (YW j)/\W.cell? ⟨sb,0,N⟩=some (YV (some ⟨pp,0,N⟩))/\W.cell? ⟨sb,8,N⟩=some (YV (some ⟨R,0,N⟩))/\W.cell? ⟨R,2,N⟩=some (YV (some ⟨l,0,N⟩))/\W.cell? ⟨pp,5,N⟩=some (I J c.size)):=K (λW hK=>by
  have Z:∀{x o:Nat} {v:QJ},f.cell? ⟨x,o,N⟩=some v->(∀C z,f.heap[x]? ≠some (YU C 273 z))->(∀C z,f.heap[x]? ≠some (YU C 5 z))->W.cell? ⟨x,o,N⟩=some v:=λe n1 n2=>(World.cell?_of_block (hK.block _ (au e) (λi=>by
   rcases i with i | i
   .subst i;exact n1 _ _ (ae m.out n.out.xp)
   obtain ⟨P,z,G⟩:=gW n.out.row i
   exact n2 _ _ (ae m.out G)))).trans e
  have p:∀{x:Nat} {C:Array QJ} {t t':TypeId} {z:Nat×Nat},f.heap[x]? =some (YU C t z)->t≠t'->∀C' z',f.heap[x]? ≠some (YU C' t' z'):=λe hn C' z' i=>by
   rw [e] at i;injection i with i;injection i with _ i _;exact hn i
  obtain ⟨D,hD,_⟩:=b0.out;have hx:=b1.out;have Q:=ae m.out H1.out.xp;have a7:=ae m.out HT.out.xp
  exact ⟨Z e0 (p hx (by decide)) (p hx (by decide)),Z e1 (p hx (by decide)) (p hx (by decide)),Z c0 (p Q (by decide)) (p Q (by decide)),Z c8 (p Q (by decide)) (p Q (by decide)),Z t2 (p a7 (by decide)) (p a7 (by decide)),Z y5 (p hD (by decide)) (p hD (by decide))⟩)
 have C0:H (aC (λk=>k=l\/M.ownBlock=some k) f f):=K (aC.refl _ _);have C1:H (aC (λk=>k=l\/M.ownBlock=some k) f f.drew):=K (aC.below B1);clear B1 b5 Y
 go_region_held3 (λU=>U.cell? ⟨w.heap.size,0,N⟩=some (T (bs d))/\U.cell? ⟨w.heap.size,1,N⟩=some (YW j)/\U.cell? ⟨sb,0,N⟩=some (YV (some ⟨pp,0,N⟩))/\U.cell? ⟨sb,8,N⟩=some (YV (some ⟨R,0,N⟩))/\U.cell? ⟨R,2,N⟩=some (YV (some ⟨l,0,N⟩))/\U.cell? ⟨pp,5,N⟩=some (I J c.size))
  (first | exact V.out _ C5.out | exact V.out _ C1.out | exact V.out _ C0.out)
  (first
   | (go_at_call 164;refine a8.out.mono ?_;rintro e w5 ⟨rfl,B,p1,p2,p3⟩;have C5:H (aC (λk=>k=l\/M.ownBlock=some k) f w5):=K (C1.out.trans p2 (λ_ _ e=>e));have a2:=K p1;have a9:=K p3;clear p1 p2 p3))
 go_wp2_with fail
 refine RN (RP rfl _ _ _) rfl ?_;have C6:aC (λk=>k=l\/M.ownBlock=some k) w w5:=(aC.below m.out:aC _ _ _).trans C5.out (λ_ _ e=>e);have a6:∀k,(k=l\/M.ownBlock=some k)->A k:=λk e=>e.elim (λe=>by rw [e];exact a4) (a1.out k)
 have y:∀{k:Nat} {C:Array QJ} {t:TypeId} {z:Nat×Nat},w.heap[k]? =some (YU C t z)->t≠273->t≠5->¬(k=l\/M.ownBlock=some k):=λe n1 n2 i=>by
  rcases i with i | i
  .rw [i,n.out.xp] at e;injection e with e;injection e with _ e _;exact n1 e.symm
  obtain ⟨P,z,G⟩:=gW n.out.row i;rw [G] at e;injection e with e;injection e with _ e _;exact n2 e.symm
 obtain ⟨sq,r,a5⟩:=H1.out.chan
 have b2:bQ w5 sb ch (iR pp pb ch vw (YV (some ⟨R,0,N⟩)) s) []:=H1.out.xt C6 (y H1.out.xp (by decide) (by decide)) (λe=>by
  rcases e with e | e
  .have:=n.out.xp;rw [<-e,a5] at this;cases this
  obtain ⟨P,z,G⟩:=gW n.out.row e
  rw [a5] at G;cases G)
 have b3:uw w5 R vt (YV (some ⟨l,0,N⟩)) t.xk t.xd:=HT.out.xt C6 (y HT.out.xp (by decide) (by decide)) (λg hg=>by
  obtain ⟨P,G⟩:=br HT.out.row hg
  exact y G (by decide) (by decide))
 refine ⟨rfl,λk=>A k\/B.ownBlock=some k,⟨⟨_,b2,R,vt,_,rfl,Y4 ha,b3,λg hg=>Y4 (hO g hg),l,B,rfl,Y4 a4,a2.out,λg hg=>Y5 hg⟩,Y4 HH.out.xP,Y4 HH.out.xR,λk u=>?_⟩,λ_ a=>Y4 a,λk u=>?_,C6.mono (λk _ e=>a6 k e)⟩
 .rcases u with u | u
  .exact SA (HH.out.lt k u) C6.size
  obtain ⟨P,z,G⟩:=gW a2.out.row u;exact aq G
 rcases u with u | u
 .exact Y4 u
 exact (a9.out k u).imp (a1.out k) (λe=>Rn m.out.size e)
end
def mY(w:QI)(v:QJ)(l:QF):Prop:=w.ownsRow 0 5 1 v l.length (Lib.byteCells l)
theorem aA.yX{b:Nat}{w a:QI}(h:aA b w a):aA b w a.drew:=⟨h.1,h.2,h.3.trans ⟨rfl,rfl,rfl⟩⟩
theorem mY.parts{w:QI}{v:QJ}{l:QF}(h:mY w v l)(k:l≠[]):∃g a b,v=L (S ⟨g,0,N⟩) l.length a/\w.heap[g]? =S (YU b 5 (0,0))/\l.length<=a/\a<=maxLen/\b.size=a/\b.toList.take l.length=Lib.byteCells l:=by
 rcases h.2 with ⟨_,d⟩ | ⟨g,a,b,e,_,j,f,i,m,c⟩
 .exact absurd (List.length_eq_zero_iff.1 d) k
 exact ⟨g,a,b,e,j,f,i,by omega,by rw [Vf] at c;exact c⟩
theorem mY.mk{w:QI}{l:QF}{g cap:Nat}{a:Array QJ}(e:w.heap[g]? =S (YU a 5 (0,0)))(b:l.length<=cap)(c:cap<=maxLen)(f:a.size=cap)(d:a.toList.take l.length=Lib.byteCells l):mY w (L (S ⟨g,0,N⟩) l.length cap) l:=
 ⟨by rw [Vf];exact iz l,Y5 ⟨g,cap,a,rfl,QS _,e,b,c,by omega,by rw [Vf];exact d⟩⟩
theorem C8{a:Array QJ}{l:QF}(h:a.toList.take l.length=Lib.byteCells l)(j:Nat)(b:j < l.length):a[j]? =S (I .u8 ((l.getD j 0).toNat:Int)):=by
 rw [<-Sl, <-Sk b,h,Lib.byteCells,TV,Re b,Q5,Re b];rfl
def lV(l:QF):QF:=if 102 < l.length then l.take 101++[l.getD 102 0] else l
theorem zV(l:QF):(lV l).length<=102:=by
 unfold lV
 split
 .rename_i h
  simp only [RI,Sm,RQ,RR];omega
 omega
structure mC(w:QI)(sb:Nat)(C:Array QJ)(v:QJ)(l:QF):Prop where
 xp:w.heap[sb]? =S (YU C 112 (0,0))
 size:C.size=9
 at2:C[2]? =S v
 row:mY w v l
theorem mC.far{w:QI}{sb:Nat}{C:Array QJ}{v:QJ}{l:QF}(h:mC w sb C v l):v.ownBlock≠S sb:=λe=>by
 obtain ⟨b,a⟩:=br h.row e;rw [h.xp] at a;simp at a
theorem mC.below{w b:QI}{sb:Nat}{C:Array QJ}{v:QJ}{l:QF}(h:mC w sb C v l)(a:Y6 w.heap.size w b):mC b sb C v l:=⟨ae a h.xp,h.size,h.at2,aB h.row λ_ _ e _=>ae a e⟩
def qc(sb:Nat)(C:Array QJ)(v:QJ)(l':QF)(w w':QI):Prop:=
 ∃v',mC w' sb (C.setIfInBounds 2 v') v' l'/\aC (λk=>k=sb\/v.ownBlock=S k) w w'/\∀k,v'.ownBlock=S k->v.ownBlock=S k\/w.heap.size<=k
theorem Gn(sb:Nat)(C:Array QJ)(v:QJ)(l:QF)(w:QI)(h:mC w sb C v l)(hl:l.length<=103)(t:1<=l.length):Y8 Ys 104 #[YV (S ⟨sb,2,N⟩)] w λe w'=>e=YX (YY #[])/\qc sb C v (lV l) w w':=by
 obtain ⟨g,a,a2,rfl,q,p1,p2,p3,y⟩:=h.row.parts (λe=>by rw [e] at t;simp at t);have c2:w.cell? ⟨sb,2,N⟩=S (L (S ⟨g,0,N⟩) l.length a):=by rw [Q3 h.xp];exact h.at2
 have f2:=RJ h.xp 2
 have r:C.setIfInBounds 2 (L (S ⟨g,0,N⟩) l.length a)=C:=by
  apply Array.ext_getElem?;intro i;rw [Array.getElem?_setIfInBounds]
  split
  .rename_i O
   subst O;rw [h.at2,if_pos (by have:=h.size;omega)]
  rfl
 by_cases c:102 < l.length
 .have P:l.length=103:=by omega
  obtain ⟨m,p⟩:=QE (l.getD 102 0);obtain ⟨x1,x⟩:=QE (l.getD 101 0);have u:sb≠g:=λe=>h.far (by rw [e];rfl);have U:w.drew.cell? ⟨g,101,N⟩=S (I .u8 (x1.toNat:Int)):=by show w.cell? _=_;rw [Q3 q, <-x];exact C8 y 101 (by omega)
  have V:w.drew.cell? ⟨g,102,N⟩=S (I .u8 (m.toNat:Int)):=by show w.cell? _=_;rw [Q3 q, <-p];exact C8 y 102 (by omega)
  have fg:w.drew.frozen? ⟨g,101,N⟩=F:=RJ q 101;have a1:w.drew.cell? ⟨sb,2,N⟩=S (L (S ⟨g,0,N⟩) l.length a):=c2;have O:(102:Int) < (l.length:Int):=by omega
  have a4:(101:Int) < (l.length:Int):=by omega
  have z:aA g w ((w.setCell ⟨g,101,N⟩ (I .u8 (m.toNat:Int))).drew):=((aA.refl _ _).setCell _).yX;have b:=Ro w g 101 _ _ (I .u8 (m.toNat:Int)) q;obtain ⟨d,n⟩:∃d:QI,(w.setCell ⟨g,101,N⟩ (I .u8 (m.toNat:Int))).drew=d:=⟨_,rfl⟩;have G:=K n;replace b:(w.setCell ⟨g,101,N⟩ (I .u8 (m.toNat:Int))).drew.heap[g]? =_:=b;rw [n] at z b;have f:=(z.2 sb u).trans h.xp;have E:H (lV l=l.take 101++[m]):=K (by unfold lV;rw [if_pos c,p]);have M:aA sb d (d.setCell ⟨sb,2,N⟩ (L (S ⟨g,0,N⟩) 102 a)):=(aA.refl _ _).setCell _;have o:(l.take 101++[m]).length=102:=by simp only [RI,Sm,RQ,RR];omega
  have R:mY (d.setCell ⟨sb,2,N⟩ (L (S ⟨g,0,N⟩) 102 a)) (L (S ⟨g,0,N⟩) 102 a) (l.take 101++[m]):=by
   have:=mY.mk (l:=l.take 101++[m]) (w:=d.setCell ⟨sb,2,N⟩ (L (S ⟨g,0,N⟩) 102 a)) (cap:=a) ((M.2 g (Ne.symm u)).trans b) (by omega) p2 (by simp [p3]) (by
    rw [o];apply List.ext_getElem?;intro j;rw [List.getElem?_take]
    by_cases X:j < 102
    .rw [if_pos X,Sl]
     by_cases s:j=101
     .subst s;rw [TM (by omega),Lib.byteCells,TV,Se (by rw [Sm];omega),Sm,show 101 - min 101 l.length=0 by omega]
      rfl
     rw [TH (λe=>s e.symm),C8 y j (by omega)];rw [Lib.byteCells,TV,Sc (by rw [Sm];omega),Sk (by omega),Re (by omega),Q5,Re (by omega)];rfl
    rw [if_neg X,Sg (by rw [iz];omega)])
   rw [o] at this;exact this
  have D:=K R;have Z:H (aC (λk=>k=sb\/(L (S ⟨g,0,N⟩) l.length a).ownBlock=S k) w (d.setCell ⟨sb,2,N⟩ (L (S ⟨g,0,N⟩) 102 a))):=K (((aC.same z).mono (λk _ e=>Y5 (by rw [e];rfl))).trans (aC.same M) (λ_ _ e=>Y4 e));have A:=K (Ro d sb 2 _ _ (L (S ⟨g,0,N⟩) 102 a) f);have a0:d.cell? ⟨sb,2,N⟩=S (L (S ⟨g,0,N⟩) l.length a):=by rw [Q3 f];exact h.at2
  have a3:=RJ f 2;have Q:=K h.size;have W:(102:Int)<=(a:Int):=by omega
  clear h q b z M R f y n x p P o;go_enter func104,ntmps104;go_wp2_with fail
  go_region
  rw [G.out];go_wp2_with fail
  refine RN (RP rfl _ _ _) rfl ?_;exact ⟨rfl,L (S ⟨g,0,N⟩) 102 a,by rw [E.out];exact ⟨A.out,by rw [Vg];exact Q.out,by rw [TM (by have:=Q.out;omega)],D.out⟩,Z.out,λk e=>Y4 e⟩
 have E:H (lV l=l):=K (by unfold lV;rw [if_neg c]);have O:¬(102:Int) < (l.length:Int):=by omega
 have Y:=K h;have B:=K r;clear h q y r;go_enter func104,ntmps104;go_wp2_with fail
 refine RN (RP rfl _ _ _) rfl ?_;exact ⟨rfl,_,by rw [E.out,B.out];exact Y.out,aC.refl _ _,λk e=>Y4 e⟩
def j9(l:QF):Bool:=Lib.hasSuffix l [13,10]
def lW(wait:QF)(b:UInt8):QF×Option (QF×Bool):=
 if j9 (wait++[b]) then ([],S (bu ((wait++[b]).take ((wait++[b]).length - 2)))) else (lV (wait++[b]),N)
def vf(o:Option (QF×Bool)):QJ:=
 match o with
 | none=>YY #[YZ #[T ⟨#[]⟩,YW F],YW F]
 | some x=>YY #[YZ #[T (bs x.1),YW x.2],YW YT]
def sU(l:QF):List Int:=l.map λb=>(b.toNat:Int)
theorem CQ(l:QF):Lib.bytesOf (sU l)=l:=by
 unfold Lib.bytesOf sU;rw [List.map_map];conv=>rhs;rw [<-List.map_id l]
 congr 1
 funext b
 simp
theorem E7(l:QF)(i:Nat)(h:i < l.length):(sU l).getD i 0=((l.getD i 0).toNat:Int):=by
 rw [Q5,Q5,sU,TV,Re h];rfl
theorem mY.by{w:QI}{l:QF}{g n cap:Nat}(h:mY w (L (S ⟨g,0,N⟩) n cap) l):sy w g l:=λj a=>by
 obtain ⟨i,b,c,e,f,_,_,_,d⟩:=h.parts (λe=>by rw [e] at a;simp at a);injection e with e _ _;injection e with e;injection e with e _;subst e;rw [Q3 f];exact C8 d j a
theorem Az(l:QF)(g a c:Nat)(w:QI)(h:sy w g l)(b:l.length<=a)(k:l.length<=1048576)(j:w.heap[c]? =S (YU #[I .u8 13,I .u8 10] 5 (2,3))):Y8 Ys 103 #[L (S ⟨g,0,N⟩) l.length a,L (S ⟨c,0,N⟩) 2 2] w λe f=>e=YX (YY #[if j9 l then L (S ⟨g,0,N⟩) (l.length - 2) a else L (S ⟨g,0,N⟩) l.length a,YW (j9 l)])/\f=w:=by
 refine (Tryz.bytes_CutSuffix g 0 l.length a c 0 2 2 (sU l) [13,10] w (by simp [sU]) rfl b (by omega) (λi d=>?_) (λi d=>?_)).mono ?_
 .rw [TD,E7 l i d];exact h i d
 .rw [TD,Q3 j];have:i=0\/i=1:=by omega
  rcases this with rfl | rfl <;> rfl
 rintro e f ⟨rfl,rfl⟩;refine ⟨?_,rfl⟩;unfold Lib.bytesTrimSuffix Lib.sliceTo;rw [CQ,show Lib.bytesOf [13,10]=[13,10] from rfl];rfl
theorem mC.grow{w b:QI}{sb:Nat}{C:Array QJ}{v a:QJ}{l i:QF}(h:mC w sb C v l)(m:aC (λk=>v.ownBlock=S k) w b)(f:mY b a i):mC (b.setCell ⟨sb,2,N⟩ a) sb (C.setIfInBounds 2 a) a i:=by
 have d:=m.some_ h.xp h.far;refine ⟨Ro b sb 2 _ _ a d,by rw [Vg];exact h.size,by rw [TM (by have:=h.size;omega)],bG f (aC.same ((aA.refl sb b).setCell _)) (λg n e=>?_)⟩
 obtain ⟨j,c⟩:=br f n;rw [e,d] at c;simp at c
theorem qc.fin{sb n:Nat}{C r:Array QJ}{v i j:QJ}{x:QF}{w m h l y:QI}{D:Array QJ}(d:aC (λk=>k=sb\/v.ownBlock=S k) w m)(c:Y6 m.heap.size m h)(s:∀k,i.ownBlock=S k->v.ownBlock=S k\/w.heap.size<=k)(b:r=C.setIfInBounds 2 i)(a:mC l sb (r.setIfInBounds 2 j) j x)(p:aC (λk=>k=sb\/i.ownBlock=S k) h l)(q:∀k,j.ownBlock=S k->i.ownBlock=S k\/h.heap.size<=k)(A:w.heap.size<=n)(t:l.heap[n]? =S (YU D 120 (0,0)))(o:aA n l y):qc sb C v x w y:=by
 have E:w.heap.size<=h.heap.size:=Rn d.size c.size;refine ⟨j,⟨?_,?_,?_,?_⟩,?_,λk f=>(q k f).elim (s k) (λe=>Y5 (by omega))⟩
 .have:=(o.2 sb (λe=>by have:=a.xp;rw [e,t] at this;simp at this)).trans a.xp;rw [b,Array.setIfInBounds_setIfInBounds] at this;exact this
 .have:=a.size;rw [b] at this;simpa using this
 .have:=a.at2;rw [b,Array.setIfInBounds_setIfInBounds] at this;exact this
 .exact bG a.row (aC.same o) (λg B e=>by
   obtain ⟨z,u⟩:=br a.row B;rw [e,t] at u
   simp at u)
 exact ((d.trans (aC.below c:aC (λ_=>False) _ _) (λ_ _ e=>e.elim)).trans p (λk f e=>e.elim Y4 (λe=>(s k e).elim Y5 (λe=>absurd f (by omega))))).trans (aC.same o) (λk f e=>absurd f (by omega))
theorem GH{A:Nat->Prop}{w b:QI}{g h:Nat}(a:Lib.Utf8Tabs g h w)(c:aC A w b)(n:¬A g)(p:¬A h):Lib.Utf8Tabs g h b:=by
 have j:g < w.heap.size:=au (a.1 0 (by decide));have l:h < w.heap.size:=au (a.2 0 (by decide)).1;have m:∀o,b.cell? ⟨g,o,N⟩=w.cell? ⟨g,o,N⟩:=λo=>World.cell?_of_block (c.block _ j n);have e:∀o,b.cell? ⟨h,o,N⟩=w.cell? ⟨h,o,N⟩:=λo=>World.cell?_of_block (c.block _ l p);exact ⟨λk f=>(m k).trans (a.1 k f),λi d=>⟨(e _).trans (a.2 i d).1,(e _).trans (a.2 i d).2⟩⟩
theorem NX(sb:Nat)(C:Array QJ)(v:QJ)(l:QF)(b:UInt8)(w:QI)(h:mC w sb C v l)(hl:l.length<=102)(hu:Lib.Utf8Tabs 2 3 w)(d8:¬(2=sb\/v.ownBlock=S 2))(r:¬(3=sb\/v.ownBlock=S 3)):Y8 Ys 61 #[YV (S ⟨sb,2,N⟩),I .u8 (b.toNat:Int)] w λe w'=>e=YX (vf (lW l b).2)/\qc sb C v (lW l b).1 w w':=by
 obtain ⟨R,G⟩:=QE (w.alloc (YU #[T ⟨#[]⟩,YW F] 120));have B0:=QG G;have X0:=QH G;have d9:R.heap.size=w.heap.size+1:=by rw [<-G];simp
 have p:=h.below B0;have e1:=Utf8Tabs_below hu B0;have c7:R.cell? ⟨sb,2,N⟩=S v:=by rw [Q3 p.xp];exact p.at2
 have c2:∀o:Obj,(R.alloc o).cell? ⟨sb,2,N⟩=S v:=λo=>by rw [Q3 (ae ((QQ _ R).alloc (QR _) o) p.xp)];exact p.at2
 obtain ⟨i,hi,e2,e4,e5⟩:=Rr mN;obtain ⟨g,a,W1,Z,b1,K1,O1⟩:=pg (P:=Ys) underlying100 hi e2 e4 e5 rfl R (R.alloc (YU #[I .u8 (b.toNat:Int)] 5)) v (I .u8 (b.toNat:Int)) l.length (Lib.byteCells l) p.row rfl ((QQ _ _).alloc (QR _) _) (Q0 R _) (by unfold maxLen;omega) (by omega)
 have R1:mY W1 (L (S ⟨g,0,N⟩) (l.length+1) a) (l++[b]):=by
  have e:Lib.byteCells (l++[b])=Lib.byteCells l++[I .u8 (b.toNat:Int)]:=by simp [Lib.byteCells]
  unfold mY;rw [e,RI];exact b1
 have c8:W1.cell? ⟨sb,2,N⟩=S v:=by rw [Q3 (K1.some_ p.xp p.far)];exact p.at2
 have d1:=RJ (K1.some_ p.xp p.far) 2;have U:=p.grow K1 R1;have S2:aA sb W1 (W1.setCell ⟨sb,2,N⟩ (L (S ⟨g,0,N⟩) (l.length+1) a)):=(aA.refl _ _).setCell _;obtain ⟨n,a8⟩:=QE (W1.setCell ⟨sb,2,N⟩ (L (S ⟨g,0,N⟩) (l.length+1) a));rw [a8] at U S2
 have X2:n.heap[w.heap.size]? =S (YU #[T ⟨#[]⟩,YW F] 120 (0,0)):=(S2.2 _ (by have:=aq h.xp;omega)).trans (K1.some_ X0 (λe=>by
  obtain ⟨W,hq⟩:=br p.row e;rw [X0] at hq
  simp at hq))
 have K2:aC (λk=>k=sb\/v.ownBlock=S k) w n:=(((aC.below B0:aC (λk=>k=sb\/v.ownBlock=S k) w R)).trans K1 (λ_ _ e=>Y5 e)).trans (aC.same S2) (λ_ _ e=>Y4 e);have b3:Lib.Utf8Tabs 2 3 n:=GH hu K2 d8 r;have Y:=Lib.run_convert_bytes_const (P:=Ys) n 100 5 #[I .u8 13,I .u8 10] 2 2 underlying100 underlying5;rw [show (#[I .u8 13,I .u8 10]:Array QJ).size=2 from rfl] at Y;have B3:Y6 n.heap.size n (n.alloc (YU #[I .u8 13,I .u8 10] 5 (2,3))):=(QQ _ _).alloc (QR _) _;have E3:=Q0 n (YU #[I .u8 13,I .u8 10] 5 (2,3));obtain ⟨W3,a9⟩:=QE (n.alloc (YU #[I .u8 13,I .u8 10] 5 (2,3)));rw [a9] at Y B3 E3;have A3:=U.below B3;have X3:=ae B3 X2;have b4:=Utf8Tabs_below b3 B3
 have q:(l++[b]).length<=a:=by
  obtain ⟨g',a7,W,e,_,p1,_⟩:=R1.parts (by simp);injection e with _ _ e;omega
 have c9:n.cell? ⟨sb,2,N⟩=S (L (S ⟨g,0,N⟩) (l.length+1) a):=by rw [Q3 U.xp];exact U.at2
 have a6:∀o:Obj,(n.alloc o).cell? ⟨sb,2,N⟩=S (L (S ⟨g,0,N⟩) (l.length+1) a):=λo=>by rw [Q3 (U.below ((QQ _ n).alloc (QR _) o)).xp];exact U.at2
 have D:=mY.by A3.row
 have E:=Az (l++[b]) g a n.heap.size W3 D q (by simp;omega) E3;have f:H (lW l b=if j9 (l++[b]) then ([],S (bu ((l++[b]).take ((l++[b]).length - 2)))) else (lV (l++[b]),N)):=K rfl;obtain ⟨c,xD⟩:=QE (l++[b]);have M:c.length=l.length+1:=by rw [<-xD];simp
 rw [xD] at A3 q D E f;rw [M] at E q;rw [d9] at Z;have c5:=K Z;have a2:=K K2;have z:=K A3;have a0:=K B3;have B:=K X3;have c6:=K b4;have c0:=K D;have a1:=K E
 have HO:H (∀k,(L (S ⟨g,0,N⟩) (l.length+1) a).ownBlock=S k->v.ownBlock=S k\/w.heap.size<=k):=K (λk e=>by
  injection e with e;have e:g=k:=e;subst e
  exact O1.imp id (λe=>by omega))
 have HC:=K h.size;obtain ⟨av,cv,ev⟩:=az (bq h.row);subst ev;clear h hu p e1 X0 B0 Z b1 K1 O1 R1 U S2 X2 K2 b3 B3 E3 A3 X3 b4 D E xD;go_enter func61,ntmps61
 go_wp2_with (first
  | (at_builtin;refine bp rfl _ _ 100 rfl _ _ (L (S ⟨g,0,N⟩) (l.length+1) a) W1 rfl rfl c5.out ?_)
  | fail)
 refine a1.out.mono ?_;rintro e w4 ⟨rfl,rfl⟩;obtain ⟨t,et⟩:=QE (j9 c);rw [et] at f ⊢;clear a1 et Y c7 c2 c8 d1 c9 a6 G a8 a9
 cases t
 case false=>
  simp only [Tm,if_false] at f ⊢;have a3:=K (Gn sb _ _ c w4 z.out (by omega) (by omega));go_wp2_with fail
  refine a3.out.mono ?_;rintro e d ⟨rfl,v5,m,K5,O5⟩
  have s:=K5.some_ B.out (λe=>by
   rcases e with e | e
   .have:=z.out.xp;rw [<-e,B.out] at this;simp at this
   obtain ⟨W,hq⟩:=br z.out.row e;rw [B.out] at hq
   simp at hq)
  have p0:d.cell? ⟨w.heap.size,0,N⟩=S (T ⟨#[]⟩):=Q3 s _;have p1:d.cell? ⟨w.heap.size,1,N⟩=S (YW F):=Q3 s _;have q0:=RJ s 0;have q1:=RJ s 1;have a4:=K s;have b5:=K m;have c1:=K K5;have c4:=K O5;clear s m K5 O5 a3;go_wp2_with fail
  obtain ⟨r0,r1,rS⟩:=sn (x:=T ⟨#[]⟩) (y:=YW F) a4.out;refine Ru (v:=YY #[YZ #[T ⟨#[]⟩,YW F],YW F]) (by simp [results,results61,go_sem,r0,r1]) rfl ?_;rw [f.out];exact ⟨rfl,qc.fin a2.out a0.out HO.out rfl b5.out c1.out c4.out (QR _) a4.out rS⟩
 simp only [if_true] at f ⊢;obtain ⟨n2,r⟩:=QE (l.length+1 - 2);rw [r];have Q:H (lW l b=([],S (bu (c.take n2)))):=K (by rw [f.out,M,r]);have b2:(c.take n2).length=n2:=by rw [Sm];omega
 have b0:sy w4 g (c.take n2):=λj hj=>by
  have d7:j < n2:=by omega
  rw [c0.out j (by omega),Q5,Q5,Sk d7]
 have X:=Fg (c.take n2) g a w4 b0 (by omega) (by omega) c6.out;rw [b2] at X;have A:=K X;obtain ⟨x,ex⟩:=QE (bu (c.take n2));rw [ex] at A Q;obtain ⟨tx,bd⟩:=x;simp only at A;clear X b0 ex b2 r f;go_wp2_with fail
 refine A.out.mono ?_;rintro e d ⟨rfl,O⟩;have m:=z.out.below O;have s:=ae O B.out;have d2:∀o:Obj,(d.alloc o).cell? ⟨sb,2,N⟩=S (L (S ⟨g,0,N⟩) (l.length+1) a):=λo=>by rw [Q3 (m.below ((QQ _ d).alloc (QR _) o)).xp];exact m.at2
 have d0:d.cell? ⟨sb,2,N⟩=S (L (S ⟨g,0,N⟩) (l.length+1) a):=by rw [Q3 m.xp];exact m.at2
 have g2:=RJ m.xp 2;have d3:∀o:Obj,(d.alloc o).frozen? ⟨sb,2,N⟩=F:=λo=>RJ (m.below ((QQ _ d).alloc (QR _) o)).xp 2;have B6:Y6 d.heap.size d (d.alloc (YU #[T (bs tx),YW bd] 120)):=(QQ _ _).alloc (QR _) _;obtain ⟨W6,d4⟩:=QE (d.alloc (YU #[T (bs tx),YW bd] 120));have L6:=Q0 d (YU #[T (bs tx),YW bd] 120);rw [d4] at B6 L6;have u:=m.below B6;have X6:=ae B6 s;have d6:W6.cell? ⟨sb,2,N⟩=S (L (S ⟨g,0,N⟩) (l.length+1) a):=by rw [Q3 u.xp];exact u.at2
 have g6:=RJ u.xp 2;have S7:aA sb W6 (W6.setCell ⟨sb,2,N⟩ (L (S ⟨g,0,N⟩) 0 a)):=(aA.refl _ _).setCell _;have b7:=Ro W6 sb 2 _ _ (L (S ⟨g,0,N⟩) 0 a) u.xp;obtain ⟨V,d5⟩:=QE (W6.setCell ⟨sb,2,N⟩ (L (S ⟨g,0,N⟩) 0 a));rw [d5] at S7 b7;have e0:sb≠w.heap.size:=λe=>by have:=m.xp;rw [e,s] at this;simp at this
 have X7:=(S7.2 _ (Ne.symm e0)).trans X6;have L7:=(S7.2 _ (by have:=aq m.xp;omega)).trans L6;have t0:V.cell? ⟨d.heap.size,0,N⟩=S (T (bs tx)):=Q3 L7 _;have t1:V.cell? ⟨d.heap.size,1,N⟩=S (YW bd):=Q3 L7 _
 have R7:mY V (L (S ⟨g,0,N⟩) 0 a) []:=by
  obtain ⟨g',a7,W,e,hg,p1,p2,p3,p4⟩:=u.row.parts (λe=>by rw [e] at M;simp at M);injection e with e _ e3;injection e with e;injection e with e _;subst e e3;exact mY.mk (l:=[]) ((S7.2 g (λe=>u.far (by rw [<-e];rfl))).trans hg) (QS _) p2 p3 rfl
 have p0:V.cell? ⟨w.heap.size,0,N⟩=S (T ⟨#[]⟩):=Q3 X7 _;have p1:V.cell? ⟨w.heap.size,1,N⟩=S (YW F):=Q3 X7 _;have q0:=RJ X7 0;have q1:=RJ X7 1;have A7:mC V sb ((C.setIfInBounds 2 (L (S ⟨g,0,N⟩) (l.length+1) a)).setIfInBounds 2 (L (S ⟨g,0,N⟩) 0 a)) (L (S ⟨g,0,N⟩) 0 a) []:=⟨b7,by rw [Vg];exact u.size,by rw [TM (by have:=u.size;omega)],R7⟩
 have K7:aC (λk=>k=sb\/(L (S ⟨g,0,N⟩) (l.length+1) a).ownBlock=S k) w4 V:=((aC.below O:aC (λk=>k=sb\/(L (S ⟨g,0,N⟩) (l.length+1) a).ownBlock=S k) w4 d).trans (aC.below B6:aC (λ_=>False) _ _) (λ_ _ e=>e.elim)).trans (aC.same S7) (λ_ _ e=>Y4 e);have b6:=K A7;have a5:=K X7;have c3:=K K7;clear m s O A S7 b7 X6 R7 B6 X7 u A7 K7 d2 d3 d0 g2 L6 L7;go_wp2_with fail
 obtain ⟨r0,r1,rS⟩:=sn (x:=T (bs tx)) (y:=YW bd) a5.out;refine Ru (v:=YY #[YZ #[T (bs tx),YW bd],YW YT]) (by simp [results,results61,go_sem,r0,r1]) rfl ?_;rw [Q.out];exact ⟨rfl,qc.fin a2.out a0.out HO.out rfl b6.out c3.out (λk e=>Y4 e) (QR _) a5.out rS⟩
structure fv(E:Nat->Prop)(pp pb mb sb ch bl:Nat)(c:bF)(w:QI)(A:Nat->Prop)(q:Nat->Nat)(vr:QJ)(S:aa)(xb:QF)(vw v:QJ)(acc:QF)(ls:List QF)(s:cj):Prop where
 env:gq E w pp c
 xA:cq w A pp pb sb ch vw ls s
 row:mY w vw s.wait
 xx:lA w pb mb q vr S xb
 yE:j8 0 w bl v acc
 ea:∀k,E k->¬A k
 eb:∀k,E k->¬aH w pb mb q vr S k
 ab:∀k,A k->¬aH w pb mb q vr S k
 wd:∀g,vw.ownBlock=some g->¬E g/\¬A g/\¬aH w pb mb q vr S g/\g≠bl/\v.ownBlock≠some g
 ld:¬E bl/\¬A bl/\¬aH w pb mb q vr S bl
 vd:∀g,v.ownBlock=some g->¬E g/\¬A g/\¬aH w pb mb q vr S g
section
variable {E:Nat->Prop} {pp pb mb sb ch bl:Nat} {c:bF} {w w':QI} {A A':Nat->Prop} {q q':Nat->Nat} {vr vr':QJ} {S S':aa} {xb recs':QF} {vw vw' v v':QJ} {acc acc':QF} {ls ls':List QF} {s s':cj}
theorem fv.yr(h:fv E pp pb mb sb ch bl c w A q vr S xb vw v acc ls s){g:Nat}(d:vw.ownBlock=some g):g < w.heap.size:=by
 obtain ⟨a,b⟩:=br h.row d;exact aq b
theorem fv.yJ(h:fv E pp pb mb sb ch bl c w A q vr S xb vw v acc ls s):bl < w.heap.size:=by
 obtain ⟨p,_,a⟩:=h.yE.xp;exact aq a
theorem fv.zk(h:fv E pp pb mb sb ch bl c w A q vr S xb vw v acc ls s){g:Nat}(d:v.ownBlock=some g):g < w.heap.size:=by
 obtain ⟨a,z,b⟩:=gW h.yE.row d;exact aq b
def wA(w:QI)(pb mb bl:Nat)(A:Nat->Prop)(q:Nat->Nat)(vr:QJ)(S:aa)(vw v:QJ)(k:Nat):Prop:=A k\/aH w pb mb q vr S k\/k=bl\/v.ownBlock=some k\/vw.ownBlock=some k
theorem lj{B:Nat->Prop}(h:j8 0 w bl v acc)(a:aC B w w')(b:¬B bl)(d:∀g,v.ownBlock=some g->¬B g):j8 0 w' bl v acc:=by
 obtain ⟨p,f,e⟩:=h.xp;exact ⟨⟨p,f,a.some_ e b⟩,Gi h.row a d,h.far⟩
theorem fv.line(h:fv E pp pb mb sb ch bl c w A q vr S xb vw v acc ls s)(l:gE A pp pb mb sb ch vw q vr S w s' S' recs' ls' w')(m:s'.wait=s.wait):∃A' q' vr',fv E pp pb mb sb ch bl c w' A' q' vr' S' recs' vw v acc ls' s'/\(∀k,A' k->A k\/w.heap.size<=k)/\(∀k,aH w' pb mb q' vr' S' k->aH w pb mb q vr S k\/w.heap.size<=k)/\aC (λk=>A k\/aH w pb mb q vr S k) w w':=by
 obtain ⟨A',q',vr',p,r,y,f,i,t,d⟩:=l;have j:∀k,E k->¬(A k\/aH w pb mb q vr S k):=λk e x=>x.elim (h.ea k e) (h.eb k e);have b:∀{k:Nat},k < w.heap.size->¬A k->¬aH w pb mb q vr S k->¬A' k/\¬aH w' pb mb q' vr' S' k:=λu n o=>⟨λe=>(f _ e).elim n (λe=>by omega),λe=>(i _ e).elim o (λe=>by omega)⟩;refine ⟨A',q',vr',⟨h.env.xt d j,p,?_,r,?_,?_,?_,t,?_,?_,?_⟩,f,i,d⟩
 .rw [m];exact bG h.row d (λg a e=>e.elim (h.wd g a).2.1 (h.wd g a).2.2.1)
 .exact lj h.yE d (λe=>e.elim h.ld.2.1 h.ld.2.2) (λg a e=>e.elim (h.vd g a).2.1 (h.vd g a).2.2)
 .exact λk e=>(b (h.env.lt k e) (h.ea k e) (h.eb k e)).1
 .exact λk e=>(b (h.env.lt k e) (h.ea k e) (h.eb k e)).2
 .intro g a;have:=b (h.yr a) (h.wd g a).2.1 (h.wd g a).2.2.1;exact ⟨(h.wd g a).1,this.1,this.2,(h.wd g a).2.2.2⟩
 .have:=b h.yJ h.ld.2.1 h.ld.2.2;exact ⟨h.ld.1,this.1,this.2⟩
 intro g a;have:=b (h.zk a) (h.vd g a).2.1 (h.vd g a).2.2;exact ⟨(h.vd g a).1,this.1,this.2⟩
theorem fv.below(h:fv E pp pb mb sb ch bl c w A q vr S xb vw v acc ls s)(d:Y6 w.heap.size w w'):fv E pp pb mb sb ch bl c w' A q vr S xb vw v acc ls s:=by
 have f:aC (λ_=>False) w w':=aC.below d;obtain ⟨i,b⟩:=h.xx.xt f (λ_ _ e=>e);exact ⟨h.env.below d,h.xA.below d,bG h.row f (λ_ _ e=>e),i,lj h.yE f (λe=>e) (λ_ _ e=>e),h.ea,λk e x=>h.eb k e (b k x),λk e x=>h.ab k e (b k x),λg a=>⟨(h.wd g a).1,(h.wd g a).2.1,λx=>(h.wd g a).2.2.1 (b g x),(h.wd g a).2.2.2⟩,⟨h.ld.1,h.ld.2.1,λx=>h.ld.2.2 (b _ x)⟩,λg a=>⟨(h.vd g a).1,(h.vd g a).2.1,λx=>(h.vd g a).2.2 (b g x)⟩⟩
theorem fv.cut(h:fv E pp pb mb sb ch bl c w A q vr S xb vw v acc ls s){C:Array QJ}{y:QF}{j:QJ}(P:C=iR pp pb ch vw j s)(n:bQ w sb ch (iR pp pb ch vw j s) ls)(V:pG w A j s.tx)(R:qc sb C vw y w w'):∃vw',fv E pp pb mb sb ch bl c w' A q vr S xb vw' v acc ls {s with wait:=y}/\aC (λk=>k=sb\/vw.ownBlock=some k) w w'/\(∀g,vw'.ownBlock=some g->vw.ownBlock=some g\/w.heap.size<=g)/\∀k,aH w' pb mb q vr S k->aH w pb mb q vr S k:=by
 obtain ⟨vw',m,f,B⟩:=R;subst P;have O:∀k,E k->¬(k=sb\/vw.ownBlock=some k):=λk e x=>x.elim (λa=>h.ea k e (by rw [a];exact h.xA.xP)) (λa=>(h.wd k a).1 e);have M:∀k,aH w pb mb q vr S k->¬(k=sb\/vw.ownBlock=some k):=λk e x=>x.elim (λa=>h.ab k (by rw [a];exact h.xA.xP) e) (λa=>(h.wd k a).2.2.1 e);obtain ⟨G,i⟩:=h.xx.xt f M;have d:∀g,vw'.ownBlock=some g->vw.ownBlock=some g\/w.heap.size<=g:=B;obtain ⟨W,r,p⟩:=n.chan;have l:¬(ch=sb\/vw.ownBlock=some ch):=λx=>x.elim (λe=>n.ne e.symm) (λe=>(h.wd ch e).2.1 h.xA.xR);have o:bQ w' sb ch (iR pp pb ch vw' j {s with wait:=y}) ls:=⟨m.xp,m.size,rfl,W,r,f.some_ p l⟩;have u:pG w' A j s.tx:=V.off f (λk C t z D e U x=>x.elim (λa=>ve n k C t z e U (Y4 a)) (λa=>(h.wd k a).2.1 D));refine ⟨vw',⟨h.env.xt f O,⟨⟨j,o,u⟩,h.xA.xP,h.xA.xR,λk Q=>SA (h.xA.lt k Q) f.size⟩,m.row,G,lj h.yE f (λx=>x.elim (λe=>h.ld.2.1 (by rw [e];exact h.xA.xP)) (λe=>(h.wd bl e).2.2.2.1 rfl)) (λg b x=>x.elim (λe=>(h.vd g b).2.1 (by rw [e];exact h.xA.xP)) (λe=>(h.wd g e).2.2.2.2 b)),h.ea,λk e x=>h.eb k e (i k x),λk e x=>h.ab k e (i k x),λg b=>?_,⟨h.ld.1,h.ld.2.1,λx=>h.ld.2.2 (i _ x)⟩,λg b=>⟨(h.vd g b).1,(h.vd g b).2.1,λx=>(h.vd g b).2.2 (i g x)⟩⟩,f,d,i⟩
 rcases d g b with e | e
 .exact ⟨(h.wd g e).1,(h.wd g e).2.1,λx=>(h.wd g e).2.2.1 (i g x),(h.wd g e).2.2.2⟩
 exact ⟨λx=>by have:=h.env.lt g x;omega,λx=>by have:=h.xA.lt g x;omega,λx=>by have:=aH.lt h.xx (i g x);omega,λx=>by have:=h.yJ;omega,λx=>by have:=h.zk x;omega⟩
theorem fv.told(h:fv E pp pb mb sb ch bl c w A q vr S xb vw v acc ls s){y r:Nat}(f:aC (λk=>k=ch\/k=bl\/v.ownBlock=some k) w w')(u:∀g,v'.ownBlock=some g->v.ownBlock=some g\/w.heap.size<=g)(P:j8 0 w' bl v' acc')(l:w'.heap[ch]? =some (.chan 3 #[] F y r F)):fv E pp pb mb sb ch bl c w' A q vr S xb vw v' acc' [] s/\∀k,aH w' pb mb q vr S k->aH w pb mb q vr S k:=by
 obtain ⟨o,i,U⟩:=h.xA.ex
 have M:∀k,E k->¬(k=ch\/k=bl\/v.ownBlock=some k):=λk e x=>by
  rcases x with x | x | x
  .exact h.ea k e (by rw [x];exact h.xA.xR)
  .exact h.ld.1 (by rw [<-x];exact e)
  exact (h.vd k x).1 e
 have G:∀k,aH w pb mb q vr S k->¬(k=ch\/k=bl\/v.ownBlock=some k):=λk e x=>by
  rcases x with x | x | x
  .exact h.ab k (by rw [x];exact h.xA.xR) e
  .exact h.ld.2.2 (by rw [<-x];exact e)
  exact (h.vd k x).2.2 e
 obtain ⟨D,d⟩:=h.xx.xt f G
 have p:∀k,A k->k≠ch->¬(k=ch\/k=bl\/v.ownBlock=some k):=λk a n x=>by
  rcases x with x | x | x
  .exact n x
  .exact h.ld.2.1 (by rw [<-x];exact a)
  exact (h.vd k x).2.1 a
 have j:bQ w' sb ch (iR pp pb ch vw o s) []:=⟨f.some_ i.xp (p sb h.xA.xP i.ne),i.size,i.told,y,r,l⟩;have m:pG w' A o s.tx:=U.off f (λk C t z B e R=>p k B (λO=>ve i k C t z e R (Y5 O)));refine ⟨⟨h.env.xt f M,⟨⟨o,j,m⟩,h.xA.xP,h.xA.xR,λk Q=>SA (h.xA.lt k Q) f.size⟩,bG h.row f (λg b x=>?_),D,P,h.ea,λk e x=>h.eb k e (d k x),λk e x=>h.ab k e (d k x),λg b=>⟨(h.wd g b).1,(h.wd g b).2.1,λx=>(h.wd g b).2.2.1 (d g x),(h.wd g b).2.2.2.1,λx=>?_⟩,⟨h.ld.1,h.ld.2.1,λx=>h.ld.2.2 (d _ x)⟩,λg b=>?_⟩,d⟩
 .rcases x with x | x | x
  .exact (h.wd g b).2.1 (by rw [x];exact h.xA.xR)
  .exact (h.wd g b).2.2.2.1 x
  exact (h.wd g b).2.2.2.2 x
 .rcases u g x with e | e
  .exact (h.wd g b).2.2.2.2 e
  have:=h.yr b;omega
 rcases u g b with e | e
 .exact ⟨(h.vd g e).1,(h.vd g e).2.1,λx=>(h.vd g e).2.2 (d g x)⟩
 exact ⟨λx=>by have:=h.env.lt g x;omega,λx=>by have:=h.xA.lt g x;omega,λx=>by have:=aH.lt h.xx (d g x);omega⟩
end
def Py:List QF:=[[81,85,73,84],[78,79,79,80],[82,83,69,84],[68,65,84,65],[72,69,76,79],[69,72,76,79],[65,85,84,72],[77,65,73,76],[82,67,80,84]]
def Bx(W:QF)(arg:QF)(has:Bool):mX:=
 if W=[81,85,73,84] then jW 2 has
 else if W=[78,79,79,80] then jW 3 has
 else if W=[82,83,69,84] then jW 4 has
 else if W=[68,65,84,65] then jW 5 has
 else if W=[72,69,76,79] then kU 6 arg
 else if W=[69,72,76,79] then kU 7 arg
 else if W=[65,85,84,72] then om arg
 else if W=[77,65,73,76] then pQ arg
 else if W=[82,67,80,84] then pW arg
 else mT 0
def di(text:QF)(bad:Bool):mX:=if bad then mT 0 else Bx (Lib.toUpperA (aJ 32 text).1) (aJ 32 text).2.1 (aJ 32 text).2.2
theorem EC(a:QF)(w:QI):Y8 Ys 109 #[YZ #[T (bs a),YW YT]] w λe l=>e=YX (jR (di a YT))/\Y6 w.heap.size w l:=by
 have g:H (di a YT=mT 0):=K rfl;go_enter func109,ntmps109;go_wp2_with fail
 obtain ⟨f,b⟩:=QE (w.alloc (YU #[T (bs a),YW YT] 120));have c:f.heap.size=w.heap.size+1:=by rw [<-b];simp
 have d:=QG b;rw [b];have X:=Q0 f (YU #[I J 0,T ⟨#[]⟩,I J 0,T ⟨#[]⟩] 197);rw [c] at X;obtain ⟨_,h,i,j,k,_⟩:=tr X;refine Ru (v:=YZ #[I J 0,T ⟨#[]⟩,I J 0,T ⟨#[]⟩]) (by simp [results,results109,go_sem,h,i,j,k]) rfl ?_;exact ⟨by rw [g.out];rfl,d.alloc d.size _⟩
theorem Cv(a:QF)(w:QI)(g:a.length<=1048576)(c:eZ a):Y8 Ys 175 #[T (bs a)] w λe f=>e=YX (T (bs (Lib.toUpperA a)))/\Y6 w.heap.size w f:=by
 have h:=aj a;exact Tryz.strings_ToUpper_ascii (bs a) w (by omega) (λj b d=>c b (List.mem_of_getElem? d))
def PC(V arg:QF)(has:Bool)(kx:mX):Prop:=bs V=⟨#[81,85,73,84]⟩/\jW 2 has=kx\/bs V=⟨#[78,79,79,80]⟩/\jW 3 has=kx\/bs V=⟨#[82,83,69,84]⟩/\jW 4 has=kx\/bs V=⟨#[68,65,84,65]⟩/\jW 5 has=kx\/bs V=⟨#[72,69,76,79]⟩/\kU 6 arg=kx\/bs V=⟨#[69,72,76,79]⟩/\kU 7 arg=kx\/bs V=⟨#[65,85,84,72]⟩/\om arg=kx\/bs V=⟨#[77,65,73,76]⟩/\pQ arg=kx\/bs V=⟨#[82,67,80,84]⟩/\pW arg=kx
theorem fq(b:QF)(m:Int)(w:QI)(hl:b.length<=1048576)(t:eZ b)(hm:w.cell? ⟨0,0,N⟩=S (I J m)){V:QF}{h:mX}(hW:Lib.toUpperA (aJ 32 b).1=V)(U:PC V (aJ 32 b).2.1 (aJ 32 b).2.2 h):Y8 Ys 109 #[YZ #[T (bs b),YW F]] w λe w'=>e=YX (jR h)/\Y6 w.heap.size w w':=by
 obtain ⟨W0,p⟩:=QE (w.alloc (YU #[T (bs b),YW F] 120));have W:=QG p;have a4:W0.heap.size=w.heap.size+1:=by rw [<-p];simp
 have L0:=QH p;obtain ⟨d,E⟩:=QE (W0.alloc (YU #[I J 0,T ⟨#[]⟩,I J 0,T ⟨#[]⟩] 197));have X:=QG E;have X1:d.heap[w.heap.size+1]? =S (YU #[I J 0,T ⟨#[]⟩,I J 0,T ⟨#[]⟩] 197 (0,0)):=by rw [<-E, <-a4];exact Q0 W0 _
 have L1:=ae X L0;have l0:d.cell? ⟨w.heap.size,0,N⟩=S (T (bs b)):=Q3 L1 _;have l1:d.cell? ⟨w.heap.size,1,N⟩=S (YW F):=Q3 L1 _;have o:Y6 w.heap.size w d:=W.trans (X.mono W.size);have a5:=aj b;have D:=K (j5 (bs b) 32 d (by unfold maxLen;omega));have HM:=K ((o.cell (au hm)).trans hm);have Y:=K t;have B:=K o;have a0:=K X1;have R:=K hW;have Q:=K U;clear W L0 X X1 L1 hm t o hW U;go_enter func109,ntmps109;go_wp2_with fail
 refine D.out.mono ?_;rintro e w2 ⟨x,y,l,rfl,A,n,rfl⟩;rw [ao] at A;obtain ⟨O,rfl⟩:∃r,x=bs r:=⟨x.data.toList,rfl⟩;obtain ⟨arg,rfl⟩:∃r,y=bs r:=⟨y.data.toList,rfl⟩;rw [ao,ao] at A;have a3:=nj 32 _ _ _ _ A;have s:=we 32 _ _ _ _ A;have k:=K (Cv O (d.drewN n) (by omega) (λa t=>Y.out a (s.1 a t)));have c:H (eZ arg/\arg.length<=1048576):=K ⟨λa t=>Y.out a (s.2 a t),by omega⟩
 rw [A] at R Q;simp only at R Q;have M:=R.out;rw [M] at k;have U:=Q.out;clear A a3 s D Y Q R M
 rcases U with ⟨f,g⟩ | ⟨f,g⟩ | ⟨f,g⟩ | ⟨f,g⟩ | ⟨f,g⟩ | ⟨f,g⟩ | ⟨f,g⟩ | ⟨f,g⟩ | ⟨f,g⟩
 all_goals
  rw [f] at k;have HK:=K g;clear f g;go_wp2_with fail
  refine k.out.mono ?_;rintro e i ⟨rfl,G⟩;have P:Y6 d.heap.size d i:=(an n d d.heap.size).trans (G.mono (by simp));have C:=K (B.out.trans (P.mono B.out.size));have a1:=K (ae P a0.out);have j:=K ((P.cell (au HM.out)).trans HM.out);clear G P k;go_wp2_with fail
 refine (ln 2 l i).mono ?_
 rotate_left
 refine (ln 3 l i).mono ?_
 rotate_left
 refine (ln 4 l i).mono ?_
 rotate_left
 refine (ln 5 l i).mono ?_
 rotate_left
 refine (pX 6 arg m i c.out.2 j.out).mono ?_
 rotate_left
 refine (pX 7 arg m i c.out.2 j.out).mono ?_
 rotate_left
 refine (Dz arg i c.out.2 c.out.1).mono ?_
 rotate_left
 refine (AQ arg m i c.out.2 c.out.1 j.out).mono ?_
 rotate_left
 refine (DD arg m i c.out.2 c.out.1 j.out).mono ?_
 rotate_left
 all_goals
  rintro e w4 ⟨rfl,q⟩;rw [HK.out];simp only [jR];obtain ⟨X4,c0,c1,c2,c3,f0,f1,f2,f3⟩:=tr (ae q a1.out);have a2:=K X4;have Z:=K (C.out.trans (q.mono C.out.size));clear X4 q HK;go_wp2_with fail
  obtain ⟨r0,r1,r2,r3,rS⟩:=iK (x:=I J (h.verb:Int)) (y:=T (bs h.name)) (z:=I J (h.size:Int)) (u:=T (bs h.shown)) a2.out;refine Ru (v:=YZ #[I J (h.verb:Int),T (bs h.name),I J (h.size:Int),T (bs h.shown)]) (by simp [results,results109,go_sem,r0,r1,r2,r3]) rfl ?_;exact ⟨rfl,Z.out.trans (rS.below (Vm _))⟩
theorem CT(b:QF)(m:Int)(w:QI)(hl:b.length<=1048576)(k:eZ b)(R:w.cell? ⟨0,0,N⟩=S (I J m))(hW:Lib.toUpperA (aJ 32 b).1 ∉ Py):Y8 Ys 109 #[YZ #[T (bs b),YW F]] w λe w'=>e=YX (jR (mT 0))/\Y6 w.heap.size w w':=by
 obtain ⟨P,i⟩:=QE (w.alloc (YU #[T (bs b),YW F] 120));have A:=QG i;have V:P.heap.size=w.heap.size+1:=by rw [<-i];simp
 have X:=QH i;obtain ⟨d,q⟩:=QE (P.alloc (YU #[I J 0,T ⟨#[]⟩,I J 0,T ⟨#[]⟩] 197));have B:=QG q;have Y:d.heap[w.heap.size+1]? =S (YU #[I J 0,T ⟨#[]⟩,I J 0,T ⟨#[]⟩] 197 (0,0)):=by rw [<-q, <-V];exact Q0 P _
 have O:=ae B X;have l0:d.cell? ⟨w.heap.size,0,N⟩=S (T (bs b)):=Q3 O _;have l1:d.cell? ⟨w.heap.size,1,N⟩=S (YW F):=Q3 O _;have g:Y6 w.heap.size w d:=A.trans (B.mono A.size);have a3:=aj b;have p:=K (j5 (bs b) 32 d (by unfold maxLen;omega));have W:=K ((g.cell (au R)).trans R);have C:=K k;have o:=K g;have E:=K Y;have c:=K hW;clear A X B Y O R k g hW;go_enter func109,ntmps109;go_wp2_with fail
 refine p.out.mono ?_;rintro e w2 ⟨x,y,a2,rfl,l,n,rfl⟩;rw [ao] at l;obtain ⟨f,rfl⟩:∃r,x=bs r:=⟨x.data.toList,rfl⟩;obtain ⟨arg,rfl⟩:∃r,y=bs r:=⟨y.data.toList,rfl⟩;rw [ao,ao] at l;have Q:=nj 32 _ _ _ _ l;have j:=we 32 _ _ _ _ l;have h:=K (Cv f (d.drewN n) (by omega) (λa k=>C.out a (j.1 a k)));have a0:H (eZ arg/\arg.length<=1048576):=K ⟨λa k=>C.out a (j.2 a k),by omega⟩
 rw [l] at c;simp only at c;obtain ⟨U,eU⟩:=QE (Lib.toUpperA f);rw [eU] at c h;have n0:((bs U).toList == [81,85,73,84])=F:=by rw [beq_eq_false_iff_ne,ByteArray.toList_eq,ao];exact λe=>c.out (by rw [e];decide)
 have n1:((bs U).toList == [78,79,79,80])=F:=by rw [beq_eq_false_iff_ne,ByteArray.toList_eq,ao];exact λe=>c.out (by rw [e];decide)
 have n2:((bs U).toList == [82,83,69,84])=F:=by rw [beq_eq_false_iff_ne,ByteArray.toList_eq,ao];exact λe=>c.out (by rw [e];decide)
 have n3:((bs U).toList == [68,65,84,65])=F:=by rw [beq_eq_false_iff_ne,ByteArray.toList_eq,ao];exact λe=>c.out (by rw [e];decide)
 have n4:((bs U).toList == [72,69,76,79])=F:=by rw [beq_eq_false_iff_ne,ByteArray.toList_eq,ao];exact λe=>c.out (by rw [e];decide)
 have n5:((bs U).toList == [69,72,76,79])=F:=by rw [beq_eq_false_iff_ne,ByteArray.toList_eq,ao];exact λe=>c.out (by rw [e];decide)
 have n6:((bs U).toList == [65,85,84,72])=F:=by rw [beq_eq_false_iff_ne,ByteArray.toList_eq,ao];exact λe=>c.out (by rw [e];decide)
 have n7:((bs U).toList == [77,65,73,76])=F:=by rw [beq_eq_false_iff_ne,ByteArray.toList_eq,ao];exact λe=>c.out (by rw [e];decide)
 have n8:((bs U).toList == [82,67,80,84])=F:=by rw [beq_eq_false_iff_ne,ByteArray.toList_eq,ao];exact λe=>c.out (by rw [e];decide)
 clear eU;clear l Q j p C;go_wp2_with fail
 refine h.out.mono ?_;rintro e w3 ⟨rfl,s⟩;have t:Y6 d.heap.size d w3:=(an n d d.heap.size).trans (s.mono (by simp));have D:=K (o.out.trans (t.mono o.out.size));have G:=K (ae t E.out);have a1:=K ((t.cell (au W.out)).trans W.out);clear s t h;obtain ⟨Z,c0,c1,c2,c3,f0,f1,f2,f3⟩:=tr G.out;have M:=K Z;clear Z;go_wp2_with fail
 obtain ⟨r0,r1,r2,r3,rS⟩:=iK (x:=I J 0) (y:=T ⟨#[]⟩) (z:=I J 0) (u:=T ⟨#[]⟩) M.out;refine Ru (v:=YZ #[I J 0,T ⟨#[]⟩,I J 0,T ⟨#[]⟩]) (by simp [results,results109,go_sem,r0,r1,r2,r3]) rfl ?_;exact ⟨rfl,D.out.trans (rS.below (Vm _))⟩
theorem EA(a:QF)(g:Bool)(m:Int)(w:QI)(d:a.length<=1048576)(b:g=F->eZ a)(f:w.cell? ⟨0,0,N⟩=some (I J m)):Y8 Ys 109 #[YZ #[T (bs a),YW g]] w λe t=>e=YX (jR (di a g))/\Y6 w.heap.size w t:=by
 cases g
 case true=>exact EC a w
 have b:=b rfl;have e:di a F=Bx (Lib.toUpperA (aJ 32 a).1) (aJ 32 a).2.1 (aJ 32 a).2.2:=rfl;rw [e];unfold Bx
 by_cases h:Lib.toUpperA (aJ 32 a).1=[81,85,73,84]
 .rw [if_pos h];exact fq a m w d b f h (Y4 ⟨rfl,rfl⟩)
 rw [if_neg h]
 by_cases i:Lib.toUpperA (aJ 32 a).1=[78,79,79,80]
 .rw [if_pos i];exact fq a m w d b f i (Y5 (Y4 ⟨rfl,rfl⟩))
 rw [if_neg i]
 by_cases j:Lib.toUpperA (aJ 32 a).1=[82,83,69,84]
 .rw [if_pos j];exact fq a m w d b f j (Y5 (Y5 (Y4 ⟨rfl,rfl⟩)))
 rw [if_neg j]
 by_cases k:Lib.toUpperA (aJ 32 a).1=[68,65,84,65]
 .rw [if_pos k];exact fq a m w d b f k (Y5 (Y5 (Y5 (Y4 ⟨rfl,rfl⟩))))
 rw [if_neg k]
 by_cases l:Lib.toUpperA (aJ 32 a).1=[72,69,76,79]
 .rw [if_pos l];exact fq a m w d b f l (Y5 (Y5 (Y5 (Y5 (Y4 ⟨rfl,rfl⟩)))))
 rw [if_neg l]
 by_cases n:Lib.toUpperA (aJ 32 a).1=[69,72,76,79]
 .rw [if_pos n];exact fq a m w d b f n (Y5 (Y5 (Y5 (Y5 (Y5 (Y4 ⟨rfl,rfl⟩))))))
 rw [if_neg n]
 by_cases o:Lib.toUpperA (aJ 32 a).1=[65,85,84,72]
 .rw [if_pos o];exact fq a m w d b f o (Y5 (Y5 (Y5 (Y5 (Y5 (Y5 (Y4 ⟨rfl,rfl⟩)))))))
 rw [if_neg o]
 by_cases p:Lib.toUpperA (aJ 32 a).1=[77,65,73,76]
 .rw [if_pos p];exact fq a m w d b f p (Y5 (Y5 (Y5 (Y5 (Y5 (Y5 (Y5 (Y4 ⟨rfl,rfl⟩))))))))
 rw [if_neg p]
 by_cases r:Lib.toUpperA (aJ 32 a).1=[82,67,80,84]
 .rw [if_pos r];exact fq a m w d b f r (Y5 (Y5 (Y5 (Y5 (Y5 (Y5 (Y5 (Y5 ⟨rfl,rfl⟩))))))))
 rw [if_neg r];exact CT a m w d b f (by unfold Py;simp [h,i,j,k,l,n,o,p,r])
structure Jn(k:mX):Prop where
 verb:k.verb<=10
 name:k.name=[]\/cm k.name=YT
 yQ:k.verb=10->cm k.name=YT
theorem Dr(v:Nat)(h:v<=9):Jn (mT v):=⟨by show v<=10;omega,Y4 rfl,λe=>by have e:v=10:=e;omega⟩
theorem JR(l:QF):b9 l=[]\/cm (b9 l)=YT:=by
 cases h:(bL l).2
 case true=>exact Y5 (sG h)
 left;unfold b9;rw [h];rfl
theorem FG(b:QF)(a:Bool):Jn (di b a):=by
 unfold di
 cases a
 case true=>exact Dr 0 (by decide)
 simp only [Tm,if_false];unfold Bx jW kU;have d:Jn dW:=Dr 1 (by decide)
 repeat' split
 all_goals first
  | exact d
  | exact Dr _ (by decide)
  | skip
 .unfold om
  split
  .split
   .exact ⟨show (8:Nat)<=10 by omega,Y4 rfl,λe=>by cases e⟩
   exact d
  exact d
 .unfold pQ;simp only
  split
  .exact ⟨show (9:Nat)<=10 by omega,JR _,λe=>by cases e⟩
  exact d
 unfold pW;simp only
 split
 .rename_i f
  rw [Rk] at f;exact ⟨QR 10,Y5 (sG f.2),λ_=>sG f.2⟩
 exact d
section
variable {A:Nat->Prop} {pp pb mb sb ch:Nat} {vw:QJ} {q:Nat->Nat} {vr:QJ} {S:aa} {xb:QF} {w:QI} {s:cj} {E:Nat->Prop} {c:bF}
theorem Ni(h:cq w A pp pb sb ch vw [] s)(g:gq E w pp c)(f:∀k,E k->¬A k)(k:mX)(n:k.verb<=10)(m:k.name.length<=1048576)(j:∀t,s.tx=some t->t.body=N/\t.xd.length<=10):Y8 Ys 108 #[YV (some ⟨sb,0,N⟩),jR k] w (cz A pp pb sb ch vw w (cf c s k).1 (cf c s k).2):=by
 obtain ⟨v,b,d,a⟩:=k;simp only at n m;unfold jR cf;simp only
 cases e:dy s v
 case false=>
  simp only [if_true];exact IC h g f b a d v e
 simp only [VU,if_false];have l:v=0\/v=1\/v=2\/v=3\/v=4\/v=5\/v=6\/v=7\/v=8\/v=9\/v=10:=by omega
 rcases l with rfl | rfl | rfl | rfl | rfl | rfl | rfl | rfl | rfl | rfl | rfl
 .exact gN h g f b a d rfl e (Y4 ⟨rfl,rfl,rfl⟩)
 .exact gN h g f b a d rfl e (Y5 (Y4 ⟨rfl,rfl,rfl⟩))
 .exact gN h g f b a d rfl e (Y5 (Y5 (Y4 ⟨rfl,rfl,rfl⟩)))
 .exact gN h g f b a d rfl e (Y5 (Y5 (Y5 (Y4 ⟨rfl,rfl,rfl⟩))))
 .exact gN h g f b a d rfl e (Y5 (Y5 (Y5 (Y5 (Y4 ⟨rfl,rfl,rfl⟩)))))
 .cases i:s.tx with
  | none=>rw [show dy s 5=F by unfold dy gV;rw [i];rfl] at e;cases e
  | some t=>exact gN h g f b a d rfl e (Y5 (Y5 (Y5 (Y5 (Y5 (Y4 ⟨_,i,rfl,rfl,rfl⟩))))))
 .exact gN h g f b a d rfl e (Y5 (Y5 (Y5 (Y5 (Y5 (Y5 (Y4 ⟨rfl,rfl,rfl⟩)))))))
 .exact gN h g f b a d rfl e (Y5 (Y5 (Y5 (Y5 (Y5 (Y5 (Y5 (Y4 ⟨rfl,rfl,rfl⟩))))))))
 .exact gN h g f b a d rfl e (Y5 (Y5 (Y5 (Y5 (Y5 (Y5 (Y5 (Y5 (Y4 ⟨rfl,rfl,rfl⟩)))))))))
 .exact gN h g f b a d rfl e (Y5 (Y5 (Y5 (Y5 (Y5 (Y5 (Y5 (Y5 (Y5 (Y4 ⟨rfl,rfl,rfl⟩))))))))))
 cases i:s.tx with
 | none=>rw [show dy s 10=F by unfold dy gV;rw [i];rfl] at e;cases e
 | some t=>exact gN h g f b a d rfl e (Y5 (Y5 (Y5 (Y5 (Y5 (Y5 (Y5 (Y5 (Y5 (Y5 ⟨_,i,(j t i).1,m,(j t i).2,rfl,rfl,rfl⟩))))))))))
theorem Kt(h:cq w A pp pb sb ch vw [] s)(r:gq E w pp c)(f:lA w pb mb q vr S xb)(x:qd S xb){t:qN}(u:s.tx=some t)(j:Ao t){b:dm}(p:t.body=some b)(g:∀k,A k->¬aH w pb mb q vr S k)(m:∀k,E k->¬aH w pb mb q vr S k)(i:∀k,E k->¬A k)(a:QF)(d:Bool)(n:a.length<=1048576):Y8 Ys 107 #[YV (some ⟨sb,0,N⟩),YZ #[T (bs a),YW d]] w λe v=>e=YX (YY #[])/\gE A pp pb mb sb ch vw q vr S w (fc c s S xb t b a d).1 (fc c s S xb t b a d).2.1 (fc c s S xb t b a d).2.2.1 (fc c s S xb t b a d).2.2.2 v:=by
 unfold fc
 by_cases l:a=[46]
 .subst l;simp only [if_true];exact Ku h r f x u j p g m i d
 simp only [l,if_false];refine (Ks h r u j p a d l n).mono ?_;intro e v o;exact ⟨o.1,gE.step f g o⟩
end
def bH(c:bF)(s:cj)(S:aa)(xb:QF)(text:QF)(bad:Bool):cj×aa×QF×List QF:=
 match s.tx with
 | some t=>(match t.body with
  | some b=>fc c s S xb t b text bad
  | none=>((cf c s (di text bad)).1,S,xb,(cf c s (di text bad)).2))
 | none=>((cf c s (di text bad)).1,S,xb,(cf c s (di text bad)).2)
section
variable {E:Nat->Prop} {pp pb mb sb ch bl:Nat} {c:bF} {w:QI} {A:Nat->Prop} {q:Nat->Nat} {vr:QJ} {S:aa} {xb:QF} {vw v:QJ} {acc:QF} {ls:List QF} {s:cj}
theorem fv.yu(h:fv E pp pb mb sb ch bl c w A q vr S xb vw v acc ls s)(hl:∀l∈ls,l.length<=1048576)(u:FrameMode)(U:acc.length+ls.flatten.length<=140737488355328):CallsD Ys 58 #[YV (some ⟨sb,0,N⟩),YV (some ⟨bl,0,N⟩)] u w λe u' B=>u'=u/\e=YX (YY #[])/\∃d,fv E pp pb mb sb ch bl c B A q vr S xb vw d (acc++ls.flatten) [] s/\aC (λk=>k=ch\/k=bl\/v.ownBlock=some k) w B/\(∀k,aH B pb mb q vr S k->aH w pb mb q vr S k)/\∀g,d.ownBlock=some g->v.ownBlock=some g\/w.heap.size<=g:=by
 obtain ⟨vx,P,hx⟩:=h.xA.ex;obtain ⟨sq,r,M⟩:=P.chan;have C:ch≠bl:=λe=>h.ld.2.1 (by rw [<-e];exact h.xA.xR)
 have Z:¬(sb=ch\/sb=bl\/v.ownBlock=some sb):=λx=>by
  rcases x with x | x | x
  .exact P.ne x
  .exact h.ld.2.1 (by rw [<-x];exact h.xA.xP)
  exact (h.vd sb x).2.1 h.xA.xP
 let Bd:QF->QI->Prop:=λa B=>∃d,j8 0 B bl d a/\(∀g,d.ownBlock=some g->v.ownBlock=some g\/w.heap.size<=g)/\aC (λk=>k=ch\/k=bl\/v.ownBlock=some k) w B/\∃j y t,B.heap[ch]? =some (.chan 3 j F y t F)
 have a1:=Aa Bd sb ch sq r F (YV (some ⟨bl,0,N⟩)) ls acc u w ?_ ?_ ?_ ⟨v,h.yE,λg e=>Y4 e,aC.refl _ _,_,_,_,M⟩ M hl U
 .refine a1.mono ?_;rintro e u' B ⟨rfl,rfl,y,t,⟨d,n,p,i,_⟩,b⟩;obtain ⟨x1,x2⟩:=h.told i p n b;exact ⟨rfl,rfl,d,x1,i,x2,p⟩
 .rintro a l W ⟨d,n,p,i,j,y,t,b⟩ _ O
  have m:d.ownBlock≠some ch:=λe=>by
   obtain ⟨Q,z,G⟩:=gW n.row e;rw [b] at G;cases G
  refine (uo 0 bl d a l W n (QS _) O).mono ?_;rintro e a2 ⟨⟨rv,rfl⟩,⟨v2,d1,d2⟩,R,d4,a0⟩
  have V:aC (λk=>k=bl\/d.ownBlock=some k) W a2:=⟨a0,λk D hn=>by
   rw [Si D]
   exact R k _ (Si D) (λe=>hn (Y4 e)) (λe=>hn (Y5 e)),d4⟩
  refine ⟨⟨rv,rfl⟩,⟨v2,d1,λg X=>(d2 g X).elim (p g) (λe=>Y5 (Rn i.size e)),i.trans V (λk D e=>e.elim (λe=>Y5 (Y4 e)) (λe=>(p k e).elim (λe=>Y5 (Y5 e)) (λe=>absurd D (by omega)))),j,y,t,R ch _ b C m⟩,λo ho=>R ch o ho C m⟩
 .rintro a W ⟨d,n,p,i,_⟩;rw [Q3 (i.some_ P.xp Z)];exact P.told
 rintro a W j f y t ⟨d,n,p,i,_⟩ b;have Y:ch < W.heap.size:=aq b;have S1:aA ch W (W.setChan ch 3 f F y (t+1) F):=⟨by simp [World.setChan],λk D=>by simp [World.setChan,TH (Ne.symm D)],⟨rfl,rfl,rfl⟩⟩
 have m:d.ownBlock≠some ch:=λe=>by
  obtain ⟨Q,z,G⟩:=gW n.row e;rw [b] at G;cases G
 refine ⟨d,lj n (aC.same S1) (λe=>C e.symm) (λg X e=>m (by rw [<-e];exact X)),p,i.trans (aC.same S1) (λ_ _ e=>Y4 e),f,y,t+1,Conc.heap_setChan W ch 3 f F y (t+1) F Y⟩
def pd(E A:Nat->Prop)(pp pb mb sb ch bl:Nat)(c:bF)(q:Nat->Nat)(vr:QJ)(S:aa)(vw v:QJ)(w:QI)(s':cj)(S':aa)(recs' acc':QF)(w':QI):Prop:=
 ∃A' q' vr' vw' v',fv E pp pb mb sb ch bl c w' A' q' vr' S' recs' vw' v' acc' [] s'/\(∀k,wA w' pb mb bl A' q' vr' S' vw' v' k->wA w pb mb bl A q vr S vw v k\/w.heap.size<=k)/\aC (wA w pb mb bl A q vr S vw v) w w'
theorem BM{j o p:QI}{r:Nat->Prop}{n:Nat->Nat}{d u:QJ}{l:aa}{b f:QF}{y:cj}(h:fv E pp pb mb sb ch bl c w A q vr S xb vw v acc [] s)(m:Y6 w.heap.size w j)
  (x:aC (λk=>A k\/aH j pb mb q vr S k) j o) (z:∀k,r k->A k\/j.heap.size<=k) (t:∀k,aH o pb mb n d l k->aH j pb mb q vr S k\/j.heap.size<=k) (B:fv E pp pb mb sb ch bl c p r n d l b vw u f [] y) (C:aC (λk=>k=ch\/k=bl\/v.ownBlock=some k) o p) (D:∀k,aH p pb mb n d l k->aH o pb mb n d l k) (G:∀g,u.ownBlock=some g->v.ownBlock=some g\/o.heap.size<=g):pd E A pp pb mb sb ch bl c q vr S vw v w y l b f p:=by
 have i:∀k,aH j pb mb q vr S k->aH w pb mb q vr S k:=λk e=>e.imp (λe=>fp h.xx.xN m e) id;refine ⟨r,n,d,vw,u,B,λk a=>?_,(((aC.below m:aC (wA w pb mb bl A q vr S vw v) w j)).trans x (λk _ e=>e.imp id (λe=>Y4 (i k e)))).trans C (λk _ e=>?_)⟩
 .rcases a with a | a | a | a | a
  .exact (z k a).imp Y4 (λe=>Rn m.size e)
  .exact (t k (D k a)).imp (λe=>Y5 (Y4 (i k e))) (λe=>Rn m.size e)
  .exact Y4 (Y5 (Y5 (Y4 a)))
  .exact (G k a).imp (λe=>Y5 (Y5 (Y5 (Y4 e)))) (λe=>Rn (Rn m.size x.size) e)
  exact Y4 (Y5 (Y5 (Y5 (Y5 a))))
 rcases e with e | e | e
 .exact Y4 (by rw [e];exact h.xA.xR)
 .exact Y5 (Y5 (Y4 e))
 exact Y5 (Y5 (Y5 (Y4 e)))
theorem Hx(h:fv E pp pb mb sb ch bl c w A q vr S xb vw v acc [] s)(hk:qd S xb){t:qN}(Y:s.tx=some t)(G:Ao t){b:dm}(X:t.body=some b)(a:QF)(d:Bool)(D:a.length<=1048576)(k:∀l∈(fc c s S xb t b a d).2.2.2,l.length<=1000)(a3:(fc c s S xb t b a d).2.2.2.flatten.length<=3000)(a1:acc.length<=1099511627776)(m:(fc c s S xb t b a d).1.wait=s.wait):Y8 Ys 62 #[YV (some ⟨sb,0,N⟩),YZ #[T (bs a),YW d],YV (some ⟨bl,0,N⟩)] w λe w'=>e=YX (YY #[])/\pd E A pp pb mb sb ch bl c q vr S vw v w (fc c s S xb t b a d).1 (fc c s S xb t b a d).2.1 (fc c s S xb t b a d).2.2.1 (acc++(fc c s S xb t b a d).2.2.2.flatten) w':=by
 obtain ⟨vx,Q,R⟩:=h.xA.ex;rw [Y] at R;obtain ⟨M,vt,vb,rfl,ha,W,hO,U⟩:=R;rw [X] at U;obtain ⟨P,vy,rfl,a2,z,a0⟩:=U;obtain ⟨y,j⟩:=QE (w.alloc (YU #[T (bs a),YW d] 120));have i:=QG j;have O:=QH j;obtain ⟨l0,l1⟩:=QM O;have c8:y.cell? ⟨sb,8,N⟩=some (YV (some ⟨M,0,N⟩)):=(Q.below i).cell 8;have t2:y.cell? ⟨M,2,N⟩=some (YV (some ⟨P,0,N⟩)):=Q3 (ae i W.xp) _;have g:=h.below i;have p:=K (E0 M P y t2);have r:=K (Kt g.xA g.env g.xx hk Y G X g.ab g.eb g.ea a d D);have Z:=K h;have o:=K g;have n:=K i;have u:=K k;have x:=K m;clear h Q W z g i O k m;go_enter_defers func62,ntmps62
 go_wp2_with fail
 refine p.out.mono ?_;rintro e w1 ⟨rfl,rfl⟩;go_wp2_with fail
 refine r.out.mono ?_;rintro e w2 ⟨rfl,V⟩;have HP:=K V;clear V;go_wp2_with fail
 refine SJ (f:=58) (args:=#[YV (some ⟨sb,0,N⟩),YV (some ⟨bl,0,N⟩)]) (by simp) (by simp [go_sem]) ?_;obtain ⟨A1,q1,a4,B,g1,g2,g3⟩:=o.out.line HP.out x.out;refine (B.yu (λl hl=>by have:=u.out l hl;omega) .returning (by omega)).mono ?_;rintro e u' w3 ⟨rfl,rfl,v3,C,g4,g5,g6⟩;exact ⟨_,RP rfl _ _ _,rfl,BM Z.out n.out g3 g1 g2 C g4 g5 g6⟩
theorem BL(h:fv E pp pb mb sb ch bl c w A q vr S xb vw v acc [] s)(u:∀t,s.tx=some t->t.body=N/\t.xd.length<=10)(a:QF)(b:Bool)(a5:a.length<=1048576)(R:b=F->eZ a)(Q:∀l∈(cf c s (di a b)).2,l.length<=1000)(a4:(cf c s (di a b)).2.flatten.length<=3000)(a6:acc.length<=1099511627776)(U:(cf c s (di a b)).1.wait=s.wait):Y8 Ys 62 #[YV (some ⟨sb,0,N⟩),YZ #[T (bs a),YW b],YV (some ⟨bl,0,N⟩)] w λe w'=>e=YX (YY #[])/\pd E A pp pb mb sb ch bl c q vr S vw v w (cf c s (di a b)).1 S xb (acc++(cf c s (di a b)).2.flatten) w':=by
 obtain ⟨i,M⟩:=QE (w.alloc (YU #[T (bs a),YW b] 120));have Y:=QG M;have X0:=QH M;obtain ⟨l0,l1⟩:=QM X0;have n:=h.below Y;obtain ⟨X,h1,d⟩:=n.xA.ex;have c8:i.cell? ⟨sb,8,N⟩=some X:=h1.cell 8;obtain ⟨m,hm⟩:=n.env.len
 have a0:H (Y8 Ys 106 #[X] i λe w'=>e=YX (YW F)/\i=w'):=K (by
  cases x:s.tx with
  | none=>
   rw [x] at d;have d:X=YV N:=d;subst d;exact Dh i
  | some t=>
   rw [x] at d;obtain ⟨tb,vt,vb,rfl,ha,hT,hO,V⟩:=d;rw [(u t x).1] at V;have V:vb=YV N:=V;subst V
   exact Hv tb i (Q3 hT.xp _))
 obtain ⟨px,a1⟩:∃p,X=YV p:=by
  cases x:s.tx with
  | none=>rw [x] at d;exact ⟨N,d⟩
  | some t=>rw [x] at d;obtain ⟨tb,vt,vb,e,_⟩:=d;exact ⟨_,e⟩
 subst a1;have j:=K (EA a b m i a5 R hm);have r:=FG a b
 have P:(di a b).name.length<=1048576:=by
  rcases r.name with e | e
  .rw [e];simp
  have:=oH e;omega
 have g:H (∀W:QI,Y6 i.heap.size i W->Y8 Ys 108 #[YV (some ⟨sb,0,N⟩),jR (di a b)] W (cz A pp pb sb ch vw W (cf c s (di a b)).1 (cf c s (di a b)).2)):=K (λW hb=>Ni (n.xA.below hb) (n.env.below hb) n.ea (di a b) r.verb P u);have HH:=K h;have Z:=K n;have y:=K Y;have C:=K Q;have D:=K U;obtain ⟨kx,G⟩:∃k,di a b=k:=⟨_,rfl⟩;rw [G] at j g C D a4 ⊢;simp only [jR] at j g;clear h h1 d n Y X0 Q U hm r P R u G;go_enter_defers func62,ntmps62
 go_wp2_with fail
 refine a0.out.mono ?_;rintro e w1 ⟨rfl,rfl⟩;go_wp2_with fail
 refine j.out.mono ?_;rintro e w2 ⟨rfl,o⟩;have z:=K o;have B:=K (g.out w2 o);clear o g;go_wp2_with fail
 refine B.out.mono ?_;rintro e w3 hP;have hr:=hP.ret;subst hr;have HP:=K hP;clear hP B;go_wp2_with fail
 refine SJ (f:=58) (args:=#[YV (some ⟨sb,0,N⟩),YV (some ⟨bl,0,N⟩)]) (by simp) (by simp [go_sem]) ?_;have d:=Z.out.below z.out;obtain ⟨A1,q1,a7,a2,g1,g2,g3⟩:=d.line (gE.step d.xx d.ab HP.out) D.out;refine (a2.yu (λl hl=>by have:=C.out l hl;omega) .returning (by omega)).mono ?_;rintro e u' w4 ⟨rfl,rfl,v4,a3,g4,g5,g6⟩;have O:Y6 w.heap.size w w2:=y.out.trans (z.out.mono y.out.size);exact ⟨_,RP rfl _ _ _,rfl,BM HH.out O g3 g1 g2 a3 g4 g5 g6⟩
end
structure iG(c:bF)(s:cj)(S:aa)(xb:QF):Prop where
 tx:∀t,s.tx=some t->Ao t/\(t.xd.length:Int)<=c.most
 time:S.time<=1000000000
 len:S.items.length<=xb.length
 xb:xb.length<=1048576
 wait:s.wait.length<=102
theorem iG.xo{c:bF}{s:cj}{a:aa}{b:QF}(h:iG c s a b):qd a b:=⟨h.time,by have:=h.len;have:=h.xb;omega,by have:=h.xb;omega⟩
theorem iG.none{c:bF}{s s':cj}{a:aa}{b:QF}(h:iG c s a b)(d:s'.tx=N)(f:s'.wait=s.wait):iG c s' a b:=⟨(λt e=>by rw [d] at e;cases e),h.time,h.len,h.xb,by rw [f];exact h.wait⟩
theorem iG.same{c:bF}{s b:cj}{a:aa}{d:QF}(h:iG c s a d)(f:b.tx=s.tx)(g:b.wait=s.wait):iG c b a d:=⟨λt e=>h.tx t (by rw [<-f];exact e),h.time,h.len,h.xb,by rw [g];exact h.wait⟩
def tq(ls:List QF):Prop:=(∀l∈ls,l.length<=1000)/\ls.flatten.length<=3000
theorem cQ{l:QF}(h:l.length<=1000):tq [l]:=⟨λx a=>by simp at a;rw [a];exact h,by simp;omega⟩
theorem Lx:tq []:=⟨(λx a=>by cases a),by simp⟩
theorem mQ{n:Int}(a:0<=n)(h:n<=4294967295):(Lib.itoa n).length<=10:=by
 unfold Lib.itoa;rw [if_neg (by omega)];exact mu _ 9 (by omega)
theorem oG{c:bF}(h:dk c=YT):(cX c).length<=255:=by
 have:=(gI h).host;have e:=aj (cX c);rw [nh] at e;omega
theorem IA{l:List QF}{x:QF}(h:l.Nodup)(d:l.contains x=F):(l++[x]).Nodup:=by
 rw [List.nodup_append];refine ⟨h,by simp,λa f b c e=>?_⟩
 simp at c;subst c;subst e;have:=List.contains_iff_mem.2 f;rw [this] at d
 cases d
theorem IL(d:List QF)(a:Int)(c:Bool)(b:QF):tq [gR d a c b]:=by
 apply cQ;unfold gR
 split
 .decide
 split
 .decide
 split <;> decide
theorem Pf{t:qN}{c:Int}(m:c<=10)(f:Bool){a:QF}(h:Ao t)(i:(t.xd.length:Int)<=c)(k:cm a=YT)(g:t.body=N):Ao {t with xd:=iE t.xd c f a}/\((iE t.xd c f a).length:Int)<=c:=by
 unfold iE
 split
 .exact ⟨⟨h.xk,h.xd,h.one,h.most,λb e=>by rw [show ({t with xd:=t.xd}:qN).body=t.body from rfl,g] at e;cases e⟩,i⟩
 rename_i j
 split
 .exact ⟨⟨h.xk,h.xd,h.one,h.most,λb e=>by rw [show ({t with xd:=t.xd}:qN).body=t.body from rfl,g] at e;cases e⟩,i⟩
 rename_i l
 split
 .refine ⟨⟨h.xk,λx d=>?_,IA h.one (by simpa using j),?_,λb e=>by rw [show ({t with xd:=t.xd++[a]}:qN).body=t.body from rfl,g] at e;cases e⟩,?_⟩
  .have d:x∈t.xd++[a]:=d;rw [List.mem_append] at d
   rcases d with d | d
   .exact h.xd x d
   simp at d;rw [d];exact k
  .show (t.xd++[a]).length<=10;rw [RI];simp only [RQ,RR];omega
  rw [RI];simp only [RQ,RR];omega
 exact ⟨⟨h.xk,h.xd,h.one,h.most,λb e=>by rw [show ({t with xd:=t.xd}:qN).body=t.body from rfl,g] at e;cases e⟩,i⟩
theorem Lb{c:bF}{s:cj}{a:aa}{o:QF}(w:dk c=YT)(h:iG c s a o)(k:mX)(p:Jn k)(r:∀t,s.tx=S t->t.body=N):iG c (cf c s k).1 a o/\(cf c s k).1.wait=s.wait/\tq (cf c s k).2:=by
 have E:=gH w;have C:=oG w;have D:=mQ (n:=c.size) (by omega) (by omega);obtain ⟨v,f,g,d⟩:=k;have u:v=0\/v=1\/v=2\/v=3\/v=4\/v=5\/v=6\/v=7\/v=8\/v=9\/v=10:=by have:=p.verb;simp only at this;omega
 unfold cf;simp only
 cases i:dy s v
 case false=>exact ⟨h,rfl,cQ (by decide)⟩
 simp only [VU,if_false]
 rcases u with rfl | rfl | rfl | rfl | rfl | rfl | rfl | rfl | rfl | rfl | rfl
 .exact ⟨h,rfl,cQ (by decide)⟩
 .exact ⟨h,rfl,cQ (by decide)⟩
 .exact ⟨h.same rfl rfl,rfl,cQ (by decide)⟩
 .exact ⟨h,rfl,cQ (by decide)⟩
 .exact ⟨h.none rfl rfl,rfl,cQ (by decide)⟩
 .cases j:s.tx with
  | none=>rw [show dy s 5=F by unfold dy gV;rw [j];rfl] at i;cases i
  | some t=>
   obtain ⟨m,q⟩:=h.tx t j
   have z:0 < t.xd.length:=by
    unfold dy gV at i;rw [j] at i;simp at i;exact i.1
   refine ⟨⟨λB e=>?_,h.time,h.len,h.xb,h.wait⟩,rfl,cQ (by decide)⟩;injection e with e;subst e;exact ⟨⟨m.xk,m.xd,m.one,m.most,λb e=>by injection e with e;subst e;exact ⟨z,by simp⟩⟩,q⟩
 .exact ⟨h.none rfl rfl,rfl,cQ (by simp only [RI,RQ,RR];omega)⟩
 .refine ⟨h.none rfl rfl,rfl,λl y=>?_,?_⟩
  .simp only [List.mem_cons,List.not_mem_nil,or_false] at y
   rcases y with rfl | rfl | rfl
   .simp only [RI,RQ,RR];omega
   .simp only [RI,RQ,RR];omega
   decide
  simp only [List.flatten_cons,List.flatten_nil,RI,RQ,RR];omega
 .change iG c (rq c s d).1 a o/\(rq c s d).1.wait=s.wait/\tq (rq c s d).2;unfold rq
  split
  .exact ⟨h,rfl,cQ (by decide)⟩
  split
  .exact ⟨h.same rfl rfl,rfl,cQ (by decide)⟩
  exact ⟨h,rfl,cQ (by decide)⟩
 .change iG c (nC c s f (g:Int)).1 a o/\(nC c s f (g:Int)).1.wait=s.wait/\tq (nC c s f (g:Int)).2;unfold nC
  split
  .exact ⟨h,rfl,cQ (by decide)⟩
  split
  .exact ⟨h,rfl,cQ (by decide)⟩
  refine ⟨⟨λt e=>?_,h.time,h.len,h.xb,h.wait⟩,rfl,cQ (by decide)⟩;injection e with e;subst e;exact ⟨⟨p.name,(λx A=>by cases A),List.nodup_nil,QS _,(λb e=>by cases e)⟩,by show (0:Int)<=_;omega⟩
 cases j:s.tx with
 | none=>rw [show dy s 10=F by unfold dy gV;rw [j];rfl] at i;cases i
 | some t=>
  obtain ⟨m,q⟩:=h.tx t j;refine ⟨⟨λB e=>?_,h.time,h.len,h.xb,h.wait⟩,rfl,IL _ _ _ _⟩;injection e with e;subst e;exact Pf (by omega) _ m q (p.yQ rfl) (r t j)
theorem Om{b:dm}{a:QF}{d:Bool}{c:Int}(h:b.text.length<=1102)(f:c<=1000)(g:a.length<=100):(b.add a d c).text.length<=1102:=by
 unfold dm.add;have:=qH a
 split
 .exact h
 rename_i e
 show ((if b.has then b.text++[13,10] else b.text)++dC a).length<=1102;rw [RI]
 split
 .rw [RI];simp only [RQ,RR];omega
 omega
theorem wq(l:QF):(bJ l).length=8+l.length:=by unfold bJ;simp only [RI,aY];omega
theorem Hw{c:bF}{s:cj}{a:aa}{g:QF}(u:dk c=YT)(h:iG c s a g){t:qN}(w:s.tx=S t){b:dm}(r:t.body=S b)(d:QF)(f:Bool)(o:d.length<=100):iG c (fc c s a g t b d f).1 (fc c s a g t b d f).2.1 (fc c s a g t b d f).2.2.1/\(fc c s a g t b d f).1.wait=s.wait/\tq (fc c s a g t b d f).2.2.2:=by
 have z:=gH u;obtain ⟨l,v⟩:=h.tx t w;have i:=(l.body b r);unfold fc
 split
 .unfold rh
  split
  .exact ⟨h.none rfl rfl,rfl,cQ (by decide)⟩
  split
  .exact ⟨h.none rfl rfl,rfl,cQ (by decide)⟩
  split
  .rename_i k
   have m:((g.length+(8+(bT (xz a t.xk t.xd b.text)).length):Nat):Int)<=c.room:=by
    unfold tH at k;simp only [Rm,decide_eq_false_iff_not] at k;omega
   have j:=wq (bT (xz a t.xk t.xd b.text));have p:=h.len;have q:=h.xb;refine ⟨⟨(λx e=>by cases e),h.time,?_,?_,h.wait⟩,rfl,cQ ?_⟩
   .show (a.plus _).items.length<=(g++bJ _).length;rw [j0,RI,j];omega
   .show (g++bJ _).length<=1048576;rw [RI,j];omega
   have:=mQ (n:=(a.items.length:Int)+1) (by omega) (by omega);simp only [RI,RQ,RR];omega
  exact ⟨h.none rfl rfl,rfl,cQ (by decide)⟩
 refine ⟨⟨λx e=>?_,h.time,h.len,h.xb,h.wait⟩,rfl,Lx⟩;injection e with e;subst e;exact ⟨⟨l.xk,l.xd,l.one,l.most,λy e=>by injection e with e;subst e;exact ⟨i.1,Om i.2 (by omega) o⟩⟩,v⟩
theorem nt{c:bF}{s:cj}{a:aa}{g:QF}(n:dk c=YT)(h:iG c s a g)(d:QF)(f:Bool)(m:d.length<=100):iG c (bH c s a g d f).1 (bH c s a g d f).2.1 (bH c s a g d f).2.2.1/\(bH c s a g d f).1.wait=s.wait/\tq (bH c s a g d f).2.2.2:=by
 have j:(∀t,s.tx=S t->t.body=N)->_:=λl=>Lb n h (di d f) (FG d f) l
 cases i:s.tx with
 | none=>
  have e:bH c s a g d f=((cf c s (di d f)).1,a,g,(cf c s (di d f)).2):=by unfold bH;rw [i]
  rw [e];exact j (λt e=>by rw [i] at e;cases e)
 | some t=>
  cases k:t.body with
  | none=>
   have e:bH c s a g d f=((cf c s (di d f)).1,a,g,(cf c s (di d f)).2):=by unfold bH;rw [i];simp only;rw [k]
   rw [e];exact j (λo e=>by rw [i] at e;injection e with e;subst e;exact k)
  | some b=>
   have e:bH c s a g d f=fc c s a g t b d f:=by unfold bH;rw [i];simp only;rw [k]
   rw [e];exact Hw n h i k d f m
theorem Fh(l:QF):(bu l).1.length<=100/\((bu l).2=F->eZ (bu l).1):=by
 unfold bu
 split
 .exact ⟨by simp,λe=>by cases e⟩
 rename_i h
 simp only [Ty,decide_eq_true_eq,List.any_eq_true,not_or,not_exists,not_and] at h;refine ⟨by show l.length<=100;omega,λ_ x a=>?_⟩
 have:=h.2 x a;unfold lf at this;simp only [Ty,decide_eq_true_eq,not_or] at this;omega
section
variable {E:Nat->Prop} {pp pb mb sb ch bl:Nat} {c:bF} {w:QI} {A:Nat->Prop} {q:Nat->Nat} {vr:QJ} {S:aa} {xb:QF} {vw v:QJ} {acc:QF} {ls:List QF} {s:cj}
theorem Kx(h:fv E pp pb mb sb ch bl c w A q vr S xb vw v acc [] s)(m:iG c s S xb)(a:QF)(d:Bool)(n:a.length<=100)(k:d=F->eZ a)(i:acc.length<=1099511627776):Y8 Ys 62 #[YV (some ⟨sb,0,N⟩),YZ #[T (bs a),YW d],YV (some ⟨bl,0,N⟩)] w λe o=>e=YX (YY #[])/\pd E A pp pb mb sb ch bl c q vr S vw v w (bH c s S xb a d).1 (bH c s S xb a d).2.1 (bH c s S xb a d).2.2.1 (acc++(bH c s S xb a d).2.2.2.flatten) o:=by
 obtain ⟨_,j,f⟩:=nt h.env.may m a d n
 cases g:s.tx with
 | none=>
  have e:bH c s S xb a d=((cf c s (di a d)).1,S,xb,(cf c s (di a d)).2):=by unfold bH;rw [g]
  rw [e] at j f ⊢;exact BL h (λt e=>by rw [g] at e;cases e) a d (by omega) k f.1 f.2 i j
 | some t=>
  cases l:t.body with
  | none=>
   have e:bH c s S xb a d=((cf c s (di a d)).1,S,xb,(cf c s (di a d)).2):=by unfold bH;rw [g];simp only;rw [l]
   rw [e] at j f ⊢;exact BL h (λp e=>by rw [g] at e;injection e with e;subst e;exact ⟨l,(m.tx t g).1.most⟩) a d (by omega) k f.1 f.2 i j
  | some b=>
   have e:bH c s S xb a d=fc c s S xb t b a d:=by unfold bH;rw [g];simp only;rw [l]
   rw [e] at j f ⊢;exact Hx h m.xo g (m.tx t g).1 l a d (by omega) f.1 f.2 i j
end
def ia(c:bF)(x:cj×aa×QF×QF)(b:UInt8):cj×aa×QF×QF:=
 if x.1.over then x else
 match lW x.1.wait b with
 | (wt,N)=>({x.1 with wait:=wt},x.2.1,x.2.2.1,x.2.2.2)
 | (wt,some l)=>((bH c {x.1 with wait:=wt} x.2.1 x.2.2.1 l.1 l.2).1,(bH c {x.1 with wait:=wt} x.2.1 x.2.2.1 l.1 l.2).2.1,(bH c {x.1 with wait:=wt} x.2.1 x.2.2.1 l.1 l.2).2.2.1,x.2.2.2++(bH c {x.1 with wait:=wt} x.2.1 x.2.2.1 l.1 l.2).2.2.2.flatten)
def dx(c:bF)(x:cj×aa×QF×QF)(piece:QF):cj×aa×QF×QF:=piece.foldl (ia c) x
theorem sc(a:QF)(b:UInt8):(lW a b).1.length<=102/\∀l,(lW a b).2=some l->l.1.length<=100/\(l.2=F->eZ l.1):=by
 unfold lW
 split
 .refine ⟨by simp,λl e=>?_⟩
  injection e with e;rw [<-e];exact Fh _
 exact ⟨zV _,λl e=>by cases e⟩
theorem Co{c:bF}(f:dk c=YT){x:cj×aa×QF×QF}(h:iG c x.1 x.2.1 x.2.2.1)(b:UInt8):iG c (ia c x b).1 (ia c x b).2.1 (ia c x b).2.2.1/\(ia c x b).2.2.2.length<=x.2.2.2.length+3000:=by
 unfold ia
 split
 .exact ⟨h,by omega⟩
 have a:=sc x.1.wait b
 rcases hx:lW x.1.wait b with ⟨e,o⟩;rw [hx] at a;have d:iG c {x.1 with wait:=e} x.2.1 x.2.2.1:=⟨h.tx,h.time,h.len,h.xb,a.1⟩
 cases o with
 | none=>exact ⟨d,Nat.le_add_right _ _⟩
 | some l=>
  obtain ⟨g,_,i⟩:=nt f d l.1 l.2 (a.2 l rfl).1;refine ⟨g,?_⟩;show (x.2.2.2++(bH c {x.1 with wait:=e} x.2.1 x.2.2.1 l.1 l.2).2.2.2.flatten).length<=_;rw [RI];exact Nat.add_le_add_left i.2 _
theorem sQ{c:bF}(d:dk c=YT):∀(a:QF) (x:cj×aa×QF×QF),iG c x.1 x.2.1 x.2.2.1->iG c (dx c x a).1 (dx c x a).2.1 (dx c x a).2.2.1/\(dx c x a).2.2.2.length<=x.2.2.2.length+3000 * a.length
 | [],x,h=>⟨h,by show x.2.2.2.length<=_;omega⟩
 | b::r,x,h=>by
  obtain ⟨e,g⟩:=Co d h b;obtain ⟨f,i⟩:=sQ d r (ia c x b) e;refine ⟨f,?_⟩;show (dx c (ia c x b) r).2.2.2.length<=_;rw [RQ];omega
theorem wB{c:bF}{x:cj×aa×QF×QF}(h:x.1.over=YT):∀a,dx c x a=x
 | []=>rfl
 | b::r=>by
  show dx c (ia c x b) r=x;have:ia c x b=x:=by unfold ia;rw [h];rfl
  rw [this];exact wB h r
theorem Hy(c:bF)(x:cj×aa×QF×QF)(a:QF)(k:Nat)(h:k < a.length):dx c x (a.take (k+1))=ia c (dx c x (a.take k)) a[k]:=by
 unfold dx;rw [List.take_succ_eq_append_getElem h,UP];rfl
structure Eh(E:Nat->Prop)(pp pb mb sb ch:Nat)(c:bF)(w:QI)(A:Nat->Prop)(q:Nat->Nat)(vr:QJ)(S:aa)(xb:QF)(vw:QJ)(s:cj):Prop where
 env:gq E w pp c
 xA:cq w A pp pb sb ch vw [] s
 row:mY w vw s.wait
 xx:lA w pb mb q vr S xb
 ea:∀k,E k->¬A k
 eb:∀k,E k->¬aH w pb mb q vr S k
 ab:∀k,A k->¬aH w pb mb q vr S k
 wd:∀g,vw.ownBlock=some g->¬E g/\¬A g/\¬aH w pb mb q vr S g
def AO(w:QI)(pb mb:Nat)(A:Nat->Prop)(q:Nat->Nat)(vr:QJ)(S:aa)(vw:QJ)(k:Nat):Prop:=A k\/aH w pb mb q vr S k\/vw.ownBlock=some k
def vo(E A:Nat->Prop)(pp pb mb sb ch:Nat)(c:bF)(q:Nat->Nat)(vr:QJ)(S:aa)(vw:QJ)(w:QI)(s':cj)(S':aa)(recs':QF)(w':QI):Prop:=
 ∃A' q' vr' vw',Eh E pp pb mb sb ch c w' A' q' vr' S' recs' vw' s'/\(∀k,AO w' pb mb A' q' vr' S' vw' k->AO w pb mb A q vr S vw k\/w.heap.size<=k)/\aC (AO w pb mb A q vr S vw) w w'
def jL(E:Nat->Prop)(pp pb mb sb ch:Nat)(c:bF)(R:Nat->Prop)(w:QI)(x:cj×aa×QF×QF)(wr:QI):Prop:=
 ∃A q vr vw v,fv E pp pb mb sb ch w.heap.size c wr A q vr x.2.1 x.2.2.1 vw v x.2.2.2 [] x.1/\(∀k,wA wr pb mb w.heap.size A q vr x.2.1 vw v k->R k\/w.heap.size<=k)/\aC R w wr/\iG c x.1 x.2.1 x.2.2.1
section
variable {E R:Nat->Prop} {pp pb mb sb ch:Nat} {c:bF} {w wr w':QI} {A:Nat->Prop} {q:Nat->Nat} {vr:QJ} {S:aa} {xb:QF} {vw:QJ} {s:cj} {x:cj×aa×QF×QF}
theorem BK{a:Nat}{v:QJ}(b:∀k,aH w' pb mb q vr S k->aH wr pb mb q vr S k){k:Nat}(h:wA w' pb mb a A q vr S vw v k):wA wr pb mb a A q vr S vw v k:=by
 rcases h with h | h | h
 .exact Y4 h
 .exact Y5 (Y4 (b k h))
 exact Y5 (Y5 h)
theorem jL.over(h:jL E pp pb mb sb ch c R w x wr):wr.cell? ⟨sb,7,N⟩=some (YW x.1.over):=by
 obtain ⟨A,q,vr,vw,v,b,e,f,g⟩:=h;obtain ⟨i,a,d⟩:=b.xA.ex;exact a.cell 7
theorem jL.start(h:Eh E pp pb mb sb ch c w A q vr S xb vw s)(p:iG c s S xb):jL E pp pb mb sb ch c (AO w pb mb A q vr S vw) w (s,S,xb,[]) (w.alloc (YU #[YV N,L N 0 0] 115)):=by
 have b:Y6 w.heap.size w (w.alloc (YU #[YV N,L N 0 0] 115)):=(QQ _ _).alloc (QR _) _;have i:=Q0 w (YU #[YV N,L N 0 0] 115);obtain ⟨W,n⟩:=QE (w.alloc (YU #[YV N,L N 0 0] 115));rw [n] at b i ⊢;have a:∀k,aH W pb mb q vr S k->aH w pb mb q vr S k:=λk e=>e.imp (λe=>fp h.xx.xN b e) id;obtain ⟨j,_⟩:=h.xx.xt (aC.below b:aC (λ_=>False) w W) (λ_ _ e=>e);have f:∀k,aH w pb mb q vr S k->k < w.heap.size:=λk e=>aH.lt h.xx e;refine ⟨A,q,vr,vw,L N 0 0,⟨h.env.below b,h.xA.below b,bG h.row (aC.below b:aC (λ_=>False) w W) (λ_ _ e=>e),j,⟨⟨N,Y4 rfl,i⟩,⟨rfl,Y4 ⟨rfl,rfl⟩⟩,(by intro e;cases e)⟩,h.ea,λk e y=>h.eb k e (a k y),λk e y=>h.ab k e (a k y),?_,?_,(by intro g e;cases e)⟩,?_,aC.below b,p⟩
 .intro g d;obtain ⟨l,m⟩:=br h.row d;have:=aq m;exact ⟨(h.wd g d).1,(h.wd g d).2.1,λy=>(h.wd g d).2.2 (a g y),by omega,(by intro e;cases e)⟩
 .exact ⟨λy=>by have:=h.env.lt _ y;omega,λy=>by have:=h.xA.lt _ y;omega,λy=>by have:=f _ (a _ y);omega⟩
 intro k o
 rcases o with e | e | e | e | e
 .exact Y4 (Y4 e)
 .exact Y4 (Y5 (Y4 (a k e)))
 .exact Y5 (Nat.le_of_eq e.symm)
 .cases e
 exact Y4 (Y5 (Y5 e))
theorem fv.xt{B:Nat->Prop}{j:Nat}{v:QJ}{d:QF}{l:List QF}(h:fv E pp pb mb sb ch j c w A q vr S xb vw v d l s)(i:aC B w w')(n:∀k,E k->¬B k)(f:∀k,wA w pb mb j A q vr S vw v k->¬B k):fv E pp pb mb sb ch j c w' A q vr S xb vw v d l s/\∀k,aH w' pb mb q vr S k->aH w pb mb q vr S k:=by
 obtain ⟨m,b⟩:=h.xx.xt i (λk e=>f k (Y5 (Y4 e)));exact ⟨⟨h.env.xt i n,h.xA.xt i (λk e=>f k (Y4 e)),bG h.row i (λg e=>f g (Y5 (Y5 (Y5 (Y5 e))))),m,lj h.yE i (f j (Y5 (Y5 (Y4 rfl)))) (λg e=>f g (Y5 (Y5 (Y5 (Y4 e))))),h.ea,λk e x=>h.eb k e (b k x),λk e x=>h.ab k e (b k x),λg a=>⟨(h.wd g a).1,(h.wd g a).2.1,λx=>(h.wd g a).2.2.1 (b g x),(h.wd g a).2.2.2⟩,⟨h.ld.1,h.ld.2.1,λx=>h.ld.2.2 (b _ x)⟩,λg a=>⟨(h.vd g a).1,(h.vd g a).2.1,λx=>(h.vd g a).2.2 (b g x)⟩⟩,b⟩
theorem jL.take{W:QI}(h:jL E pp pb mb sb ch c R w x wr)(t:Y6 wr.heap.size wr W)(b:UInt8):Y8 Ys 61 #[YV (some ⟨sb,2,N⟩),I .u8 (b.toNat:Int)] W λe w'=>e=YX (vf (lW x.1.wait b).2)/\(∀i,aC (λk=>wr.heap.size<=k/\k < W.heap.size) w' i->jL E pp pb mb sb ch c R w ({x.1 with wait:=(lW x.1.wait b).1},x.2) i)/\W.heap.size<=w'.heap.size/\∀(k:Nat) (C:Array QJ) (z:Nat×Nat),W.heap[k]? =some (YU C 120 z)->w'.heap[k]? =some (YU C 120 z):=by
 obtain ⟨A,q,vr,vw,v,a,X,D,l⟩:=h;have m:=a.below t;have f:∀k,aH W pb mb q vr x.2.1 k->aH wr pb mb q vr x.2.1 k:=λk e=>e.imp (λe=>fp a.xx.xN t e) id;have d:∀k,wA W pb mb w.heap.size A q vr x.2.1 vw v k->R k\/w.heap.size<=k:=λk g=>X k (BK f g);have j:aC R w W:=D.trans (aC.below t) (λ_ _ e=>e);obtain ⟨vx,o,O⟩:=m.xA.ex;refine (NX sb (iR pp pb ch vw vx x.1) vw x.1.wait b W ⟨o.xp,o.size,rfl,m.row⟩ l.wait m.env.yT (λe=>?_) (λe=>?_)).mono ?_
 .rcases e with e | e
  .exact a.ea _ a.env.yq (by rw [e];exact a.xA.xP)
  exact (a.wd _ e).1 a.env.yq
 .rcases e with e | e
  .exact a.ea _ a.env.xD (by rw [e];exact a.xA.xP)
  exact (a.wd _ e).1 a.env.xD
 rintro e w1 ⟨rfl,Y⟩;obtain ⟨n,P,p,u,B⟩:=m.cut rfl o O Y
 have r:∀k,wA w1 pb mb w.heap.size A q vr x.2.1 n v k->¬(wr.heap.size<=k/\k < W.heap.size):=λk g=>by
  rcases g with e | e | e | e | e
  .have:=a.xA.lt k e;omega
  .have:=aH.lt a.xx (f k (B k e));omega
  .have:=a.yJ;omega
  .have:=a.zk e;omega
  rcases u k e with e | e
  .have:=a.yr e;omega
  omega
 refine ⟨rfl,λi M=>?_,p.size,λk C z e=>p.some_ e (λy=>?_)⟩
 .obtain ⟨U,V⟩:=P.xt M (λk e=>by have:=a.env.lt k e;omega) r;refine ⟨A,q,vr,n,v,U,λk g=>?_,(j.trans p (λk g e=>?_)).trans M (λk g e=>?_),⟨l.tx,l.time,l.len,l.xb,(sc _ _).1⟩⟩
  .rcases g with e | e | e | e | e
   .exact d k (Y4 e)
   .exact d k (Y5 (Y4 (B k (V k e))))
   .exact d k (Y5 (Y5 (Y4 e)))
   .exact d k (Y5 (Y5 (Y5 (Y4 e))))
   rcases u k e with e | e
   .exact d k (Y5 (Y5 (Y5 (Y5 e))))
   exact Y5 (Rn j.size e)
  .have Z:wA W pb mb w.heap.size A q vr x.2.1 vw v k:=by
    rcases e with e | e
    .exact Y4 (by rw [e];exact a.xA.xP)
    exact Y5 (Y5 (Y5 (Y5 e)))
   exact (d k Z).elim id (λe=>by omega)
  have:=D.size;omega
 rcases y with y | y
 .rw [y,o.xp] at e;simp at e
 obtain ⟨Q,G⟩:=br m.row y;rw [e] at G;simp at G
theorem Jt{d:QI}{bx b a:Nat}{x y:QJ}(h:b<=bx/\bx < a):aC (λk=>b<=k/\k < a) d ((d.setCell ⟨bx,0,N⟩ x).setCell ⟨bx,1,N⟩ y):=(aC.same (((aA.refl _ _).setCell _).setCell _)).mono (λk _ e=>by rw [e];exact h)
theorem jL.line(h:jL E pp pb mb sb ch c R w x wr)(l:QF×Bool)(b:l.1.length<=100/\(l.2=F->eZ l.1))(a:x.2.2.2.length<=1099511627776):Y8 Ys 62 #[YV (some ⟨sb,0,N⟩),YZ #[T (bs l.1),YW l.2],YV (some ⟨w.heap.size,0,N⟩)] wr λe w'=>e=YX (YY #[])/\jL E pp pb mb sb ch c R w ((bH c x.1 x.2.1 x.2.2.1 l.1 l.2).1,(bH c x.1 x.2.1 x.2.2.1 l.1 l.2).2.1,(bH c x.1 x.2.1 x.2.2.1 l.1 l.2).2.2.1,x.2.2.2++(bH c x.1 x.2.1 x.2.2.1 l.1 l.2).2.2.2.flatten) w':=by
 obtain ⟨A,q,vr,vw,v,g,i,j,m⟩:=h;refine (Kx g m l.1 l.2 b.1 b.2 a).mono ?_;rintro e B ⟨rfl,o,y,d,f,z,r,t,u⟩;obtain ⟨p,_,_⟩:=nt g.env.may m l.1 l.2 b.1;refine ⟨rfl,o,y,d,f,z,r,λk n=>(t k n).elim (i k) (λe=>Y5 (Rn j.size e)),j.trans u (λk n e=>(i k e).elim id (λe=>by omega)),p⟩
theorem jL.done(_:Eh E pp pb mb sb ch c w A q vr S xb vw s)(u:jL E pp pb mb sb ch c (AO w pb mb A q vr S vw) w x wr):Y8 Ys 59 #[YV (some ⟨w.heap.size,0,N⟩)] wr λe w'=>e=YX (T (bs x.2.2.2))/\vo E A pp pb mb sb ch c q vr S vw w x.1 x.2.1 x.2.2.1 w':=by
 obtain ⟨o,m,f,j,n,a,i,t,v⟩:=u;refine (nP 0 w.heap.size n x.2.2.2 wr a.yE).mono ?_;rintro e z ⟨rfl,b⟩;have r:∀k,aH wr pb mb m f x.2.1 k->¬n.ownBlock=some k:=λk e y=>(a.vd k y).2.2 e;obtain ⟨p,h⟩:=a.xx.xt b r;refine ⟨rfl,o,m,f,j,⟨a.env.xt b (λk e y=>(a.vd k y).1 e),a.xA.xt b (λk e y=>(a.vd k y).2.1 e),bG a.row b (λg d y=>(a.wd g d).2.2.2.2 y),p,a.ea,λk e y=>a.eb k e (h k y),λk e y=>a.ab k e (h k y),λg d=>⟨(a.wd g d).1,(a.wd g d).2.1,λy=>(a.wd g d).2.2.1 (h g y)⟩⟩,λk l=>?_,t.trans b (λk l e=>?_)⟩
 .rcases l with e | e | e
  .exact i k (Y4 e)
  .exact i k (Y5 (Y4 (h k e)))
  exact i k (Y5 (Y5 (Y5 (Y5 e))))
 exact (i k (Y5 (Y5 (Y5 (Y4 e))))).elim id (λe=>by omega)
theorem MA(h:Eh E pp pb mb sb ch c w A q vr S xb vw s)(hp:iG c s S xb)(a:QF)(hl:a.length<=1048576):Y8 Ys 24 #[YV (some ⟨sb,0,N⟩),T (bs a)] w λe w'=>e=YX (T (bs (dx c (s,S,xb,[]) a).2.2.2))/\vo E A pp pb mb sb ch c q vr S vw w (dx c (s,S,xb,[]) a).1 (dx c (s,S,xb,[]) a).2.1 (dx c (s,S,xb,[]) a).2.2.1 w':=by
 have a6:=aj a;have HH:=K h;have HS:=K (jL.start h hp);obtain ⟨W0,a4⟩:=QE (w.alloc (YU #[YV N,L N 0 0] 115));rw [a4] at HS
 have a3:H (∀k,(dx c (s,S,xb,[]) (a.take k)).2.2.2.length<=1099511627776):=K (λk=>by
  have:=(sQ h.env.may (a.take k) (s,S,xb,[]) hp).2;have h2:(a.take k).length<=a.length:=by rw [Sm];omega
  have h3:([]:QF).length=0:=rfl;simp only at this
  omega)
 clear h hp;go_enter func24,ntmps24;go_wp2_with fail
 go_loopw [6,7,8,11] (λ_ _ _ i w'=>∃k:Nat,k<=a.length/\i=I J k/\H (jL E pp pb mb sb ch c (AO w pb mb A q vr S vw) w (dx c (s,S,xb,[]) (a.take k)) w')) (λ_ _ _ i _=>a.length - (Y9 i).toNat)
 case atStart=>exact ⟨0,QS _,rfl,HS⟩
 case round=>
  clear HS;obtain ⟨k,D,rfl,U⟩:=hrel;have ho:=U.out.over;obtain ⟨x,ex⟩:=QE (dx c (s,S,xb,[]) (a.take k));rw [ex] at U ho;have G:=K ex;clear ex
  by_cases a5:k < a.length
  case neg=>
   have t:H (dx c (s,S,xb,[]) a=x):=K (by rw [<-G.out,List.take_of_length_le (by omega)]);have HD:=K (jL.done HH.out U.out);go_wp2_with fail
   refine HD.out.mono ?_;rintro e d ⟨rfl,f⟩;have u:=K f;clear f;go_wp2_with fail
   go_ret;rw [t.out];exact ⟨rfl,u.out⟩
  case pos=>
   obtain ⟨ov,eo⟩:∃b,x.1.over=b:=⟨_,rfl⟩;rw [eo] at ho;have Q:=K eo;clear eo
   cases ov
   case true=>
    have t:H (dx c (s,S,xb,[]) a=x):=K (by
     have e1:dx c (s,S,xb,[]) a=dx c x (a.drop k):=by
      rw [<-G.out];unfold dx;rw [<-UP,List.take_append_drop]
     rw [e1]
     exact wB Q.out _)
    have HD:=K (jL.done HH.out U.out);go_wp2_with fail
    refine HD.out.mono ?_;rintro e d ⟨rfl,f⟩;have u:=K f;clear f;go_wp2_with fail
    go_ret;rw [t.out];exact ⟨rfl,u.out⟩
   obtain ⟨b,eb⟩:=QE (a[k]);have a2:=ot a k (by omega);rw [eb] at a2;have M:H (dx c (s,S,xb,[]) (a.take (k+1))=ia c x b):=K (by rw [Hy c _ a k a5,G.out,eb]);have O:=K (sc x.1.wait b);have g:=K (U.out.take (W:=wr.drew) ((QQ _ _).drew) b);have m:=K (U.out.take (W:=(wr.alloc (YU #[T ⟨#[]⟩,YW F] 120)).drew) (((QQ _ _).alloc (QR _) _).drew) b);have Z:H ((wr.alloc (YU #[T ⟨#[]⟩,YW F] 120)).drew.heap[wr.heap.size]? =some (YU #[T ⟨#[]⟩,YW F] 120 (0,0))):=K (Q0 wr _);obtain ⟨y,ey⟩:=QE (lW x.1.wait b);have Y:=K ey;rw [ey] at O g m;clear ey eb;obtain ⟨wt,o⟩:=y
   cases o with
   | none=>
    have v:H (ia c x b=({x.1 with wait:=wt},x.2)):=K (by
     unfold ia;rw [Q.out,Y.out]
     rfl)
    simp only [vf] at O g m;go_wp2_with fail
    go_region_law (first
     | (go_simp;go_at_call 61;refine g.out.mono ?_;rintro e d ⟨rfl,f,hs,D⟩;have u:=K f;clear f D;dsimp only)
     | (go_simp;go_at_call 61;refine m.out.mono ?_;rintro e d ⟨rfl,f,hs,D⟩;have u:=K f;have z:=D _ _ _ Z.out;have q0:d.cell? ⟨wr.heap.size,0,N⟩=some (T ⟨#[]⟩):=(Q3 z _);have q1:d.cell? ⟨wr.heap.size,1,N⟩=some (YW F):=(Q3 z _);have qf:=λj=>RJ z j;have a0:=K z;clear f z D;dsimp only))
    .have r:=K (u.out _ (aC.below ((QQ _ d).alloc (QR _) (YU #[T ⟨#[]⟩,YW F] 120))));go_wp2_with fail
     exact ⟨⟨k+1,by omega,by go_num,K (by rw [M.out,v.out];exact r.out)⟩,by simp [Y9];omega⟩
    all_goals
     have r:=K (u.out _ (Jt (x:=T ⟨#[]⟩) (y:=YW F) (bx:=wr.heap.size) ⟨QR _,by simp⟩));go_wp2_with fail
     exact ⟨⟨k+1,by omega,by go_num,K (by rw [M.out,v.out];exact r.out)⟩,by simp [Y9];omega⟩
   | some l=>
    obtain ⟨p,n⟩:=l
    have v:H (ia c x b=((bH c {x.1 with wait:=wt} x.2.1 x.2.2.1 p n).1,(bH c {x.1 with wait:=wt} x.2.1 x.2.2.1 p n).2.1,(bH c {x.1 with wait:=wt} x.2.1 x.2.2.1 p n).2.2.1,x.2.2.2++(bH c {x.1 with wait:=wt} x.2.1 x.2.2.1 p n).2.2.2.flatten)):=K (by
     unfold ia;rw [Q.out,Y.out]
     rfl)
    have V:H (x.2.2.2.length<=1099511627776):=K (by have:=a3.out k;rw [G.out] at this;exact this);have X:=K (O.out.2 (p,n) rfl);simp only [vf] at O g m;go_wp2_with fail
    go_region_law (first
     | (go_simp;go_at_call 61;refine g.out.mono ?_;rintro e d ⟨rfl,f,hs,D⟩;have u:=K f;clear f D;dsimp only)
     | (go_simp;go_at_call 61;refine m.out.mono ?_;rintro e d ⟨rfl,f,hs,D⟩;have u:=K f;have z:=D _ _ _ Z.out;have q0:d.cell? ⟨wr.heap.size,0,N⟩=some (T ⟨#[]⟩):=(Q3 z _);have q1:d.cell? ⟨wr.heap.size,1,N⟩=some (YW F):=(Q3 z _);have qf:=λj=>RJ z j;have a0:=K z;clear f z D;dsimp only))
    .have a1:Y6 d.heap.size d (d.alloc (YU #[T (bs p),YW n] 120)):=(QQ _ d).alloc (QR _) _;have X9:=Q0 d (YU #[T (bs p),YW n] 120);have r:=u.out _ (aC.below a1);obtain ⟨W9,C⟩:∃W:QI,d.alloc (YU #[T (bs p),YW n] 120)=W:=⟨_,rfl⟩;rw [C] at r X9 ⊢;have c0:W9.cell? ⟨d.heap.size,0,N⟩=some (T (bs p)):=Q3 X9 _;have c1:W9.cell? ⟨d.heap.size,1,N⟩=some (YW n):=Q3 X9 _;have HC:=K (r.line (p,n) X.out V.out);clear a1 X9 r C g m;go_wp2_with fail
     refine HC.out.mono ?_;rintro e w2 ⟨rfl,B⟩;have P:=K B;clear B;go_wp2_with fail
     exact ⟨⟨k+1,by omega,by go_num,K (by rw [M.out,v.out];exact P.out)⟩,by simp [Y9];omega⟩
    all_goals
     have S9:aA wr.heap.size d ((d.setCell ⟨wr.heap.size,0,N⟩ (T (bs p))).setCell ⟨wr.heap.size,1,N⟩ (YW n)):=((aA.refl _ _).setCell _).setCell _;obtain ⟨c0,c1,_⟩:=sn (x:=T (bs p)) (y:=YW n) a0.out;have r:=u.out _ (Jt (x:=T (bs p)) (y:=YW n) (bx:=wr.heap.size) ⟨QR _,by simp⟩);obtain ⟨W9,C⟩:∃W:QI,(d.setCell ⟨wr.heap.size,0,N⟩ (T (bs p))).setCell ⟨wr.heap.size,1,N⟩ (YW n)=W:=⟨_,rfl⟩;rw [C] at r c0 c1 ⊢;have HC:=K (r.line (p,n) X.out V.out);clear S9 r C g m q0 q1 qf;go_wp2_with fail
     refine HC.out.mono ?_;rintro e w2 ⟨rfl,B⟩;have P:=K B;clear B;go_wp2_with fail
     exact ⟨⟨k+1,by omega,by go_num,K (by rw [M.out,v.out];exact P.out)⟩,by simp [Y9];omega⟩
end
def mM(k:Nat):Prop:=k=0\/k=6\/k=2\/k=3
structure gh(w:QI):Prop where
 len:∃n,w.cell? ⟨0,0,N⟩=some (I J n)
 pow:vu w
 yT:Lib.Utf8Tabs 2 3 w
theorem gh.lt{w:QI}(h:gh w){k:Nat}(a:mM k):k < w.heap.size:=by
 obtain ⟨n,b⟩:=h.len
 rcases a with rfl | rfl | rfl | rfl
 .exact au b
 .exact h.pow.lt
 .exact au (h.yT.1 0 (by decide))
 exact au (h.yT.2 0 (by decide)).1
theorem gh.xt{B:Nat->Prop}{w w':QI}(h:gh w)(b:aC B w w')(a:∀k,mM k->¬B k):gh w':=by
 obtain ⟨n,d⟩:=h.len;have e:=h.lt (k:=0) (Y4 rfl);refine ⟨⟨n,?_⟩,h.pow.xt b (a _ (Y5 (Y4 rfl))),GH h.yT b (a _ (Y5 (Y5 (Y4 rfl)))) (a _ (Y5 (Y5 (Y5 rfl))))⟩;rw [<-d];exact World.cell?_of_block (b.block _ e (a _ (Y4 rfl)))
theorem gh.below{w w':QI}(h:gh w)(a:Y6 w.heap.size w w'):gh w':=h.xt (aC.below a:aC (λ_=>False) w w') (λ_ _ e=>e)
structure fy(E:Nat->Prop)(pp pb mb:Nat)(c:bF)(w:QI)(q:Nat->Nat)(vr:QJ)(S:aa)(xb:QF)(vs:QJ)(ps:List QJ):Prop where
 set:∃vD vN vU vW,lE w pp c vD vN vU vW/\∀k,(vD.ownBlock=some k\/vN.ownBlock=some k\/vU.ownBlock=some k\/vW.ownBlock=some k)->E k/\k≠pp
 yf:gh w
 yn:∀k,mM k->E k
 yx:¬mM pp
 xI:E pp
 lt:∀k,E k->k < w.heap.size
 xp:∃C:Array QJ,w.heap[pp]? =some (YU C 66 (0,0))/\C.size=12/\C[9]? =some (YV (some ⟨pb,0,N⟩))/\C[10]? =some vs
 xx:lA w pb mb q vr S xb
 row:w.ownsRow 0 69 1 vs ps.length ps
 eb:∀k,E k->¬aH w pb mb q vr S k
 sd:∀g,vs.ownBlock=some g->¬E g/\¬aH w pb mb q vr S g
section
variable {E B:Nat->Prop} {pp pb mb:Nat} {c:bF} {w w':QI} {q:Nat->Nat} {vr:QJ} {S:aa} {xb:QF} {vs:QJ} {ps:List QJ}
theorem fy.env(h:fy E pp pb mb c w q vr S xb vs ps):gq E w pp c:=by
 obtain ⟨d,f,g,i,a,b⟩:=h.set;exact ⟨⟨d,f,g,i,a,λk e=>(b k e).1⟩,h.xI,h.yf.len,h.yn _ (Y4 rfl),h.yf.pow,h.yn _ (Y5 (Y4 rfl)),h.yf.yT,h.yn _ (Y5 (Y5 (Y4 rfl))),h.yn _ (Y5 (Y5 (Y5 rfl))),h.lt⟩
theorem lE.xt{f h i j:QJ}(a:lE w pp c f h i j)(b:aC B w w')(d:∀k,(f.ownBlock=some k\/h.ownBlock=some k\/i.ownBlock=some k\/j.ownBlock=some k)->¬B k)(n:¬B pp):lE w' pp c f h i j:=by
 obtain ⟨D,l,m⟩:=a.xp;exact ⟨⟨D,b.some_ l n,m⟩,⟨a.rows.1.xt b (λg e=>d g (Y4 e)),a.rows.2.1.xt b (λg e=>d g (Y5 (Y4 e))),a.rows.2.2.1.xt b (λg e=>d g (Y5 (Y5 (Y4 e)))),a.rows.2.2.2.xt b (λg e=>d g (Y5 (Y5 (Y5 e))))⟩,a.may⟩
theorem fy.xt(h:fy E pp pb mb c w q vr S xb vs ps)(a:aC B w w')(b:∀k,E k->¬B k)(n:∀k,aH w pb mb q vr S k->¬B k)(o:∀k,vs.ownBlock=some k->¬B k):fy E pp pb mb c w' q vr S xb vs ps/\∀k,aH w' pb mb q vr S k->aH w pb mb q vr S k:=by
 obtain ⟨p,r,s,t,j,f⟩:=h.set;obtain ⟨C,l,m⟩:=h.xp;obtain ⟨i,d⟩:=h.xx.xt a n;exact ⟨⟨⟨p,r,s,t,j.xt a (λk e=>b k (f k e).1) (b pp h.xI),f⟩,h.yf.xt a (λk e=>b k (h.yn k e)),h.yn,h.yx,h.xI,λk e=>SA (h.lt k e) a.size,⟨C,a.some_ l (b pp h.xI),m⟩,i,bG h.row a o,λk e x=>h.eb k e (d k x),λg e=>⟨(h.sd g e).1,λx=>(h.sd g e).2 (d g x)⟩⟩,d⟩
theorem fy.below(h:fy E pp pb mb c w q vr S xb vs ps)(a:Y6 w.heap.size w w'):fy E pp pb mb c w' q vr S xb vs ps/\∀k,aH w' pb mb q vr S k->aH w pb mb q vr S k:=
 h.xt (aC.below a:aC (λ_=>False) w w') (λ_ _ e=>e) (λ_ _ e=>e) (λ_ _ e=>e)
theorem fy.yo(h:fy E pp pb mb c w q vr S xb vs ps):w.cell? ⟨pp,9,N⟩=some (YV (some ⟨pb,0,N⟩)):=by
 obtain ⟨C,a,_,b,_⟩:=h.xp;rw [Q3 a];exact b
theorem fy.xJ(h:fy E pp pb mb c w q vr S xb vs ps):w.cell? ⟨pp,10,N⟩=some vs:=by
 obtain ⟨C,a,_,_,b⟩:=h.xp;rw [Q3 a];exact b
theorem fy.slt(h:fy E pp pb mb c w q vr S xb vs ps){g:Nat}(a:vs.ownBlock=some g):g < w.heap.size:=(iL h.row a).2
end
theorem Er{pb mb:Nat}{q:Nat->Nat}{vr:QJ}{S:aa}{xb:QF}{w:QI}(h:lA w pb mb q vr S xb):Y8 Ys 66 #[YV (some ⟨pb,0,N⟩)] w λe w'=>e=YX (T (bs xb))/\w=w':=by
 have b:w.cell? ⟨pb,0,N⟩=some vr:=Q3 h.xN.xx _;have a:=h.row.string;clear h;go_enter func66,ntmps66;go_wp2_with fail
 go_ret;exact ⟨rfl,rfl⟩
theorem MH{E:Nat->Prop}{pp pb mb:Nat}{c:bF}{w:QI}{q:Nat->Nat}{vr:QJ}{S:aa}{xb:QF}{vs:QJ}{ps:List QJ}(h:fy E pp pb mb c w q vr S xb vs ps):Y8 Ys 28 #[YV (some ⟨pp,0,N⟩)] w λe w'=>e=YX (YY #[T (bs xb),I J 0])/\w=w':=by
 have b:=h.yo;have a:=K (Er h.xx);clear h;go_enter func28,ntmps28;go_wp2_with fail
 refine a.out.mono ?_;rintro e w' ⟨rfl,rfl⟩;go_wp2_with fail
 go_ret2
 exact ⟨rfl,rfl⟩
theorem Lk{E:Nat->Prop}{pp pb mb:Nat}{c:bF}{w:QI}{q:Nat->Nat}{vr:QJ}{S:aa}{xb:QF}{vs:QJ}{ps:List QJ}(h:fy E pp pb mb c w q vr S xb vs ps)(b:S.Ok)(n:S.items.length<=1048576):Y8 Ys 30 #[YV (some ⟨pp,0,N⟩)] w λe w'=>∃v a,e=YX (YY #[v,I J 0])/\dK w.heap.size w' v a/\a.map (·.1)=iM S.items/\Y6 w.heap.size w w':=by
 have m:=h.yo;have k:=K (CI 0 pb mb q vr _ w h.xx.xN b (by omega));clear h b;go_enter func30,ntmps30;go_wp2_with fail
 refine k.out.mono ?_;rintro e w' ⟨v,a,rfl,g,f,d⟩;have l:=K g;have j:=K f;have i:=K d;clear g f d;go_wp2_with fail
 go_ret2
 exact ⟨v,a,rfl,l.out,j.out,i.out⟩
theorem Ln:bn []=(⟨[],0⟩,0):=by kernel_rfl
theorem lC.za{w:QI}{v:QJ}{l:QF}(h:lC w v l):eQ w v l:=by
 obtain ⟨g,a,b,z,e,k,_,c,d,f,i,j⟩:=h;exact Y5 ⟨g,a,b,z,e,k,Y5 c,d,f,i,j⟩
def Oi(c:bF)(w:QI)(e:Zb)(w':QI):Prop:=
 ∃E pp pb mb q vr,e=YX (YY #[YV (S ⟨pp,0,N⟩),I J 0])/\fy E pp pb mb c w' q vr ⟨[],0⟩ [] (L N 0 0) []/\(∀k,E k->mM k\/w.heap.size<=k)/\(∀k,aH w' pb mb q vr ⟨[],0⟩ k->w.heap.size<=k)/\Y6 w.heap.size w w'
theorem Nr(c:bF)(y z A B:QJ)(w:QI)(h:dD w c y z A B)(hz:lB c)(a:dk c=YT)(hg:gh w):Y8 Ys 7 #[YZ #[T c.host,y,z,A,I J c.most,I J c.size,B,I J c.xm,I J c.room],T (bs [])] w (Oi c w):=by
 obtain ⟨W0,p⟩:=QE (w.alloc (YU #[T c.host,y,z,A,I J c.most,I J c.size,B,I J c.xm,I J c.room] 35));have E:=QG p;obtain ⟨m,hm⟩:=hg.len;have a6:=au hm;have m0:W0.cell? ⟨0,0,N⟩=S (I J m):=(E.cell (by exact a6)).trans hm;have Z:=K (sH c y z A B m W0 (h.below E) hz m0);have G:=K E;have HM:=K m0;have HG:=K hg;have a3:=K p;have a4:H (W0.heap[w.heap.size]? =S (YU #[T c.host,y,z,A,I J c.most,I J c.size,B,I J c.xm,I J c.room] 35 (0,0))):=K (by rw [<-p];exact Q0 w _);have Y:=K (h.below E);have a1:=K a;clear E m0 p h hm hg;go_enter func7,ntmps7;go_wp2_with fail
 rw [a3.out];refine Z.out.mono ?_;intro e f hE;obtain ⟨he,j⟩:=hE;subst he;have B2:=K (G.out.trans (j.mono G.out.size));rw [a];simp only [EN];have m2:f.cell? ⟨0,0,N⟩=S (I J m):=(j.cell (by exact au HM.out)).trans HM.out;have O:=K m2;have n:=ae j a4.out;have y0:f.cell? ⟨w.heap.size,0,N⟩=S (T c.host):=Q3 n _;have y1:f.cell? ⟨w.heap.size,1,N⟩=S y:=Q3 n _;have y2:f.cell? ⟨w.heap.size,2,N⟩=S z:=Q3 n _;have y3:f.cell? ⟨w.heap.size,3,N⟩=S A:=Q3 n _;have y4:f.cell? ⟨w.heap.size,4,N⟩=S (I J c.most):=Q3 n _;have y5:f.cell? ⟨w.heap.size,5,N⟩=S (I J c.size):=Q3 n _;have y6:f.cell? ⟨w.heap.size,6,N⟩=S B:=Q3 n _;have y7:f.cell? ⟨w.heap.size,7,N⟩=S (I J c.xm):=Q3 n _;have y8:f.cell? ⟨w.heap.size,8,N⟩=S (I J c.room):=Q3 n _;have M:=K (vY c y z A B f (Y.out.below j) (gI a));have a7:w.heap.size<=f.heap.size:=B2.out.size;clear a j m2 n;go_wp2_with fail
 refine M.out.mono ?_;rintro e D ⟨uD,uN,uU,uW,rfl,d,v,U⟩;obtain ⟨aD,cD,eD⟩:=az d.1;obtain ⟨aN,cN,eN⟩:=az d.2.1;obtain ⟨aU,cU,eU⟩:=az d.2.2.1;obtain ⟨aW,cW,eW⟩:=az d.2.2.2;subst eD eN eU eW;have a2:=K (oo [] m D (by simp) ((v.cell (by exact au O.out)).trans O.out));have B3:=K (B2.out.trans (v.mono a7));have a8:w.heap.size<=D.heap.size:=B3.out.size;have X:=K d;have o:=K U;clear v d M y0 y1 y2 y3 y4 y5 y6 y7 y8 U;go_wp2_with fail
 refine a2.out.mono ?_;rintro e b ⟨V,mb,q,vr,rfl,hA,hO,hR,hG,R⟩;rw [Ln] at hA;have W:=K hA;have HR:=K hR.za;have a0:=K hG;have u:=K R;clear hA hO hR R hG;go_wp2_with fail
 go_ret2
 obtain ⟨C,P⟩:∃C:Array QJ,#[T c.host,L aD c.xf.length cD,L aN c.xe.length cN,L aU c.x9.length cU,I J c.most,I J c.size,L aW c.waits.length cW,I J c.xm,I J c.room,YV (S ⟨V,0,N⟩),L N 0 0,YV N]=C:=⟨_,rfl⟩;rw [P];have X5:=Q0 b (YU C 66);have r:Y6 b.heap.size b (b.alloc (YU C 66)):=(QQ _ _).alloc (QR _) _;have b0:(b.alloc (YU C 66)).heap.size=b.heap.size+1:=by simp
 obtain ⟨W5,a5⟩:=QE (b.alloc (YU C 66));rw [a5] at X5 r b0 ⊢;have a9:D.heap.size<=b.heap.size:=u.out.size;have B5:Y6 w.heap.size w W5:=(B3.out.trans (u.out.mono a8)).trans (r.mono (by omega));have Q:Y6 D.heap.size D W5:=u.out.trans (r.mono a9);have s:lA b V mb q vr ⟨[],0⟩ []:=⟨W.out.mono (QS _),HR.out⟩
 have t:∀k,aH b V mb q vr ⟨[],0⟩ k->D.heap.size<=k/\k < b.heap.size:=λk e=>⟨by
  rcases e with (e | e | ⟨i,hi,_⟩) | e
  .rw [e];exact W.out.yyW
  .rw [e];exact W.out.xZ
  .have:=dR hi;simp at this
  exact a0.out k e,aH.lt s e⟩
 obtain ⟨b1,b2⟩:=s.xt (aC.below r:aC (λ_=>False) b W5) (λ_ _ e=>e);have l:∀k,mM k->k < w.heap.size:=λk e=>HG.out.lt e;refine ⟨λk=>mM k\/k=b.heap.size\/(L aD c.xf.length cD).ownBlock=S k\/(L aN c.xe.length cN).ownBlock=S k\/(L aU c.x9.length cU).ownBlock=S k\/(L aW c.waits.length cW).ownBlock=S k,b.heap.size,V,mb,q,vr,rfl,⟨⟨_,_,_,_,⟨⟨C,X5,by rw [<-P];rfl⟩,X.out.below Q,a1.out⟩,λk e=>⟨Y5 (Y5 e),by have:=o.out k e;omega⟩⟩,HG.out.below B5,λk e=>Y4 e,λe=>by have:=l _ e;omega,Y5 (Y4 rfl),λk e=>?_,⟨C,X5,by rw [<-P];rfl,by rw [<-P];rfl,by rw [<-P];rfl⟩,b1,World.ownsRow_nil _ _ _ _,λk e x=>?_,λg e=>by cases e⟩,λk e=>?_,λk e=>by have:=t k (b2 k e);omega,B5⟩
 .rcases e with e | e | e
  .have:=l k e;omega
  .omega
  have:=o.out k e;omega
 .have hk:=t k (b2 k x)
  rcases e with e | e | e
  .have:=l k e;omega
  .omega
  have:=o.out k e;omega
 rcases e with e | e | e
 .exact Y4 e
 .exact Y5 (by omega)
 exact Y5 (by have:=o.out k e;omega)
def Oh(c:bF)(l:QF)(w:QI)(e:Zb)(w':QI):Prop:=
 ∃E pp pb mb q vr,e=YX (YY #[YV (S ⟨pp,0,N⟩),I J 0])/\fy E pp pb mb c w' q vr (bn l).1 (l.take (bn l).2) (L N 0 0) []/\(bn l).1.Ok/\(∀k,E k->mM k\/w.heap.size<=k)/\(∀k,aH w' pb mb q vr (bn l).1 k->w.heap.size<=k)/\Y6 w.heap.size w w'
theorem Lc(c:bF)(E G M O:QJ)(l:QF)(w:QI)(h:dD w c E G M O)(hz:lB c)(a:dk c=YT)(hg:gh w)(hl:l.length<=1048576):Y8 Ys 7 #[YZ #[T c.host,E,G,M,I J c.most,I J c.size,O,I J c.xm,I J c.room],T (bs l)] w (Oh c l w):=by
 obtain ⟨W0,s⟩:=QE (w.alloc (YU #[T c.host,E,G,M,I J c.most,I J c.size,O,I J c.xm,I J c.room] 35));have R:=QG s;obtain ⟨m,hm⟩:=hg.len;have b4:=au hm;have m0:W0.cell? ⟨0,0,N⟩=S (I J m):=(R.cell (by exact b4)).trans hm;have a4:=K (sH c E G M O m W0 (h.below R) hz m0);have V:=K R;have HM:=K m0;have HG:=K hg;have a9:=K s;have b0:H (W0.heap[w.heap.size]? =S (YU #[T c.host,E,G,M,I J c.most,I J c.size,O,I J c.xm,I J c.room] 35 (0,0))):=K (by rw [<-s];exact Q0 w _);have a3:=K (h.below R);have a6:=K a;clear R m0 s h hm hg;go_enter func7,ntmps7;go_wp2_with fail
 rw [a9.out];refine a4.out.mono ?_;intro e j hE;obtain ⟨he,n⟩:=hE;subst he;have B2:=K (V.out.trans (n.mono V.out.size));rw [a];simp only [EN];have m2:j.cell? ⟨0,0,N⟩=S (I J m):=(n.cell (by exact au HM.out)).trans HM.out;have X:=K m2;have p:=ae n b0.out;have y0:j.cell? ⟨w.heap.size,0,N⟩=S (T c.host):=Q3 p _;have y1:j.cell? ⟨w.heap.size,1,N⟩=S E:=Q3 p _;have y2:j.cell? ⟨w.heap.size,2,N⟩=S G:=Q3 p _;have y3:j.cell? ⟨w.heap.size,3,N⟩=S M:=Q3 p _;have y4:j.cell? ⟨w.heap.size,4,N⟩=S (I J c.most):=Q3 p _;have y5:j.cell? ⟨w.heap.size,5,N⟩=S (I J c.size):=Q3 p _;have y6:j.cell? ⟨w.heap.size,6,N⟩=S O:=Q3 p _;have y7:j.cell? ⟨w.heap.size,7,N⟩=S (I J c.xm):=Q3 p _;have y8:j.cell? ⟨w.heap.size,8,N⟩=S (I J c.room):=Q3 p _;have W:=K (vY c E G M O j (a3.out.below n) (gI a));have b5:w.heap.size<=j.heap.size:=B2.out.size;clear a n m2 p;go_wp2_with fail
 refine W.out.mono ?_;rintro e Q ⟨uD,uN,uU,uW,rfl,f,B,a1⟩;obtain ⟨aD,cD,eD⟩:=az f.1;obtain ⟨aN,cN,eN⟩:=az f.2.1;obtain ⟨aU,cU,eU⟩:=az f.2.2.1;obtain ⟨aW,cW,eW⟩:=az f.2.2.2;subst eD eN eU eW;have a8:=K (oo l m Q hl ((B.cell (by exact au X.out)).trans X.out));have B3:=K (B2.out.trans (B.mono b5));have b6:w.heap.size<=Q.heap.size:=B3.out.size;have a2:=K f;have r:=K a1;clear B f W y0 y1 y2 y3 y4 y5 y6 y7 y8 a1;go_wp2_with fail
 refine a8.out.mono ?_;rintro e d ⟨pb,mb,q,vr,rfl,hA,hO,hR,hG,a0⟩;have U:=K hA;have a7:=K hO;have HR:=K hR.za;have a5:=K hG;have A:=K a0;clear hA hO hR a0 hG;go_wp2_with fail
 go_ret2
 obtain ⟨C,Y⟩:∃C:Array QJ,#[T c.host,L aD c.xf.length cD,L aN c.xe.length cN,L aU c.x9.length cU,I J c.most,I J c.size,L aW c.waits.length cW,I J c.xm,I J c.room,YV (S ⟨pb,0,N⟩),L N 0 0,YV N]=C:=⟨_,rfl⟩;rw [Y];have X5:=Q0 d (YU C 66);have t:Y6 d.heap.size d (d.alloc (YU C 66)):=(QQ _ _).alloc (QR _) _;have c0:(d.alloc (YU C 66)).heap.size=d.heap.size+1:=by simp
 obtain ⟨W5,b3⟩:=QE (d.alloc (YU C 66));rw [b3] at X5 t c0 ⊢;have b7:Q.heap.size<=d.heap.size:=A.out.size;have B5:Y6 w.heap.size w W5:=(B3.out.trans (A.out.mono b6)).trans (t.mono (by omega));have Z:Y6 Q.heap.size Q W5:=A.out.trans (t.mono b7);have u:lA d pb mb q vr (bn l).1 (l.take (bn l).2):=⟨U.out.mono (QS _),HR.out⟩
 have y:∀k,aH d pb mb q vr (bn l).1 k->Q.heap.size<=k/\k < d.heap.size:=λk e=>⟨by
  rcases e with (e | e | ⟨i,hi,e | ⟨D,z,P,e2⟩⟩) | e
  .rw [e];exact U.out.yyW
  .rw [e];exact U.out.xZ
  .rw [e];exact (U.out.xu i hi).1
  .obtain ⟨_,v,x,b,cc⟩:=U.out.xu i hi;unfold gf at b;rw [b] at P;injection P with P;injection P with P;rw [<-P] at e2;have e2:v.ownBlock=S k:=e2;exact (cc.lt k e2).1
  exact a5.out k e,aH.lt u e⟩
 obtain ⟨b1,b2⟩:=u.xt (aC.below t:aC (λ_=>False) d W5) (λ_ _ e=>e);have o:∀k,mM k->k < w.heap.size:=λk e=>HG.out.lt e;refine ⟨λk=>mM k\/k=d.heap.size\/(L aD c.xf.length cD).ownBlock=S k\/(L aN c.xe.length cN).ownBlock=S k\/(L aU c.x9.length cU).ownBlock=S k\/(L aW c.waits.length cW).ownBlock=S k,d.heap.size,pb,mb,q,vr,rfl,⟨⟨_,_,_,_,⟨⟨C,X5,by rw [<-Y];rfl⟩,a2.out.below Z,a6.out⟩,λk e=>⟨Y5 (Y5 e),by have:=r.out k e;omega⟩⟩,HG.out.below B5,λk e=>Y4 e,λe=>by have:=o _ e;omega,Y5 (Y4 rfl),λk e=>?_,⟨C,X5,by rw [<-Y];rfl,by rw [<-Y];rfl,by rw [<-Y];rfl⟩,b1,World.ownsRow_nil _ _ _ _,λk e x=>?_,λg e=>by cases e⟩,a7.out,λk e=>?_,λk e=>by have:=y k (b2 k e);omega,B5⟩
 .rcases e with e | e | e
  .have:=o k e;omega
  .omega
  have:=r.out k e;omega
 .have hk:=y k (b2 k x)
  rcases e with e | e | e
  .have:=o k e;omega
  .omega
  have:=r.out k e;omega
 rcases e with e | e | e
 .exact Y4 e
 .exact Y5 (by omega)
 exact Y5 (by have:=r.out k e;omega)
def kV(c:bF)(addr:Int):cj:=⟨c.xe.any (gd addr),F,F,F,[],N⟩
def lK(c:bF):QF:=[50,50,48,32]++cX c++[13,10]
theorem Na{c:bF}(h:dk c=YT):∀x∈c.xe,0<=x.2/\x.2<=32:=by
 unfold dk lN at h;simp only [Rk] at h;obtain ⟨⟨⟨⟨⟨⟨⟨⟨_,_⟩,⟨_,a⟩⟩,_⟩,_⟩,_⟩,_⟩,_⟩,_⟩:=h;intro x b;have:=Rb.1 a x b;unfold jK aZ at this;simp only [Rk,decide_eq_true_eq] at this;exact this.1.1
theorem aC.toBelow{B:Nat->Prop}{a b:QI}{s:Nat}(h:aC B a b)(c:∀k,B k->s<=k)(f:s<=a.heap.size):Y6 s a b:=⟨h.still.1,h.still.2.1,h.still.2.2,h.size,λk d=>h.block k (by omega) (λe=>by have:=c k e;omega)⟩
theorem tg{w:QI}{sb b f:Nat}{C:Array QJ}{M:List QF}{v:QJ}{i:QF}(A:bQ w sb b C M)(hB:j8 0 w f v i)(y:sb≠f)(Q:b≠f)(h3:v.ownBlock≠S sb)(hl:∀l∈M,l.length<=1048576)(R:i.length+M.flatten.length<=140737488355328):Y8 Ys 58 #[YV (S ⟨sb,0,N⟩),YV (S ⟨f,0,N⟩)] w λe t=>e=YX (YY #[])/\∃d,bQ t sb b C []/\j8 0 t f d (i++M.flatten)/\(∀g,d.ownBlock=S g->v.ownBlock=S g\/w.heap.size<=g)/\aC (λk=>k=b\/k=f\/v.ownBlock=S k) w t:=by
 obtain ⟨sq,r,D⟩:=A.chan
 have G:¬(sb=b\/sb=f\/v.ownBlock=S sb):=λx=>by
  rcases x with x | x | x
  .exact A.ne x
  .exact y x
  exact h3 x
 let Bd:QF->QI->Prop:=λa t=>∃d,j8 0 t f d a/\(∀g,d.ownBlock=S g->v.ownBlock=S g\/w.heap.size<=g)/\aC (λk=>k=b\/k=f\/v.ownBlock=S k) w t/\∃m q p,t.heap[b]? =S (.chan 3 m F q p F)
 have Z:=DU Bd sb b sq r F (YV (S ⟨f,0,N⟩)) M i w ?_ ?_ ?_ ⟨v,hB,λg e=>Y4 e,aC.refl _ _,_,_,_,D⟩ D hl R
 .refine Z.mono ?_;rintro e t ⟨rfl,q,p,⟨d,s,u,j,_⟩,c⟩;exact ⟨rfl,d,⟨j.some_ A.xp G,A.size,A.told,q,p,c⟩,s,u,j⟩
 .rintro a l W ⟨d,s,u,j,m,q,p,c⟩ _ E
  have n:d.ownBlock≠S b:=λe=>by
   obtain ⟨O,z,y⟩:=gW s.row e;rw [c] at y;cases y
  refine (uo 0 f d a l W s (QS _) E).mono ?_;rintro e a0 ⟨⟨rv,rfl⟩,⟨v2,d1,d2⟩,P,d4,Y⟩
  have U:aC (λk=>k=f\/d.ownBlock=S k) W a0:=⟨Y,λk B hn=>by
   rw [Si B]
   exact P k _ (Si B) (λe=>hn (Y4 e)) (λe=>hn (Y5 e)),d4⟩
  refine ⟨⟨rv,rfl⟩,⟨v2,d1,λg V=>(d2 g V).elim (u g) (λe=>Y5 (Rn j.size e)),j.trans U (λk B e=>e.elim (λe=>Y5 (Y4 e)) (λe=>(u k e).elim (λe=>Y5 (Y5 e)) (λe=>absurd B (by omega)))),m,q,p,P b _ c Q n⟩,λo ho=>P b o ho Q n⟩
 .rintro a W ⟨d,s,u,j,_⟩;rw [Q3 (j.some_ A.xp G)];exact A.told
 rintro a W m h q p ⟨d,s,u,j,_⟩ c;have X:b < W.heap.size:=aq c;have S1:aA b W (W.setChan b 3 h F q (p+1) F):=⟨by simp [World.setChan],λk B=>by simp [World.setChan,TH (Ne.symm B)],⟨rfl,rfl,rfl⟩⟩
 have n:d.ownBlock≠S b:=λe=>by
  obtain ⟨O,z,y⟩:=gW s.row e;rw [c] at y;cases y
 refine ⟨d,lj s (aC.same S1) (λe=>Q e.symm) (λg V e=>n (by rw [<-e];exact V)),u,j.trans (aC.same S1) (λ_ _ e=>Y4 e),h,q,p+1,Conc.heap_setChan W b 3 h F q (p+1) F X⟩
structure GL(w W:QI)(pp pb sb ch:Nat)(c:bF)(addr:Int):Prop where
 xA:bQ W sb ch (iR pp pb ch (L N 0 0) (YV N) (kV c addr)) []
 sb:w.heap.size<=sb
 ch:w.heap.size<=ch
 below:Y6 w.heap.size w W
theorem GL.first{w b:QI}{f e:Nat}{c:bF}{a:Int}(d:Y6 (w.alloc (.chan 3 #[] F 0 0 F)).drew.heap.size (w.alloc (.chan 3 #[] F 0 0 F)).drew b):GL w (b.alloc (YU #[YV (S ⟨f,0,N⟩),YV (S ⟨e,0,N⟩),L N 0 0,.chan (S w.heap.size),YW (c.xe.any (gd a)),YW F,YW F,YW F,YV N] 112)) f e b.heap.size w.heap.size c a:=by
 have j:(w.alloc (.chan 3 #[] F 0 0 F)).drew.heap[w.heap.size]? =S (.chan 3 #[] F 0 0 F):=Q0 w _;have g:Y6 b.heap.size b (b.alloc (YU #[YV (S ⟨f,0,N⟩),YV (S ⟨e,0,N⟩),L N 0 0,.chan (S w.heap.size),YW (c.xe.any (gd a)),YW F,YW F,YW F,YV N] 112)):=(QQ _ _).alloc (QR _) _;have i:w.heap.size+1<=b.heap.size:=by have:=d.size;simpa using this
 have h:Y6 w.heap.size w (w.alloc (.chan 3 #[] F 0 0 F)).drew:=((QQ _ _).alloc (QR _) _).drew;exact ⟨⟨Q0 b _,rfl,rfl,0,0,ae g (ae d j)⟩,by omega,QR _,(h.trans (d.mono (by simp))).trans (g.mono (by omega))⟩
theorem GL.later{w a:QI}{f e:Nat}{c:bF}{b:Int}(h:Y6 w.drew.heap.size w.drew a):GL w ((a.alloc (.chan 3 #[] F 0 0 F)).alloc (YU #[YV (S ⟨f,0,N⟩),YV (S ⟨e,0,N⟩),L N 0 0,.chan (S a.heap.size),YW (c.xe.any (gd b)),YW F,YW F,YW F,YV N] 112)) f e (a.heap.size+1) a.heap.size c b:=by
 have k:(a.alloc (.chan 3 #[] F 0 0 F)).heap[a.heap.size]? =S (.chan 3 #[] F 0 0 F):=Q0 a _;have j:(a.alloc (.chan 3 #[] F 0 0 F)).heap.size=a.heap.size+1:=by simp
 have g:Y6 a.heap.size a (a.alloc (.chan 3 #[] F 0 0 F)):=(QQ _ _).alloc (QR _) _;obtain ⟨W,m⟩:=QE (a.alloc (.chan 3 #[] F 0 0 F));rw [m] at k j g ⊢;have i:Y6 W.heap.size W (W.alloc (YU #[YV (S ⟨f,0,N⟩),YV (S ⟨e,0,N⟩),L N 0 0,.chan (S a.heap.size),YW (c.xe.any (gd b)),YW F,YW F,YW F,YV N] 112)):=(QQ _ _).alloc (QR _) _;have d:w.heap.size<=a.heap.size:=h.size;have l:Y6 w.heap.size w w.drew:=(QQ _ _).drew;exact ⟨⟨by rw [<-j];exact Q0 W _,rfl,rfl,0,0,ae i k⟩,by omega,d,((l.trans (h.mono (QR _))).trans (g.mono d)).trans (i.mono (by omega))⟩
def JL(pp pb:Nat)(c:bF)(addr:Int)(w:QI)(e:Zb)(w':QI):Prop:=
 ∃sb ch,e=YX (YY #[YV (S ⟨sb,0,N⟩),T (bs (lK c))])/\bQ w' sb ch (iR pp pb ch (L N 0 0) (YV N) (kV c addr)) []/\w.heap.size<=sb/\w.heap.size<=ch/\Y6 w.heap.size w w'
theorem JV{E:Nat->Prop}{d pb:Nat}{c:bF}{w:QI}(he:gq E w d c)(h:Int):Y8 Ys 21 #[YV (S ⟨d,0,N⟩),YV (S ⟨pb,0,N⟩),I J h] w (JL d pb c h w):=by
 obtain ⟨vD,vN,vU,vW,P,_⟩:=he.set;have y0:w.cell? ⟨d,0,N⟩=S (T c.host):=P.cell 0 (by decide);have y1:w.cell? ⟨d,1,N⟩=S vD:=P.cell 1 (by decide);have y2:w.cell? ⟨d,2,N⟩=S vN:=P.cell 2 (by decide);have y3:w.cell? ⟨d,3,N⟩=S vU:=P.cell 3 (by decide);have y4:w.cell? ⟨d,4,N⟩=S (I J c.most):=P.cell 4 (by decide);have y5:w.cell? ⟨d,5,N⟩=S (I J c.size):=P.cell 5 (by decide);have y6:w.cell? ⟨d,6,N⟩=S vW:=P.cell 6 (by decide);have y7:w.cell? ⟨d,7,N⟩=S (I J c.xm):=P.cell 7 (by decide);have y8:w.cell? ⟨d,8,N⟩=S (I J c.room):=P.cell 8 (by decide);have u:∀(o:Obj) (j:Nat),(w.alloc o).cell? ⟨d,j,N⟩=w.cell? ⟨d,j,N⟩:=λo j=>World.cell?_of_block (((QQ _ w).alloc (QR _) o).block d (he.lt d he.xI));have a0:∀o:Obj,(w.alloc o).cell? ⟨d,0,N⟩=S (T c.host):=λo=>(u o 0).trans y0;have a1:∀o:Obj,(w.alloc o).cell? ⟨d,1,N⟩=S (vD):=λo=>(u o 1).trans y1;have a2:∀o:Obj,(w.alloc o).cell? ⟨d,2,N⟩=S (vN):=λo=>(u o 2).trans y2;have a3:∀o:Obj,(w.alloc o).cell? ⟨d,3,N⟩=S (vU):=λo=>(u o 3).trans y3;have a4:∀o:Obj,(w.alloc o).cell? ⟨d,4,N⟩=S (I J c.most):=λo=>(u o 4).trans y4;have a5:∀o:Obj,(w.alloc o).cell? ⟨d,5,N⟩=S (I J c.size):=λo=>(u o 5).trans y5;have a6:∀o:Obj,(w.alloc o).cell? ⟨d,6,N⟩=S (vW):=λo=>(u o 6).trans y6;have a7:∀o:Obj,(w.alloc o).cell? ⟨d,7,N⟩=S (I J c.xm):=λo=>(u o 7).trans y7;have a8:∀o:Obj,(w.alloc o).cell? ⟨d,8,N⟩=S (I J c.room):=λo=>(u o 8).trans y8;have b4:H (∀W:QI,Y6 w.heap.size w W->Y8 Ys 56 #[YZ #[T c.host,vD,vN,vU,I J c.most,I J c.size,vW,I J c.xm,I J c.room],I J h] W λe w'=>e=YX (YW (c.xe.any (gd h)))/\Y6 W.heap.size W w'):=K (λW hb=>EZ c vD vN vU vW h W (P.rows.below hb) P.small.xe (λx hx=>Na P.may x hx));obtain ⟨i,hi,c2,c3,b6⟩:=Rr lL;have b7:∀W:QI,(Instr.makeChan 106 (I J 3)).run Ys W= .ok (.chan (S W.heap.size)) (W.alloc (.chan 3 #[] F 0 0 F)):=λW=>Conc.run_makeChan (n:=3) underlying106 hi J (by decide) (by rw [b6];decide);clear P u;have b1:d < w.heap.size:=he.lt d he.xI;have c0:=he.host.2;have Q:H ((⟨#[50,50,48,32]⟩:QL)++c.host=bs ([50,50,48,32]++cX c)):=K (aQ [50,50,48,32] (cX c)).symm;have c1:c.host.size=(cX c).length:=by rw [<-nh c,aj]
 go_enter func21,ntmps21;go_wp2_with fail
 go_region_law (first
  | (go_simp;go_at_call 56;refine (b4.out _ (by first | exact (QQ _ _).drew | exact ((QQ _ _).alloc (QR _) _).drew)).mono ?_;rintro e w1 ⟨rfl,b0⟩;dsimp only))
 all_goals
  have f:H (GL w _ d pb _ _ c h):=K (by first | exact GL.first b0 | exact GL.later b0);clear b0 b4
 .
  obtain ⟨b,D⟩:∃W:QI,w1.alloc (YU #[YV (S ⟨d,0,N⟩),YV (S ⟨pb,0,N⟩),L N 0 0,.chan (S w.heap.size),YW (c.xe.any (gd h)),YW F,YW F,YW F,YV N] 112)=W:=⟨_,rfl⟩;rw [D] at f ⊢;have a:=f.out.below;have x3:=Q0 b (YU #[YV N,L N 0 0] 115);have v:Y6 b.heap.size b (b.alloc (YU #[YV N,L N 0 0] 115)):=(QQ _ _).alloc (QR _) _;obtain ⟨C,Z⟩:∃W:QI,b.alloc (YU #[YV N,L N 0 0] 115)=W:=⟨_,rfl⟩;rw [Z] at x3 v;have y3:C.cell? ⟨d,0,N⟩=S (T c.host):=((a.trans (v.mono a.size)).cell (by exact b1)).trans y0;have s3:=f.out.xA.xt (aC.below v:aC (λ_=>False) b C) (λe=>e) (λe=>e);have l1:=aq f.out.xA.xp;have l2:_ < b.heap.size:=aq f.out.xA.chan.choose_spec.choose_spec;have HT:=K (s3.tell (by simp) ([50,50,48,32]++cX c) (by rw [RI];simp;omega));have R:H (j8 0 C b.heap.size (L N 0 0) []):=K ⟨⟨N,Y4 rfl,x3⟩,⟨rfl,Y4 ⟨rfl,rfl⟩⟩,(by intro e;cases e)⟩;have U:=K (a.trans (v.mono a.size));have p:b.heap.size<=C.heap.size:=v.size;have A:=K l1;have r:=K l2;clear a x3 v s3 l1 l2 D;go_wp2_with fail
  rw [Q.out];refine HT.out.mono ?_;rintro e w4 ⟨rfl,h4,m⟩;have B4:j8 0 w4 b.heap.size (L N 0 0) []:=lj R.out (aC.same m) (λe=>by have:=r.out;omega) (by intro g e;cases e);have B:=K (tg h4 B4 (by have:=A.out;omega) (by have:=r.out;omega) (by intro e;cases e) (by intro l hl;simp at hl;rw [hl];simp;omega) (by simp;omega));have q:=K (U.out.trans (m.below f.out.ch));have b5:w4.heap.size=C.heap.size:=m.1;clear h4 m B4;go_wp2_with fail
  refine B.out.mono ?_;rintro e w5 ⟨rfl,v5,h5,t,O,G⟩;have a9:w.heap.size<=b.heap.size:=f.out.below.size
  have B5:=q.out.trans (G.toBelow (s:=w.heap.size) (λk e=>by
   rcases e with e | e | e
   .rw [e];exact f.out.ch
   .rw [e];exact a9
   cases e) q.out.size)
  have X:=K (nP 0 b.heap.size v5 _ w5 t);have Y:=K O;have V:=K h5;have y:=K B5;have b2:=K t;clear h5 t O G B5 B;go_wp2_with fail
  refine X.out.mono ?_;rintro e w6 ⟨rfl,M⟩;have z:=K M;clear M;go_wp2_with fail
  go_ret2
  have hg:∀g,v5.ownBlock=S g->w4.heap.size<=g:=λg e=>(Y.out g e).elim (λe=>by cases e) id;refine ⟨_,_,rfl,V.out.xt z.out (λe=>?_) (λe=>?_),f.out.sb,f.out.ch,y.out.trans (z.out.toBelow (λk e=>Rn q.out.size (hg k e)) y.out.size)⟩
  .have:=hg _ e;have:=A.out;have:=p;omega
  have:=hg _ e;have:=r.out;have:=p;omega
 .
  obtain ⟨b,D⟩:∃W:QI,w1.alloc (YU #[YV (S ⟨d,0,N⟩),YV (S ⟨pb,0,N⟩),L N 0 0,.chan (S w.heap.size),YW (c.xe.any (gd h)),YW F,YW F,YW F,YV N] 112)=W:=⟨_,rfl⟩;rw [D] at f ⊢;have a:=f.out.below;have x3:=Q0 b (YU #[YV N,L N 0 0] 115);have v:Y6 b.heap.size b (b.alloc (YU #[YV N,L N 0 0] 115)):=(QQ _ _).alloc (QR _) _;obtain ⟨C,Z⟩:∃W:QI,b.alloc (YU #[YV N,L N 0 0] 115)=W:=⟨_,rfl⟩;rw [Z] at x3 v;have y3:C.cell? ⟨d,0,N⟩=S (T c.host):=((a.trans (v.mono a.size)).cell (by exact b1)).trans y0;have s3:=f.out.xA.xt (aC.below v:aC (λ_=>False) b C) (λe=>e) (λe=>e);have l1:=aq f.out.xA.xp;have l2:_ < b.heap.size:=aq f.out.xA.chan.choose_spec.choose_spec;have HT:=K (s3.tell (by simp) ([50,50,48,32]++cX c) (by rw [RI];simp;omega));have R:H (j8 0 C b.heap.size (L N 0 0) []):=K ⟨⟨N,Y4 rfl,x3⟩,⟨rfl,Y4 ⟨rfl,rfl⟩⟩,(by intro e;cases e)⟩;have U:=K (a.trans (v.mono a.size));have p:b.heap.size<=C.heap.size:=v.size;have A:=K l1;have r:=K l2;clear a x3 v s3 l1 l2 D;go_wp2_with fail
  rw [Q.out];refine HT.out.mono ?_;rintro e w4 ⟨rfl,h4,m⟩;have B4:j8 0 w4 b.heap.size (L N 0 0) []:=lj R.out (aC.same m) (λe=>by have:=r.out;omega) (by intro g e;cases e);have B:=K (tg h4 B4 (by have:=A.out;omega) (by have:=r.out;omega) (by intro e;cases e) (by intro l hl;simp at hl;rw [hl];simp;omega) (by simp;omega));have q:=K (U.out.trans (m.below f.out.ch));have b5:w4.heap.size=C.heap.size:=m.1;clear h4 m B4;go_wp2_with fail
  refine B.out.mono ?_;rintro e w5 ⟨rfl,v5,h5,t,O,G⟩;have a9:w.heap.size<=b.heap.size:=f.out.below.size
  have B5:=q.out.trans (G.toBelow (s:=w.heap.size) (λk e=>by
   rcases e with e | e | e
   .rw [e];exact f.out.ch
   .rw [e];exact a9
   cases e) q.out.size)
  have X:=K (nP 0 b.heap.size v5 _ w5 t);have Y:=K O;have V:=K h5;have y:=K B5;have b2:=K t;clear h5 t O G B5 B;go_wp2_with fail
  refine X.out.mono ?_;rintro e w6 ⟨rfl,M⟩;have z:=K M;clear M;go_wp2_with fail
  go_ret2
  have hg:∀g,v5.ownBlock=S g->w4.heap.size<=g:=λg e=>(Y.out g e).elim (λe=>by cases e) id;refine ⟨_,_,rfl,V.out.xt z.out (λe=>?_) (λe=>?_),f.out.sb,f.out.ch,y.out.trans (z.out.toBelow (λk e=>Rn q.out.size (hg k e)) y.out.size)⟩
  .have:=hg _ e;have:=A.out;have:=p;omega
  have:=hg _ e;have:=r.out;have:=p;omega
 .
  obtain ⟨b,D⟩:∃W:QI,(w1.alloc (.chan 3 #[] F 0 0 F)).alloc (YU #[YV (S ⟨d,0,N⟩),YV (S ⟨pb,0,N⟩),L N 0 0,.chan (S w1.heap.size),YW (c.xe.any (gd h)),YW F,YW F,YW F,YV N] 112)=W:=⟨_,rfl⟩;rw [D] at f ⊢;have a:=f.out.below;have x3:=Q0 b (YU #[YV N,L N 0 0] 115);have v:Y6 b.heap.size b (b.alloc (YU #[YV N,L N 0 0] 115)):=(QQ _ _).alloc (QR _) _;obtain ⟨C,Z⟩:∃W:QI,b.alloc (YU #[YV N,L N 0 0] 115)=W:=⟨_,rfl⟩;rw [Z] at x3 v;have y3:C.cell? ⟨d,0,N⟩=S (T c.host):=((a.trans (v.mono a.size)).cell (by exact b1)).trans y0;have s3:=f.out.xA.xt (aC.below v:aC (λ_=>False) b C) (λe=>e) (λe=>e);have l1:=aq f.out.xA.xp;have l2:_ < b.heap.size:=aq f.out.xA.chan.choose_spec.choose_spec;have HT:=K (s3.tell (by simp) ([50,50,48,32]++cX c) (by rw [RI];simp;omega));have R:H (j8 0 C b.heap.size (L N 0 0) []):=K ⟨⟨N,Y4 rfl,x3⟩,⟨rfl,Y4 ⟨rfl,rfl⟩⟩,(by intro e;cases e)⟩;have U:=K (a.trans (v.mono a.size));have p:b.heap.size<=C.heap.size:=v.size;have A:=K l1;have r:=K l2;clear a x3 v s3 l1 l2 D;go_wp2_with fail
  rw [Q.out];refine HT.out.mono ?_;rintro e w4 ⟨rfl,h4,m⟩;have B4:j8 0 w4 b.heap.size (L N 0 0) []:=lj R.out (aC.same m) (λe=>by have:=r.out;omega) (by intro g e;cases e);have B:=K (tg h4 B4 (by have:=A.out;omega) (by have:=r.out;omega) (by intro e;cases e) (by intro l hl;simp at hl;rw [hl];simp;omega) (by simp;omega));have q:=K (U.out.trans (m.below f.out.ch));have b5:w4.heap.size=C.heap.size:=m.1;clear h4 m B4;go_wp2_with fail
  refine B.out.mono ?_;rintro e w5 ⟨rfl,v5,h5,t,O,G⟩;have a9:w.heap.size<=b.heap.size:=f.out.below.size
  have B5:=q.out.trans (G.toBelow (s:=w.heap.size) (λk e=>by
   rcases e with e | e | e
   .rw [e];exact f.out.ch
   .rw [e];exact a9
   cases e) q.out.size)
  have X:=K (nP 0 b.heap.size v5 _ w5 t);have Y:=K O;have V:=K h5;have y:=K B5;have b2:=K t;clear h5 t O G B5 B;go_wp2_with fail
  refine X.out.mono ?_;rintro e w6 ⟨rfl,M⟩;have z:=K M;clear M;go_wp2_with fail
  go_ret2
  have hg:∀g,v5.ownBlock=S g->w4.heap.size<=g:=λg e=>(Y.out g e).elim (λe=>by cases e) id;refine ⟨_,_,rfl,V.out.xt z.out (λe=>?_) (λe=>?_),f.out.sb,f.out.ch,y.out.trans (z.out.toBelow (λk e=>Rn q.out.size (hg k e)) y.out.size)⟩
  .have:=hg _ e;have:=A.out;have:=p;omega
  have:=hg _ e;have:=r.out;have:=p;omega
structure iC(E:Nat->Prop)(pp pb mb:Nat)(c:bF)(w:QI)(q:Nat->Nat)(vr:QJ)(S:aa)(xb:QF)(vs:QJ)(ps:List QJ)(sb ch:Nat)(A:Nat->Prop)(vw:QJ)(s:cj):Prop where
 post:fy E pp pb mb c w q vr S xb vs ps
 xA:cq w A pp pb sb ch vw [] s
 ym:mY w vw s.wait
 ea:∀k,E k->¬A k
 ab:∀k,A k->¬aH w pb mb q vr S k
 wd:∀g,vw.ownBlock=some g->¬E g/\¬A g/\¬aH w pb mb q vr S g
 sa:∀g,vs.ownBlock=some g->¬A g/\vw.ownBlock≠some g
def lY(w:QI)(pb mb:Nat)(A:Nat->Prop)(q:Nat->Nat)(vr:QJ)(S:aa)(vw vs:QJ)(k:Nat):Prop:=AO w pb mb A q vr S vw k\/vs.ownBlock=some k
section
variable {E B:Nat->Prop} {pp pb mb:Nat} {c:bF} {w w':QI} {q:Nat->Nat} {vr:QJ} {S S':aa} {xb recs':QF} {vs:QJ} {ps:List QJ} {sb ch:Nat} {A:Nat->Prop} {vw:QJ} {s s':cj}
theorem iC.rest(h:iC E pp pb mb c w q vr S xb vs ps sb ch A vw s):Eh E pp pb mb sb ch c w A q vr S xb vw s:=⟨h.post.env,h.xA,h.ym,h.post.xx,h.ea,h.post.eb,h.ab,h.wd⟩
theorem iC.heard(h:iC E pp pb mb c w q vr S xb vs ps sb ch A vw s)(u:vo E A pp pb mb sb ch c q vr S vw w s' S' recs' w'):∃i j a b,iC E pp pb mb c w' j a S' recs' vs ps sb ch i b s'/\(∀k,lY w' pb mb i j a S' b vs k->lY w pb mb A q vr S vw vs k\/w.heap.size<=k)/\aC (lY w pb mb A q vr S vw vs) w w':=by
 obtain ⟨i,j,a,b,d,o,f⟩:=u;obtain ⟨z,D,G,M,v,p⟩:=h.post.set;obtain ⟨C,r,t⟩:=h.post.xp
 have l:∀k,E k->¬AO w pb mb A q vr S vw k:=λk e x=>by
  rcases x with x | x | x
  .exact h.ea k e x
  .exact h.post.eb k e x
  exact (h.wd k x).1 e
 have n:∀g,vs.ownBlock=some g->¬AO w pb mb A q vr S vw g:=λg e x=>by
  rcases x with x | x | x
  .exact (h.sa g e).1 x
  .exact (h.post.sd g e).2 x
  exact (h.sa g e).2 x
 have m:∀g,vs.ownBlock=some g->¬AO w' pb mb i j a S' b g:=λg e x=>(o g x).elim (n g e) (λy=>by have:=h.post.slt e;omega);refine ⟨i,j,a,b,⟨⟨⟨z,D,G,M,v.xt f (λk e=>l k (p k e).1) (l pp h.post.xI),p⟩,h.post.yf.xt f (λk e=>l k (h.post.yn k e)),h.post.yn,h.post.yx,h.post.xI,λk e=>SA (h.post.lt k e) f.size,⟨C,f.some_ r (l pp h.post.xI),t⟩,d.xx,bG h.post.row f n,d.eb,λg e=>⟨(h.post.sd g e).1,λx=>m g e (Y5 (Y4 x))⟩⟩,d.xA,d.row,d.ea,d.ab,d.wd,λg e=>⟨λx=>m g e (Y4 x),λx=>m g e (Y5 (Y5 x))⟩⟩,λk e=>?_,f.mono (λ_ _ e=>Y4 e)⟩
 rcases e with e | e
 .exact (o k e).imp Y4 id
 exact Y4 (Y5 e)
theorem fy.at(h:fy E pp pb mb c w q vr S xb vs ps){n:Nat}(j:n < ps.length):∃g b a,vs=L (some ⟨g,0,N⟩) ps.length b/\w.heap[g]? =some (YU a 69 (0,0))/\a[n]? =some ps[n]:=by
 rcases h.row.2 with ⟨_,k⟩ | ⟨g,f,a,e,_,i,_,_,_,d⟩
 .omega
 refine ⟨g,f,a,e,i,?_⟩;rw [<-Sl, <-Sk (show n < ps.length * 1 by omega),d,Re j]
theorem Pe{w:QI}{g a n:Nat}{x:QJ}{ps:List QJ}(h:w.ownsRow 0 69 1 (L (some ⟨g,0,N⟩) ps.length a) ps.length ps)(_:n < ps.length):(w.setCell ⟨g,n,N⟩ x).ownsRow 0 69 1 (L (some ⟨g,0,N⟩) ps.length a) ps.length (ps.set n x):=by
 refine ⟨by simp,?_⟩
 rcases h.2 with ⟨e,_⟩ | ⟨o,m,b,e,f,i,j,k,l,d⟩
 .cases e
 injection e with e1 _ e3;injection e1 with e1;injection e1 with e1;subst e1 e3;refine Y5 ⟨g,a,b.setIfInBounds n x,rfl,f,Ro w g n _ _ x i,j,k,by simp [l],?_⟩
 rw [Array.toList_setIfInBounds,List.take_set,d]
theorem fy.put(h:fy E pp pb mb c w q vr S xb vs ps){g f n:Nat}{x:QJ}(j:vs=L (some ⟨g,0,N⟩) ps.length f)(t:n < ps.length):fy E pp pb mb c (w.setCell ⟨g,n,N⟩ x) q vr S xb vs (ps.set n x)/\(∀k,aH (w.setCell ⟨g,n,N⟩ x) pb mb q vr S k->aH w pb mb q vr S k)/\aC (λk=>k=g) w (w.setCell ⟨g,n,N⟩ x):=by
 have a:aC (λk=>k=g) w (w.setCell ⟨g,n,N⟩ x):=aC.same ((aA.refl _ _).setCell _);have b:vs.ownBlock=some g:=by rw [j];rfl
 have d:∀k,E k->¬k=g:=λk e x=>(h.sd g b).1 (by rw [<-x];exact e);obtain ⟨y,z,D,G,v,o⟩:=h.set;obtain ⟨C,p,r⟩:=h.xp;obtain ⟨u,l⟩:=h.xx.xt a (λk e x=>(h.sd g b).2 (by rw [<-x];exact e));have m:=h.row;rw [j] at m;have i:=Pe (x:=x) m t;refine ⟨⟨⟨y,z,D,G,v.xt a (λk e=>d k (o k e).1) (d pp h.xI),o⟩,h.yf.xt a (λk e=>d k (h.yn k e)),h.yn,h.yx,h.xI,λk e=>SA (h.lt k e) a.size,⟨C,a.some_ p (d pp h.xI),r⟩,u,?_,λk e x=>h.eb k e (l k x),λg e=>⟨(h.sd g e).1,λx=>(h.sd g e).2 (l g x)⟩⟩,l,a⟩;rw [j,Q4];exact i
theorem iC.put(h:iC E pp pb mb c w q vr S xb vs ps sb ch A vw s){g b n:Nat}{x:QJ}(i:vs=L (some ⟨g,0,N⟩) ps.length b)(j:n < ps.length):iC E pp pb mb c (w.setCell ⟨g,n,N⟩ x) q vr S xb vs (ps.set n x) sb ch A vw s/\(∀k,lY (w.setCell ⟨g,n,N⟩ x) pb mb A q vr S vw vs k->lY w pb mb A q vr S vw vs k)/\aC (lY w pb mb A q vr S vw vs) w (w.setCell ⟨g,n,N⟩ x):=by
 obtain ⟨l,f,d⟩:=h.post.put (x:=x) i j;have a:vs.ownBlock=some g:=by rw [i];rfl
 refine ⟨⟨l,h.xA.xt d (λk e x=>(h.sa g a).1 (by rw [<-x];exact e)),bG h.ym d (λk e x=>(h.sa g a).2 (by rw [<-x];exact e)),h.ea,λk e x=>h.ab k e (f k x),λg e=>⟨(h.wd g e).1,(h.wd g e).2.1,λx=>(h.wd g e).2.2 (f g x)⟩,h.sa⟩,λk e=>?_,d.mono (λk _ e=>Y5 (by rw [e];exact a))⟩
 rcases e with (e | e | e) | e
 .exact Y4 (Y4 e)
 .exact Y4 (Y5 (Y4 (f k e)))
 .exact Y4 (Y5 (Y5 e))
 exact Y5 e
end
structure gz where
 sb:Nat
 ch:Nat
 A:Nat->Prop
 vw:QJ
 s:cj
def gz.own(x:gz)(k:Nat):Prop:=x.A k\/x.vw.ownBlock=some k
def fh:Option gz->QJ
 | none=>YV N
 | some x=>YV (some ⟨x.sb,0,N⟩)
structure Bp(E:Nat->Prop)(pp pb mb:Nat)(c:bF)(w:QI)(q:Nat->Nat)(vr:QJ)(S:aa)(xb:QF)(vs:QJ)(x:gz):Prop where
 xA:cq w x.A pp pb x.sb x.ch x.vw [] x.s
 row:mY w x.vw x.s.wait
 inv:iG c x.s S xb
 fe:∀k,x.own k->¬E k
 fb:∀k,x.own k->¬aH w pb mb q vr S k
 fs:∀k,x.own k->vs.ownBlock≠some k
 fw:∀k,x.vw.ownBlock=some k->¬x.A k
structure eh(E:Nat->Prop)(pp pb mb:Nat)(c:bF)(w:QI)(q:Nat->Nat)(vr:QJ)(S:aa)(xb:QF)(vs:QJ)(l:List (Option gz)):Prop where
 post:fy E pp pb mb c w q vr S xb vs (l.map fh)
 ok:∀(n:Nat) (x:gz),l[n]? =some (some x)->Bp E pp pb mb c w q vr S xb vs x
 apart:∀(n m:Nat) (x y:gz),n≠m->l[n]? =some (some x)->l[m]? =some (some y)->∀k,x.own k->¬y.own k
 len:l.length<=100
 xo:S.time<=1000000000/\S.items.length<=xb.length/\xb.length<=1048576
def ie(w:QI)(pb mb:Nat)(q:Nat->Nat)(vr:QJ)(S:aa)(vs:QJ)(l:List (Option gz))(k:Nat):Prop:=aH w pb mb q vr S k\/vs.ownBlock=some k\/∃(n:Nat) (x:gz),l[n]? =some (some x)/\x.own k
section
variable {E B:Nat->Prop} {pp pb mb:Nat} {c:bF} {w w':QI} {q:Nat->Nat} {vr:QJ} {S:aa} {xb:QF} {vs:QJ} {l:List (Option gz)} {x:gz}
theorem Bp.xt(h:Bp E pp pb mb c w q vr S xb vs x)(b:aC B w w')(a:∀k,x.own k->¬B k)(d:∀k,aH w' pb mb q vr S k->aH w pb mb q vr S k):Bp E pp pb mb c w' q vr S xb vs x:=
 ⟨h.xA.xt b (λk e=>a k (Y4 e)),bG h.row b (λk e=>a k (Y5 e)),h.inv,h.fe,λk e y=>h.fb k e (d k y),h.fs,h.fw⟩
theorem Bp.lt(h:Bp E pp pb mb c w q vr S xb vs x){k:Nat}(e:x.own k):k < w.heap.size:=e.elim (h.xA.lt k) (λe=>(iL h.row e).2)
theorem eh.ya(h:eh E pp pb mb c w q vr S xb vs l){k:Nat}(d:ie w pb mb q vr S vs l k):k < w.heap.size:=by
 rcases d with e | e | ⟨n,x,a,b⟩
 .exact aH.lt h.post.xx e
 .exact h.post.slt e
 exact (h.ok n x a).lt b
theorem eh.xt(h:eh E pp pb mb c w q vr S xb vs l)(b:aC B w w')(f:∀k,E k->¬B k)(a:∀k,ie w pb mb q vr S vs l k->¬B k):eh E pp pb mb c w' q vr S xb vs l/\∀k,ie w' pb mb q vr S vs l k->ie w pb mb q vr S vs l k:=by
 obtain ⟨g,d⟩:=h.post.xt b f (λk e=>a k (Y4 e)) (λk e=>a k (Y5 (Y4 e)));exact ⟨⟨g,λn x e=>(h.ok n x e).xt b (λk y=>a k (Y5 (Y5 ⟨n,x,e,y⟩))) d,h.apart,h.len,h.xo⟩,λk e=>e.imp (d k) id⟩
theorem eh.one(h:eh E pp pb mb c w q vr S xb vs l){n:Nat}(a:l[n]? =some (some x)):iC E pp pb mb c w q vr S xb vs (l.map fh) x.sb x.ch x.A x.vw x.s:=by
 have o:=h.ok n x a;exact ⟨h.post,o.xA,o.row,λk e y=>o.fe k (Y4 y) e,λk e y=>o.fb k (Y4 e) y,λg e=>⟨o.fe g (Y5 e),o.fw g e,o.fb g (Y5 e)⟩,λg e=>⟨λy=>o.fs g (Y4 y) e,λy=>o.fs g (Y5 y) e⟩⟩
theorem JD{l:List (Option gz)}(n:Nat)(v:Option gz):(l.set n v).map fh=(l.map fh).set n (fh v):=by rw [List.map_set]
theorem tc{l:List (Option gz)}{n m:Nat}{v:Option gz}{y:gz}(h:(l.set n v)[m]? =some (some y)):(m=n/\v=some y)\/(m≠n/\l[m]? =some (some y)):=by
 by_cases e:n=m
 .subst e
  by_cases a:n < l.length
  .rw [List.getElem?_set_self a] at h;exact Y4 ⟨rfl,by injection h⟩
  rw [Sg (by simp;omega)] at h
  cases h
 rw [List.getElem?_set_ne e] at h;exact Y5 ⟨Ne.symm e,h⟩
theorem eh.heard{t:aa}{d:QF}{D:Nat->Prop}{O:Nat->Nat}{g i:QJ}{U:cj}(h:eh E pp pb mb c w q vr S xb vs l){n:Nat}(R:l[n]? =some (some x))(u:iG c U t d){v:Option gz}(a:v=some ⟨x.sb,x.ch,D,i,U⟩\/v=N)(p:iC E pp pb mb c w' O g t d vs ((l.map fh).set n (fh v)) x.sb x.ch D i U)(Z:∀k,lY w' pb mb D O g t i vs k->lY w pb mb x.A q vr S x.vw vs k\/w.heap.size<=k)(Y:aC (lY w pb mb x.A q vr S x.vw vs) w w'):eh E pp pb mb c w' O g t d vs (l.set n v)/\(∀k,ie w' pb mb O g t vs (l.set n v) k->ie w pb mb q vr S vs l k\/w.heap.size<=k)/\aC (ie w pb mb q vr S vs l) w w':=by
 have ox:=h.ok n x R
 have A:∀(m:Nat) (y:gz),m≠n->l[m]? =some (some y)->∀k,y.own k->¬lY w pb mb x.A q vr S x.vw vs k:=λm y s b k e z=>by
  have r:=h.ok m y b
  rcases z with (z | z | z) | z
  .exact h.apart m n y x s b R k e (Y4 z)
  .exact r.fb k e z
  .exact h.apart m n y x s b R k e (Y5 z)
  exact r.fs k e z
 have j:∀(m:Nat) (y:gz),m≠n->l[m]? =some (some y)->∀k,y.own k->¬lY w' pb mb D O g t i vs k:=λm y s b k e z=>(Z k z).elim (A m y s b k e) (λz=>by have:=(h.ok m y b).lt e;omega);have o:∀k,(gz.mk x.sb x.ch D i U).own k->lY w' pb mb D O g t i vs k:=λk e=>e.elim (λe=>Y4 (Y4 e)) (λe=>Y4 (Y5 (Y5 e)))
 have C:∀k,lY w pb mb x.A q vr S x.vw vs k->ie w pb mb q vr S vs l k:=λk e=>by
  rcases e with (e | e | e) | e
  .exact Y5 (Y5 ⟨n,x,R,Y4 e⟩)
  .exact Y4 e
  .exact Y5 (Y5 ⟨n,x,R,Y5 e⟩)
  exact Y5 (Y4 e)
 refine ⟨⟨by rw [JD];exact p.post,λm y b=>?_,λm1 m2 y1 y2 Q h1 h2 k W X=>?_,by rw [Q4];exact h.len,⟨u.time,u.len,u.xb⟩⟩,λk e=>?_,Y.mono (λk _ e=>C k e)⟩
 .rcases tc b with ⟨_,e⟩ | ⟨s,b⟩
  .rcases a with a | a
   .rw [a] at e;injection e with e;subst e;exact ⟨p.xA,p.ym,u,λk e y=>e.elim (λe=>p.ea k y e) (λe=>(p.wd k e).1 y),λk e y=>e.elim (λe=>p.ab k e y) (λe=>(p.wd k e).2.2 y),λk e y=>e.elim (λe=>(p.sa k y).1 e) (λe=>(p.sa k y).2 e),λk e=>(p.wd k e).2.1⟩
   rw [a] at e;cases e
  have r:=h.ok m y b;exact ⟨r.xA.xt Y (λk e=>A m y s b k (Y4 e)),bG r.row Y (λk e=>A m y s b k (Y5 e)),⟨r.inv.tx,u.time,u.len,u.xb,r.inv.wait⟩,r.fe,λk e z=>j m y s b k e (Y4 (Y5 (Y4 z))),r.fs,r.fw⟩
 .rcases tc h1 with ⟨V,G⟩ | ⟨V,g1⟩
  .rcases tc h2 with ⟨P,_⟩ | ⟨P,g2⟩
   .exact Q (V.trans P.symm)
   rcases a with a | a
   .rw [a] at G;injection G with G;subst G;exact j m2 y2 P g2 k X (o k W)
   rw [a] at G;cases G
  rcases tc h2 with ⟨P,M⟩ | ⟨P,g2⟩
  .rcases a with a | a
   .rw [a] at M;injection M with M;subst M;exact j m1 y1 V g1 k W (o k X)
   rw [a] at M;cases M
  exact h.apart m1 m2 y1 y2 Q g1 g2 k W X
 rcases e with e | e | ⟨m,y,b,e⟩
 .exact (Z k (Y4 (Y5 (Y4 e)))).imp (C k) id
 .exact Y4 (Y5 (Y4 e))
 rcases tc b with ⟨_,f⟩ | ⟨s,b⟩
 .rcases a with a | a
  .rw [a] at f;injection f with f;subst f;exact (Z k (o k e)).imp (C k) id
  rw [a] at f;cases f
 exact Y4 (Y5 (Y5 ⟨m,y,b,e⟩))
end
theorem Ig:(prog.info? 137).map (λi=>(i.zero,i.size,i.bytes))=S (S (YV N),1,8):=by kernel_rfl
def AL(addr:Int):bf:=⟨addr,[],F,F,F,F,[],[],F,[],F⟩
section
variable {E:Nat->Prop} {w w1:QI} {p:Nat} {c:bF} {all:QF} {T:Nat} {vC vDu vFa vH vC':QJ} {l:List ix} {due xh:List Nat} {addr:Int}
theorem nN{l:List ix}{n:Nat}{v y:ix}(h:(l++[v])[n]? =S y):(n=l.length/\v=y)\/(n < l.length/\l[n]? =S y):=by
 by_cases a:n < l.length
 .rw [Sc a] at h;exact Y5 ⟨a,h⟩
 rw [Se (by omega)] at h
 by_cases e:n - l.length=0
 .rw [e] at h;exact Y4 ⟨by omega,by injection h⟩
 rw [Sg (by simp;omega)] at h
 cases h
theorem dP.more(h:dP E w p c all T vC vDu vFa vH l due xh){d:Nat}(D:w.heap.size<=d)(hb:w1.heap[d]? =S (YU (bC (AL addr) (L N 0 0) (L N 0 0)) 139 (0,0)))(Q:aC (λk=>vC.ownBlock=S k) w w1)(t:w1.ownsRow 0 137 1 vC' (l.length+1) (l.map vX++[YV (S ⟨d,0,N⟩)]))(R:∀g,vC'.ownBlock=S g->vC.ownBlock=S g\/w.heap.size<=g):dP E (w1.setCell ⟨p,11,N⟩ vC') p c all T vC' vDu vFa vH (l++[⟨d,L N 0 0,L N 0 0,AL addr⟩]) due xh/\(∀k,fo p vC' vDu vFa (l++[⟨d,L N 0 0,L N 0 0,AL addr⟩]) k->fo p vC vDu vFa l k\/w.heap.size<=k)/\aC (fo p vC vDu vFa l) w (w1.setCell ⟨p,11,N⟩ vC'):=by
 obtain ⟨vD,vN,vU,vW,O,h2,P⟩:=h.set;have a0:=aq O;have z:aA p w1 (w1.setCell ⟨p,11,N⟩ vC'):=(aA.refl _ _).setCell _;have a:aC (λk=>k=p\/vC.ownBlock=S k) w (w1.setCell ⟨p,11,N⟩ vC'):=(Q.mono (λ_ _ e=>Y5 e)).trans (aC.same z) (λ_ _ e=>Y4 e);have q:∀{k:Nat},vC.ownBlock=S k->k≠p:=λe=>(h.yp e).1;have Z:=Q.some_ O (λe=>q e rfl);have b2:=Ro w1 p 11 _ _ vC' Z;have u:∀k,(k=p\/vC.ownBlock=S k)->fo p vC vDu vFa l k:=λk e=>e.imp id Y4
 have M:∀k,fo p vC' vDu vFa (l++[⟨d,L N 0 0,L N 0 0,AL addr⟩]) k->fo p vC vDu vFa l k\/w.heap.size<=k:=λk e=>by
  rcases e with e | e | e | e | ⟨m,y,C,f⟩
  .exact Y4 (Y4 e)
  .exact (R k e).imp (λe=>Y5 (Y4 e)) id
  .exact Y4 (Y5 (Y5 (Y4 e)))
  .exact Y4 (Y5 (Y5 (Y5 (Y4 e))))
  rcases nN C with ⟨_,rfl⟩ | ⟨_,C⟩
  .rcases f with f | f | f
   .exact Y5 (by rw [f];exact D)
   .cases f
   cases f
  exact Y4 (Y5 (Y5 (Y5 (Y5 ⟨m,y,C,f⟩))))
 have hE:∀k,E k->¬(k=p\/vC.ownBlock=S k):=λk e y=>h.eo k e (u k y)
 have b:∀(n:Nat) (x:ix),l[n]? =S x->∀k,x.own k->¬(k=p\/vC.ownBlock=S k):=λn x i k e y=>by
  obtain ⟨f1,f2,_⟩:=h.far i e;exact y.elim f1 f2
 have r:d≠p:=by omega
 obtain ⟨Ap,o,_⟩:=h.post;refine ⟨⟨⟨vD,vN,vU,vW,b2,uT h2 a (λk e=>hE k (P k e)),P⟩,h.may,?_,λn x i=>?_,bG h.yyV a (λk e y=>?_),bG h.xH a (λk e y=>?_),h.zc,λU V X Y s g1 g2 k j B=>?_,λk e=>SA (h.lt k e) a.size,λk e y=>?_⟩,M,a.mono (λk _ e=>u k e)⟩
 .rw [RI,List.map_append];refine bG t (aC.same z) (λg e y=>?_)
  rcases R g e with e | e
  .exact q e y
  omega
 .rcases nN i with ⟨_,rfl⟩ | ⟨_,i⟩
  .exact ⟨bm z hb r,World.ownsRow_nil _ _ _ _,World.ownsRow_nil _ _ _ _,Y4 rfl⟩
  exact (h.ok n x i).xt a (b n x i _ (Y4 rfl)) (λg e=>b n x i g (Y5 (Y4 e))) (λg e=>b n x i g (Y5 (Y5 e)))
 .rcases y with y | y
  .obtain ⟨A,j⟩:=br h.yyV e;exact dN j o (by decide) y
  exact (h.yp y).2.1 e
 .rcases y with y | y
  .obtain ⟨A,j⟩:=br h.xH e;exact dN j o (by decide) y
  exact (h.yp y).2.2 e
 .have W:∀k,(ix.mk d (L N 0 0) (L N 0 0) (AL addr)).own k->k=d:=λk e=>by
   rcases e with e | e | e
   .exact e
   .cases e
   cases e
  rcases nN g1 with ⟨G,rfl⟩ | ⟨G,g1⟩
  .rcases nN g2 with ⟨v,_⟩ | ⟨v,g2⟩
   .exact s (G.trans v.symm)
   have:=ix.lt (h.ok V Y g2) B;rw [W k j] at this;omega
  rcases nN g2 with ⟨v,rfl⟩ | ⟨v,g2⟩
  .have:=ix.lt (h.ok U X g1) j;rw [W k B] at this;omega
  exact h.apart U V X Y s g1 g2 k j B
 rcases M k y with y | y
 .exact h.eo k e y
 have:=h.lt k e;omega
end
def JN(E:Nat->Prop)(p:Nat)(c:bF)(all:QF)(T:Nat)(vC vDu vFa vH:QJ)(l:List ix)(due xh:List Nat)(addr:Int)(w w':QI):Prop:=
 ∃cb vC',dP E w' p c all T vC' vDu vFa vH (l++[⟨cb,L N 0 0,L N 0 0,AL addr⟩]) due xh/\(∀k,fo p vC' vDu vFa (l++[⟨cb,L N 0 0,L N 0 0,AL addr⟩]) k->fo p vC vDu vFa l k\/w.heap.size<=k)/\aC (fo p vC vDu vFa l) w w'
theorem zK(E:Nat->Prop)(w:QI)(p:Nat)(c:bF)(all:QF)(T:Nat)(vC vDu vFa vH:QJ)(l:List ix)(due xh:List Nat)(addr:Int)(h:dP E w p c all T vC vDu vFa vH l due xh)(h0:0<=addr)(h1:addr<=4294967295)(hl:l.length < 100):Y8 Ys 35 #[YV (S ⟨p,0,N⟩),I J addr] w λe w'=>e=YX (YY #[I J (l.length:Int),.string (bs (lK c)),I J 0])/\JN E p c all T vC vDu vFa vH l due xh addr w w':=by
 obtain ⟨vD,vN,vU,vW,d,_,_⟩:=h.set;have q:w.cell? ⟨p,11,N⟩=S vC:=Q3 d _;have V:=aq d;obtain ⟨a,Q,ev⟩:=az (bq h.row);have n0:¬addr < 0:=by omega
 have n1:¬(4294967295:Int) < addr:=by omega
 have n2:¬(100:Int)<=(l.length:Int):=by omega
 obtain ⟨D,f⟩:=QE (w.alloc (YU (bC (AL addr) (L N 0 0) (L N 0 0)) 139));have G:=QG f;have z1:D.heap.size=w.heap.size+1:=by rw [<-f];simp
 have Y:=QH f;obtain ⟨i,hi,z,A,B⟩:=Rr Ig;obtain ⟨g,b,j,m,u,O,Z⟩:=pg (P:=Ys) underlying130 hi z A B rfl D (D.alloc (YU #[YV (S ⟨w.heap.size,0,N⟩)] 137)) vC (YV (S ⟨w.heap.size,0,N⟩)) l.length (l.map vX) (aB h.row λg a0 e _=>ae G e) rfl ((QQ _ _).alloc (QR _) _) (Q0 D _) (by unfold maxLen;omega) (by omega);have x:vC.ownBlock≠S w.heap.size:=λe=>by have:=(iL h.row e).2;omega
 have U:aC (λk=>vC.ownBlock=S k) w j:=(aC.below G).trans O (λk _ e=>e);have n:j.heap[w.heap.size]? =S (YU (bC (AL addr) (L N 0 0) (L N 0 0)) 139 (0,0)):=O.some_ Y x;have y:vC.ownBlock≠S p:=λe=>(h.yp e).1 rfl;have C:=U.some_ d y;have r:j.cell? ⟨p,11,N⟩=S vC:=Q3 C _;have R:=RJ C 11
 have hM:=h.more (addr:=addr) (QR _) n U u (vC':=L (S ⟨g,0,N⟩) (l.length+1) b) (λk e=>by
  have e:S g=S k:=e;injection e with e;subst e
  exact Z.imp id (λe=>by omega))
 have m0:(j.setCell ⟨p,11,N⟩ (L (S ⟨g,0,N⟩) (l.length+1) b)).cell? ⟨p,0,N⟩=S (.string c.host):=by
  rw [Q3 (Ro j p 11 _ _ _ C)];rfl
 have W:(j.setCell ⟨p,11,N⟩ (L (S ⟨g,0,N⟩) (l.length+1) b)).cell? ⟨p,11,N⟩=S (L (S ⟨g,0,N⟩) (l.length+1) b):=by
  rw [Q3 (Ro j p 11 _ _ _ C)];rfl
 have X:=K hM;have hh:=oG h.may;have a1:c.host.size<=255:=by rw [<-nh,aj];exact hh
 have HG:H ((ByteArray.mk #[50,50,48,32]++c.host)++ByteArray.mk #[13,10]=bs (lK c)):=K (by
  unfold lK;rw [<-aQ, <-aQ,nh]
  rfl)
 have s:∀o:Obj,(w.alloc o).cell? ⟨p,11,N⟩=S vC:=λo=>(((QQ _ w).alloc (QR _) o).cell (by exact V)).trans q;rw [ev] at q r m
 have M:H ((Builtin.append_ #[130,130] 130 #[L a l.length Q,L (S ⟨w.heap.size+1,0,N⟩) 1 1]).run Ys ((w.alloc (YU #[I J addr,.string ⟨#[]⟩,YW F,YW F,YW F,YW F,.string ⟨#[]⟩,L N 0 0,YW F,L N 0 0,YW F] 139)).alloc (YU #[YV (S ⟨w.heap.size,0,N⟩)] 137))= .ok (L (S ⟨g,0,N⟩) (l.length+1) b) j):=K (by
  rw [z1, <-f] at m
  exact m)
 clear h ev d U O Z u m hi z A B hM C n Y G z1 f x y s;go_enter func35,ntmps35
 go_wp2_with (first
  | (at_builtin;refine bp rfl _ _ 130 rfl _ _ (L (S ⟨g,0,N⟩) (l.length+1) b) j rfl rfl M.out ?_)
  | fail)
 obtain ⟨W3,t⟩:=QE (j.setCell ⟨p,11,N⟩ (L (S ⟨g,0,N⟩) (l.length+1) b));rw [t] at m0 W X ⊢;clear t r R q;go_quiet (fail)
 go_wp2_with fail
 refine Ru (v:=YY #[I J (l.length:Int),.string (bs (lK c)),I J 0]) (by rw [<-HG.out];simp [results,results35,go_sem]) rfl ⟨rfl,?_⟩;obtain ⟨q1,q2,q3⟩:=X.out;have hb:=an nq W3 W3.heap.size;exact ⟨_,_,q1.below hb,q2,q3.trans (aC.below hb:aC (λ_=>False) _ _) (λ_ _ e=>e.elim)⟩
end Go.Proofs.YtponhohdpophlaaGreatDoor
