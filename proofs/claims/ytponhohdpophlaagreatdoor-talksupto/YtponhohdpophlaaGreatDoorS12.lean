import Derived.Test.YtponhohdpophlaaGreatDoorS05
namespace Go.Proofs.YtponhohdpophlaaGreatDoor
set_option maxHeartbeats 8000000
set_option maxRecDepth 1000000
open Go renaming heap_alloc_new->Q0,heap_setCell_same->Ro,info_parts->Rr,heap_setCell_other->TP,maxLen->Y7,Calls->Y8,TypeId->Za
open Go.Ending renaming returned->YX
open Go.IntKind renaming i64->J,wrap_i64->QY
open Go.Lib renaming cell_of_heap->Q3,frozen_of_heap->RJ,toList_data->SF
open Go.Obj renaming cells->YU
open Go.RowKit renaming Hid->H,Below->Y6,intOf->Y9
open Go.RowKit.Below renaming refl->QQ
open Go.Value renaming int->I,slice->L,string->T,pointer->YV,bool->YW,tuple->YY
open _root_.Array renaming getElem?_toList->Sl
open _root_.Bool renaming false->F,eq_iff_iff->Ri,and_eq_true->Rk,not_eq_true'->Rm,and_true->SC,and_false->SG,true_and->Sy,false_and->Tt,true->YT
open _root_.List renaming length_set->Q4,getD_eq_getElem?_getD->Q5,mem_range->Q8,filter_map->Q9,getElem_mem->QU,take_succ_eq_append_getElem->QV,take_length->QZ,length_append->RI,length_map->RU,mem_filter->Ra,all_eq_true->Rb,getElem?_eq_getElem->Re,mem_cons->Rf,map_map->Rg,take_append_drop->Rp,length_drop->Rq,drop_drop->SX,getElem?_take_of_lt->Sk,length_take->Sm,append_assoc->Sq,getElem?_map->TV,getElem?_cons_zero->UG,getElem?_cons_succ->UH,range_succ->Ui
open _root_.Nat renaming le_refl->QR,zero_le->QS,add_zero->QT,le_trans->Rn,lt_or_ge->Tp
open _root_.Option renaming none->N,some->S,getD_some->TZ
open Go.Proofs.Tryz
open Go.RowKit
theorem L8{l x y:QF}{f:Bool}(h:aJ 64 l=(x,y,f)):dn l=if oM x && kS y then (x,Lib.toLowerA y,YT) else ([],[],F):=by
 rw [dn,h, <-OQ, <-kE]
theorem Ki{l x y:QF}(h:aJ 64 l=(x,y,F)):kS y=F:=by
 have:=(iY 64 l (by rw [h])).1;rw [this] at h;obtain ⟨_,rfl⟩:l=x/\[]=y:=by simpa using h
 rfl
theorem MP{l:QF}(h:¬(1<=l.length/\l.length<=20)):oM l=F:=by
 cases e:oM l
 case false=>rfl
 simp only [oM,Rk,decide_eq_true_eq] at e;exact absurd ⟨e.1.1.1.1,e.1.1.1.2⟩ h
theorem MO{l:QF}{a z:UInt8}(d:l.getD 0 0=a)(f:l.getD (l.length - 1) 0=z)(h:¬(((a.toNat:Int) == 46)=F/\((z.toNat:Int) == 46)=F)):oM l=F:=by
 have b:=ji a 46 (by decide);have c:=ji z 46 (by decide)
 cases e:oM l
 case false=>rfl
 simp only [oM,Rk,decide_eq_true_eq,Rm,d,f] at e;exact absurd ⟨b.trans e.1.1.2,c.trans e.1.2⟩ h
theorem Dq{l:QF}{k:Nat}(a:k < l.length)(h:qU l k=F):oM l=F:=by
 have:(List.range l.length).all (qU l)=F:=by
  cases e:(List.range l.length).all (qU l)
  case false=>rfl
  rw [Rb] at e;have:=e k (Q8.2 a);rw [h] at this;cases this
 simp only [oM,this,SG]
theorem OS{l:QF}{a z:UInt8}(g:1<=l.length)(i:l.length<=20)(k:l.getD 0 0=a)(n:l.getD (l.length - 1) 0=z)(b:((a.toNat:Int) == 46)=F)(c:((z.toNat:Int) == 46)=F)(h:∀j:Nat,j < l.length->qU l j=YT):oM l=YT:=by
 have e:=ji a 46 (by decide);have f:=ji z 46 (by decide);have d:(a == (46:UInt8))=F:=e.symm.trans b;have o:(z == (46:UInt8))=F:=f.symm.trans c
 have:(List.range l.length).all (qU l)=YT:=by
  rw [Rb];intro j m;exact h j (Q8.1 m)
 simp only [oM,k,n,d,o,this,decide_eq_true g,decide_eq_true i];rfl
theorem jQ{l:QF}{k:Nat}(a:∀j:Nat,j < k->qU l j=YT)(h:qU l k=YT):∀j:Nat,j < k+1->qU l j=YT:=by
 intro j b
 by_cases e:j < k
 .exact a j e
 have:j=k:=by omega
 rw [this];exact h
theorem uZ(c:UInt8)(n:Nat)(a:n < 256):((c.toNat:Int) != (n:Int))= !(c == UInt8.ofNat n):=by
 rw [<-ji c n a];rfl
theorem jP{l:QF}{k:Nat}{c p:UInt8}(i:l.getD k 0=c)(j:l.getD (k - 1) 0=p):qU l k= !(!qv c.toNat && !dX c.toNat && ((c.toNat:Int) != 45) && ((c.toNat:Int) != 95) && ((c.toNat:Int) != 43) && (((c.toNat:Int) != 46) || ((p.toNat:Int) == 46))):=by
 have d:=uZ c 45 (by decide);have e:=uZ c 95 (by decide);have f:=uZ c 43 (by decide);have g:=uZ c 46 (by decide);have h:=ji p 46 (by decide);simp only [qU,i,j,CF];rw [show ((45:Nat):Int)=45 from rfl] at d;rw [show ((95:Nat):Int)=95 from rfl] at e;rw [show ((43:Nat):Int)=43 from rfl] at f;rw [show ((46:Nat):Int)=46 from rfl] at g h;rw [d,e,f,g,h];show _= !(!qv ↑c.toNat && !dX ↑c.toNat && !c == 45 && !c == 95 && !c == 43 && (!c == 46 || p == 46))
 generalize qv ↑c.toNat=a
 generalize dX ↑c.toNat=b
 generalize (c == 45)=q1
 generalize (c == 95)=q2
 generalize (c == 43)=q3
 generalize (c == 46)=q4
 generalize (p == 46)=q5
 revert a b q1 q2 q3 q4 q5
 decide
theorem oV(s:QL)(w:QI)(hs:s.size<=Y7):Y8 prog 251 #[T s] w (fk s.data.toList w):=by
 go_enter func251,ntmps251;go_wp2_with fail
 have A:H (((64:UInt8).toNat:Int)=64):=rfl;refine (l9 s 64 64 A _ hs).mono ?_;rintro e b ⟨x,y,f,rfl,G,n,rfl⟩;have hl:=nj 64 _ _ _ _ G;rw [ag,ag,ag] at hl;have v:y.size<=Y7:=by omega
 unfold maxLen at hs;have a3:x.size<=2 ^ 63 - 1:=by omega
 have Y:=K (L8 G)
 have u:H (f=F->kS y.data.toList=F):=by
  show _->_;intro h;subst h;exact Ki G
 clear hl G A;go_wp2_with fail
 refine (bS y _ v).mono ?_;rintro e b ⟨rfl,n',rfl⟩
 have l:H ((oM x.data.toList && kS y.data.toList)=F->dn s.data.toList=([],[],F)):=by
  show _->_;intro h;rw [Y.out,h];rfl
 have P:=K v;clear v;have a:=K (an (n+n') w w.heap.size)
 cases f
 case false=>
  have O:=K (u.out rfl);go_wp2_with fail
  all_goals (go_ret3;exact fk.mk _ _ _ rfl (l.out (by rw [O.out,SG])) a.out)
 clear u
 cases Z:kS y.data.toList
 case false=>
  go_wp2_with fail
  all_goals (go_ret3;exact fk.mk _ _ _ rfl (l.out (by rw [Z,SG])) a.out)
 by_cases U:1<=x.size/\x.size<=20
 .obtain ⟨V,W⟩:=U;have C:H (x.data.toList.getD 0 0=x[0]):=iZ x 0 (by omega)
  have D:H (x.data.toList.getD (x.data.toList.length - 1) 0=x[x.size - 1]):=by
   show _=_;rw [ag];exact iZ x (x.size - 1) (by omega)
  have a0:decide ((x.size:Int) < 1)=F:=by simp;omega
  have a1:decide (20 < (x.size:Int))=F:=by simp;omega
  by_cases M:((x[0].toNat:Int) == 46)=F/\((x[x.size - 1].toNat:Int) == 46)=F
  .obtain ⟨B,Q⟩:=M;go_wp2_with fail
   go_loop [10] (λi=>∃k:Nat,k<=x.size/\i=I J k/\H (∀j:Nat,j < k->qU x.data.toList j=YT)) (λi=>x.size - (Y9 i).toNat)
   case atStart=>exact ⟨0,QS _,rfl,λj hj=>by omega⟩
   case round=>
    obtain ⟨k,hk,rfl,p⟩:=hrel
    by_cases r:k < x.size
    .have d:H (x.data.toList.getD k 0=x[k]):=iZ x k r
     by_cases E:k=0
     .subst E;have R:((x[0].toNat:Int) != 46)=YT:=by rw [bne,B];rfl
      cases m:qv (x[0].toNat:Int)
      case true=>
       have c:H (qU x.data.toList 0=YT):=by
        show _=_;rw [jP d.out d.out,m];rfl
       go_wp2_with (first | (go_at_call 181;refine (de _ _).mono ?_;rintro e b ⟨rfl,rfl⟩) | (go_at_call 182;refine (dv _ _).mono ?_;rintro e b ⟨rfl,rfl⟩))
       go_round
       case rel=>exact ⟨0+1,by omega,by go_num,jQ p.out c.out⟩
       case measure=>simp [Y9];omega
      cases o:dX (x[0].toNat:Int)
      case true=>
       have c:H (qU x.data.toList 0=YT):=by
        show _=_;rw [jP d.out d.out,m,o];rfl
       go_wp2_with (first | (go_at_call 181;refine (de _ _).mono ?_;rintro e b ⟨rfl,rfl⟩) | (go_at_call 182;refine (dv _ _).mono ?_;rintro e b ⟨rfl,rfl⟩))
       go_round
       case rel=>exact ⟨0+1,by omega,by go_num,jQ p.out c.out⟩
       case measure=>simp [Y9];omega
      cases q:((x[0].toNat:Int) != 45)
      case false=>
       have c:H (qU x.data.toList 0=YT):=by
        show _=_;rw [jP d.out d.out,m,o,q];rfl
       go_wp2_with (first | (go_at_call 181;refine (de _ _).mono ?_;rintro e b ⟨rfl,rfl⟩) | (go_at_call 182;refine (dv _ _).mono ?_;rintro e b ⟨rfl,rfl⟩))
       go_round
       case rel=>exact ⟨0+1,by omega,by go_num,jQ p.out c.out⟩
       case measure=>simp [Y9];omega
      cases t:((x[0].toNat:Int) != 95)
      case false=>
       have c:H (qU x.data.toList 0=YT):=by
        show _=_;rw [jP d.out d.out,m,o,q,t];rfl
       go_wp2_with (first | (go_at_call 181;refine (de _ _).mono ?_;rintro e b ⟨rfl,rfl⟩) | (go_at_call 182;refine (dv _ _).mono ?_;rintro e b ⟨rfl,rfl⟩))
       go_round
       case rel=>exact ⟨0+1,by omega,by go_num,jQ p.out c.out⟩
       case measure=>simp [Y9];omega
      cases z:((x[0].toNat:Int) != 43)
      case false=>
       have c:H (qU x.data.toList 0=YT):=by
        show _=_;rw [jP d.out d.out,m,o,q,t,z];rfl
       go_wp2_with (first | (go_at_call 181;refine (de _ _).mono ?_;rintro e b ⟨rfl,rfl⟩) | (go_at_call 182;refine (dv _ _).mono ?_;rintro e b ⟨rfl,rfl⟩))
       go_round
       case rel=>exact ⟨0+1,by omega,by go_num,jQ p.out c.out⟩
       case measure=>simp [Y9];omega
      have c:H (qU x.data.toList 0=F):=by
       show _=_;rw [jP d.out d.out,m,o,q,t,z,R];rfl
      go_wp2_with (first | (go_at_call 181;refine (de _ _).mono ?_;rintro e b ⟨rfl,rfl⟩) | (go_at_call 182;refine (dv _ _).mono ?_;rintro e b ⟨rfl,rfl⟩))
      go_ret3
      exact fk.mk _ _ _ rfl (l.out (by rw [Dq (by rw [ag];exact r) c.out,Tt])) a.out
     have g:H (x.data.toList.getD (k - 1) 0=x[k - 1]):=iZ x (k - 1) (by omega);have a2:1<=(k:Int):=by omega
     clear E
     cases m:qv (x[k].toNat:Int)
     case true=>
      have c:H (qU x.data.toList k=YT):=by
       show _=_;rw [jP d.out g.out,m];rfl
      go_wp2_with (first | (go_at_call 181;refine (de _ _).mono ?_;rintro e b ⟨rfl,rfl⟩) | (go_at_call 182;refine (dv _ _).mono ?_;rintro e b ⟨rfl,rfl⟩))
      go_round
      case rel=>exact ⟨k+1,by omega,by go_num,jQ p.out c.out⟩
      case measure=>simp [Y9];omega
     cases o:dX (x[k].toNat:Int)
     case true=>
      have c:H (qU x.data.toList k=YT):=by
       show _=_;rw [jP d.out g.out,m,o];rfl
      go_wp2_with (first | (go_at_call 181;refine (de _ _).mono ?_;rintro e b ⟨rfl,rfl⟩) | (go_at_call 182;refine (dv _ _).mono ?_;rintro e b ⟨rfl,rfl⟩))
      go_round
      case rel=>exact ⟨k+1,by omega,by go_num,jQ p.out c.out⟩
      case measure=>simp [Y9];omega
     cases q:((x[k].toNat:Int) != 45)
     case false=>
      have c:H (qU x.data.toList k=YT):=by
       show _=_;rw [jP d.out g.out,m,o,q];rfl
      go_wp2_with (first | (go_at_call 181;refine (de _ _).mono ?_;rintro e b ⟨rfl,rfl⟩) | (go_at_call 182;refine (dv _ _).mono ?_;rintro e b ⟨rfl,rfl⟩))
      go_round
      case rel=>exact ⟨k+1,by omega,by go_num,jQ p.out c.out⟩
      case measure=>simp [Y9];omega
     cases t:((x[k].toNat:Int) != 95)
     case false=>
      have c:H (qU x.data.toList k=YT):=by
       show _=_;rw [jP d.out g.out,m,o,q,t];rfl
      go_wp2_with (first | (go_at_call 181;refine (de _ _).mono ?_;rintro e b ⟨rfl,rfl⟩) | (go_at_call 182;refine (dv _ _).mono ?_;rintro e b ⟨rfl,rfl⟩))
      go_round
      case rel=>exact ⟨k+1,by omega,by go_num,jQ p.out c.out⟩
      case measure=>simp [Y9];omega
     cases z:((x[k].toNat:Int) != 43)
     case false=>
      have c:H (qU x.data.toList k=YT):=by
       show _=_;rw [jP d.out g.out,m,o,q,t,z];rfl
      go_wp2_with (first | (go_at_call 181;refine (de _ _).mono ?_;rintro e b ⟨rfl,rfl⟩) | (go_at_call 182;refine (dv _ _).mono ?_;rintro e b ⟨rfl,rfl⟩))
      go_round
      case rel=>exact ⟨k+1,by omega,by go_num,jQ p.out c.out⟩
      case measure=>simp [Y9];omega
     cases X:((x[k].toNat:Int) != 46)
     case true=>
      have c:H (qU x.data.toList k=F):=by
       show _=_;rw [jP d.out g.out,m,o,q,t,z,X];rfl
      go_wp2_with (first | (go_at_call 181;refine (de _ _).mono ?_;rintro e b ⟨rfl,rfl⟩) | (go_at_call 182;refine (dv _ _).mono ?_;rintro e b ⟨rfl,rfl⟩))
      go_ret3
      exact fk.mk _ _ _ rfl (l.out (by rw [Dq (by rw [ag];exact r) c.out,Tt])) a.out
     cases q5:((x[k - 1].toNat:Int) == 46)
     case true=>
      have c:H (qU x.data.toList k=F):=by
       show _=_;rw [jP d.out g.out,m,o,q,t,z,X,q5];rfl
      go_wp2_with (first | (go_at_call 181;refine (de _ _).mono ?_;rintro e b ⟨rfl,rfl⟩) | (go_at_call 182;refine (dv _ _).mono ?_;rintro e b ⟨rfl,rfl⟩))
      go_ret3
      exact fk.mk _ _ _ rfl (l.out (by rw [Dq (by rw [ag];exact r) c.out,Tt])) a.out
     have c:H (qU x.data.toList k=YT):=by
      show _=_;rw [jP d.out g.out,m,o,q,t,z,X,q5];rfl
     go_wp2_with (first | (go_at_call 181;refine (de _ _).mono ?_;rintro e b ⟨rfl,rfl⟩) | (go_at_call 182;refine (dv _ _).mono ?_;rintro e b ⟨rfl,rfl⟩))
     go_round
     case rel=>exact ⟨k+1,by omega,by go_num,jQ p.out c.out⟩
     case measure=>simp [Y9];omega
    have HL:H (oM x.data.toList=YT):=
     OS (by rw [ag];exact V) (by rw [ag];exact W) C.out D.out B Q (λj hj=>p.out j (by rw [ag] at hj;omega))
    go_wp2_with fail
    refine (Cn y _ P.out).mono ?_;rintro e w2 ⟨rfl,hb⟩;go_wp2_with fail
    go_ret3
    exact fk.mk _ _ _ rfl (by rw [Y.out,HL.out,Z];rfl) (a.out.trans (by simpa using hb))
  have u:H (oM x.data.toList=F):=MO C.out D.out M;have O:=K M;clear M
  cases e0:((x[0].toNat:Int) == 46)
  case true=>
   go_wp2_with fail
   all_goals (go_ret3;exact fk.mk _ _ _ rfl (l.out (by rw [u.out,Tt])) a.out)
  cases e1:((x[x.size - 1].toNat:Int) == 46)
  case true=>
   go_wp2_with fail
   all_goals (go_ret3;exact fk.mk _ _ _ rfl (l.out (by rw [u.out,Tt])) a.out)
  exact absurd ⟨e0,e1⟩ O.out
 have u:H (oM x.data.toList=F):=MP (by rw [ag];exact U);have hb:(decide ((x.size:Int) < 1) || decide (20 < (x.size:Int)))=YT:=by simp;omega
 clear U;go_wp2_with fail
 all_goals (go_ret3;exact fk.mk _ _ _ rfl (l.out (by rw [u.out,Tt])) a.out)
def bL(l:QF):QF×Bool:=((dn l).1++64::(dn l).2.1,(dn l).2.2)
theorem pf(l:QF):(dn l).1.length<=20/\(dn l).2.1.length<=40:=by
 unfold dn
 split
 .rename_i h
  simp only [Rk] at h;obtain ⟨a,b⟩:=h;simp only [oc,fI,Rk,decide_eq_true_eq] at a b;simp only [Lib.toLowerA,RU];omega
 simp
theorem kO(l:QF)(w:QI)(p:l.length<=Y7):Y8 prog 244 #[T (bs l)] w λe s=>e=YX (YY #[T (bs (bL l).1),YW (bL l).2])/\Y6 w.heap.size w s:=by
 have a:=oV (bs l) w (by rw [aj];exact p);go_enter func244,ntmps244;go_wp2_with fail
 refine a.mono ?_;rintro e t ⟨x,y,f,rfl,c,i⟩;obtain ⟨d,rfl⟩:∃d,x=bs d:=⟨_,(Bu x).symm⟩;obtain ⟨g,rfl⟩:∃g,y=bs g:=⟨_,(Bu y).symm⟩;rw [ao,ao,ao] at c;have b:=pf l;rw [c] at b;obtain ⟨j,k⟩:=b;have q:(bs d).size<=20:=by rw [aj];exact j
 have r:(bs g).size<=40:=by rw [aj];exact k
 have h:=K c;have m:=K i;clear c i j k a;go_wp2_with fail
 have n:bs d++(⟨#[64]⟩:QL)++bs g=bs (bL l).1:=by
  rw [show (⟨#[64]⟩:QL)=bs [64] from rfl,aQ,aQ];unfold bL;rw [h.out];simp
 have o:f=(bL l).2:=by unfold bL;rw [h.out]
 rw [n,o];go_ret2
 exact ⟨rfl,m.out⟩
def cm(l:QF):Bool:=(bL l).2 && ((bL l).1 == l)
def sO(l:List QF)(k:Nat):Bool:=(List.range k).all λj=> !(l.getD j [] == l.getD k [])
def iV(l:List QF)(k:Nat):Bool:=cm (l.getD k []) && sO l k
def bZ(n T:Nat)(m:aX):Bool:=decide (m.id=n+1) && decide (T<=m.time) && decide (m.time<=1000000000) && decide (1<=m.xd.length) && decide (m.xd.length<=10) && decide (m.body.length<=1000) && (m.xk.isEmpty || cm m.xk) && (List.range m.xd.length).all (iV m.xd)
theorem eA{n k:Nat}{q:Nat->Bool}(h:k < n)(b:q k=F):(List.range n).all q=F:=by
 cases a:(List.range n).all q
 case false=>rfl
 have:=Rb.1 a k (Q8.2 h);rw [b] at this;cases this
theorem lG{k:Nat}{q:Nat->Bool}:(List.range (k+1)).all q=((List.range k).all q && q k):=by
 rw [Ui,List.all_append];simp
theorem ic{l:List QF}{k:Nat}(h:k < l.length):l.getD k []=l[k]:=by
 rw [Q5,Re h];rfl
theorem gi(a b:QF):((bs a).toList == (bs b).toList)=(a == b):=by
 rw [SF,SF,ao,ao]
theorem Ba(p n c mH:Nat)(aL:QK)(m:aX)(v:QJ)(w:QI)(hL:w.cell? ⟨p,0,N⟩=S (L aL n mH))(hT:w.cell? ⟨p,1,N⟩=S (I J c))(hn:n<=1048576)(_:c<=4294967295)(hp:p < w.heap.size)(h:bg w v m.xd.length 1 (ah m.xd))(hz:dJ m):Y8 prog 184 #[YV (S ⟨p,0,N⟩),.agg (bh m v)] w λe Q=>e=YX (YW (bZ n c m))/\Y6 w.heap.size w Q:=by
 obtain ⟨u,f,o,d,g⟩:=m;obtain ⟨z1,z2,z3,z4,z5,z6⟩:=hz;simp only at h z1 z2 z3 z4 z5 z6;obtain ⟨a,B,rfl,_⟩:=h.one;have HH:=Lib.hid h;have b1:=Lib.hid z5;clear h z5;simp only [bh];have sF:=aj o;have sB:=aj g;obtain ⟨D,a0⟩:=QE (w.alloc (YU #[I J u,I J f,T (bs o),L a d.length B,T (bs g)] 91));have b7:D.heap.size=w.heap.size+1:=by rw [<-a0];simp
 have a1:=QG a0;have hx:∀j:Nat,D.cell? ⟨w.heap.size,j,N⟩=(#[I J u,I J f,T (bs o),L a d.length B,T (bs g)]:Array QJ)[j]? :=λj=>by rw [<-a0];exact World.cell?_alloc_mark w _ 91 (0,0) j
 have L0:D.cell? ⟨p,0,N⟩=S (L aL n mH):=(a1.cell hp).trans hL;have T0:D.cell? ⟨p,1,N⟩=S (I J c):=(a1.cell hp).trans hT;have k0:D.cell? ⟨w.heap.size,0,N⟩=S (I J u):=hx 0;have k1:D.cell? ⟨w.heap.size,1,N⟩=S (I J f):=hx 1;have k2:D.cell? ⟨w.heap.size,2,N⟩=S (T (bs o)):=hx 2;have k3:D.cell? ⟨w.heap.size,3,N⟩=S (L a d.length B):=hx 3;have k4:D.cell? ⟨w.heap.size,4,N⟩=S (T (bs g)):=hx 4;have HX:H (∀Q:QI,Y6 (w.heap.size+1) D Q->∀j:Nat,Q.cell? ⟨w.heap.size,j,N⟩=(#[I J u,I J f,T (bs o),L a d.length B,T (bs g)]:Array QJ)[j]?):=Lib.hid (λQ hb j=>(hb.cell (show w.heap.size < w.heap.size+1 by omega)).trans (hx j));have q:=Lib.hid a1;have HL:=Lib.hid hL;have HT:=Lib.hid hT;clear hx a1 hL hT;go_enter func184,ntmps184;go_wp2_with fail
 clear a0;obtain ⟨N1,b2,d5⟩:∃N1:Int,N1=(n:Int)+1/\IntKind.i64.wrap ((n:Int)+1)=N1:=⟨_,rfl,by rw [QY];omega⟩
 have t:=Lib.hid b2;clear b2
 cases c1:((u:Int) != N1)
 case true=>
  have V:H (bZ n c ⟨u,f,o,d,g⟩=false):=Lib.hid (by
   have E:¬u=n+1:=by have X:=t.out;simp at c1;omega
   unfold bZ
   simp only [decide_eq_false (show ¬(u=n+1) by omega),Tt])
  go_quiet (fail)
  go_wp2_with fail
  go_ret;exact ⟨by rw [V.out];rfl,(q.out.trans (an _ _ _))⟩
 cases c2:decide (f < c)
 case true=>
  have V:H (bZ n c ⟨u,f,o,d,g⟩=false):=Lib.hid (by
   have E:f < c:=by have X:=t.out;simp at c2;omega
   unfold bZ
   simp only [decide_eq_false (show ¬(c<=f) by omega),Tt,SG])
  go_quiet (fail)
  go_wp2_with fail
  go_ret;exact ⟨by rw [V.out];rfl,(q.out.trans (an _ _ _))⟩
 cases c3:decide (1000000000 < (f:Int))
 case true=>
  have V:H (bZ n c ⟨u,f,o,d,g⟩=false):=Lib.hid (by
   have E:1000000000 < f:=by have X:=t.out;simp at c3;omega
   unfold bZ
   simp only [decide_eq_false (show ¬(f<=1000000000) by omega),Tt,SG])
  go_quiet (fail)
  go_wp2_with fail
  go_ret;exact ⟨by rw [V.out];rfl,(q.out.trans (an _ _ _))⟩
 cases c4:decide ((d.length:Int) < 1)
 case true=>
  have V:H (bZ n c ⟨u,f,o,d,g⟩=false):=Lib.hid (by
   have E:d.length < 1:=by have X:=t.out;simp at c4;omega
   unfold bZ
   simp only [decide_eq_false (show ¬(1<=d.length) by omega),Tt,SG])
  go_quiet (fail)
  go_wp2_with fail
  go_ret;exact ⟨by rw [V.out];rfl,(q.out.trans (an _ _ _))⟩
 cases c5:decide (10 < (d.length:Int))
 case true=>
  have V:H (bZ n c ⟨u,f,o,d,g⟩=false):=Lib.hid (by
   have E:10 < d.length:=by have X:=t.out;simp at c5;omega
   unfold bZ
   simp only [decide_eq_false (show ¬(d.length<=10) by omega),Tt,SG])
  go_quiet (fail)
  go_wp2_with fail
  go_ret;exact ⟨by rw [V.out];rfl,(q.out.trans (an _ _ _))⟩
 cases c6:decide (1000 < (g.length:Int))
 case true=>
  have V:H (bZ n c ⟨u,f,o,d,g⟩=false):=Lib.hid (by
   have E:1000 < g.length:=by have X:=t.out;simp at c6;omega
   unfold bZ
   simp only [decide_eq_false (show ¬(g.length<=1000) by omega),Tt,SG])
  go_quiet (fail)
  go_wp2_with fail
  go_ret;exact ⟨by rw [V.out];rfl,(q.out.trans (an _ _ _))⟩
 have HG:H (bZ n c ⟨u,f,o,d,g⟩=((o.isEmpty || cm o) && (List.range d.length).all (iV d))):=Lib.hid (by
  unfold bZ;have c0:u=n+1:=by have X:=t.out;simp at c1;omega
  have c7:c<=f:=by have X:=t.out;simp at c2;omega
  have c8:f<=1000000000:=by have X:=t.out;simp at c3;omega
  have c9:1<=d.length:=by have X:=t.out;simp at c4;omega
  have d0:d.length<=10:=by have X:=t.out;simp at c5;omega
  have d1:g.length<=1000:=by have X:=t.out;simp at c6;omega
  simp only [decide_eq_true c0,decide_eq_true c7,decide_eq_true c8,decide_eq_true c9,decide_eq_true d0,decide_eq_true d1,Sy])
 go_quiet (fail)
 go_wp2_with fail
 refine (kO o _ (by unfold maxLen;omega)).mono ?_;rintro e w1 ⟨rfl,b3⟩;have G:H (Y6 (w.heap.size+1) D w1):=Lib.hid ((an nq D (w.heap.size+1)).trans (b3.mono (by simp;omega)));have x2:w1.cell? ⟨w.heap.size,2,N⟩=S (T (bs o)):=HX.out w1 G.out 2;have a3:=Lib.hid (show cm o=((bL o).2 && ((bL o).1 == o)) from rfl)
 generalize (bL o).1=K at *
 generalize (bL o).2=F at *
 clear b3 k0 k1 k2 k3 k4 L0 T0 c1 c2 c3 c4 c5 c6;have sK:=aj K
 by_cases hE:o=[]
 .have d2:(bs o).toList=[]:=by rw [hE,SF];rfl
  have a2:H ((o.isEmpty || cm o)=YT):=Lib.hid (by rw [hE];rfl);clear hE;go_wp2_with fail
  go_loopw [7] (λi Q=>∃k:Nat,k<=d.length/\i=I J k/\H ((List.range k).all (iV d)=YT)/\H (Y6 (w.heap.size+1) D Q)) (λi _=>d.length - (Y9 i).toNat)
  case atStart=>exact ⟨0,QS _,rfl,Lib.hid rfl,G⟩
  case round=>
   clear G x2;obtain ⟨k,hk,rfl,HA,U⟩:=hrel;have k3:wr.cell? ⟨w.heap.size,3,N⟩=S (L a d.length B):=HX.out wr U.out 3
   by_cases l:k < d.length
   .have b5:(k:Int) < (d.length:Int):=by omega
    obtain ⟨b,s,rfl,W,P⟩:=(HH.out.below (q.out.trans (U.out.mono (by omega)))).elem k l;have ec:wr.cell? ⟨b,s+k,N⟩=S (T (bs d[k])):=by rw [P];simp [ah,l]
    have b0:=b1.out d[k] (QU l);have HC:=Lib.hid (kO d[k] wr (by unfold maxLen;omega));clear P b0;go_wp2_with fail
    refine HC.out.mono ?_;rintro e w2 ⟨rfl,O⟩;have x:H (Y6 (w.heap.size+1) D w2):=Lib.hid (iI b7 U.out O);have y3:w2.cell? ⟨w.heap.size,3,N⟩=S (L (S ⟨b,s,N⟩) d.length B):=HX.out w2 x.out 3;have a5:w2.cell? ⟨b,s+k,N⟩=S (T (bs d[k])):=(O.cell W).trans ec;have z:=Lib.hid (show cm d[k]=((bL d[k]).2 && ((bL d[k]).1 == d[k])) from rfl)
    generalize (bL d[k]).1=K2 at *
    generalize (bL d[k]).2=F2 at *
    have d3:=aj K2;clear O k3 ec HC U
    cases F2
    case false=>
     have r:H (bZ n c ⟨u,f,o,d,g⟩=false):=Lib.hid (by rw [HG.out,eA l (by unfold iV;rw [ic l,z.out];rfl),SG]);go_wp2_with fail
     go_ret;exact ⟨by rw [r.out];rfl,q.out.trans (x.out.mono (by omega))⟩
    cases hq:((bs K2).toList == (bs d[k]).toList)
    case false=>
     have r:H (bZ n c ⟨u,f,o,d,g⟩=false):=Lib.hid (by rw [HG.out,eA l (by unfold iV;rw [ic l,z.out, <-gi,hq];rfl),SG]);go_wp2_with fail
     go_ret;exact ⟨by rw [r.out];rfl,q.out.trans (x.out.mono (by omega))⟩
    have a4:H (cm d[k]=YT):=Lib.hid (by rw [z.out, <-gi,hq];rfl);go_wp2_with fail
    go_loopw [10] (λjv Q=>∃j:Nat,j<=k/\jv=I J j/\H ((List.range j).all (λi=> !(d.getD i [] == d.getD k []))=YT)/\H (Y6 (w.heap.size+1) D Q)) (λjv _=>k - (Y9 jv).toNat)
    case atStart=>exact ⟨0,QS _,rfl,Lib.hid rfl,x⟩
    case round=>
     clear x y3 a5 hq W;obtain ⟨j,hj,rfl,R,y⟩:=hrel
     by_cases a8:j < k
     .have C:j < d.length:=by omega
      have b4:(j:Int) < (d.length:Int):=by omega
      have y3:wr.cell? ⟨w.heap.size,3,N⟩=S (L (S ⟨b,s,N⟩) d.length B):=HX.out wr y.out 3;have A:=HH.out.below (q.out.trans (y.out.mono (by omega)))
      have ek:wr.cell? ⟨b,s+k,N⟩=S (T (bs d[k])):=by
       obtain ⟨b',Z,e,_,P⟩:=A.elem k l;injection e with e;injection e with e1 e2;subst e1 e2;rw [P];simp [ah,l]
      have ej:wr.cell? ⟨b,s+j,N⟩=S (T (bs d[j])):=by
       obtain ⟨b',Z,e,_,P⟩:=A.elem j C;injection e with e;injection e with e1 e2;subst e1 e2;rw [P];simp [ah,C]
      clear A
      cases Y:((bs d[j]).toList == (bs d[k]).toList)
      case true=>
       have r:H (bZ n c ⟨u,f,o,d,g⟩=false):=Lib.hid (by
        rw [HG.out,eA l (by unfold iV;rw [show sO d k=false from eA a8 (by rw [ic C,ic l, <-gi,Y];rfl),SG]),SG])
       go_wp2_with fail
       go_quiet (fail)
       go_wp2_with fail
       go_ret;exact ⟨by rw [r.out];rfl,q.out.trans ((y.out.trans (an _ _ _)).mono (by omega))⟩
      have M:H ((List.range (j+1)).all (λi=> !(d.getD i [] == d.getD k []))=YT):=Lib.hid (by
       rw [lG,R.out,ic C,ic l, <-gi,Y];rfl)
      go_wp2_with fail
      go_quiet (fail)
      go_wp2_with fail
      exact ⟨⟨j+1,by omega,by go_num,M,Lib.hid (y.out.trans (an _ _ _))⟩,by simp [Y9];omega⟩
     have a7:j=k:=by omega
     subst a7
     have M:H ((List.range (j+1)).all (iV d)=YT):=Lib.hid (by
      rw [lG,HA.out,Sy];unfold iV;rw [ic l,a4.out,Sy]
      exact R.out)
     go_wp2_with fail
     exact ⟨⟨j+1,by omega,by go_num,M,y⟩,by simp [Y9];omega⟩
   have a9:k=d.length:=by omega
   subst a9;have r:H (bZ n c ⟨u,f,o,d,g⟩=YT):=Lib.hid (by rw [HG.out,HA.out,SC];exact a2.out);go_wp2_with fail
   go_ret;exact ⟨by rw [r.out];rfl,q.out.trans (U.out.mono (by omega))⟩
 have d2:¬(bs o).toList=[]:=by rw [SF,ao];exact hE
 have d4:(bs o).toList.isEmpty=false:=by rw [SF,ao];simpa using hE
 have a6:o.isEmpty=false:=by simpa using hE
 cases F
 case false=>
  have r:H (bZ n c ⟨u,f,o,d,g⟩=false):=Lib.hid (by rw [HG.out,a3.out,a6];rfl);go_wp2_with fail
  go_ret;exact ⟨by rw [r.out];rfl,q.out.trans (G.out.mono (by omega))⟩
 cases b6:((bs K).toList == (bs o).toList)
 case false=>
  have r:H (bZ n c ⟨u,f,o,d,g⟩=false):=Lib.hid (by rw [HG.out,a3.out,a6, <-gi,b6];rfl);go_wp2_with fail
  go_ret;exact ⟨by rw [r.out];rfl,q.out.trans (G.out.mono (by omega))⟩
 have a2:H ((o.isEmpty || cm o)=YT):=Lib.hid (by rw [a3.out,a6, <-gi,b6];rfl);go_wp2_with fail
 go_loopw [7] (λi Q=>∃k:Nat,k<=d.length/\i=I J k/\H ((List.range k).all (iV d)=YT)/\H (Y6 (w.heap.size+1) D Q)) (λi _=>d.length - (Y9 i).toNat)
 case atStart=>exact ⟨0,QS _,rfl,Lib.hid rfl,G⟩
 case round=>
  clear G x2;obtain ⟨k,hk,rfl,HA,U⟩:=hrel;have k3:wr.cell? ⟨w.heap.size,3,N⟩=S (L a d.length B):=HX.out wr U.out 3
  by_cases l:k < d.length
  .have b5:(k:Int) < (d.length:Int):=by omega
   obtain ⟨b,s,rfl,W,P⟩:=(HH.out.below (q.out.trans (U.out.mono (by omega)))).elem k l;have ec:wr.cell? ⟨b,s+k,N⟩=S (T (bs d[k])):=by rw [P];simp [ah,l]
   have b0:=b1.out d[k] (QU l);have HC:=Lib.hid (kO d[k] wr (by unfold maxLen;omega));clear P b0;go_wp2_with fail
   refine HC.out.mono ?_;rintro e w2 ⟨rfl,O⟩;have x:H (Y6 (w.heap.size+1) D w2):=Lib.hid (iI b7 U.out O);have y3:w2.cell? ⟨w.heap.size,3,N⟩=S (L (S ⟨b,s,N⟩) d.length B):=HX.out w2 x.out 3;have a5:w2.cell? ⟨b,s+k,N⟩=S (T (bs d[k])):=(O.cell W).trans ec;have z:=Lib.hid (show cm d[k]=((bL d[k]).2 && ((bL d[k]).1 == d[k])) from rfl)
   generalize (bL d[k]).1=K2 at *
   generalize (bL d[k]).2=F2 at *
   have d3:=aj K2;clear O k3 ec HC U
   cases F2
   case false=>
    have r:H (bZ n c ⟨u,f,o,d,g⟩=false):=Lib.hid (by rw [HG.out,eA l (by unfold iV;rw [ic l,z.out];rfl),SG]);go_wp2_with fail
    go_ret;exact ⟨by rw [r.out];rfl,q.out.trans (x.out.mono (by omega))⟩
   cases hq:((bs K2).toList == (bs d[k]).toList)
   case false=>
    have r:H (bZ n c ⟨u,f,o,d,g⟩=false):=Lib.hid (by rw [HG.out,eA l (by unfold iV;rw [ic l,z.out, <-gi,hq];rfl),SG]);go_wp2_with fail
    go_ret;exact ⟨by rw [r.out];rfl,q.out.trans (x.out.mono (by omega))⟩
   have a4:H (cm d[k]=YT):=Lib.hid (by rw [z.out, <-gi,hq];rfl);go_wp2_with fail
   go_loopw [10] (λjv Q=>∃j:Nat,j<=k/\jv=I J j/\H ((List.range j).all (λi=> !(d.getD i [] == d.getD k []))=YT)/\H (Y6 (w.heap.size+1) D Q)) (λjv _=>k - (Y9 jv).toNat)
   case atStart=>exact ⟨0,QS _,rfl,Lib.hid rfl,x⟩
   case round=>
    clear x y3 a5 hq W;obtain ⟨j,hj,rfl,R,y⟩:=hrel
    by_cases a8:j < k
    .have C:j < d.length:=by omega
     have b4:(j:Int) < (d.length:Int):=by omega
     have y3:wr.cell? ⟨w.heap.size,3,N⟩=S (L (S ⟨b,s,N⟩) d.length B):=HX.out wr y.out 3;have A:=HH.out.below (q.out.trans (y.out.mono (by omega)))
     have ek:wr.cell? ⟨b,s+k,N⟩=S (T (bs d[k])):=by
      obtain ⟨b',Z,e,_,P⟩:=A.elem k l;injection e with e;injection e with e1 e2;subst e1 e2;rw [P];simp [ah,l]
     have ej:wr.cell? ⟨b,s+j,N⟩=S (T (bs d[j])):=by
      obtain ⟨b',Z,e,_,P⟩:=A.elem j C;injection e with e;injection e with e1 e2;subst e1 e2;rw [P];simp [ah,C]
     clear A
     cases Y:((bs d[j]).toList == (bs d[k]).toList)
     case true=>
      have r:H (bZ n c ⟨u,f,o,d,g⟩=false):=Lib.hid (by
       rw [HG.out,eA l (by unfold iV;rw [show sO d k=false from eA a8 (by rw [ic C,ic l, <-gi,Y];rfl),SG]),SG])
      go_wp2_with fail
      go_quiet (fail)
      go_wp2_with fail
      go_ret;exact ⟨by rw [r.out];rfl,q.out.trans ((y.out.trans (an _ _ _)).mono (by omega))⟩
     have M:H ((List.range (j+1)).all (λi=> !(d.getD i [] == d.getD k []))=YT):=Lib.hid (by
      rw [lG,R.out,ic C,ic l, <-gi,Y];rfl)
     go_wp2_with fail
     go_quiet (fail)
     go_wp2_with fail
     exact ⟨⟨j+1,by omega,by go_num,M,Lib.hid (y.out.trans (an _ _ _))⟩,by simp [Y9];omega⟩
    have a7:j=k:=by omega
    subst a7
    have M:H ((List.range (j+1)).all (iV d)=YT):=Lib.hid (by
     rw [lG,HA.out,Sy];unfold iV;rw [ic l,a4.out,Sy]
     exact R.out)
    go_wp2_with fail
    exact ⟨⟨j+1,by omega,by go_num,M,y⟩,by simp [Y9];omega⟩
  have a9:k=d.length:=by omega
  subst a9;have r:H (bZ n c ⟨u,f,o,d,g⟩=YT):=Lib.hid (by rw [HG.out,HA.out,SC];exact a2.out);go_wp2_with fail
  go_ret;exact ⟨by rw [r.out];rfl,q.out.trans (U.out.mono (by omega))⟩
def jY(out:List Bool)(l:List Nat)(i:Nat):Bool:=decide (l.getD i 0 < out.length) && !(out.getD (l.getD i 0) F) && (decide (i=0) || decide (l.getD (i - 1) 0 < l.getD i 0))
def gy(S:aa)(id:Nat)(l:List Nat):Bool:=decide (1<=id) && decide (id<=S.items.length) && decide (1<=l.length) && (List.range l.length).all (jY ((S.items.map (·.out)).getD (id - 1) []) l)
theorem ud(V p Q:Nat)(d:aa)(v:QJ)(f:List Nat)(w:QI)(h:bz V w p d)(hn:d.items.length<=1048576)(e5:Q<=4294967295)(hv:bg w v f.length 1 (bc f))(e7:f.length<=255)(t:∀x∈f,x<=255):Y8 prog 188 #[YV (S ⟨p,0,N⟩),I J Q,v] w λe w'=>e=YX (YW (gy d Q f))/\Y6 w.heap.size w w':=by
 obtain ⟨vL,l,hl,hp,hP,u,c4,a2⟩:=h;obtain ⟨a,d9,rfl,_⟩:=hv.one;have a4:l.length=d.items.length:=by rw [<-hl,RU]
 have c7:∃aL cL,vL=L aL l.length cL:=by
  rcases u.2 with ⟨e,h0⟩ | ⟨g,cp,W,e,_⟩
  .exact ⟨_,_,by rw [h0];exact e⟩
  exact ⟨_,_,e⟩
 obtain ⟨aL,cL,rfl⟩:=c7;have P0:w.cell? ⟨p,0,N⟩=S (L aL l.length cL):=Q3 hP _;have d0:(f.length:Int)<=255:=by omega
 have e6:(l.length:Int)<=1048576:=by omega
 have U:=K u;have b0:=K a2;have HL:=K hl;have b2:=K a4;have HV:=K hv;have R:=K t;have d6:=K hP;clear u a2 hl a4 hv t hP c4 hn;go_enter func188,ntmps188
 cases c1:decide ((Q:Int) < 1)
 case true=>
  have q:H (gy d Q f=F):=K (by unfold gy;rw [decide_eq_false (by simp at c1;omega)];rfl);go_wp2_with fail
  go_ret;exact ⟨by rw [q.out];rfl,QQ _ _⟩
 obtain ⟨c,rfl⟩:∃c,Q=c+1:=⟨Q - 1,by simp at c1;omega⟩
 cases c2:decide (l.length < c+1)
 case true=>
  have q:H (gy d (c+1) f=F):=K (by unfold gy;rw [decide_eq_false (show ¬(c+1<=d.items.length) by rw [<-b2.out];simp at c2;omega)];simp);have d8:(l.length:Int) < (c:Int)+1:=by simp at c2;omega
  go_wp2_with fail
  go_ret;exact ⟨by rw [q.out];rfl,QQ _ _⟩
 have M:c < l.length:=by simp at c2;omega
 have e0:(c:Int) < (l.length:Int):=by omega
 by_cases c3:f.length=0
 .have q:H (gy d (c+1) f=F):=K (by unfold gy;rw [c3];simp);go_wp2_with fail
  go_ret;exact ⟨by rw [q.out];rfl,QQ _ _⟩
 obtain ⟨g,rfl,e4,m⟩:∃g,aL=S ⟨g,0,N⟩/\g < w.heap.size/\∀i,i < 6->w.cell? ⟨g,c * 6+i,N⟩=(cE l[c])[i]? :=by
  rcases U.out.2 with ⟨_,h0⟩ | ⟨g,cp,W,e,_,hg,_,_,e8,c6⟩
  .omega
  injection e with e1 _ _;refine ⟨g,e1,dq hg,λi hi=>?_⟩;rw [Q3 hg, <-mh l c i M hi, <-c6,Sk (by omega),Sl]
 obtain ⟨Y,b4,Z,a0,b5,a1⟩:=b0.out l[c] (QU M);have g0:=m 0 (by decide);have g1:=m 1 (by decide);have g2:=m 2 (by decide);have g3:=m 3 (by decide);have g4:=m 4 (by decide);have g5:=m 5 (by decide);simp only [cE,UG,UH,QT] at g0 g1 g2 g3 g4 g5
 have HG:H (gy d (c+1) f=(List.range f.length).all (jY l[c].1.out f)):=K (by
  unfold gy;rw [<-HL.out,RU,decide_eq_true (show 1<=c+1 by omega),decide_eq_true (show c+1<=l.length by omega),decide_eq_true (show 1<=f.length by omega),Rg,show c+1 - 1=c by omega,Q5,TV,Re M]
  rfl)
 obtain ⟨gt,ct,et⟩:∃gt ct,l[c].2.1= .slice (S ⟨gt,0,N⟩) l[c].1.m.xd.length ct:=by
  rcases Y.2 with ⟨_,h0⟩ | ⟨g,cp,W,e,_⟩
  .omega
  exact ⟨g,cp,e⟩
 rw [et] at g3;have HO:=K Z;have c5:(l[c].1.out.length:Int)<=255:=by rw [a0];have:=a1.2.2.2.1;omega
 generalize l[c].1.out=out at *
 generalize l[c].1.m=mm at *
 generalize l[c].2.2=bo at *
 have d1:decide ((c:Int)+1 < 1)=F:=by simp;omega
 have d2:decide ((l.length:Int) < (c:Int)+1)=F:=by simp;omega
 have d3:((f.length:Int) == 0)=F:=by rw [beq_eq_false_iff_ne];omega
 clear m Y b4 Z a0 b5 a1 et c1 c2 c3;obtain ⟨W1,z⟩:=QE (w.alloc (YU #[I J mm.id,I J mm.time,T (bs mm.xk),L (S ⟨gt,0,N⟩) mm.xd.length ct,T (bs mm.body),L (S ⟨bo,0,N⟩) out.length out.length] 147));have a5:W1.heap.size=w.heap.size+1:=by rw [<-z];simp
 have O:=QG z;have a6:W1.cell? ⟨w.heap.size,5,N⟩=S (L (S ⟨bo,0,N⟩) out.length out.length):=by rw [<-z];exact World.cell?_alloc_mark w _ 147 (0,0) 5
 have b3:=K a6;have r:=K O;have d7:=K a5;clear O a5 a6;go_wp2_with fail
 clear z d1 d2 d3 g0 g1 g2 g3 g4 g5 P0;go_loopw [8] (λi w'=>∃k:Nat,k<=f.length/\i=I J k/\H ((List.range k).all (jY out f)=YT)/\H (Y6 (w.heap.size+1) W1 w')) (λi _=>f.length - (Y9 i).toNat)
 case atStart=>exact ⟨0,QS _,rfl,K rfl,K (QQ _ _)⟩
 case round=>
  obtain ⟨k,hk,rfl,HA,C⟩:=hrel
  by_cases n:k < f.length
  .have c9:(k:Int) < (f.length:Int):=by omega
   have A:Y6 w.heap.size w wr:=r.out.trans (C.out.mono (by omega));obtain ⟨b,a8,rfl,e3,hc⟩:=(HV.out.below A).elem k n;have ek:wr.cell? ⟨b,a8+k,N⟩=S (I J (f[k]:Int)):=by rw [hc];simp [bc,n]
   have x5:wr.cell? ⟨w.heap.size,5,N⟩=S (L (S ⟨bo,0,N⟩) out.length out.length):=(C.out.cell (show w.heap.size < w.heap.size+1 by omega)).trans b3.out;have c0:(f[k]:Int)<=255:=by have:=R.out f[k] (QU n);omega
   have o:=K (show f.getD k 0=f[k] by rw [Q5,Re n];rfl)
   have a9:H (∀j,j < out.length->wr.cell? ⟨bo,j,N⟩=S (YW (out.getD j F))):=K (λj D=>by
    rw [A.cell (show bo < w.heap.size from dq HO.out),Q3 HO.out]
    simp [fO,Q5,D])
   have G:H (∀j (D:j < f.length),wr.cell? ⟨b,a8+j,N⟩=S (I J (f[j]:Int))):=K (λj D=>by
    obtain ⟨b',d5,e,_,b6⟩:=(HV.out.below A).elem j D;injection e with e;injection e with e1 e2;subst e1 e2
    rw [b6];simp [bc,D])
   obtain ⟨x,hx⟩:=QE (f[k]);rw [hx] at ek c0 o;clear hc A
   cases t1:decide (out.length<=x)
   case true=>
    have O:out.length<=x:=by simpa using t1
    have q:H (gy d (c+1) f=F):=K (by rw [HG.out];exact eA n (by unfold jY;rw [o.out,decide_eq_false (by omega)];rfl));go_wp2_with fail
    go_quiet (fail)
    go_wp2_with fail
    go_ret;exact ⟨by rw [q.out];rfl,r.out.trans ((C.out.trans (an _ _ _)).mono (by omega))⟩
   have P:x < out.length:=by simpa using t1
   have d4:(x:Int) < (out.length:Int):=by omega
   have X:=a9.out x P
   cases s:out.getD x F
   case true=>
    have q:H (gy d (c+1) f=F):=K (by rw [HG.out];exact eA n (by unfold jY;rw [o.out,s];simp));rw [s] at X;go_wp2_with fail
    go_quiet (fail)
    go_wp2_with fail
    go_ret;exact ⟨by rw [q.out];rfl,r.out.trans ((C.out.trans (an _ _ _)).mono (by omega))⟩
   rw [s] at X
   by_cases B:k=0
   .have z0:decide ((0:Int) < (k:Int))=F:=by simp;omega
    have z2:decide (0 < k)=F:=by simp;omega
    have HN:H ((List.range (k+1)).all (jY out f)=YT):=K (by
     rw [lG,HA.out];unfold jY;rw [o.out,s,decide_eq_true P,decide_eq_true B];rfl)
    clear B;go_wp2_with fail
    go_quiet (fail)
    go_wp2_with fail
    exact ⟨⟨k+1,by omega,by go_num,HN,K (C.out.trans (an _ _ _))⟩,by simp [Y9];omega⟩
   have z0:decide ((0:Int) < (k:Int))=YT:=by simp;omega
   have z2:decide (0 < k)=YT:=by simp;omega
   have z3:0 < k:=by omega
   have z1:(0:Int) < (k:Int):=by omega
   obtain ⟨j,D⟩:∃j,k=j+1:=⟨k - 1,by omega⟩
   have a3:j < f.length:=by omega
   have c8:(j:Int) < (f.length:Int):=by omega
   have e9:IntKind.i64.wrap ((k:Int) - 1)=(j:Int):=by rw [QY];omega
   have ej:=G.out j a3;have E:=K (show f.getD (k - 1) 0=f[j] by rw [D,show j+1 - 1=j by omega,Q5,Re a3];rfl);obtain ⟨y,hy⟩:=QE (f[j]);rw [hy] at ej E;have b1:=K B;clear B D
   cases t3:decide (x<=y)
   case true=>
    have a7:x<=y:=by simpa using t3
    have q:H (gy d (c+1) f=F):=K (by rw [HG.out];exact eA n (by unfold jY;rw [o.out,E.out,decide_eq_false b1.out,decide_eq_false (show ¬y < x by omega)];simp));go_wp2_with fail
    go_quiet (fail)
    go_wp2_with fail
    go_ret;exact ⟨by rw [q.out];rfl,r.out.trans ((C.out.trans (an _ _ _)).mono (by omega))⟩
   have a7:y < x:=by simpa using t3
   have HN:H ((List.range (k+1)).all (jY out f)=YT):=K (by
    rw [lG,HA.out];unfold jY;rw [o.out,E.out,s,decide_eq_true P,decide_eq_true a7];simp)
   go_wp2_with fail
   go_quiet (fail)
   go_wp2_with fail
   exact ⟨⟨k+1,by omega,by go_num,HN,K (C.out.trans (an _ _ _))⟩,by simp [Y9];omega⟩
  have b7:k=f.length:=by omega
  subst b7;have q:H (gy d (c+1) f=YT):=K (by rw [HG.out];exact HA.out);go_wp2_with fail
  go_ret;exact ⟨by rw [q.out];rfl,r.out.trans (C.out.mono (by omega))⟩
theorem aA.drew{b:Nat}{w a:QI}(h:aA b w a):aA b w a.drew:=⟨h.1,h.2,h.3.trans ⟨rfl,rfl,rfl⟩⟩
theorem aE.drew{a:List Za}{w b:QI}(h:aE a w b):aE a w b.drew:=⟨h.1,h.2,h.3.trans ⟨rfl,rfl,rfl⟩⟩
theorem dN{w:QI}{a b:Nat}{A B:Array QJ}{t u:Za}{y z:Nat×Nat}(d:w.heap[a]? =S (YU A t y))(c:w.heap[b]? =S (YU B u z))(h:t≠u):a≠b:=by
 intro e;subst e;rw [d] at c;injection c with c;injection c with _ c _;exact h c
def fE(o:List Bool)(l:List Nat):List Bool:=l.foldl (λo x=>o.set x YT) o
theorem lR(o:List Bool)(l:List Nat):(fE o l).length=o.length:=by
 induction l generalizing o with
 | nil=>rfl
 | cons x l ih=>show (fE (o.set x YT) l).length=_;rw [ih,Q4]
theorem FB(o:List Bool)(l:List Nat)(k:Nat)(h:k < l.length):fE o (l.take (k+1))=(fE o (l.take k)).set l[k] YT:=by
 unfold fE;rw [QV h,List.foldl_append];rfl
def aa.outs(S:aa)(K:Nat)(ps:List Nat):aa:=⟨S.items.modify K (λx=>⟨x.m,fE x.out ps⟩),S.time⟩
theorem J0(o:List Bool)(x:Nat):(fO o).toArray.setIfInBounds x (YW YT)=(fO (o.set x YT)).toArray:=by
 simp [fO,List.map_set]
theorem JE{b:aa}{a:Nat}{c:List Nat}(h:gy b (a+1) c=YT):a < b.items.length/\∀j,j < c.length->c.getD j 0 < ((b.items.map (·.out)).getD a []).length:=by
 unfold gy at h;simp only [Rk,decide_eq_true_eq] at h;refine ⟨by omega,λj d=>?_⟩
 have:=Rb.1 h.2 j (Q8.2 d);unfold jY at this;simp only [Rk,decide_eq_true_eq] at this;exact this.1.1
theorem wU{l:List (fZ×QJ×Nat)}{a:Nat}(f:fZ->fZ):(l.modify a (λx=>(f x.1,x.2))).map (·.1)=(l.map (·.1)).modify a f/\(l.modify a (λx=>(f x.1,x.2))).map (·.2.2)=l.map (·.2.2):=by
 induction l generalizing a with
 | nil=>cases a <;> exact ⟨rfl,rfl⟩
 | cons x l ih=>
  cases a with
  | zero=>exact ⟨rfl,rfl⟩
  | succ a=>exact ⟨by simpa using (ih (a:=a)).1,by simpa using (ih (a:=a)).2⟩
theorem uO{l:List (fZ×QJ×Nat)}{a:Nat}(b:List Nat):dI (l.modify a (λx=>(⟨x.1.m,fE x.1.out b⟩,x.2)))=dI l:=by
 induction l generalizing a with
 | nil=>cases a <;> rfl
 | cons x l ih=>
  cases a with
  | zero=>show cE _++dI l=cE x++dI l;simp [cE,lR]
  | succ a=>exact congrArg (cE x++·) (ih (a:=a))
theorem Nu{c p a:Nat}{b:aa}{q:QJ}{l:List (fZ×QJ×Nat)}{w f:QI}{n:List Nat}(r:a < l.length)
  (B:l.map (·.1)=b.items) (C:c<=p) (z:w.heap[p]? =S (YU #[q,I J b.time] 129 (0,0))) (k:w.ownsRow c 147 6 q l.length (dI l)) (i:(l.map (·.2.2)).Nodup) (h:∀x∈l,og c w x)
  (A:f.heap[l[a].2.2]? =S (YU (fO (fE l[a].1.out n)).toArray 4 (0,0))) (s:aA l[a].2.2 w f) (v:Y6 c w f):
  bz c f p (b.outs a n)/\aE [4] w f/\Y6 c w f:=by
 have m:=h l[a] (QU r);have g:aE [4] w f:=(aE.refl _ w).same m.2.2.1 (by simp) s;refine ⟨⟨q,l.modify a (λx=>(⟨x.1.m,fE x.1.out n⟩,x.2)),?_,C,g.cells z (by decide),?_,?_,?_⟩,g,v⟩
 .rw [(wU (λx=>⟨x.m,fE x.out n⟩)).1,B];rfl
 .rw [List.length_modify,uO];exact aV g (by decide) k
 .rw [(wU (λx=>⟨x.m,fE x.out n⟩)).2];exact i
 intro y D;obtain ⟨j,o,rfl⟩:=List.mem_iff_getElem.1 D;rw [List.length_modify] at o;rw [List.getElem_modify]
 by_cases e:a=j
 .subst e;rw [if_pos rfl];exact ⟨aV g (by decide) m.1,m.2.1,A,by show (fE _ _).length=_;rw [lR];exact m.2.2.2.1,m.2.2.2.2⟩
 rw [if_neg e];have d:=h l[j] (QU o);refine ⟨aV g (by decide) d.1,d.2.1,?_,d.2.2.2⟩;rw [s.2 l[j].2.2 (λt=>e ?_)]
 .exact d.2.2.1
 have u:(l.map (·.2.2))[j]'(by simpa using o)=(l.map (·.2.2))[a]'(by simpa using r):=by simpa using t
 exact ((List.getElem_inj i).1 u).symm
theorem zN(m A p c:Nat)(d:aa)(v:QJ)(f:List Nat)(w:QI)(h:bz m w p d)(hn:d.items.length<=1048576)(hv:w.ownsRow A 3 1 v f.length (bc f))(c1:f.length<=255)(_hp256:∀x∈f,x<=255)(U:gy d (c+1) f=YT):Y8 prog 189 #[YV (S ⟨p,0,N⟩),I J ((c+1:Nat):Int),v] w λe s=>e=YX (YY #[])/\bz m s p (d.outs c f)/\aE [4] w s/\Y6 m w s:=by
 obtain ⟨vL,l,Z,hp,Y,r,R,C⟩:=h;have a8:l.length=d.items.length:=by rw [<-Z,RU]
 obtain ⟨a5,q⟩:=JE U;have t:c < l.length:=by omega
 have b7:(c:Int) < (l.length:Int):=by omega
 have c0:(l.length:Int)<=1048576:=by omega
 have b4:(f.length:Int)<=255:=by omega
 have a9:∃a P,v=L a f.length P:=by
  rcases hv.2 with ⟨e,h0⟩ | ⟨g,cp,n,e,_⟩
  .exact ⟨_,_,by rw [h0];exact e⟩
  exact ⟨_,_,e⟩
 obtain ⟨a,P,rfl⟩:=a9
 obtain ⟨g,X,rfl,B⟩:∃g X,vL=L (S ⟨g,0,N⟩) l.length X/\∃n,w.heap[g]? =S (YU n 147 (0,0))/\n.toList.take (l.length * 6)=dI l:=by
  rcases r.2 with ⟨_,h0⟩ | ⟨g,cp,n,e,_,B,_,_,_,y⟩
  .omega
  exact ⟨g,cp,e,n,B,y⟩
 obtain ⟨n,B,y⟩:=B;have o:=C l[c] (QU t)
 have z:((d.items.map (·.out)).getD c [])=l[c].1.out:=by
  rw [<-Z,Rg,Q5,TV,Re t];rfl
 rw [z] at q;have p0:w.cell? ⟨p,0,N⟩=S (L (S ⟨g,0,N⟩) l.length X):=Q3 Y _
 have g5:w.cell? ⟨g,c * 6+5,N⟩=S (.slice (S ⟨l[c].2.2,0,N⟩) l[c].1.out.length l[c].1.out.length):=by
  rw [Q3 B, <-Sl, <-Sk (show c * 6+5 < l.length * 6 by omega),y,mh l c 5 t (by decide)];rfl
 have b1:p≠l[c].2.2:=dN Y o.2.2.1 (by decide);have b0:g≠l[c].2.2:=dN B o.2.2.1 (by decide)
 have a3:H (∀j (hj:j < f.length),∃b,a=S ⟨b,0,N⟩/\b≠l[c].2.2/\w.cell? ⟨b,j,N⟩=S (I J (f[j]:Int))):=K (λj hj=>by
  rcases hv.2 with ⟨_,h0⟩ | ⟨b,cp,b2,e,_,hb,_,_,_,V⟩
  .omega
  injection e with e1 _ _;refine ⟨b,e1,dN hb o.2.2.1 (by decide),?_⟩;rw [Q3 hb, <-Sl, <-Sk (show j < f.length * 1 by omega),V]
  simp [bc,hj])
 have HD:=K (λ(s:QI) (h1:s.heap[l[c].2.2]? =S (YU (fO (fE l[c].1.out f)).toArray 4 (0,0))) (h2:aA l[c].2.2 w s) (h3:Y6 m w s)=>Nu t Z hp Y r R C h1 h2 h3);have HX:=K o.2.2.1;have a0:=K o.2.1;have M:=K q;have ho:(l[c].1.out.length:Int)<=255:=by rw [o.2.2.2.1];have:=o.2.2.2.2.2.2.2.2.1;omega
 generalize l[c].1.out=out at *
 generalize l[c].2.2=bo at *
 have a2:=K p0;have a1:=K g5;clear C R Z z o r Y B y hv U _hp256 q p0 g5 a5 a8;go_enter func189,ntmps189;go_wp2_with fail
 go_loopw [6] (λi s=>∃k:Nat,k<=f.length/\i=I J k/\H (s.heap[bo]? =S (YU (fO (fE out (f.take k))).toArray 4 (0,0)))/\H (aA bo w s)/\H (Y6 m w s)) (λi _=>f.length - (Y9 i).toNat)
 case atStart=>exact ⟨0,QS _,rfl,HX,K (aA.refl _ _),K (QQ _ _)⟩
 case round=>
  obtain ⟨k,hk,rfl,W,O,HB⟩:=hrel
  by_cases u:k < f.length
  .have b3:(k:Int) < (f.length:Int):=by omega
   obtain ⟨b,rfl,a6,Q⟩:=a3.out k u;have ek:wr.cell? ⟨b,k,N⟩=S (I J (f[k]:Int)):=(World.cell?_of_block (O.out.2 b a6)).trans Q;have p0:wr.cell? ⟨p,0,N⟩=S (L (S ⟨g,0,N⟩) l.length X):=(World.cell?_of_block (O.out.2 p b1)).trans a2.out;have g5:wr.cell? ⟨g,c * 6+5,N⟩=S (L (S ⟨bo,0,N⟩) out.length out.length):=(World.cell?_of_block (O.out.2 g b0)).trans a1.out;have E:=M.out k u;rw [Q5,Re u,TZ] at E;obtain ⟨x,o⟩:=QE (f[k]);have a4:=K o;rw [o] at E ek;have b6:(x:Int) < (out.length:Int):=by omega
   have cx:∃v,wr.cell? ⟨bo,x,N⟩=S v:=⟨_,by rw [Q3 W.out,Array.getElem?_eq_getElem (by simp [fO,lR];exact E)]⟩
   obtain ⟨vx,cx⟩:=cx;have fx:wr.frozen? ⟨bo,x,N⟩=F:=RJ W.out x;have c2:IntKind.i64.wrap ((c:Int)+1 - 1)=(c:Int):=by rw [QY];omega
   have b5:IntKind.i64.wrap (c:Int)=(c:Int):=by rw [QY];omega
   clear Q o;go_wp2_with fail
   go_region
   go_wp2_with fail
   have G:=Ro wr bo x _ _ (YW YT) W.out;rw [J0] at G;refine ⟨⟨k+1,by omega,by go_num,K ?_,K (O.out.setCell (i:=x) (YW YT)).drew,K ((HB.out.setCell (p:=⟨bo,x,N⟩) a0.out (YW YT)).drew)⟩,by simp [Y9];omega⟩
   rw [FB out f k u,a4.out];exact G
  have a7:k=f.length:=by omega
  subst a7;have G:=W.out;rw [QZ] at G;have D:=K (HD.out wr G O.out HB.out);clear G;go_wp2_with fail
  go_end0
  exact ⟨rfl,D.out⟩
theorem zI(n p:Nat)(a:aa)(m:aX)(v:QJ)(w:QI)(h:bz n w p a)(hn:a.items.length<=1048576)(hv:w.ownsRow n 9 1 v m.xd.length (ah m.xd))(hm:dJ m)(h1:1<=m.xd.length):Y8 prog 186 #[YV (S ⟨p,0,N⟩),.agg (bh m v)] w λe w'=>e=YX (YY #[])/\bz n w' p ⟨a.items++[⟨m,List.replicate m.xd.length F⟩],m.time⟩/\aE [129,147] w w'/\Y6 n w w':=by
 obtain ⟨U,k,W,x,q⟩:=m;have b7:=hm;obtain ⟨z1,z2,z3,z4,z5,z6⟩:=hm;simp only at hv h1 z1 z2 z3 z4 z5 z6;obtain ⟨vL,l,hl,hp,s,r,a7,a6⟩:=h;have c8:l.length<=1048576:=by rw [<-RU (f:=(·.1)),hl];exact hn
 obtain ⟨C,d,ev⟩:∃C d,v=L (S ⟨C,0,N⟩) x.length d:=by
  rcases hv.2 with ⟨_,h0⟩ | ⟨g,A,Z,e,_⟩
  .omega
  exact ⟨g,A,e⟩
 subst ev;obtain ⟨i0,b6,c1,c2,c3⟩:=Rr KD;have d0:=λw'=>Dt (P:=prog) underlying145 KC x.length (by omega) (by omega) w'
 have B:p < w.heap.size:=by
  rcases Tp p w.heap.size with h' | h'
  .exact h'
  rw [Array.getElem?_eq_none h'] at s;cases s
 have Y:vL.ownBlock≠S p:=by
  rcases r.2 with ⟨e,_⟩ | ⟨g,A,Z,e,_,hg,_⟩
  .subst e;intro e;cases e
  subst e;intro e;injection e with e;subst e;rw [hg] at s;injection s with s;injection s with _ s _;exact absurd s (by decide)
 have ab:vL.ownBlock≠S w.heap.size:=λe=>by have:=(r.lt _ e).2;omega
 simp only [bh];obtain ⟨b,y⟩:=QE (w.alloc (YU #[I J U,I J k,T (bs W),L (S ⟨C,0,N⟩) x.length d,T (bs q)] 91));have M:b.heap.size=w.heap.size+1:=by rw [<-y];simp
 have u:=QG y;have R:∀j:Nat,b.cell? ⟨w.heap.size,j,N⟩=(#[I J U,I J k,T (bs W),L (S ⟨C,0,N⟩) x.length d,T (bs q)]:Array QJ)[j]? :=λj=>by rw [<-y];exact World.cell?_alloc_mark w _ 91 (0,0) j
 have G:b.ownsRow n 147 6 vL l.length (dI l):=by rw [<-y];exact r.alloc _
 have P0:b.cell? ⟨p,0,N⟩=S vL:=(u.cell B).trans (Q3 s _);have P1:b.cell? ⟨p,1,N⟩=S (I J a.time):=(u.cell B).trans (Q3 s _);have F0:b.frozen? ⟨p,0,N⟩=F:=(u.frozen B).trans (RJ s 0);have F1:b.frozen? ⟨p,1,N⟩=F:=(u.frozen B).trans (RJ s 1);have k0:b.cell? ⟨w.heap.size,0,N⟩=S (I J U):=R 0;have k1:b.cell? ⟨w.heap.size,1,N⟩=S (I J k):=R 1;have k2:b.cell? ⟨w.heap.size,2,N⟩=S (T (bs W)):=R 2;have k3:b.cell? ⟨w.heap.size,3,N⟩=S (L (S ⟨C,0,N⟩) x.length d):=R 3;have k4:b.cell? ⟨w.heap.size,4,N⟩=S (T (bs q)):=R 4
 have c0:∃O V Q,vL=L O V Q:=by
  rcases r.2 with ⟨e,_⟩ | ⟨g,A,Z,e,_⟩
  .exact ⟨_,_,_,e⟩
  exact ⟨_,_,_,e⟩
 obtain ⟨O,V,Q,rfl⟩:=c0;have b0:=K a6;have b2:=K a7;have HL:=K hl;have HP:=K s;have HV:=K hv;have a8:=K u;clear a6 a7 hl R hv u;have a0:∀o:Obj,(b.alloc o).cell? ⟨w.heap.size,0,N⟩=S (I J U):=λo=>(((QQ b.heap.size b).alloc (QR _) o).cell (by show w.heap.size < _;omega)).trans k0;have a1:∀o:Obj,(b.alloc o).cell? ⟨w.heap.size,1,N⟩=S (I J k):=λo=>(((QQ b.heap.size b).alloc (QR _) o).cell (by show w.heap.size < _;omega)).trans k1;have a2:∀o:Obj,(b.alloc o).cell? ⟨w.heap.size,2,N⟩=S (T (bs W)):=λo=>(((QQ b.heap.size b).alloc (QR _) o).cell (by show w.heap.size < _;omega)).trans k2;have a3:∀o:Obj,(b.alloc o).cell? ⟨w.heap.size,3,N⟩=S (L (S ⟨C,0,N⟩) x.length d):=λo=>(((QQ b.heap.size b).alloc (QR _) o).cell (by show w.heap.size < _;omega)).trans k3;have a4:∀o:Obj,(b.alloc o).cell? ⟨w.heap.size,4,N⟩=S (T (bs q)):=λo=>(((QQ b.heap.size b).alloc (QR _) o).cell (by show w.heap.size < _;omega)).trans k4;have c5:∀o:Obj,(b.alloc o).cell? ⟨p,0,N⟩=S (L O V Q):=λo=>(((QQ b.heap.size b).alloc (QR _) o).cell (by show p < _;omega)).trans P0;have c6:∀o i:Obj,((b.alloc o).alloc i).cell? ⟨p,0,N⟩=S (L O V Q):=λo i=>((((QQ b.heap.size b).alloc (QR _) o).alloc (by simp) i).cell (by show p < _;omega)).trans P0;have n1:=World.new_ne b _ P0;have b4:=K M;have b1:H (∀o i:Obj,((b.alloc o).alloc i).drew.cell? ⟨w.heap.size,1,N⟩=S (I J k)):=K (λo i=>((((QQ b.heap.size b).alloc (QR _) o).alloc (by simp) i).cell (by show w.heap.size < _;omega)).trans k1);have b3:H (∀o i:Obj,((b.alloc o).alloc i).drew.cell? ⟨p,1,N⟩=S (I J a.time)):=K (λo i=>((((QQ b.heap.size b).alloc (QR _) o).alloc (by simp) i).cell (by show p < _;omega)).trans P1);have a9:H (∀o i:Obj,((b.alloc o).alloc i).drew.frozen? ⟨p,1,N⟩=F):=K (λo i=>((((QQ b.heap.size b).alloc (QR _) o).alloc (by simp) i).frozen (by show p < _;omega)).trans F1);have d3:¬w.heap.size=p:=by omega
 have c4:¬p=w.heap.size:=by omega
 have E:∀o i:Obj,((b.alloc o).alloc i).drew.cell? ⟨p,0,N⟩=S (L O V Q):=λo i=>((((QQ b.heap.size b).alloc (QR _) o).alloc (by simp) i).cell (by show p < _;omega)).trans P0;have X:=K E;clear E;have c7:∀o:Obj,(b.alloc o).frozen? ⟨p,0,N⟩=F:=λo=>(((QQ b.heap.size b).alloc (QR _) o).frozen (by show p < _;omega)).trans F0;have a5:∀o i:Obj,((b.alloc o).alloc i).frozen? ⟨p,0,N⟩=F:=λo i=>((((QQ b.heap.size b).alloc (QR _) o).alloc (by simp) i).frozen (by show p < _;omega)).trans F0;go_enter func186,ntmps186;go_wp2_with fail
 clear y;go_region_law ((refine step_append_lies _ (by rfl) _ _ _ (by rfl) n 147 i0 _ 6 96 underlying127 b6 c1 c2 c3 rfl (by omega) (L O V Q) l.length (dI l) (by rfl) (((G.alloc _).alloc _).drew) ⟨w.heap.size+1+1,0,N⟩ 1 1 [I J U,I J k,T (bs W),L (S ⟨C,0,N⟩) x.length d,T (bs q),L (S ⟨w.heap.size+1,0,N⟩) x.length x.length] (by rfl) (by rfl) (World.news_of_block (cs:=#[I J U,I J k,T (bs W),L (S ⟨C,0,N⟩) x.length d,T (bs q),L (S ⟨w.heap.size+1,0,N⟩) x.length x.length]) (t:=147) (fr:=(0,0)) (PX M _ _)) (by simp [Value.oneCell']) (by omega) (by unfold maxLen;omega) (by omega) (by simp;omega) (w.heap.size+1+1+1) (by simp [M]) ?_;intro gg A w1 z c b5 c9;have d2:=(c.frozen_far ⟨p,0,N⟩ (by simp;omega) (Ne.symm Y)).trans (a5 _ _);have d1:=(c.cell_far ⟨p,0,N⟩ (by simp;omega) (Ne.symm Y)).trans (X.out _ _)))
 all_goals
  have D:=L2 b4.out a8.out HL.out hp HP.out r b2.out b0.out Y HV.out b7 h1 c z;have HD:=K D;have q0:=(c.cell_far ⟨w.heap.size,1,N⟩ (by simp;omega) (Ne.symm ab)).trans (b1.out _ _);have q1:=(c.cell_far ⟨p,1,N⟩ (by simp;omega) (Ne.symm Y)).trans (b3.out _ _);have q2:=(c.frozen_far ⟨p,1,N⟩ (by simp;omega) (Ne.symm Y)).trans (a9.out _ _);clear D c z b5;go_wp2_with fail
  go_end0
  exact ⟨rfl,HD.out⟩
def Ng:QF:=[78,111,116,32,100,101,108,105,118,101,114,101,100,58]
def qS(xd:List QF)(ps:List Nat):QF:=Ng++ps.flatMap λx=>13::10::xd.getD x []
theorem GR(b:List QF)(a:List Nat)(k:Nat)(h:k < a.length):qS b (a.take (k+1))=qS b (a.take k)++(13::10::b.getD a[k] []):=by
 unfold qS;rw [QV h,List.flatMap_append, <-Sq];simp
def aa.failed(S:aa)(m:aX)(ps:List Nat)(time:Nat):aa:=
 if m.xk=[] then ⟨S.items,time⟩ else ⟨S.items++[⟨⟨S.items.length+1,time,[],[m.xk],qS m.xd ps⟩,[F]⟩],time⟩
theorem bz.time{b p T:Nat}{a:aa}{w:QI}(h:bz b w p a):bz b (w.setCell ⟨p,1,N⟩ (I J T)) p ⟨a.items,T⟩/\aE [129] w (w.setCell ⟨p,1,N⟩ (I J T))/\Y6 b w (w.setCell ⟨p,1,N⟩ (I J T)):=by
 obtain ⟨n,l,k,j,i,c,g,f⟩:=h;have d:=Ro w p 1 _ _ (I J T) i;have e:aE [129] w (w.setCell ⟨p,1,N⟩ (I J T)):=(aE.refl _ w).same i (by simp) ((aA.refl p w).setCell _);exact ⟨⟨n,l,k,j,d,aV e (by decide) c,g,λx m=>(f x m).touch e (by decide) (by decide)⟩,e,(QQ _ _).setCell j _⟩
theorem bz.touch{b p:Nat}{a:aa}{w g:QI}{ts:List Za}(h:bz b w p a)(f:aE ts w g)(i:129 ∉ ts)(j:147 ∉ ts)(k:9 ∉ ts)(m:4 ∉ ts):bz b g p a:=by
 obtain ⟨s,l,o,q,n,c,e,d⟩:=h;exact ⟨s,l,o,q,f.cells n i,aV f j c,e,λx r=>(d x r).touch f k m⟩
theorem AZ(n a6 p c T:Nat)(d:aa)(it:fZ)(v:QJ)(u:List Nat)(w:QI)(h:bz n w p d)(hn:d.items.length<=1048575)(hT:T<=4294967295)(hv:w.ownsRow a6 3 1 v u.length (bc u))(g8:u.length<=255)(z:d.items[c]? =S it)(y:∀j,j < u.length->u.getD j 0 < it.m.xd.length):Y8 prog 190 #[YV (S ⟨p,0,N⟩),I J ((c+1:Nat):Int),v,I J T] w λe V=>e=YX (YY #[])/\bz n V p (d.failed it.m u T)/\aE [129,147] w V/\Y6 n w V:=by
 have d9:=K h;obtain ⟨vL,l,hl,hp,hP,a1,f3,d0⟩:=h;have a9:l.length=d.items.length:=by rw [<-hl,RU]
 have a8:c < l.length:=by
  rw [a9]
  rcases Tp c d.items.length with h' | h'
  .exact h'
  rw [List.getElem?_eq_none h'] at z;cases z
 have g6:(c:Int) < (l.length:Int):=by omega
 have g7:(l.length:Int)<=1048576:=by omega
 have f7:(u.length:Int)<=255:=by omega
 have O:l[c].1=it:=by
  rw [<-hl,TV,Re a8] at z;exact Option.some.inj z
 obtain ⟨g,cL,rfl,hg⟩:∃g cL,vL=L (S ⟨g,0,N⟩) l.length cL/\∃C,w.heap[g]? =S (YU C 147 (0,0))/\C.toList.take (l.length * 6)=dI l:=by
  rcases a1.2 with ⟨_,h0⟩ | ⟨g,cp,C,e,_,hg,_,_,_,a0⟩
  .omega
  exact ⟨g,cp,e,C,hg,a0⟩
 obtain ⟨C,hg,a0⟩:=hg;have hx:=d0 l[c] (QU a8)
 have r:∀i,i < 6->w.cell? ⟨g,c * 6+i,N⟩=(cE l[c])[i]? :=λi hi=>by
  rw [Q3 hg, <-Sl, <-Sk (show c * 6+i < l.length * 6 by omega),a0,mh l c i a8 hi]
 obtain ⟨gt,ct,et⟩:∃gt ct,l[c].2.1= .slice (S ⟨gt,0,N⟩) l[c].1.m.xd.length ct:=by
  rcases hx.1.2 with ⟨_,h0⟩ | ⟨g,cp,C,e,_⟩
  .have:=hx.2.2.2.2.1;omega
  exact ⟨g,cp,e⟩
 have g0:=r 0 (by decide);have g1:=r 1 (by decide);have g2:=r 2 (by decide);have g3:=r 3 (by decide);have g4:=r 4 (by decide);simp only [cE,UG,UH,QT,et,O] at g0 g1 g2 g3 g4;obtain ⟨X,_,_,_,b1,b3⟩:=hx;rw [et,O] at X;rw [O] at b1 b3;have p0:w.cell? ⟨p,0,N⟩=S (L (S ⟨g,0,N⟩) l.length cL):=Q3 hP _;have p1:w.cell? ⟨p,1,N⟩=S (I J d.time):=Q3 hP _;have f1:w.frozen? ⟨p,1,N⟩=F:=RJ hP 1;obtain ⟨m,o⟩:=it;simp only at y X b1 b3 g0 g1 g2 g3 g4;obtain ⟨id,P,s,G,M⟩:=m;obtain ⟨z1,z2,z3,z4,z5,z6⟩:=b3;simp only at y X b1 z1 z2 z3 z4 z5 z6 g0 g1 g2 g3 g4 ⊢;have sF:=aj s;have f5:¬g=p:=dN hg hP (by decide);have f9:¬p=g:=λe=>f5 e.symm;have HV:=K hv;have e4:=K X;have e6:=K z5;have d7:=K y;have d6:=K a9;clear d0 f3 hl a1 hP hg a0 z r et O hv y X z5 a9;have b0:p < w.heap.size:=au p0;obtain ⟨Q,Z⟩:=QE (w.alloc (YU #[I J id,I J P,.string (bs s),L (S ⟨gt,0,N⟩) G.length ct,.string (bs M)] 91));have g9:Q.heap.size=w.heap.size+1:=by rw [<-Z];simp
 have E:=QG Z;have b4:∀j:Nat,Q.cell? ⟨w.heap.size,j,N⟩=(#[I J id,I J P,.string (bs s),L (S ⟨gt,0,N⟩) G.length ct,.string (bs M)]:Array QJ)[j]? :=λj=>by rw [<-Z];exact World.cell?_alloc_mark w _ 91 (0,0) j
 have q0:Q.cell? ⟨p,0,N⟩=S (L (S ⟨g,0,N⟩) l.length cL):=(E.cell b0).trans p0;have q1:Q.cell? ⟨p,1,N⟩=S (I J d.time):=(E.cell b0).trans p1;have q2:Q.frozen? ⟨p,1,N⟩=F:=(E.frozen b0).trans f1;have x2:Q.cell? ⟨w.heap.size,2,N⟩=S (.string (bs s)):=b4 2;have x3:Q.cell? ⟨w.heap.size,3,N⟩=S (L (S ⟨gt,0,N⟩) G.length ct):=b4 3;have h4:¬p=w.heap.size:=by omega
 have a2:¬w.heap.size=p:=by omega
 have c3:H (aE [129] w Q):=K (aE.below E);have c1:H (bz n Q p d):=K (d9.out.touch (aE.below (ts:=[]) E) (by simp) (by simp) (by simp) (by simp));have e9:n<=w.heap.size:=by omega
 have b7:H (Y6 n w Q):=K (E.mono e9)
 have HE:H (∀(f:QF),f=s->(f=[]->d.failed ⟨id,P,s,G,M⟩ u T=⟨d.items,T⟩)/\(¬f=[]->d.failed ⟨id,P,s,G,M⟩ u T=⟨d.items++[⟨⟨d.items.length+1,T,[],[s],qS G u⟩,[F]⟩],T⟩)):=K (λf e=>by
  subst e
  exact ⟨λh=>by unfold aa.failed;rw [if_pos h],λh=>by unfold aa.failed;rw [if_neg h]⟩)
 clear b4 E p1 f1
 by_cases hE:s=[]
 .have a7:(bs s).toList=[]:=by rw [hE,SF];rfl
  have c8:(bs s).toList.isEmpty=YT:=by rw [a7];rfl
  have a3:=K ((HE.out s rfl).1 hE);clear hE;go_enter func190,ntmps190;go_wp2_with fail
  refine bodyPost_ret (results_none rfl _ _ _) rfl ?_;obtain ⟨d1,d2,d3⟩:=c1.out.time (T:=T);rw [a3.out];exact ⟨rfl,d1,(c3.out.trans d2).mono (by simp),b7.out.trans d3⟩
 have a7:¬(bs s).toList=[]:=by rw [SF,ao];exact hE
 have c8:(bs s).toList.isEmpty=F:=by rw [SF,ao];simpa using hE
 have a3:=K ((HE.out s rfl).2 hE);go_enter func190,ntmps190;go_wp2_with fail
 obtain ⟨R,U⟩:=QE (Q.setCell ⟨p,1,N⟩ (I J T));obtain ⟨d1,d2,d3⟩:=c1.out.time (T:=T);have y2:R.cell? ⟨w.heap.size,2,N⟩=S (.string (bs s)):=by rw [<-U];exact (World.cell?_of_block (TP Q ⟨p,1,N⟩ w.heap.size _ a2)).trans x2
 have y3:R.cell? ⟨w.heap.size,3,N⟩=S (L (S ⟨gt,0,N⟩) G.length ct):=by rw [<-U];exact (World.cell?_of_block (TP Q ⟨p,1,N⟩ w.heap.size _ a2)).trans x3
 rw [U] at d1 d2 d3;rw [U]
 have y0:R.cell? ⟨p,0,N⟩=S (L (S ⟨g,0,N⟩) l.length cL):=by
  rw [<-U];refine Eq.trans (World.cell?_setCell_other _ _ _ _ ?_) q0;intro e;injection e with _ e _;exact absurd e (by decide)
 have a5:H (aE [129] w R):=K (c3.out.trans d2);have d5:=K d1;have c0:H (Y6 n w R):=K (b7.out.trans d3)
 have f4:∃a c4,v=L a u.length c4:=by
  rcases HV.out.2 with ⟨e,h0⟩ | ⟨g,cp,C,e,_⟩
  .exact ⟨_,_,by rw [h0];exact e⟩
  exact ⟨_,_,e⟩
 obtain ⟨a,c4,rfl⟩:=f4
 have d8:H (∀j (hj:j < u.length),∃b,a=S ⟨b,0,N⟩/\R.cell? ⟨b,j,N⟩=S (I J (u[j]:Int))):=K (λj hj=>by
  rcases (aV a5.out (by decide) HV.out).2 with ⟨_,h0⟩ | ⟨b,cp,c5,e,_,hb,_,_,_,W⟩
  .omega
  injection e with e1 _ _;refine ⟨b,e1,?_⟩;rw [Q3 hb, <-Sl, <-Sk (show j < u.length * 1 by omega),W]
  simp [bc,hj])
 have e2:H (∀j (hj:j < G.length),R.cell? ⟨gt,j,N⟩=S (.string (bs G[j]))):=K (λj hj=>by
  rcases (aV a5.out (by decide) e4.out).2 with ⟨_,h0⟩ | ⟨b,cp,c5,e,_,hb,_,_,_,W⟩
  .omega
  injection e with e1 _ _;injection e1 with e1;injection e1 with e1 _;subst e1;rw [Q3 hb, <-Sl, <-Sk (show j < G.length * 1 by omega),W]
  simp [ah,hj])
 clear d1 d2 d3 Z U x2 x3 q0 q1 q2 g0 g1 g2 g3 g4 p0 a7 c8 HE;go_loopw [9,10] (λbv i V=>∃(k q:Nat) (B:QF),k<=u.length/\i=I J k/\bv= .string (bs B)/\B.length<=14+257 * k/\H (B=qS G (u.take k))/\V=R.drewN q) (λ_ i _=>u.length - (Y9 i).toNat)
 case atStart=>exact ⟨0,0,Ng,QS _,rfl,rfl,by decide,K (by simp [qS]),rfl⟩
 case round=>
  obtain ⟨k,q,B,hk,rfl,rfl,hB,HB,rfl⟩:=hrel;have sB:=aj B
  by_cases y:k < u.length
  .have f6:(k:Int) < (u.length:Int):=by omega
   obtain ⟨b,rfl,ek⟩:=d8.out k y;have Y:=d7.out k y;rw [Q5,Re y,TZ] at Y;obtain ⟨x,hx⟩:=QE (u[k]);have e5:=K hx;rw [hx] at Y ek;have f8:(x:Int) < (G.length:Int):=by omega
   have et:=e2.out x Y;have f2:=e6.out G[x] (QU Y);obtain ⟨t,ht⟩:=QE (G[x]);have e0:=K ht;rw [ht] at et f2;have sT:=aj t;have q1:¬9223372036854775807 < B.length+2:=by omega
   have q2:¬9223372036854775807 < B.length+2+t.length:=by omega
   clear hx ht;go_wp2_with fail
   go_quiet (fail)
   go_wp2_with fail
   refine ⟨⟨k+1,q+nq,B++(13::10::t),by omega,by go_num,?_,by simp;omega,K ?_,rfl⟩,by simp [Y9];omega⟩
   .rw [show (⟨#[13,10]⟩:QL)=bs [13,10] from rfl,aQ,aQ,Sq];rfl
   rw [HB.out,GR G u k y,e5.out,ic Y,e0.out]
  have f0:k=u.length:=by omega
  subst f0;have h3:IntKind.i64.wrap ((l.length:Int)+1)=((l.length+1:Nat):Int):=by rw [QY];omega
  have b6:H (∀(V:QI) (v':QJ),bz n V p ⟨d.items,T⟩->V.ownsRow n 9 1 v' 1 (ah [s])->Y8 prog 186 #[YV (S ⟨p,0,N⟩),.agg #[I J ((l.length:Int)+1),I J T,.string ⟨#[]⟩,v',.string (bs B)]] V λe b5=>e=YX (YY #[])/\bz n b5 p ⟨d.items++[⟨⟨l.length+1,T,[],[s],B⟩,[F]⟩],T⟩/\aE [129,147] V b5/\Y6 n V b5):=K (λV v' h1 h2=>
   zI n p ⟨d.items,T⟩ ⟨l.length+1,T,[],[s],B⟩ v' V h1 (by show d.items.length<=_;omega) h2 ⟨by show l.length+1<=_;omega,hT,by simp,by simp,by simpa using z3,by show B.length<=_;omega⟩ (by simp))
  obtain ⟨A,D⟩:=QE (R.drewN q);have r0:A.cell? ⟨p,0,N⟩=S (L (S ⟨g,0,N⟩) l.length cL):=by rw [<-D];simpa using y0
  have r2:A.cell? ⟨w.heap.size,2,N⟩=S (.string (bs s)):=by rw [<-D];simpa using y2
  have c9:n<=A.heap.size:=by have:=c0.out.size;rw [<-D];simp;omega
  have t2:aE [] R A:=by rw [<-D];exact (aE.refl _ R).drewN q
  have b2:Y6 n R A:=by rw [<-D];exact an q R n
  rw [D];have c2:H (∀o:Obj,bz n (A.alloc o).drew p ⟨d.items,T⟩):=K (λo=>d5.out.touch (t2.alloc o).drew (by simp) (by simp) (by simp) (by simp));have a4:H ((A.alloc (YU #[.string (bs s)] 9)).drew.ownsRow n 9 1 (L (S ⟨A.heap.size,0,N⟩) 1 1) 1 (ah [s])):=K ⟨rfl,.inr ⟨A.heap.size,1,#[.string (bs s)],rfl,c9,Q0 A _,QR _,by decide,rfl,rfl⟩⟩
  have e3:H (∀o:Obj,aE [129,147] w (A.alloc o).drew):=K (λo=>(a5.out.mono (by simp)).trans ((t2.alloc o).drew.mono (by simp)));have d4:H (∀o:Obj,Y6 n w (A.alloc o).drew):=K (λo=>((c0.out.trans b2).alloc c9 o).drew);have g5:∀o:Obj,(A.alloc o).cell? ⟨p,0,N⟩=S (L (S ⟨g,0,N⟩) l.length cL):=λo=>(((QQ A.heap.size A).alloc (QR _) o).cell (au r0)).trans r0;clear t2 b2 D y0 y2 y3;go_wp2_with fail
  go_region_with (go_at_call 186;refine (b6.out _ _ (c2.out _) a4.out).mono ?_;rintro e w9 ⟨rfl,c6,e7,e8⟩)
  all_goals
   go_end0
   have c7:=HB.out;rw [QZ] at c7;rw [c7,d6.out] at c6;rw [a3.out];exact ⟨rfl,c6,(e3.out _).trans e7,(d4.out _).trans e8⟩
def bw(l:QF):Nat×List Nat:=(be (l.take 4),ig (be ((l.drop 4).take 1)) (l.drop 5))
def aa.xr(S:aa)(K:Nat):aX:=((S.items[K]?).map (·.m)).getD ⟨0,0,[],[],[]⟩
def aa.takes(S:aa)(l:QF):Option aa:=
 match l with
 | []=>N
 | c::r=>
  if c=77 then
   if bZ S.items.length S.time (gx r) && (bT (gx r) == l) then some ⟨S.items++[⟨gx r,List.replicate (gx r).xd.length F⟩],(gx r).time⟩ else N
  else if c=71 then
   if gy S (bw r).1 (bw r).2 && (71::cG (bw r).1 (bw r).2 == l) then some (S.outs ((bw r).1 - 1) (bw r).2) else N
  else if c=70 then
   if gy S (bw (r.drop 4)).1 (bw (r.drop 4)).2 && decide (S.time<=be (r.take 4)) && decide (be (r.take 4)<=1000000000) && (70::(aG 4 (be (r.take 4))++cG (bw (r.drop 4)).1 (bw (r.drop 4)).2) == l) then
    some ((S.outs ((bw (r.drop 4)).1 - 1) (bw (r.drop 4)).2).failed (S.xr ((bw (r.drop 4)).1 - 1)) (bw (r.drop 4)).2 (be (r.take 4)))
   else N
  else N
theorem JI(a:aa)(r:QF):a.takes (71::r)=if gy a (bw r).1 (bw r).2 && (71::cG (bw r).1 (bw r).2 == 71::r) then S (a.outs ((bw r).1 - 1) (bw r).2) else N:=by
 unfold aa.takes;simp only;rw [if_neg (by decide),if_pos trivial]
theorem Ph(a:aa)(r:QF):a.takes (77::r)=if bZ a.items.length a.time (gx r) && (bT (gx r) == 77::r) then S ⟨a.items++[⟨gx r,List.replicate (gx r).xd.length F⟩],(gx r).time⟩ else N:=by
 unfold aa.takes;simp only;rw [if_pos trivial]
theorem JH(a:aa)(r:QF):a.takes (70::r)=if gy a (bw (r.drop 4)).1 (bw (r.drop 4)).2 && decide (a.time<=be (r.take 4)) && decide (be (r.take 4)<=1000000000) && (70::(aG 4 (be (r.take 4))++cG (bw (r.drop 4)).1 (bw (r.drop 4)).2) == 70::r) then S ((a.outs ((bw (r.drop 4)).1 - 1) (bw (r.drop 4)).2).failed (a.xr ((bw (r.drop 4)).1 - 1)) (bw (r.drop 4)).2 (be (r.take 4))) else N:=by
 unfold aa.takes;simp only;rw [if_neg (by decide),if_neg (by decide),if_pos trivial]
theorem NZ{a:aa}{l:QF}(b:¬l.take 1=[77])(d:¬l.take 1=[71])(e:¬l.take 1=[70]):a.takes l=N:=by
 cases l with
 | nil=>rfl
 | cons c r=>
  simp only [List.take_succ_cons,List.take_zero,List.cons.injEq,and_true] at b d e;unfold aa.takes;simp only;rw [if_neg b,if_neg d,if_neg e]
theorem bz.yB{d p a:Nat}{b:aa}{w:QI}{x:fZ}(h:bz d w p b)(c:b.items[a]? =S x):x.out.length=x.m.xd.length:=by
 obtain ⟨_,l,g,_,_,_,_,f⟩:=h;rw [<-g,TV] at c
 cases e:l[a]? with
 | none=>rw [e] at c;cases c
 | some y=>
  rw [e] at c;injection c with c;subst c;exact (f y (List.mem_of_getElem? e)).2.2.2.1
theorem iQ{w:QI}{a n:Nat}{e:Za}{v:QJ}{f:List QJ}(h:w.ownsRow a e 1 v n f):bg w v n 1 f:=by
 refine ⟨h.1,?_⟩
 rcases h.2 with ⟨b,l⟩ | ⟨g,i,k,b,_,m,c,_,_,d⟩
 .exact .inl ⟨l,N,0,b⟩
 refine .inr ⟨g,0,i,b,c,λj o=>?_⟩;rw [Nat.zero_add,Q3 m, <-Sl, <-Sk o,d]
theorem kT(a b:QF):((bs a).toList == b)=(a == b):=by rw [SF,ao]
theorem Cb(n:Nat)(l:QF):∀x∈ig n l,x<=255:=λx a=>by have:=Cc n l x a;omega
def cu(w:QI)(q id t:Nat)(f:QF)(v:QJ)(b:QF):Prop:=w.heap[q]? =S (YU #[I J id,I J t,T (bs f),v,T (bs b)] 91 (0,0))
theorem cu.same{w d:QI}{q c t s:Nat}{f b:QF}{v:QJ}(h:cu w q c t f v b)(e:aA s w d)(a:q≠s):cu d q c t f v b:=by
 unfold cu at h ⊢;rw [e.2 q a];exact h
theorem cu.cell{w:QI}{q a t:Nat}{f b:QF}{v:QJ}(h:cu w q a t f v b)(j:Nat):w.cell? ⟨q,j,N⟩=(#[I J a,I J t,T (bs f),v,T (bs b)]:Array QJ)[j]? /\w.frozen? ⟨q,j,N⟩=F:=
 ⟨Q3 h j,RJ h j⟩
theorem Rd.other{w c:QI}{b q:Nat}{l:QF}(h:Rd w b l)(d:aA q w c)(a:b≠q):Rd c b l:=by
 unfold Rd at h ⊢;rw [d.2 b a];exact h
theorem aE.xu{a w c:QI}{q g t:Nat}{f b:QF}{v:QJ}(h:aE [201,91] a w)(d:cu w q g t f v b)(e:aA q w c):aE [201,91] a c:=h.same d (by simp) e
theorem aE.rd{a w b:QI}{q:Nat}{l:QF}(h:aE [201,91] a w)(c:Rd w q l)(d:aA q w b):aE [201,91] a b:=h.same c (by simp) d
theorem kj:(prog.info? 9).map (λi=>(i.zero,i.size,i.bytes))=S (S (T ⟨#[]⟩),1,16):=by kernel_rfl
theorem ti:∀(n:Nat) (l:QF),(kQ n l).2.length<=l.length
 | 0,_=>QR _
 | n+1,l=>by
  have h:=ti n (th l).2;have a:(th l).2.length<=l.length:=by unfold th;simp only [Rq];omega
  rw [kQ];exact Rn h a
theorem bM{w i:QI}{a f n b:Nat}{e:Za}{v:QJ}{j:List QJ}(h:w.ownsRow a e f v n j)(p:aA b w i)(q:b < a):i.ownsRow a e f v n j:=by
 refine ⟨h.1,?_⟩
 rcases h.2 with h | ⟨g,c,d,k,l,m,o⟩
 .exact .inl h
 exact .inr ⟨g,c,d,k,l,(p.2 g (by omega)).trans m,o⟩
theorem bz.head{b p:Nat}{a:aa}{w:QI}(h:bz b w p a):∃m mH,w.cell? ⟨p,0,N⟩=S (L m a.items.length mH)/\w.cell? ⟨p,1,N⟩=S (I J a.time)/\p < w.heap.size:=by
 obtain ⟨r,l,q,s,f,d,_⟩:=h;have c:a.items.length=l.length:=by rw [<-q,RU]
 have j:w.cell? ⟨p,0,N⟩=S r:=Q3 f _;have k:w.cell? ⟨p,1,N⟩=S (I J a.time):=Q3 f _;rw [c]
 rcases d.2 with ⟨e,o⟩ | ⟨g,i,n,e,_⟩
 .refine ⟨N,0,?_,k,dq f⟩;rw [j,e,o]
 refine ⟨S ⟨g,0,N⟩,i,?_,k,dq f⟩;rw [j,e]
structure LX(W0 w10 w11:QI)(s I T:Nat)(f:QF)(v:QJ)(R:QF)(k:Nat)(Ts:List QF):Prop where
 yA:∃u,w10.cell? ⟨s+1,3,N⟩=S u
 soft:w10.frozen? ⟨s+1,3,N⟩=F
 rd:Rd w11 s R
 xu:cu w11 (s+1) I T f v []
 own:w11.ownsRow (s+2) 9 1 v k (ah Ts)
 touch:aE [201,91] W0 w11
 below:Y6 s W0 w11
 size:s+2<=w11.heap.size
theorem KY{q h d:QI}{s a b k:Nat}{f t R:QF}{v p:QJ}{i:List QF}{o:Obj}(x:Rd h s R)(y:cu h (s+1) a b f v [])(A:aE [201,91] q h)(w:Y6 s q h)(B:q.heap.size=s+1)(C:s+2<=h.heap.size)
  (z:h.ownsRow (s+2) 9 1 v k (ah i)) (n:d.ownsRow (s+2) 9 1 p (k+1) (ah i++[T (bs t)])) (c:(h.alloc o).grownBy d v.ownBlock):
  LX q d (d.setCell ⟨s+1,3,N⟩ p) s a b f p R (k+1) (i++[t]):=by
 have g:∀j,v.ownBlock=S j->s+2<=j:=λj m=>(z.lt j m).1;have u:s+2<=d.heap.size:=by have:=c.size;simp at this;omega
 have r:d.heap[s+1]? =S (YU #[I J a,I J b,T (bs f),v,T (bs [])] 91 (0,0)):=by
  rw [c.block (s+1) (by simp;omega) (λe=>by have:=g _ e.symm;omega)];rw [((QQ h.heap.size h).alloc (QR _) o).block (s+1) (by omega)];exact y
 have l:aA (s+1) d (d.setCell ⟨s+1,3,N⟩ p):=(aA.refl _ _).setCell _;refine ⟨⟨v,Q3 r _⟩,RJ r 3,?_,?_,?_,?_,?_,?_⟩
 .exact ((x.alloc o).grown c (λe=>by have:=g _ e.symm;omega)).other l (by omega)
 .exact Ro d (s+1) 3 _ _ p r
 .rw [show ah (i++[t])=ah i++[T (bs t)] by simp [ah]]
  exact bM n l (by omega)
 .exact ((A.alloc o).xS c (λj m=>by have:=g j m;omega)).xu (v:=v) r l
 .exact (((w.alloc (by omega) o).grown c (by simp;omega) (λj m=>by have:=g j m;omega))).trans (l.below (by omega))
 rw [l.1];exact u
theorem Bb(C p:Nat)(o:aa)(l:QF)(w:QI)(h:bz C w p o)(hb:C<=w.heap.size)(hn:o.items.length<=1048575)(hT:o.time<=1000000000)(hl:l.length<=1048576)(hM:l.take 1=[77]):Y8 prog 115 #[YV (S ⟨p,0,N⟩),T (bs l)] w λe w'=>e=YX (YW (o.takes l).isSome)/\bz C w' p ((o.takes l).getD o)/\Y6 C w w':=by
 have m8:p < w.heap.size:=by
  obtain ⟨_,_,_,_,hP,_⟩:=h;exact dq hP
 obtain ⟨s,hs⟩:=QE w.heap.size;obtain ⟨W0,a5⟩:=QE (w.alloc (YU #[T (bs l)] 201));have e7:H (Rd W0 s l):=K (by rw [<-a5, <-hs];exact Q0 w _);have T0:aE [] w W0:=by rw [<-a5];exact (aE.refl _ w).alloc _
 have i4:H (bz C W0 p o):=K (h.touch T0 (by simp) (by simp) (by simp) (by simp));have i1:H (Y6 C w W0):=K (by rw [<-a5];exact (QQ _ _).alloc hb _);have h8:W0.heap.size=s+1:=by rw [<-a5, <-hs];simp
 have i6:=K a5;have e9:=K h8;obtain ⟨r,hr⟩:=QE (l.drop 1);have HL:H (l=77::r):=K (by rw [<-Rp 1 l,hM,hr];rfl);have d9:=kq s 1 l W0 e7.out (by unfold maxLen;omega) (by decide);rw [hM,hr] at d9;have m1:((bs [77]).toList == [77])=YT:=by rw [kT];rfl
 have m9:r.length<=1048576:=by rw [<-hr,Rq];omega
 have l6:=K hs;have k7:C<=s:=by omega
 clear hM hr T0 h a5 h8 hb;go_enter func115,ntmps115;go_wp2_with fail
 rw [i6.out];refine d9.mono ?_;rintro e w1 ⟨rfl,M,z⟩;have F1:=K M;have S1:=K z;clear d9 M z;have y:=dr s 4 r w1 F1.out (by unfold maxLen;omega) (by decide);have g8:be (r.take 4)<=4294967295:=by have:=jr (l:=r.take 4) (by rw [Sm];omega);omega
 obtain ⟨b,eI⟩:=QE (be (r.take 4));obtain ⟨r1,e1⟩:=QE (r.drop 4);rw [eI,e1] at y;rw [eI] at g8;have A:=K y;clear y;go_wp2_with fail
 refine A.out.mono ?_;rintro e w2 ⟨rfl,M,z⟩;have hq:w2.heap.size=s+1:=by rw [z.1,S1.out.1,e9.out]
 have F2:=K M;have T2:H (aE [201,91] W0 w2):=K (((aE.refl _ W0).rd e7.out S1.out).rd F1.out z);have B2:H (Y6 s W0 w2):=K ((S1.out.trans z).below (QR _));clear A M z F1 S1;obtain ⟨W3,a1⟩:=QE (w2.alloc (YU #[I J b,I J 0,T ⟨#[]⟩,L N 0 0,T ⟨#[]⟩] 91));have F3:H (Rd W3 s r1):=K (by rw [<-a1];exact F2.out.alloc _);have M3:H (cu W3 (s+1) b 0 [] (L N 0 0) []):=K (by rw [<-a1, <-hq];exact Q0 w2 _);have T3:H (aE [201,91] W0 W3):=K (by rw [<-a1];exact T2.out.alloc _);have B3:H (Y6 s W0 W3):=K (by rw [<-a1];exact B2.out.alloc (by omega) _);have Z3:H (W3.heap.size=s+2):=K (by rw [<-a1];simp [hq]);have f6:=K a1;have m0:r1.length<=1048576:=by rw [<-e1,Rq];omega
 have y:=dr s 4 r1 W3 F3.out (by unfold maxLen;omega) (by decide);have h6:be (r1.take 4)<=4294967295:=by have:=jr (l:=r1.take 4) (by rw [Sm];omega);omega
 obtain ⟨q,eT⟩:=QE (be (r1.take 4));obtain ⟨r2,e2⟩:=QE (r1.drop 4);rw [eT,e2] at y;rw [eT] at h6;have A:=K y;clear y a1 T2 B2 F2;go_wp2_with fail
 rw [f6.out];refine A.out.mono ?_;rintro e w4 ⟨rfl,M,z⟩;have F4:=K M;have M4:=K (M3.out.same z (by omega));have T4:=K (T3.out.rd F3.out z);have B4:=K (B3.out.trans (z.below (QR _)));have Z4:H (w4.heap.size=s+2):=K (z.1.trans Z3.out);obtain ⟨c1,f1⟩:=M4.out.cell 1;clear A M z F3 M3 T3 B3 Z3 f6;obtain ⟨w5,b2⟩:=QE (w4.setCell ⟨s+1,1,N⟩ (I J q));have h5:aA (s+1) w4 w5:=by rw [<-b2];exact (aA.refl _ _).setCell _
 have F5:=K (F4.out.other h5 (by omega));have M5:H (cu w5 (s+1) b q [] (L N 0 0) []):=K (by rw [<-b2];exact Ro w4 (s+1) 1 _ _ (I J q) M4.out);have T5:=K (T4.out.xu M4.out h5);have B5:=K (B4.out.trans (h5.below (show s<=s+1 by omega)));have Z5:H (w5.heap.size=s+2):=K (h5.1.trans Z4.out);have m2:r2.length<=1048576:=by rw [<-e2,Rq];omega
 have y:=zA s r2 w5 F5.out (by unfold maxLen;omega);obtain ⟨f,ef⟩:=QE ((r2.drop 1).take (be (r2.take 1)));obtain ⟨r3,e3⟩:=QE ((r2.drop 1).drop (be (r2.take 1)));have f9:H (th r2=(f,r3)):=K (by unfold th;rw [ef,e3]);have m6:f.length < 256:=by have:=Jk r2;rw [f9.out] at this;exact this
 have m3:r3.length<=1048576:=by rw [<-e3,Rq,Rq];omega
 rw [ef,e3] at y;have A:=K y;have f7:=K b2;clear y b2 h5 ef e3;go_wp2_with fail
 rw [f7.out];refine A.out.mono ?_;rintro e w6 ⟨rfl,M,z⟩;have F6:=K M;have M6:=K (M5.out.same z (by omega));have T6:=K (T5.out.rd F5.out z);have B6:=K (B5.out.trans (z.below (QR _)));have Z6:H (w6.heap.size=s+2):=K (z.1.trans Z5.out);obtain ⟨c2,f2⟩:=M6.out.cell 2;clear A M z F4 M4 T4 B4 Z4 F5 M5 T5 B5 Z5 f7 c1 f1;obtain ⟨w7,b3⟩:=QE (w6.setCell ⟨s+1,2,N⟩ (T (bs f)));have h7:aA (s+1) w6 w7:=by rw [<-b3];exact (aA.refl _ _).setCell _
 have F7:=K (F6.out.other h7 (by omega));have M7:H (cu w7 (s+1) b q f (L N 0 0) []):=K (by rw [<-b3];exact Ro w6 (s+1) 2 _ _ (T (bs f)) M6.out);have T7:=K (T6.out.xu M6.out h7);have B7:=K (B6.out.trans (h7.below (show s<=s+1 by omega)));have Z7:H (w7.heap.size=s+2):=K (h7.1.trans Z6.out);have y:=dr s 1 r3 w7 F7.out (by unfold maxLen;omega) (by decide);have hN:=lg r3;obtain ⟨m,eN⟩:=QE (be (r3.take 1));obtain ⟨r4,e4⟩:=QE (r3.drop 1);have m4:r4.length<=1048576:=by rw [<-e4,Rq];omega
 rw [eN,e4] at y;rw [eN] at hN;have A:=K y;have f8:=K b3;clear y b3 h7;go_wp2_with fail
 rw [f8.out];refine A.out.mono ?_;rintro e w8 ⟨rfl,M,z⟩;have F8:=K M;have M8:=K (M7.out.same z (by omega));have T8:=K (T7.out.rd F7.out z);have B8:=K (B7.out.trans (z.below (QR _)));have Z8:H (w8.heap.size=s+2):=K (z.1.trans Z7.out);clear A M z F6 M6 T6 B6 Z6 F7 M7 T7 B7 Z7 f8 c2 f2;go_wp2_with fail
 obtain ⟨i0,k8,l0,l1,l2⟩:=Rr kj;go_loopw [8] (λi w'=>∃(k:Nat) (v:QJ),k<=m/\i=I J k/\H (Rd w' s (kQ k r4).2)/\H (cu w' (s+1) b q f v [])/\H (w'.ownsRow (s+2) 9 1 v k (ah (kQ k r4).1))/\H (aE [201,91] W0 w')/\H (Y6 s W0 w')/\s+2<=w'.heap.size) (λi _=>m - (Y9 i).toNat)
 case atStart=>exact ⟨0,L N 0 0,QS _,rfl,F8,M8,K (World.ownsRow_nil _ _ _ _),T8,B8,by have:=Z8.out;omega⟩
 case round=>
  clear F8 M8 T8 B8 Z8;obtain ⟨k,v,hk,rfl,F8,M8,O8,T8,B8,Z8⟩:=hrel
  obtain ⟨a,n,c,rfl⟩:∃a n c,v=L a n c:=by
   rcases O8.out.2 with ⟨e,_⟩ | ⟨g,j2,l8,e,_⟩
   .exact ⟨_,_,_,e⟩
   exact ⟨_,_,_,e⟩
  by_cases m7:k < m
  .have d5:=ti k r4;have d6:=Cs k r4;obtain ⟨R,eR⟩:=QE ((kQ k r4).2);obtain ⟨G,a0⟩:=QE ((kQ k r4).1);rw [eR] at F8 d5;rw [a0] at O8;rw [eR,a0] at d6;have y:=zA s R wr F8.out (by unfold maxLen;omega);obtain ⟨t,et⟩:=QE ((R.drop 1).take (be (R.take 1)));obtain ⟨R',Y⟩:=QE ((R.drop 1).drop (be (R.take 1)));have HX:H (kQ (k+1) r4=(G++[t],R')):=K (by rw [d6];unfold th;rw [et,Y]);rw [et,Y] at y;have A:=K y;clear y et Y d6 eR a0;go_wp2_with fail
   refine A.out.mono ?_;rintro e w9 ⟨rfl,M,z⟩;have F9:=K M;have M9:=K (M8.out.same z (by omega));have T9:=K (T8.out.rd F8.out z);have B9:=K (B8.out.trans (z.below (QR _)));have Z9:s+2<=w9.heap.size:=by rw [z.1];exact Z8
   have O9:w9.ownsRow (s+2) 9 1 (L a n c) k (ah G):=bM O8.out z (by omega);obtain ⟨c3,f3⟩:=M9.out.cell 3;clear A M z F8 M8 T8 B8 O8;have l5:=K (show w9.cell? ⟨s+1,3,N⟩=S (L a n c) from c3)
   go_wp2_with (first
    | (at_builtin;go_must (refine wpList_append_lies _ rfl _ _ 30 rfl (s+2) 9 i0 (T ⟨#[]⟩) 1 16 underlying30 k8 l0 l1 l2 rfl (by decide) (L a n c) k (ah G) rfl (O9.alloc _) ⟨w9.heap.size,0,N⟩ 1 1 [T (bs t)] rfl rfl ?c1 ?c2 (by decide) ?c3 ?c4 ?c5 (w9.heap.size+1) (by simp) ?_))
    | fail)
   case c1=>
    intro j u hj
    match j,hj with
    | 0,hj=>
     simp only [UG,Option.some.injEq] at hj;subst hj;simp [Addr.add]
   case c2=>intro u hu;simp at hu;subst hu;rfl
   case c3=>unfold maxLen;omega
   case c4=>omega
   case c5=>simp;omega
   intro g j2 V c6 b0 k6 l4;have D:=KY F9.out M9.out T9.out B9.out e9.out Z9 O9 c6 b0;have HD:=K D;obtain ⟨u9,d1⟩:=D.yA;have d2:=D.soft;clear D c6 b0 k6;go_wp2_with fail
   have d:=HD.out;exact ⟨⟨k+1,_,by omega,by go_num,K (by rw [HX.out];exact d.rd),K d.xu,K (by rw [HX.out];exact d.own),K d.touch,K d.below,d.size⟩,by simp [Y9];omega⟩
  have k9:k=m:=by omega
  subst k9;have d5:=ti k r4;have d7:=sr k r4;have d8:=D3 k r4;obtain ⟨R,eR⟩:=QE ((kQ k r4).2);obtain ⟨G,a0⟩:=QE ((kQ k r4).1);rw [eR] at F8 d5;rw [a0] at O8 d7 d8;have y:=dr s 2 R wr F8.out (by unfold maxLen;omega) (by decide)
  have k5:be (R.take 2) < 65536:=by
   have M:=Bs (R.take 2);have z:256 ^ (R.take 2).length<=256 ^ 2:=Nat.pow_le_pow_right (by decide) (by rw [Sm];omega);have h3:256 ^ 2=65536:=by decide
   omega
  obtain ⟨B,eB⟩:=QE (be (R.take 2));obtain ⟨R',Y⟩:=QE (R.drop 2);have l3:R'.length<=1048576:=by rw [<-Y,Rq];omega
  obtain ⟨D,eD⟩:=QE (R'.take B)
  have i3:H (gx r=⟨b,q,f,G,D⟩):=K (by
   have e8:r.drop 8=r2:=by rw [<-e2, <-e1,SX]
   unfold gx;rw [e8,f9.out,e1,eI,eT];simp only
   rw [eN,e4,eR,a0,eB,Y,eD])
  rw [eB,Y] at y;rw [eB] at k5;have m5:D.length<=65535:=by rw [<-eD,Sm];omega
  have A:=K y;have f5:=K d7;have i5:=K d8;have i2:=K eD;clear y d8 d7 eB Y eR a0 eD e1 e2 e4 eN eI eT;go_wp2_with fail
  refine A.out.mono ?_;rintro e w9 ⟨rfl,M,z⟩;have F9:=K M;have M9:=K (M8.out.same z (by omega));have T9:=K (T8.out.rd F8.out z);have B9:=K (B8.out.trans (z.below (QR _)));have Z9:s+2<=w9.heap.size:=by rw [z.1];exact Z8
  have O9:H (w9.ownsRow (s+2) 9 1 (L a n c) k (ah G)):=K (bM O8.out z (by omega));clear A M z F8 M8 T8 B8 O8;have y:=kq s B R' w9 F9.out (by unfold maxLen;omega) (by unfold maxLen;omega);rw [i2.out] at y;have A:=K y;clear y;go_wp2_with fail
  refine A.out.mono ?_;rintro e V ⟨rfl,M,z⟩;have X:=K (M9.out.same z (by omega));have g5:=K (T9.out.rd F9.out z);have e0:=K (B9.out.trans (z.below (QR _)));have g7:s+2<=V.heap.size:=by rw [z.1];exact Z9
  have g4:=K (bM O9.out z (by omega));obtain ⟨c4,f4⟩:=X.out.cell 4;have k0:V.cell? ⟨s+1,0,N⟩=S (I J b):=(X.out.cell 0).1;have k1:V.cell? ⟨s+1,1,N⟩=S (I J q):=(X.out.cell 1).1;have k2:V.cell? ⟨s+1,2,N⟩=S (T (bs f)):=(X.out.cell 2).1;have k3:V.cell? ⟨s+1,3,N⟩=S (L a n c):=(X.out.cell 3).1;clear A M z F9 M9 T9 B9 O9;obtain ⟨a6,a4⟩:=QE (V.setCell ⟨s+1,4,N⟩ (T (bs D)));have a9:aA (s+1) V a6:=by rw [<-a4];exact (aA.refl _ _).setCell _
  have g0:cu a6 (s+1) b q f (L a n c) D:=by rw [<-a4];exact Ro V (s+1) 4 _ _ (T (bs D)) X.out
  have g6:=K (g5.out.xu X.out a9);have e5:=K (e0.out.trans (a9.below (show s<=s+1 by omega)));have j1:s+2<=a6.heap.size:=by rw [a9.1];exact g7
  have d3:=K (bM g4.out a9 (by omega));have a7:H (bz C a6 p o):=K (i4.out.touch g6.out (by decide) (by decide) (by decide) (by decide));have c0:=K a4;have b5:=K g0;clear a4 a9 X g5 e0 g4 g0;go_wp2_with fail
  rw [c0.out];obtain ⟨aL,mH,g9,h0,h4⟩:=a7.out.head;have b4:dJ ⟨b,q,f,G,D⟩:=⟨g8,h6,by show f.length<=255;omega,by show G.length<=255;have:=f5.out;omega,λx hx=>by have:=i5.out x hx;omega,by show D.length<=1048576;omega⟩
  have b1:(⟨b,q,f,G,D⟩:aX).xd.length=k:=f5.out;have c7:bg a6 (L a n c) (⟨b,q,f,G,D⟩:aX).xd.length 1 (ah (⟨b,q,f,G,D⟩:aX).xd):=by rw [b1];exact iQ d3.out
  refine (Ba p o.items.length o.time mH aL ⟨b,q,f,G,D⟩ (L a n c) a6 g9 h0 (by omega) (by omega) h4 c7 b4).mono ?_;rintro e P ⟨rfl,U⟩
  have d0:H (o.takes l=if bZ o.items.length o.time ⟨b,q,f,G,D⟩ && (bT ⟨b,q,f,G,D⟩ == l) then S ⟨o.items++[⟨⟨b,q,f,G,D⟩,List.replicate G.length F⟩],q⟩ else N):=K (by
   rw [HL.out,Ph,i3.out])
  have a8:H (bz C P p o):=K (a7.out.touch (aE.below (ts:=[]) U) (by simp) (by simp) (by simp) (by simp));have c8:H (Y6 C w P):=K (i1.out.trans ((e5.out.mono k7).trans (U.mono (by omega))));have d4:=K (aV (aE.below (ts:=[]) U) (by simp) d3.out)
  have O:cu P (s+1) b q f (L a n c) D:=by
   have h:=b5.out;unfold cu at h ⊢;rw [U.block (s+1) (by omega)];exact h
  have l7:s+2<=P.heap.size:=by have:=U.size;omega
  have q0:P.cell? ⟨s+1,0,N⟩=S (I J b):=(O.cell 0).1;have q1:P.cell? ⟨s+1,1,N⟩=S (I J q):=(O.cell 1).1;have q2:P.cell? ⟨s+1,2,N⟩=S (T (bs f)):=(O.cell 2).1;have q3:P.cell? ⟨s+1,3,N⟩=S (L a n c):=(O.cell 3).1;have q4:P.cell? ⟨s+1,4,N⟩=S (T (bs D)):=(O.cell 4).1;have b6:=K O;have a3:bg P (L a n c) (⟨b,q,f,G,D⟩:aX).xd.length 1 (ah (⟨b,q,f,G,D⟩:aX).xd):=by rw [b1];exact iQ d4.out
  have c9:=K (p9 ⟨b,q,f,G,D⟩ (L a n c) P a3 b4);have i8:=K b4;have f0:=K b1;clear k0 k1 k2 k3 c4 f4 U O c7 a3 b4 b1 b5 d3 a7 g6 e5 c0 g9 h0 h4 j1 g7
  cases hO:bZ o.items.length o.time ⟨b,q,f,G,D⟩
  case false=>
   have HE:H (o.takes l=N):=K (by rw [d0.out,hO];rfl);go_wp2_with fail
   go_ret;rw [HE.out];exact ⟨rfl,a8.out,c8.out⟩
  obtain ⟨E,eE⟩:=QE (bT ⟨b,q,f,G,D⟩)
  have k4:1<=G.length:=by
   unfold bZ at hO;simp only [Rk,decide_eq_true_eq] at hO;exact hO.1.1.1.1.2
  have a2:H (o.takes l=if (E == l) then S ⟨o.items++[⟨⟨b,q,f,G,D⟩,List.replicate G.length F⟩],q⟩ else N):=K (by
   rw [d0.out,hO,eE,Sy])
  rw [eE] at c9;clear eE d0 hO;go_wp2_with fail
  refine c9.out.mono ?_;rintro e W ⟨rfl,Z⟩;have b7:H (bz C W p o):=K (a8.out.touch (aE.below (ts:=[]) Z) (by simp) (by simp) (by simp) (by simp));have e6:H (Y6 C w W):=K (c8.out.trans (Z.mono (by omega)));have i9:=K (aV (aE.below (ts:=[]) Z) (by simp) d4.out)
  have Q:cu W (s+1) b q f (L a n c) D:=by
   have h:=b6.out;unfold cu at h ⊢;rw [Z.block (s+1) (by omega)];exact h
  have p0:W.cell? ⟨s+1,0,N⟩=S (I J b):=(Q.cell 0).1;have p1:W.cell? ⟨s+1,1,N⟩=S (I J q):=(Q.cell 1).1;have p2:W.cell? ⟨s+1,2,N⟩=S (T (bs f)):=(Q.cell 2).1;have p3:W.cell? ⟨s+1,3,N⟩=S (L a n c):=(Q.cell 3).1;have p4:W.cell? ⟨s+1,4,N⟩=S (T (bs D)):=(Q.cell 4).1;clear q0 q1 q2 q3 q4 Z Q b6 c9 d4 a8 c8
  cases hQ:(E == l)
  case false=>
   have hq:((bs E).toList == (bs l).toList)=F:=by rw [gi];exact hQ
   have HE:H (o.takes l=N):=K (by rw [a2.out,hQ];rfl);clear a2 hQ;go_wp2_with fail
   go_ret;rw [HE.out];exact ⟨rfl,b7.out,e6.out⟩
  have hq:((bs E).toList == (bs l).toList)=YT:=by rw [gi];exact hQ
  have HE:H (o.takes l=S ⟨o.items++[⟨⟨b,q,f,G,D⟩,List.replicate G.length F⟩],q⟩):=K (by rw [a2.out,hQ];rfl);have h9:=K (zI C p o ⟨b,q,f,G,D⟩ (L a n c) W b7.out (by omega) (by rw [f0.out];exact i9.out.mono (by omega)) i8.out k4);clear a2 hQ;go_wp2_with fail
  refine h9.out.mono ?_;rintro e n0 ⟨rfl,r1,r2,r3⟩;have R1:=K r1;have R3:=K (e6.out.trans r3);clear r1 r2 r3;go_wp2_with fail
  go_ret;rw [HE.out];exact ⟨rfl,R1.out,R3.out⟩
theorem DJ(k p:Nat)(i:aa)(l:QF)(w:QI)(h:bz k w p i)(hb:k<=w.heap.size)(hn:i.items.length<=1048575)(hT:i.time<=1000000000)(hl:l.length<=1048576):Y8 prog 115 #[YV (S ⟨p,0,N⟩),T (bs l)] w λe w'=>e=YX (YW (i.takes l).isSome)/\bz k w' p ((i.takes l).getD i)/\Y6 k w w':=by
 by_cases b5:l.take 1=[77]
 .exact Bb k p i l w h hb hn hT hl b5
 have g4:p < w.heap.size:=by
  obtain ⟨_,_,_,_,hP,_⟩:=h;exact dq hP
 obtain ⟨Y,W⟩:=QE (w.alloc (YU #[T (bs l)] 201));have a6:H (Rd Y w.heap.size l):=K (by rw [<-W];exact Q0 w _);have T0:aE [] w Y:=by rw [<-W];exact (aE.refl _ w).alloc _
 have b3:H (bz k Y p i):=K (h.touch T0 (by simp) (by simp) (by simp) (by simp));have b0:H (Y6 k w Y):=K (by rw [<-W];exact (QQ _ _).alloc hb _);have d8:Y.heap.size=w.heap.size+1:=by rw [<-W];simp
 have e9:=K W;have c7:=K d8;have b7:=kq w.heap.size 1 l Y a6.out (by unfold maxLen;omega) (by decide);obtain ⟨t,ht⟩:=QE (l.take 1);obtain ⟨r,hr⟩:=QE (l.drop 1);rw [ht,hr] at b7;have V:=K ht;have c6:=K hr;have g5:r.length<=1048576:=by rw [<-hr,Rq];omega
 clear ht hr T0 h W d8;go_enter func115,ntmps115;go_wp2_with fail
 rw [e9.out];refine b7.mono ?_;rintro e w1 ⟨rfl,h1,h2⟩;have F1:=K h1;have S1:=K h2;clear b7 h1 h2;have hM:¬t=[77]:=by rw [<-V.out];exact b5
 clear b5;have m1:((bs t).toList == [77])=F:=by rw [kT];simpa using hM
 by_cases hG:t=[71]
 .have m2:((bs t).toList == [71])=YT:=by rw [kT];simpa using hG
  have e6:H (l=71::r):=K (by rw [<-Rp 1 l,V.out,c6.out,hG];rfl);have M:=zz w.heap.size r w1 F1.out (by unfold maxLen;omega) (by rw [S1.out.1,c7.out];omega);have a1:be (r.take 4)<=4294967295:=by have:=jr (l:=r.take 4) (by rw [Sm];omega);omega
  have hN:=lg (r.drop 4);obtain ⟨b,eI⟩:=QE (be (r.take 4));obtain ⟨f,eN⟩:=QE (be ((r.drop 4).take 1));obtain ⟨m,E⟩:=QE (ig f (r.drop 5));have q:m.length=f:=by rw [<-E,qA]
  have a2:∀x∈m,x<=255:=by rw [<-E];exact Cb _ _
  rw [eI,eN,E] at M;rw [eI] at a1;rw [eN] at hN
  have y:H (i.takes l=if gy i b m && (71::cG b m == l) then S (i.outs (b - 1) m) else N):=K (by
   have e:bw r=(b,m):=by unfold bw;rw [eI,eN,E]
   rw [e6.out,JI,e])
  have C:=K a2;have f9:=K q;have b2:=K M;clear hM hG eI eN E a2 M;go_wp2_with fail
  refine b2.out.mono ?_;rintro e w2 ⟨v,rfl,n,X,e0,d0⟩;have T1:aE [201] Y w1:=(aE.refl _ Y).same a6.out (by simp) S1.out;have U:H (bz k w2 p i):=K ((b3.out.touch T1 (by decide) (by decide) (by decide) (by decide)).touch e0 (by decide) (by decide) (by decide) (by decide));have a5:H (Y6 k w w2):=K (b0.out.trans ((S1.out.below hb).trans (d0.mono hb)))
  have c4:∃a o,v=L a f o:=by
   rcases n.2 with ⟨e,h0⟩ | ⟨g,cp,f0,e,_⟩
   .exact ⟨_,_,by rw [h0];exact e⟩
   exact ⟨_,_,e⟩
  obtain ⟨a,o,rfl⟩:=c4;rw [<-q] at n;have R:=K n;have a4:k<=w2.heap.size:=by have:=a5.out.size;omega
  clear T1 n X e0 d0;have ho:=ud k p b i (L a m.length o) m w2 U.out (by omega) a1 (iQ R.out) (by omega) C.out;have a0:=K ho;rw [q] at a0;clear ho;go_wp2_with fail
  refine a0.out.mono ?_;rintro e w3 ⟨rfl,a3⟩;have z:=K a3;clear a3
  cases G:gy i b m
  case false=>
   have A:H (i.takes l=N):=K (by rw [y.out,G];rfl);go_wp2_with fail
   go_ret;rw [A.out];exact ⟨rfl,U.out.touch (aE.below (ts:=[]) z.out) (by simp) (by simp) (by simp) (by simp),a5.out.trans (z.out.mono a4)⟩
  have hL:=p8 b (L a m.length o) m w3 (by unfold maxLen;omega) (iQ (aV (aE.below (ts:=[]) z.out) (by simp) R.out)) (by omega) C.out;obtain ⟨d,eL⟩:=QE (cG b m);have f6:d.length<=300:=by rw [<-eL];unfold cG;rw [RI,RI,aY,aY,tU];omega
  rw [eL] at hL y;have sL:=aj d;have c5:=K hL;rw [q] at c5;clear hL eL;go_wp2_with fail
  refine c5.out.mono ?_;rintro e w4 ⟨rfl,B⟩;have Q:=K (z.out.trans (B.mono z.out.size));clear B;go_wp2_with fail
  .have h:(!((⟨#[71]⟩:QL)++bs d).toList == (bs l).toList)=YT:=by assumption
   have A:H (i.takes l=N):=K (by
    rw [show (⟨#[71]⟩:QL)=bs [71] from rfl,aQ,gi] at h;have h':(71::d == l)=F:=by simpa using h
    rw [y.out,G,h'];rfl)
   go_ret;rw [A.out];exact ⟨rfl,U.out.touch (aE.below (ts:=[]) Q.out) (by simp) (by simp) (by simp) (by simp),a5.out.trans (Q.out.mono a4)⟩
  have h:(!((⟨#[71]⟩:QL)++bs d).toList == (bs l).toList)=F:=by assumption
  have A:H (i.takes l=S (i.outs (b - 1) m)):=K (by
   rw [show (⟨#[71]⟩:QL)=bs [71] from rfl,aQ,gi] at h;have h':(71::d == l)=YT:=by simpa using h
   rw [y.out,G,h'];rfl)
  have f4:1<=b:=by
   unfold gy at G;simp only [Rk,decide_eq_true_eq] at G;omega
  obtain ⟨c,rfl⟩:∃c,b=c+1:=⟨b - 1,by omega⟩
  have e2:=aV (aE.below (ts:=[]) Q.out) (by simp) R.out;have hR:=zN k w1.heap.size p c i (L a m.length o) m w4 (U.out.touch (aE.below (ts:=[]) Q.out) (by simp) (by simp) (by simp) (by simp)) (by omega) e2 (by omega) C.out G;rw [q] at hR;refine hR.mono ?_;rintro e w5 ⟨rfl,r1,r2,r3⟩;have R1:=K r1;have R3:=K (a5.out.trans ((Q.out.mono a4).trans r3));clear r1 r2 r3 hR e2;go_wp2_with fail
  go_ret;rw [A.out];exact ⟨rfl,R1.out,R3.out⟩
 have m2:((bs t).toList == [71])=F:=by rw [kT];simpa using hG
 by_cases hF:t=[70]
 .have m3:((bs t).toList == [70])=YT:=by rw [kT];simpa using hF
  have e5:H (l=70::r):=K (by rw [<-Rp 1 l,V.out,c6.out,hF];rfl);have c0:=dr w.heap.size 4 r w1 F1.out (by unfold maxLen;omega) (by decide);have c9:be (r.take 4)<=4294967295:=by have:=jr (l:=r.take 4) (by rw [Sm];omega);omega
  obtain ⟨j,eT⟩:=QE (be (r.take 4));obtain ⟨s,es⟩:=QE (r.drop 4);rw [eT,es] at c0;rw [eT] at c9;have g7:s.length<=1048576:=by rw [<-es,Rq];omega
  have a1:be (s.take 4)<=4294967295:=by have:=jr (l:=s.take 4) (by rw [Sm];omega);omega
  have hN:=lg (s.drop 4);obtain ⟨b,eI⟩:=QE (be (s.take 4));obtain ⟨f,eN⟩:=QE (be ((s.drop 4).take 1));obtain ⟨m,E⟩:=QE (ig f (s.drop 5));have q:m.length=f:=by rw [<-E,qA]
  have a2:∀x∈m,x<=255:=by rw [<-E];exact Cb _ _
  have M:=λw' (h1:Rd w' w.heap.size s) h2=>zz w.heap.size s w' h1 (by unfold maxLen;omega) h2;rw [eI,eN,E] at M;rw [eI] at a1;rw [eN] at hN
  have y:H (i.takes l=if gy i b m && decide (i.time<=j) && decide (j<=1000000000) && (70::(aG 4 j++cG b m) == l) then S ((i.outs (b - 1) m).failed (i.xr (b - 1)) m j) else N):=K (by
   have e:bw (r.drop 4)=(b,m):=by rw [es];unfold bw;rw [eI,eN,E]
   rw [e5.out,JH,e,eT])
  have C:=K a2;have b2:=K M;have e4:=K c0;clear hM hG hF eI eN E a2 M c0 eT es;go_wp2_with fail
  refine e4.out.mono ?_;rintro e w2 ⟨rfl,X,d9⟩;have F2:=K X;have S2:=K (S1.out.trans d9);clear X d9;go_wp2_with fail
  refine (b2.out _ F2.out (by rw [S2.out.1,c7.out];omega)).mono ?_;rintro e w3 ⟨v,rfl,n,X,e1,a3⟩;have T1:aE [201] Y w2:=(aE.refl _ Y).same a6.out (by simp) S2.out;have c8:H (bz k w3 p i):=K ((b3.out.touch T1 (by decide) (by decide) (by decide) (by decide)).touch e1 (by decide) (by decide) (by decide) (by decide));have z:H (Y6 k w w3):=K (b0.out.trans ((S2.out.below hb).trans (a3.mono hb)))
  have c4:∃a o,v=L a f o:=by
   rcases n.2 with ⟨e,h0⟩ | ⟨g,cp,f0,e,_⟩
   .exact ⟨_,_,by rw [h0];exact e⟩
   exact ⟨_,_,e⟩
  obtain ⟨a,o,rfl⟩:=c4;rw [<-q] at n;have R:=K n;have d3:k<=w3.heap.size:=by have:=z.out.size;omega
  clear T1 n X e1 a3;have ho:=ud k p b i (L a m.length o) m w3 c8.out (by omega) a1 (iQ R.out) (by omega) C.out;have a0:=K ho;rw [q] at a0;clear ho;go_wp2_with fail
  refine a0.out.mono ?_;rintro e w4 ⟨rfl,B⟩;have Q:=K B;have D:H (bz k w4 p i):=K (c8.out.touch (aE.below (ts:=[]) B) (by simp) (by simp) (by simp) (by simp));have u:H (Y6 k w w4):=K (z.out.trans (B.mono d3));have a8:=K (aV (aE.below (ts:=[]) B) (by simp) R.out);clear B
  have p1:w4.cell? ⟨p,1,N⟩=S (I J i.time):=by
   obtain ⟨_,_,_,_,hP,_⟩:=D.out;rw [Q3 hP];rfl
  have a9:k<=w4.heap.size:=by have:=u.out.size;omega
  cases G:gy i b m
  case false=>
   have A:H (i.takes l=N):=K (by rw [y.out,G];rfl);go_wp2_with fail
   go_ret;rw [A.out];exact ⟨rfl,D.out,u.out⟩
  cases c2:decide (j < i.time)
  case true=>
   have A:H (i.takes l=N):=K (by rw [y.out,G,decide_eq_false (show ¬i.time<=j by simp at c2;omega)];rfl);go_wp2_with fail
   go_ret;rw [A.out];exact ⟨rfl,D.out,u.out⟩
  cases c3:decide (1000000000 < (j:Int))
  case true=>
   have A:H (i.takes l=N):=K (by rw [y.out,G,decide_eq_false (show ¬j<=1000000000 by simp at c3;omega)];simp);go_wp2_with fail
   go_ret;rw [A.out];exact ⟨rfl,D.out,u.out⟩
  have O:H (i.takes l=if (70::(aG 4 j++cG b m) == l) then S ((i.outs (b - 1) m).failed (i.xr (b - 1)) m j) else N):=K (by
   rw [y.out,G,decide_eq_true (show i.time<=j by simp at c2;omega),decide_eq_true (show j<=1000000000 by simp at c3;omega)]
   simp)
  have b6:=du j 4 w4 (by unfold maxLen;omega) (by decide);obtain ⟨P,E⟩:=QE (aG 4 j);have g0:P.length=4:=by rw [<-E,aY]
  obtain ⟨d,eL⟩:=QE (cG b m);have f6:d.length<=300:=by rw [<-eL];unfold cG;rw [RI,RI,aY,aY,tU];omega
  have a7:=λw' f7=>p8 b (L a m.length o) m w' (by unfold maxLen;omega) (iQ (aV (aE.below (ts:=[]) f7) (by simp) a8.out)) (by omega) C.out;rw [E] at b6 O;rw [eL] at a7 O;rw [q] at a7;have sP:=aj P;have sL:=aj d;have e3:=K b6;have e7:=K a7;clear b6 a7 E eL;go_wp2_with fail
  refine e3.out.mono ?_;rintro e w5 ⟨rfl,d1⟩;have b1:=K d1;clear d1;go_wp2_with fail
  refine (e7.out _ b1.out).mono ?_;rintro e w6 ⟨rfl,d2⟩;have Z:=K (b1.out.trans (d2.mono b1.out.size));clear d2;have g6:(bs P++bs d).size<=304:=by rw [aQ,aj,RI];omega
  go_wp2_with fail
  .have h:(!((⟨#[70]⟩:QL)++bs P++bs d).toList == (bs l).toList)=YT:=by assumption
   have A:H (i.takes l=N):=K (by
    rw [show (⟨#[70]⟩:QL)=bs [70] from rfl,aQ,aQ,gi] at h;have h':(70::(P++d) == l)=F:=by simpa using h
    rw [O.out,h'];rfl)
   go_ret;rw [A.out];exact ⟨rfl,D.out.touch (aE.below (ts:=[]) Z.out) (by simp) (by simp) (by simp) (by simp),u.out.trans (Z.out.mono a9)⟩
  have h:(!((⟨#[70]⟩:QL)++bs P++bs d).toList == (bs l).toList)=F:=by assumption
  have A:H (i.takes l=S ((i.outs (b - 1) m).failed (i.xr (b - 1)) m j)):=K (by
   rw [show (⟨#[70]⟩:QL)=bs [70] from rfl,aQ,aQ,gi] at h;have h':(70::(P++d) == l)=YT:=by simpa using h
   rw [O.out,h'];rfl)
  have f4:1<=b:=by
   unfold gy at G;simp only [Rk,decide_eq_true_eq] at G;omega
  obtain ⟨c,rfl⟩:∃c,b=c+1:=⟨b - 1,by omega⟩
  obtain ⟨f5,b4⟩:=JE G;have hx:i.items[c]? =S i.items[c]:=Re f5;have d7:=D.out.yB hx;have d6:i.xr (c+1 - 1)=i.items[c].m:=by unfold aa.xr;rw [show c+1 - 1=c by omega,hx];rfl
  have d4:((i.items.map (·.out)).getD c [])=i.items[c].out:=by rw [Q5,TV,hx];rfl
  rw [d4,d7] at b4
  have d5:(i.outs c m).items[c]? =S ⟨i.items[c].m,fE i.items[c].out m⟩:=by
   unfold aa.outs;simp only;rw [List.getElem?_modify,hx];simp
  have f8:(i.outs c m).items.length=i.items.length:=by unfold aa.outs;simp
  have c1:=aV (aE.below (ts:=[]) Z.out) (by simp) a8.out;have hR:=zN k w2.heap.size p c i (L a m.length o) m w6 (D.out.touch (aE.below (ts:=[]) Z.out) (by simp) (by simp) (by simp) (by simp)) (by omega) c1 (by omega) C.out G;rw [q] at hR;refine hR.mono ?_;rintro e w7 ⟨rfl,r1,r2,r3⟩;have hF:=AZ k w2.heap.size p c j (i.outs c m) ⟨i.items[c].m,fE i.items[c].out m⟩ (L a m.length o) m w7 r1 (by omega) c9 (aV r2 (by decide) c1) (by omega) d5 b4;rw [q] at hF;have HF:=K hF;have R3:=K (u.out.trans ((Z.out.mono a9).trans r3));have e8:=K d6;clear r1 r2 r3 hR c1 hF d6 d4 d5 f8 hx d7 b4;go_wp2_with fail
  refine HF.out.mono ?_;rintro e w8 ⟨rfl,f1,f2,f3⟩;have G1:=K f1;have G3:=K (R3.out.trans f3);clear f1 f2 f3;go_wp2_with fail
  go_ret;rw [A.out,e8.out];exact ⟨rfl,G1.out,G3.out⟩
 have m3:((bs t).toList == [70])=F:=by rw [kT];simpa using hF
 have A:H (i.takes l=N):=K (NZ (by rw [V.out];exact hM) (by rw [V.out];exact hG) (by rw [V.out];exact hF));have T1:aE [201] Y w1:=(aE.refl _ Y).same a6.out (by simp) S1.out;have U:H (bz k w1 p i):=K (b3.out.touch T1 (by decide) (by decide) (by decide) (by decide));clear hM hG hF T1;go_wp2_with fail
 go_ret;rw [A.out];exact ⟨rfl,U.out,b0.out.trans (S1.out.below hb)⟩
def fL(out:List Bool)(k:Nat):List Nat:=(List.range k).filter λi=> !(out.getD i F)
theorem Fe(a:List Bool)(k:Nat):fL a (k+1)=fL a k++(if a.getD k F then [] else [k]):=by
 unfold fL;rw [Ui,List.filter_append]
 cases h:a.getD k F <;> (rw [Q5] at h;simp [h])
theorem qu(a:List Bool)(k:Nat):(fL a k).length<=k:=by
 unfold fL;have:=List.length_filter_le (λi=> !(a.getD i F)) (List.range k);simpa using this
theorem Ga(q:Nat)(x:fZ×QJ×Nat)(w:QI)(h:og q w x):Y8 prog 75 #[.agg (cE x).toArray] w λe o=>∃v,e=YX v/\o.ownsRow w.heap.size 3 1 v (fL x.1.out x.1.out.length).length (bc (fL x.1.out x.1.out.length))/\aE [] w o:=by
 obtain ⟨⟨⟨id,m,xk,D,d⟩,a⟩,vt,r⟩:=x;obtain ⟨V,h2,W,X,h5,Y⟩:=h;simp only at V h2 W X h5 Y;obtain ⟨i0,hi,a3,a4,a5⟩:=Rr mO
 obtain ⟨t,s,rfl⟩:∃t s,vt=L (S ⟨t,0,N⟩) D.length s:=by
  rcases V.2 with ⟨_,h0⟩ | ⟨g,cp,R,e,_⟩
  .omega
  exact ⟨g,cp,e⟩
 have ho:a.length<=255:=by rw [X];exact Y.2.2.2.1
 have HO:=K W;simp only [cE];obtain ⟨W0,f⟩:=QE (w.alloc (YU #[I J id,I J m,T (bs xk),L (S ⟨t,0,N⟩) D.length s,T (bs d),L (S ⟨r,0,N⟩) a.length a.length] 147));have A:W0.heap.size=w.heap.size+1:=by rw [<-f];simp
 have y:=QG f;have B:=QH f;have Q:=K B;have E:=K y;have a7:=K A;have P:=K f;clear V h2 W X h5 Y B y A f;go_enter func75,ntmps75;go_wp2_with fail
 rw [P.out];go_loopw [3,4] (λv i o=>∃k:Nat,k<=a.length/\i=I J k/\H (o.ownsRow w.heap.size 3 1 v (fL a k).length (bc (fL a k)))/\H (aE [] w o)/\H (o.heap[w.heap.size]? =S (YU #[I J id,I J m,T (bs xk),L (S ⟨t,0,N⟩) D.length s,T (bs d),L (S ⟨r,0,N⟩) a.length a.length] 147 (0,0)))) (λ_ i _=>a.length - (Y9 i).toNat)
 case atStart=>exact ⟨0,QS _,rfl,K (World.ownsRow_nil _ _ _ _),K (aE.below E.out),Q⟩
 case round=>
  obtain ⟨k,hk,rfl,O,HT,p⟩:=hrel;have x5:wr.cell? ⟨w.heap.size,5,N⟩=S (L (S ⟨r,0,N⟩) a.length a.length):=Q3 p.out _
  by_cases a2:k < a.length
  .have a6:(k:Int) < (a.length:Int):=by omega
   have eb:wr.cell? ⟨r,k,N⟩=S (YW (a.getD k F)):=by
    rw [Q3 (HT.out.cells HO.out (by simp))];simp [fO,Q5,a2]
   have n:=K (Fe a k);have a1:=qu a k
   cases hb:a.getD k F
   case true=>
    rw [hb] at eb n;go_wp2_with fail
    refine ⟨⟨k+1,by omega,by go_num,K ?_,HT,p⟩,by simp [Y9];omega⟩
    rw [n.out];simpa using O.out
   rw [hb] at eb n;have b:=O.out;have a8:w.heap.size<=wr.heap.size:=HT.out.1;obtain ⟨M,Z⟩:=QE ((fL a k).length);rw [Z] at b a1;have HM:=K Z;clear Z
   go_wp2_with (first
    | (at_builtin;refine wpList_append_own _ rfl _ _ 33 rfl w.heap.size 3 i0 (I J 0) 1 8 underlying33 hi a3 a4 a5 rfl (by decide) _ _ _ rfl (b.alloc _) ⟨wr.heap.size,0,N⟩ 1 1 [I J (k:Int)] rfl rfl ?c1 ?c2 ?c3 ?c4 ?c5 ?_)
    | fail)
   case c1=>
    intro j u C
    match j,C with
    | 0,C=>
     simp only [UG,Option.some.injEq] at C;subst C;simp [Addr.add]
   case c2=>intro u hu;simp at hu;subst hu;rfl
   case c3=>unfold maxLen;omega
   case c4=>omega
   case c5=>simp;omega
   intro v' w4 l c _;have G:=K l;have T4:H (aE [] w w4):=K ((HT.out.alloc _).xS c (λk hk=>(b.lt k hk).1))
   have X4:H (w4.heap[w.heap.size]? =S (YU #[I J id,I J m,T (bs xk),L (S ⟨t,0,N⟩) D.length s,T (bs d),L (S ⟨r,0,N⟩) a.length a.length] 147 (0,0))):=K (by
    have z:=dq p.out
    rw [c.block w.heap.size (by simp;omega) (λe=>by
     rcases b.2 with ⟨U,_⟩ | ⟨g,cp,R,U,_,hg,_⟩
     .rw [U] at e;cases e
     rw [U] at e;injection e with e
     exact dN p.out hg (by decide) e)]
    rw [((QQ wr.heap.size wr).alloc (QR _) _).block _ z]
    exact p.out)
   clear l c b;go_wp2_with fail
   refine ⟨⟨k+1,by omega,by go_num,K ?_,T4,X4⟩,by simp [Y9];omega⟩
   rw [n.out];have:=G.out;rw [<-HM.out] at this;simpa [bc] using this
  have a0:k=a.length:=by omega
  subst a0;go_wp2_with fail
  go_ret;exact ⟨_,rfl,O.out,HT.out⟩
def b9(l:QF):QF:=if (bL l).2 then (bL l).1 else []
theorem qh(l:QF)(m:Int)(w:QI)(q:l.length<=140737488355328)(n:w.cell? ⟨0,0,N⟩=S (I J m)):Y8 prog 241 #[T (bs l)] w λe t=>e=YX (YY #[T (bs (b9 l)),YW (bL l).2])/\Y6 w.heap.size w t:=by
 have a:=FI (bs l) m w (by rw [aj];exact q) n;go_enter func241,ntmps241;go_wp2_with fail
 refine a.mono ?_;rintro e u ⟨x,y,f,rfl,h,k⟩;obtain ⟨c,rfl⟩:∃c,x=bs c:=⟨_,(Bu x).symm⟩;obtain ⟨d,rfl⟩:∃d,y=bs d:=⟨_,(Bu y).symm⟩;rw [ao,ao,ao] at h;have b:=pf l;rw [h] at b;obtain ⟨o,p⟩:=b;have r:(bs c).size<=20:=by rw [aj];exact o
 have s:(bs d).size<=40:=by rw [aj];exact p
 have g:H (bL l=(c++64::d,f)):=K (by unfold bL;rw [h]);have j:=K k;clear h k o p a n
 cases f
 case false=>
  have i:H (b9 l=[]):=K (by unfold b9;rw [g.out];rfl);go_wp2_with fail
  go_ret2
  exact ⟨by rw [i.out,g.out];rfl,j.out⟩
 have i:H (b9 l=c++64::d):=K (by unfold b9;rw [g.out];rfl);go_wp2_with fail
 go_ret2
 refine ⟨?_,j.out⟩;rw [show (⟨#[64]⟩:QL)=bs [64] from rfl,aQ,aQ,i.out,g.out];simp
theorem wH(l:QF)(m:Int)(w:QI)(k:l.length<=140737488355328)(j:w.cell? ⟨0,0,N⟩=S (I J m)):Y8 prog 216 #[T (bs l)] w λe n=>e=YX (YW (cm l))/\Y6 w.heap.size w n:=by
 have b:=qh l m w k j
 have c:H (cm l=((bL l).2 && (b9 l == l))):=K (by
  unfold cm b9
  cases (bL l).2 <;> rfl)
 obtain ⟨a,g⟩:=QE (b9 l);obtain ⟨f,h⟩:=QE ((bL l).2);rw [g,h] at b c;clear g h;go_enter func216,ntmps216;go_wp2_with fail
 refine b.mono ?_;rintro e o ⟨rfl,i⟩;have d:=K i;clear i b j
 cases f
 case false=>
  go_wp2_with fail
  go_ret;exact ⟨b8 (by rw [c.out];rfl),d.out⟩
 go_wp2_with fail
 go_ret;refine ⟨b8 ?_,d.out⟩;rw [gi,c.out];simp
def nK(l:List Nat)(i:Nat):Bool:=decide (i=0) || decide (l.getD (i - 1) 0 < l.getD i 0)
def cC(l:List Nat):Bool:=(List.range l.length).all (nK l)
theorem Dp(v:QJ)(l:List Nat)(w:QI)(h:bg w v l.length 1 (bc l))(X:l.length<=255):Y8 prog 219 #[v] w λe r=>e=YX (YW (cC l))/\∃n,r=w.drewN n:=by
 obtain ⟨a,M,rfl,_⟩:=h.one;have s:=K h;have P:(l.length:Int)<=255:=by omega
 clear h;go_enter func219,ntmps219;go_wp2_with fail
 go_loopw [3] (λi r=>∃j q:Nat,(j+1<=l.length\/j=0)/\i=I J ((j:Int)+1)/\H ((List.range (j+1)).all (nK l)=YT)/\r=w.drewN q) (λi _=>l.length - (Y9 i).toNat)
 case atStart=>exact ⟨0,0,.inr rfl,rfl,K (by simp [nK]),rfl⟩
 case round=>
  obtain ⟨j,q,g,rfl,o,rfl⟩:=hrel
  by_cases c:j+1 < l.length
  .have D:(j:Int)+1 < (l.length:Int):=by omega
   have d:j < l.length:=by omega
   have C:(j:Int) < (l.length:Int):=by omega
   have Q:IntKind.i64.wrap ((j:Int)+1 - 1)=(j:Int):=by rw [QY];omega
   have R:IntKind.i64.wrap (j:Int)=(j:Int):=by rw [QY];omega
   obtain ⟨b,m,rfl,_,B⟩:=s.out.elem j d;obtain ⟨U,E,e,_,f⟩:=s.out.elem (j+1) c;injection e with e;injection e with e1 e2;subst e1 e2;have V:w.cell? ⟨b,m+j,N⟩=S (I J (l[j]:Int)):=by rw [B];simp [bc,d]
   have W:w.cell? ⟨b,m+(j+1),N⟩=S (I J (l[j+1]:Int)):=by rw [f];simp [bc,c]
   have u:=K (show l.getD j 0=l[j] by rw [Q5,Re d];rfl);have z:=K (show l.getD (j+1) 0=l[j+1] by rw [Q5,Re c];rfl)
   generalize l[j]=x at *
   generalize l[j+1]=y at *
   clear B f g
   cases t:decide (y<=x)
   case true=>
    have k:y<=x:=by simpa using t
    have p:H (cC l=F):=K (eA c (by unfold nK;rw [z.out,show j+1 - 1=j by omega,u.out,decide_eq_false (show ¬x < y by omega)];rfl));go_wp2_with fail
    go_quiet (fail)
    go_wp2_with fail
    go_ret;exact ⟨by rw [p.out];rfl,_,by simp;rfl⟩
   have k:x < y:=by simpa using t
   have G:H ((List.range (j+1+1)).all (nK l)=YT):=K (by rw [lG,o.out];unfold nK;rw [z.out,show j+1 - 1=j by omega,u.out,decide_eq_true k];simp);go_wp2_with fail
   go_quiet (fail)
   go_wp2_with fail
   exact ⟨⟨j+1,q+nq,.inl (by omega),congrArg (I J) (by omega),G,rfl⟩,by simp [Y9];omega⟩
  have p:H (cC l=YT):=K (by
   rcases g with g | g
   .have:l.length=j+1:=by omega
    unfold cC;rw [this];exact o.out
   subst g
   rcases Nat.eq_zero_or_pos l.length with A | A
   .unfold cC;rw [A];rfl
   have:l.length=1:=by omega
   unfold cC;rw [this];exact o.out)
  have O:(l.length:Int)<=(j:Int)+1:=by omega
  go_wp2_with fail
  go_ret;exact ⟨by rw [p.out];rfl,q,rfl⟩
def mV(xd:List QF)(out:List Bool):List (Nat×QF):=(fL out out.length).map λi=>(i,xd.getD i [])
theorem FA(o:List Bool)(l:List Nat)(i:Nat)(h:i < o.length):(fE o l).getD i F=(o.getD i F || l.contains i):=by
 induction l generalizing o with
 | nil=>simp [fE]
 | cons x l ih=>
  show (fE (o.set x YT) l).getD i F=_;rw [ih _ (by rw [Q4];exact h),Q5,Q5,List.getElem?_set]
  by_cases a:x=i
  .subst a;simp [h]
  have:(i == x)=F:=by simpa using λe=>a e.symm
  rw [if_neg a,List.contains_cons,this,Bool.false_or]
theorem AF(o:List Bool)(l:List Nat):fL (fE o l) (fE o l).length=(fL o o.length).filter λi=> !(l.contains i):=by
 unfold fL;rw [List.filter_filter,lR];apply List.filter_congr;intro i a;rw [FA o l i (Q8.1 a)]
 cases o.getD i F <;> cases l.contains i <;> rfl
theorem Gt(a:List QF)(o:List Bool)(l:List Nat):mV a (fE o l)=(mV a o).filter λr=> !(l.contains r.1):=by
 unfold mV;rw [AF,Q9];rfl
theorem qx(o:List Bool)(i:Nat):i∈fL o o.length ↔ i < o.length/\o.getD i F=F:=by
 unfold fL;rw [Ra,Q8]
 cases o.getD i F <;> simp
theorem uM{l:List Nat}(h:cC l=YT):l.Pairwise (·< ·):=by
 rw [cC,Rb] at h
 have a:∀i,i+1 < l.length->l.getD i 0 < l.getD (i+1) 0:=λi b=>by
  have:=h (i+1) (Q8.2 b);simpa [nK] using this
 have c:∀d i,i+d+1 < l.length->l.getD i 0 < l.getD (i+d+1) 0:=λd=>by
  induction d with
  | zero=>intro i b;exact a i b
  | succ d ih=>
   intro i b;have k:=ih i (by omega);have m:=a (i+d+1) (by omega);have e:i+(d+1)+1=i+d+1+1:=by omega
   rw [e];omega
 rw [List.pairwise_iff_getElem];intro i j b f g;obtain ⟨d,rfl⟩:∃d,j=i+d+1:=⟨j - i - 1,by omega⟩
 have:=c d i f
 rwa [Q5,Q5,Re b,Re f] at this
theorem rJ:∀{a b:List Nat},a.Pairwise (·< ·)->b.Pairwise (·< ·)->(∀i,i∈a ↔ i∈b)->a=b
 | [],[],_,_,_=>rfl
 | [],y::b,_,_,h=>by have:=(h y).2 (by simp);cases this
 | x::a,[],_,_,h=>by have:=(h x).1 (by simp);cases this
 | x::a,y::b,ha,hb,h=>by
  rw [List.pairwise_cons] at ha hb
  have e:x=y:=by
   have d:=(h x).1 (by simp);have f:=(h y).2 (by simp)
   rcases Rf.1 d with e | d
   .exact e
   rcases Rf.1 f with e | f
   .exact e.symm
   have:=hb.1 x d;have:=ha.1 y f;omega
  subst e;rw [rJ ha.2 hb.2];intro i;have g:=h i;simp only [Rf] at g
  constructor
  .intro c;have:=ha.1 i c
   rcases g.1 (.inr c) with e | e
   .omega
   exact e
  intro c;have:=hb.1 i c
  rcases g.2 (.inr c) with e | e
  .omega
  exact e
theorem uH(o:List Bool)(k:Nat):(fL o k).Pairwise (·< ·):=(List.pairwise_lt_range).filter _
theorem I7(a:List QF)(o:List Bool)(l:List Nat)(c:cC l=YT)(b:∀x∈l,x < o.length/\o.getD x F=F):((mV a o).filter λr=>l.contains r.1).map (·.2)=l.map λi=>a.getD i []:=by
 unfold mV;rw [Q9,Rg]
 have e:(fL o o.length).filter ((λr:Nat×QF=>l.contains r.1) ∘ λi=>(i,a.getD i []))=l:=by
  apply rJ ((uH o _).filter _) (uM c);intro i;rw [Ra,qx];simp only [Function.comp,List.contains_iff_mem];exact ⟨λh=>h.2,λh=>⟨b i h,h⟩⟩
 rw [e];rfl
theorem Le(o:List Bool)(l:List Nat):(List.range l.length).all (jY o l)=(cC l && l.all λx=>decide (x < o.length) && !(o.getD x F)):=by
 have b:∀i,jY o l i=(nK l i && (decide (l.getD i 0 < o.length) && !(o.getD (l.getD i 0) F))):=λi=>by
  unfold jY nK;rw [Bool.and_comm]
 have c:(List.range l.length).all (λi=>decide (l.getD i 0 < o.length) && !(o.getD (l.getD i 0) F))=l.all λx=>decide (x < o.length) && !(o.getD x F):=by
  rw [Ri,Rb,Rb]
  constructor
  .intro h x d;obtain ⟨i,a,rfl⟩:=List.getElem_of_mem d;have:=h i (Q8.2 a)
   rwa [Q5,Re a] at this
  intro h i a;have a:=Q8.1 a;have:=h l[i] (QU a);rw [Q5,Re a];exact this
 rw [<-c,cC,Ri];simp only [Rk,Rb,b];exact ⟨λh=>⟨λi a=>(h i a).1,λi a=>(h i a).2⟩,λh i a=>⟨h.1 i a,h.2 i a⟩⟩
theorem Gs(a:List QF)(o:List Bool)(x:Nat):(mV a o).any (λr=>decide (r.1=x))=(decide (x < o.length) && !(o.getD x F)):=by
 rw [Ri,List.any_eq_true];unfold mV;simp only [List.mem_map,Rk,decide_eq_true_eq,Rm]
 constructor
 .rintro ⟨r,⟨i,b,rfl⟩,rfl⟩;exact (qx o i).1 b
 intro h;exact ⟨(x,a.getD x []),⟨x,(qx o x).2 h,rfl⟩,rfl⟩
def dj:Nat->aa->Nat->QF->aa×Nat
 | 0,a,k,_=>(a,k)
 | f+1,a,k,l=>
  match jw l with
  | none=>(a,k)
  | some c=>match a.takes c.1 with
   | none=>(a,k)
   | some S'=>dj f S' (k+8+c.1.length) c.2
def bn(l:QF):aa×Nat:=dj (l.length+1) ⟨[],0⟩ 0 l
theorem gU{f k:Nat}{a:aa}{l:QF}(h:jw l=N):dj (f+1) a k l=(a,k):=by
 rw [dj,h]
theorem jE{f k:Nat}{a:aa}{l:QF}{c:QF×QF}(h:jw l=S c)(b:a.takes c.1=N):dj (f+1) a k l=(a,k):=by
 rw [dj,h];simp only [b]
theorem fR{f k:Nat}{a b:aa}{l:QF}{c:QF×QF}(h:jw l=S c)(d:a.takes c.1=S b):dj (f+1) a k l=dj f b (k+8+c.1.length) c.2:=by
 rw [dj,h];simp only [d]
theorem pr(l:QF):jw l=if l.length < 8+be (l.take 4)\/¬be ((l.drop 4).take 4)=po ((l.drop 8).take (be (l.take 4))) then N else S ((l.drop 8).take (be (l.take 4)),(l.drop 8).drop (be (l.take 4))):=by
 have e:(l.drop 4).drop 4=l.drop 8:=by rw [SX]
 have g:(l.drop 8).length=l.length - 8:=Rq;unfold jw gK
 by_cases c:4<=l.length
 .rw [if_pos c];simp only [sb]
  by_cases a:4<=(l.drop 4).length
  .rw [if_pos a];simp only [sb];rw [e];unfold bj;rw [Rq] at a;obtain ⟨r,f⟩:=QE (l.drop 8);rw [f] at g ⊢
   by_cases d:be (l.take 4)<=r.length
   .rw [if_pos d];simp only [sb]
    by_cases b:po (r.take (be (l.take 4)))=be ((l.drop 4).take 4)
    .rw [if_pos b,if_neg (by
      rintro (h | h)
      .omega
      exact h b.symm)]
    rw [if_neg b,if_pos (.inr (λh=>b h.symm))]
   rw [if_neg d,if_pos (.inl (by omega))];rfl
  rw [if_neg a];rw [Rq] at a;rw [if_pos (.inl (by omega))];rfl
 rw [if_neg c,if_pos (.inl (by omega))];rfl
theorem zw(b:aa)(a:Nat)(c:List Nat):(b.outs a c).items.length=b.items.length/\(b.outs a c).time=b.time:=by
 unfold aa.outs;simp
theorem Dc(a:aa)(m:aX)(c:List Nat)(b:Nat):(a.failed m c b).items.length<=a.items.length+1/\(a.failed m c b).time=b:=by
 unfold aa.failed
 split <;> simp
theorem oY{a e:aa}{l:QF}(h:a.takes l=S e)(g:a.time<=1000000000):e.items.length<=a.items.length+1/\e.time<=1000000000:=by
 cases l with
 | nil=>cases h
 | cons c r=>
  unfold aa.takes at h;simp only at h
  split at h
  .split at h
   .rename_i d
    injection h with h;subst h;rw [Rk] at d;have b:=d.1;unfold bZ at b;simp only [Rk,decide_eq_true_eq] at b;exact ⟨by simp,b.1.1.1.1.1.2⟩
   cases h
  split at h
  .split at h
   .injection h with h;subst h;have:=zw a ((bw r).1 - 1) (bw r).2;exact ⟨by omega,by omega⟩
   cases h
  split at h
  .split at h
   .rename_i d
    injection h with h;subst h;simp only [Rk,decide_eq_true_eq] at d;have b:=zw a ((bw (r.drop 4)).1 - 1) (bw (r.drop 4)).2;have f:=Dc (a.outs ((bw (r.drop 4)).1 - 1) (bw (r.drop 4)).2) (a.xr ((bw (r.drop 4)).1 - 1)) (bw (r.drop 4)).2 (be (r.take 4));exact ⟨by omega,by omega⟩
   cases h
  cases h
theorem lI{l:QF}{c:QF×QF}(h:jw l=S c):l.length=8+c.1.length+c.2.length:=by
 rw [pr] at h
 split at h
 .cases h
 rename_i a
 injection h with h;subst h;simp only [Sm,Rq];have:¬l.length < 8+be (l.take 4):=λe=>a (.inl e);omega
theorem Ci:∀(f k:Nat) (a:aa) (l:QF),8 * a.items.length<=k->a.time<=1000000000->8 * (dj f a k l).1.items.length<=(dj f a k l).2/\(dj f a k l).2<=k+l.length/\(dj f a k l).1.time<=1000000000
 | 0,k,a,l,h,ht=>⟨h,by rw [dj];omega,ht⟩
 | f+1,k,a,l,h,ht=>by
  cases b:jw l with
  | none=>rw [gU b];exact ⟨h,by show k<=_;omega,ht⟩
  | some c=>
   cases d:a.takes c.1 with
   | none=>rw [jE b d];exact ⟨h,by show k<=_;omega,ht⟩
   | some S'=>
    have g:=oY d ht;have i:=lI b;have e:=Ci f (k+8+c.1.length) S' c.2 (by omega) g.2;rw [fR b d];exact ⟨e.1,by omega,e.2.2⟩
theorem kr(l:QF):8 * (bn l).1.items.length<=(bn l).2/\(bn l).2<=l.length/\(bn l).1.time<=1000000000:=by
 have:=Ci (l.length+1) 0 ⟨[],0⟩ l (by simp) (by simp);unfold bn;omega
theorem bz.nil{w:QI}:bz w.heap.size (w.alloc (YU #[L N 0 0,I J 0] 129)) w.heap.size ⟨[],0⟩:=
 ⟨L N 0 0,[],rfl,QR _,Q0 w _,World.ownsRow_nil _ _ _ _,by simp,λx a=>by cases a⟩
theorem mg(l:QF)(w:QI)(hl:l.length<=1048576):Y8 prog 64 #[T (bs l)] w λe m=>∃p,e=YX (YY #[YV (S ⟨p,0,N⟩),I J (bn l).2])/\bz w.heap.size m p (bn l).1/\Y6 w.heap.size w m:=by
 obtain ⟨s,hs⟩:=QE w.heap.size;obtain ⟨W0,u⟩:=QE (w.alloc (YU #[L N 0 0,I J 0] 129));have a3:H (bz s W0 s ⟨[],0⟩):=K (by rw [<-u, <-hs];exact bz.nil);have Y:H (Y6 s w W0):=K (by rw [<-u, <-hs];exact (QQ _ _).alloc (QR _) _);have sl:=aj l;have b1:=K u;rw [hs];have a9:=K hs;clear u;go_enter func64,ntmps64;go_wp2_with fail
 rw [b1.out];clear hs;go_loopw [5] (λv m=>∃(k f:Nat) (a:aa),v=I J k/\k<=l.length/\8 * a.items.length<=k/\H (l.length+1<=k+f)/\H (a.time<=1000000000)/\H (bz s m s a)/\H (Y6 s w m)/\H (dj f a k (l.drop k)=bn l)) (λv _=>l.length - (Y9 v).toNat)
 case atStart=>exact ⟨0,l.length+1,⟨[],0⟩,rfl,QS _,by simp,K (by omega),K (by simp),a3,Y,K rfl⟩
 case round=>
  clear a3 Y;obtain ⟨k,f,a,rfl,hk,hS,HF,HT,HS,HB,t⟩:=hrel;obtain ⟨f,rfl⟩:∃g,f=g+1:=⟨f - 1,by have:=HF.out;omega⟩
  obtain ⟨R,eR⟩:=QE (l.drop k);have c3:R.length=l.length - k:=by rw [<-eR,Rq]
  have b3:be (R.take 4)<=4294967295:=by have:=jr (l:=R.take 4) (by rw [Sm];omega);omega
  obtain ⟨b,eN⟩:=QE (be (R.take 4));obtain ⟨V,G⟩:=QE (R.drop 4);have b2:be (V.take 4)<=4294967295:=by have:=jr (l:=V.take 4) (by rw [Sm];omega);omega
  obtain ⟨C,eC⟩:=QE (be (V.take 4));obtain ⟨D,W⟩:=QE (V.drop 4);obtain ⟨c,eT⟩:=QE (D.take b);obtain ⟨R3,e3⟩:=QE (D.drop b)
  have d:H (jw R=if R.length < 8+b\/¬C=po c then N else S (c,R3)):=K (by
   have e8:R.drop 8=D:=by rw [<-W, <-G,SX]
   rw [pr,eN,G,eC,e8,eT,e3])
  have c1:V.length<=1048576:=by rw [<-G,Rq];omega
  have c2:D.length<=1048576:=by rw [<-W,Rq];omega
  have b5:c.length<=1048576:=by rw [<-eT,Sm];omega
  have b0:H (c.length=min b D.length):=K (by rw [<-eT,Sm]);have a7:H (D.length=R.length - 8):=K (by rw [<-W, <-G,Rq,Rq];omega);have a8:H (R3=l.drop (k+8+b)):=K (by rw [<-e3, <-W, <-G, <-eR,SX,SX,SX];congr 1;omega);have O:=λm h'=>dr wr.heap.size 4 R m h' (by unfold maxLen;omega) (by decide);have P:=λm h'=>dr wr.heap.size 4 V m h' (by unfold maxLen;omega) (by decide);have U:=λm h'=>kq wr.heap.size b D m h' (by unfold maxLen;omega) (by unfold maxLen;omega);have x:=λm=>zQ (bs c) m (by rw [aj];unfold maxLen;omega);rw [eN] at b3;rw [eC] at b2;rw [eN,G] at O;rw [eC,W] at P;rw [eT,e3] at U;rw [ao] at x;have b6:po c<=4294967295:=by unfold po;omega
  obtain ⟨Q,hQ⟩:=QE (po c);rw [hQ] at x b6 d;have Z:=K O;have a0:=K P;have a1:=K U;have a2:=K x;have sT:=aj c;rw [eR] at t;have a5:=K eR;have y:s<=wr.heap.size:=by have:=HB.out.size;have:=a9.out;omega
  clear eN G eC W eT e3 O P U x hQ eR;go_wp2_with fail
  have a6:H ((bs l).extract k l.length=bs R):=K (by rw [bR,QZ,a5.out]);rw [a6.out];obtain ⟨W1,o⟩:=QE (wr.alloc (YU #[T (bs R)] 201));have M:Rd W1 wr.heap.size R:=by rw [<-o];exact Q0 wr _
  have a4:aE [201] wr W1:=by rw [<-o];exact (aE.refl _ wr).alloc _
  have X:Y6 s w W1:=by rw [<-o];exact HB.out.alloc y _
  rw [o];refine (Z.out W1 M).mono ?_;rintro e w1 ⟨rfl,g1,g2⟩;have A1:=K g1;have T1:=K (a4.same M (by simp) g2);have B1:=K (X.trans (g2.below y));clear g1 g2 M a4 X o Z;go_wp2_with fail
  refine (a0.out w1 A1.out).mono ?_;rintro e w2 ⟨rfl,g1,g2⟩;have A2:=K g1;have T2:=K (T1.out.same A1.out (by simp) g2);have B2:=K (B1.out.trans (g2.below y));clear g1 g2 A1 T1 B1 a0;go_wp2_with fail
  refine (a1.out w2 A2.out).mono ?_;rintro e w3 ⟨rfl,g1,g2⟩;have T3:=K (T2.out.same A2.out (by simp) g2);have B3:=K (B2.out.trans (g2.below y));have A:H (bz s w3 s a):=K (HS.out.touch T3.out (by decide) (by decide) (by decide) (by decide));clear g1 g2 A2 T2 B2 a1 HS HB
  by_cases c0:l.length < k+8+b
  .have z:H (bn l=(a,k)):=K (by
    rw [<-t.out]
    exact gU (by rw [d.out,if_pos (.inl (by omega))]))
   clear t d;go_wp2_with fail
   go_ret2
   rw [z.out];exact ⟨s,rfl,A.out,B3.out⟩
  go_wp2_with fail
  refine (a2.out w3).mono ?_;rintro e w4 ⟨rfl,rfl⟩;have b4:c.length=b:=by have:=b0.out;have:=a7.out;omega
  have b7:s<=w3.heap.size:=by have:=T3.out.size;omega
  clear a2
  by_cases q:C=Q
  .have hb:(decide ((l.length:Int) < (k:Int)+8+(b:Int)) || (C:Int) != (Q:Int))=F:=by rw [q];simp;omega
   have r:H (jw R=S (c,R3)):=K (by rw [d.out,if_neg (by
    rintro (h | h)
    .omega
    exact h q)])
   have j:=DJ s s a c w3 A.out b7 (by omega) HT.out b5
   cases i:a.takes c with
   | none=>
    have z:H (bn l=(a,k)):=K (by
     rw [<-t.out]
     exact jE r.out i)
    rw [i] at j;have n:=K j;clear j t d r q i;go_wp2_with fail
    refine n.out.mono ?_;rintro e w5 ⟨rfl,r1,r2⟩;have B:=K r1;have E:=K (B3.out.trans r2);clear r1 r2 n;go_wp2_with fail
    go_ret2
    rw [z.out];exact ⟨s,rfl,B.out,E.out⟩
   | some S'=>
    have z:H (dj f S' (k+8+b) (l.drop (k+8+b))=bn l):=K (by
     rw [<-t.out,fR r.out i]
     rw [show (c,R3).1.length=b from b4,a8.out])
    have HZ:=K (oY i HT.out);rw [i] at j;have n:=K j;clear j t d r q i;go_wp2_with fail
    refine n.out.mono ?_;rintro e w5 ⟨rfl,r1,r2⟩;have B:=K r1;have E:=K (B3.out.trans r2);clear r1 r2 n;go_wp2_with fail
    have hz:=HZ.out;have hf:=HF.out;refine ⟨⟨k+8+b,f,S',by go_num,by omega,by omega,K (by omega),K hz.2,B,E,z⟩,by simp [Y9];omega⟩
  have hb:(decide ((l.length:Int) < (k:Int)+8+(b:Int)) || (C:Int) != (Q:Int))=YT:=by simp;omega
  have z:H (bn l=(a,k)):=K (by
   rw [<-t.out]
   exact gU (by rw [d.out,if_pos (.inr q)]))
  clear t d;go_wp2_with fail
  go_ret2
  rw [z.out];exact ⟨s,rfl,A.out,B3.out⟩
structure pE(p:Nat)(w w':QI):Prop where
 size:w.heap.size<=w'.heap.size
 block:∀k,k < w.heap.size->k≠p->w'.heap[k]? =w.heap[k]?
 still:df w w'
theorem pE.refl(p:Nat)(w:QI):pE p w w:=⟨QR _,λ_ _ _=>rfl,df.refl w⟩
theorem pE.trans{p:Nat}{a b c:QI}(h:pE p a b)(d:pE p b c):pE p a c:=⟨Rn h.size d.size,λk e f=>(d.block k (Nat.lt_of_lt_of_le e h.size) f).trans (h.block k e f),h.still.trans d.still⟩
theorem pE.below{p B:Nat}{a b:QI}(h:pE p a b)(c:B<=p)(e:B<=a.heap.size):Y6 B a b:=⟨h.still.1,h.still.2.1,h.still.2.2,h.size,λk d=>h.block k (by omega) (by omega)⟩
theorem pz{p j:Nat}{e:Za}{W b:QI}{A:Array QJ}{v:QJ}(h:W.heap[p]? =S (YU A 133 (0,0)))(a:(W.alloc (YU #[] e)).grownBy b (S W.heap.size)):b.heap[p]? =S (YU A 133 (0,0))/\(b.setCell ⟨p,j,N⟩ v).heap[p]? =S (YU (A.setIfInBounds j v) 133 (0,0))/\pE p W (b.setCell ⟨p,j,N⟩ v):=by
 have i:=dq h
 have c:∀k,k < W.heap.size->b.heap[k]? =W.heap[k]? :=λk d=>by
  rw [a.block k (by simp;omega) (λe=>by injection e with e;omega),((QQ W.heap.size W).alloc (QR _) _).block k d]
 have g:=(c p i).trans h;refine ⟨g,Ro b p j _ _ v g,?_,λk d f=>?_,?_⟩
 .have:=a.size;simp at this ⊢;omega
 .rw [TP b ⟨p,j,N⟩ k v f];exact c k d
 exact (show df W (W.alloc (YU #[] e)) from ⟨rfl,rfl,rfl⟩).trans ((show df _ b from ⟨a.os,a.tape,a.output⟩).trans ⟨rfl,rfl,rfl⟩)
theorem jD(c:UInt8):(65<=c.toNat/\c.toNat<=90/\(Lib.lowerB c).toNat=c.toNat+32)\/(¬(65<=c.toNat/\c.toNat<=90)/\Lib.lowerB c=c):=by
 unfold Lib.lowerB Lib.isUpperB
 by_cases h:65<=c.toNat/\c.toNat<=90
 .left
  have a:(decide ((65:UInt8)<=c) && decide (c<=90))=YT:=by
   simp only [Rk,decide_eq_true_eq,UInt8.le_iff_toNat_le,UInt8.reduceToNat];exact h
  rw [if_pos a,UInt8.toNat_add];simp only [UInt8.reduceToNat];omega
 right
 have a:¬(decide ((65:UInt8)<=c) && decide (c<=90))=YT:=by
  simp only [Rk,decide_eq_true_eq,UInt8.le_iff_toNat_le,UInt8.reduceToNat];exact h
 rw [if_neg a];exact ⟨h,rfl⟩
theorem MQ(c:UInt8):CF (Lib.lowerB c)=CF c:=by
 rcases jD c with ⟨b,d,a⟩ | ⟨_,h⟩
 .unfold CF qv dX;rw [a];rw [Ri];simp only [Bool.or_eq_true,Rk,decide_eq_true_eq];omega
 rw [h]
theorem wR(c d:UInt8)(j:d.toNat < 65):(Lib.lowerB c == d)=(c == d):=by
 rcases jD c with ⟨a,i,b⟩ | ⟨_,h⟩
 .have f:(Lib.lowerB c == d)=F:=by rw [beq_eq_false_iff_ne];intro e;rw [e] at b;omega
  have g:(c == d)=F:=by rw [beq_eq_false_iff_ne];intro e;rw [e] at a;omega
  rw [f,g]
 rw [h]
theorem Iv(c:UInt8):Lib.lowerB (Lib.lowerB c)=Lib.lowerB c:=by
 rcases jD c with ⟨a,b,d⟩ | ⟨_,h⟩
 .rcases jD (Lib.lowerB c) with ⟨g1,g2,_⟩ | ⟨_,g⟩
  .omega
  exact g
 rw [h,h]
theorem tM(l:QF):Lib.toLowerA (Lib.toLowerA l)=Lib.toLowerA l:=by
 unfold Lib.toLowerA;rw [Rg];apply List.map_congr_left;intro c _;exact Iv c
theorem wQ(l:QF):(Lib.toLowerA l).length=l.length:=by simp [Lib.toLowerA]
theorem tL(l:QF)(i:Nat)(d:UInt8)(a:d.toNat < 65)(_:d≠0):((Lib.toLowerA l).getD i 0 == d)=(l.getD i 0 == d):=by
 unfold Lib.toLowerA;rw [Q5,Q5,TV]
 cases l[i]? with
 | none=>rfl
 | some c=>exact wR c d a
theorem Iq(l:QF):jl (Lib.toLowerA l)=jl l:=by
 unfold jl;rw [wQ,tL l 0 45 (by decide) (by decide),tL l (l.length - 1) 45 (by decide) (by decide)]
 congr 1
 unfold Lib.toLowerA;rw [List.all_map]
 congr 1
 funext c
 simp only [Function.comp];rw [MQ,wR c 45 (by decide)]
theorem Lg(c:UInt8)(l:QF):bV c l≠[]:=by
 cases l with
 | nil=>simp [bV]
 | cons b r=>unfold bV;split <;> simp
theorem rL:∀l:QF,bV 46 (Lib.toLowerA l)=(bV 46 l).map Lib.toLowerA
 | []=>rfl
 | b::r=>by
  have c:=rL r;have e:Lib.toLowerA (b::r)=Lib.lowerB b::Lib.toLowerA r:=rfl
  have a:Lib.lowerB b=46 ↔ b=46:=by
   have:=wR b 46 (by decide);rw [Ri,beq_iff_eq,beq_iff_eq] at this;exact this
  rw [e];unfold bV
  by_cases h:b=46
  .rw [if_pos (a.2 h),if_pos h,c];rfl
  rw [if_neg (λx=>h (a.1 x)),if_neg h,c];obtain ⟨p,f,d⟩:=List.exists_cons_of_ne_nil (Lg 46 r);rw [d];rfl
theorem wj(l:QF):kS (Lib.toLowerA l)=kS l:=by
 unfold kS;rw [rL,wQ,List.all_map]
 congr 1
 .congr 2
  cases l <;> rfl
 congr 1
 funext p
 exact Iq p
theorem Mj{l x:QF}(c:∀a∈x,a≠64):aJ 64 (x++64::l)=(x,l,YT):=by
 induction x with
 | nil=>simp [aJ]
 | cons a x ih=>
  have d:=c a (List.mem_cons_self ..);have:=ih (λb e=>c b (List.mem_cons_of_mem _ e));simp only [List.cons_append];unfold aJ;rw [this];simp [d]
theorem sG{l:QF}(h:(bL l).2=YT):cm (b9 l)=YT:=by
 have g:b9 l=(dn l).1++64::(dn l).2.1:=by unfold b9;rw [h];rfl
 have d:(dn l).2.2=YT:=h
 have j:oc (aJ 64 l).1=YT/\fI (aJ 64 l).2.1=YT/\dn l=((aJ 64 l).1,Lib.toLowerA (aJ 64 l).2.1,YT):=by
  unfold dn at d ⊢
  split at d
  .rename_i b
   rw [Rk] at b;exact ⟨b.1,b.2,by rw [if_pos (by rw [b.1,b.2];rfl)]⟩
  cases d
 obtain ⟨c,m,i⟩:=j
 have f:∀a∈(aJ 64 l).1,a≠64:=by
  intro a n e;subst e;unfold oc at c;rw [Rk] at c;have:=Rb.1 c.2 64 n
  revert this
  decide
 have k:dn (b9 l)=((aJ 64 l).1,Lib.toLowerA (aJ 64 l).2.1,YT):=by
  rw [g,i];simp only;unfold dn;rw [Mj f];simp only;rw [c,kE,wj, <-kE,m,tM];rfl
 unfold cm bL;rw [k,g,i];simp
end Go.Proofs.YtponhohdpophlaaGreatDoor
